/- The walks of the reference's Bytes and FromBytes. -/
import Derived.Test.YtaaclhgnbdcaaaaRefSymTexts
namespace Go.Proofs.Ytaaclhgnbdcaaaa
open Go.RowKit
/-- Numbers in memory, and whether: the numbers that a text has, if it has. -/
def NumsIf (r : List Int × Bool) (w : World) (e : Ending) (w' : World) : Prop := ∃ v, e = .returned (.tuple #[v, .bool r.2]) ∧ Nums w' v r.1 ∧ Below w.heap.size w w'
namespace Sy
theorem map_more {l : List UInt8} {k : Nat} {c : UInt8} (h : l[k]? = some c) : (l.take (k + 1)).map sym = (l.take k).map sym ++ [sym c] := by
  rw [List.take_add_one, h, List.map_append]; rfl
theorem good_more {l : List UInt8} {k : Nat} {c : UInt8} (h : ∀ x ∈ l.take k, pathB x = true) (hc : l[k]? = some c) (hp : pathB c = true) : ∀ x ∈ l.take (k + 1), pathB x = true := by
  intro x hx
  rw [List.take_add_one, hc, List.mem_append] at hx
  rcases hx with hx | hx
  · exact h x hx
  · have hx : x = c := by simpa using hx
    rw [hx]; exact hp
/-- What one number gives. -/
def one (n : Int) : List UInt8 := if inB n = true then [byteN n.toNat] else []
theorem flat_more {l : List Int} {k : Nat} {n : Int} (h : l[k]? = some n) : (l.take (k + 1)).flatMap one = (l.take k).flatMap one ++ one n := by
  rw [List.take_add_one, h, List.flatMap_append]
  simp
theorem one_length (n : Int) : (one n).length ≤ 1 := by unfold one; split <;> simp
theorem flat_length_le : ∀ l : List Int, (l.flatMap one).length ≤ l.length
  | [] => by simp
  | n :: l => by
    rw [List.flatMap_cons, List.length_append, List.length_cons]
    have := one_length n
    have := flat_length_le l
    omega
theorem flat_all : ∀ {l : List Int}, (∀ n ∈ l, inB n = true) → l.flatMap one = l.map fun n => byteN n.toNat
  | [], _ => rfl
  | n :: l, h => by
    rw [List.flatMap_cons, List.map_cons, flat_all (fun m hm => h m (by simp [hm]))]
    unfold one
    rw [if_pos (h n (by simp))]
    rfl
theorem flat_few : ∀ {l : List Int} {n : Int}, n ∈ l → inB n = false → (l.flatMap one).length < l.length
  | [], _, h, _ => by simp at h
  | m :: l, n, h, hn => by
    rw [List.flatMap_cons, List.length_append, List.length_cons]
    rcases List.mem_cons.1 h with e | e
    · have : (one m).length = 0 := by unfold one; rw [if_neg (by rw [← e, hn]; simp)]; rfl
      have := flat_length_le l
      omega
    · have := flat_few e hn
      have := one_length m
      omega
theorem from_flat (l : List Int) : from' l = if (l.flatMap one).length = l.length then (l.flatMap one, true) else ([], false) := by
  by_cases h : ∀ n ∈ l, inB n = true
  · rw [from_yes h, flat_all h, if_pos (by rw [List.length_map])]
  · obtain ⟨n, hn⟩ := Classical.not_forall.1 h
    obtain ⟨hn, hi⟩ := Classical.not_imp.1 hn
    have hi : inB n = false := by cases hb : inB n with | true => exact absurd hb hi | false => rfl
    rw [from_no' hn hi, if_neg]
    have := flat_few hn hi
    omega
/-- What is found of it among the bytes below k. -/
def upTo (n : Int) (k : Nat) : List UInt8 := if inB n = true ∧ (byteN n.toNat).toNat < k then [byteN n.toNat] else []
theorem upTo_start (n : Int) : upTo n 33 = [] := by
  unfold upTo
  rw [if_neg]
  rintro ⟨h, h2⟩
  have := (pathB_iff.1 (byte_back h).1).1
  omega
theorem upTo_end (n : Int) : upTo n 127 = one n := by
  unfold upTo one
  by_cases h : inB n = true
  · have := (pathB_iff.1 (byte_back h).1).2.1
    rw [if_pos ⟨h, by omega⟩, if_pos h]
  · rw [if_neg (fun e => h e.1), if_neg h]
theorem upTo_hit {n : Int} {c : UInt8} (h : sym c = n) (h0 : 0 ≤ n) : upTo n c.toNat = [] ∧ upTo n (c.toNat + 1) = [c] := by
  have hp : pathB c = true := by
    cases hp : pathB c with
    | true => rfl
    | false => rw [sym_other hp] at h; omega
  obtain ⟨h1, h2⟩ := sym_back hp
  rw [h] at h1 h2
  unfold upTo
  rw [h2]
  exact ⟨if_neg (by omega), if_pos ⟨h1, by omega⟩⟩
theorem upTo_miss {n : Int} {c : UInt8} (h : ¬ (sym c = n ∧ 0 ≤ n)) : upTo n (c.toNat + 1) = upTo n c.toNat := by
  unfold upTo
  by_cases hi : inB n = true
  · have hne : byteN n.toNat ≠ c := by
      intro e
      have := byte_back hi
      rw [e] at this
      exact h ⟨this.2, (of_decide_eq_true hi).1⟩
    have hne : (byteN n.toNat).toNat ≠ c.toNat := fun e => hne (UInt8.toNat_inj.1 e)
    by_cases hl : (byteN n.toNat).toNat < c.toNat
    · rw [if_pos ⟨hi, by omega⟩, if_pos ⟨hi, hl⟩]
    · rw [if_neg (fun e => hl (by have := e.2; omega)), if_neg (fun e => hl e.2)]
  · rw [if_neg (fun e => hi e.1), if_neg (fun e => hi e.1)]
end Sy
theorem sym_wf (c : UInt8) : (Lit.int .i64 (Sy.sym c)).wf = true := WalkArith.wf_i64 (by have := Sy.sym_range c; omega)
set_option maxRecDepth 100000 in
set_option maxHeartbeats 1000000 in
theorem refBytes_calls (s : ByteArray) (w : World) (hs : s.size ≤ 1048576) :
    Calls Try.prog 19 #[.string s] w (NumsIf (Sy.bytes s.data.toList) w) := by
  have HPost : Hid (∀ v x ok w', Sy.bytes s.data.toList = (x, ok) → Nums w' v x → Below w.heap.size w w' → NumsIf (Sy.bytes s.data.toList) w (.returned (.tuple #[v, .bool ok])) w') := Lib.hid (fun v x ok w' h h1 h2 => ⟨v, by rw [h], by rw [h]; exact h1, h2⟩)
  generalize NumsIf (Sy.bytes s.data.toList) w = post at *
  go_enter Try.func19, Try.ntmps19
  go_wp2
  go_loopw [4, 5] (fun u i wr => ∃ k : Nat, k ≤ s.size ∧ i = .int .i64 k ∧ Hid (∀ x ∈ s.data.toList.take k, Sy.pathB x = true) ∧ wr.ownsRow w.heap.size 3 1 u k (intVs ((s.data.toList.take k).map Sy.sym)) ∧ Below w.heap.size w wr) (fun _ i _ => s.size - (intOf i).toNat)
  case atStart => exact ⟨0, Nat.zero_le _, rfl, Lib.hid (by simp), World.ownsRow_made w #[] 0 (Nat.le_refl _) (Nat.zero_le _) rfl, (Below.refl _ w).alloc (Nat.le_refl _) _⟩
  case round =>
    obtain ⟨k, hk, rfl, HG, hown, hb⟩ := hrel
    have HOWN := Lib.hid hown
    obtain ⟨A2, c2, hv, _⟩ := own_any hown
    subst hv
    clear hown
    by_cases hlt : k < s.size
    · have hc : s.data.toList[k]? = some s[k] := by rw [List.getElem?_eq_getElem (by rw [Oct.length_bytes]; exact hlt), Oct.getElem_bytes s k hlt]
      have HB := Lib.hid (fun W => byte_calls s[k] W)
      have HM := Lib.hid (Sy.map_more hc)
      cases hp : Sy.pathB s[k] with
      | true =>
        have hr := Sy.sym_range s[k]
        have h0 : ¬ Sy.sym s[k] < 0 := by rw [Sy.symK_at hp]; omega
        have HG2 := Lib.hid (Sy.good_more HG.out hc hp)
        clear hc hp
        generalize Sy.sym s[k] = z at *
        have hbs := hb.size
        go_wp2_with (first
          | (go_at_call 32; refine (HB.out _).mono ?_; rintro e w' ⟨rfl, rfl⟩)
          | (at_builtin; refine wpList_append_one rfl _ _ 36 rfl w.heap.size 3 (.int .i64 0) 8 Try.underlying36 infoNum rfl _ k _ rfl HOWN.out rfl rfl (by omega) (by omega) hbs ?_; intro v' w2 hown2 hb2 _ _))
        go_roundw
        case rel => exact ⟨k + 1, by omega, by go_num, HG2, by rw [HM.out, intVs_snoc]; exact hown2, hb.trans hb2⟩
        case measure => simp [intOf]; omega
      | false =>
        have hz := Sy.sym_other hp
        have HN := Lib.hid (Sy.bytes_no hc hp)
        rw [hz] at HB
        clear hc hp hz HM
        go_wp2_with (go_at_call 32; refine (HB.out _).mono ?_; rintro e w' ⟨rfl, rfl⟩)
        exact HPost.out _ _ _ _ HN.out (nums_nil _) hb
    · have HN : Hid (Sy.bytes s.data.toList = ((s.data.toList.take k).map Sy.sym, true)) := Lib.hid (by
        have := HG.out
        rw [Oct.take_all s k (by omega)] at this ⊢
        exact Sy.bytes_yes this)
      go_wp2
      exact HPost.out _ _ _ _ HN.out (nums_own (HOWN.out)) hb
set_option maxRecDepth 100000 in
set_option maxHeartbeats 2000000 in
theorem refFrom_calls (v : Value) (l : List Int) (w : World) (h : Nums w v l) (hn : l.length ≤ 1048576) :
    Calls Try.prog 21 #[v] w (NewTextIf w.heap.size (Sy.from' l).1 (Sy.from' l).2 w) := by
  obtain ⟨A, c, rfl⟩ := h.slice
  have HPost : Hid (∀ (x : List UInt8) (t : ByteArray) ok w', Sy.from' l = (x, ok) → t = ⟨x.toArray⟩ → Below w.heap.size w w' → NewTextIf w.heap.size (Sy.from' l).1 (Sy.from' l).2 w (.returned (.tuple #[.string t, .bool ok])) w') := Lib.hid (fun x t ok w' h h1 h2 => by rw [h, h1]; exact ⟨rfl, h2⟩)
  generalize NewTextIf w.heap.size (Sy.from' l).1 (Sy.from' l).2 w = post at *
  have HFR := Lib.hid (Sy.from_flat l)
  obtain ⟨n, hn'⟩ : ∃ n, l.length = n := ⟨_, rfl⟩
  rw [hn'] at h hn HFR ⊢
  have HN := Lib.hid hn'
  have HT := Lib.hid h
  clear hn' h
  go_enter Try.func21, Try.ntmps21
  go_wp2
  go_loopw [4, 11] (fun u i wr => ∃ (k : Nat) (o : List UInt8) (m : Nat), k ≤ n ∧ i = .int .i64 k ∧ Hid (o = (l.take k).flatMap Sy.one) ∧ Hid (o.length = m) ∧ m ≤ k ∧ wr.ownsRow w.heap.size 5 1 u m (o.map byteV) ∧ Below w.heap.size w wr) (fun _ i _ => n - (intOf i).toNat)
  case atStart => exact ⟨0, [], 0, Nat.zero_le _, rfl, Lib.hid rfl, Lib.hid rfl, Nat.le_refl _, World.ownsRow_made w #[] 0 (Nat.le_refl _) (Nat.zero_le _) rfl, (Below.refl _ w).alloc (Nat.le_refl _) _⟩
  case round =>
    obtain ⟨k, o, m, hk, rfl, HO, HM, hmk, hown, hb⟩ := hrel
    have HOWN := Lib.hid hown
    obtain ⟨A2, c2, hv, _⟩ := own_any hown
    subst hv
    clear hown
    by_cases hlt : k < n
    · obtain ⟨x, hx⟩ : ∃ x, l[k]? = some x := ⟨_, List.getElem?_eq_getElem (by rw [HN.out]; exact hlt)⟩
      obtain ⟨g, off, rfl, hcell⟩ := (HT.out.later hb (Nat.le_refl _)).at hx
      have HF := Lib.hid (Sy.flat_more hx)
      have hdk : decide ((k : Int) < (n : Int)) = true := by rw [decide_eq_true_eq]; omega
      rw [← HO.out] at HF
      clear hx HO
      go_wp2
      go_loopw [4, 7] (fun u i w2 => ∃ (q : Nat) (p : List UInt8) (r : Nat), 33 ≤ q ∧ q ≤ 127 ∧ i = .int .u8 q ∧ Hid (p = o ++ Sy.upTo x q) ∧ Hid (p.length = r) ∧ r ≤ k + 1 ∧ w2.ownsRow w.heap.size 5 1 u r (p.map byteV) ∧ Below w.heap.size w w2) (fun _ i _ => 127 - (intOf i).toNat)
      case atStart => exact ⟨33, o, m, by omega, by omega, rfl, Lib.hid (by rw [Sy.upTo_start, List.append_nil]), HM, by omega, HOWN.out, hb⟩
      case round =>
        obtain ⟨q, p, r, hq0, hq1, rfl, HP, HR, hr, hown, hb2⟩ := hrel
        have HOWN2 := Lib.hid hown
        obtain ⟨A3, c3, hv, _⟩ := own_any hown
        subst hv
        clear hown
        by_cases hl : q < 127
        · obtain ⟨b, rfl⟩ := byte_is (show q < 256 by omega)
          have HB := Lib.hid (fun W => byte_calls b W)
          have hbs := hb2.size
          by_cases he : Sy.sym b = x
          · have e1 : (Sy.sym b == x) = true := by rw [beq_iff_eq]; exact he
            by_cases h0 : 0 ≤ x
            · have e2 : decide (0 ≤ x) = true := decide_eq_true h0
              have HU := Lib.hid (Sy.upTo_hit he h0)
              have hp2 : Hid (p ++ [b] = o ++ Sy.upTo x (b.toNat + 1)) := Lib.hid (by rw [HP.out, HU.out.1, HU.out.2, List.append_nil])
              have hrk : r ≤ k := by
                have h1 := HR.out
                rw [HP.out, HU.out.1, List.append_nil, HM.out] at h1
                omega
              clear he h0 HU
              go_wp2_with (first
                | (go_at_call 32; refine (HB.out _).mono ?_; rintro e w' ⟨rfl, rfl⟩)
                | (at_builtin; refine wpList_append_one rfl _ _ 55 rfl w.heap.size 5 (.int .u8 0) 1 Try.underlying55 infoU8 rfl _ r _ rfl HOWN2.out rfl rfl (by omega) (by omega) hbs ?_; intro v' w2 hown2 hb3 _ _))
              go_roundw
              case rel => exact ⟨b.toNat + 1, p ++ [b], r + 1, by omega, by omega, by go_num, hp2, Lib.hid (by rw [List.length_append, HR.out]; rfl), by omega, by rw [bytesV_snoc]; exact hown2, hb2.trans hb3⟩
              case measure => simp [intOf]; omega
            · have e2 : decide (0 ≤ x) = false := decide_eq_false h0
              have hp2 : Hid (p = o ++ Sy.upTo x (b.toNat + 1)) := Lib.hid (by rw [HP.out, Sy.upTo_miss (fun e => h0 e.2)])
              clear he
              go_wp2_with (go_at_call 32; refine (HB.out _).mono ?_; rintro e w' ⟨rfl, rfl⟩)
              go_roundw
              case rel => exact ⟨b.toNat + 1, p, r, by omega, by omega, by go_num, hp2, HR, by omega, HOWN2.out, hb2⟩
              case measure => simp [intOf]; omega
          · have e1 : (Sy.sym b == x) = false := by rw [beq_eq_false_iff_ne]; exact he
            have hp2 : Hid (p = o ++ Sy.upTo x (b.toNat + 1)) := Lib.hid (by rw [HP.out, Sy.upTo_miss (fun e => he e.1)])
            clear he
            go_wp2_with (go_at_call 32; refine (HB.out _).mono ?_; rintro e w' ⟨rfl, rfl⟩)
            go_roundw
            case rel => exact ⟨b.toNat + 1, p, r, by omega, by omega, by go_num, hp2, HR, by omega, HOWN2.out, hb2⟩
            case measure => simp [intOf]; omega
        · have hq : q = 127 := by omega
          have HE : Hid (p = (l.take (k + 1)).flatMap Sy.one) := Lib.hid (by rw [HP.out, HF.out, hq, Sy.upTo_end])
          clear hq
          go_wp2
          go_roundw
          case rel => exact ⟨k + 1, p, r, by omega, by go_num, HE, HR, by omega, HOWN2.out, hb2⟩
          case measure => simp [intOf]; omega
    · have HOE : Hid (o = l.flatMap Sy.one) := Lib.hid (by
        have := HO.out
        rw [List.take_of_length_le (by have := HN.out; omega)] at this
        exact this)
      have hfr := HFR.out
      rw [← HOE.out, HM.out] at hfr
      by_cases hmn : m = n
      · have e1 : ((m : Int) != (n : Int)) = false := by rw [hmn]; simp
        rw [if_pos hmn] at hfr
        have HZ := Lib.hid hfr
        have hconv := own_string_any HOWN.out
        obtain ⟨A3, c3, hv, hconv⟩ := hconv
        obtain ⟨rfl, _, rfl⟩ := Value.slice.inj hv
        clear hfr hmn hv
        go_wp2
        exact HPost.out _ _ _ _ HZ.out rfl hb
      · have e1 : ((m : Int) != (n : Int)) = true := by rw [bne_iff_ne]; omega
        rw [if_neg hmn] at hfr
        have HZ := Lib.hid hfr
        clear hfr hmn
        go_wp2
        exact HPost.out _ _ _ _ HZ.out rfl hb
end Go.Proofs.Ytaaclhgnbdcaaaa
