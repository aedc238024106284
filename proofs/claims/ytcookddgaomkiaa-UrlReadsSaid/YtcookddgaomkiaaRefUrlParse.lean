/- The walk of the reference's Parse. -/
import Derived.Test.YtcookddgaomkiaaRefUrlParts
import Derived.Test.YtcookddgaomkiaaRefHostParse
import Derived.Test.YtcookddgaomkiaaOctets
import Derived.Test.YtcookddgaomkiaaUrlParse
import Derived.Test.YtcookddgaomkiaaUrlVar
import Derived.Test.YtcookddgaomkiaaCells
import Derived.Deep.DeepCutAuto
namespace Go.Proofs.Ytcookddgaomkiaa
open Go.RowKit
theorem build_one {P : Program} {ops : Array Oper} {rest : List Oper} {o : Oper} {a : Act} {w : World} {Q : Exit → Act → World → Prop} (hg : o.guard = none) (t : TypeId) (i : Nat) (x : Operand) (ho : o.op = .build t #[(i, x)]) (u : Value) (hx : a.eval x = u) (cells : Array Value)
    (hc : P.built t [(i, u)] = some cells) (h : wpList P ops Q rest (a.put o.dst (.agg cells)) w) : wpList P ops Q (o :: rest) a w := by
  have e : ((#[(i, x)] : Array (Nat × Operand)).map fun (i, x) => (i, a.eval x)).toList = [(i, u)] := by simp [hx]
  refine wpList_build hg t #[(i, x)] ho ?_ ?_
  · rw [e, hc]; rfl
  · rw [e, hc]; exact h
namespace Ur
def first (b : Bool) : URL := ⟨b, Hst.zero, usual b, []⟩
theorem scheme_7 {s : ByteArray} (h : (s.data.toList.take 7).map Oct.low = http) : scheme s.data.toList = some (false, (s.extract 7 s.size).data.toList) := by
  unfold scheme
  rw [if_pos h, extract_drop]
theorem scheme_8 {s : ByteArray} (h7 : (s.data.toList.take 7).map Oct.low ≠ http) (h : (s.data.toList.take 8).map Oct.low = https) : scheme s.data.toList = some (true, (s.extract 8 s.size).data.toList) := by
  unfold scheme
  rw [if_neg h7, if_pos h, extract_drop]
theorem scheme_not {s : ByteArray} (h7 : (s.data.toList.take 7).map Oct.low ≠ http) (h8 : (s.data.toList.take 8).map Oct.low ≠ https) : scheme s.data.toList = none := by
  unfold scheme
  rw [if_neg h7, if_neg h8]
theorem short_7 {s : ByteArray} (h : ¬ 7 ≤ s.size) : (s.data.toList.take 7).map Oct.low ≠ http := by
  intro e
  have := congrArg List.length e
  rw [List.length_map, List.length_take, Oct.length_bytes] at this
  have e7 : http.length = 7 := rfl
  omega
theorem short_8 {s : ByteArray} (h : ¬ 8 ≤ s.size) : (s.data.toList.take 8).map Oct.low ≠ https := by
  intro e
  have := congrArg List.length e
  rw [List.length_map, List.length_take, Oct.length_bytes] at this
  have e8 : https.length = 8 := rfl
  omega
end Ur
/-- What is made small of the first bytes, held against a text. -/
theorem low_calls (s : ByteArray) (k : Nat) (l : List UInt8) (hs : s.size ≤ 3000) : ∃ x : ByteArray, (∀ W, Calls Try.prog 18 #[.string (s.extract 0 k)] W fun e w' => e = .returned (.string x) ∧ Below W.heap.size W w') ∧ (x.toList == l) = decide ((s.data.toList.take k).map Oct.low = l) := by
  refine ⟨⟨((s.data.toList.take k).map Oct.low).toArray⟩, fun W => ?_, ?_⟩
  · have h := refLower_calls (s.extract 0 k) W (by rw [ByteArray.size_extract]; omega)
    have e : (s.extract 0 k).data.toList = s.data.toList.take k := by rw [extract_take]
    rw [e] at h
    exact h
  · rw [Oct.bytes_data, Bool.eq_iff_iff]
    simp
set_option maxRecDepth 100000 in
set_option maxHeartbeats 8000000 in
theorem refUrlParse_calls (s : ByteArray) (w : World) (hs : s.size ≤ 3000) :
    Calls Try.prog 9 #[.string s] w (NewURL (Ur.parse s.data.toList) w) := by
  have z0 := zeroURL
  have z1 := zeroHost
  have HZ := Lib.hid (show (urlA Ur.zero).size = 21 from rfl)
  have HB0 : Hid (Try.prog.built 27 [(2, .int .i64 80)] = some (urlA (Ur.first false))) := Lib.hid (by kernel_rfl)
  have HF0 := Lib.hid (show (urlA (Ur.first false)).size = 21 from rfl)
  obtain ⟨x7, HL7, hx7⟩ := low_calls s 7 [104, 116, 116, 112, 58, 47, 47] hs
  obtain ⟨x8, HL8, hx8⟩ := low_calls s 8 [104, 116, 116, 112, 115, 58, 47, 47] hs
  have HL7 := Lib.hid HL7
  have HL8 := Lib.hid HL8
  have hl := Oct.length_bytes s
  have HPost : Hid (∀ o w', Ur.parse s.data.toList = o → Below w.heap.size w w' → NewURL (Ur.parse s.data.toList) w (.returned (.tuple #[.agg (urlA o.2), .int .i64 o.1])) w') := Lib.hid (fun o w' h hb => by subst h; exact ⟨rfl, hb⟩)
  generalize NewURL (Ur.parse s.data.toList) w = post at *
  obtain ⟨b7, hb7⟩ : ∃ b, decide ((s.data.toList.take 7).map Oct.low = [104, 116, 116, 112, 58, 47, 47]) = b := ⟨_, rfl⟩
  obtain ⟨b8, hb8⟩ : ∃ b, decide ((s.data.toList.take 8).map Oct.low = [104, 116, 116, 112, 115, 58, 47, 47]) = b := ⟨_, rfl⟩
  rw [hb7] at hx7
  rw [hb8] at hx8
  have HB7 := Lib.hid hb7
  have HB8 := Lib.hid hb8
  clear hb7 hb8
  have hne : w.heap.size ≠ w.heap.size + 1 := by omega
  have hN : (w.alloc (.cells (urlA Ur.zero) 27)).heap.size = w.heap.size + 1 := by simp
  have K0 : KeptU w.heap.size (w.heap.size + 1) Ur.zero w ((w.alloc (.cells (urlA Ur.zero) 27)).alloc (.cells (urlA Ur.zero) 27)) :=
    ⟨(Row.new w 27 (urlA Ur.zero)).alloc _, by have := Row.new (w.alloc (.cells (urlA Ur.zero) 27)) 27 (urlA Ur.zero); rw [hN] at this; exact this, hne, by omega,
      ((Below.refl w.heap.size w).alloc (Nat.le_refl _) _).alloc (by omega) _⟩
  have HV0 := Lib.hid K0.var
  have K1 := K0.whole (Ur.first false)
  clear K0
  go_enter Try.func9, Try.ntmps9
  go_upto_region 3 with (first
    | (refine at_slot 14 rfl ?_; refine build_one rfl 27 2 _ rfl _ rfl (urlA (Ur.first false)) HB0.out ?_)
    | (refine wpList_store_row rfl 27 _ _ rfl (w.heap.size + 1) (urlA (Ur.first false)) rfl rfl 27 _ HV0.out (by rw [HF0.out]; exact infoURL) rfl (urlA_one _) ?_))
  generalize ((w.alloc (.cells (urlA Ur.zero) 27)).alloc (.cells (urlA Ur.zero) 27)).setRow (w.heap.size + 1) (urlA (Ur.first false)) = w1 at *
  clear HV0
  go_cut [23] (fun s23 wx => s23 = .bool b7 ∧ KeptU w.heap.size (w.heap.size + 1) (Ur.first false) w wx)
  case first =>
    by_cases h7 : 7 ≤ s.size
    · have h7i : (7 : Int) ≤ (s.size : Int) := by omega
      go_wp2_with (go_at_call 18; refine (HL7.out _).mono ?_; rintro e v2 ⟨rfl, d2⟩)
      go_meet
      exact ⟨rfl, K1.on d2⟩
    · have h7i : ¬ (7 : Int) ≤ (s.size : Int) := by omega
      have hb : b7 = false := by rw [← HB7.out]; exact decide_eq_false (Ur.short_7 h7)
      go_wp2
      go_meet
      exact ⟨by rw [hb], K1⟩
  case rest =>
  obtain ⟨rfl, K2⟩ := hcut
  clear K1
  go_upto_if 23 with fail
  go_cut [5] (fun s5 wx => ∃ (b : Bool) (r : ByteArray), s5 = .string r ∧ Hid (Ur.scheme s.data.toList = some (b, r.data.toList)) ∧ KeptU w.heap.size (w.heap.size + 1) (Ur.first b) w wx)
  case first =>
    cases b7 with
    | true =>
      have h7 : 7 ≤ s.size := Nat.le_of_not_lt fun k => by
        have := Ur.short_7 (s := s) (by omega)
        exact this (of_decide_eq_true HB7.out)
      have h7i : (7 : Int) ≤ (s.size : Int) := by omega
      go_wp2
      go_meet
      exact ⟨false, _, rfl, Lib.hid (Ur.scheme_7 (of_decide_eq_true HB7.out)), K2⟩
    | false =>
      have n7 := Lib.hid (of_decide_eq_false HB7.out)
      cases b8 with
      | true =>
        have h8 : 8 ≤ s.size := Nat.le_of_not_lt fun k => by
          have := Ur.short_8 (s := s) (by omega)
          exact this (of_decide_eq_true HB8.out)
        have h8i : (8 : Int) ≤ (s.size : Int) := by omega
        go_wp2_with fail
        refine (HL8.out _).mono ?_
        rintro e v2 ⟨rfl, d2⟩
        have K3 := K2.on d2
        have c0 := K3.cell 0
        have f0 := K3.free 0
        have c19 := K3.cell 19
        have f19 := K3.free 19
        rw [urlA_secure] at c0
        rw [urlA_port _ rfl] at c19
        have K4 := (K3.put (u' := { Ur.first false with secure := true }) (urlA_setSecure _ true)).put (u' := Ur.first true) (urlA_setPort _ rfl 443)
        clear K2 d2
        go_wp2
        go_meet
        exact ⟨true, _, rfl, Lib.hid (Ur.scheme_8 n7.out (of_decide_eq_true HB8.out)), K4⟩
      | false =>
        have n8 := Lib.hid (of_decide_eq_false HB8.out)
        have HN : Hid (Ur.parse s.data.toList = (41, Ur.zero)) := Lib.hid (Ur.parse_none (Ur.scheme_not n7.out n8.out)).1
        by_cases h8 : 8 ≤ s.size
        · have h8i : (8 : Int) ≤ (s.size : Int) := by omega
          go_wp2_with fail
          refine (HL8.out _).mono ?_
          rintro e v2 ⟨rfl, d2⟩
          have Kx := K2.on d2
          go_wp2_with (first
            | (refine wpList_store_row rfl 27 _ _ rfl w.heap.size (urlA Ur.zero) rfl rfl 27 _ Kx.res (by rw [HZ.out]; exact infoURL) rfl (urlA_one _) ?_))
          exact bodyPost_ret (v := .tuple #[.agg (urlA Ur.zero), .int .i64 41]) (results_cell_two rfl _ _ w.heap.size _ _ _ rfl _ rfl (Kx.res.whole _) Try.underlying27 rfl (by rw [HZ.out]; exact infoURL)) rfl (HPost.out (41, Ur.zero) _ HN.out (below_setRow Kx.below (Nat.le_refl _) _))
        · have h8i : ¬ (8 : Int) ≤ (s.size : Int) := by omega
          have Kx := K2
          go_wp2_with (first
            | (refine wpList_store_row rfl 27 _ _ rfl w.heap.size (urlA Ur.zero) rfl rfl 27 _ Kx.res (by rw [HZ.out]; exact infoURL) rfl (urlA_one _) ?_))
          exact bodyPost_ret (v := .tuple #[.agg (urlA Ur.zero), .int .i64 41]) (results_cell_two rfl _ _ w.heap.size _ _ _ rfl _ rfl (Kx.res.whole _) Try.underlying27 rfl (by rw [HZ.out]; exact infoURL)) rfl (HPost.out (41, Ur.zero) _ HN.out (below_setRow Kx.below (Nat.le_refl _) _))
  case rest =>
  obtain ⟨b, r, rfl, HS, K3⟩ := hcut
  obtain ⟨p1, _, _, _⟩ := Ur.parse_some HS.out
  have hrl := Ur.scheme_length HS.out
  rw [hl, Oct.length_bytes] at hrl
  have HP := Lib.hid p1
  clear K2 HL7 HL8 hx7 hx8 HB7 HB8 hl HB0 HF0 p1 HS hN
  obtain ⟨rest, hrest⟩ : ∃ l, r.data.toList = l := ⟨_, rfl⟩
  rw [hrest] at HP
  have HF1 := fun W => find_calls r ⟨#[47, 63, 35]⟩ W (by unfold maxLen; omega) (by show 3 ≤ 1000; omega)
  have e1 : (⟨#[47, 63, 35]⟩ : ByteArray).data.toList = [47, 63, 35] := rfl
  rw [e1, hrest] at HF1
  have hn1 := Ur.find_le rest [47, 63, 35]
  rw [← hrest, Oct.length_bytes, hrest] at hn1
  have hpl0 : (r.extract 0 (Ur.find rest [47, 63, 35])).data.toList = Ur.place rest := by rw [extract_take, hrest]; rfl
  have hbh0 : (r.extract (Ur.find rest [47, 63, 35]) r.size).data.toList = Ur.behind rest := by rw [extract_drop, hrest]; rfl
  generalize Ur.find rest [47, 63, 35] = n1 at *
  obtain ⟨pl, hpl⟩ : ∃ x, r.extract 0 n1 = x := ⟨_, rfl⟩
  obtain ⟨bh, hbh⟩ : ∃ x, r.extract n1 r.size = x := ⟨_, rfl⟩
  rw [hpl] at hpl0
  rw [hbh] at hbh0
  have hn1i : (n1 : Int) ≤ (r.size : Int) := by omega
  have hpls : pl.size ≤ 3000 := by rw [← hpl, ByteArray.size_extract]; omega
  have hbhs : bh.size ≤ 3000 := by rw [← hbh, ByteArray.size_extract]; omega
  obtain ⟨P, hP⟩ : ∃ l, Ur.place rest = l := ⟨_, rfl⟩
  obtain ⟨path, hpath⟩ : ∃ l, Ur.pathOf rest = l := ⟨_, rfl⟩
  rw [hP, hpath] at HP
  rw [hP] at hpl0
  have HF2 := fun W => find_calls pl ⟨#[58]⟩ W (by unfold maxLen; omega) (by show 1 ≤ 1000; omega)
  have e2 : (⟨#[58]⟩ : ByteArray).data.toList = [58] := rfl
  rw [e2, hpl0] at HF2
  have HF3 := fun W => find_calls pl ⟨#[93]⟩ W (by unfold maxLen; omega) (by show 1 ≤ 1000; omega)
  have e3 : (⟨#[93]⟩ : ByteArray).data.toList = [93] := rfl
  rw [e3, hpl0] at HF3
  have hPl : P.length = pl.size := by rw [← hpl0, Oct.length_bytes]
  have hend : Ur.endOf P ≤ pl.size := by
    unfold Ur.endOf
    have h1 := Ur.find_le P [58]
    split
    · omega
    · omega
  have HEnd1 : Hid (P.head? = some 91 → Ur.endOf P = min (Ur.find P [93] + 1) pl.size) := Lib.hid (fun h => by unfold Ur.endOf; rw [if_pos h, hPl])
  have HEnd2 : Hid (P.head? ≠ some 91 → Ur.endOf P = Ur.find P [58]) := Lib.hid (fun h => Ur.endOf_plain h)
  have hn3 := Ur.find_le P [93]
  rw [hPl] at hn3
  have hhead : ∀ h : 0 < pl.size, P.head? = some 91 ↔ ((pl[0].toNat : Int) == 91) = true := fun h => by
    rw [← hpl0, Oct.head_bytes pl h, beq_iff_eq, Option.some.injEq]
    exact ⟨fun e => by rw [e]; rfl, fun e => Oct.eq_of_toNat (by show _ = 91; omega)⟩
  have hnone : ¬ 0 < pl.size → P.head? ≠ some 91 := fun h e => by
    have : P = [] := by rw [← hpl0, Oct.nil_size]; omega
    rw [this] at e; cases e
  obtain ⟨q, hq⟩ : ∃ q, decide (P.head? = some 91) = q := ⟨_, rfl⟩
  have HHead := Lib.hid hhead
  have HNone := Lib.hid hnone
  have HQ := Lib.hid hq
  have hex : ∀ e : Nat, (pl.extract 0 e).data.toList = P.take e ∧ (pl.extract e pl.size).data.toList = P.drop e := fun e => by
    rw [extract_take, extract_drop, hpl0]; exact ⟨rfl, rfl⟩
  have HEx := Lib.hid hex
  have HF1 := Lib.hid HF1
  have HF2 := Lib.hid HF2
  have HF3 := Lib.hid HF3
  have HBh := Lib.hid hbh0
  have HPath := Lib.hid hpath
  clear hrest e1 e2 e3 hP hpl0 hbh0 hhead hnone hq hex hpath hrl
  generalize Ur.find P [93] = n3 at *
  generalize Ur.find P [58] = n2 at *
  -- the host's end
  go_upto_region 13 with (first
    | (go_at_call 19; (with_reducible refine (HF1.out _).mono ?_); rintro e v1 ⟨rfl, d1⟩; have K4 := K3.on (d1.below _))
    | (go_at_call 19; (with_reducible refine (HF2.out _).mono ?_); rintro e v2 ⟨rfl, d2⟩; have K5 := K4.on (d2.below _)))
  clear K3 K4 d1 d2
  go_cut [54] (fun s54 wx => s54 = .bool q ∧ KeptU w.heap.size (w.heap.size + 1) (Ur.first b) w wx)
  case first =>
    by_cases hp : 0 < pl.size
    · have hpi : (0 : Int) < (pl.size : Int) := by omega
      have hq : ((pl[0].toNat : Int) == 91) = q := by
        rw [← HQ.out, Bool.eq_iff_iff, decide_eq_true_eq, HHead.out hp]
      go_wp2
      go_meet
      exact ⟨rfl, K5⟩
    · have hpi : ¬ (0 : Int) < (pl.size : Int) := by omega
      have hq : q = false := by rw [← HQ.out]; exact decide_eq_false (HNone.out hp)
      go_wp2
      go_meet
      exact ⟨by rw [hq], K5⟩
  case rest =>
  obtain ⟨rfl, K6⟩ := hcut
  clear K5
  go_upto_if 54 with fail
  go_cut [8] (fun s8 wx => s8 = .int .i64 ((Ur.endOf P : Nat) : Int) ∧ KeptU w.heap.size (w.heap.size + 1) (Ur.first b) w wx)
  case first =>
    cases q with
    | true =>
      have he := HEnd1.out (of_decide_eq_true HQ.out)
      go_wp2_with fail
      refine (HF3.out _).mono ?_
      rintro e v3 ⟨rfl, d3⟩
      have K7 := K6.on (d3.below _)
      go_wp2
      all_goals
        go_meet
        exact ⟨val_int (by rw [he]; omega), K7⟩
    | false =>
      have he := HEnd2.out (of_decide_eq_false HQ.out)
      go_wp2
      go_meet
      exact ⟨val_int (by rw [he]), K6⟩
  case rest =>
  obtain ⟨rfl, K7⟩ := hcut
  clear K6 HEnd1 HEnd2 HHead HNone HQ HF1 HF2 HF3
  have G1 := fun h => Ur.go_host (b := b) (pl := P) (p := path) h
  have G2 := Ur.go_stray (b := b) (pl := P) (p := path)
  have G3 := fun x => Ur.go_port (b := b) (pl := P) (p := path) (x := x)
  have G4 := fun x => Ur.go_yes (b := b) (pl := P) (p := path) (x := x)
  have G5 := fun x => Ur.go_no (b := b) (pl := P) (p := path) (x := x)
  obtain ⟨x1, x2⟩ := HEx.out (Ur.endOf P)
  have hx := Hst.parse_length (P.take (Ur.endOf P))
  generalize Ur.endOf P = k at *
  have hki : (k : Int) ≤ (pl.size : Int) := by omega
  obtain ⟨nm, hnm⟩ : ∃ x, pl.extract 0 k = x := ⟨_, rfl⟩
  obtain ⟨b2, hb2⟩ : ∃ x, pl.extract k pl.size = x := ⟨_, rfl⟩
  rw [hnm] at x1
  rw [hb2] at x2
  have hnms : nm.size ≤ 3000 := by rw [← hnm, ByteArray.size_extract]; omega
  have hb2s : b2.size ≤ 3000 := by rw [← hb2, ByteArray.size_extract]; omega
  have H4 := fun W => (refParse_calls nm W hnms).mono fun e w' h => newHost_is h
  rw [x1] at H4
  rw [← x2] at G2 G3 G4 G5
  clear x1 x2 HEx
  generalize Ur.go b P path = res at *
  cases ho : Hst.parse (P.take k) with
  | none =>
    rw [ho] at H4
    have e1 : Hst.host none = Hst.zero := rfl
    have e3 : Hst.code none = 31 := rfl
    rw [e1, e3] at H4
    have H4 := Lib.hid H4
    have HN : Hid (Ur.parse s.data.toList = (31, Ur.zero)) := Lib.hid (by rw [HP.out]; exact G1 ho)
    have HX := Lib.hid (show (hostA Hst.zero).size = 18 from rfl)
    clear G1 G2 G3 G4 G5 ho hx e1 e3
    go_wp2_with fail
    refine (H4.out _).mono ?_
    rintro e v4 ⟨rfl, d4⟩
    have K8 := K7.on d4
    obtain ⟨T, _, _, _⟩ := lay_row 25 (hostA Hst.zero) (hostA Hst.zero) K8.below K8.below.size
    have K9 := K8.lay 25 (hostA Hst.zero) (hostA Hst.zero)
    clear K7 K8 d4
    go_wp2_with (first
      | (refine wpList_store_row rfl 25 _ _ rfl v4.heap.size (hostA Hst.zero) rfl rfl 25 _ T (by rw [HX.out]; exact infoHost) rfl (hostA_one _) ?_)
      | (refine wpList_store_row rfl 27 _ _ rfl w.heap.size (urlA Ur.zero) rfl rfl 27 _ K9.res (by rw [HZ.out]; exact infoURL) rfl (urlA_one _) ?_))
    exact bodyPost_ret (v := .tuple #[.agg (urlA Ur.zero), .int .i64 31]) (results_cell_two rfl _ _ w.heap.size _ _ _ rfl _ rfl (K9.res.whole _) Try.underlying27 rfl (by rw [HZ.out]; exact infoURL)) rfl (HPost.out _ _ HN.out (below_setRow K9.below (Nat.le_refl _) _))
  | some h =>
    rw [ho] at H4 hx
    have e1 : Hst.host (some h) = h := rfl
    have e3 : Hst.code (some h) = 0 := rfl
    rw [e1, e3] at H4
    rw [e1] at hx
    have H4 := Lib.hid H4
    have G3 := Lib.hid (G3 h ho)
    have G4 := Lib.hid (G4 h ho)
    have G5 := Lib.hid (G5 h ho)
    have G2 := Lib.hid G2
    have HX := Lib.hid (hostA_size h hx)
    have HX1 := Lib.hid (hostA_one h)
    have HSet := Lib.hid (urlA_setHost (Ur.first b) rfl h hx)
    have HUS := Lib.hid (show (urlA (Ur.first b)).size = 21 from rfl)
    clear G1 ho e1 e3
    generalize hX : hostA h = X at *
    go_wp2_with fail
    refine (H4.out _).mono ?_
    rintro e v4 ⟨rfl, d4⟩
    have K8 := K7.on d4
    obtain ⟨T, U, _, _⟩ := lay_row 25 (hostA Hst.zero) X K8.below K8.below.size
    have K9 := K8.lay 25 (hostA Hst.zero) X
    clear K7 K8 d4
    go_upto_region 17 with (first
      | (refine wpList_store_row rfl 25 _ _ rfl v4.heap.size X rfl rfl 25 _ T (by rw [HX.out]; exact infoHost) (by rw [HX.out]; rfl) HX1.out ?_))
    generalize (v4.alloc (.cells (hostA Hst.zero) 25)).setRow v4.heap.size X = v5 at *
    generalize v4.heap.size = g4 at *
    clear T
    obtain ⟨st, hst⟩ : ∃ st, Ur.strayB b2.data.toList = st := ⟨_, rfl⟩
    rw [hst] at G2 G3 G4 G5
    have hst1 := hst
    rw [Ur.stray_eq] at hst1
    have HST := Lib.hid hst1
    have HB2 : Hid (∀ h : 0 < b2.size, (b2.data.toList.head? = some 58 ↔ ((b2[0].toNat : Int) != 58) = false)) := Lib.hid (fun h => by
      rw [Oct.head_bytes b2 h, Option.some.injEq, bne_eq_false_iff_eq]
      exact ⟨fun e => by rw [e]; rfl, fun e => Oct.eq_of_toNat (by show _ = 58; omega)⟩)
    clear hst hst1
    go_cut [82] (fun s82 wx => s82 = .bool st ∧ wx = v5)
    case first =>
      by_cases hp : 0 < b2.size
      · have hpi : (0 : Int) < (b2.size : Int) := by omega
        have hne2 : b2.data.toList ≠ [] := fun e => by have := (Oct.nil_size b2).1 e; omega
        have hq : ((b2[0].toNat : Int) != 58) = st := by
          rw [← HST.out, decide_eq_false hne2, Bool.not_false, Bool.true_and]
          have := HB2.out hp
          cases hh : ((b2[0].toNat : Int) != 58) with
          | false => rw [decide_eq_true (this.2 hh)]; rfl
          | true => rw [decide_eq_false (fun e => by rw [this.1 e] at hh; cases hh)]; rfl
        go_wp2
        go_meet
        exact ⟨rfl, rfl⟩
      · have hpi : ¬ (0 : Int) < (b2.size : Int) := by omega
        have hq : st = false := by
          rw [← HST.out, decide_eq_true ((Oct.nil_size b2).2 (by omega))]; rfl
        go_wp2
        go_meet
        exact ⟨by rw [hq], rfl⟩
    case rest =>
    obtain ⟨rfl, rfl⟩ := hcut
    cases st with
    | true =>
      have HN : Hid (Ur.parse s.data.toList = (31, Ur.zero)) := Lib.hid (by rw [HP.out]; exact G2.out (by trivial))
      go_wp2_with (first
        | (refine wpList_store_row rfl 27 _ _ rfl w.heap.size (urlA Ur.zero) rfl rfl 27 _ K9.res (by rw [HZ.out]; exact infoURL) rfl (urlA_one _) ?_))
      exact bodyPost_ret (v := .tuple #[.agg (urlA Ur.zero), .int .i64 31]) (results_cell_two rfl _ _ w.heap.size _ _ _ rfl _ rfl (K9.res.whole _) Try.underlying27 rfl (by rw [HZ.out]; exact infoURL)) rfl (HPost.out _ _ HN.out (below_setRow K9.below (Nat.le_refl _) _))
    | false =>
      have K10 := K9.whole { Ur.first b with host := h }
      have HV := Lib.hid K9.var
      go_upto_if 88 with (first
        | (refine at_slot 84 rfl ?_; refine load_row rfl 25 _ rfl g4 rfl U Try.underlying25 rfl (by rw [HX.out]; exact infoHost) ?_)
        | (refine store_part rfl 25 _ _ rfl (w.heap.size + 1) 1 X rfl rfl 27 _ HV.out (by rw [HX.out]; exact infoHost) (by rw [HX.out, HUS.out]; decide) HX1.out _ HSet.out ?_))
      generalize wc.setRow (w.heap.size + 1) (urlA { Ur.first b with host := h }) = v6 at *
      have ea : ({ Ur.first b with host := h } : Ur.URL) = ⟨b, h, Ur.usual b, []⟩ := rfl
      rw [ea] at K10
      clear HV U K9 ea HSet HUS HX HX1 hX
      obtain ⟨po, hpo⟩ : ∃ po, Ur.portOf b b2.data.toList = po := ⟨_, rfl⟩
      rw [hpo] at G3 G4 G5
      have HNu := fun W => refNumber_calls (b2.extract 1 b2.size) W (by unfold maxLen; rw [ByteArray.size_extract]; omega)
      have et : (b2.extract 1 b2.size).data.toList = b2.data.toList.tail := by rw [extract_drop, List.drop_one]
      rw [et] at HNu
      have HNu := Lib.hid HNu
      have HPoN : Hid (b2.data.toList.head? = some 58 → po = if Oct.isNum b2.data.toList.tail = true ∧ 1 ≤ Oct.number b2.data.toList.tail ∧ Oct.number b2.data.toList.tail ≤ 65535 then some (Oct.number b2.data.toList.tail : Int) else none) := Lib.hid (fun hh => by rw [← hpo]; exact Ur.port_named b hh)
      have HPoE : Hid (b2.data.toList = [] → po = some (Ur.usual b)) := Lib.hid (fun hh => by rw [← hpo]; exact Ur.port_none b hh)
      clear hpo et
      go_cut [] (fun wx => ∃ n : Int, Hid (po = some n) ∧ KeptU w.heap.size (w.heap.size + 1) ⟨b, h, n, []⟩ w wx)
      case first =>
        by_cases hp : 0 < b2.size
        · have hpi : (0 : Int) < (b2.size : Int) := by omega
          have hp1 : (1 : Int) ≤ (b2.size : Int) := by omega
          have hne2 : b2.data.toList ≠ [] := fun e => by have := (Oct.nil_size b2).1 e; omega
          have hh : b2.data.toList.head? = some 58 := by
            have := HST.out
            rw [decide_eq_false hne2, Bool.not_false, Bool.true_and, Bool.not_eq_false', decide_eq_true_eq] at this
            exact this
          have HPN := Lib.hid (HPoN.out hh)
          clear hh hne2 HPoN HPoE HB2 HST
          generalize Oct.number b2.data.toList.tail = n at *
          generalize Oct.isNum b2.data.toList.tail = ok at *
          by_cases hin : ok = true ∧ 1 ≤ n ∧ n ≤ 65535
          · have HPs : Hid (po = some (n : Int)) := Lib.hid (by rw [HPN.out, if_pos hin])
            obtain ⟨rfl, h1, h2⟩ := hin
            have k1 : ¬ (n : Int) < 1 := by omega
            have k2 : ¬ (65535 : Int) < (n : Int) := by omega
            have c19 := K10.cell 19
            have f19 := K10.free 19
            rw [urlA_port _ hx] at c19
            have K11 := K10.put (u' := ⟨b, h, (n : Int), []⟩) (urlA_setPort _ hx (n : Int))
            go_wp2_with (go_at_call 21; refine (HNu.out _).mono ?_; rintro e v7 ⟨rfl, rfl⟩)
            go_meet
            exact ⟨_, HPs, K11⟩
          · have HN : Hid (Ur.parse s.data.toList = (42, Ur.zero)) := Lib.hid (by rw [HP.out]; exact G3.out (by trivial) (by rw [HPN.out, if_neg hin]; rfl))
            cases ok with
            | false =>
              clear hin
              go_wp2_with (first
                | (go_at_call 21; refine (HNu.out _).mono ?_; rintro e v7 ⟨rfl, rfl⟩)
                | (refine wpList_store_row rfl 27 _ _ rfl w.heap.size (urlA Ur.zero) rfl rfl 27 _ K10.res (by rw [HZ.out]; exact infoURL) rfl (urlA_one _) ?_))
              exact bodyPost_ret (v := .tuple #[.agg (urlA Ur.zero), .int .i64 42]) (results_cell_two rfl _ _ w.heap.size _ _ _ rfl _ rfl (K10.res.whole _) Try.underlying27 rfl (by rw [HZ.out]; exact infoURL)) rfl (HPost.out _ _ HN.out (below_setRow K10.below (Nat.le_refl _) _))
            | true =>
              by_cases h1 : n < 1
              · have k1 : (n : Int) < 1 := by omega
                clear hin h1
                go_wp2_with (first
                  | (go_at_call 21; refine (HNu.out _).mono ?_; rintro e v7 ⟨rfl, rfl⟩)
                  | (refine wpList_store_row rfl 27 _ _ rfl w.heap.size (urlA Ur.zero) rfl rfl 27 _ K10.res (by rw [HZ.out]; exact infoURL) rfl (urlA_one _) ?_))
                exact bodyPost_ret (v := .tuple #[.agg (urlA Ur.zero), .int .i64 42]) (results_cell_two rfl _ _ w.heap.size _ _ _ rfl _ rfl (K10.res.whole _) Try.underlying27 rfl (by rw [HZ.out]; exact infoURL)) rfl (HPost.out _ _ HN.out (below_setRow K10.below (Nat.le_refl _) _))
              · have k1 : ¬ (n : Int) < 1 := by omega
                have k2 : (65535 : Int) < (n : Int) := by have : ¬ n ≤ 65535 := fun k => hin ⟨rfl, by omega, k⟩; omega
                clear hin h1
                go_wp2_with (first
                  | (go_at_call 21; refine (HNu.out _).mono ?_; rintro e v7 ⟨rfl, rfl⟩)
                  | (refine wpList_store_row rfl 27 _ _ rfl w.heap.size (urlA Ur.zero) rfl rfl 27 _ K10.res (by rw [HZ.out]; exact infoURL) rfl (urlA_one _) ?_))
                exact bodyPost_ret (v := .tuple #[.agg (urlA Ur.zero), .int .i64 42]) (results_cell_two rfl _ _ w.heap.size _ _ _ rfl _ rfl (K10.res.whole _) Try.underlying27 rfl (by rw [HZ.out]; exact infoURL)) rfl (HPost.out _ _ HN.out (below_setRow K10.below (Nat.le_refl _) _))
        · have hpi : ¬ (0 : Int) < (b2.size : Int) := by omega
          have HPs : Hid (po = some (Ur.usual b)) := Lib.hid (HPoE.out ((Oct.nil_size b2).2 (by omega)))
          go_wp2
          go_meet
          exact ⟨_, HPs, K10⟩
      case rest =>
      obtain ⟨n, HPs, K11⟩ := hcut
      clear K10 HNu HPoN HPoE HB2 HST G3
      -- the path
      have HF4 := fun W => find_calls bh ⟨#[63, 35]⟩ W (by unfold maxLen; omega) (by show 2 ≤ 1000; omega)
      have e4 : (⟨#[63, 35]⟩ : ByteArray).data.toList = [63, 35] := rfl
      rw [e4, HBh.out] at HF4
      have hn4 := Ur.find_le (Ur.behind rest) [63, 35]
      rw [← HBh.out, Oct.length_bytes, HBh.out] at hn4
      have hraw : (bh.extract 0 (Ur.find (Ur.behind rest) [63, 35])).data.toList = Ur.raw rest := by rw [extract_take, HBh.out]; rfl
      generalize Ur.find (Ur.behind rest) [63, 35] = n4 at *
      obtain ⟨rw_, hrw⟩ : ∃ x, bh.extract 0 n4 = x := ⟨_, rfl⟩
      rw [hrw] at hraw
      have hn4i : (n4 : Int) ≤ (bh.size : Int) := by omega
      have hrws : rw_.size ≤ 3000 := by rw [← hrw, ByteArray.size_extract]; omega
      have HRaw : Hid (path = if rw_.data.toList = [] then [47] else rw_.data.toList) := Lib.hid (by rw [hraw, ← HPath.out]; rfl)
      have HF4 := Lib.hid HF4
      clear e4 hraw HBh HPath
      have c20 := K11.cell 20
      have f20 := K11.free 20
      rw [urlA_path _ hx] at c20
      have K12 := K11.put (u' := ⟨b, h, n, bh.data.toList⟩) (urlA_setPath _ hx bh)
      go_upto_region 26 with fail
      clear c20 f20 K11
      generalize World.setCell _ _ _ = v8 at *
      have c20 := K12.cell 20
      have f20 := K12.free 20
      rw [urlA_path _ hx, show strV bh.data.toList = .string bh by unfold strV; rw [mk_bytes]] at c20
      go_cut [] (fun wx => KeptU w.heap.size (w.heap.size + 1) ⟨b, h, n, rw_.data.toList⟩ w wx)
      case first =>
        go_region_with (go_at_call 19; refine (HF4.out _).mono ?_; rintro e v9 ⟨rfl, ⟨nn, rfl⟩⟩)
        all_goals
          go_wp2_with fail
          go_meet
          exact (K12.on (below_draws _ _ _)).put (u' := ⟨b, h, n, rw_.data.toList⟩) (urlA_setPath _ hx rw_)
      case rest =>
      have K13 := hcut
      clear hcut K12 c20 f20 HF4
      have c20 := K13.cell 20
      have f20 := K13.free 20
      rw [urlA_path _ hx, show strV rw_.data.toList = .string rw_ by unfold strV; rw [mk_bytes]] at c20
      obtain ⟨q2, hq2⟩ : ∃ q, rw_.toList.isEmpty = q := ⟨_, rfl⟩
      have HQ2 : Hid (rw_.data.toList = [] ↔ q2 = true) := Lib.hid (by
        rw [← hq2, Oct.bytes_data]
        cases rw_.data.toList <;> simp)
      go_upto_if 121 with fail
      go_cut [] (fun wx => ∃ pb : ByteArray, Hid (pb.data.toList = path) ∧ pb.size ≤ 3001 ∧ KeptU w.heap.size (w.heap.size + 1) ⟨b, h, n, path⟩ w wx)
      case first =>
        cases q2 with
        | true =>
          have HPa : Hid (path = [47]) := Lib.hid (by rw [HRaw.out, if_pos (HQ2.out.2 rfl)])
          have K14 := K13.put (u' := ⟨b, h, n, [47]⟩) (urlA_setPath _ hx ⟨#[47]⟩)
          go_wp2
          go_meet
          exact ⟨⟨#[47]⟩, Lib.hid HPa.out.symm, by decide, by rw [HPa.out]; exact K14⟩
        | false =>
          have HPa : Hid (path = rw_.data.toList) := Lib.hid (by rw [HRaw.out, if_neg (fun k => by have := HQ2.out.1 k; cases this)])
          go_wp2
          go_meet
          exact ⟨rw_, Lib.hid HPa.out.symm, by omega, by rw [HPa.out]; exact K13⟩
      case rest =>
      obtain ⟨pb, HPb, hpbs, K15⟩ := hcut
      clear K13 c20 f20 HQ2 hq2 HRaw
      have c20 := K15.cell 20
      have hsv : strV path = .string pb := by unfold strV; rw [← HPb.out, mk_bytes]
      rw [urlA_path _ hx, hsv] at c20
      have H9 := fun W => refPath_calls pb W (by unfold maxLen; omega)
      rw [HPb.out] at H9
      have HV := Lib.hid K15.var
      have HU5 := Lib.hid (urlA_size ⟨b, h, n, path⟩ hx)
      cases hok : Ur.isPath path with
      | true =>
        rw [hok] at H9
        have H9 := Lib.hid H9
        have HN : Hid (Ur.parse s.data.toList = (0, ⟨b, h, n, path⟩)) := Lib.hid (by rw [HP.out, G4.out (by trivial) (by rw [HPs.out]; rfl) hok, HPs.out]; rfl)
        clear hok
        go_wp2_with fail
        refine (H9.out _).mono ?_
        rintro e v12 ⟨rfl, rfl⟩
        go_wp2_with (first
          | (refine at_slot 128 rfl ?_; refine load_row rfl 27 _ rfl (w.heap.size + 1) rfl HV.out Try.underlying27 rfl (by rw [HU5.out]; exact infoURL) ?_)
          | (refine wpList_store_row rfl 27 _ _ rfl w.heap.size (urlA ⟨b, h, n, path⟩) rfl rfl 27 _ K15.res (by rw [HU5.out]; exact infoURL) (by rw [HU5.out]; rfl) (urlA_one _) ?_))
        exact bodyPost_ret (v := .tuple #[.agg (urlA ⟨b, h, n, path⟩), .int .i64 0]) (results_cell_two rfl _ _ w.heap.size _ _ _ rfl _ rfl (K15.res.whole _) Try.underlying27 rfl (by rw [HU5.out]; exact infoURL)) rfl (HPost.out _ _ HN.out (below_setRow K15.below (Nat.le_refl _) _))
      | false =>
        rw [hok] at H9
        have H9 := Lib.hid H9
        have HN : Hid (Ur.parse s.data.toList = (43, Ur.zero)) := Lib.hid (by rw [HP.out]; exact G5.out (by trivial) (by rw [HPs.out]; rfl) hok)
        clear hok
        go_wp2_with fail
        refine (H9.out _).mono ?_
        rintro e v12 ⟨rfl, rfl⟩
        go_wp2_with (first
          | (refine wpList_store_row rfl 27 _ _ rfl w.heap.size (urlA Ur.zero) rfl rfl 27 _ K15.res (by rw [HZ.out]; exact infoURL) rfl (urlA_one _) ?_))
        exact bodyPost_ret (v := .tuple #[.agg (urlA Ur.zero), .int .i64 43]) (results_cell_two rfl _ _ w.heap.size _ _ _ rfl _ rfl (K15.res.whole _) Try.underlying27 rfl (by rw [HZ.out]; exact infoURL)) rfl (HPost.out _ _ HN.out (below_setRow K15.below (Nat.le_refl _) _))
end Go.Proofs.Ytcookddgaomkiaa
