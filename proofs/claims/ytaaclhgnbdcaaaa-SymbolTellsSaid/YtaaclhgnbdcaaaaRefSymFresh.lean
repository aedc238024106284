/- The walks of the reference's next, Fresh and Text. -/
import Derived.Test.YtaaclhgnbdcaaaaRefSymTexts
namespace Go.Proofs.Ytaaclhgnbdcaaaa
open Go.RowKit
namespace Sy
theorem nxtR_cons (c : UInt8) (r : List UInt8) : nxtR (c :: r) = if 0 < (after c).toNat then after c :: r else 97 :: nxtR r := by rw [nxtR]
theorem nxt_snoc (p : List UInt8) (c : UInt8) : nxt (p ++ [c]) = if 0 < (after c).toNat then p ++ [after c] else nxt p ++ [97] := by
  unfold nxt
  rw [List.reverse_append, List.reverse_singleton, List.singleton_append, nxtR_cons]
  split
  · rw [List.reverse_cons, List.reverse_reverse]
  · rw [List.reverse_cons]
theorem nxt_nil : nxt [] = [97] := rfl
theorem nxtR_length : ∀ r : List UInt8, (nxtR r).length ≤ r.length + 1
  | [] => by simp [nxtR]
  | c :: r => by
    unfold nxtR
    split
    · simp
    · have := nxtR_length r
      simp only [List.length_cons]
      omega
theorem nxt_length (s : List UInt8) : (nxt s).length ≤ s.length + 1 := by
  unfold nxt
  have := nxtR_length s.reverse
  rw [List.length_reverse] at this ⊢
  exact this
/-- The bytes behind the first k made `a`. -/
def tailA (s : List UInt8) (k : Nat) : List UInt8 := s.take k ++ List.replicate (s.length - k) 97
theorem tailA_length {s : List UInt8} {k : Nat} (h : k ≤ s.length) : (tailA s k).length = s.length := by unfold tailA; rw [List.length_append, List.length_take, List.length_replicate]; omega
theorem tailA_all (s : List UInt8) : tailA s s.length = s := by unfold tailA; rw [List.take_of_length_le (Nat.le_refl _), Nat.sub_self]; simp
theorem tailA_zero (s : List UInt8) : tailA s 0 = List.replicate s.length 97 := by simp [tailA]
theorem tailA_at {s : List UInt8} {k : Nat} {c : UInt8} (h : s[k]? = some c) : (tailA s (k + 1))[k]? = some c := by
  have hl := (List.getElem?_eq_some_iff.1 h).1
  unfold tailA
  rw [List.getElem?_append_left (by rw [List.length_take]; omega), List.getElem?_take, if_pos (by omega), h]
theorem tailA_set {s : List UInt8} {k : Nat} {c d : UInt8} (h : s[k]? = some c) : (tailA s (k + 1)).set k d = s.take k ++ d :: List.replicate (s.length - (k + 1)) 97 := by
  have hl := (List.getElem?_eq_some_iff.1 h).1
  unfold tailA
  rw [List.take_add_one, h, List.append_assoc, List.set_append_right _ _ (by rw [List.length_take]; omega), List.length_take, Nat.min_eq_left (by omega), Nat.sub_self]
  rfl
theorem tailA_step {s : List UInt8} {k : Nat} {c : UInt8} (h : s[k]? = some c) : (tailA s (k + 1)).set k 97 = tailA s k := by
  have hl := (List.getElem?_eq_some_iff.1 h).1
  rw [tailA_set h]
  unfold tailA
  rw [show s.length - k = (s.length - (k + 1)) + 1 by omega, List.replicate_succ]
/-- What is left to say behind the last bytes that turn. -/
def At (s : List UInt8) (k : Nat) : Prop := nxt s = nxt (s.take k) ++ List.replicate (s.length - k) 97
theorem at_start (s : List UInt8) : At s s.length := by unfold At; rw [List.take_of_length_le (Nat.le_refl _), Nat.sub_self]; simp
theorem at_step {s : List UInt8} {k : Nat} {c : UInt8} (h : At s (k + 1)) (hc : s[k]? = some c) (h0 : ¬ 0 < (after c).toNat) : At s k := by
  have hl := (List.getElem?_eq_some_iff.1 hc).1
  unfold At at *
  rw [h, List.take_add_one, hc]
  show nxt (s.take k ++ [c]) ++ _ = _
  rw [nxt_snoc, if_neg h0, List.append_assoc]
  congr 1
  rw [show s.length - k = (s.length - (k + 1)) + 1 by omega, List.replicate_succ]
  rfl
theorem at_done {s : List UInt8} {k : Nat} {c : UInt8} (h : At s (k + 1)) (hc : s[k]? = some c) (h0 : 0 < (after c).toNat) : nxt s = (tailA s (k + 1)).set k (after c) := by
  unfold At at h
  rw [h, List.take_add_one, hc, tailA_set hc]
  show nxt (s.take k ++ [c]) ++ _ = _
  rw [nxt_snoc, if_pos h0, List.append_assoc]
  rfl
theorem at_end {s : List UInt8} (h : At s 0) : nxt s = tailA s 0 ++ [97] := by
  unfold At at h
  rw [h, List.take_zero, nxt_nil, tailA_zero, Nat.sub_zero]
  show 97 :: List.replicate s.length 97 = _
  rw [← List.replicate_succ, List.replicate_succ']
end Sy
set_option maxRecDepth 100000 in
set_option maxHeartbeats 1000000 in
theorem next_calls (s : ByteArray) (w : World) (hs : s.size ≤ 1099511627776) :
    Calls Try.prog 30 #[.string s] w (NewText w.heap.size (Sy.nxt s.data.toList) w) := by
  have hcv := fun W => run_bytes_of_string (P := Try.prog) W 9 55 5 s Try.underlying9 Try.underlying55 Try.underlying5
  have HPost : Hid (∀ t w', t = (⟨(Sy.nxt s.data.toList).toArray⟩ : ByteArray) → Below w.heap.size w w' → NewText w.heap.size (Sy.nxt s.data.toList) w (.returned (.string t)) w') := Lib.hid (fun t w' h hb => ⟨by rw [h], hb⟩)
  have HA := Lib.hid (Sy.at_start s.data.toList)
  rw [Oct.length_bytes] at HA
  have HB : Hid (∀ W : World, Bytes (W.drew.alloc (.cells (bytesRow s (grownCap W s.size 0 5)) 5 ((bytesRow s (grownCap W s.size 0 5)).size, (bytesRow s (grownCap W s.size 0 5)).size + 1))) W.heap.size (Sy.tailA s.data.toList s.size)) := Lib.hid (fun W => by
    have := Sy.tailA_all s.data.toList
    rw [Oct.length_bytes] at this
    rw [this]; exact Bytes.new W s _ _)
  generalize NewText w.heap.size (Sy.nxt s.data.toList) w = post at *
  go_enter Try.func30, Try.ntmps30
  go_wp2
  go_loopw [4] (fun i wr => ∃ k : Nat, k ≤ s.size ∧ i = .int .i64 ((k : Int) - 1) ∧ Sy.At s.data.toList k ∧ Bytes wr w.heap.size (Sy.tailA s.data.toList k) ∧ Below w.heap.size w wr) (fun i _ => (intOf i + 1).toNat)
  case atStart => exact ⟨s.size, Nat.le_refl _, rfl, HA.out, HB.out w, ((Below.refl _ w).alloc (Nat.le_refl _) _).drew⟩
  case round =>
    obtain ⟨k, hk, rfl, hat, hB, hb⟩ := hrel
    have HAT := Lib.hid hat
    have HBY := Lib.hid hB
    have hlen : (Sy.tailA s.data.toList k).length = s.size := by rw [Sy.tailA_length (by rw [Oct.length_bytes]; exact hk), Oct.length_bytes]
    have HLE := Lib.hid hlen
    have hg : w.heap.size ≤ w.heap.size := Nat.le_refl _
    clear hat hB hcv hlen
    cases k with
    | zero =>
      have hlt : ¬ (0 : Int) ≤ ((0 : Nat) : Int) - 1 := by omega
      have hconv := HBY.out.string (cap := grownCap w s.size 0 5)
      rw [HLE.out] at hconv
      obtain ⟨u, hu, hud, hus⟩ := text_of (Sy.tailA s.data.toList 0)
      rw [← hu] at hconv
      have hsz : ¬ 9223372036854775807 < u.size + (⟨#[97]⟩ : ByteArray).size := by rw [hus, HLE.out]; show ¬ _ < s.size + 1; omega
      have HE : Hid (u ++ (⟨#[97]⟩ : ByteArray) = ⟨(Sy.nxt s.data.toList).toArray⟩) := Lib.hid (by
        rw [Sy.at_end HAT.out, ← hud]
        apply ByteArray.ext
        rw [ByteArray.data_append]
        apply Array.toList_inj.1
        simp)
      clear hu hud hus
      go_wp2
      exact HPost.out _ _ HE.out hb
    | succ k =>
      have hlt : k < s.size := by omega
      have hc : s.data.toList[k]? = some s[k] := by rw [List.getElem?_eq_getElem (by rw [Oct.length_bytes]; exact hlt), Oct.getElem_bytes s k hlt]
      have hcell := HBY.out.cell k _ (Sy.tailA_at hc)
      unfold byteV at hcell
      have hfr := HBY.out.free k (by rw [HLE.out]; exact hlt)
      have e1 : (((k + 1 : Nat) : Int) - 1) = (k : Int) := by omega
      have HA2 := Lib.hid (fun W => after_calls s[k] W)
      have HDO := Lib.hid (Sy.at_done HAT.out hc)
      have HST := Lib.hid (Sy.at_step HAT.out hc)
      have HTS := Lib.hid (Sy.tailA_step hc)
      have HS1 := Lib.hid (HBY.out.set k (Sy.after s[k]))
      have HS2 := Lib.hid (HBY.out.set k 97)
      clear hc
      generalize Sy.after s[k] = a at *
      by_cases h0 : 0 < a.toNat
      · have h1 : (0 : Int) < (a.toNat : Int) := by omega
        have hconv := HS1.out.string (cap := grownCap w s.size 0 5)
        rw [List.length_set, HLE.out, ← HDO.out h0] at hconv
        unfold byteV at hconv
        clear h0
        go_wp2_with (go_at_call 36; refine (HA2.out _).mono ?_; rintro e w' ⟨rfl, rfl⟩)
        exact HPost.out _ _ rfl (hb.setCell (p := ⟨w.heap.size, k, none⟩) (Nat.le_refl _) _)
      · have h1 : ¬ (0 : Int) < (a.toNat : Int) := by omega
        have HAT2 := Lib.hid (HST.out h0)
        rw [HTS.out] at HS2
        clear h0
        go_wp2_with (go_at_call 36; refine (HA2.out _).mono ?_; rintro e w' ⟨rfl, rfl⟩)
        go_roundw
        case rel => exact ⟨k, by omega, by go_num, HAT2.out, HS2.out, hb.setCell (p := ⟨w.heap.size, k, none⟩) (Nat.le_refl _) _⟩
        case measure => simp [intOf]
theorem Sy.search_on (l : List (List UInt8)) (n : Nat) (s : List UInt8) : Sy.search l (n + 1) s = if s ∈ l then Sy.search l n (Sy.nxt s) else s := rfl
set_option maxRecDepth 100000 in
set_option maxHeartbeats 1000000 in
theorem refFresh_calls (v : Value) (l : List (List UInt8)) (w : World) (h : Texts w v l) (hn : l.length ≤ 1048576) :
    Calls Try.prog 17 #[v] w (NewText w.heap.size (Sy.fresh l) w) := by
  obtain ⟨A, c, rfl⟩ := h.slice
  have HS : Hid (Sy.search l (l.length + 1) [97] = Sy.fresh l) := Lib.hid rfl
  obtain ⟨n, hn'⟩ : ∃ n, l.length = n := ⟨_, rfl⟩
  rw [hn'] at h hn HS ⊢
  have HPost : Hid (∀ (t : ByteArray) w', t.data.toList = Sy.fresh l → Below w.heap.size w w' → NewText w.heap.size (Sy.fresh l) w (.returned (.string t)) w') := Lib.hid (fun t w' h hb => ⟨by rw [← h], hb⟩)
  generalize NewText w.heap.size (Sy.fresh l) w = post at *
  generalize Sy.fresh l = z at *
  have HN := Lib.hid hn'
  have HT := Lib.hid h
  clear hn' h
  go_enter Try.func17, Try.ntmps17
  go_wp2
  go_loopw [3, 4] (fun s i wr => ∃ (k : Nat) (u : ByteArray), k ≤ n + 1 ∧ i = .int .i64 k ∧ s = .string u ∧ Hid (Sy.search l (n + 1 - k) u.data.toList = z) ∧ u.size ≤ k + 1 ∧ Below w.heap.size w wr) (fun _ i _ => n + 1 - (intOf i).toNat)
  case atStart => exact ⟨0, ⟨#[97]⟩, Nat.zero_le _, rfl, rfl, HS, Nat.le_refl _, Below.refl _ _⟩
  case round =>
    obtain ⟨k, u, hk, rfl, rfl, HU, hu, hb⟩ := hrel
    by_cases hlt : k ≤ n
    · have HH := has_calls _ l u wr (HT.out.later hb (Nat.le_refl _)) (by have := HN.out; omega)
      have hon := HU.out
      rw [show n + 1 - k = (n - k) + 1 by omega, Sy.search_on] at hon
      have h1 : (k : Int) ≤ (n : Int) := by omega
      by_cases hm : u.data.toList ∈ l
      · rw [decide_eq_true hm] at HH
        rw [if_pos hm] at hon
        have HON := Lib.hid hon
        have HHH := Lib.hid HH
        have HNX := Lib.hid (fun W => next_calls u W (by omega))
        have hnl := Sy.nxt_length u.data.toList
        rw [Oct.length_bytes] at hnl
        unfold NewText at HNX
        generalize Sy.nxt u.data.toList = y at *
        obtain ⟨q, hq, hqd, hqs⟩ := text_of y
        rw [← hq] at HNX
        have HQ := Lib.hid hqd
        have hq2 : q.size ≤ k + 2 := by omega
        clear hm hon HH hq hqd hqs hnl
        have hbs := hb.size
        go_wp2_with (first
          | (go_at_call 28; refine HHH.out.mono ?_; rintro e w' ⟨rfl, rfl⟩)
          | (go_at_call 30; refine (HNX.out _).mono ?_; rintro e w' ⟨rfl, hb2⟩))
        go_roundw
        case rel => exact ⟨k + 1, q, by omega, by go_num, rfl, Lib.hid (by rw [HQ.out, show n + 1 - (k + 1) = n - k by omega]; exact HON.out), by omega, hb.trans (hb2.mono hbs)⟩
        case measure => simp [intOf]; omega
      · rw [decide_eq_false hm] at HH
        rw [if_neg hm] at hon
        have HON := Lib.hid hon
        have HHH := Lib.hid HH
        clear hm hon HH
        go_wp2_with (go_at_call 28; refine HHH.out.mono ?_; rintro e w' ⟨rfl, rfl⟩)
        exact HPost.out _ _ HON.out hb
    · have h1 : ¬ (k : Int) ≤ (n : Int) := by omega
      have HON : Hid (u.data.toList = z) := Lib.hid (by
        have := HU.out
        rw [show n + 1 - k = 0 by omega] at this
        exact this)
      go_wp2
      exact HPost.out _ _ HON.out hb
theorem Sy.find_more {t : List (List UInt8)} {k : Nat} {x : List UInt8} {p : List UInt8 → Bool} (h : t[k]? = some x) (hf : (t.take k).find? p = none) : (t.take (k + 1)).find? p = if p x then some x else none := by
  rw [List.take_add_one, h, List.find?_append, hf]
  cases hp : p x <;> simp [hp]
set_option maxRecDepth 100000 in
set_option maxHeartbeats 1000000 in
theorem refText_calls14 (v : Value) (l : List (List UInt8)) (i : Int) (w : World) (h : Texts w v l) (hn : l.length ≤ 1048576) (hl : ∀ x ∈ l, x.length ≤ 1048576) :
    Calls Try.prog 15 #[v, .int .i64 i] w (NewText w.heap.size (Sy.text l i) w) := by
  have HTX := Lib.hid (refTexts_calls v l w h hn)
  have HFR := Lib.hid (fun W hW => refFresh_calls v l W hW hn)
  obtain ⟨O, hO⟩ : ∃ O : List UInt8 → Int, ∀ s, O s = (Sy.of l s : Int) := ⟨_, fun _ => rfl⟩
  have HOF : Hid (∀ (s : ByteArray) W, Texts W v l → Calls Try.prog 13 #[v, .string s] W fun e w' => e = .returned (.int .i64 (O s.data.toList)) ∧ Below W.heap.size W w') := Lib.hid (fun s W hW => by rw [hO]; exact refOf_calls v l s W hW hn hl)
  have HT := Lib.hid h
  have htl := Sy.texts_length l
  have HX : Hid (Sy.text l i = if i = ((Sy.texts l).length : Int) then Sy.fresh l else ((Sy.texts l).find? fun s => decide (O s = i)).getD []) := Lib.hid (by unfold Sy.text; simp only [hO])
  have HPost : Hid (∀ (t : ByteArray) w', t.data.toList = Sy.text l i → Below w.heap.size w w' → NewText w.heap.size (Sy.text l i) w (.returned (.string t)) w') := Lib.hid (fun t w' h hb => ⟨by rw [← h], hb⟩)
  unfold NewStrs at HTX
  unfold NewText at HFR
  generalize NewText w.heap.size (Sy.text l i) w = post at *
  generalize Sy.text l i = z at *
  generalize Sy.texts l = t at *
  generalize Sy.fresh l = fr at *
  obtain ⟨A, c, rfl⟩ := h.slice
  clear hO h hl
  go_enter Try.func15, Try.ntmps15
  go_wp2_with fail
  refine HTX.out.mono ?_
  rintro e w1 ⟨u, rfl, hown, hb⟩
  have hU := texts_own hown
  obtain ⟨A1, c1, rfl⟩ := hU.slice
  obtain ⟨n, hn'⟩ : ∃ n, t.length = n := ⟨_, rfl⟩
  rw [hn'] at hU HX htl ⊢
  have HU := Lib.hid hU
  have HN := Lib.hid hn'
  clear hown hU HTX hn'
  by_cases hi : i = (n : Int)
  · have h1 : (i == (n : Int)) = true := by rw [beq_iff_eq]; exact hi
    rw [if_pos hi] at HX
    obtain ⟨q, hq, hqd, hqs⟩ := text_of fr
    rw [← hq] at HFR
    have HQ := Lib.hid hqd
    clear hi hq hqd hqs
    go_wp2_with (go_at_call 17; refine (HFR.out _ (HT.out.later hb (Nat.le_refl _))).mono ?_; rintro e w' ⟨rfl, hb2⟩)
    exact HPost.out _ _ (by rw [HQ.out, HX.out]) (hb.trans (hb2.mono hb.size))
  · have h1 : (i == (n : Int)) = false := by rw [beq_eq_false_iff_ne]; exact hi
    rw [if_neg hi] at HX
    clear hi HFR
    go_wp2_with fail
    go_loopw [18] (fun j wr => ∃ k : Nat, k ≤ n ∧ j = .int .i64 k ∧ Hid ((t.take k).find? (fun s => decide (O s = i)) = none) ∧ Below w1.heap.size w1 wr) (fun j _ => n - (intOf j).toNat)
    case atStart => exact ⟨0, Nat.zero_le _, rfl, Lib.hid rfl, Below.refl _ _⟩
    case round =>
      obtain ⟨k, hk, rfl, HF, hb1⟩ := hrel
      by_cases hlt : k < n
      · obtain ⟨x, hx⟩ : ∃ x, t[k]? = some x := ⟨_, List.getElem?_eq_getElem (by rw [HN.out]; exact hlt)⟩
        obtain ⟨b, hbx, hbd, hbl⟩ := text_of x
        obtain ⟨g, off, rfl, hcell⟩ := (HU.out.stays hb1).at hx hbx
        have HB := hb.trans (hb1.mono hb.size)
        have HO := Lib.hid (HOF.out b wr (HT.out.later HB (Nat.le_refl _)))
        rw [hbd] at HO
        have HM := Lib.hid (Sy.find_more hx HF.out)
        have HBD := Lib.hid hbd
        have HL : Hid (t.find? (fun s => decide (O s = i)) = ((t.take (k + 1)).find? (fun s => decide (O s = i))).or ((t.drop (k + 1)).find? (fun s => decide (O s = i)))) := Lib.hid (by rw [← List.find?_append, List.take_append_drop])
        have hw1 := hb1.size
        clear hx hbx hbd hbl
        by_cases he : O x = i
        · have h2 : (O x == i) = true := by rw [beq_iff_eq]; exact he
          have HZ : Hid (b.data.toList = z) := Lib.hid (by
            rw [HX.out, HL.out, HM.out, if_pos (decide_eq_true he), HBD.out]; rfl)
          clear he
          go_wp2_with (go_at_call 13; refine HO.out.mono ?_; rintro e w5 ⟨rfl, hb5⟩)
          exact HPost.out _ _ HZ.out (HB.trans (hb5.mono HB.size))
        · have h2 : (O x == i) = false := by rw [beq_eq_false_iff_ne]; exact he
          have HM2 := HM.out
          rw [if_neg (by simpa using he)] at HM2
          have HM2 := Lib.hid HM2
          clear he
          go_wp2_with (go_at_call 13; refine HO.out.mono ?_; rintro e w5 ⟨rfl, hb5⟩)
          go_roundw
          case rel => exact ⟨k + 1, by omega, by go_num, HM2, hb1.trans (hb5.mono hw1)⟩
          case measure => simp [intOf]; omega
      · have HZ : Hid ((⟨#[]⟩ : ByteArray).data.toList = z) := Lib.hid (by
          rw [HX.out]
          have := HF.out
          rw [List.take_of_length_le (by have := HN.out; omega)] at this
          rw [this]; rfl)
        go_wp2
        exact HPost.out _ _ HZ.out (hb.trans (hb1.mono hb.size))
end Go.Proofs.Ytaaclhgnbdcaaaa
