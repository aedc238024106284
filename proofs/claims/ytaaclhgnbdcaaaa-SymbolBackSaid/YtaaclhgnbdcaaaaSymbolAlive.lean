/- The walks of what all laws of symbols ask first: the chapter's example; whether texts are more than is looked at. -/
import Derived.Test.YtaaclhgnbdcaaaaSymbolNew
import Derived.Test.YtaaclhgnbdcaaaaSymbolBytes
import Derived.Test.YtaaclhgnbdcaaaaOctets
namespace Go.Proofs.Ytaaclhgnbdcaaaa
open Go.RowKit
/-- Are texts more than is looked at? -/
def greatB (l : List (List UInt8)) : Bool := l.any (fun s => decide (100 < s.length)) || decide (60 < l.length)
theorem greatB_no {l : List (List UInt8)} (h : greatB l = false) : l.length ≤ 60 ∧ ∀ s ∈ l, s.length ≤ 100 := by
  unfold greatB at h
  rw [Bool.or_eq_false_iff] at h
  obtain ⟨h1, h2⟩ := h
  refine ⟨by have := of_decide_eq_false h2; omega, fun s hs => ?_⟩
  have := List.any_eq_false.1 h1 s hs
  simp at this
  exact this
set_option maxRecDepth 100000 in
set_option maxHeartbeats 1000000 in
theorem great_calls14 (v : Value) (l : List (List UInt8)) (w : World) (h : Texts w v l) (hn : l.length ≤ maxLen) :
    Calls Try.prog 8 #[v] w fun e w' => e = .returned (.bool (greatB l)) ∧ w' = w := by
  obtain ⟨A, c, rfl⟩ := h.slice
  obtain ⟨n, hn'⟩ : ∃ n, l.length = n := ⟨_, rfl⟩
  have HG : Hid (greatB l = (l.any (fun s => decide (100 < s.length)) || decide (60 < n))) := Lib.hid (by rw [← hn']; rfl)
  generalize greatB l = gb at *
  unfold maxLen at hn
  rw [hn'] at h hn ⊢
  have HN := Lib.hid hn'
  have HT := Lib.hid h
  clear hn' h
  go_enter Try.func8, Try.ntmps8
  go_wp2
  go_loopw [7] (fun i wr => ∃ k : Nat, k ≤ n ∧ i = .int .i64 k ∧ Hid (∀ s ∈ l.take k, ¬ 100 < s.length) ∧ wr = w) (fun i _ => n - (intOf i).toNat)
  case atStart => exact ⟨0, Nat.zero_le _, rfl, Lib.hid (by simp), rfl⟩
  case round =>
    obtain ⟨k, hk, rfl, HNO, rfl⟩ := hrel
    by_cases hlt : k < n
    · obtain ⟨x, hx⟩ : ∃ x, l[k]? = some x := ⟨_, List.getElem?_eq_getElem (by rw [HN.out]; exact hlt)⟩
      obtain ⟨q, hq, hqd, hqs⟩ := text_of x
      obtain ⟨g, off, rfl, hcell⟩ := HT.out.at hx hq
      have HX := Lib.hid hx
      have HQ := Lib.hid hqs
      clear hx hq hqd hqs
      by_cases hb : (100 : Int) < (q.size : Int)
      · have HZ : Hid (gb = true) := Lib.hid (by
          rw [HG.out, Bool.or_eq_true]
          exact .inl (List.any_eq_true.2 ⟨x, List.mem_of_getElem? HX.out, decide_eq_true (by have := HQ.out; omega)⟩))
        go_wp2
        go_ret
        exact ⟨ret_bool HZ.out.symm, rfl⟩
      · go_wp2
        go_roundw
        case rel => exact ⟨k + 1, by omega, by go_num, Lib.hid (fun s hs => by
          rw [List.take_add_one, HX.out, List.mem_append] at hs
          rcases hs with hs | hs
          · exact HNO.out s hs
          · have e : s = x := by simpa using hs
            rw [e]
            have := HQ.out
            omega), (by trivial)⟩
        case measure => simp [intOf]; omega
    · have HZ : Hid (gb = decide ((60 : Int) < (n : Int))) := Lib.hid (by
        have h1 : l.any (fun s => decide (100 < s.length)) = false := List.any_eq_false.2 (fun s hs => by
          have := HNO.out
          rw [List.take_of_length_le (by have := HN.out; omega)] at this
          simpa using this s hs)
        rw [HG.out, h1, Bool.false_or]
        rw [Bool.eq_iff_iff, decide_eq_true_eq, decide_eq_true_eq]
        omega)
      go_wp2
      go_ret
      exact ⟨ret_bool HZ.out.symm, rfl⟩
/-- The chapter's example. -/
def exL : List (List UInt8) := [[98], [97], [98]]
theorem exL_facts : Sy.of exL [97] = 0 ∧ Sy.of exL [98] = 1 ∧ Sy.of exL [120] = 2 ∧ (Sy.texts exL).length = 2 ∧ Sy.fresh exL = [99] ∧ Sy.bytes [47] = ([13], true) := by decide +kernel
set_option maxRecDepth 100000 in
set_option maxHeartbeats 4000000 in
theorem alive_calls14 (w : World) : Calls Try.prog 7 #[] w fun e w' => e = .returned (.bool true) ∧ Below w.heap.size w w' := by
  obtain ⟨f1, f2, f3, f4, f5, f6⟩ := exL_facts
  have HNEW := Lib.hid (fun v W h => new_calls14 v exL W h (by decide) (by decide))
  have HF1 := Lib.hid f1
  have HF2 := Lib.hid f2
  have HF3 := Lib.hid f3
  have HF4 := Lib.hid f4
  have HF5 := Lib.hid f5
  have HF6 := Lib.hid f6
  clear f1 f2 f3 f4 f5 f6
  go_enter Try.func7, Try.ntmps7
  have HX : Hid (Texts (w.alloc (.cells #[.string ⟨#[98]⟩, .string ⟨#[97]⟩, .string ⟨#[98]⟩] 9)) (.slice (some ⟨w.heap.size, 0, none⟩) 3 3) exL) := Lib.hid ⟨inRow_row (Row.new w _ _) rfl (Nat.le_refl _) (fun k u hu => by
    match k, hu with
    | 0, hu => exact hu
    | 1, hu => exact hu
    | 2, hu => exact hu
    | k + 3, hu => simp [strVs, exL] at hu)⟩
  have hb0 := (Below.refl w.heap.size w).alloc (Nat.le_refl _) (.cells #[.string ⟨#[98]⟩, .string ⟨#[97]⟩, .string ⟨#[98]⟩] 9)
  have HB0 := Lib.hid hb0
  clear hb0
  go_wp2_with fail
  refine (HNEW.out _ _ HX.out).mono ?_
  rintro e w1 ⟨b, t, rfl, _, hA1, hb1⟩
  have HB1 := Lib.hid (HB0.out.trans (hb1.mono HB0.out.size))
  have HA1 := Lib.hid hA1
  have HBY := Lib.hid (symBytes_calls ⟨#[47]⟩ w1 (by decide))
  unfold NumsIf at HBY
  rw [show Sy.bytes (⟨#[47]⟩ : ByteArray).data.toList = ([13], true) from HF6.out] at HBY
  clear hb1 hA1 HX HNEW HB0
  go_wp2_with fail
  refine HBY.out.mono ?_
  rintro e w2 ⟨v, rfl, hN, hb2⟩
  have hA := HA1.out.stays hb2
  have HB2 := Lib.hid (HB1.out.trans (hb2.mono HB1.out.size))
  have H1 : Hid (Calls Try.prog 12 #[.pointer (some ⟨b, 0, none⟩), .string ⟨#[97]⟩] w2 fun e w' => e = .returned (.int .i64 0) ∧ w' = w2) := Lib.hid (by
    have h := of_calls b exL t ⟨#[97]⟩ w2 hA (by decide)
    rw [show Sy.of exL (⟨#[97]⟩ : ByteArray).data.toList = 0 from HF1.out] at h; exact h)
  have H2 : Hid (Calls Try.prog 12 #[.pointer (some ⟨b, 0, none⟩), .string ⟨#[98]⟩] w2 fun e w' => e = .returned (.int .i64 1) ∧ w' = w2) := Lib.hid (by
    have h := of_calls b exL t ⟨#[98]⟩ w2 hA (by decide)
    rw [show Sy.of exL (⟨#[98]⟩ : ByteArray).data.toList = 1 from HF2.out] at h; exact h)
  have H3 : Hid (Calls Try.prog 12 #[.pointer (some ⟨b, 0, none⟩), .string ⟨#[120]⟩] w2 fun e w' => e = .returned (.int .i64 2) ∧ w' = w2) := Lib.hid (by
    have h := of_calls b exL t ⟨#[120]⟩ w2 hA (by decide)
    rw [show Sy.of exL (⟨#[120]⟩ : ByteArray).data.toList = 2 from HF3.out] at h; exact h)
  have H4 : Hid (Calls Try.prog 10 #[.pointer (some ⟨b, 0, none⟩)] w2 fun e w' => e = .returned (.int .i64 3) ∧ w' = w2) := Lib.hid (by
    have h := len_calls b exL t w2 hA
    rw [← hA.sorted.len, HF4.out] at h; exact h)
  have H5 : Hid (Calls Try.prog 16 #[.pointer (some ⟨b, 0, none⟩)] w2 fun e w' => e = .returned (.string ⟨#[99]⟩) ∧ w' = w2) := Lib.hid (by
    have h := fresh_calls b exL t w2 hA
    rw [HF5.out] at h; exact h)
  obtain ⟨A, c, rfl⟩ := hN.slice
  obtain ⟨g, off, rfl, hcell⟩ := hN.at (k := 0) (m := 13) rfl
  rw [Nat.add_zero] at hcell
  clear hN hb2 hA HBY HA1 HB1 HF1 HF2 HF3 HF4 HF5 HF6
  go_wp2_with (first
    | (go_at_call 12; (first | (with_reducible refine (H1.out).mono ?_) | (with_reducible refine (H2.out).mono ?_) | (with_reducible refine (H3.out).mono ?_)); rintro e w' ⟨rfl, rfl⟩)
    | (go_at_call 10; refine H4.out.mono ?_; rintro e w' ⟨rfl, rfl⟩)
    | (go_at_call 16; refine H5.out.mono ?_; rintro e w' ⟨rfl, rfl⟩))
  go_ret
  exact ⟨rfl, HB2.out⟩
end Go.Proofs.Ytaaclhgnbdcaaaa
