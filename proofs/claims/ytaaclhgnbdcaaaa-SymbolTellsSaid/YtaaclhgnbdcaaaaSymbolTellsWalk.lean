/- The walk of the law SymbolTells. -/
import Derived.Test.YtaaclhgnbdcaaaaSymbolAlive
import Derived.Test.YtaaclhgnbdcaaaaRefSymFresh
import Derived.Test.YtaaclhgnbdcaaaaSymbolData
namespace Go.Proofs.Ytaaclhgnbdcaaaa
open Go.RowKit
set_option maxRecDepth 100000 in
set_option maxHeartbeats 4000000 in
theorem symTellsLaw_calls {v : Value} (l : List (List UInt8)) (s : ByteArray) (i : Int) (w : World) (hl : Texts w v l ∧ l.length ≤ maxLen ∧ ∀ x ∈ l, x.length ≤ maxLen) (hs : s.size ≤ maxLen) (hi : (Lit.int .i64 i).wf = true) :
    Calls Try.prog 3 #[v, .string s, .int .i64 i] w fun e w' => e = .returned (.bool true) ∧ Below w.heap.size w w' := by
  have HAL := Lib.hid (alive_calls14 w)
  obtain ⟨hT, hl, _⟩ := hl
  have HT := Lib.hid hT
  have HG := Lib.hid (fun W h => great_calls14 v l W h hl)
  have HI := Lib.hid hi
  clear hT hi
  unfold maxLen at hs hl
  cases hgr : greatB l with
  | true =>
    rw [hgr] at HG
    clear hgr
    go_enter Try.func3, Try.ntmps3
    go_wp2_with (first
      | (go_at_call 7; refine HAL.out.mono ?_; rintro e w1 ⟨rfl, hb⟩)
      | (go_at_call 8; refine (HG.out _ (HT.out.later hb (Nat.le_refl _))).mono ?_; rintro e w2 ⟨rfl, rfl⟩))
    go_ret
    exact ⟨rfl, hb⟩
  | false =>
  obtain ⟨hg1, hg2⟩ := greatB_no hgr
  rw [hgr] at HG
  clear hgr
  by_cases h1 : (200 : Int) < (s.size : Int)
  · have e1 : decide ((200 : Int) < (s.size : Int)) = true := decide_eq_true h1
    go_enter Try.func3, Try.ntmps3
    go_wp2_with (first
      | (go_at_call 7; refine HAL.out.mono ?_; rintro e w1 ⟨rfl, hb⟩)
      | (go_at_call 8; refine (HG.out _ (HT.out.later hb (Nat.le_refl _))).mono ?_; rintro e w2 ⟨rfl, rfl⟩))
    go_ret
    exact ⟨rfl, hb⟩
  have e1 : decide ((200 : Int) < (s.size : Int)) = false := decide_eq_false h1
  have HNW := Lib.hid (fun W h => new_calls14 v l W h (by omega) (fun x hx => by have := hg2 x hx; omega))
  have HTX := Lib.hid (fun W h => refTexts_calls v l W h (by omega))
  have HOF := Lib.hid (fun W h => refOf_calls v l s W h (by omega) (fun x hx => by have := hg2 x hx; omega))
  have HTE := Lib.hid (fun W h => refText_calls14 v l i W h (by omega) (fun x hx => by have := hg2 x hx; omega))
  have HFR := Lib.hid (fun W h => refFresh_calls v l W h (by omega))
  unfold NewStrs at HTX
  unfold NewText at HTE HFR
  clear hg1 hg2
  go_enter Try.func3, Try.ntmps3
  go_wp2_with (first
    | (go_at_call 7; refine HAL.out.mono ?_; rintro e w1 ⟨rfl, hb⟩)
    | (go_at_call 8; refine (HG.out _ (HT.out.later hb (Nat.le_refl _))).mono ?_; rintro e w2 ⟨rfl, rfl⟩))
  refine (HNW.out _ (HT.out.later hb (Nat.le_refl _))).mono ?_
  rintro e w2 ⟨b, t, rfl, _, hA, hb2⟩
  have B2 := Lib.hid (hb.trans (hb2.mono hb.size))
  have hlen := hA.sorted.len
  have hfew := hA.few
  clear hb hb2 HAL HG HNW
  have HLE := Lib.hid (len_calls b l t w2 hA)
  have HA := Lib.hid hA
  clear hA
  go_wp2_with fail
  refine HLE.out.mono ?_
  rintro e w3 ⟨rfl, rfl⟩
  clear HLE
  go_wp2_with fail
  refine (HTX.out _ (HT.out.later B2.out (Nat.le_refl _))).mono ?_
  rintro e w4 ⟨u, rfl, hU, hb4⟩
  have B4 := Lib.hid (B2.out.trans (hb4.mono B2.out.size))
  have HA4 := Lib.hid (HA.out.stays hb4)
  obtain ⟨A4, c4, rfl, _⟩ := own_any hU
  rw [hlen]
  have z1 : ((t.length : Int) + 1 == (t.length : Int) + 1) = true := by simp
  have HO := Lib.hid (of_calls b l t s w4 HA4.out (by unfold maxLen; omega))
  clear hU hb4 B2 HTX HA
  generalize t.length = n at *
  go_wp2_with fail
  refine HO.out.mono ?_
  rintro e w5 ⟨rfl, rfl⟩
  clear HO
  go_wp2_with fail
  refine (HOF.out _ (HT.out.later B4.out (Nat.le_refl _))).mono ?_
  rintro e w6 ⟨rfl, hb6⟩
  have B6 := Lib.hid (B4.out.trans (hb6.mono B4.out.size))
  have HA6 := Lib.hid (HA4.out.stays hb6)
  have HTT := Lib.hid (text_calls14 b l t i w6 HA6.out HI.out)
  have z2 : ((Sy.of l s.data.toList : Int) == (Sy.of l s.data.toList : Int)) = true := by simp
  generalize (Sy.of l s.data.toList : Int) = z at *
  clear hb6 B4 HOF HA4
  go_wp2_with fail
  refine HTT.out.mono ?_
  rintro e w7 ⟨rfl, rfl⟩
  clear HTT
  go_wp2_with fail
  refine (HTE.out _ (HT.out.later B6.out (Nat.le_refl _))).mono ?_
  rintro e w8 ⟨rfl, hb8⟩
  have B8 := Lib.hid (B6.out.trans (hb8.mono B6.out.size))
  have HFF := Lib.hid (fresh_calls b l t w8 (HA6.out.stays hb8))
  unfold strV
  unfold strV at HFF
  have z3 : ((⟨(Sy.text l i).toArray⟩ : ByteArray).toList == (⟨(Sy.text l i).toArray⟩ : ByteArray).toList) = true := by simp
  have z4 : ((⟨(Sy.fresh l).toArray⟩ : ByteArray).toList == (⟨(Sy.fresh l).toArray⟩ : ByteArray).toList) = true := by simp
  clear hb8 B6 HTE HA6
  generalize (⟨(Sy.text l i).toArray⟩ : ByteArray) = tx at *
  generalize (⟨(Sy.fresh l).toArray⟩ : ByteArray) = fx at *
  go_wp2_with fail
  refine HFF.out.mono ?_
  rintro e w9 ⟨rfl, rfl⟩
  clear HFF
  go_wp2_with fail
  refine (HFR.out _ (HT.out.later B8.out (Nat.le_refl _))).mono ?_
  rintro e w10 ⟨rfl, hb10⟩
  have B10 := Lib.hid (B8.out.trans (hb10.mono B8.out.size))
  clear hb10
  go_wp2_with fail
  go_ret
  exact ⟨rfl, B10.out⟩
end Go.Proofs.Ytaaclhgnbdcaaaa
