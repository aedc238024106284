/- The walk of the law SymbolBytes. -/
import Derived.Test.YtaaclhgnbdcaaaaSymbolAlive
import Derived.Test.YtaaclhgnbdcaaaaRefSymBytes
import Derived.Test.YtaaclhgnbdcaaaaSymbolData
namespace Go.Proofs.Ytaaclhgnbdcaaaa
open Go.RowKit
set_option maxRecDepth 100000 in
set_option maxHeartbeats 4000000 in
theorem symBytesLaw_calls {v : Value} (s : ByteArray) (l : List Int) (w : World) (hs : s.size ≤ maxLen) (hl : Nums w v l ∧ l.length ≤ maxLen ∧ ∀ x ∈ l, (Lit.int .i64 x).wf = true) :
    Calls Try.prog 4 #[.string s, v] w fun e w' => e = .returned (.bool true) ∧ Below w.heap.size w w' := by
  have HAL := Lib.hid (alive_calls14 w)
  obtain ⟨hN, hl, _⟩ := hl
  unfold maxLen at hs hl
  obtain ⟨A, c, rfl⟩ := hN.slice
  obtain ⟨n, hn⟩ : ∃ n, l.length = n := ⟨_, rfl⟩
  rw [hn] at hN hl ⊢
  have HL := Lib.hid hn
  have HN := Lib.hid hN
  clear hn hN
  by_cases h1 : (500 : Int) < (s.size : Int)
  · go_enter Try.func4, Try.ntmps4
    have e1 : decide ((500 : Int) < (s.size : Int)) = true := decide_eq_true h1
    go_wp2_with (go_at_call 7; refine HAL.out.mono ?_; rintro e w1 ⟨rfl, hb⟩)
    go_ret
    exact ⟨rfl, hb⟩
  have e1 : decide ((500 : Int) < (s.size : Int)) = false := decide_eq_false h1
  by_cases h2 : (500 : Int) < (n : Int)
  · have e2 : decide ((500 : Int) < (n : Int)) = true := decide_eq_true h2
    go_enter Try.func4, Try.ntmps4
    go_wp2_with (go_at_call 7; refine HAL.out.mono ?_; rintro e w1 ⟨rfl, hb⟩)
    go_ret
    exact ⟨rfl, hb⟩
  have e2 : decide ((500 : Int) < (n : Int)) = false := decide_eq_false h2
  have hs5 : s.size ≤ 500 := by omega
  have hn5 : l.length ≤ 500 := by have := HL.out; omega
  obtain ⟨x, ok, hx⟩ : ∃ x ok, Sy.bytes s.data.toList = (x, ok) := ⟨_, _, rfl⟩
  obtain ⟨u, is, hu⟩ : ∃ u is, Sy.from' l = (u, is) := ⟨_, _, rfl⟩
  have hxl : x.length ≤ 1099511627776 := by
    have : x = (Sy.bytes s.data.toList).1 := by rw [hx]
    rw [this]
    unfold Sy.bytes
    split
    · rw [List.length_map, Oct.length_bytes]; omega
    · simp
  have HB := Lib.hid (fun W => symBytes_calls s W (by omega))
  have HRB := Lib.hid (fun W => refBytes_calls s W (by omega))
  have HF := Lib.hid (fun v W h => symFrom_calls v l W h (by omega))
  have HRF := Lib.hid (fun v W h => refFrom_calls v l W h (by omega))
  unfold NumsIf at HB HRB
  unfold NewTextIf at HF HRF
  rw [hx] at HB HRB
  rw [hu] at HF HRF
  have HXL := Lib.hid hxl
  clear hx hu hxl hs5 hn5
  go_enter Try.func4, Try.ntmps4
  go_wp2_with (go_at_call 7; refine HAL.out.mono ?_; rintro e w1 ⟨rfl, hb⟩)
  refine (HB.out _).mono ?_
  rintro e w2 ⟨p, rfl, hP, hb2⟩
  have B2 := Lib.hid (hb.trans (hb2.mono hb.size))
  clear hb2 hb HAL
  go_wp2_with fail
  refine (HRB.out _).mono ?_
  rintro e w3 ⟨q, rfl, hQ, hb3⟩
  have B3 := Lib.hid (B2.out.trans (hb3.mono B2.out.size))
  have hP3 := hP.stays hb3
  clear hb3 hP B2
  go_wp2_with fail
  refine (HF.out _ _ (HN.out.later B3.out (Nat.le_refl _))).mono ?_
  rintro e w4 ⟨rfl, hb4⟩
  have B4 := Lib.hid (B3.out.trans (hb4.mono B3.out.size))
  have hP4 := hP3.stays hb4
  have hQ4 := hQ.stays hb4
  clear hb4 hP3 hQ B3
  go_wp2_with fail
  refine (HRF.out _ _ (HN.out.later B4.out (Nat.le_refl _))).mono ?_
  rintro e w5 ⟨rfl, hb5⟩
  have B5 := Lib.hid (B4.out.trans (hb5.mono B4.out.size))
  have HS := refSameN_calls p q x x w5 (hP4.stays hb5) (hQ4.stays hb5) HXL.out
  rw [decide_eq_true rfl] at HS
  have HS := Lib.hid HS
  unfold BoolDrawn at HS
  clear hb5 hP4 hQ4 B4
  have z1 : (ok == ok) = true := by simp
  have z2 : (is == is) = true := by simp
  have z3 : ((⟨u.toArray⟩ : ByteArray).toList == (⟨u.toArray⟩ : ByteArray).toList) = true := by simp
  go_wp2_with (go_at_call 22; refine HS.out.mono ?_; rintro e w6 ⟨rfl, hd⟩)
  go_ret
  exact ⟨rfl, B5.out.trans (hd.below _)⟩
end Go.Proofs.Ytaaclhgnbdcaaaa
