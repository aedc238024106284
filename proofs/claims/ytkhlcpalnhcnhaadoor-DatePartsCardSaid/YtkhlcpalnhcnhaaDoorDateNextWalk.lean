/- The walk of the law DateNext. -/
import Derived.Test.YtkhlcpalnhcnhaaDoorDateAlive
namespace Go.Proofs.YtkhlcpalnhcnhaaDoor
open Go.RowKit
/-- Civil answers no date. -/
theorem civil_no {n : Int} (h : Dt.civil n = none) (W : World) (hW : Cal W) : Calls Tryd.prog 12 #[.int .i64 n] W fun e w' => e = .returned (.tuple #[.int .i64 0, .int .i64 0, .int .i64 0, .bool false]) ∧ Below W.heap.size W w' := by
  have := civil_calls n W hW
  rw [h] at this
  exact this
theorem civil_yes {n y m d : Int} (h : Dt.civil n = some (y, m, d)) (W : World) (hW : Cal W) : Calls Tryd.prog 12 #[.int .i64 n] W fun e w' => e = .returned (.tuple #[.int .i64 y, .int .i64 m, .int .i64 d, .bool true]) ∧ Below W.heap.size W w' := by
  have := civil_calls n W hW
  rw [h] at this
  exact this
set_option maxRecDepth 100000 in
set_option maxHeartbeats 4000000 in
theorem dnext_walk (n : Int) (w : World) (_hn : (Lit.int .i64 n).wf = true) (hw : Cal w) :
    Calls Tryd.prog 7 #[.int .i64 n] w fun e w' => e = .returned (.bool true) ∧ Below w.heap.size w w' := by
  have HA := Lib.hid (fun W hW => date_alive W hW)
  unfold BoolPost at HA
  cases hc : Dt.civil n with
  | none =>
    have H1 := Lib.hid (civil_no hc)
    clear hc
    go_enter Tryd.func7, Tryd.ntmps7
    go_wp2_with fail
    refine (HA.out _ hw).mono ?_
    rintro e w1 ⟨rfl, b1⟩
    have hw1 := hw.below b1
    go_wp2_with fail
    refine (H1.out _ hw1).mono ?_
    rintro e w2 ⟨rfl, b2⟩
    go_wp2
    go_ret
    exact ⟨rfl, b1.trans (b2.mono b1.size)⟩
  | some t =>
    obtain ⟨y, m, d⟩ := t
    have H1 := Lib.hid (civil_yes hc)
    obtain ⟨hI, hd⟩ := Dt.civil_some.1 hc
    have hdb := Dt.days_bounds hI
    have hlb := Dt.len_bounds (Dt.leap y) m
    rw [hd] at hdb
    have hmax : (n == 9223372036854775807) = false := by rw [beq_eq_false_iff_ne]; omega
    have hwr : IntKind.i64.wrap (n + 1) = n + 1 := by rw [IntKind.wrap_i64]; omega
    obtain ⟨i1, i2, i3, i4, i5, i6⟩ := hI
    have hnext := Dt.next (Dt.civil_some.1 hc).1
    rw [hd] at hnext
    clear hc
    have y0 : (y == y + 1) = false := by rw [beq_eq_false_iff_ne]; omega
    have y1 : (y + 1 == y) = false := by rw [beq_eq_false_iff_ne]; omega
    have m0 : (m == m + 1) = false := by rw [beq_eq_false_iff_ne]; omega
    have m1 : (m + 1 == m) = false := by rw [beq_eq_false_iff_ne]; omega
    rcases hnext with ⟨k1, k2, k3⟩ | ⟨k1, k2, k3, k4⟩ | ⟨rfl, rfl, k3, k4, k5⟩ | ⟨rfl, rfl, rfl⟩
    · have H2 := Lib.hid (civil_yes (Dt.civil_some.2 ⟨k2, k3⟩))
      clear k1 k2 k3 hd
      go_enter Tryd.func7, Tryd.ntmps7
      go_wp2_with fail
      refine (HA.out _ hw).mono ?_
      rintro e w1 ⟨rfl, b1⟩
      have hw1 := hw.below b1
      go_wp2_with fail
      refine (H1.out _ hw1).mono ?_
      rintro e w2 ⟨rfl, b2⟩
      have B2 := b1.trans (b2.mono b1.size)
      go_wp2_with fail
      refine (H2.out _ (hw.below B2)).mono ?_
      rintro e w3 ⟨rfl, b3⟩
      go_wp2
      go_ret
      exact ⟨rfl, B2.trans (b3.mono B2.size)⟩
    · have H2 := Lib.hid (civil_yes (Dt.civil_some.2 ⟨k3, k4⟩))
      have k28 : (28 : Int) ≤ d := by omega
      clear k1 k3 k4 hd
      go_enter Tryd.func7, Tryd.ntmps7
      go_wp2_with fail
      refine (HA.out _ hw).mono ?_
      rintro e w1 ⟨rfl, b1⟩
      have hw1 := hw.below b1
      go_wp2_with fail
      refine (H1.out _ hw1).mono ?_
      rintro e w2 ⟨rfl, b2⟩
      have B2 := b1.trans (b2.mono b1.size)
      go_wp2_with fail
      refine (H2.out _ (hw.below B2)).mono ?_
      rintro e w3 ⟨rfl, b3⟩
      go_wp2
      go_ret
      exact ⟨rfl, B2.trans (b3.mono B2.size)⟩
    · have H2 := Lib.hid (civil_yes (Dt.civil_some.2 ⟨k4, k5⟩))
      clear k3 k4 k5 hd
      go_enter Tryd.func7, Tryd.ntmps7
      go_wp2_with fail
      refine (HA.out _ hw).mono ?_
      rintro e w1 ⟨rfl, b1⟩
      have hw1 := hw.below b1
      go_wp2_with fail
      refine (H1.out _ hw1).mono ?_
      rintro e w2 ⟨rfl, b2⟩
      have B2 := b1.trans (b2.mono b1.size)
      go_wp2_with fail
      refine (H2.out _ (hw.below B2)).mono ?_
      rintro e w3 ⟨rfl, b3⟩
      go_wp2
      go_ret
      exact ⟨rfl, B2.trans (b3.mono B2.size)⟩
    · have hn : n = 2932896 := by rw [← hd]; decide
      subst hn
      have H2 := Lib.hid (civil_no (n := 2932896 + 1) (Dt.civil_none.2 (by omega)))
      clear hd
      go_enter Tryd.func7, Tryd.ntmps7
      go_wp2_with fail
      refine (HA.out _ hw).mono ?_
      rintro e w1 ⟨rfl, b1⟩
      have hw1 := hw.below b1
      go_wp2_with fail
      refine (H1.out _ hw1).mono ?_
      rintro e w2 ⟨rfl, b2⟩
      have B2 := b1.trans (b2.mono b1.size)
      go_wp2_with fail
      refine (H2.out _ (hw.below B2)).mono ?_
      rintro e w3 ⟨rfl, b3⟩
      go_wp2
      go_ret
      exact ⟨rfl, B2.trans (b3.mono B2.size)⟩
end Go.Proofs.YtkhlcpalnhcnhaaDoor
