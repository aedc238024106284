/- The walks of the small functions on years and months, of the package and of the reference. -/
import Derived.Test.YtpimaobejjpffaaDoorCal
namespace Go.Proofs.YtpimaobejjpffaaDoor
open Go.RowKit
namespace Dt
theorem leap_tests {y : Int} (h : 0 ≤ y) : ((y.tmod 4 == 0) = decide (y % 4 = 0)) ∧ ((y.tmod 100 != 0) = decide (y % 100 ≠ 0)) ∧ ((y.tmod 400 == 0) = decide (y % 400 = 0)) := by
  rw [Int.tmod_eq_emod_of_nonneg h, Int.tmod_eq_emod_of_nonneg h, Int.tmod_eq_emod_of_nonneg h]
  refine ⟨?_, ?_, ?_⟩
  · by_cases k : y % 4 = 0 <;> simp [k]
  · by_cases k : y % 100 = 0 <;> simp [k]
  · by_cases k : y % 400 = 0 <;> simp [k]
end Dt
set_option maxHeartbeats 1000000 in
theorem leap_calls (y : Int) (w : World) (h1 : 0 ≤ y) :
    Calls Tryd.prog 82 #[.int .i64 y] w fun e w' => e = .returned (.bool (Dt.leap y)) ∧ w = w' := by
  obtain ⟨t4, t100, t400⟩ := Dt.leap_tests h1
  have q4 : y.tmod 4 = y % 4 := Int.tmod_eq_emod_of_nonneg h1
  have q100 : y.tmod 100 = y % 100 := Int.tmod_eq_emod_of_nonneg h1
  have q400 : y.tmod 400 = y % 400 := Int.tmod_eq_emod_of_nonneg h1
  by_cases k4 : y % 4 = 0
  · by_cases k100 : y % 100 = 0
    · by_cases k400 : y % 400 = 0
      · have HL := Lib.hid (show Dt.leap y = true from Dt.leap_true.2 ⟨k4, .inr k400⟩)
        go_enter Tryd.func82, Tryd.ntmps82
        go_wp2
        go_ret
        exact ⟨ret_bool (by rw [HL.out]), rfl⟩
      · have HL := Lib.hid (show Dt.leap y = false from decide_eq_false (by omega))
        go_enter Tryd.func82, Tryd.ntmps82
        go_wp2
        go_ret
        exact ⟨ret_bool (by rw [HL.out]; simpa using k400), rfl⟩
    · have HL := Lib.hid (show Dt.leap y = true from Dt.leap_true.2 ⟨k4, .inl k100⟩)
      go_enter Tryd.func82, Tryd.ntmps82
      go_wp2
      go_ret
      exact ⟨ret_bool (by rw [HL.out]), rfl⟩
  · have HL := Lib.hid (show Dt.leap y = false from decide_eq_false (by omega))
    go_enter Tryd.func82, Tryd.ntmps82
    go_wp2
    go_ret
    exact ⟨ret_bool (by rw [HL.out]), rfl⟩
set_option maxHeartbeats 1000000 in
theorem newYear_calls (y : Int) (w : World) (h1 : 1 ≤ y) (h2 : y ≤ 20000) :
    Calls Tryd.prog 46 #[.int .i64 y] w fun e w' => e = .returned (.int .i64 (Dt.before y - 134774)) ∧ w = w' := by
  have HY := Lib.hid (Dt.before_new y)
  have q1 : (y - 1).tdiv 4 = (y - 1) / 4 := Int.tdiv_eq_ediv_of_nonneg (by omega)
  have q2 : (y - 1).tdiv 100 = (y - 1) / 100 := Int.tdiv_eq_ediv_of_nonneg (by omega)
  have q3 : (y - 1).tdiv 400 = (y - 1) / 400 := Int.tdiv_eq_ediv_of_nonneg (by omega)
  generalize Dt.before y - 134774 = n at *
  go_enter Tryd.func46, Tryd.ntmps46
  go_wp2
  go_ret
  exact ⟨ret_int (by rw [HY.out]), rfl⟩
set_option maxHeartbeats 1000000 in
theorem wholeYear_calls (y : Nat) (w : World) (h2 : y ≤ 20000) :
    Calls Tryd.prog 60 #[.int .i64 (y : Int)] w fun e w' => e = .returned (.int .i64 (Dt.year2 y)) ∧ w = w' := by
  have HY : Hid (Dt.year2 y = if 70 ≤ y ∧ y ≤ 99 then (y : Int) + 1900 else if y ≤ 69 then (y : Int) + 2000 else y) := Lib.hid rfl
  generalize Dt.year2 y = n at *
  by_cases k1 : (y : Int) < 70
  · go_enter Tryd.func60, Tryd.ntmps60
    go_wp2
    go_ret
    exact ⟨ret_int (by rw [HY.out, if_neg (by omega), if_pos (by omega)]), rfl⟩
  · by_cases k2 : (y : Int) < 100
    · go_enter Tryd.func60, Tryd.ntmps60
      go_wp2
      go_ret
      exact ⟨ret_int (by rw [HY.out, if_pos (by omega)]), rfl⟩
    · go_enter Tryd.func60, Tryd.ntmps60
      go_wp2
      go_ret
      exact ⟨ret_int (by rw [HY.out, if_neg (by omega), if_neg (by omega)]), rfl⟩
end Go.Proofs.YtpimaobejjpffaaDoor
