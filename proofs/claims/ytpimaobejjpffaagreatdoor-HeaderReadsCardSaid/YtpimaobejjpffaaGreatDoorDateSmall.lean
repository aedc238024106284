/- The walks of the small functions on years and months, of the package and of the reference. -/
import Derived.Test.YtpimaobejjpffaaGreatDoorCal
namespace Go.Proofs.YtpimaobejjpffaaGreatDoor
open Go.RowKit
namespace Dt
theorem leap_tests {y : Int} (h : 0 ≤ y) : ((y.tmod 4 == 0) = decide (y % 4 = 0)) ∧ ((y.tmod 100 != 0) = decide (y % 100 ≠ 0)) ∧ ((y.tmod 400 == 0) = decide (y % 400 = 0)) := by
  rw [Int.tmod_eq_emod_of_nonneg h, Int.tmod_eq_emod_of_nonneg h, Int.tmod_eq_emod_of_nonneg h]
  refine ⟨?_, ?_, ?_⟩
  · by_cases k : y % 4 = 0 <;> simp [k]
  · by_cases k : y % 100 = 0 <;> simp [k]
  · by_cases k : y % 400 = 0 <;> simp [k]
end Dt
set_option maxHeartbeats 1000000 in
theorem leap_calls (y : Int) (w : World) (h1 : 0 ≤ y) :
    Calls Tryz.prog 100 #[.int .i64 y] w fun e w' => e = .returned (.bool (Dt.leap y)) ∧ w = w' := by
  obtain ⟨t4, t100, t400⟩ := Dt.leap_tests h1
  have q4 : y.tmod 4 = y % 4 := Int.tmod_eq_emod_of_nonneg h1
  have q100 : y.tmod 100 = y % 100 := Int.tmod_eq_emod_of_nonneg h1
  have q400 : y.tmod 400 = y % 400 := Int.tmod_eq_emod_of_nonneg h1
  by_cases k4 : y % 4 = 0
  · by_cases k100 : y % 100 = 0
    · by_cases k400 : y % 400 = 0
      · have HL := Lib.hid (show Dt.leap y = true from Dt.leap_true.2 ⟨k4, .inr k400⟩)
        go_enter Tryz.func100, Tryz.ntmps100
        go_wp2
        go_ret
        exact ⟨ret_bool (by rw [HL.out]), rfl⟩
      · have HL := Lib.hid (show Dt.leap y = false from decide_eq_false (by omega))
        go_enter Tryz.func100, Tryz.ntmps100
        go_wp2
        go_ret
        exact ⟨ret_bool (by rw [HL.out]; simpa using k400), rfl⟩
    · have HL := Lib.hid (show Dt.leap y = true from Dt.leap_true.2 ⟨k4, .inl k100⟩)
      go_enter Tryz.func100, Tryz.ntmps100
      go_wp2
      go_ret
      exact ⟨ret_bool (by rw [HL.out]), rfl⟩
  · have HL := Lib.hid (show Dt.leap y = false from decide_eq_false (by omega))
    go_enter Tryz.func100, Tryz.ntmps100
    go_wp2
    go_ret
    exact ⟨ret_bool (by rw [HL.out]), rfl⟩
set_option maxHeartbeats 1000000 in
theorem refLeap_calls (y : Int) (w : World) (h1 : 0 ≤ y) :
    Calls Tryz.prog 81 #[.int .i64 y] w fun e w' => e = .returned (.bool (Dt.leap y)) ∧ w = w' := by
  have q4 : y.tmod 4 = y % 4 := Int.tmod_eq_emod_of_nonneg h1
  have q100 : y.tmod 100 = y % 100 := Int.tmod_eq_emod_of_nonneg h1
  have q400 : y.tmod 400 = y % 400 := Int.tmod_eq_emod_of_nonneg h1
  by_cases k400 : y % 400 = 0
  · have HL := Lib.hid (show Dt.leap y = true from Dt.leap_true.2 ⟨by omega, .inr k400⟩)
    go_enter Tryz.func81, Tryz.ntmps81
    go_wp2
    go_ret
    exact ⟨ret_bool (by rw [HL.out]), rfl⟩
  · by_cases k4 : y % 4 = 0
    · by_cases k100 : y % 100 = 0
      · have HL := Lib.hid (show Dt.leap y = false from decide_eq_false (by omega))
        go_enter Tryz.func81, Tryz.ntmps81
        go_wp2
        go_ret
        exact ⟨ret_bool (by rw [HL.out]), rfl⟩
      · have HL := Lib.hid (show Dt.leap y = true from Dt.leap_true.2 ⟨k4, .inl k100⟩)
        go_enter Tryz.func81, Tryz.ntmps81
        go_wp2
        go_ret
        exact ⟨ret_bool (by rw [HL.out]; simpa using k100), rfl⟩
    · have HL := Lib.hid (show Dt.leap y = false from decide_eq_false (by omega))
      go_enter Tryz.func81, Tryz.ntmps81
      go_wp2
      go_ret
      exact ⟨ret_bool (by rw [HL.out]), rfl⟩
set_option maxHeartbeats 1000000 in
theorem refYear_calls (y : Int) (w : World) (h1 : 0 ≤ y) :
    Calls Tryz.prog 58 #[.int .i64 y] w fun e w' => e = .returned (.int .i64 (Dt.yday y)) ∧ w = w' := by
  have HC := Lib.hid (fun W => refLeap_calls y W h1)
  have HY : Hid (Dt.yday y = if Dt.leap y = true then 366 else 365) := Lib.hid rfl
  generalize Dt.yday y = n at *
  cases hl : Dt.leap y
  all_goals
    rw [hl] at HC HY
    go_enter Tryz.func58, Tryz.ntmps58
    go_wp2_with (go_at_call 81; refine (HC.out _).mono ?_; rintro e w' ⟨rfl, rfl⟩)
    go_ret
    exact ⟨ret_int (by rw [HY.out]; rfl), rfl⟩
set_option maxHeartbeats 1000000 in
theorem newYear_calls (y : Int) (w : World) (h1 : 1 ≤ y) (h2 : y ≤ 20000) :
    Calls Tryz.prog 63 #[.int .i64 y] w fun e w' => e = .returned (.int .i64 (Dt.before y - 134774)) ∧ w = w' := by
  have HY := Lib.hid (Dt.before_new y)
  have q1 : (y - 1).tdiv 4 = (y - 1) / 4 := Int.tdiv_eq_ediv_of_nonneg (by omega)
  have q2 : (y - 1).tdiv 100 = (y - 1) / 100 := Int.tdiv_eq_ediv_of_nonneg (by omega)
  have q3 : (y - 1).tdiv 400 = (y - 1) / 400 := Int.tdiv_eq_ediv_of_nonneg (by omega)
  generalize Dt.before y - 134774 = n at *
  go_enter Tryz.func63, Tryz.ntmps63
  go_wp2
  go_ret
  exact ⟨ret_int (by rw [HY.out]), rfl⟩
set_option maxHeartbeats 1000000 in
theorem wholeYear_calls (y : Nat) (w : World) (h2 : y ≤ 20000) :
    Calls Tryz.prog 77 #[.int .i64 (y : Int)] w fun e w' => e = .returned (.int .i64 (Dt.year2 y)) ∧ w = w' := by
  have HY : Hid (Dt.year2 y = if 70 ≤ y ∧ y ≤ 99 then (y : Int) + 1900 else if y ≤ 69 then (y : Int) + 2000 else y) := Lib.hid rfl
  generalize Dt.year2 y = n at *
  by_cases k1 : (y : Int) < 70
  · go_enter Tryz.func77, Tryz.ntmps77
    go_wp2
    go_ret
    exact ⟨ret_int (by rw [HY.out, if_neg (by omega), if_pos (by omega)]), rfl⟩
  · by_cases k2 : (y : Int) < 100
    · go_enter Tryz.func77, Tryz.ntmps77
      go_wp2
      go_ret
      exact ⟨ret_int (by rw [HY.out, if_pos (by omega)]), rfl⟩
    · go_enter Tryz.func77, Tryz.ntmps77
      go_wp2
      go_ret
      exact ⟨ret_int (by rw [HY.out, if_neg (by omega), if_neg (by omega)]), rfl⟩
end Go.Proofs.YtpimaobejjpffaaGreatDoor
