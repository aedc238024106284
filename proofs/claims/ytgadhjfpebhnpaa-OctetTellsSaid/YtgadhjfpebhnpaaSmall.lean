/- The walks of octet's and the reference's functions of one byte. -/
import Derived.Test.YtgadhjfpebhnpaaRows
import Derived.Test.YtgadhjfpebhnpaaPlain
import Derived.WalkKit
import Derived.WalkSpells
import Derived.WalkLawsBesides
import Derived.Lib.Hide
namespace Go.Proofs.Ytgadhjfpebhnpaa
open Go.RowKit

theorem small_calls (c : UInt8) (w : World) :
    Calls Try.prog 30 #[.int .u8 (c.toNat : Int)] w fun e w' => e = .returned (.int .u8 ((Oct.low c).toNat : Int)) ∧ w = w' := by
  have hl := Oct.low_toNat c
  have hc : c.toNat < 256 := c.toNat_lt
  have HL := Lib.hid hl
  clear hl
  by_cases h1 : (65 : Int) ≤ (c.toNat : Int) <;> by_cases h2 : (c.toNat : Int) ≤ (90 : Int)
  all_goals
    go_enter Try.func30, Try.ntmps30
    go_wp2
    go_ret
    exact ⟨ret_int (by rw [HL.out]; split <;> omega), rfl⟩

theorem blank_calls (c : UInt8) (w : World) :
    Calls Try.prog 31 #[.int .u8 (c.toNat : Int)] w fun e w' => e = .returned (.bool (Oct.blankB c)) ∧ w = w' := by
  have hc : c.toNat < 256 := c.toNat_lt
  go_enter Try.func31, Try.ntmps31
  go_wp2
  all_goals
    go_ret
    exact ⟨ret_bool (by rw [Bool.eq_iff_iff]; simp [Oct.blankB]; omega), rfl⟩

theorem refBlank_calls (c : UInt8) (w : World) :
    Calls Try.prog 32 #[.int .u8 (c.toNat : Int)] w fun e w' => e = .returned (.bool (Oct.blankB c)) ∧ w = w' := by
  have hc : c.toNat < 256 := c.toNat_lt
  go_enter Try.func32, Try.ntmps32
  go_wp2
  all_goals
    go_ret
    exact ⟨ret_bool (by rw [Bool.eq_iff_iff]; simp [Oct.blankB]; omega), rfl⟩

theorem plain_calls (c : UInt8) (w : World) :
    Calls Try.prog 35 #[.int .u8 (c.toNat : Int)] w fun e w' => e = .returned (.bool (Oct.plainB c)) ∧ w = w' := by
  have hc : c.toNat < 256 := c.toNat_lt
  go_enter Try.func35, Try.ntmps35
  go_wp2
  all_goals
    go_ret
    exact ⟨ret_bool (by rw [Bool.eq_iff_iff]; simp [Oct.plainB]; omega), rfl⟩

theorem refDigit_calls (n : Int) (w : World) (h0 : 0 ≤ n) (h1 : n < 16) :
    Calls Try.prog 36 #[.int .i64 n] w fun e w' => e = .returned (.int .u8 ((Oct.hexd n.toNat).toNat : Int)) ∧ w = w' := by
  have HL := Lib.hid (Oct.hexd_toNat n.toNat (by omega))
  by_cases h2 : n < 10
  all_goals
    go_enter Try.func36, Try.ntmps36
    go_wp2
    go_ret
    exact ⟨ret_int (by rw [HL.out]; split <;> omega), rfl⟩

theorem hexValue_calls (c : UInt8) (w : World) :
    Calls Try.prog 37 #[.int .u8 (c.toNat : Int)] w fun e w' => e = .returned (.tuple #[.int .u8 ((Oct.hexV c).toNat : Int), .bool (Oct.hexB c)]) ∧ w = w' := by
  have HL := Lib.hid (Oct.hexV_toNat c)
  have hc : c.toNat < 256 := c.toNat_lt
  by_cases h1 : (48 : Int) ≤ (c.toNat : Int) <;> by_cases h2 : (c.toNat : Int) ≤ (57 : Int) <;> by_cases h3 : (65 : Int) ≤ (c.toNat : Int) <;> by_cases h4 : (c.toNat : Int) ≤ (70 : Int)
  all_goals first | (exfalso; omega) | skip
  all_goals
    go_enter Try.func37, Try.ntmps37
    go_wp2
    go_ret2
    refine ⟨ret_two (val_int ?_) (val_bool ?_), rfl⟩
    · rw [HL.out]; split <;> (try split) <;> omega
    · rw [Bool.eq_iff_iff]; simp [Oct.hexB]; omega
end Go.Proofs.Ytgadhjfpebhnpaa
