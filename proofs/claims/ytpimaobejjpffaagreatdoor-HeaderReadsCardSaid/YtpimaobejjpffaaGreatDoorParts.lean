/- The walks of partsTokens and of the reference's parts (made by gen_parts.py's like: one case a range of bytes). -/
import Derived.Test.YtpimaobejjpffaaGreatDoorCal
namespace Go.Proofs.YtpimaobejjpffaaGreatDoor
open Go.RowKit
set_option maxHeartbeats 4000000 in
theorem partsTokens_calls (c : UInt8) (w : World) : Calls Tryz.prog 73 #[.int .u8 (c.toNat : Int)] w fun e w' => e = .returned (.bool (Dt.sepB c)) ∧ w = w' := by
  have hc := c.toNat_lt
  have HB : Hid (Dt.sepB c = decide (c.toNat = 9 ∨ (32 ≤ c.toNat ∧ c.toNat ≤ 47) ∨ (59 ≤ c.toNat ∧ c.toNat ≤ 64) ∨ (91 ≤ c.toNat ∧ c.toNat ≤ 96) ∨ (123 ≤ c.toNat ∧ c.toNat ≤ 126))) := Lib.hid rfl
  generalize Dt.sepB c = r at *
  generalize c.toNat = n at *
  have hor : (0 ≤ n ∧ n ≤ 8) ∨ (9 ≤ n ∧ n ≤ 9) ∨ (10 ≤ n ∧ n ≤ 31) ∨ (32 ≤ n ∧ n ≤ 47) ∨ (48 ≤ n ∧ n ≤ 58) ∨ (59 ≤ n ∧ n ≤ 64) ∨ (65 ≤ n ∧ n ≤ 90) ∨ (91 ≤ n ∧ n ≤ 96) ∨ (97 ≤ n ∧ n ≤ 122) ∨ (123 ≤ n ∧ n ≤ 126) ∨ (127 ≤ n ∧ n ≤ 255) := by omega
  rcases hor with ⟨h1, h2⟩ | ⟨h1, h2⟩ | ⟨h1, h2⟩ | ⟨h1, h2⟩ | ⟨h1, h2⟩ | ⟨h1, h2⟩ | ⟨h1, h2⟩ | ⟨h1, h2⟩ | ⟨h1, h2⟩ | ⟨h1, h2⟩ | ⟨h1, h2⟩
  · have HR : Hid (r = false) := Lib.hid (by rw [HB.out]; exact decide_eq_false (by omega))
    have e9 : ((n : Int) == 9) = false := by rw [beq_eq_false_iff_ne]; omega
    have g32 : ¬ (32 : Int) ≤ (n : Int) := by omega
    have g59 : ¬ (59 : Int) ≤ (n : Int) := by omega
    have g91 : ¬ (91 : Int) ≤ (n : Int) := by omega
    have g123 : ¬ (123 : Int) ≤ (n : Int) := by omega
    clear h1 h2 hc
    go_enter Tryz.func73, Tryz.ntmps73
    go_wp2
    go_ret
    exact ⟨ret_bool (by rw [HR.out]), rfl⟩
  · have HR : Hid (r = true) := Lib.hid (by rw [HB.out]; exact decide_eq_true (by omega))
    have e9 : ((n : Int) == 9) = true := by rw [beq_iff_eq]; omega
    have g32 : ¬ (32 : Int) ≤ (n : Int) := by omega
    have g59 : ¬ (59 : Int) ≤ (n : Int) := by omega
    have g91 : ¬ (91 : Int) ≤ (n : Int) := by omega
    have g123 : ¬ (123 : Int) ≤ (n : Int) := by omega
    clear h1 h2 hc
    go_enter Tryz.func73, Tryz.ntmps73
    go_wp2
    go_ret
    exact ⟨ret_bool (by rw [HR.out]), rfl⟩
  · have HR : Hid (r = false) := Lib.hid (by rw [HB.out]; exact decide_eq_false (by omega))
    have e9 : ((n : Int) == 9) = false := by rw [beq_eq_false_iff_ne]; omega
    have g32 : ¬ (32 : Int) ≤ (n : Int) := by omega
    have g59 : ¬ (59 : Int) ≤ (n : Int) := by omega
    have g91 : ¬ (91 : Int) ≤ (n : Int) := by omega
    have g123 : ¬ (123 : Int) ≤ (n : Int) := by omega
    clear h1 h2 hc
    go_enter Tryz.func73, Tryz.ntmps73
    go_wp2
    go_ret
    exact ⟨ret_bool (by rw [HR.out]), rfl⟩
  · have HR : Hid (r = true) := Lib.hid (by rw [HB.out]; exact decide_eq_true (by omega))
    have e9 : ((n : Int) == 9) = false := by rw [beq_eq_false_iff_ne]; omega
    have g32 : (32 : Int) ≤ (n : Int) := by omega
    have l47 : (n : Int) ≤ (47 : Int) := by omega
    have g59 : ¬ (59 : Int) ≤ (n : Int) := by omega
    have g91 : ¬ (91 : Int) ≤ (n : Int) := by omega
    have g123 : ¬ (123 : Int) ≤ (n : Int) := by omega
    clear h1 h2 hc
    go_enter Tryz.func73, Tryz.ntmps73
    go_wp2
    go_ret
    exact ⟨ret_bool (by rw [HR.out]), rfl⟩
  · have HR : Hid (r = false) := Lib.hid (by rw [HB.out]; exact decide_eq_false (by omega))
    have e9 : ((n : Int) == 9) = false := by rw [beq_eq_false_iff_ne]; omega
    have g32 : (32 : Int) ≤ (n : Int) := by omega
    have l47 : ¬ (n : Int) ≤ (47 : Int) := by omega
    have g59 : ¬ (59 : Int) ≤ (n : Int) := by omega
    have g91 : ¬ (91 : Int) ≤ (n : Int) := by omega
    have g123 : ¬ (123 : Int) ≤ (n : Int) := by omega
    clear h1 h2 hc
    go_enter Tryz.func73, Tryz.ntmps73
    go_wp2
    go_ret
    exact ⟨ret_bool (by rw [HR.out]), rfl⟩
  · have HR : Hid (r = true) := Lib.hid (by rw [HB.out]; exact decide_eq_true (by omega))
    have e9 : ((n : Int) == 9) = false := by rw [beq_eq_false_iff_ne]; omega
    have g32 : (32 : Int) ≤ (n : Int) := by omega
    have l47 : ¬ (n : Int) ≤ (47 : Int) := by omega
    have g59 : (59 : Int) ≤ (n : Int) := by omega
    have l64 : (n : Int) ≤ (64 : Int) := by omega
    have g91 : ¬ (91 : Int) ≤ (n : Int) := by omega
    have g123 : ¬ (123 : Int) ≤ (n : Int) := by omega
    clear h1 h2 hc
    go_enter Tryz.func73, Tryz.ntmps73
    go_wp2
    go_ret
    exact ⟨ret_bool (by rw [HR.out]), rfl⟩
  · have HR : Hid (r = false) := Lib.hid (by rw [HB.out]; exact decide_eq_false (by omega))
    have e9 : ((n : Int) == 9) = false := by rw [beq_eq_false_iff_ne]; omega
    have g32 : (32 : Int) ≤ (n : Int) := by omega
    have l47 : ¬ (n : Int) ≤ (47 : Int) := by omega
    have g59 : (59 : Int) ≤ (n : Int) := by omega
    have l64 : ¬ (n : Int) ≤ (64 : Int) := by omega
    have g91 : ¬ (91 : Int) ≤ (n : Int) := by omega
    have g123 : ¬ (123 : Int) ≤ (n : Int) := by omega
    clear h1 h2 hc
    go_enter Tryz.func73, Tryz.ntmps73
    go_wp2
    go_ret
    exact ⟨ret_bool (by rw [HR.out]), rfl⟩
  · have HR : Hid (r = true) := Lib.hid (by rw [HB.out]; exact decide_eq_true (by omega))
    have e9 : ((n : Int) == 9) = false := by rw [beq_eq_false_iff_ne]; omega
    have g32 : (32 : Int) ≤ (n : Int) := by omega
    have l47 : ¬ (n : Int) ≤ (47 : Int) := by omega
    have g59 : (59 : Int) ≤ (n : Int) := by omega
    have l64 : ¬ (n : Int) ≤ (64 : Int) := by omega
    have g91 : (91 : Int) ≤ (n : Int) := by omega
    have l96 : (n : Int) ≤ (96 : Int) := by omega
    have g123 : ¬ (123 : Int) ≤ (n : Int) := by omega
    clear h1 h2 hc
    go_enter Tryz.func73, Tryz.ntmps73
    go_wp2
    go_ret
    exact ⟨ret_bool (by rw [HR.out]), rfl⟩
  · have HR : Hid (r = false) := Lib.hid (by rw [HB.out]; exact decide_eq_false (by omega))
    have e9 : ((n : Int) == 9) = false := by rw [beq_eq_false_iff_ne]; omega
    have g32 : (32 : Int) ≤ (n : Int) := by omega
    have l47 : ¬ (n : Int) ≤ (47 : Int) := by omega
    have g59 : (59 : Int) ≤ (n : Int) := by omega
    have l64 : ¬ (n : Int) ≤ (64 : Int) := by omega
    have g91 : (91 : Int) ≤ (n : Int) := by omega
    have l96 : ¬ (n : Int) ≤ (96 : Int) := by omega
    have g123 : ¬ (123 : Int) ≤ (n : Int) := by omega
    clear h1 h2 hc
    go_enter Tryz.func73, Tryz.ntmps73
    go_wp2
    go_ret
    exact ⟨ret_bool (by rw [HR.out]), rfl⟩
  · have HR : Hid (r = true) := Lib.hid (by rw [HB.out]; exact decide_eq_true (by omega))
    have e9 : ((n : Int) == 9) = false := by rw [beq_eq_false_iff_ne]; omega
    have g32 : (32 : Int) ≤ (n : Int) := by omega
    have l47 : ¬ (n : Int) ≤ (47 : Int) := by omega
    have g59 : (59 : Int) ≤ (n : Int) := by omega
    have l64 : ¬ (n : Int) ≤ (64 : Int) := by omega
    have g91 : (91 : Int) ≤ (n : Int) := by omega
    have l96 : ¬ (n : Int) ≤ (96 : Int) := by omega
    have g123 : (123 : Int) ≤ (n : Int) := by omega
    have l126 : (n : Int) ≤ (126 : Int) := by omega
    clear h1 h2 hc
    go_enter Tryz.func73, Tryz.ntmps73
    go_wp2
    go_ret
    exact ⟨ret_bool (by rw [HR.out]), rfl⟩
  · have HR : Hid (r = false) := Lib.hid (by rw [HB.out]; exact decide_eq_false (by omega))
    have e9 : ((n : Int) == 9) = false := by rw [beq_eq_false_iff_ne]; omega
    have g32 : (32 : Int) ≤ (n : Int) := by omega
    have l47 : ¬ (n : Int) ≤ (47 : Int) := by omega
    have g59 : (59 : Int) ≤ (n : Int) := by omega
    have l64 : ¬ (n : Int) ≤ (64 : Int) := by omega
    have g91 : (91 : Int) ≤ (n : Int) := by omega
    have l96 : ¬ (n : Int) ≤ (96 : Int) := by omega
    have g123 : (123 : Int) ≤ (n : Int) := by omega
    have l126 : ¬ (n : Int) ≤ (126 : Int) := by omega
    clear h1 h2 hc
    go_enter Tryz.func73, Tryz.ntmps73
    go_wp2
    go_ret
    exact ⟨ret_bool (by rw [HR.out]), rfl⟩
set_option maxHeartbeats 4000000 in
theorem refParts_calls (c : UInt8) (w : World) : Calls Tryz.prog 33 #[.int .u8 (c.toNat : Int)] w fun e w' => e = .returned (.bool (Dt.sepB c)) ∧ w = w' := by
  have hc := c.toNat_lt
  have HB : Hid (Dt.sepB c = decide (c.toNat = 9 ∨ (32 ≤ c.toNat ∧ c.toNat ≤ 47) ∨ (59 ≤ c.toNat ∧ c.toNat ≤ 64) ∨ (91 ≤ c.toNat ∧ c.toNat ≤ 96) ∨ (123 ≤ c.toNat ∧ c.toNat ≤ 126))) := Lib.hid rfl
  generalize Dt.sepB c = r at *
  generalize c.toNat = n at *
  have hor : (0 ≤ n ∧ n ≤ 8) ∨ (9 ≤ n ∧ n ≤ 9) ∨ (10 ≤ n ∧ n ≤ 31) ∨ (32 ≤ n ∧ n ≤ 47) ∨ (48 ≤ n ∧ n ≤ 58) ∨ (59 ≤ n ∧ n ≤ 64) ∨ (65 ≤ n ∧ n ≤ 90) ∨ (91 ≤ n ∧ n ≤ 96) ∨ (97 ≤ n ∧ n ≤ 122) ∨ (123 ≤ n ∧ n ≤ 126) ∨ (127 ≤ n ∧ n ≤ 255) := by omega
  rcases hor with ⟨h1, h2⟩ | ⟨h1, h2⟩ | ⟨h1, h2⟩ | ⟨h1, h2⟩ | ⟨h1, h2⟩ | ⟨h1, h2⟩ | ⟨h1, h2⟩ | ⟨h1, h2⟩ | ⟨h1, h2⟩ | ⟨h1, h2⟩ | ⟨h1, h2⟩
  · have HR : Hid (r = false) := Lib.hid (by rw [HB.out]; exact decide_eq_false (by omega))
    have e9 : ((n : Int) == 9) = false := by rw [beq_eq_false_iff_ne]; omega
    have g32 : ¬ (32 : Int) ≤ (n : Int) := by omega
    have g59 : ¬ (59 : Int) ≤ (n : Int) := by omega
    have g91 : ¬ (91 : Int) ≤ (n : Int) := by omega
    have g123 : ¬ (123 : Int) ≤ (n : Int) := by omega
    clear h1 h2 hc
    go_enter Tryz.func33, Tryz.ntmps33
    go_wp2
    go_ret
    exact ⟨ret_bool (by rw [HR.out]), rfl⟩
  · have HR : Hid (r = true) := Lib.hid (by rw [HB.out]; exact decide_eq_true (by omega))
    have e9 : ((n : Int) == 9) = true := by rw [beq_iff_eq]; omega
    have g32 : ¬ (32 : Int) ≤ (n : Int) := by omega
    have g59 : ¬ (59 : Int) ≤ (n : Int) := by omega
    have g91 : ¬ (91 : Int) ≤ (n : Int) := by omega
    have g123 : ¬ (123 : Int) ≤ (n : Int) := by omega
    clear h1 h2 hc
    go_enter Tryz.func33, Tryz.ntmps33
    go_wp2
    go_ret
    exact ⟨ret_bool (by rw [HR.out]), rfl⟩
  · have HR : Hid (r = false) := Lib.hid (by rw [HB.out]; exact decide_eq_false (by omega))
    have e9 : ((n : Int) == 9) = false := by rw [beq_eq_false_iff_ne]; omega
    have g32 : ¬ (32 : Int) ≤ (n : Int) := by omega
    have g59 : ¬ (59 : Int) ≤ (n : Int) := by omega
    have g91 : ¬ (91 : Int) ≤ (n : Int) := by omega
    have g123 : ¬ (123 : Int) ≤ (n : Int) := by omega
    clear h1 h2 hc
    go_enter Tryz.func33, Tryz.ntmps33
    go_wp2
    go_ret
    exact ⟨ret_bool (by rw [HR.out]), rfl⟩
  · have HR : Hid (r = true) := Lib.hid (by rw [HB.out]; exact decide_eq_true (by omega))
    have e9 : ((n : Int) == 9) = false := by rw [beq_eq_false_iff_ne]; omega
    have g32 : (32 : Int) ≤ (n : Int) := by omega
    have l47 : (n : Int) ≤ (47 : Int) := by omega
    have g59 : ¬ (59 : Int) ≤ (n : Int) := by omega
    have g91 : ¬ (91 : Int) ≤ (n : Int) := by omega
    have g123 : ¬ (123 : Int) ≤ (n : Int) := by omega
    clear h1 h2 hc
    go_enter Tryz.func33, Tryz.ntmps33
    go_wp2
    go_ret
    exact ⟨ret_bool (by rw [HR.out]), rfl⟩
  · have HR : Hid (r = false) := Lib.hid (by rw [HB.out]; exact decide_eq_false (by omega))
    have e9 : ((n : Int) == 9) = false := by rw [beq_eq_false_iff_ne]; omega
    have g32 : (32 : Int) ≤ (n : Int) := by omega
    have l47 : ¬ (n : Int) ≤ (47 : Int) := by omega
    have g59 : ¬ (59 : Int) ≤ (n : Int) := by omega
    have g91 : ¬ (91 : Int) ≤ (n : Int) := by omega
    have g123 : ¬ (123 : Int) ≤ (n : Int) := by omega
    clear h1 h2 hc
    go_enter Tryz.func33, Tryz.ntmps33
    go_wp2
    go_ret
    exact ⟨ret_bool (by rw [HR.out]), rfl⟩
  · have HR : Hid (r = true) := Lib.hid (by rw [HB.out]; exact decide_eq_true (by omega))
    have e9 : ((n : Int) == 9) = false := by rw [beq_eq_false_iff_ne]; omega
    have g32 : (32 : Int) ≤ (n : Int) := by omega
    have l47 : ¬ (n : Int) ≤ (47 : Int) := by omega
    have g59 : (59 : Int) ≤ (n : Int) := by omega
    have l64 : (n : Int) ≤ (64 : Int) := by omega
    have g91 : ¬ (91 : Int) ≤ (n : Int) := by omega
    have g123 : ¬ (123 : Int) ≤ (n : Int) := by omega
    clear h1 h2 hc
    go_enter Tryz.func33, Tryz.ntmps33
    go_wp2
    go_ret
    exact ⟨ret_bool (by rw [HR.out]), rfl⟩
  · have HR : Hid (r = false) := Lib.hid (by rw [HB.out]; exact decide_eq_false (by omega))
    have e9 : ((n : Int) == 9) = false := by rw [beq_eq_false_iff_ne]; omega
    have g32 : (32 : Int) ≤ (n : Int) := by omega
    have l47 : ¬ (n : Int) ≤ (47 : Int) := by omega
    have g59 : (59 : Int) ≤ (n : Int) := by omega
    have l64 : ¬ (n : Int) ≤ (64 : Int) := by omega
    have g91 : ¬ (91 : Int) ≤ (n : Int) := by omega
    have g123 : ¬ (123 : Int) ≤ (n : Int) := by omega
    clear h1 h2 hc
    go_enter Tryz.func33, Tryz.ntmps33
    go_wp2
    go_ret
    exact ⟨ret_bool (by rw [HR.out]), rfl⟩
  · have HR : Hid (r = true) := Lib.hid (by rw [HB.out]; exact decide_eq_true (by omega))
    have e9 : ((n : Int) == 9) = false := by rw [beq_eq_false_iff_ne]; omega
    have g32 : (32 : Int) ≤ (n : Int) := by omega
    have l47 : ¬ (n : Int) ≤ (47 : Int) := by omega
    have g59 : (59 : Int) ≤ (n : Int) := by omega
    have l64 : ¬ (n : Int) ≤ (64 : Int) := by omega
    have g91 : (91 : Int) ≤ (n : Int) := by omega
    have l96 : (n : Int) ≤ (96 : Int) := by omega
    have g123 : ¬ (123 : Int) ≤ (n : Int) := by omega
    clear h1 h2 hc
    go_enter Tryz.func33, Tryz.ntmps33
    go_wp2
    go_ret
    exact ⟨ret_bool (by rw [HR.out]), rfl⟩
  · have HR : Hid (r = false) := Lib.hid (by rw [HB.out]; exact decide_eq_false (by omega))
    have e9 : ((n : Int) == 9) = false := by rw [beq_eq_false_iff_ne]; omega
    have g32 : (32 : Int) ≤ (n : Int) := by omega
    have l47 : ¬ (n : Int) ≤ (47 : Int) := by omega
    have g59 : (59 : Int) ≤ (n : Int) := by omega
    have l64 : ¬ (n : Int) ≤ (64 : Int) := by omega
    have g91 : (91 : Int) ≤ (n : Int) := by omega
    have l96 : ¬ (n : Int) ≤ (96 : Int) := by omega
    have g123 : ¬ (123 : Int) ≤ (n : Int) := by omega
    clear h1 h2 hc
    go_enter Tryz.func33, Tryz.ntmps33
    go_wp2
    go_ret
    exact ⟨ret_bool (by rw [HR.out]), rfl⟩
  · have HR : Hid (r = true) := Lib.hid (by rw [HB.out]; exact decide_eq_true (by omega))
    have e9 : ((n : Int) == 9) = false := by rw [beq_eq_false_iff_ne]; omega
    have g32 : (32 : Int) ≤ (n : Int) := by omega
    have l47 : ¬ (n : Int) ≤ (47 : Int) := by omega
    have g59 : (59 : Int) ≤ (n : Int) := by omega
    have l64 : ¬ (n : Int) ≤ (64 : Int) := by omega
    have g91 : (91 : Int) ≤ (n : Int) := by omega
    have l96 : ¬ (n : Int) ≤ (96 : Int) := by omega
    have g123 : (123 : Int) ≤ (n : Int) := by omega
    have l126 : (n : Int) ≤ (126 : Int) := by omega
    clear h1 h2 hc
    go_enter Tryz.func33, Tryz.ntmps33
    go_wp2
    go_ret
    exact ⟨ret_bool (by rw [HR.out]), rfl⟩
  · have HR : Hid (r = false) := Lib.hid (by rw [HB.out]; exact decide_eq_false (by omega))
    have e9 : ((n : Int) == 9) = false := by rw [beq_eq_false_iff_ne]; omega
    have g32 : (32 : Int) ≤ (n : Int) := by omega
    have l47 : ¬ (n : Int) ≤ (47 : Int) := by omega
    have g59 : (59 : Int) ≤ (n : Int) := by omega
    have l64 : ¬ (n : Int) ≤ (64 : Int) := by omega
    have g91 : (91 : Int) ≤ (n : Int) := by omega
    have l96 : ¬ (n : Int) ≤ (96 : Int) := by omega
    have g123 : (123 : Int) ≤ (n : Int) := by omega
    have l126 : ¬ (n : Int) ≤ (126 : Int) := by omega
    clear h1 h2 hc
    go_enter Tryz.func33, Tryz.ntmps33
    go_wp2
    go_ret
    exact ⟨ret_bool (by rw [HR.out]), rfl⟩
end Go.Proofs.YtpimaobejjpffaaGreatDoor
