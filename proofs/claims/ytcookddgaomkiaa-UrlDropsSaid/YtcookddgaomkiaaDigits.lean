/- The walks of Digits and Number, of octet and of the reference. -/
import Derived.Test.YtcookddgaomkiaaBase
namespace Go.Proofs.Ytcookddgaomkiaa
open Go.RowKit

set_option maxHeartbeats 400000 in
theorem digits_calls (s : ByteArray) (w : World) (hs : s.size ≤ maxLen) :
    Calls Try.prog 30 #[.string s] w fun e w' => e = .returned (.bool (Oct.digits s.data.toList)) ∧ w = w' := by
  unfold maxLen at hs
  go_enter Try.func30, Try.ntmps30
  go_wp2
  go_loop [6] (fun i => ∃ k : Nat, k ≤ s.size ∧ i = .int .i64 k ∧ (s.data.toList.take k).all Oct.digitB = true) (fun i => s.size - (intOf i).toNat)
  case atStart => exact ⟨0, Nat.zero_le _, rfl, by simp⟩
  case round =>
    obtain ⟨k, hk, rfl, hall⟩ := hrel
    have HA := Lib.hid hall
    clear hall
    by_cases hlt : k < s.size
    · by_cases h1 : (48 : Int) ≤ (s[k].toNat : Int) <;> by_cases h2 : (s[k].toNat : Int) ≤ (57 : Int)
      · go_wp2
        go_round
        case rel => exact ⟨k + 1, by omega, by go_num, Oct.all_snoc s k hlt HA.out (by simp [Oct.digitB]; omega)⟩
        case measure => simp [intOf]; omega
      all_goals
        go_wp2
        go_ret
        exact ⟨ret_bool (by rw [Oct.digits_no s k hlt (by simp [Oct.digitB]; omega)]), rfl⟩
    · go_wp2
      go_ret
      exact ⟨ret_bool (by rw [Oct.digits_end s k (by omega) HA.out]; rw [Bool.eq_iff_iff]; simp [Oct.bytes_data]), rfl⟩

set_option maxHeartbeats 400000 in
theorem refDigits_calls (s : ByteArray) (w : World) (hs : s.size ≤ maxLen) :
    Calls Try.prog 38 #[.string s] w fun e w' => e = .returned (.bool (Oct.digits s.data.toList)) ∧ w = w' := by
  unfold maxLen at hs
  go_enter Try.func38, Try.ntmps38
  go_wp2
  go_loop [3] (fun i => ∃ k : Nat, k ≤ s.size ∧ i = .int .i64 k ∧ (s.data.toList.take k).all Oct.digitB = true) (fun i => s.size - (intOf i).toNat)
  case atStart => exact ⟨0, Nat.zero_le _, rfl, by simp⟩
  case round =>
    obtain ⟨k, hk, rfl, hall⟩ := hrel
    have HA := Lib.hid hall
    clear hall
    by_cases hlt : k < s.size
    · by_cases h1 : (48 : Int) ≤ (s[k].toNat : Int) <;> by_cases h2 : (s[k].toNat : Int) ≤ (57 : Int)
      · go_wp2
        go_round
        case rel => exact ⟨k + 1, by omega, by go_num, Oct.all_snoc s k hlt HA.out (by simp [Oct.digitB]; omega)⟩
        case measure => simp [intOf]; omega
      all_goals
        go_wp2
        go_ret
        exact ⟨ret_bool (by rw [Oct.digits_no s k hlt (by simp [Oct.digitB]; omega)]), rfl⟩
    · go_wp2
      go_ret
      exact ⟨ret_bool (by rw [Oct.digits_end s k (by omega) HA.out, Bool.eq_iff_iff]; simp [Oct.data_nil, Nat.pos_iff_ne_zero]), rfl⟩
end Go.Proofs.Ytcookddgaomkiaa
