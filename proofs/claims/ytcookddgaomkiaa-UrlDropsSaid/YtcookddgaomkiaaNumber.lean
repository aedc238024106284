/- The walks of Number, of octet and of the reference. -/
import Derived.Test.YtcookddgaomkiaaDigits
namespace Go.Proofs.Ytcookddgaomkiaa
open Go.RowKit

set_option maxHeartbeats 400000 in
theorem number_long (s : ByteArray) (w : World) (hs : s.size ≤ maxLen) (h18 : 18 < s.size) :
    Calls Try.prog 35 #[.string s] w fun e w' => e = .returned (.tuple #[.int .i64 (Oct.number s.data.toList : Nat), .bool (Oct.isNum s.data.toList)]) ∧ w = w' := by
  unfold maxLen at hs
  have H := Lib.hid (Oct.num_long s h18)
  go_enter Try.func35, Try.ntmps35
  go_wp2
  go_ret2
  exact ⟨ret_two (val_int (by rw [Oct.number_no H.out]; rfl)) (val_bool H.out.symm), rfl⟩

set_option maxHeartbeats 400000 in
theorem number_nodigits (s : ByteArray) (w : World) (hs : s.size ≤ maxLen) (h18 : s.size ≤ 18) (hd : Oct.digits s.data.toList = false) :
    Calls Try.prog 35 #[.string s] w fun e w' => e = .returned (.tuple #[.int .i64 (Oct.number s.data.toList : Nat), .bool (Oct.isNum s.data.toList)]) ∧ w = w' := by
  have H := Lib.hid (Oct.num_no s hd)
  have HS := Lib.hid hs
  clear hs
  go_enter Try.func35, Try.ntmps35
  go_wp2_with (go_at_call 30; refine (digits_calls _ _ HS.out).mono ?_; rintro e w' ⟨rfl, rfl⟩)
  go_ret2
  exact ⟨ret_two (val_int (by rw [Oct.number_no H.out]; rfl)) (val_bool H.out.symm), rfl⟩

set_option maxHeartbeats 400000 in
theorem number_nought (s : ByteArray) (w : World) (hs : s.size ≤ maxLen) (h18 : s.size ≤ 18) (hd : Oct.digits s.data.toList = true) (h1 : 1 < s.size) (h0 : (s[0].toNat : Int) = 48) :
    Calls Try.prog 35 #[.string s] w fun e w' => e = .returned (.tuple #[.int .i64 (Oct.number s.data.toList : Nat), .bool (Oct.isNum s.data.toList)]) ∧ w = w' := by
  have H := Lib.hid (Oct.num_nought s h1 h0)
  have HS := Lib.hid hs
  have hne : (s.toList == [48]) = false := by
    rw [beq_eq_false_iff_ne, Oct.bytes_data]
    intro e
    have := (Oct.one_bytes s (by omega) 48).1 e
    omega
  clear hs
  go_enter Try.func35, Try.ntmps35
  go_wp2_with (go_at_call 30; refine (digits_calls _ _ HS.out).mono ?_; rintro e w' ⟨rfl, rfl⟩)
  go_ret2
  exact ⟨ret_two (val_int (by rw [Oct.number_no H.out]; rfl)) (val_bool H.out.symm), rfl⟩

set_option maxHeartbeats 1000000 in
theorem number_yes (s : ByteArray) (w : World) (hs : s.size ≤ maxLen) (h18 : s.size ≤ 18) (hd : Oct.digits s.data.toList = true) (h1 : (s[0]'(Oct.digits_pos hd)).toNat = 48 → s.size = 1) :
    Calls Try.prog 35 #[.string s] w fun e w' => e = .returned (.tuple #[.int .i64 (Oct.number s.data.toList : Nat), .bool (Oct.isNum s.data.toList)]) ∧ w = w' := by
  have H := Lib.hid (Oct.num_yes s hd h18 h1)
  have HS := Lib.hid hs
  have hp := Oct.digits_pos hd
  have HD := Lib.hid hd
  have hor : ((s[0].toNat : Int) == 48) = false ∨ (((s[0].toNat : Int) == 48) = true ∧ (s.toList == [48]) = true) := by
    by_cases h : s[0].toNat = 48
    · refine .inr ⟨by simp; omega, ?_⟩
      rw [beq_iff_eq, Oct.bytes_data]
      exact (Oct.one_bytes s hp 48).2 ⟨Oct.eq_of_toNat h, h1 h⟩
    · exact .inl (by simp; omega)
  clear hs h1
  rcases hor with h2 | ⟨h2, h3⟩
  all_goals
    go_enter Try.func35, Try.ntmps35
    go_wp2_with (go_at_call 30; refine (digits_calls _ _ HS.out).mono ?_; rintro e w' ⟨rfl, rfl⟩)
    clear hd
    go_loop [4, 23] (fun n i => ∃ k : Nat, k ≤ s.size ∧ i = .int .i64 k ∧ n = .int .i64 ((Oct.numOf (s.data.toList.take k) : Nat) : Int)) (fun _ i => s.size - (intOf i).toNat)
    case atStart => exact ⟨0, Nat.zero_le _, rfl, by simp [Oct.numOf]⟩
    case round =>
      obtain ⟨k, hk, rfl, rfl⟩ := hrel
      by_cases hlt : k < s.size
      · have hb := Oct.numOf_small HD.out h18 k hlt
        have hc := Oct.digits_at HD.out k hlt
        have HT := Lib.hid (Oct.numOf_take s k hlt)
        generalize Oct.numOf (s.data.toList.take k) = n at *
        go_wp2
        go_round
        case rel => exact ⟨k + 1, by omega, by go_num, val_int (by rw [HT.out]; omega)⟩
        case measure => simp [intOf]; omega
      · have HT := Lib.hid (Oct.take_all s k (by omega))
        go_wp2
        go_ret2
        exact ⟨ret_two (val_int (by rw [Oct.number_yes H.out, HT.out])) (val_bool H.out.symm), rfl⟩

theorem number_calls (s : ByteArray) (w : World) (hs : s.size ≤ maxLen) :
    Calls Try.prog 35 #[.string s] w fun e w' => e = .returned (.tuple #[.int .i64 (Oct.number s.data.toList : Nat), .bool (Oct.isNum s.data.toList)]) ∧ w = w' := by
  by_cases h18 : s.size ≤ 18
  · cases hd : Oct.digits s.data.toList with
    | false => exact number_nodigits s w hs h18 hd
    | true =>
      by_cases h1 : (s[0]'(Oct.digits_pos hd)).toNat = 48 → s.size = 1
      · exact number_yes s w hs h18 hd h1
      · have hp := Oct.digits_pos hd
        have : (s[0]'hp).toNat = 48 ∧ s.size ≠ 1 := by
          by_cases h : (s[0]'hp).toNat = 48
          · exact ⟨h, fun e => h1 fun _ => e⟩
          · exact absurd (fun k => absurd k h) h1
        exact number_nought s w hs h18 hd (by omega) (by have := this.1; omega)
  · exact number_long s w hs (by omega)
end Go.Proofs.Ytcookddgaomkiaa
