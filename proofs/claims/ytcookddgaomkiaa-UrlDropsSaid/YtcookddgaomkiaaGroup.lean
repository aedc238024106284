/- The walks of hexDigit, group, fits, and of the reference's digit. -/
import Derived.Test.YtcookddgaomkiaaFrom
namespace Go.Proofs.Ytcookddgaomkiaa
open Go.RowKit
namespace Adr
/-- The group that a text is, or 0. -/
def grpOf (l : List UInt8) : UInt16 := if isGrp l then grp l else 0
theorem grpOf_no {l : List UInt8} (h : isGrp l = false) : grpOf l = 0 := by unfold grpOf; rw [h]; rfl
theorem grpOf_yes {l : List UInt8} (h : isGrp l = true) : grpOf l = grp l := by unfold grpOf; rw [h]; rfl
theorem grpN_small (s : ByteArray) (h4 : s.size ≤ 4) (k : Nat) (hk : k < s.size) : grpN (s.data.toList.take k) ≤ 4095 := by
  have h1 := grpN_lt (s.data.toList.take k)
  have h3 : (s.data.toList.take k).length ≤ 3 := by have := List.length_take_le k s.data.toList; omega
  have h2 : 16 ^ (s.data.toList.take k).length ≤ 16 ^ 3 := Nat.pow_le_pow_right (by omega) h3
  omega
theorem grpN_take (s : ByteArray) (k : Nat) (h : k < s.size) : grpN (s.data.toList.take (k + 1)) = grpN (s.data.toList.take k) * 16 + hexN s[k] := by
  rw [Oct.take_snoc s k h, grpN_snoc]
theorem isGrp_len {s : ByteArray} (h : s.size < 1 ∨ 4 < s.size) : isGrp s.data.toList = false := by
  unfold isGrp; rw [decide_eq_false (by rw [Oct.length_bytes]; omega)]; rfl
theorem isGrp_no {s : ByteArray} (k : Nat) (h : k < s.size) (hp : hexB s[k] = false) : isGrp s.data.toList = false := by
  unfold isGrp; rw [Oct.all_not s k h hp]; simp
theorem isGrp_yes {s : ByteArray} (k : Nat) (h : s.size ≤ k) (ha : (s.data.toList.take k).all hexB = true) (h1 : 1 ≤ s.size) (h4 : s.size ≤ 4) : isGrp s.data.toList = true := by
  rw [Oct.take_all s k h] at ha
  unfold isGrp; rw [ha, decide_eq_true (by rw [Oct.length_bytes]; omega)]; rfl
theorem or_four (n : Nat) (d : Nat) (hn : n ≤ 4095) (hd : d < 16) : bits .or .u16 ((n : Int) * 16) (d : Int) = ((n * 16 + d : Nat) : Int) := by
  rw [show (n : Int) * 16 = ((n * 16 : Nat) : Int) by omega, u16_or_nat _ _ (by omega) (by omega)]
  exact congrArg Int.ofNat (or_parts 4 n d (by omega))
theorem hexN_eq (c : UInt8) : hexN c = if 48 ≤ c.toNat ∧ c.toNat ≤ 57 then c.toNat - 48 else if 97 ≤ c.toNat ∧ c.toNat ≤ 102 then c.toNat - 87 else if 65 ≤ c.toNat ∧ c.toNat ≤ 70 then c.toNat - 55 else 0 := rfl
theorem hexB_eq (c : UInt8) : hexB c = decide ((48 ≤ c.toNat ∧ c.toNat ≤ 57) ∨ (97 ≤ c.toNat ∧ c.toNat ≤ 102) ∨ (65 ≤ c.toNat ∧ c.toNat ≤ 70)) := rfl
def digI (c : UInt8) : Int := if hexB c = true then ((hexN c : Nat) : Int) else -1
theorem digI_eq (c : UInt8) : digI c = if hexB c = true then ((hexN c : Nat) : Int) else -1 := rfl
end Adr

theorem hexDigit_calls (c : UInt8) (w : World) :
    Calls Try.prog 77 #[.int .u8 (c.toNat : Int)] w fun e w' => e = .returned (.tuple #[.int .u8 ((Adr.hexN c : Nat) : Int), .bool (Adr.hexB c)]) ∧ w = w' := by
  have HL := Lib.hid (Adr.hexN_eq c)
  have HB := Lib.hid (Adr.hexB_eq c)
  have hc : c.toNat < 256 := c.toNat_lt
  by_cases h1 : (48 : Int) ≤ (c.toNat : Int) <;> by_cases h2 : (c.toNat : Int) ≤ (57 : Int) <;> by_cases h3 : (65 : Int) ≤ (c.toNat : Int) <;> by_cases h4 : (c.toNat : Int) ≤ (70 : Int) <;> by_cases h5 : (97 : Int) ≤ (c.toNat : Int) <;> by_cases h6 : (c.toNat : Int) ≤ (102 : Int)
  all_goals first | (exfalso; omega) | skip
  all_goals
    go_enter Try.func77, Try.ntmps77
    go_wp2
    go_ret2
    refine ⟨ret_two (val_int ?_) (val_bool ?_), rfl⟩
    · rw [HL.out]; split <;> (try split) <;> (try split) <;> omega
    · rw [HB.out, Bool.eq_iff_iff]; simp; omega

theorem refDigit_calls (c : UInt8) (w : World) :
    Calls Try.prog 70 #[.int .u8 (c.toNat : Int)] w fun e w' => e = .returned (.int .i64 (Adr.digI c)) ∧ w = w' := by
  have HD := Lib.hid (Adr.digI_eq c)
  have HL := Lib.hid (Adr.hexN_eq c)
  have HB := Lib.hid (Adr.hexB_eq c)
  have hc : c.toNat < 256 := c.toNat_lt
  by_cases h1 : (48 : Int) ≤ (c.toNat : Int) <;> by_cases h2 : (c.toNat : Int) ≤ (57 : Int) <;> by_cases h3 : (65 : Int) ≤ (c.toNat : Int) <;> by_cases h4 : (c.toNat : Int) ≤ (70 : Int) <;> by_cases h5 : (97 : Int) ≤ (c.toNat : Int) <;> by_cases h6 : (c.toNat : Int) ≤ (102 : Int)
  all_goals first | (exfalso; omega) | skip
  all_goals
    go_enter Try.func70, Try.ntmps70
    go_wp2
    go_ret
    refine ⟨ret_int ?_, rfl⟩
    rw [HD.out, HL.out, HB.out]
    simp only [decide_eq_true_eq]
    split <;> (try split) <;> (try split) <;> (try split) <;> omega

theorem fits_calls (n : Nat) (gap : Bool) (w : World) (hn : n ≤ 1099511627776) :
    Calls Try.prog 66 #[.int .i64 (n : Int), .bool gap] w fun e w' => e = .returned (.bool (Adr.fits n gap)) ∧ w = w' := by
  cases gap
  all_goals
    go_enter Try.func66, Try.ntmps66
    go_wp2
    go_ret
    exact ⟨ret_bool (by unfold Adr.fits; rw [Bool.eq_iff_iff]; simp; omega), rfl⟩

set_option maxHeartbeats 1000000 in
theorem group_calls (s : ByteArray) (w : World) (hs : s.size ≤ maxLen) :
    Calls Try.prog 74 #[.string s] w fun e w' => e = .returned (.tuple #[.int .u16 ((Adr.grpOf s.data.toList).toNat : Int), .bool (Adr.isGrp s.data.toList)]) ∧ w = w' := by
  unfold maxLen at hs
  by_cases hout : s.size < 1 ∨ 4 < s.size
  · have H := Lib.hid (Adr.isGrp_len hout)
    have hor : (s.size < 1) ∨ (¬ (s.size : Int) < 1 ∧ 4 < s.size) := by omega
    clear hout
    rcases hor with h1 | ⟨h1, h2⟩
    all_goals
      go_enter Try.func74, Try.ntmps74
      go_wp2
      go_ret2
      exact ⟨ret_two (val_int (by rw [Adr.grpOf_no H.out]; rfl)) (val_bool H.out.symm), rfl⟩
  · have h1 : 1 ≤ s.size := by omega
    have h4 : s.size ≤ 4 := by omega
    clear hout
    go_enter Try.func74, Try.ntmps74
    go_wp2
    go_loop [4, 18] (fun v i => ∃ k : Nat, k ≤ s.size ∧ i = .int .i64 k ∧ v = .int .u16 ((Adr.grpN (s.data.toList.take k) : Nat) : Int) ∧ (s.data.toList.take k).all Adr.hexB = true) (fun _ i => s.size - (intOf i).toNat)
    case atStart => exact ⟨0, Nat.zero_le _, rfl, by simp [Adr.grpN], by simp⟩
    case round =>
      obtain ⟨k, hk, rfl, rfl, hall⟩ := hrel
      have HA := Lib.hid hall
      clear hall
      by_cases hlt : k < s.size
      · have hb := Adr.grpN_small s h4 k hlt
        have HT := Lib.hid (Adr.grpN_take s k hlt)
        have hd := Adr.hexN_lt s[k]
        have hor := Adr.or_four (Adr.grpN (s.data.toList.take k)) (Adr.hexN s[k]) hb hd
        cases hh : Adr.hexB s[k] with
        | true =>
          have HY := Lib.hid (Oct.all_snoc s k hlt HA.out hh)
          have HC := Lib.hid (hexDigit_calls s[k])
          rw [hh] at HC
          clear hh
          generalize Adr.grpN (s.data.toList.take k) = n at *
          generalize Adr.hexN s[k] = d at *
          go_wp2_with (go_at_call 77; refine (HC.out _).mono ?_; rintro e w' ⟨rfl, rfl⟩)
          go_round
          case rel => exact ⟨k + 1, by omega, by go_num, val_int (by rw [HT.out]; omega), HY.out⟩
          case measure => simp [intOf]; omega
        | false =>
          have HN := Lib.hid (Adr.isGrp_no k hlt hh)
          have HC := Lib.hid (hexDigit_calls s[k])
          rw [hh] at HC
          clear hh
          generalize Adr.hexN s[k] = d at *
          go_wp2_with (go_at_call 77; refine (HC.out _).mono ?_; rintro e w' ⟨rfl, rfl⟩)
          go_ret2
          exact ⟨ret_two (val_int (by rw [Adr.grpOf_no HN.out]; rfl)) (val_bool HN.out.symm), rfl⟩
      · have HY := Lib.hid (Adr.isGrp_yes k (by omega) HA.out h1 h4)
        have HT := Lib.hid (Oct.take_all s k (by omega))
        have HZ := Lib.hid (Adr.grp_toNat (l := s.data.toList) (by rw [Oct.length_bytes]; exact h4))
        go_wp2
        go_ret2
        exact ⟨ret_two (val_int (by rw [Adr.grpOf_yes HY.out, HZ.out, HT.out])) (val_bool HY.out.symm), rfl⟩
end Go.Proofs.Ytcookddgaomkiaa
