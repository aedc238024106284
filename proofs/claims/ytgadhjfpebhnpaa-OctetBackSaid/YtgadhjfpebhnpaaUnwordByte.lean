/- The walk of unwordByte. -/
import Derived.Test.YtgadhjfpebhnpaaSmall
import Derived.Test.YtgadhjfpebhnpaaUnwordPlain
import Derived.Laws.BitsAllLaws
namespace Go.Proofs.Ytgadhjfpebhnpaa
open Go.RowKit
namespace Oct
theorem bytes1 (t : ByteArray) (h : 0 < t.size) : t.data.toList = t[0] :: t.data.toList.drop 1 := by
  have := List.drop_eq_getElem_cons (l := t.data.toList) (i := 0) (by rw [Array.length_toList]; exact h)
  rw [List.drop_zero] at this
  exact this
theorem bytes3 (t : ByteArray) (h : 2 < t.size) : t.data.toList = t[0] :: t[1] :: t[2] :: t.data.toList.drop 3 := by
  have e0 := bytes1 t (by omega)
  have e1 := List.drop_eq_getElem_cons (l := t.data.toList) (i := 1) (by rw [Array.length_toList]; show 1 < t.size; omega)
  have e2 := List.drop_eq_getElem_cons (l := t.data.toList) (i := 2) (by rw [Array.length_toList]; exact h)
  rw [e1, e2] at e0
  exact e0
theorem next_plain (t : ByteArray) (h : 0 < t.size) (hp : plainB t[0] = true) : next t.data.toList = (t[0], 1) := by
  rw [bytes1 t h]; exact next_cons _ hp
theorem next_short (t : ByteArray) (h : 0 < t.size) (hp : plainB t[0] = false) (hs : t.size < 3) : next t.data.toList = (0, 0) := by
  rw [bytes1 t h]
  have hl : (t.data.toList.drop 1).length < 2 := by rw [List.length_drop, Array.length_toList]; show t.size - 1 < 2; omega
  match t.data.toList.drop 1, hl with
  | [], _ => rw [next1, if_neg (by simp [hp])]
  | [_], _ => rw [next2, if_neg (by simp [hp])]
theorem next_other (t : ByteArray) (h : 0 < t.size) (hp : plainB t[0] = false) (hs : t[0].toNat ≠ 37) : next t.data.toList = (0, 0) := by
  rw [bytes1 t h]
  have hne : t[0] ≠ 37 := fun e => hs (by rw [e]; rfl)
  match t.data.toList.drop 1 with
  | [] => rw [next1, if_neg (by simp [hp])]
  | [_] => rw [next2, if_neg (by simp [hp])]
  | _ :: _ :: _ => rw [next3, if_neg (by simp [hp]), if_neg (by rintro ⟨e, _⟩; exact hne e)]
theorem next_hex (t : ByteArray) (h : 2 < t.size) (h0 : t[0].toNat = 37) : next t.data.toList = if hexB t[1] = true ∧ hexB t[2] = true ∧ plainB (val t[1] t[2]) = false then (val t[1] t[2], 3) else (0, 0) := by
  have e : t[0] = 37 := eq_of_toNat h0
  rw [bytes3 t h, next3, if_neg (by rw [e, plain37]; simp)]
  by_cases hc : hexB t[1] = true ∧ hexB t[2] = true ∧ plainB (val t[1] t[2]) = false
  · rw [if_pos hc, if_pos ⟨e, hc⟩]
  · rw [if_neg hc, if_neg (fun k => hc k.2)]
theorem or_val (a b : UInt8) : bits .or .u8 (((hexV a).toNat : Int) * 16 % 256) ((hexV b).toNat : Int) = ((val a b).toNat : Int) := by
  have h1 := hexV_small a
  have h2 := hexV_small b
  have e : (((hexV a).toNat : Int) * 16 % 256) = ((16 * (hexV a).toNat : Nat) : Int) := by omega
  rw [e, u8_or_nat _ _ (by omega) (by omega), val_toNat]
  have := Nat.two_pow_add_eq_or_of_lt (i := 4) (b := (hexV b).toNat) (by omega) (hexV a).toNat
  rw [show (2 : Nat) ^ 4 = 16 from rfl] at this
  rw [← this]
  omega
end Oct
def NextByte (l : List UInt8) (w : World) (e : Ending) (w' : World) : Prop := e = .returned (.tuple #[.int .u8 ((Oct.next l).1.toNat : Int), .int .i64 ((Oct.next l).2 : Int)]) ∧ w = w'

set_option maxHeartbeats 1000000 in
theorem unwordByte_calls (t : ByteArray) (w : World) (ht : t.size ≤ maxLen) (h : 0 < t.size) :
    Calls Try.prog 34 #[.string t] w (NextByte t.data.toList w) := by
  unfold maxLen at ht
  have hc0 : t[0].toNat < 256 := t[0].toNat_lt
  cases hp : Oct.plainB t[0] with
  | true =>
    have HN := Lib.hid (Oct.next_plain t h hp)
    go_enter Try.func34, Try.ntmps34
    go_wp2_with (go_at_call 35; refine (plain_calls _ _).mono ?_; rintro e w' ⟨rfl, rfl⟩)
    go_ret2
    exact ⟨by rw [HN.out]; rfl, rfl⟩
  | false =>
    by_cases h37 : t[0].toNat = 37
    · have hq : ((t[0].toNat : Int) != 37) = false := by rw [bne_eq_false_iff_eq]; omega
      by_cases h3 : t.size < 3
      · have HN := Lib.hid (Oct.next_short t h hp h3)
        clear h37
        go_enter Try.func34, Try.ntmps34
        go_wp2_with (go_at_call 35; refine (plain_calls _ _).mono ?_; rintro e w' ⟨rfl, rfl⟩)
        go_ret2
        exact ⟨by rw [HN.out]; rfl, rfl⟩
      · have h3' : 3 ≤ t.size := by omega
        have HN := Lib.hid (Oct.next_hex t (by omega) h37)
        clear h37
        have hx : t[1].toNat < 256 := t[1].toNat_lt
        have hy : t[2].toNat < 256 := t[2].toNat_lt
        have hor := Oct.or_val t[1] t[2]
        have hv : (Oct.val t[1] t[2]).toNat < 256 := (Oct.val t[1] t[2]).toNat_lt
        cases ha : Oct.hexB t[1] <;> cases hb : Oct.hexB t[2]
        all_goals
          go_enter Try.func34, Try.ntmps34
          go_wp2_with fail
          refine (plain_calls _ _).mono ?_
          rintro e w' ⟨rfl, rfl⟩
          go_wp2_with fail
          refine (hexValue_calls _ _).mono ?_
          rintro e w' ⟨rfl, rfl⟩
          go_wp2_with fail
          refine (hexValue_calls _ _).mono ?_
          rintro e w' ⟨rfl, rfl⟩
          go_wp2_with fail
        · go_ret2
          exact ⟨by rw [HN.out, if_neg (by rw [ha]; simp)]; rfl, rfl⟩
        · go_ret2
          exact ⟨by rw [HN.out, if_neg (by rw [ha]; simp)]; rfl, rfl⟩
        · go_ret2
          exact ⟨by rw [HN.out, if_neg (by rw [hb]; simp)]; rfl, rfl⟩
        · refine (plain_calls _ _).mono ?_
          rintro e w' ⟨rfl, rfl⟩
          cases hpv : Oct.plainB (Oct.val t[1] t[2])
          · go_wp2
            go_ret2
            exact ⟨by rw [HN.out, if_pos ⟨ha, hb, hpv⟩]; rfl, rfl⟩
          · go_wp2
            go_ret2
            exact ⟨by rw [HN.out, if_neg (by rw [hpv]; simp)]; rfl, rfl⟩
    · have hq : ((t[0].toNat : Int) != 37) = true := by rw [bne_iff_ne]; omega
      have HN := Lib.hid (Oct.next_other t h hp h37)
      clear h37
      go_enter Try.func34, Try.ntmps34
      go_wp2_with (go_at_call 35; refine (plain_calls _ _).mono ?_; rintro e w' ⟨rfl, rfl⟩)
      go_ret2
      exact ⟨by rw [HN.out]; rfl, rfl⟩
end Go.Proofs.Ytgadhjfpebhnpaa
