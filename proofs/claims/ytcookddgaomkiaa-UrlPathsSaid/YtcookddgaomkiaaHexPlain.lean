/- Numbers below 65536 as hexadecimal digits. No program is named here. -/
import Derived.Test.YtcookddgaomkiaaAdrPlain
import Derived.Laws.BitsAllLaws
namespace Go.Proofs.Ytcookddgaomkiaa
namespace Adr
/-- One of sixteen digits, as a small letter. -/
def dig (k : Nat) : UInt8 := if k < 10 then UInt8.ofNat (48 + k) else UInt8.ofNat (87 + k)
/-- The last k digits. -/
def lowD (n : Nat) : Nat → List UInt8
  | 0 => []
  | k + 1 => dig (n / 16 ^ k % 16) :: lowD n k
/-- The digits of a number below 65536. -/
def hexT (n : Nat) : List UInt8 :=
  if n < 16 then [dig n] else if n < 256 then [dig (n / 16), dig (n % 16)] else if n < 4096 then [dig (n / 256), dig (n / 16 % 16), dig (n % 16)] else [dig (n / 4096), dig (n / 256 % 16), dig (n / 16 % 16), dig (n % 16)]
theorem lowD_length (n : Nat) : ∀ k, (lowD n k).length = k
  | 0 => rfl
  | k + 1 => by unfold lowD; simp [lowD_length n k]
theorem hexT_eq {n k : Nat} (hn : n < 65536) (hk : k ≤ 3) (hu : n / 16 ^ k < 16) (hl : 0 < k → 16 ≤ n / 16 ^ (k - 1)) : hexT n = dig (n / 16 ^ k) :: lowD n k := by
  match k, hk with
  | 0, _ => simp [lowD] at *; unfold hexT; rw [if_pos hu]
  | 1, _ =>
    simp at hu hl
    unfold hexT; rw [if_neg (by omega), if_pos (by omega)]
    simp [lowD]
  | 2, _ =>
    simp at hu hl
    unfold hexT; rw [if_neg (by omega), if_neg (by omega), if_pos (by omega)]
    simp [lowD]
  | 3, _ =>
    simp at hu hl
    unfold hexT; rw [if_neg (by omega), if_neg (by omega), if_neg (by omega)]
    simp [lowD]
theorem hexT_length (n : Nat) : 1 ≤ (hexT n).length ∧ (hexT n).length ≤ 4 := by
  unfold hexT; split <;> (try split) <;> (try split) <;> simp
theorem dig_toNat (k : Nat) (h : k < 16) : (dig k).toNat = if k < 10 then 48 + k else 87 + k := by
  unfold dig; split <;> (rw [UInt8.toNat_ofNat']; omega)
theorem digit36 : ∀ (n : Nat) (h : n < 16), ((((⟨#[48, 49, 50, 51, 52, 53, 54, 55, 56, 57, 97, 98, 99, 100, 101, 102, 103, 104, 105, 106, 107, 108, 109, 110, 111, 112, 113, 114, 115, 116, 117, 118, 119, 120, 121, 122]⟩ : ByteArray)[n]'(by show n < 36; omega))).toNat : Int) = ((dig n).toNat : Int) := by decide
theorem set_front (m : Nat) (c : UInt8) (l : List UInt8) : (List.replicate (m + 1) (0 : UInt8) ++ l).set m c = List.replicate m 0 ++ c :: l := by
  rw [List.set_append_left _ _ (by simp), List.replicate_succ', List.set_append_right _ _ (by simp)]
  simp
theorem and15 (x : Nat) (hx : x < 65536) : bits .and .u64 (x : Int) 15 = ((x % 16 : Nat) : Int) := by
  have := u64_and_nat x 15 (by omega) (by omega)
  rw [show ((15 : Nat) : Int) = 15 from rfl] at this
  rw [this]
  have h : x &&& 15 = x % 16 := Nat.and_two_pow_sub_one_eq_mod x 4
  rw [h]
end Adr
end Go.Proofs.Ytcookddgaomkiaa
