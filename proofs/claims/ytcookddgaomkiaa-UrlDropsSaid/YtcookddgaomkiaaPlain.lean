/- Plain functions on lists of bytes, and plain lemmas on them: what the calls of package octet answer. No program is named here. -/
import Derived.WalkKit
import Derived.Lib.Strings
namespace Go.Proofs.Ytcookddgaomkiaa
namespace Oct

/-- A small letter in the place of a great one. -/
def low (c : UInt8) : UInt8 := if 65 ≤ c.toNat ∧ c.toNat ≤ 90 then c + 32 else c
def blankB (c : UInt8) : Bool := decide (c.toNat = 32 ∨ c.toNat = 9)
def plainB (c : UInt8) : Bool := decide (33 ≤ c.toNat ∧ c.toNat ≤ 126 ∧ c.toNat ≠ 37)
def digitB (c : UInt8) : Bool := decide (48 ≤ c.toNat ∧ c.toNat ≤ 57)
/-- One of sixteen digits. -/
def hexd (n : Nat) : UInt8 := if n < 10 then UInt8.ofNat (48 + n) else UInt8.ofNat (55 + n)
/-- What one byte is in a word. -/
def wordOf (c : UInt8) : List UInt8 := if plainB c then [c] else [37, hexd (c.toNat / 16), hexd (c.toNat % 16)]
def word (l : List UInt8) : List UInt8 := if l = [] then [37] else l.flatMap wordOf
/-- What a hex digit counts, and whether it is one. -/
def hexV (c : UInt8) : UInt8 := if 48 ≤ c.toNat ∧ c.toNat ≤ 57 then c - 48 else if 65 ≤ c.toNat ∧ c.toNat ≤ 70 then c - 55 else 0
def hexB (c : UInt8) : Bool := decide ((48 ≤ c.toNat ∧ c.toNat ≤ 57) ∨ (65 ≤ c.toNat ∧ c.toNat ≤ 70))

/-- Not empty, and digits alone? -/
def digits (l : List UInt8) : Bool := decide (l ≠ []) && l.all digitB
/-- The number that digits are. -/
def numOf (l : List UInt8) : Nat := l.foldl (fun n c => n * 10 + (c.toNat - 48)) 0
def isNum (l : List UInt8) : Bool := digits l && decide (l.length ≤ 18) && decide (l.head? = some 48 → l.length = 1)
def number (l : List UInt8) : Nat := if isNum l then numOf l else 0

theorem eq_of_toNat {a b : UInt8} (h : a.toNat = b.toNat) : a = b := UInt8.toNat_inj.1 h
/-- The same, but for great and small letters? -/
def sameB (a b : List UInt8) : Bool := decide (a.map low = b.map low)
theorem same_len {a b : ByteArray} (h : a.size ≠ b.size) : sameB a.data.toList b.data.toList = false := by
  unfold sameB
  refine decide_eq_false fun e => h ?_
  have := congrArg List.length e
  simpa using this
theorem map_take {a b : ByteArray} {k : Nat} (ha : k < a.size) (hb : k < b.size) (h : (a.data.toList.take k).map low = (b.data.toList.take k).map low) (hc : low a[k] = low b[k]) :
    (a.data.toList.take (k + 1)).map low = (b.data.toList.take (k + 1)).map low := by
  rw [List.take_succ_eq_append_getElem (by rw [Array.length_toList]; exact ha), List.take_succ_eq_append_getElem (by rw [Array.length_toList]; exact hb), List.map_append, List.map_append, h]
  show _ ++ [low a[k]] = _ ++ [low b[k]]
  rw [hc]
theorem same_no {a b : ByteArray} {k : Nat} (ha : k < a.size) (hb : k < b.size) (hc : low a[k] ≠ low b[k]) : sameB a.data.toList b.data.toList = false := by
  unfold sameB
  refine decide_eq_false fun e => hc ?_
  have h := congrArg (fun l => l[k]?) e
  simp only [List.getElem?_map] at h
  rw [List.getElem?_eq_getElem (by rw [Array.length_toList]; exact ha), List.getElem?_eq_getElem (by rw [Array.length_toList]; exact hb)] at h
  exact Option.some.inj h
theorem same_yes {a b : ByteArray} {k : Nat} (ha : a.size ≤ k) (hb : b.size ≤ k) (h : (a.data.toList.take k).map low = (b.data.toList.take k).map low) : sameB a.data.toList b.data.toList = true := by
  unfold sameB
  rw [List.take_of_length_le (by rw [Array.length_toList]; exact ha), List.take_of_length_le (by rw [Array.length_toList]; exact hb)] at h
  exact decide_eq_true h
theorem getElem_bytes (s : ByteArray) (k : Nat) (h : k < s.size) : s.data.toList[k]'(by simpa using h) = s[k] := rfl
theorem take_snoc (s : ByteArray) (k : Nat) (h : k < s.size) : s.data.toList.take (k + 1) = s.data.toList.take k ++ [s[k]] := by
  rw [List.take_succ_eq_append_getElem (by simpa using h)]; rfl
theorem take_all (s : ByteArray) (k : Nat) (h : s.size ≤ k) : s.data.toList.take k = s.data.toList := List.take_of_length_le (by simpa using h)
theorem bytes_data (s : ByteArray) : s.toList = s.data.toList := Lib.toList_data s
theorem nil_bytes (s : ByteArray) : s.toList = [] ↔ s.data.toList = [] := by rw [bytes_data]
theorem nil_size (s : ByteArray) : s.data.toList = [] ↔ s.size = 0 := by
  rw [← List.length_eq_zero_iff, Array.length_toList]; rfl
theorem data_nil (s : ByteArray) : s.data = #[] ↔ s.size = 0 := ⟨fun h => by show s.data.size = 0; rw [h]; rfl, fun h => Array.size_eq_zero_iff.1 h⟩
theorem length_bytes (s : ByteArray) : s.data.toList.length = s.size := by rw [Array.length_toList]; rfl
theorem all_snoc {p : UInt8 → Bool} (s : ByteArray) (k : Nat) (h : k < s.size) (ha : (s.data.toList.take k).all p = true) (hp : p s[k] = true) : (s.data.toList.take (k + 1)).all p = true := by
  rw [take_snoc s k h, List.all_append, ha]; simp [hp]
theorem all_not {p : UInt8 → Bool} (s : ByteArray) (k : Nat) (h : k < s.size) (hp : p s[k] = false) : s.data.toList.all p = false := by
  rw [List.all_eq_false]
  exact ⟨s[k], by rw [← getElem_bytes s k h]; exact List.getElem_mem _, by simp [hp]⟩
theorem digits_no (s : ByteArray) (k : Nat) (h : k < s.size) (hp : digitB s[k] = false) : digits s.data.toList = false := by
  unfold digits; rw [all_not s k h hp]; simp
theorem digits_end (s : ByteArray) (k : Nat) (h : s.size ≤ k) (ha : (s.data.toList.take k).all digitB = true) : digits s.data.toList = decide (s.data.toList ≠ []) := by
  unfold digits; rw [take_all s k h] at ha; rw [ha]; simp
theorem digits_at {s : ByteArray} (h : digits s.data.toList = true) (k : Nat) (hk : k < s.size) : 48 ≤ s[k].toNat ∧ s[k].toNat ≤ 57 := by
  unfold digits at h
  rw [Bool.and_eq_true] at h
  have := (List.all_eq_true.1 h.2) s[k] (by rw [← getElem_bytes s k hk]; exact List.getElem_mem _)
  simpa [digitB] using this
theorem digits_pos {s : ByteArray} (h : digits s.data.toList = true) : 0 < s.size := by
  unfold digits at h
  rw [Bool.and_eq_true] at h
  have h1 : s.data.toList ≠ [] := by simpa using h.1
  exact Nat.pos_of_ne_zero fun e => h1 ((nil_size s).2 e)
theorem numOf_snoc (l : List UInt8) (c : UInt8) : numOf (l ++ [c]) = numOf l * 10 + (c.toNat - 48) := by simp [numOf]
theorem numOf_take (s : ByteArray) (k : Nat) (h : k < s.size) : numOf (s.data.toList.take (k + 1)) = numOf (s.data.toList.take k) * 10 + (s[k].toNat - 48) := by
  rw [take_snoc s k h, numOf_snoc]
theorem numOf_lt {s : ByteArray} (h : digits s.data.toList = true) : ∀ k, k ≤ s.size → numOf (s.data.toList.take k) < 10 ^ k
  | 0, _ => by simp [numOf]
  | k + 1, hk => by
    have ih := numOf_lt h k (by omega)
    have hd := digits_at h k (by omega)
    rw [numOf_take s k (by omega), Nat.pow_succ]
    omega
theorem numOf_small {s : ByteArray} (h : digits s.data.toList = true) (h18 : s.size ≤ 18) (k : Nat) (hk : k < s.size) : numOf (s.data.toList.take k) ≤ 99999999999999999 := by
  have h1 := numOf_lt h k (by omega)
  have h2 : 10 ^ k ≤ 10 ^ 17 := Nat.pow_le_pow_right (by omega) (by omega)
  omega
theorem head_bytes (s : ByteArray) (h : 0 < s.size) : s.data.toList.head? = some s[0] := by
  rw [List.head?_eq_getElem?, List.getElem?_eq_getElem (by rw [Array.length_toList]; exact h)]; rfl
theorem one_bytes (s : ByteArray) (h : 0 < s.size) (c : UInt8) : s.data.toList = [c] ↔ s[0] = c ∧ s.size = 1 := by
  constructor
  · intro e
    refine ⟨?_, ?_⟩
    · have := head_bytes s h
      rw [e] at this
      simpa using this.symm
    · have : s.data.toList.length = 1 := by rw [e]; rfl
      rw [Array.length_toList] at this
      exact this
  · rintro ⟨e, h1⟩
    have hl : s.data.toList.length = 1 := by rw [Array.length_toList]; exact h1
    obtain ⟨d, hd⟩ := List.length_eq_one_iff.1 hl
    have := head_bytes s h
    rw [hd] at this ⊢
    simp at this
    rw [this, e]
theorem num_long (s : ByteArray) (h : 18 < s.size) : isNum s.data.toList = false := by
  have : ¬ s.data.toList.length ≤ 18 := by rw [Array.length_toList]; show ¬ s.size ≤ 18; omega
  unfold isNum; rw [decide_eq_false this]; simp
theorem num_no (s : ByteArray) (h : digits s.data.toList = false) : isNum s.data.toList = false := by unfold isNum; rw [h]; rfl
theorem num_nought (s : ByteArray) (h : 1 < s.size) (h0 : (s[0].toNat : Int) = 48) : isNum s.data.toList = false := by
  have e : s[0] = 48 := eq_of_toNat (by show _ = 48; omega)
  have h1 := head_bytes s (by omega)
  rw [e] at h1
  have h2 : ¬ (s.data.toList.head? = some 48 → s.data.toList.length = 1) := fun k => by
    have := k h1
    rw [Array.length_toList] at this
    have : s.size = 1 := this
    omega
  unfold isNum; rw [decide_eq_false h2]; simp
theorem num_yes (s : ByteArray) (h : digits s.data.toList = true) (h18 : s.size ≤ 18) (h0 : (s[0]'(digits_pos h)).toNat = 48 → s.size = 1) : isNum s.data.toList = true := by
  have h1 := head_bytes s (digits_pos h)
  unfold isNum
  rw [h, decide_eq_true (by rw [Array.length_toList]; exact h18), decide_eq_true (by
    rw [h1, Array.length_toList]
    intro k
    have : s[0]'(digits_pos h) = 48 := by simpa using k
    exact h0 (by rw [this]; rfl))]
  rfl
theorem number_no {l : List UInt8} (h : isNum l = false) : number l = 0 := by unfold number; rw [h]; rfl
theorem number_yes {l : List UInt8} (h : isNum l = true) : number l = numOf l := by unfold number; rw [h]; rfl
theorem low_toNat (c : UInt8) : (low c).toNat = if 65 ≤ c.toNat ∧ c.toNat ≤ 90 then c.toNat + 32 else c.toNat := by
  unfold low
  split
  · rw [UInt8.toNat_add]; simp; omega
  · rfl
theorem hexd_toNat (n : Nat) (h : n < 16) : (hexd n).toNat = if n < 10 then 48 + n else 55 + n := by
  unfold hexd
  split <;> (rw [UInt8.toNat_ofNat']; omega)
theorem hexV_toNat (c : UInt8) : (hexV c).toNat = if 48 ≤ c.toNat ∧ c.toNat ≤ 57 then c.toNat - 48 else if 65 ≤ c.toNat ∧ c.toNat ≤ 70 then c.toNat - 55 else 0 := by
  unfold hexV
  have := c.toNat_lt
  split
  · rw [UInt8.toNat_sub]; simp; omega
  · split
    · rw [UInt8.toNat_sub]; simp; omega
    · rfl
/-- What the first k bytes come to. -/
def out (l : List UInt8) (k : Nat) : List UInt8 := (l.take k).flatMap wordOf
theorem out_zero (l : List UInt8) : out l 0 = [] := by simp [out]
theorem out_step (s : ByteArray) (k : Nat) (h : k < s.size) : out s.data.toList (k + 1) = out s.data.toList k ++ wordOf s[k] := by
  unfold out; rw [take_snoc s k h, List.flatMap_append]; simp
theorem out_plain (s : ByteArray) (k : Nat) (h : k < s.size) (hp : plainB s[k] = true) : out s.data.toList (k + 1) = out s.data.toList k ++ [s[k]] := by
  rw [out_step s k h]; unfold wordOf; rw [if_pos hp]
theorem out_hex (s : ByteArray) (k : Nat) (h : k < s.size) (hp : plainB s[k] = false) : out s.data.toList (k + 1) = out s.data.toList k ++ [37, hexd (s[k].toNat / 16), hexd (s[k].toNat % 16)] := by
  rw [out_step s k h]; unfold wordOf; rw [hp]; rfl
theorem wordOf_length (c : UInt8) : 1 ≤ (wordOf c).length ∧ (wordOf c).length ≤ 3 := by unfold wordOf; split <;> simp
theorem out_length (s : ByteArray) : ∀ k, k ≤ s.size → k ≤ (out s.data.toList k).length ∧ (out s.data.toList k).length ≤ 3 * k
  | 0, _ => by simp [out_zero]
  | k + 1, h => by
    have ih := out_length s k (by omega)
    have := wordOf_length s[k]
    rw [out_step s k (by omega), List.length_append]
    omega
theorem out_all (s : ByteArray) (k : Nat) (h : s.size ≤ k) (h0 : 0 < s.size) : out s.data.toList k = word s.data.toList := by
  unfold out word
  rw [take_all s k h, if_neg (fun e => by have := (nil_size s).1 e; omega)]
/-- The sixteen digits as the program's constant has them. -/
theorem digit_at : ∀ (n : Nat) (h : n < 16), (((⟨#[48, 49, 50, 51, 52, 53, 54, 55, 56, 57, 65, 66, 67, 68, 69, 70]⟩ : ByteArray)[n]'h).toNat : Int) = ((hexd n).toNat : Int) := by decide
end Oct
/-- A byte's value. -/
def byteV (c : UInt8) : Value := .int .u8 (c.toNat : Int)
theorem ret_int {k : IntKind} {a b : Int} (h : a = b) : Ending.returned (.int k a) = .returned (.int k b) := by rw [h]
theorem ret_str {a b : ByteArray} (h : a = b) : Ending.returned (.string a) = .returned (.string b) := by rw [h]
theorem ret_two {a b c d : Value} (h : a = b) (k : c = d) : Ending.returned (.tuple #[a, c]) = .returned (.tuple #[b, d]) := by rw [h, k]
theorem val_int {k : IntKind} {a b : Int} (h : a = b) : Value.int k a = .int k b := by rw [h]
theorem val_bool {a b : Bool} (h : a = b) : Value.bool a = .bool b := by rw [h]
theorem val_str {a b : ByteArray} (h : a = b) : Value.string a = .string b := by rw [h]
theorem ret_bool {a b : Bool} (h : a = b) : Ending.returned (.bool a) = .returned (.bool b) := by rw [h]
end Go.Proofs.Ytcookddgaomkiaa
