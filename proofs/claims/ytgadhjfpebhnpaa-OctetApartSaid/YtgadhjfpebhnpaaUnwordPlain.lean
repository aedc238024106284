/- Plain functions and lemmas on what a word stands for. No program is named here. -/
import Derived.Test.YtgadhjfpebhnpaaPlain
namespace Go.Proofs.Ytgadhjfpebhnpaa
namespace Oct
/-- The byte that two hex digits are. -/
def val (a b : UInt8) : UInt8 := hexV a * 16 + hexV b
/-- The first byte that a word's rest stands for, and its size there: 0, if there is none. -/
def next : List UInt8 → UInt8 × Nat
  | [] => (0, 0)
  | [c] => if plainB c = true then (c, 1) else (0, 0)
  | [c, _] => if plainB c = true then (c, 1) else (0, 0)
  | c :: a :: b :: _ => if plainB c = true then (c, 1) else if c = 37 ∧ hexB a = true ∧ hexB b = true ∧ plainB (val a b) = false then (val a b, 3) else (0, 0)
def unwordL : List UInt8 → Option (List UInt8)
  | [] => some []
  | [c] => if plainB c = true then some [c] else none
  | [c, a] => if plainB c = true then (unwordL [a]).map (c :: ·) else none
  | c :: a :: b :: r => if plainB c = true then (unwordL (a :: b :: r)).map (c :: ·) else if c = 37 ∧ hexB a = true ∧ hexB b = true ∧ plainB (val a b) = false then (unwordL r).map (val a b :: ·) else none
def unword (l : List UInt8) : List UInt8 := if l = [37] then [] else match unwordL l with
  | none => []
  | some t => t
def isWord (l : List UInt8) : Bool := if l = [37] then true else match unwordL l with
  | none => false
  | some t => decide (t ≠ [])
theorem hexV_small (c : UInt8) : (hexV c).toNat < 16 := by
  rw [hexV_toNat]; split
  · omega
  · split <;> omega
theorem val_toNat (a b : UInt8) : (val a b).toNat = (hexV a).toNat * 16 + (hexV b).toNat := by
  have h1 := hexV_small a
  have h2 := hexV_small b
  unfold val
  rw [UInt8.toNat_add, UInt8.toNat_mul]
  show ((hexV a).toNat * 16 % 256 + (hexV b).toNat) % 256 = _
  omega
theorem hexd_hexV {a : UInt8} (h : hexB a = true) : hexd (hexV a).toNat = a := by
  have h0 := of_decide_eq_true h
  apply eq_of_toNat
  have e := hexV_toNat a
  rw [hexd_toNat _ (hexV_small a)]
  rcases h0 with h0 | h0
  · rw [if_pos h0] at e
    rw [if_pos (by omega)]; omega
  · rw [if_neg (by omega), if_pos h0] at e
    rw [if_neg (by omega)]; omega
theorem hexV_hexd {n : Nat} (h : n < 16) : (hexV (hexd n)).toNat = n := by
  rw [hexV_toNat, hexd_toNat n h]
  split
  · rw [if_pos (by omega)]; omega
  · rw [if_neg (by omega), if_pos (by omega)]; omega
theorem hexB_hexd {n : Nat} (h : n < 16) : hexB (hexd n) = true := by
  unfold hexB
  rw [hexd_toNat n h]
  apply decide_eq_true
  split <;> omega
theorem val_hexd (c : UInt8) : val (hexd (c.toNat / 16)) (hexd (c.toNat % 16)) = c := by
  have hc : c.toNat < 256 := c.toNat_lt
  apply eq_of_toNat
  rw [val_toNat, hexV_hexd (by omega), hexV_hexd (by omega)]
  omega
theorem plain37 : plainB 37 = false := by decide
theorem next1 (c : UInt8) : next [c] = if plainB c = true then (c, 1) else (0, 0) := rfl
theorem next2 (c a : UInt8) : next [c, a] = if plainB c = true then (c, 1) else (0, 0) := rfl
theorem next3 (c a b : UInt8) (r : List UInt8) : next (c :: a :: b :: r) = if plainB c = true then (c, 1) else if c = 37 ∧ hexB a = true ∧ hexB b = true ∧ plainB (val a b) = false then (val a b, 3) else (0, 0) := rfl
theorem next_cons {c : UInt8} (r : List UInt8) (h : plainB c = true) : next (c :: r) = (c, 1) := by
  match r with
  | [] => rw [next1, if_pos h]
  | [_] => rw [next2, if_pos h]
  | _ :: _ :: _ => rw [next3, if_pos h]
theorem unwordL2 (c a : UInt8) : unwordL [c, a] = if plainB c = true then (unwordL [a]).map (c :: ·) else none := rfl
theorem unwordL3 (c a b : UInt8) (r : List UInt8) : unwordL (c :: a :: b :: r) = if plainB c = true then (unwordL (a :: b :: r)).map (c :: ·) else if c = 37 ∧ hexB a = true ∧ hexB b = true ∧ plainB (val a b) = false then (unwordL r).map (val a b :: ·) else none := rfl
theorem unwordL_cons {c : UInt8} (r : List UInt8) (h : plainB c = true) : unwordL (c :: r) = (unwordL r).map (c :: ·) := by
  match r with
  | [] => simp [unwordL, h]
  | [_] => rw [unwordL2, if_pos h]
  | _ :: _ :: _ => rw [unwordL3, if_pos h]
theorem next_step {l : List UInt8} (hl : l ≠ []) {c : UInt8} {n : Nat} (h : next l = (c, n)) : unwordL l = if n = 0 then none else (unwordL (l.drop n)).map (c :: ·) := by
  match l, hl with
  | x :: r, _ =>
    by_cases hp : plainB x = true
    · rw [next_cons r hp] at h
      obtain ⟨rfl, rfl⟩ := Prod.mk.inj h
      rw [unwordL_cons r hp]; simp
    · match r with
      | [] =>
        rw [next1, if_neg hp] at h
        obtain ⟨rfl, rfl⟩ := Prod.mk.inj h
        simp [unwordL, hp]
      | [a] =>
        rw [next2, if_neg hp] at h
        obtain ⟨rfl, rfl⟩ := Prod.mk.inj h
        rw [unwordL2, if_neg hp]; simp
      | a :: b :: r =>
        rw [next3, if_neg hp] at h
        rw [unwordL3, if_neg hp]
        by_cases hc : x = 37 ∧ hexB a = true ∧ hexB b = true ∧ plainB (val a b) = false
        · rw [if_pos hc] at h ⊢
          obtain ⟨rfl, rfl⟩ := Prod.mk.inj h
          simp
        · rw [if_neg hc] at h ⊢
          obtain ⟨rfl, rfl⟩ := Prod.mk.inj h
          simp
theorem next_le (l : List UInt8) : (next l).2 ≤ l.length ∧ (next l).2 ≤ 3 := by
  match l with
  | [] => simp [next]
  | [x] => rw [next1]; split <;> simp
  | [x, a] => rw [next2]; split <;> simp
  | x :: a :: b :: r =>
    rw [next3]
    split
    · simp
    · split <;> simp
/-- A word begins with the form of just one byte. -/
theorem next_wordOf (c : UInt8) (r : List UInt8) : next (wordOf c ++ r) = (c, (wordOf c).length) := by
  unfold wordOf
  split
  · rename_i h; exact next_cons r h
  · rename_i h
    have h' : plainB c = false := by simpa using h
    have hc : c.toNat < 256 := c.toNat_lt
    show next (37 :: hexd (c.toNat / 16) :: hexd (c.toNat % 16) :: r) = _
    rw [next3, if_neg (by rw [plain37]; simp), if_pos ⟨rfl, hexB_hexd (by omega), hexB_hexd (by omega), by rw [val_hexd]; exact h'⟩, val_hexd]
    rfl
theorem wordOf_next {l : List UInt8} {c : UInt8} {n : Nat} (h : next l = (c, n)) (hn : n ≠ 0) : l = wordOf c ++ l.drop n ∧ n = (wordOf c).length := by
  match l with
  | [] => exact absurd (Prod.mk.inj h).2.symm hn
  | x :: r =>
    by_cases hp : plainB x = true
    · rw [next_cons r hp] at h
      obtain ⟨rfl, rfl⟩ := Prod.mk.inj h
      simp [wordOf, hp]
    · match r with
      | [] => rw [next1, if_neg hp] at h; exact absurd (Prod.mk.inj h).2.symm hn
      | [a] => rw [next2, if_neg hp] at h; exact absurd (Prod.mk.inj h).2.symm hn
      | a :: b :: r =>
        rw [next3, if_neg hp] at h
        by_cases hc : x = 37 ∧ hexB a = true ∧ hexB b = true ∧ plainB (val a b) = false
        · rw [if_pos hc] at h
          obtain ⟨rfl, rfl⟩ := Prod.mk.inj h
          obtain ⟨rfl, ha, hb, hv⟩ := hc
          have h1 := hexV_small a
          have h2 := hexV_small b
          have d1 : (val a b).toNat / 16 = (hexV a).toNat := by rw [val_toNat]; omega
          have d2 : (val a b).toNat % 16 = (hexV b).toNat := by rw [val_toNat]; omega
          unfold wordOf
          rw [hv, d1, d2, hexd_hexV ha, hexd_hexV hb]
          simp
        · rw [if_neg hc] at h
          exact absurd (Prod.mk.inj h).2.symm hn
end Oct
end Go.Proofs.Ytgadhjfpebhnpaa
