/- Plain lemmas on symbols, in the forms that the walks ask. No program is named here. -/
import Derived.Test.YtaaclhgnbdcaaaaSymbolPlain
namespace Go.Proofs.Ytaaclhgnbdcaaaa
namespace Sy
theorem less_at : ∀ {k : Nat} {x y : List UInt8} {c d : UInt8}, x.take k = y.take k → x[k]? = some c → y[k]? = some d → c ≠ d → less x y = decide (c.toNat < d.toNat)
  | 0, [], _, _, _, _, h, _, _ => by cases h
  | 0, _ :: _, [], _, _, _, _, h, _ => by cases h
  | 0, a :: x, b :: y, c, d, _, h1, h2, hne => by
    have e1 : a = c := Option.some.inj h1
    have e2 : b = d := Option.some.inj h2
    unfold less
    rw [e1, e2, if_neg hne]
  | k + 1, [], _, _, _, _, h, _, _ => by cases h
  | k + 1, _ :: _, [], _, _, _, _, h, _ => by cases h
  | k + 1, a :: x, b :: y, c, d, ht, h1, h2, hne => by
    rw [List.take_succ_cons, List.take_succ_cons] at ht
    obtain ⟨e, ht⟩ := List.cons.inj ht
    unfold less
    rw [if_pos e]
    exact less_at (k := k) ht h1 h2 hne
theorem less_end : ∀ {k : Nat} {x y : List UInt8}, x.take k = y.take k → k ≤ x.length → k ≤ y.length → (x.length = k ∨ y.length = k) → less x y = decide (x.length < y.length)
  | 0, [], [], _, _, _, _ => rfl
  | 0, [], _ :: _, _, _, _, _ => by unfold less; simp
  | 0, _ :: _, [], _, _, _, _ => by unfold less; simp
  | 0, _ :: _, _ :: _, _, _, _, h => by simp at h
  | k + 1, [], _, _, h, _, _ => by simp at h
  | k + 1, _ :: _, [], _, _, h, _ => by simp at h
  | k + 1, a :: x, b :: y, ht, h1, h2, h3 => by
    rw [List.take_succ_cons, List.take_succ_cons] at ht
    obtain ⟨e, ht⟩ := List.cons.inj ht
    unfold less
    rw [if_pos e, less_end (k := k) ht (by simpa using h1) (by simpa using h2) (by simpa using h3)]
    simp
theorem take_more {x y : List UInt8} {k : Nat} {c : UInt8} (h : x.take k = y.take k) (h1 : x[k]? = some c) (h2 : y[k]? = some c) : x.take (k + 1) = y.take (k + 1) := by
  rw [List.take_add_one, List.take_add_one, h, h1, h2]
/-- How many bytes of paths stand ahead. -/
def symK (k : Nat) : Nat := k - 33 - (if 35 < k then 1 else 0) - (if 63 < k then 1 else 0)
theorem symK_at {c : UInt8} (h : pathB c = true) : sym c = (symK c.toNat : Int) := by unfold sym; rw [if_pos h]; rfl
theorem symK_step {k : Nat} (h : 33 ≤ k) (h1 : k ≠ 63) (h2 : k ≠ 35) : symK (k + 1) = symK k + 1 := by
  unfold symK
  split <;> split <;> split <;> split <;> omega
theorem symK_skip {k : Nat} (h : k = 63 ∨ k = 35) : symK (k + 1) = symK k := by
  rcases h with rfl | rfl <;> rfl
theorem sym_other {c : UInt8} (h : pathB c = false) : sym c = -1 := by unfold sym; rw [h]; rfl
theorem pathB_iff {c : UInt8} : pathB c = true ↔ 33 ≤ c.toNat ∧ c.toNat ≤ 126 ∧ c.toNat ≠ 63 ∧ c.toNat ≠ 35 := by unfold pathB; exact decide_eq_true_iff
theorem sym_range (c : UInt8) : -1 ≤ sym c ∧ sym c < 92 := by
  cases h : pathB c with
  | false => rw [sym_other h]; omega
  | true => have := (sym_lt c h).1; unfold sym; rw [if_pos h]; omega
theorem after_toNat (c : UInt8) : (after c).toNat = if c.toNat = 122 then 48 else if c.toNat = 57 then 45 else if c.toNat = 45 then 95 else if c.toNat = 95 then 0 else (c.toNat + 1) % 256 := by
  revert c
  exact byte_all (by decide +kernel)
/-- The bytes that are in order are those that aren't, taken once more. -/
theorem bytes_no {s : List UInt8} {k : Nat} {c : UInt8} (h : s[k]? = some c) (hc : pathB c = false) : bytes s = ([], false) := by
  unfold bytes
  rw [if_neg]
  intro e
  have := List.all_eq_true.1 e c (List.mem_of_getElem? h)
  rw [hc] at this
  cases this
theorem bytes_yes {s : List UInt8} (h : ∀ c ∈ s, pathB c = true) : bytes s = (s.map sym, true) := by
  unfold bytes
  rw [if_pos (List.all_eq_true.2 h)]
theorem from_no' {l : List Int} {n : Int} (h : n ∈ l) (hn : inB n = false) : from' l = ([], false) := by
  unfold from'
  rw [if_neg]
  intro e
  have := List.all_eq_true.1 e n h
  rw [hn] at this
  cases this
theorem from_yes {l : List Int} (h : ∀ n ∈ l, inB n = true) : from' l = (l.map fun n => byteN n.toNat, true) := by
  unfold from'
  rw [if_pos (List.all_eq_true.2 h)]
end Sy
end Go.Proofs.Ytaaclhgnbdcaaaa
