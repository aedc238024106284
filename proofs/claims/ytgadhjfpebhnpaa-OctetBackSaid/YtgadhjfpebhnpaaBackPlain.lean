/- Plain lemmas: a word stands for its text alone, and has neither blanks nor line ends. No program is named here. -/
import Derived.Test.YtgadhjfpebhnpaaUnwordPlain
import Derived.Test.YtgadhjfpebhnpaaUnword
import Derived.Test.YtgadhjfpebhnpaaSplitPlain
namespace Go.Proofs.Ytgadhjfpebhnpaa
namespace Oct
theorem wordOf_ne (c : UInt8) (r : List UInt8) : wordOf c ++ r ≠ [37] := by
  unfold wordOf
  split
  · rename_i h
    intro e
    have : c = 37 := by have := congrArg List.head? e; simpa using this
    rw [this, plain37] at h
    cases h
  · simp
theorem unwordL_flat : ∀ l : List UInt8, unwordL (l.flatMap wordOf) = some l
  | [] => rfl
  | c :: r => by
    rw [List.flatMap_cons]
    have h := next_wordOf c (r.flatMap wordOf)
    have hl := wordOf_length c
    rw [next_step (by intro e; have := congrArg List.length e; rw [List.length_append, List.length_nil] at this; omega) h, if_neg (by omega), List.drop_left, unwordL_flat r]
    rfl
theorem word_back (l : List UInt8) : unword (word l) = l ∧ isWord (word l) = true := by
  match l with
  | [] => exact unword_one rfl
  | c :: r =>
    have e : word (c :: r) = wordOf c ++ r.flatMap wordOf := by unfold word; rw [if_neg (by simp), List.flatMap_cons]
    have hu : unwordL (word (c :: r)) = some (c :: r) := by rw [e, ← List.flatMap_cons]; exact unwordL_flat _
    have := unword_some (by rw [e]; exact wordOf_ne c _) hu
    refine ⟨this.1, ?_⟩
    rw [this.2]; simp
theorem word_inj {a b : List UInt8} (h : word a = word b) : a = b := by
  rw [← (word_back a).1, h, (word_back b).1]
theorem hexd_bytes {n : Nat} (h : n < 16) : 33 ≤ (hexd n).toNat ∧ (hexd n).toNat ≤ 126 := by
  rw [hexd_toNat n h]; split <;> omega
theorem wordOf_bytes (c : UInt8) : ∀ x ∈ wordOf c, 33 ≤ x.toNat ∧ x.toNat ≤ 126 := by
  intro x hx
  have hc : c.toNat < 256 := c.toNat_lt
  unfold wordOf at hx
  split at hx
  · rename_i h
    rw [List.mem_singleton] at hx
    have := of_decide_eq_true h
    rw [hx]; exact ⟨this.1, this.2.1⟩
  · simp only [List.mem_cons, List.not_mem_nil, or_false] at hx
    rcases hx with rfl | rfl | rfl
    · decide
    · exact hexd_bytes (by omega)
    · exact hexd_bytes (by omega)
theorem word_bytes (l : List UInt8) : ∀ x ∈ word l, 33 ≤ x.toNat ∧ x.toNat ≤ 126 := by
  intro x hx
  unfold word at hx
  split at hx
  · rw [List.mem_singleton] at hx; rw [hx]; decide
  · obtain ⟨c, _, h⟩ := List.mem_flatMap.1 hx
    exact wordOf_bytes c x h
theorem word_length (l : List UInt8) : 1 ≤ (word l).length ∧ (word l).length ≤ 3 * l.length + 1 := by
  unfold word
  split
  · simp
  · have : ∀ m : List UInt8, m.length ≤ (m.flatMap wordOf).length ∧ (m.flatMap wordOf).length ≤ 3 * m.length := by
      intro m
      induction m with
      | nil => simp
      | cons c r ih =>
        have := wordOf_length c
        rw [List.flatMap_cons, List.length_append, List.length_cons]; omega
    have h := this l
    have hp : 0 < l.length := List.length_pos_iff.2 (by assumption)
    omega
theorem words_two {x y : List UInt8} (hx : ∀ c ∈ x, 33 ≤ c.toNat ∧ c.toNat ≤ 126) (hy : ∀ c ∈ y, 33 ≤ c.toNat ∧ c.toNat ≤ 126) (hx0 : 1 ≤ x.length) (hy0 : 1 ≤ y.length) : words (x ++ 32 :: y) = [x, y] ∧ areWords (x ++ 32 :: y) = true := by
  have nb : ∀ z : List UInt8, (∀ c ∈ z, 33 ≤ c.toNat ∧ c.toNat ≤ 126) → ∀ c ∈ z, c ≠ 32 := fun z hz c hc e => by
    have := hz c hc
    rw [e] at this
    exact absurd this.1 (by decide)
  have e : split 32 (x ++ 32 :: y) = [x, y] := by rw [split_cons 32 y x (nb x hx), split_none 32 y (nb y hy)]
  have h := words_yes (l := x ++ 32 :: y) (by
    rw [e]
    intro p hp
    simp only [List.mem_cons, List.not_mem_nil, or_false] at hp
    rcases hp with rfl | rfl <;> (intro e'; subst e'; simp at *))
  rw [e] at h
  exact h
/-- The pieces with the byte between them. -/
def joinL (at_ : UInt8) : List (List UInt8) → List UInt8
  | [] => []
  | [p] => p
  | p :: q :: r => p ++ at_ :: joinL at_ (q :: r)
theorem joinL_cons (at_ : UInt8) (p : List UInt8) {r : List (List UInt8)} (h : r ≠ []) : joinL at_ (p :: r) = p ++ at_ :: joinL at_ r := by
  match r, h with
  | q :: r, _ => rfl
theorem joinL_snoc (at_ : UInt8) (p : List UInt8) : ∀ ps : List (List UInt8), ps ≠ [] → joinL at_ (ps ++ [p]) = joinL at_ ps ++ at_ :: p
  | [q], _ => rfl
  | q :: r :: ps, _ => by
    have ih := joinL_snoc at_ p (r :: ps) (by simp)
    rw [List.cons_append, joinL_cons at_ q (by simp), ih, joinL_cons at_ q (by simp)]
    simp
theorem joinL_split (at_ : UInt8) : ∀ l : List UInt8, joinL at_ (split at_ l) = l
  | [] => rfl
  | c :: r => by
    have ih := joinL_split at_ r
    rw [split_step]
    split
    · rename_i h
      rw [joinL_cons at_ [] (split_ne at_ r), ih, h]; rfl
    · split
      · rename_i h e
        exact absurd e (split_ne at_ r)
      · rename_i p ps e
        rw [e] at ih
        match ps with
        | [] => simp only [joinL] at ih ⊢; rw [ih]
        | q :: qs =>
          rw [joinL_cons at_ _ (by simp)] at ih ⊢
          rw [List.cons_append, ih]
theorem joinTo_zero (at_ : UInt8) (ps : List (List UInt8)) : joinL at_ (ps.take 0) = [] := by simp [joinL]
theorem joinTo_first {at_ : UInt8} {ps : List (List UInt8)} {p : List UInt8} (h : ps[0]? = some p) : joinL at_ (ps.take 1) = p := by
  rw [List.take_add_one, h]; simp [joinL]
theorem joinTo_more {at_ : UInt8} {ps : List (List UInt8)} {k : Nat} {p : List UInt8} (hk : 0 < k) (h : ps[k]? = some p) : joinL at_ (ps.take (k + 1)) = joinL at_ (ps.take k) ++ at_ :: p := by
  have hlt := (List.getElem?_eq_some_iff.1 h).1
  rw [List.take_add_one, h]
  exact joinL_snoc at_ p _ (by intro e; have := congrArg List.length e; rw [List.length_take, List.length_nil] at this; omega)
theorem low_low (c : UInt8) : low (low c) = low c := by
  apply eq_of_toNat
  have e := low_toNat c
  rw [low_toNat (low c)]
  split at e
  · rw [if_neg (by omega)]
  · rw [if_neg (by omega)]
theorem lows (l : List UInt8) : (l.map low).map low = l.map low := by
  rw [List.map_map]
  congr 1
  funext c
  exact low_low c
theorem same_low (l : List UInt8) : sameB (l.map low) l = true := by unfold sameB; rw [lows]; exact decide_eq_true rfl
end Oct
end Go.Proofs.Ytgadhjfpebhnpaa
