/- What the reference's V6 tries is what V6 reads. No program is named here. -/
import Derived.Test.YtcookddgaomkiaaAdrBackPlain
namespace Go.Proofs.Ytcookddgaomkiaa
namespace Adr
/-- The eight groups that all stand in a text. -/
def e8 (s : List UInt8) : Option (List UInt16) := if (Oct.split 58 s).length = 8 ∧ (Oct.split 58 s).all isGrp = true then some ((Oct.split 58 s).map grp) else none
theorem split_mid (c : UInt8) (r : List UInt8) : ∀ b : List UInt8, Oct.split c (b ++ c :: r) = Oct.split c b ++ Oct.split c r
  | [] => by rw [List.nil_append, Oct.split_step, if_pos rfl]; rfl
  | d :: b => by
    rw [List.cons_append, Oct.split_step, Oct.split_step, split_mid c r b]
    by_cases h : d = c
    · rw [if_pos h, if_pos h]; rfl
    · rw [if_neg h, if_neg h]
      cases hb : Oct.split c b with
      | nil => exact absurd hb (Oct.split_ne c b)
      | cons p ps => rfl
/-- The pieces of a row: none of the empty text. -/
def P (s : List UInt8) : List (List UInt8) := if s = [] then [] else Oct.split 58 s
theorem isRow_P (s : List UInt8) : isRow s = (P s).all isGrp := by
  unfold isRow P
  by_cases h : s = []
  · rw [if_pos h, h]; rfl
  · rw [if_neg h, decide_eq_false h]; rfl
theorem row_P (s : List UInt8) : row s = (P s).map grp := by
  unfold row P
  split <;> rfl
def F (b : List UInt8) : List UInt8 := if b = [] then [] else b ++ [58]
def H (h : List UInt8) : List UInt8 := if h = [] then [] else 58 :: h
def Z : Nat → List UInt8
  | 0 => [48]
  | k + 1 => Z k ++ [58, 48]
theorem Z_length (k : Nat) : (Z k).length = 2 * k + 1 := by
  induction k with
  | zero => rfl
  | succ k ih => unfold Z; rw [List.length_append, ih]; simp; omega
theorem split_Z (k : Nat) : Oct.split 58 (Z k) = List.replicate (k + 1) [48] := by
  induction k with
  | zero => decide
  | succ k ih =>
    unfold Z
    rw [split_mid, ih, show Oct.split 58 [48] = [[48]] by decide, List.replicate_succ' (n := k + 1)]
theorem split_ZH (k : Nat) (h : List UInt8) : Oct.split 58 (Z k ++ H h) = List.replicate (k + 1) [48] ++ P h := by
  unfold H P
  by_cases e : h = []
  · rw [if_pos e, if_pos e, List.append_nil, List.append_nil, split_Z]
  · rw [if_neg e, if_neg e, split_mid, split_Z]
theorem split_FZH (b h : List UInt8) (k : Nat) : Oct.split 58 (F b ++ Z k ++ H h) = P b ++ List.replicate (k + 1) [48] ++ P h := by
  have e1 := split_ZH k h
  unfold F
  by_cases e : b = []
  · rw [if_pos e, List.nil_append, e1]
    unfold P
    rw [if_pos e, List.nil_append]
  · rw [if_neg e, List.append_assoc, List.append_assoc]
    show Oct.split 58 (b ++ 58 :: (Z k ++ H h)) = _
    rw [split_mid, e1, ← List.append_assoc]
    congr 2
    unfold P
    rw [if_neg e]
theorem e8_try (b h : List UInt8) (k : Nat) : e8 (F b ++ Z k ++ H h) = if isRow b = true ∧ isRow h = true ∧ (row b).length + (row h).length + (k + 1) = 8 then some (row b ++ List.replicate (k + 1) 0 ++ row h) else none := by
  unfold e8
  rw [split_FZH, isRow_P, isRow_P, row_P, row_P]
  have e0 : isGrp [48] = true := by decide
  have e1 : grp [48] = 0 := by decide
  have hl : (P b ++ List.replicate (k + 1) [48] ++ P h).length = 8 ↔ ((P b).map grp).length + ((P h).map grp).length + (k + 1) = 8 := by
    simp only [List.length_append, List.length_replicate, List.length_map]; omega
  have ha : (P b ++ List.replicate (k + 1) [48] ++ P h).all isGrp = true ↔ (P b).all isGrp = true ∧ (P h).all isGrp = true := by
    rw [List.all_append, List.all_append, Bool.and_eq_true, Bool.and_eq_true]
    have : (List.replicate (k + 1) [(48 : UInt8)]).all isGrp = true := by
      rw [List.all_eq_true]
      intro x hx
      rw [List.eq_of_mem_replicate hx]; exact e0
    rw [this]; simp
  have hm : (P b ++ List.replicate (k + 1) [48] ++ P h).map grp = (P b).map grp ++ List.replicate (k + 1) 0 ++ (P h).map grp := by
    rw [List.map_append, List.map_append, List.map_replicate, e1]
  rw [hm]
  by_cases c : (P b).all isGrp = true ∧ (P h).all isGrp = true ∧ ((P b).map grp).length + ((P h).map grp).length + (k + 1) = 8
  · rw [if_pos c, if_pos ⟨hl.2 c.2.2, ha.2 ⟨c.1, c.2.1⟩⟩]
  · rw [if_neg c, if_neg fun h => c ⟨(ha.1 h.2).1, (ha.1 h.2).2, hl.1 h.1⟩]
/-- What a gap between b and h reads as. -/
def cand (b h : List UInt8) : Option (List UInt16) :=
  if isRow b = true ∧ isRow h = true ∧ fits ((row b).length + (row h).length) true = true then some (row b ++ List.replicate (8 - ((row b).length + (row h).length)) 0 ++ row h) else none
theorem cand_some {b h : List UInt8} {k : Nat} {g : List UInt16} (e : e8 (F b ++ Z k ++ H h) = some g) : cand b h = some g := by
  rw [e8_try] at e
  unfold cand
  split at e
  · next c =>
    have hf : fits ((row b).length + (row h).length) true = true := by unfold fits; simp; omega
    rw [if_pos ⟨c.1, c.2.1, hf⟩, ← e]
    have : 8 - ((row b).length + (row h).length) = k + 1 := by omega
    rw [this]
  · cases e
theorem cand_none {b h : List UInt8} (e : ∀ k, k < 8 → e8 (F b ++ Z k ++ H h) = none) : cand b h = none := by
  unfold cand
  rw [if_neg]
  rintro ⟨h1, h2, h3⟩
  have hf : (row b).length + (row h).length < 8 := by unfold fits at h3; simpa using h3
  have := e (7 - ((row b).length + (row h).length)) (by omega)
  rw [e8_try, if_pos ⟨h1, h2, by omega⟩] at this
  cases this
/-- Two colons at a place. -/
def Two (s : List UInt8) (j : Nat) : Prop := s[j]? = some 58 ∧ s[j + 1]? = some 58
theorem Two.split {s : List UInt8} {j : Nat} (h : Two s j) : s = s.take j ++ 58 :: 58 :: s.drop (j + 2) := by
  obtain ⟨h1, h2⟩ := h
  obtain ⟨l1, e1⟩ := List.getElem?_eq_some_iff.1 h1
  obtain ⟨l2, e2⟩ := List.getElem?_eq_some_iff.1 h2
  conv => lhs; rw [← List.take_append_drop j s, List.drop_eq_getElem_cons l1, List.drop_eq_getElem_cons l2, e1, e2]
theorem not_row {s x y : List UInt8} (h : s = x ++ 58 :: y) (hy : y = [] ∨ ∃ z, y = 58 :: z) : isRow s = false := by
  have hm : [] ∈ Oct.split 58 s := by
    rw [h, split_mid]
    refine List.mem_append_right _ ?_
    rcases hy with rfl | ⟨z, rfl⟩
    · decide
    · rw [Oct.split_step, if_pos rfl]; exact List.mem_cons_self
  have hn : s ≠ [] := by rw [h]; simp
  unfold isRow
  rw [decide_eq_false hn, Bool.false_or]
  cases ha : (Oct.split 58 s).all isGrp with
  | false => rfl
  | true =>
    have := List.all_eq_true.1 ha [] hm
    exact absurd this (by decide)
theorem later_no {s : List UInt8} {i j : Nat} (hi : Two s i) (hij : i < j) (h : List UInt8) : cand (s.take j) h = none := by
  have e := hi.split
  have hl : (s.take i).length = i := by
    have := (List.getElem?_eq_some_iff.1 hi.1).1
    rw [List.length_take]; omega
  have ht : s.take j = s.take i ++ 58 :: (58 :: s.drop (i + 2)).take (j - (i + 1)) := by
    conv => lhs; rw [e, List.take_append, hl]
    rw [List.take_of_length_le (by omega), show j - i = (j - (i + 1)) + 1 by omega, List.take_succ_cons]
  have hr : isRow (s.take j) = false := by
    refine not_row ht ?_
    cases hk : j - (i + 1) with
    | zero => left; rfl
    | succ k => right; exact ⟨_, List.take_succ_cons⟩
  unfold cand
  rw [if_neg]
  rintro ⟨h1, _⟩
  rw [hr] at h1; cases h1
theorem first_of {s : List UInt8} {j : Nat} (h : Two s j) : ∃ i, i ≤ j ∧ Two s i ∧ ∀ k, k < i → ¬ Two s k := by
  induction j using Nat.strongRecOn with
  | _ j ih =>
    by_cases hk : ∃ k, k < j ∧ Two s k
    · obtain ⟨k, hk1, hk2⟩ := hk
      obtain ⟨i, h1, h2, h3⟩ := ih k hk1 hk2
      exact ⟨i, by omega, h2, h3⟩
    · exact ⟨j, Nat.le_refl _, h, fun k hkj hk2 => hk ⟨k, hkj, hk2⟩⟩
theorem v6_first {s : List UInt8} {i : Nat} (h : Two s i) (hn : ∀ k, k < i → ¬ Two s k) : v6 s = cand (s.take i) (s.drop (i + 2)) := by
  have hl : (s.take i).length = i := by
    have := (List.getElem?_eq_some_iff.1 h.1).1
    rw [List.length_take]; omega
  have hc : Lib.cut s [58, 58] = (s.take i, s.drop (i + 2), true) := by
    have e := h.split
    conv => lhs; rw [e]
    refine cut_at fun k hk => ?_
    rw [hl] at hk
    rw [← e]
    exact hn k hk
  unfold v6
  rw [hc]
  rfl
theorem v6_none_two {s : List UInt8} (hn : ∀ j, ¬ Two s j) : v6 s = e8 s := by
  have hc : Lib.cut s [58, 58] = (s, [], false) := cut_none hn
  unfold v6 e8
  rw [hc]
  simp only
  by_cases h : s = []
  · subst h; decide
  · have e1 : isRow s = (Oct.split 58 s).all isGrp := by rw [isRow_P]; unfold P; rw [if_neg h]
    have e2 : row s = (Oct.split 58 s).map grp := by rw [row_P]; unfold P; rw [if_neg h]
    have e3 : isRow [] = true := rfl
    have e4 : row [] = [] := rfl
    rw [e1, e2, e3, e4]
    by_cases c : (Oct.split 58 s).length = 8 ∧ (Oct.split 58 s).all isGrp = true
    · rw [if_pos c, if_pos ⟨c.2, rfl, by unfold fits; simp [c.1]⟩]
      simp [c.1]
    · rw [if_neg c, if_neg]
      rintro ⟨h1, _, h3⟩
      unfold fits at h3
      simp at h3
      exact c ⟨h3, h1⟩
theorem e8_two {s : List UInt8} {j : Nat} (h : Two s j) : e8 s = none := by
  have e := h.split
  unfold e8
  rw [if_neg]
  rintro ⟨_, ha⟩
  have hr := not_row e (.inr ⟨_, rfl⟩)
  have hne : s ≠ [] := by rw [e]; simp
  rw [isRow_P] at hr
  unfold P at hr
  rw [if_neg hne, ha] at hr
  cases hr
theorem v6_e8 {s : List UInt8} {g : List UInt16} (h : e8 s = some g) : v6 s = some g := by
  rw [v6_none_two, h]
  intro j hj
  rw [e8_two hj] at h; cases h
theorem v6_at {s : List UInt8} {j : Nat} {g : List UInt16} (h : Two s j) (hc : cand (s.take j) (s.drop (j + 2)) = some g) : v6 s = some g := by
  obtain ⟨i, h1, h2, h3⟩ := first_of h
  have e : i = j := by
    rcases Nat.lt_or_ge i j with hlt | hge
    · have := later_no h2 hlt (s.drop (j + 2))
      rw [this] at hc; cases hc
    · omega
  subst e
  rw [v6_first h2 h3, hc]
theorem v6_end {s : List UInt8} (h8 : e8 s = none) (h : ∀ j, Two s j → cand (s.take j) (s.drop (j + 2)) = none) : v6 s = none := by
  by_cases hk : ∃ k, Two s k
  · obtain ⟨k, hk⟩ := hk
    obtain ⟨i, _, h2, h3⟩ := first_of hk
    rw [v6_first h2 h3, h i h2]
  · rw [v6_none_two fun j hj => hk ⟨j, hj⟩, h8]
end Adr
end Go.Proofs.Ytcookddgaomkiaa
