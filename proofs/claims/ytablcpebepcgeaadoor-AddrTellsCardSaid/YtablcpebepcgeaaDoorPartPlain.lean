/- Rows of groups, and the longest row of noughts that a search from the longest on meets first. No program is named here. -/
import Derived.Test.YtablcpebepcgeaaDoorAdrBackPlain
namespace Go.Proofs.YtablcpebepcgeaaDoor
namespace Adr
theorem join_snoc (c : UInt8) : ∀ (ps : List (List UInt8)) (p : List UInt8), ps ≠ [] → Lib.join (ps ++ [p]) [c] = Lib.join ps [c] ++ c :: p
  | [], _, h => absurd rfl h
  | [x], p, _ => by rw [List.singleton_append, join_step, Lib.join_one, Lib.join_one]
  | x :: y :: r, p, _ => by
    have ih := join_snoc c (y :: r) p (by simp)
    rw [List.cons_append, List.cons_append, join_step, ← List.cons_append, ih, join_step, List.append_assoc]; rfl
/-- The groups from f to k, with colons between. -/
def pt (g : List UInt16) (f k : Nat) : List UInt8 := rowT ((g.drop f).take (k - f))
theorem pt_start (g : List UInt16) (f : Nat) : pt g f f = [] := by unfold pt rowT; rw [Nat.sub_self, List.take_zero]; rfl
theorem pt_take {g : List UInt16} {f k : Nat} {x : UInt16} (hf : f ≤ k) (h : g[k]? = some x) : (g.drop f).take (k + 1 - f) = (g.drop f).take (k - f) ++ [x] := by
  have e : k + 1 - f = (k - f) + 1 := by omega
  have h2 : (g.drop f)[k - f]? = some x := by rw [List.getElem?_drop]; rw [show f + (k - f) = k by omega]; exact h
  rw [e, List.take_add_one, h2]; rfl
theorem pt_first {g : List UInt16} {f : Nat} {x : UInt16} (h : g[f]? = some x) : pt g f (f + 1) = hexT x.toNat := by
  unfold pt
  rw [pt_take (Nat.le_refl f) h, Nat.sub_self, List.take_zero]
  unfold rowT
  rw [List.nil_append, List.map_singleton, Lib.join_one]
theorem pt_next {g : List UInt16} {f k : Nat} {x : UInt16} (hf : f < k) (h : g[k]? = some x) : pt g f (k + 1) = pt g f k ++ 58 :: hexT x.toNat := by
  unfold pt
  rw [pt_take (by omega) h]
  unfold rowT
  rw [List.map_append, List.map_singleton]
  refine join_snoc 58 _ _ ?_
  intro e
  have hk := (List.getElem?_eq_some_iff.1 h).1
  have := congrArg List.length e
  simp at this
  omega
theorem pt_length (g : List UInt16) (f k : Nat) (hk : k ≤ 8) : (pt g f k).length ≤ 40 := by
  have := rowT_length ((g.drop f).take (k - f))
  rw [List.length_take] at this
  unfold pt
  omega
/-- Are all from i to j noughts? -/
def allZ (z : List Bool) (i : Nat) : Nat → Bool
  | 0 => true
  | n + 1 => allZ z i n && z.getD (i + n) false
theorem row_facts : ∀ b0 b1 b2 b3 b4 b5 b6 b7 : Bool,
    ((nst [b0, b1, b2, b3, b4, b5, b6, b7] 8).1 ≠ (nst [b0, b1, b2, b3, b4, b5, b6, b7] 8).2.1 → allZ [b0, b1, b2, b3, b4, b5, b6, b7] (nst [b0, b1, b2, b3, b4, b5, b6, b7] 8).1 ((nst [b0, b1, b2, b3, b4, b5, b6, b7] 8).2.1 - (nst [b0, b1, b2, b3, b4, b5, b6, b7] 8).1) = true)
    ∧ ∀ long ∈ [2, 3, 4, 5, 6, 7, 8], ∀ at_ ∈ [0, 1, 2, 3, 4, 5, 6], at_ + long ≤ 8 → allZ [b0, b1, b2, b3, b4, b5, b6, b7] at_ long = true →
      long < (nst [b0, b1, b2, b3, b4, b5, b6, b7] 8).2.1 - (nst [b0, b1, b2, b3, b4, b5, b6, b7] 8).1 ∨ (long = (nst [b0, b1, b2, b3, b4, b5, b6, b7] 8).2.1 - (nst [b0, b1, b2, b3, b4, b5, b6, b7] 8).1 ∧ (nst [b0, b1, b2, b3, b4, b5, b6, b7] 8).1 ≤ at_) := by decide +kernel
theorem row_of {g : List UInt16} (hg : g.length = 8) :
    (nf g ≠ nt g → allZ (zeros g) (nf g) (nt g - nf g) = true) ∧
    ∀ long at_, 2 ≤ long → at_ + long ≤ 8 → allZ (zeros g) at_ long = true → long < nt g - nf g ∨ (long = nt g - nf g ∧ nf g ≤ at_) := by
  obtain ⟨a, b, c, d, e, f, h, i, rfl⟩ := eight hg
  have H := row_facts (decide (a = 0)) (decide (b = 0)) (decide (c = 0)) (decide (d = 0)) (decide (e = 0)) (decide (f = 0)) (decide (h = 0)) (decide (i = 0))
  refine ⟨H.1, fun long at_ h1 h2 => H.2 long ?_ at_ ?_ h2⟩
  · simp; omega
  · simp; omega
end Adr
end Go.Proofs.YtablcpebepcgeaaDoor
