/- The longest row of groups that are 0. No program is named here. -/
import Derived.Test.YtcookddgaomkiaaHexPlain
namespace Go.Proofs.Ytcookddgaomkiaa
namespace Adr
/-- From, to and start, behind one group more. -/
def nstep (i : Nat) (zero : Bool) (st : Nat × Nat × Nat) : Nat × Nat × Nat :=
  if zero = false then (st.1, st.2.1, i + 1)
  else if 2 ≤ i + 1 - st.2.2 ∧ st.2.1 - st.1 < i + 1 - st.2.2 then (st.2.2, i + 1, st.2.2) else st
def nst (z : List Bool) : Nat → Nat × Nat × Nat
  | 0 => (0, 0, 0)
  | k + 1 => nstep k (z.getD k false) (nst z k)
theorem nst_le (z : List Bool) : ∀ k, (nst z k).1 ≤ (nst z k).2.1 ∧ (nst z k).2.1 ≤ k ∧ (nst z k).2.2 ≤ k
  | 0 => by simp [nst]
  | k + 1 => by
    have ih := nst_le z k
    unfold nst nstep
    split
    · simp; omega
    · split
      · simp; omega
      · omega
theorem nst_other {z : List Bool} {k : Nat} (h : z.getD k false = false) : nst z (k + 1) = ((nst z k).1, (nst z k).2.1, k + 1) := by
  show nstep k _ _ = _
  unfold nstep; rw [if_pos h]
theorem nst_longer {z : List Bool} {k : Nat} (h : z.getD k false = true) (h2 : 2 ≤ k + 1 - (nst z k).2.2 ∧ (nst z k).2.1 - (nst z k).1 < k + 1 - (nst z k).2.2) : nst z (k + 1) = ((nst z k).2.2, k + 1, (nst z k).2.2) := by
  show nstep k _ _ = _
  unfold nstep; rw [h, if_neg (by simp), if_pos h2]
theorem nst_same {z : List Bool} {k : Nat} (h : z.getD k false = true) (h2 : ¬ (2 ≤ k + 1 - (nst z k).2.2 ∧ (nst z k).2.1 - (nst z k).1 < k + 1 - (nst z k).2.2)) : nst z (k + 1) = nst z k := by
  show nstep k _ _ = _
  unfold nstep; rw [h, if_neg (by simp), if_neg h2]
/-- Which groups are 0. -/
def zeros (g : List UInt16) : List Bool := g.map fun x => decide (x = 0)
def nf (g : List UInt16) : Nat := (nst (zeros g) 8).1
def nt (g : List UInt16) : Nat := (nst (zeros g) 8).2.1
theorem zeros_at {g : List UInt16} {k : Nat} {x : UInt16} (h : g[k]? = some x) : (zeros g).getD k false = decide (x = 0) := by
  unfold zeros
  rw [List.getD_eq_getElem?_getD, List.getElem?_map, h]; rfl
/-- What the pattern of an address's noughts tells: whatever eight groups. -/
theorem pattern_facts : ∀ b0 b1 b2 b3 b4 b5 b6 b7 : Bool,
    let z := [b0, b1, b2, b3, b4, b5, b6, b7]
    let f := (nst z 8).1; let t := (nst z 8).2.1
    (f = t ∨ f + 2 ≤ t) ∧ t ≤ 8 ∧ ((List.range 8).all fun i => !(decide (f ≤ i) && decide (i < t)) || z.getD i false) = true := by decide
theorem eight {α : Type} {l : List α} (h : l.length = 8) : ∃ a b c d e f g i, l = [a, b, c, d, e, f, g, i] := by
  match l, h with
  | [a, b, c, d, e, f, g, i], _ => exact ⟨a, b, c, d, e, f, g, i, rfl⟩
theorem nought_facts {g : List UInt16} (hg : g.length = 8) : (nf g = nt g ∨ nf g + 2 ≤ nt g) ∧ nf g ≤ nt g ∧ nt g ≤ 8 ∧ ∀ i, nf g ≤ i → i < nt g → g[i]? = some 0 := by
  have hz : (zeros g).length = 8 := by unfold zeros; rw [List.length_map, hg]
  obtain ⟨a, b, c, d, e, f, k, i, hzz⟩ := eight hz
  have h := pattern_facts a b c d e f k i
  simp only at h
  rw [← hzz] at h
  refine ⟨h.1, (nst_le _ 8).1, h.2.1, fun j h1 h2 => ?_⟩
  have hj : j < 8 := by have := h.2.1; unfold nt at h2; omega
  have := List.all_eq_true.1 h.2.2 j (List.mem_range.2 hj)
  have e1 : decide ((nst (zeros g) 8).1 ≤ j) = true := decide_eq_true h1
  have e2 : decide (j < (nst (zeros g) 8).2.1) = true := decide_eq_true h2
  rw [e1, e2] at this
  simp only [Bool.and_self, Bool.not_true, Bool.false_or] at this
  obtain ⟨x, hx⟩ : ∃ x, g[j]? = some x := ⟨_, List.getElem?_eq_getElem (by omega)⟩
  rw [zeros_at hx] at this
  rw [hx, of_decide_eq_true this]
end Adr
end Go.Proofs.Ytcookddgaomkiaa
