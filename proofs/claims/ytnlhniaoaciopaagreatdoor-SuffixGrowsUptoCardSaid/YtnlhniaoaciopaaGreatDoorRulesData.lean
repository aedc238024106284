/- Lists of rules as the reader of a call's arguments has them: taken apart, and read again behind the call. -/
import Derived.Test.YtnlhniaoaciopaaGreatDoorSuffixes
import Derived.Test.YtnlhniaoaciopaaGreatDoorArrays
import Derived.Deep.SlicePairs
import Derived.Carry
namespace Go.Proofs.YtnlhniaoaciopaaGreatDoor
open Go.ChangeShapes Go.WideShapes Go.ChangeAt Go.WideMaps Go.WideElems Go.RowKit Go.Deep
section
variable {H : Type} {enc : TypeId × Value → H} {w : World}
def intOfV : Value → Int | .int _ z => z | _ => 0
def textOfV : Value → List UInt8 | .string s => s.data.toList | _ => []

set_option maxRecDepth 100000 in
theorem open_rules {r : Reach} {b0 : Nat} {v : Value} {d : DataW H} {p : List MemPlace} (hv : Value.okWide Tryz.prog w r b0 22 v) (h : DataW.Trod enc Tryz.prog w 0 (fun _ => true) true 22 v d p) :
    ∃ rs : List Ru.Rule, HoldsRules w v rs ∧ rs.length ≤ maxLen ∧ ∀ r ∈ rs, r.name.length ≤ maxLen := by
  obtain ⟨f0, f1, hu, ⟨o0, o1⟩, t0, t1⟩ : ∃ f0 f1, Tryz.prog.underlying 50 = some (.struct #[f0, f1]) ∧ (f0.offset = 0 ∧ f1.offset = 1) ∧ f0.type = 3 ∧ f1.type = 9 :=
    ⟨_, _, Tryz.underlying50, ⟨rfl, rfl⟩, rfl, rfl⟩
  obtain ⟨a0, len, cap, rfl⟩ := okWide_slice Tryz.underlying22 hv
  obtain ⟨fuel, hf⟩ := h
  rcases open_slice_pairs Tryz.underlying22 hu (by kernel_rfl) o0 o1 (by rw [t0]; kernel_rfl) (by rw [t1]; kernel_rfl) hf with ⟨hcs, _⟩ | ⟨a, len', cap', m, n, V0, V1, D0, D1, P0, P1, hcs, _, hl, hm, hmm, _, hall⟩
  · simp [Value.cells] at hcs
    obtain ⟨rfl, rfl, rfl⟩ := hcs
    exact ⟨[], ⟨none, 0, rfl, fun h => absurd h (by simp)⟩, Nat.zero_le _, by simp⟩
  · simp [Value.cells] at hcs
    obtain ⟨rfl, rfl, rfl⟩ := hcs
    simp only [if_true] at hmm
    rw [hmm] at hall
    have key : ∀ i, i < len → w.cell? (a.add (i * 2)) = some (.int .i64 (intOfV (V0 i))) ∧ w.cell? (a.add (i * 2 + 1)) = some (strV (textOfV (V1 i))) ∧ (textOfV (V1 i)).length ≤ maxLen := by
      intro i hi
      obtain ⟨c0, c1, r0, r1⟩ := hall i (by omega)
      rw [t0] at r0
      rw [t1] at r1
      obtain ⟨z, e0, _, _⟩ := DataW.trod_int Tryz.underlying3 r0
      obtain ⟨s, e1, _, hs⟩ := DataW.trod_string Tryz.underlying9 r1
      obtain e0 := (List.cons.inj e0).1
      obtain e1 := (List.cons.inj e1).1
      rw [c0, c1, e0, e1]
      refine ⟨rfl, ?_, ?_⟩
      · show some (Value.string s) = some (Value.string ⟨s.data.toList.toArray⟩)
        congr
      · show s.data.toList.length ≤ maxLen
        simpa using hs
    let R : Nat → Ru.Rule := fun i => ⟨intOfV (V0 i), textOfV (V1 i)⟩
    have hat : ∀ k r, ((List.range len).map R)[k]? = some r → k < len ∧ r = R k := by
      intro k r hk
      obtain ⟨h1, h2⟩ := List.getElem?_eq_some_iff.1 hk
      simp at h1 h2
      exact ⟨h1, h2.symm⟩
    refine ⟨(List.range len).map R, ⟨some a, cap, by simp, fun h0 => ?_⟩, ?_, ?_⟩
    · have h0 : 0 < len := by simpa using h0
      have hc0 := (key 0 h0).1
      obtain ⟨g, off, spot⟩ := a
      have hsp : spot = none := by
        have := World.cell?_spot hc0
        unfold Addr.add at this
        split at this <;> simp_all
      subst hsp
      refine ⟨g, off, rfl, ?_, by simpa using hl, fun k r hk => ?_⟩
      · have := by first | exact World.block_lt_of_cell? w hc0 | exact World.block_lt_of_cell? w _ hc0
        rwa [add_plain] at this
      · obtain ⟨h1, rfl⟩ := hat k r hk
        obtain ⟨k1, k2, _⟩ := key k h1
        rw [add_plain] at k1 k2
        exact ⟨k1, k2⟩
    · simp; omega
    · intro r hr
      obtain ⟨k, hk⟩ := List.getElem?_of_mem hr
      obtain ⟨h1, rfl⟩ := hat k r hk
      exact (key k h1).2.2
/-- And behind the call they read as they did. -/
theorem rules_shut {w' : World} {v : Value} {d : DataW H} {p : List MemPlace} (h : DataW.Trod enc Tryz.prog w 0 (fun _ => true) true 22 v d p) (hb : Below w.heap.size w w') :
    DataW.Trod enc Tryz.prog w' 0 (fun b => decide (b < w.heap.size)) true 22 v d p :=
  Below.trod (by kernel_rfl) (by kernel_rfl) (of_decide_eq_true (by kernel_rfl)) h hb (by obtain ⟨fuel, hf⟩ := h; exact DataW.trod_lt _ _ _ _ hf)
end
end Go.Proofs.YtnlhniaoaciopaaGreatDoor
