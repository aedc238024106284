/- Automata as the reader of a call's arguments has them: taken apart, and read again behind the call. -/
import Derived.Test.YtdidogcgoghdmaaSymbolData
import Derived.Test.YtdidogcgoghdmaaDfaAt
import Derived.Lib.SmallJoins
namespace Go.Proofs.Ytdidogcgoghdmaa
open Go.ChangeShapes Go.WideShapes Go.ChangeAt Go.WideMaps Go.WideElems Go.RowKit Go.Deep Go.Joins
theorem dfa_fields : ∃ f0 f1 f2 f3 : Field, Try.prog.underlying 25 = some (.struct #[f0, f1, f2, f3]) ∧ oneCellFields Try.prog #[f0, f1, f2, f3] = true ∧ f0.type = 3 ∧ f1.type = 3 ∧ f2.type = 22 ∧ f3.type = 23 :=
  ⟨_, _, _, _, Try.underlying25, by kernel_rfl, rfl, rfl, rfl, rfl⟩
theorem cellsDfa15 : Try.prog.cellsOf 25 = 4 := by kernel_rfl
theorem cellsBool15 : Try.prog.cellsOf 4 = 1 := by kernel_rfl
section
variable {H : Type} {enc : TypeId × Value → H} {w : World}
theorem bools_of : ∀ {xs : List Value}, (∀ u ∈ xs, ∃ b : Bool, u = .bool b) → ∃ l : List Bool, xs = boolVs l
  | [], _ => ⟨[], rfl⟩
  | u :: xs, h => by
    obtain ⟨b, rfl⟩ := h u (by simp)
    obtain ⟨l, rfl⟩ := bools_of (xs := xs) (fun u hu => h u (by simp [hu]))
    exact ⟨b :: l, rfl⟩
theorem open_dfa {r : Reach} {b0 : Nat} {v : Value} {d : DataW H} {p : List MemPlace} (hv : Value.okWide Try.prog w r b0 25 v) (h : DataW.Trod enc Try.prog w 0 (fun _ => true) true 25 v d p) : ∃ a : Au.Dv, Auto w v a := by
  obtain ⟨f0, f1, f2, f3, hs, hone, t0, t1, t2, t3⟩ := dfa_fields
  obtain ⟨v0, v1, v2, v3, y0, y1, y2, y3, n, rfl, _, _, h0, h1, h2, h3⟩ := open_agg4 hs hone cellsDfa15 hv h
  rw [t0] at h0
  rw [t1] at h1
  rw [t2] at h2
  rw [t3] at h3
  obtain ⟨k, e0, _, wk⟩ := DataW.trod_int Try.underlying3 h0
  obtain ⟨s, e1, _, ws⟩ := DataW.trod_int Try.underlying3 h1
  obtain ⟨A, l, c, e2⟩ := slice_form Try.underlying22 h2
  obtain ⟨A', l', c', e3⟩ := slice_form Try.underlying23 h3
  obtain rfl := (List.cons.inj e0).1
  obtain rfl := (List.cons.inj e1).1
  obtain rfl := (List.cons.inj e2).1
  obtain rfl := (List.cons.inj e3).1
  obtain ⟨xs, i1, i2, i3⟩ := open_slice_cells Try.underlying22 cellsInt14 (ok := fun u => ∃ n : Int, u = .int .i64 n ∧ (Lit.int .i64 n).wf = true) (fun fuel cs x hx => by
    obtain ⟨n, e1, _, hs⟩ := DataW.trod_int Try.underlying3 hx
    exact ⟨_, e1, n, rfl, hs⟩) ⟨n, h2⟩
  obtain ⟨ys, j1, j2, j3⟩ := open_slice_cells Try.underlying23 cellsBool15 (ok := fun u => ∃ b : Bool, u = .bool b) (fun fuel cs x hx => by
    obtain ⟨b, e1, _⟩ := DataW.trod_bool Try.underlying4 hx
    exact ⟨_, e1, b, rfl⟩) ⟨n, h3⟩
  obtain ⟨xl, rfl, _⟩ := ints_of i3
  obtain ⟨yl, rfl⟩ := bools_of j3
  rw [intVs_length] at i2
  rw [boolVs_length] at j2
  exact ⟨⟨k, s, xl, yl⟩, ⟨_, _, rfl, ⟨i1⟩, ⟨j1⟩⟩, wk, ws, i2, j2⟩
theorem dfa_shut {w' : World} {v : Value} {d : DataW H} {p : List MemPlace} (h : DataW.Trod enc Try.prog w 0 (fun _ => true) true 25 v d p) (hb : Below w.heap.size w w') :
    DataW.Trod enc Try.prog w' 0 (fun b => decide (b < w.heap.size)) true 25 v d p :=
  Below.trod (by kernel_rfl) (by kernel_rfl) (of_decide_eq_true (by kernel_rfl)) h hb (by obtain ⟨fuel, hf⟩ := h; exact DataW.trod_lt _ _ _ _ hf)
end
end Go.Proofs.Ytdidogcgoghdmaa
