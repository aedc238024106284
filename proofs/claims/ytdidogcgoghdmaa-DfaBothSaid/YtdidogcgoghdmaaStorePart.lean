/- A part of a block of cells is written whole. -/
import Derived.Test.YtdidogcgoghdmaaCells
import Derived.Laws.CopyRow
namespace Go.Proofs.Ytdidogcgoghdmaa
open Go.RowKit
/-- A part of a block of cells is written whole. -/
theorem store_part {P : Program} {ops : Array Oper} {rest : List Oper} {o : Oper} {a : Act} {w : World} {Q : Exit → Act → World → Prop} (hgd : o.guard = none) (ty : TypeId) (x y : Operand) (ho : o.op = .store ty x y)
    (g off : Nat) (cells : Array Value) (hx : a.eval x = .pointer (some ⟨g, off, none⟩)) (hy : a.eval y = .agg cells)
    (t : TypeId) (old : Array Value) (hg : Row w g t old) (hi : (P.info? ty).map (·.size) = some cells.size)
    (hle : off + cells.size ≤ old.size) (h1 : cells.all (·.oneCell') = true) (new : Array Value) (hn : (old.toList.take off ++ cells.toList ++ old.toList.drop (off + cells.size)).toArray = new)
    (h : wpList P ops Q rest (a.put o.dst undef) (w.setRow g new)) : wpList P ops Q (o :: rest) a w :=
  wpList_plain hgd fun _ hK => by
    have hs : (storeCells ⟨g, off, none⟩ cells.toList 0).run P w = .ok () (w.setRow g new) := by
      have := run_storeCells_at (P := P) g off t cells.toList 0 old w hg (by rw [Array.length_toList]; omega) (fun v hv => by
        have := Array.all_eq_true'.1 h1 v (Array.mem_toList_iff.1 hv)
        exact this)
      rw [Nat.add_zero, Array.length_toList, hn] at this
      exact this
    have hv : (storeVar ty ⟨g, off, none⟩ (.agg cells)).run P w = .ok () (w.setRow g new) := by
      cases hq : P.info? ty with
      | none => simp [hq] at hi
      | some i =>
        have hsz : cells.size = i.size := by simp [hq] at hi; omega
        simp [storeVar, sizeOf, typeInfo, hq, Value.cells, hsz, hs]
    unfold Oper.wp execOp
    simp only [ho, hx, hy, Instr.storeAt, Instr.sureAddr, Sem.run_bind, Sem.run_pure, Result.andThen_ok, hv]
    exact hK _ _ h
end Go.Proofs.Ytdidogcgoghdmaa
