/- A value built of named parts, guarded or not, where it runs. -/
import Derived.Test.YtnepgibjijdheaaCookieRow
namespace Go.Proofs.Ytnepgibjijdheaa
open Go.RowKit
theorem build_list_g {P : Program} {ops : Array Oper} {rest : List Oper} {o : Oper} {a : Act} {w : World} {Q : Exit → Act → World → Prop} (hw : Region.wanted o (yielded ops a.tmps) = true) (t : TypeId) (ps : Array (Nat × Operand)) (ho : o.op = .build t ps) (vs : List (Nat × Value)) (hv : ps.toList.map (fun p => (p.1, a.eval p.2)) = vs) (cells : Array Value)
    (hc : P.built t vs = some cells) (h : wpList P ops Q rest (a.put o.dst (.agg cells)) w) : wpList P ops Q (o :: rest) a w := by
  have e : (ps.map fun (i, x) => (i, a.eval x)).toList = vs := by rw [Array.toList_map]; exact hv
  refine wpList_step fun K hK => ?_
  simp only [hw, if_true]
  refine wp_build t ps ho ?_ (hK _ _ ?_)
  · rw [e, hc]; rfl
  · rw [e, hc]; exact h
end Go.Proofs.Ytnepgibjijdheaa
