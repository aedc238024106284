/- Values built of parts where an operation is guarded. -/
import Derived.Test.YtcookddgaomkiaaRow
namespace Go.Proofs.Ytcookddgaomkiaa
open Go.RowKit
/-- A value is built of two parts, guarded or not, where it runs. -/
theorem build_two_g {P : Program} {ops : Array Oper} {rest : List Oper} {o : Oper} {a : Act} {w : World} {Q : Exit → Act → World → Prop} (hw : Region.wanted o (yielded ops a.tmps) = true) (t : TypeId) (i j : Nat) (x y : Operand) (ho : o.op = .build t #[(i, x), (j, y)]) (u v : Value) (hx : a.eval x = u) (hy : a.eval y = v) (cells : Array Value)
    (hc : P.built t [(i, u), (j, v)] = some cells) (h : wpList P ops Q rest (a.put o.dst (.agg cells)) w) : wpList P ops Q (o :: rest) a w := by
  have e : ((#[(i, x), (j, y)] : Array (Nat × Operand)).map fun (i, x) => (i, a.eval x)).toList = [(i, u), (j, v)] := by simp [hx, hy]
  refine wpList_step fun K hK => ?_
  simp only [hw, if_true]
  refine wp_build t #[(i, x), (j, y)] ho ?_ (hK _ _ ?_)
  · rw [e, hc]; rfl
  · rw [e, hc]; exact h
theorem build_one_g {P : Program} {ops : Array Oper} {rest : List Oper} {o : Oper} {a : Act} {w : World} {Q : Exit → Act → World → Prop} (hw : Region.wanted o (yielded ops a.tmps) = true) (t : TypeId) (i : Nat) (x : Operand) (ho : o.op = .build t #[(i, x)]) (u : Value) (hx : a.eval x = u) (cells : Array Value)
    (hc : P.built t [(i, u)] = some cells) (h : wpList P ops Q rest (a.put o.dst (.agg cells)) w) : wpList P ops Q (o :: rest) a w := by
  have e : ((#[(i, x)] : Array (Nat × Operand)).map fun (i, x) => (i, a.eval x)).toList = [(i, u)] := by simp [hx]
  refine wpList_step fun K hK => ?_
  simp only [hw, if_true]
  refine wp_build t #[(i, x)] ho ?_ (hK _ _ ?_)
  · rw [e, hc]; rfl
  · rw [e, hc]; exact h
theorem build_four_g {P : Program} {ops : Array Oper} {rest : List Oper} {o : Oper} {a : Act} {w : World} {Q : Exit → Act → World → Prop} (hw : Region.wanted o (yielded ops a.tmps) = true) (t : TypeId) (i0 i1 i2 i3 : Nat) (x0 x1 x2 x3 : Operand) (ho : o.op = .build t #[(i0, x0), (i1, x1), (i2, x2), (i3, x3)])
    (u0 u1 u2 u3 : Value) (h0 : a.eval x0 = u0) (h1 : a.eval x1 = u1) (h2 : a.eval x2 = u2) (h3 : a.eval x3 = u3) (cells : Array Value)
    (hc : P.built t [(i0, u0), (i1, u1), (i2, u2), (i3, u3)] = some cells) (h : wpList P ops Q rest (a.put o.dst (.agg cells)) w) : wpList P ops Q (o :: rest) a w := by
  have e : ((#[(i0, x0), (i1, x1), (i2, x2), (i3, x3)] : Array (Nat × Operand)).map fun (i, x) => (i, a.eval x)).toList = [(i0, u0), (i1, u1), (i2, u2), (i3, u3)] := by simp [h0, h1, h2, h3]
  refine wpList_step fun K hK => ?_
  simp only [hw, if_true]
  refine wp_build t #[(i0, x0), (i1, x1), (i2, x2), (i3, x3)] ho ?_ (hK _ _ ?_)
  · rw [e, hc]; rfl
  · rw [e, hc]; exact h
end Go.Proofs.Ytcookddgaomkiaa
