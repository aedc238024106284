/- Arms of a walk: a value built of two parts in a region whose order is open; a store of just this; operations that do not run. -/
import Derived.Test.YtdidogcgoghdmaaCells
import Derived.OrdersHeld
import Derived.Lib.Hide
namespace Go.Proofs.Ytdidogcgoghdmaa
open Go.RowKit
theorem yields_built2 {P : Program} {ops : Array Oper} {S : World → Prop} {o : Oper} {a : Act} (hw : Region.wanted o (yielded ops a.tmps) = true) (t : TypeId) (i j : Nat) (x y : Operand) (ho : o.op = .build t #[(i, x), (j, y)]) (u v : Value) (hx : a.eval x = u) (hy : a.eval y = v) (cells : Array Value)
    (hc : P.built t [(i, u), (j, v)] = some cells) : YieldsIf P ops S o (.agg cells) a :=
  .inl ⟨hw, fun w _ => by
    have e : ((#[(i, x), (j, y)] : Array (Nat × Operand)).map fun (i, x) => (i, a.eval x)).toList = [(i, u), (j, v)] := by simp [hx, hy]
    unfold execOp
    simp only [ho, Sem.run_bind, run_build w t _ cells (by rw [e]; exact hc), Result.andThen_ok]
    rfl⟩
/-- The walk stands at the store of just this slot into just that (or fails at once). -/
theorem at_store {P : Program} {ops : Array Oper} {Q : Exit → Act → World → Prop} {rest : List Oper} {o : Oper} {a : Act} {w : World} (t : TypeId) (x y : Operand) (_h : o.op = .store t x y) (k : wpList P ops Q (o :: rest) a w) : wpList P ops Q (o :: rest) a w := k
/-- The walk stands at an operation that writes no slot (or fails at once). -/
theorem at_none {P : Program} {ops : Array Oper} {Q : Exit → Act → World → Prop} {rest : List Oper} {o : Oper} {a : Act} {w : World} (_h : o.dst = none) (k : wpList P ops Q (o :: rest) a w) : wpList P ops Q (o :: rest) a w := k
/-- The walk stands at an operation whose guard keeps it from running. -/
theorem skip_op {P : Program} {ops : Array Oper} {Q : Exit → Act → World → Prop} {rest : List Oper} {o : Oper} {a : Act} {w : World} (hw : Region.wanted o (yielded ops a.tmps) = false) (k : wpList P ops Q rest (a.put o.dst undef) w) : wpList P ops Q (o :: rest) a w :=
  wpList_step fun K hK => by
    simp only [hw, Bool.false_eq_true, if_false]
    exact hK _ _ k
/-- .. and its slot was empty: nothing turns. -/
theorem skip_same {P : Program} {ops : Array Oper} {Q : Exit → Act → World → Prop} {rest : List Oper} {o : Oper} {a : Act} {w : World} (hw : Region.wanted o (yielded ops a.tmps) = false) (ha : a.put o.dst undef = a) (k : wpList P ops Q rest a w) : wpList P ops Q (o :: rest) a w :=
  skip_op hw (by rw [ha]; exact k)
/-- A pick whose test is known to hold. -/
theorem pick_true {P : Program} {ops : Array Oper} {Q : Exit → Act → World → Prop} {rest : List Oper} {o : Oper} {a : Act} {w : World} (hw : Region.wanted o (yielded ops a.tmps) = true) (c x y : Operand) (ho : o.op = .pick c x y) (hc : a.eval c = .bool true) (v : Value) (hx : a.eval x = v) (h : wpList P ops Q rest (a.put o.dst v) w) : wpList P ops Q (o :: rest) a w :=
  wpList_step fun K hK => by
    simp only [hw, if_true]
    unfold Oper.wp execOp
    simp [ho, hc, hx, asBool]
    exact hK _ _ h
theorem move_op {P : Program} {ops : Array Oper} {Q : Exit → Act → World → Prop} {rest : List Oper} {o : Oper} {a : Act} {w : World} (hw : Region.wanted o (yielded ops a.tmps) = true) (x : Operand) (ho : o.op = .move x) (v : Value) (hx : a.eval x = v) (h : wpList P ops Q rest (a.put o.dst v) w) : wpList P ops Q (o :: rest) a w :=
  wpList_step fun K hK => by
    simp only [hw, if_true]
    unfold Oper.wp execOp
    simp [ho, hx]
    exact hK _ _ h
/-- What follows the region is hidden behind a variable (whnf of a goal whose slots are all known would run through it). -/
theorem hide_Q {P : Program} {ops : Array Oper} {Q : Exit → Act → World → Prop} {l : List Oper} {a : Act} {w : World} (k : ∀ Q', Hid (Q' = Q) → wpList P ops Q' l a w) : wpList P ops Q l a w := k Q (Lib.hid rfl)
end Go.Proofs.Ytdidogcgoghdmaa
