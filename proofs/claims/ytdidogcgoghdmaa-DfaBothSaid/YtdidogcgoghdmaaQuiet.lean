/- A region that draws its order and whose operations only read, or call what leaves a world of a class: walked once, in the order of the text, in the class at hand. -/
import Derived.Deep.Quiet
import Derived.OrdersHeld
import Derived.Test.YtdidogcgoghdmaaCells
namespace Go.Proofs.Ytdidogcgoghdmaa
open Go.RowKit
section
variable {P : Program} {ops : Array Oper} {C : World → Prop} {Q : Act → Prop} {a : Act} {o : Oper} {rest : List Oper}
theorem q_yields {v : Value} (hy : YieldsIf P ops C o v a) (h : wpQuiet P ops C Q rest (a.put o.dst v)) : wpQuiet P ops C Q (o :: rest) a := by
  refine wpQuiet_step fun K hK => ?_
  rcases hy with ⟨hw, hr⟩ | ⟨hw, hv⟩
  · rw [if_pos hw]
    exact ⟨v, fun w hC => by unfold Oper.quietAt; rw [hr w hC]; exact ⟨rfl, rfl⟩, hK _ h⟩
  · rw [if_neg (by rw [hw]; decide), ← hv]
    exact hK _ h
theorem q_call (hw : Region.wanted o (yielded ops a.tmps) = true) (v : Value) (hc : ∀ w, C w → o.quietAt P a C w v) (h : wpQuiet P ops C Q rest (a.put o.dst v)) : wpQuiet P ops C Q (o :: rest) a := by
  refine wpQuiet_step fun K hK => ?_
  rw [if_pos hw]
  exact ⟨v, hc, hK _ h⟩
end
theorem region_quiet {P : Program} {C : World → Prop} {id : Nat} {Q : Exit → Act → World → Prop} {a : Act} {w : World} {l : List Oper} (hm : P.follows .mixedOrders = true) (hB : Region.lexB .any l.toArray = true) (hC : C w.drew)
    (h : wpQuiet P l.toArray C (fun a' => ∀ w', C w' → Q .normal a' w') l a) : (Code.region id l.toArray true).wp P Q a w :=
  wp_region_quiet (C := C) hm hB hC (by simpa using h)
end Go.Proofs.Ytdidogcgoghdmaa
