/- Rules in a row of memory. -/
import Derived.Test.YtjfipedcjahbkaaGreatDoorRuleRow
import Derived.Test.YtjfipedcjahbkaaGreatDoorCells
import Derived.Test.YtjfipedcjahbkaaGreatDoorOctets
import Derived.Maps.AppendAt
namespace Go.Proofs.YtjfipedcjahbkaaGreatDoor
open Go.RowKit
/-- The cells of rules, one behind the other. -/
def rulesL (rs : List Ru.Rule) : List Value := rs.flatMap fun r => [Value.int .i64 r.kind, strV r.name]
theorem rulesL_nil : rulesL [] = [] := rfl
theorem rulesL_cons (r : Ru.Rule) (rs : List Ru.Rule) : rulesL (r :: rs) = Value.int .i64 r.kind :: strV r.name :: rulesL rs := rfl
theorem rulesL_snoc (rs : List Ru.Rule) (r : Ru.Rule) : rulesL (rs ++ [r]) = rulesL rs ++ [Value.int .i64 r.kind, strV r.name] := by simp [rulesL]
theorem rulesL_length : ∀ rs : List Ru.Rule, (rulesL rs).length = rs.length * 2
  | [] => rfl
  | r :: rs => by rw [rulesL_cons, List.length_cons, List.length_cons, rulesL_length rs, List.length_cons]; omega
theorem rulesL_at : ∀ {rs : List Ru.Rule} {k : Nat} {r : Ru.Rule}, rs[k]? = some r → (rulesL rs)[k * 2]? = some (Value.int .i64 r.kind) ∧ (rulesL rs)[k * 2 + 1]? = some (strV r.name)
  | [], k, r, h => by simp at h
  | x :: rs, 0, r, h => by
    have e : x = r := by simpa using h
    subst e
    exact ⟨rfl, rfl⟩
  | x :: rs, k + 1, r, h => by
    have ih := rulesL_at (rs := rs) (k := k) (r := r) (by simpa using h)
    rw [rulesL_cons, show (k + 1) * 2 = k * 2 + 1 + 1 by omega, List.getElem?_cons_succ, List.getElem?_cons_succ, List.getElem?_cons_succ, List.getElem?_cons_succ]
    exact ih
/-- The value holds the rules. -/
def HasRules (w : World) (v : Value) (rs : List Ru.Rule) : Prop :=
  ∃ A c, v = .slice A rs.length c ∧ (0 < rs.length → ∃ g, A = some ⟨g, 0, none⟩ ∧ g < w.heap.size ∧ rs.length ≤ c ∧ ∀ k r, rs[k]? = some r → w.cell? ⟨g, k * 2, none⟩ = some (.int .i64 r.kind) ∧ w.cell? ⟨g, k * 2 + 1, none⟩ = some (strV r.name))
theorem HasRules.stays {w w' : World} {v : Value} {rs : List Ru.Rule} (h : HasRules w v rs) (hb : Below w.heap.size w w') : HasRules w' v rs := by
  obtain ⟨A, c, hv, hh⟩ := h
  refine ⟨A, c, hv, fun h0 => ?_⟩
  obtain ⟨g, hA, hg, hc, hcell⟩ := hh h0
  refine ⟨g, hA, Nat.lt_of_lt_of_le hg hb.size, hc, fun k r hk => ?_⟩
  obtain ⟨h1, h2⟩ := hcell k r hk
  exact ⟨(hb.cell (p := ⟨g, k * 2, none⟩) hg).trans h1, (hb.cell (p := ⟨g, k * 2 + 1, none⟩) hg).trans h2⟩
theorem HasRules.drew {w w' : World} {v : Value} {rs : List Ru.Rule} (h : HasRules w v rs) (hb : Drawn w w') : HasRules w' v rs := h.stays (hb.below _)
theorem own_add (g j : Nat) : (⟨g, 0, none⟩ : Addr).add j = ⟨g, j, none⟩ := by unfold Addr.add; split <;> simp_all
theorem own_rules {w : World} {B : Nat} {t : TypeId} {v : Value} {rs : List Ru.Rule} (h : w.ownsRow B t 2 v rs.length (rulesL rs)) : HasRules w v rs := by
  rcases h.2 with ⟨rfl, h0⟩ | ⟨g, cap, cur, rfl, hB, hg, hc, _⟩
  · exact ⟨none, 0, by rw [h0], fun h1 => by omega⟩
  · refine ⟨_, _, rfl, fun _ => ⟨g, rfl, (Array.getElem?_eq_some_iff.1 hg).1, hc, fun k r hk => ?_⟩⟩
    obtain ⟨h1, h2⟩ := rulesL_at hk
    have c1 := h.cells (g := g) rfl _ _ h1
    have c2 := h.cells (g := g) rfl _ _ h2
    rw [own_add] at c1 c2
    exact ⟨c1, c2⟩
theorem own_keep2 {w w' : World} {B n : Nat} {t : TypeId} {v : Value} {xs : List Value} (h : w.ownsRow B t 2 v n xs) (hb : Below w.heap.size w w') : w'.ownsRow B t 2 v n xs := by
  refine h.kept (row := none) ⟨hb.os, hb.tape, hb.output, hb.size, fun i hi _ => hb.block i hi⟩ ?_
  cases hv : v.ownBlock
  · exact .inl rfl
  · exact .inr (by simp)
/-- A rule of a row is loaded. -/
theorem load_rule {ops : Array Oper} {Q : Exit → Act → World → Prop} {rest : List Oper} {o : Oper} {a : Act} {w : World} (hw : Region.wanted o (yielded ops a.tmps) = true) (x : Operand) (ho : o.op = .load 24 x)
    (g off : Nat) (hx : a.eval x = .pointer (some ⟨g, off, none⟩)) (r : Ru.Rule) (h0 : w.cell? ⟨g, off, none⟩ = some (.int .i64 r.kind)) (h1 : w.cell? ⟨g, off + 1, none⟩ = some (strV r.name))
    (h : wpList Tryz.prog ops Q rest (a.put o.dst (.agg (ruleA r))) w) : wpList Tryz.prog ops Q (o :: rest) a w := by
  have hl : (loadCells ⟨g, off, none⟩ [Value.int .i64 r.kind, strV r.name].length).run Tryz.prog w = .ok [Value.int .i64 r.kind, strV r.name].toArray w :=
    run_loadCells_list (P := Tryz.prog) w ⟨g, off, none⟩ [Value.int .i64 r.kind, strV r.name] (fun j v hv => by
      have hadd : (⟨g, off, none⟩ : Addr).add j = ⟨g, off + j, none⟩ := by unfold Addr.add; split <;> simp_all
      rw [hadd]
      match j, hv with
      | 0, hv => rw [← Option.some.inj (show some (Value.int .i64 r.kind) = some v from hv)]; exact h0
      | 1, hv => rw [← Option.some.inj (show some (strV r.name) = some v from hv)]; exact h1)
  have hagg : (isAgg 24).run Tryz.prog w = .ok true w := by kernel_rfl
  obtain ⟨i, hq, hs⟩ : ∃ i, Tryz.prog.info? 24 = some i ∧ i.size = 2 := by
    cases hq : Tryz.prog.info? 24 with
    | none => have := infoRule; rw [hq] at this; cases this
    | some i => have := infoRule; rw [hq] at this; exact ⟨i, rfl, Option.some.inj this⟩
  have hv : (loadVar 24 ⟨g, off, none⟩).run Tryz.prog w = .ok (.agg (ruleA r)) w := by
    have hl2 : (loadCells ⟨g, off, none⟩ 2).run Tryz.prog w = .ok (ruleA r) w := hl
    simp [loadVar, Sem.run_bind, hagg, sizeOf, typeInfo, hq, hs, hl2]
  refine wpList_step fun K hK => ?_
  simp only [hw, if_true]
  unfold Oper.wp execOp
  simp only [ho, hx, Instr.loadAt, Instr.sureAddr, Sem.run_bind, Sem.run_pure, Result.andThen_ok, hv]
  exact hK _ _ h
theorem infoRuleZ : (Tryz.prog.info? 24).map (fun i => (i.zero, i.size, i.bytes)) = some (some (.agg (ruleA Ru.zero)), 2, 24) := by kernel_rfl
/-- A new list of rules, and a fault. -/
def NewRules (o : Ru.Fault × List Ru.Rule) (w : World) (e : Ending) (w' : World) : Prop :=
  ∃ v, e = .returned (.tuple #[v, .agg (faultA o.1)]) ∧ HasRules w' v o.2 ∧ Below w.heap.size w w'
end Go.Proofs.YtjfipedcjahbkaaGreatDoor
