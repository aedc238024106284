/- Rules and faults as values, and held against each other. -/
import Derived.Test.YtnlhniaoaciopaaGreatDoorCells
import Derived.Test.YtnlhniaoaciopaaGreatDoorPlains
import Derived.Laws.Small
import Derived.Test.YtnlhniaoaciopaaGreatDoorOctets
import Derived.Maps.AppendAt
import Derived.Maps.OwnSet
import Derived.DeepKeys4
import Derived.Test.YtnlhniaoaciopaaGreatDoorShelf
import Derived.Laws.Runes
import Derived.WalkMore
import Derived.Lib.OthersKept
import Derived.Shelf.Strings.IndexAnyAll
import Derived.Shelf.Strings.SlTrimAscii
import Derived.Lib.IndexBytes
namespace Go.Proofs.YtnlhniaoaciopaaGreatDoor
open Go.RowKit
/-- A rule as a value. -/
def ruleA (r : Ru.Rule) : Array Value := #[Value.int .i64 r.kind, strV r.name]
/-- A fault as a value. -/
def faultA (f : Ru.Fault) : Array Value := #[Value.int .i64 f.code, .int .i64 f.line, .int .i64 f.col]
theorem ruleA_size (r : Ru.Rule) : (ruleA r).size = 2 := rfl
theorem faultA_size (f : Ru.Fault) : (faultA f).size = 3 := rfl
theorem ruleA_one (r : Ru.Rule) : (ruleA r).all (·.oneCell') = true := by simp [ruleA, strV, Value.oneCell']
theorem faultA_one (f : Ru.Fault) : (faultA f).all (·.oneCell') = true := by simp [faultA, Value.oneCell']
theorem ruleA_kind (r : Ru.Rule) : (ruleA r)[0]? = some (.int .i64 r.kind) := rfl
theorem ruleA_name (r : Ru.Rule) : (ruleA r)[1]? = some (strV r.name) := rfl
theorem faultA_code (f : Ru.Fault) : (faultA f)[0]? = some (.int .i64 f.code) := rfl
theorem faultA_line (f : Ru.Fault) : (faultA f)[1]? = some (.int .i64 f.line) := rfl
theorem faultA_col (f : Ru.Fault) : (faultA f)[2]? = some (.int .i64 f.col) := rfl
theorem infoRule : (Tryz.prog.info? 50).map (·.size) = some 2 := by kernel_rfl
theorem infoFault : (Tryz.prog.info? 38).map (·.size) = some 3 := by kernel_rfl
theorem zeroRule : #[Value.int .i64 0, .string ⟨#[]⟩] = ruleA Ru.zero := rfl
theorem zeroFault : #[Value.int .i64 0, .int .i64 0, .int .i64 0] = faultA Ru.fine := rfl
theorem built_rule (k : Int) (s : ByteArray) : Tryz.prog.built 50 [(0, .int .i64 k), (1, .string s)] = some (ruleA ⟨k, s.data.toList⟩) := by kernel_rfl
theorem built_zeroRule : Tryz.prog.built 50 [] = some (ruleA Ru.zero) := by kernel_rfl
theorem built_fault (c l k : Int) : Tryz.prog.built 38 [(0, .int .i64 c), (1, .int .i64 l), (2, .int .i64 k)] = some (faultA ⟨c, l, k⟩) := by kernel_rfl
theorem built_fine : Tryz.prog.built 38 [] = some (faultA Ru.fine) := by kernel_rfl
/-! ### Two rules -/
theorem eq_rule (r q : Ru.Rule) (W : World) : (Op.equalIn 10000 50 (.agg (ruleA r)) (.agg (ruleA q))).run Tryz.prog W = .ok (decide (r = q)) W := by
  obtain ⟨f0, f1, hf⟩ : ∃ f0 f1, Tryz.prog.underlying 50 = some (.struct #[f0, f1]) ∧ (f0.name ≠ "_" ∧ f1.name ≠ "_") ∧ (f0.offset = 0 ∧ f1.offset = 1) ∧ f0.type = 3 ∧ f1.type = 9 :=
    ⟨_, _, Tryz.underlying50, ⟨by decide, by decide⟩, ⟨rfl, rfl⟩, rfl, rfl⟩
  obtain ⟨hu, ⟨n0, n1⟩, ⟨o0, o1⟩, t0, t1⟩ := hf
  have hl : Tryz.prog.fieldsOf 50 = #[f0, f1] := by unfold Program.fieldsOf; rw [hu]
  rw [run_equalIn_struct W 9999 50 _ _ (by rw [hl]; exact hu) (by kernel_rfl), hl]
  have a0 : (part f0.type (ruleA r) f0.offset).run Tryz.prog W = .ok (.int .i64 r.kind) W := run_part_plain W (by rw [t0]; kernel_rfl) (by rw [o0]; rfl)
  have b0 : (part f0.type (ruleA q) f0.offset).run Tryz.prog W = .ok (.int .i64 q.kind) W := run_part_plain W (by rw [t0]; kernel_rfl) (by rw [o0]; rfl)
  have a1 : (part f1.type (ruleA r) f1.offset).run Tryz.prog W = .ok (strV r.name) W := run_part_plain W (by rw [t1]; kernel_rfl) (by rw [o1]; rfl)
  have b1 : (part f1.type (ruleA q) f1.offset).run Tryz.prog W = .ok (strV q.name) W := run_part_plain W (by rw [t1]; kernel_rfl) (by rw [o1]; rfl)
  have q0 : (Op.equalIn 9999 f0.type (.int .i64 r.kind) (.int .i64 q.kind)).run Tryz.prog W = .ok (r.kind == q.kind) W := run_equalIn_int W 9998 f0.type .i64 .i64 r.kind q.kind (by rw [t0]; exact Tryz.underlying3)
  have q1 : (Op.equalIn 9999 f1.type (strV r.name) (strV q.name)).run Tryz.prog W = .ok (decide (r.name = q.name)) W := by
    unfold strV
    rw [run_equalIn_string W 9998 f1.type _ _ (by rw [t1]; exact Tryz.underlying9), Oct.bytes_data, Oct.bytes_data]
    refine congrArg (fun b => Result.ok b W) ?_
    rw [Bool.eq_iff_iff]
    simp
  have hd : decide (r = q) = ((r.kind == q.kind) && decide (r.name = q.name)) := by
    rw [Bool.eq_iff_iff]
    simp only [decide_eq_true_eq, Bool.and_eq_true, beq_iff_eq]
    constructor
    · rintro rfl; exact ⟨rfl, rfl⟩
    · rintro ⟨e0, e1⟩
      cases r; cases q
      simp only at e0 e1
      rw [e0, e1]
  rw [hd]
  show (Op.eqFields 9999 (ruleA r) (ruleA q) [f0, f1]).run Tryz.prog W = _
  simp only [Op.eqFields, Sem.run_bind, a0, b0, a1, b1, q0, q1, Result.andThen_ok, Sem.run_ite, Sem.run_pure, ne_eq, n0, n1, not_false_eq_true, if_true]
  cases (r.kind == q.kind) <;> cases decide (r.name = q.name) <;> rfl
theorem eql_rule (r q : Ru.Rule) (W : World) : (binOp .eql 50 (.agg (ruleA r)) (.agg (ruleA q))).run Tryz.prog W = .ok (.bool (decide (r = q))) W := by
  rw [run_eql_struct, eq_rule r q W]; rfl
theorem neq_rule (r q : Ru.Rule) (W : World) : (binOp .neq 50 (.agg (ruleA r)) (.agg (ruleA q))).run Tryz.prog W = .ok (.bool (!decide (r = q))) W := by
  rw [run_neq_struct, eq_rule r q W]; rfl
/-! ### Two faults -/
theorem eq_fault (r q : Ru.Fault) (W : World) : (Op.equalIn 10000 38 (.agg (faultA r)) (.agg (faultA q))).run Tryz.prog W = .ok (decide (r = q)) W := by
  obtain ⟨f0, f1, f2, hf⟩ : ∃ f0 f1 f2, Tryz.prog.underlying 38 = some (.struct #[f0, f1, f2]) ∧ (f0.name ≠ "_" ∧ f1.name ≠ "_" ∧ f2.name ≠ "_") ∧ (f0.offset = 0 ∧ f1.offset = 1 ∧ f2.offset = 2) ∧ f0.type = 36 ∧ f1.type = 3 ∧ f2.type = 3 :=
    ⟨_, _, _, Tryz.underlying38, ⟨by decide, by decide, by decide⟩, ⟨rfl, rfl, rfl⟩, rfl, rfl, rfl⟩
  obtain ⟨hu, ⟨n0, n1, n2⟩, ⟨o0, o1, o2⟩, t0, t1, t2⟩ := hf
  have hl : Tryz.prog.fieldsOf 38 = #[f0, f1, f2] := by unfold Program.fieldsOf; rw [hu]
  rw [run_equalIn_struct W 9999 38 _ _ (by rw [hl]; exact hu) (by kernel_rfl), hl]
  have a0 : (part f0.type (faultA r) f0.offset).run Tryz.prog W = .ok (.int .i64 r.code) W := run_part_plain W (by rw [t0]; kernel_rfl) (by rw [o0]; rfl)
  have b0 : (part f0.type (faultA q) f0.offset).run Tryz.prog W = .ok (.int .i64 q.code) W := run_part_plain W (by rw [t0]; kernel_rfl) (by rw [o0]; rfl)
  have a1 : (part f1.type (faultA r) f1.offset).run Tryz.prog W = .ok (.int .i64 r.line) W := run_part_plain W (by rw [t1]; kernel_rfl) (by rw [o1]; rfl)
  have b1 : (part f1.type (faultA q) f1.offset).run Tryz.prog W = .ok (.int .i64 q.line) W := run_part_plain W (by rw [t1]; kernel_rfl) (by rw [o1]; rfl)
  have a2 : (part f2.type (faultA r) f2.offset).run Tryz.prog W = .ok (.int .i64 r.col) W := run_part_plain W (by rw [t2]; kernel_rfl) (by rw [o2]; rfl)
  have b2 : (part f2.type (faultA q) f2.offset).run Tryz.prog W = .ok (.int .i64 q.col) W := run_part_plain W (by rw [t2]; kernel_rfl) (by rw [o2]; rfl)
  have q0 : (Op.equalIn 9999 f0.type (.int .i64 r.code) (.int .i64 q.code)).run Tryz.prog W = .ok (r.code == q.code) W := run_equalIn_int W 9998 f0.type .i64 .i64 r.code q.code (by rw [t0]; exact Tryz.underlying36)
  have q1 : (Op.equalIn 9999 f1.type (.int .i64 r.line) (.int .i64 q.line)).run Tryz.prog W = .ok (r.line == q.line) W := run_equalIn_int W 9998 f1.type .i64 .i64 r.line q.line (by rw [t1]; exact Tryz.underlying3)
  have q2 : (Op.equalIn 9999 f2.type (.int .i64 r.col) (.int .i64 q.col)).run Tryz.prog W = .ok (r.col == q.col) W := run_equalIn_int W 9998 f2.type .i64 .i64 r.col q.col (by rw [t2]; exact Tryz.underlying3)
  have hd : decide (r = q) = ((r.code == q.code) && ((r.line == q.line) && (r.col == q.col))) := by
    rw [Bool.eq_iff_iff]
    simp only [decide_eq_true_eq, Bool.and_eq_true, beq_iff_eq]
    constructor
    · rintro rfl; exact ⟨rfl, rfl, rfl⟩
    · rintro ⟨e0, e1, e2⟩
      cases r; cases q
      simp only at e0 e1 e2
      rw [e0, e1, e2]
  rw [hd]
  show (Op.eqFields 9999 (faultA r) (faultA q) [f0, f1, f2]).run Tryz.prog W = _
  simp only [Op.eqFields, Sem.run_bind, a0, b0, a1, b1, a2, b2, q0, q1, q2, Result.andThen_ok, Sem.run_ite, Sem.run_pure, ne_eq, n0, n1, n2, not_false_eq_true, if_true]
  cases (r.code == q.code) <;> cases (r.line == q.line) <;> cases (r.col == q.col) <;> rfl
theorem eql_fault (r q : Ru.Fault) (W : World) : (binOp .eql 38 (.agg (faultA r)) (.agg (faultA q))).run Tryz.prog W = .ok (.bool (decide (r = q))) W := by
  rw [run_eql_struct, eq_fault r q W]; rfl
theorem neq_fault (r q : Ru.Fault) (W : World) : (binOp .neq 38 (.agg (faultA r)) (.agg (faultA q))).run Tryz.prog W = .ok (.bool (!decide (r = q))) W := by
  rw [run_neq_struct, eq_fault r q W]; rfl
/-- A rule in memory, two values besides. -/
theorem results_cell_three {P : Program} {fn : Func} {p u x : Tmp} {ty : TypeId} (h : fn.results = #[.cell p ty, .tmp u, .tmp x]) (tmps : Array Value) (w : World) (g : Nat) (t : TypeId) (cs : Array Value) (d : TypeDesc)
    (hp : tmps.getD p undef = .pointer (some ⟨g, 0, none⟩)) (v1 v2 : Value) (hv1 : tmps.getD u undef = v1) (hv2 : tmps.getD x undef = v2) (hg : Row w g t cs)
    (hu : P.underlying ty = some d) (hd : (match d with | .struct _ | .array _ _ => true | _ => false) = true) (hi : (P.info? ty).map (·.size) = some cs.size) :
    (results fn tmps).run P w = .ok (.tuple #[.agg cs, v1, v2]) w := by
  have hp' : (asAddr (tmps.getD p undef)).run P w = .ok ⟨g, 0, none⟩ w := by rw [hp]; rfl
  have e : (results fn tmps).run P w = ((asAddr (tmps.getD p undef)).run P w).andThen fun a w₁ => ((loadVar ty a).run P w₁).andThen fun v w₂ => .ok (.tuple #[v, tmps.getD u undef, tmps.getD x undef]) w₂ := by
    simp only [results, h]
    simp [Sem.run_bind, Result.andThen]
  rw [e, hp', Result.andThen_ok, run_loadVar_row (P := P) w g t ty cs (0, 0) d hg hu hd hi, Result.andThen_ok, hv1, hv2]
/-- A value, and a struct in memory. -/
theorem results_two_cell {P : Program} {fn : Func} {p u : Tmp} {ty : TypeId} (h : fn.results = #[.tmp u, .cell p ty]) (tmps : Array Value) (w : World) (g : Nat) (t : TypeId) (cs : Array Value) (d : TypeDesc)
    (hp : tmps.getD p undef = .pointer (some ⟨g, 0, none⟩)) (v : Value) (hv : tmps.getD u undef = v) (hg : Row w g t cs)
    (hu : P.underlying ty = some d) (hd : (match d with | .struct _ | .array _ _ => true | _ => false) = true) (hi : (P.info? ty).map (·.size) = some cs.size) :
    (results fn tmps).run P w = .ok (.tuple #[v, .agg cs]) w := by
  have hp' : (asAddr (tmps.getD p undef)).run P w = .ok ⟨g, 0, none⟩ w := by rw [hp]; rfl
  have e : (results fn tmps).run P w = ((asAddr (tmps.getD p undef)).run P w).andThen fun a w₁ => ((loadVar ty a).run P w₁).andThen fun v w₂ => .ok (.tuple #[tmps.getD u undef, v]) w₂ := by
    simp only [results, h]
    simp [Sem.run_bind, Result.andThen]
  rw [e, hp', Result.andThen_ok, run_loadVar_row (P := P) w g t ty cs (0, 0) d hg hu hd hi, Result.andThen_ok, hv]
/-- Of a line: the rule, whether it says one, the error's number. -/
def NewRule (o : Int × Bool × Ru.Rule) (w : World) (e : Ending) (w' : World) : Prop := e = .returned (.tuple #[.agg (ruleA o.2.2), .bool o.2.1, .int .i64 o.1]) ∧ Below w.heap.size w w'
end Go.Proofs.YtnlhniaoaciopaaGreatDoor
/- Rules in a row of memory. -/
namespace Go.Proofs.YtnlhniaoaciopaaGreatDoor
open Go.RowKit
/-- The cells of rules, one behind the other. -/
def rulesL (rs : List Ru.Rule) : List Value := rs.flatMap fun r => [Value.int .i64 r.kind, strV r.name]
theorem rulesL_nil : rulesL [] = [] := rfl
theorem rulesL_cons (r : Ru.Rule) (rs : List Ru.Rule) : rulesL (r :: rs) = Value.int .i64 r.kind :: strV r.name :: rulesL rs := rfl
theorem rulesL_snoc (rs : List Ru.Rule) (r : Ru.Rule) : rulesL (rs ++ [r]) = rulesL rs ++ [Value.int .i64 r.kind, strV r.name] := by simp [rulesL]
theorem rulesL_length : ∀ rs : List Ru.Rule, (rulesL rs).length = rs.length * 2
  | [] => rfl
  | r :: rs => by rw [rulesL_cons, List.length_cons, List.length_cons, rulesL_length rs, List.length_cons]; omega
theorem rulesL_at : ∀ {rs : List Ru.Rule} {k : Nat} {r : Ru.Rule}, rs[k]? = some r → (rulesL rs)[k * 2]? = some (Value.int .i64 r.kind) ∧ (rulesL rs)[k * 2 + 1]? = some (strV r.name)
  | [], k, r, h => by simp at h
  | x :: rs, 0, r, h => by
    have e : x = r := by simpa using h
    subst e
    exact ⟨rfl, rfl⟩
  | x :: rs, k + 1, r, h => by
    have ih := rulesL_at (rs := rs) (k := k) (r := r) (by simpa using h)
    rw [rulesL_cons, show (k + 1) * 2 = k * 2 + 1 + 1 by omega, List.getElem?_cons_succ, List.getElem?_cons_succ, List.getElem?_cons_succ, List.getElem?_cons_succ]
    exact ih
/-- The value holds the rules. -/
def HasRules (w : World) (v : Value) (rs : List Ru.Rule) : Prop :=
  ∃ A c, v = .slice A rs.length c ∧ (0 < rs.length → ∃ g, A = some ⟨g, 0, none⟩ ∧ g < w.heap.size ∧ rs.length ≤ c ∧ ∀ k r, rs[k]? = some r → w.cell? ⟨g, k * 2, none⟩ = some (.int .i64 r.kind) ∧ w.cell? ⟨g, k * 2 + 1, none⟩ = some (strV r.name))
theorem HasRules.stays {w w' : World} {v : Value} {rs : List Ru.Rule} (h : HasRules w v rs) (hb : Below w.heap.size w w') : HasRules w' v rs := by
  obtain ⟨A, c, hv, hh⟩ := h
  refine ⟨A, c, hv, fun h0 => ?_⟩
  obtain ⟨g, hA, hg, hc, hcell⟩ := hh h0
  refine ⟨g, hA, Nat.lt_of_lt_of_le hg hb.size, hc, fun k r hk => ?_⟩
  obtain ⟨h1, h2⟩ := hcell k r hk
  exact ⟨(hb.cell (p := ⟨g, k * 2, none⟩) hg).trans h1, (hb.cell (p := ⟨g, k * 2 + 1, none⟩) hg).trans h2⟩
theorem HasRules.drew {w w' : World} {v : Value} {rs : List Ru.Rule} (h : HasRules w v rs) (hb : Drawn w w') : HasRules w' v rs := h.stays (hb.below _)
theorem own_add (g j : Nat) : (⟨g, 0, none⟩ : Addr).add j = ⟨g, j, none⟩ := by unfold Addr.add; split <;> simp_all
theorem own_rules {w : World} {B : Nat} {t : TypeId} {v : Value} {rs : List Ru.Rule} (h : w.ownsRow B t 2 v rs.length (rulesL rs)) : HasRules w v rs := by
  rcases h.2 with ⟨rfl, h0⟩ | ⟨g, cap, cur, rfl, hB, hg, hc, _⟩
  · exact ⟨none, 0, by rw [h0], fun h1 => by omega⟩
  · refine ⟨_, _, rfl, fun _ => ⟨g, rfl, (Array.getElem?_eq_some_iff.1 hg).1, hc, fun k r hk => ?_⟩⟩
    obtain ⟨h1, h2⟩ := rulesL_at hk
    have c1 := h.cells (g := g) rfl _ _ h1
    have c2 := h.cells (g := g) rfl _ _ h2
    rw [own_add] at c1 c2
    exact ⟨c1, c2⟩
theorem own_keep2 {w w' : World} {B n : Nat} {t : TypeId} {v : Value} {xs : List Value} (h : w.ownsRow B t 2 v n xs) (hb : Below w.heap.size w w') : w'.ownsRow B t 2 v n xs := by
  refine h.kept (row := none) ⟨hb.os, hb.tape, hb.output, hb.size, fun i hi _ => hb.block i hi⟩ ?_
  cases hv : v.ownBlock
  · exact .inl rfl
  · exact .inr (by simp)
/-- A rule of a row is loaded. -/
theorem load_rule {ops : Array Oper} {Q : Exit → Act → World → Prop} {rest : List Oper} {o : Oper} {a : Act} {w : World} (hw : Region.wanted o (yielded ops a.tmps) = true) (x : Operand) (ho : o.op = .load 50 x)
    (g off : Nat) (hx : a.eval x = .pointer (some ⟨g, off, none⟩)) (r : Ru.Rule) (h0 : w.cell? ⟨g, off, none⟩ = some (.int .i64 r.kind)) (h1 : w.cell? ⟨g, off + 1, none⟩ = some (strV r.name))
    (h : wpList Tryz.prog ops Q rest (a.put o.dst (.agg (ruleA r))) w) : wpList Tryz.prog ops Q (o :: rest) a w := by
  have hl : (loadCells ⟨g, off, none⟩ [Value.int .i64 r.kind, strV r.name].length).run Tryz.prog w = .ok [Value.int .i64 r.kind, strV r.name].toArray w :=
    run_loadCells_list (P := Tryz.prog) w ⟨g, off, none⟩ [Value.int .i64 r.kind, strV r.name] (fun j v hv => by
      have hadd : (⟨g, off, none⟩ : Addr).add j = ⟨g, off + j, none⟩ := by unfold Addr.add; split <;> simp_all
      rw [hadd]
      match j, hv with
      | 0, hv => rw [← Option.some.inj (show some (Value.int .i64 r.kind) = some v from hv)]; exact h0
      | 1, hv => rw [← Option.some.inj (show some (strV r.name) = some v from hv)]; exact h1)
  have hagg : (isAgg 50).run Tryz.prog w = .ok true w := by kernel_rfl
  obtain ⟨i, hq, hs⟩ : ∃ i, Tryz.prog.info? 50 = some i ∧ i.size = 2 := by
    cases hq : Tryz.prog.info? 50 with
    | none => have := infoRule; rw [hq] at this; cases this
    | some i => have := infoRule; rw [hq] at this; exact ⟨i, rfl, Option.some.inj this⟩
  have hv : (loadVar 50 ⟨g, off, none⟩).run Tryz.prog w = .ok (.agg (ruleA r)) w := by
    have hl2 : (loadCells ⟨g, off, none⟩ 2).run Tryz.prog w = .ok (ruleA r) w := hl
    simp [loadVar, Sem.run_bind, hagg, sizeOf, typeInfo, hq, hs, hl2]
  refine wpList_step fun K hK => ?_
  simp only [hw, if_true]
  unfold Oper.wp execOp
  simp only [ho, hx, Instr.loadAt, Instr.sureAddr, Sem.run_bind, Sem.run_pure, Result.andThen_ok, hv]
  exact hK _ _ h
theorem infoRuleZ : (Tryz.prog.info? 50).map (fun i => (i.zero, i.size, i.bytes)) = some (some (.agg (ruleA Ru.zero)), 2, 24) := by kernel_rfl
/-- A new list of rules, and a fault. -/
def NewRules (o : Ru.Fault × List Ru.Rule) (w : World) (e : Ending) (w' : World) : Prop :=
  ∃ v, e = .returned (.tuple #[v, .agg (faultA o.1)]) ∧ HasRules w' v o.2 ∧ Below w.heap.size w w'
end Go.Proofs.YtnlhniaoaciopaaGreatDoor
/- Rules as keys of a map: a set of rules in memory. -/
namespace Go.Proofs.YtnlhniaoaciopaaGreatDoor
open Go.RowKit Go.Maps
/-- What a rule reads as, as a key. -/
def ruleK (r : Ru.Rule) : Lit := .string (keyBytes [.int .i64 r.kind, .string r.name])
/-- A rule that memory can hold. -/
def RuleOk (r : Ru.Rule) : Prop := (Lit.int .i64 r.kind).wf = true ∧ r.name.length ≤ maxLen
theorem laidOut : laidOutB Tryz.prog = true := by kernel_rfl
theorem ruleLaw : Keyed Tryz.prog 50 := Keyed.of_law (deep_law_laid laidOut (m := 3) (by omega) (of_decide_eq_true (by kernel_rfl)) (by kernel_rfl) (by kernel_rfl))
theorem ruleKeyType : Tryz.prog.keyType 50 = true := by kernel_rfl
theorem cellsInt : Tryz.prog.cellsOf 3 = 1 := by kernel_rfl
theorem cellsStr : Tryz.prog.cellsOf 9 = 1 := by kernel_rfl
theorem cellsRule : Tryz.prog.cellsOf 50 = 2 := by kernel_rfl
theorem typesMany : ∃ n, Tryz.prog.types.size = n + 1 := ⟨Tryz.prog.types.size - 1, by have : 0 < Tryz.prog.types.size := of_decide_eq_true (by kernel_rfl); omega⟩
theorem rule_key (r : Ru.Rule) (h : RuleOk r) : keyOf Tryz.prog 50 (.agg (ruleA r)) = some (ruleK r) := by
  obtain ⟨f0, f1, hu, ⟨n0, n1⟩, ⟨o0, o1⟩, t0, t1⟩ : ∃ f0 f1, Tryz.prog.underlying 50 = some (.struct #[f0, f1]) ∧ (f0.name ≠ "_" ∧ f1.name ≠ "_") ∧ (f0.offset = 0 ∧ f1.offset = 1) ∧ f0.type = 3 ∧ f1.type = 9 :=
    ⟨_, _, Tryz.underlying50, ⟨by decide, by decide⟩, ⟨rfl, rfl⟩, rfl, rfl⟩
  obtain ⟨hw, hl⟩ := h
  obtain ⟨n, hn⟩ := typesMany
  have hs : (⟨r.name.toArray⟩ : ByteArray).size ≤ maxLen := by show (List.toArray _).size ≤ _; simp; exact hl
  have k0 : Tryz.prog.keyLits (n + 1) 3 [Value.int .i64 r.kind] = some [.int .i64 r.kind] := by
    simp [Program.keyLits, Tryz.underlying3, hw]
  have k1 : Tryz.prog.keyLits (n + 1) 9 [strV r.name] = some [.string r.name] := by
    simp [Program.keyLits, Tryz.underlying9, strV, hs]
  have hform : (Value.agg (ruleA r)).formed Tryz.prog 50 = true := by
    simp [Value.formed, hu, cellsRule, ruleA]
  have hk : Tryz.prog.keyLits (n + 1 + 1) 50 [Value.int .i64 r.kind, strV r.name] = some [.int .i64 r.kind, .string r.name] := by
    unfold Program.keyLits
    rw [hu]
    simp [cellsRule, cellsInt, cellsStr, n0, n1, o0, o1, t0, t1, k0, k1]
  unfold keyOf
  rw [hu]
  simp only [ruleKeyType, hform, Bool.and_self, if_true]
  rw [hn, show (Value.agg (ruleA r)).cells.toList = [Value.int .i64 r.kind, strV r.name] from rfl, hk]
  rfl
theorem ruleK_inj {r q : Ru.Rule} (hr : RuleOk r) (hq : RuleOk q) (h : ruleK r = ruleK q) : r = q := by
  have e := ruleLaw.inj (rule_key r hr) (h ▸ rule_key q hq)
  have e2 : ruleA r = ruleA q := Value.agg.inj e
  have e0 := congrArg (fun c => c[0]?) e2
  have e1 := congrArg (fun c => c[1]?) e2
  simp only [ruleA_kind, ruleA_name, Option.some.injEq, Value.int.injEq, true_and] at e0 e1
  have e3 : r.name = q.name := by
    unfold strV at e1
    have := congrArg (fun b : ByteArray => b.data.toList) (Value.string.inj e1)
    simpa using this
  cases r; cases q
  simp only at e0 e3
  rw [e0, e3]
/-- The set of the rules acc. -/
def setD (acc : List Ru.Rule) : DataW Unit := setOf (.agg []) (acc.map ruleK)
theorem setD_nil : setD [] = .map [] := rfl
theorem setD_snoc (acc : List Ru.Rule) (r : Ru.Rule) : setD (acc ++ [r]) = (setD acc).put (ruleK r) (.agg []) := by
  unfold setD
  rw [List.map_append, List.map_singleton, setOf_snoc]
theorem keys_lit (acc : List Ru.Rule) : ∀ x ∈ acc.map ruleK, WideAt.IsKeyLit x := by
  intro x hx
  obtain ⟨r, _, rfl⟩ := List.mem_map.1 hx
  trivial
theorem has_setD {acc : List Ru.Rule} (h : ∀ x ∈ acc, RuleOk x) {r : Ru.Rule} (hr : RuleOk r) : Maps.has (setD acc) (ruleK r) = decide (r ∈ acc) := by
  unfold setD
  rw [has_setOf _ _ _ (keys_lit acc), List.any_map, Bool.eq_iff_iff, List.any_eq_true, decide_eq_true_eq]
  constructor
  · rintro ⟨x, hx, he⟩
    have := ruleK_inj (h x hx) hr (WideAt.sameKey_eq he)
    rw [← this]; exact hx
  · intro hm
    exact ⟨r, hm, show (ruleK r).sameKey (ruleK r) = true from WideAt.sameKey_self (show WideAt.IsKeyLit (ruleK r) from trivial)⟩
theorem size_app : ∀ (l acc : List Ru.Rule), (∀ x ∈ acc ++ l, RuleOk x) → (acc ++ l).Nodup → Maps.size (setD acc) = acc.length → Maps.size (setD (acc ++ l)) = (acc ++ l).length
  | [], acc, _, _, hs => by rw [List.append_nil]; exact hs
  | r :: l, acc, h, hd, hs => by
    have e : acc ++ r :: l = (acc ++ [r]) ++ l := by simp
    rw [e] at h hd ⊢
    refine size_app l (acc ++ [r]) h hd ?_
    rw [List.nodup_append, List.nodup_append] at hd
    have hn : r ∉ acc := fun hm => hd.1.2.2 r hm r (by simp) rfl
    rw [setD_snoc, size_put (show Tidy (setD acc) from tidy_setOf _ _ (keys_lit acc)), show has (setD acc) (ruleK r) = decide (r ∈ acc) from has_setD (fun x hx => h x (by simp [hx])) (h r (by simp)), decide_eq_false hn, if_neg (by simp), hs]
    simp
theorem size_setD {acc : List Ru.Rule} (h : ∀ x ∈ acc, RuleOk x) (hd : acc.Nodup) : Maps.size (setD acc) = acc.length := size_app acc [] h hd rfl
end Go.Proofs.YtnlhniaoaciopaaGreatDoor
/- The walk of strings.IndexAny for texts of whatever bytes and bytes below 128 that are looked for. -/
namespace Go.Proofs.YtnlhniaoaciopaaGreatDoor
open Go.RowKit
theorem validRune_calls (r : Int) (w : World) :
    Calls Tryz.prog 107 #[.int .i32 r] w fun e w' => e = .returned (.bool (validRune r)) ∧ w = w' := by
  go_enter Tryz.func107, Tryz.ntmps107
  go_wp2
  all_goals
    go_ret
    exact ⟨ret_bool (by unfold validRune; rw [Bool.eq_iff_iff]; simp; try omega), rfl⟩
theorem quietL2 {P : Program} {f : FuncId} {args : Array Value} {w : World} {k n : Nat} {v : Value} (h : Calls P f args (w.drewN (k + n)) fun e w' => e = .returned v ∧ w.drewN (k + n) = w') :
    Calls P f args (w.drewN (k + n)) fun e w'' => e = .returned v ∧ ∃ m, w'' = w.drewN (k + m) := h.mono fun _ _ hh => ⟨hh.1, n, hh.2.symm⟩
theorem below_draws (B : Nat) (w : World) (n : Nat) : Below B w (w.drewN n) := (show Drawn w (w.drewN n) from ⟨n, rfl⟩).below B
theorem high_calls (s : ByteArray) (c : UInt8) (k : Nat) (hc : 128 ≤ c.toNat) (hs : ∀ b ∈ s.data.toList, b.toNat < 128) (W : World) :
    Calls Tryz.prog 106 #[.string (s.extract k s.size), .int .u8 (c.toNat : Int)] W fun e w' => e = .returned (.int .i64 (-1)) ∧ W = w' := by
  refine (Tryz.strings_IndexByte (s.extract k s.size) (c.toNat : Int) W).mono fun e w' ⟨he, hw⟩ => ⟨?_, hw.symm⟩
  rw [he]
  have e1 : ((c.toNat : Int)).toNat.toUInt8 = c := by simp
  rw [e1, Rune.no_byte hc (fun b hb => hs b (mem_extract hb))]
set_option maxRecDepth 100000 in
set_option maxHeartbeats 4000000 in
/-- A rune beyond 127 stands in no text of bytes below 128. -/
theorem runeHigh_calls (s : ByteArray) (r : Int) (w : World) (h0 : 128 ≤ r) (hs : ∀ b ∈ s.data.toList, b.toNat < 128) (hz : s.size ≤ 1000) :
    Calls Tryz.prog 89 #[.string s, .int .i32 r] w fun e w' => e = .returned (.int .i64 (-1)) ∧ Below w.heap.size w w' := by
  have h1 : (0 : Int) ≤ r := by omega
  have h2 : ¬ r < 128 := by omega
  by_cases he : r = 65533
  · have he1 : (r == 65533) = true := by rw [he]; rfl
    have HS := Lib.hid hs
    clear hs he
    go_enter Tryz.func89, Tryz.ntmps89
    go_wp2
    go_loopg [5, 6] s.size (fun g _ _ wx => ∃ i : Nat, i + g = s.size ∧ wx = w.iter s i)
    case atStart => exact ⟨0, by omega, rfl⟩
    case round =>
      obtain ⟨i, hig, rfl⟩ := hrel
      cases gk with
      | zero =>
        obtain rfl : i = s.size := by omega
        have hnx := run_next_end (P := Tryz.prog) w s s.size
        go_wp2
        go_ret
        exact ⟨rfl, (Below.refl w.heap.size w).alloc (Nat.le_refl _) _⟩
      | succ g =>
        have hi : i < s.size := by omega
        obtain ⟨x, hx⟩ : ∃ x : UInt8, s[i]'hi = x := ⟨_, rfl⟩
        have hx128 : x.toNat < 128 := HS.out x (by rw [← hx]; exact Array.getElem_mem_toList (xs := s.data) hi)
        have hnx := fun ty => run_next_ascii (P := Tryz.prog) w s i ty hi (by rw [hx]; exact hx128)
        rw [hx] at hnx
        have hne : ((x.toNat : Int) == 65533) = false := beq_eq_false_iff_ne.2 (by omega)
        go_wp2
        go_roundg g
        case measure => omega
        case rel => exact ⟨i + 1, by omega, rfl⟩
  have he1 : (r == 65533) = false := beq_eq_false_iff_ne.2 he
  cases hv : validRune r with
  | false =>
    have H := Lib.hid (fun W => validRune_calls r W)
    rw [hv] at H
    clear hv hs
    go_enter Tryz.func89, Tryz.ntmps89
    go_wp2_with (go_at_call 107; refine (H.out _).mono ?_; rintro e w' ⟨rfl, rfl⟩)
    go_ret
    exact ⟨rfl, Below.refl _ _⟩
  | true =>
    obtain ⟨f1, f2, f3⟩ := encode_facts r (by rw [validRune_eq]; exact hv) h0
    have H := Lib.hid (fun W => validRune_calls r W)
    rw [hv] at H
    have hi32 := Tryz.underlying21
    have hstr := Tryz.underlying9
    obtain ⟨E, hE⟩ : ∃ E, Utf8.encode r = E := ⟨_, rfl⟩
    have HE := fun W => run_convert_int_string (P := Tryz.prog) (w := W) (src := 21) (dst := 9) (k := .i32) (n := r) (hs := by rw [hi32]; rfl) (hd := hstr)
    rw [hE] at f1 f2 f3
    have hlast : E.size - 1 < E.size := by omega
    obtain ⟨c, hc⟩ : ∃ c, E[E.size - 1]'hlast = c := ⟨_, rfl⟩
    have hc128 := f3 hlast
    rw [hc] at hc128
    have hw1 : IntKind.i64.wrap ((E.size : Int) - 1) = ((E.size - 1 : Nat) : Int) := by rw [IntKind.wrap_i64]; omega
    have HS := Lib.hid hs
    have HC := Lib.hid hc
    clear hv hs f3 hc
    generalize hl : E.size - 1 = l at *
    go_enter Tryz.func89, Tryz.ntmps89
    go_wp2_with (go_at_call 107; refine (H.out _).mono ?_; rintro e w' ⟨rfl, rfl⟩)
    go_step3
    go_wp2
    go_loopw [9, 10, 11, 12] (fun i _ _ _ wr => i = .int .i64 (l : Int) ∧ wr = w) (fun _ _ _ _ _ => 0)
    case atStart => exact ⟨rfl, rfl⟩
    case round =>
      obtain ⟨rfl, rfl⟩ := hrel
      by_cases hlt : l < s.size
      · have hsl : (s[l]'hlt).toNat < 128 := HS.out _ (Array.getElem_mem_toList (xs := s.data) hlt)
        have hcl : (E[l]'hlast).toNat = c.toNat := by rw [HC.out]
        have hne : (((s[l]'hlt).toNat : Int) != ((E[l]'hlast).toNat : Int)) = true := by rw [bne_iff_ne]; omega
        have HI := Lib.hid (high_calls s (E[l]'hlast) (l + 1) (by omega) HS.out)
        have hw2 : IntKind.i64.wrap ((l : Int) + 1) = (l : Int) + 1 := by rw [IntKind.wrap_i64]; omega
        have hle0 : (0 : Int) ≤ (l : Int) + 1 := by omega
        have hle1 : (l : Int) + 1 ≤ (s.size : Int) := by omega
        have hto : ((l : Int) + 1).toNat = l + 1 := by omega
        clear hsl hcl HS HC
        go_wp2
        go_step3
        go_wp2
        go_quiet (fail)
        go_wp2
        go_quiet ((go_at_call 106; exact quietL2 (HI.out _)))
        go_wp2
        rw [Exit.noGoto_ret]
        go_wp2
        rw [Exit.noGoto_ret]
        go_ret
        exact ⟨rfl, below_draws _ _ _⟩
      · go_wp2
        rw [Exit.noGoto_ret]
        go_ret
        exact ⟨rfl, Below.refl _ _⟩
set_option maxRecDepth 100000 in
set_option maxHeartbeats 4000000 in
/-- A text of at most eight bytes, rune by rune. -/
theorem anyShort_calls (s chars : ByteArray) (w : World) (h2 : 2 ≤ chars.size) (h8 : s.size ≤ 8) (hz : chars.size ≤ 1000) (hch : ∀ b ∈ chars.data.toList, b.toNat < 128) :
    Calls Tryz.prog 76 #[.string s, .string chars] w fun e w' => e = .returned (.int .i64 (Lib.indexAny s.data.toList chars.data.toList)) ∧ Below w.heap.size w w' := by
  have hemp : chars.toList.isEmpty = false := by
    rw [Lib.toList_data]
    cases h : chars.data.toList with
    | nil => have := Lib.size_eq chars; rw [h, List.length_nil] at this; omega
    | cons _ _ => rfl
  have hn1 : ((chars.size : Int) == 1) = false := beq_eq_false_iff_ne.2 (by omega)
  have h8z : decide ((8 : Int) < (s.size : Int)) = false := decide_eq_false (by omega)
  have HS := Lib.hid (fun W => Tryz.strings_shouldUseASCIISet (s.size : Int) W)
  rw [h8z] at HS
  have HR := Lib.hid (fun r W h => runeHigh_calls chars r W h hch hz)
  have HA := Lib.hid (fun r W h0 h1 => Tryz.strings_IndexRune_ascii chars r W h0 h1)
  have HC := Lib.hid hch
  clear h8z hch
  go_enter Tryz.func76, Tryz.ntmps76
  go_wp2_with (go_at_call 90; refine (HS.out _).mono ?_; rintro e w' ⟨rfl, hw⟩; rw [hw])
  go_loopg [9, 10] s.size (fun g _ _ wx => ∃ i : Nat, i + g = s.size ∧ wx.heap[w.heap.size]? = some (.stringIter s i) ∧ Below w.heap.size w wx ∧ Lib.NoAny s.data.toList chars.data.toList i)
  case atStart => exact ⟨0, by omega, World.iter_heap w s 0, (Below.refl w.heap.size w).alloc (Nat.le_refl _) _, Lib.NoAny.zero _ _⟩
  case round =>
    obtain ⟨i, hig, hk, hb, hno⟩ := hrel
    have HN := Lib.hid hno
    clear hno
    cases gk with
    | zero =>
      obtain rfl : i = s.size := by omega
      have hnx := fun ty => Go.Lib.run_next_end_at (P := Tryz.prog) wr w.heap.size s s.size ty hk (by omega)
      have HB := Lib.hid hb
      clear hb hk
      go_wp2
      go_ret
      exact ⟨ret_int (by rw [Lib.indexAny_none (by rw [← Lib.size_eq]; exact HN.out)]), HB.out⟩
    | succ g =>
      have hi : i < s.size := by omega
      obtain ⟨x, hx⟩ : ∃ x : UInt8, s[i]'hi = x := ⟨_, rfl⟩
      have hxl : s.data.toList[i]? = some x := by rw [← hx]; exact Lib.data_getElem? s i hi
      have hk2 := fun p => Go.Lib.iterAt_heap wr w.heap.size s i p hk
      have hb2 := fun p => Go.Lib.below_iterAt hb (Nat.le_refl w.heap.size) s p
      by_cases hx128 : x.toNat < 128
      · have hnx := fun ty => Go.Lib.run_next_ascii_at (P := Tryz.prog) wr w.heap.size s i ty hk hi (by rw [hx]; exact hx128)
        rw [hx] at hnx
        have hk3 := Lib.hid (hk2 (i + 1))
        have hb3 := Lib.hid (hb2 (i + 1))
        have Hx := Lib.hid hxl
        clear hk2 hb2 hk hb hxl hx
        generalize wr.iterAt w.heap.size s (i + 1) = wy at *
        have hcon := Lib.contains_iff_indexByte chars.data.toList x
        have hback : ((x.toNat : Int)).toNat.toUInt8 = x := by simp
        have HX := Lib.hid (HA.out (x.toNat : Int) wy (by omega) (by omega))
        rw [hback] at HX
        clear hback
        cases hin : chars.data.toList.contains x with
        | false =>
          rw [hin] at hcon
          have hlt : ¬ ((0 : Int) ≤ Lib.indexByte chars.data.toList x) := of_decide_eq_false hcon.symm
          have HI := Lib.hid hin
          clear hcon hin
          go_wp2_with (go_at_call 89; refine HX.out.mono ?_; rintro e w' ⟨rfl, hw⟩; rw [hw])
          go_roundg g
          case measure => omega
          case rel => exact ⟨i + 1, by omega, hk3.out, hb3.out, HN.out.succ Hx.out HI.out⟩
        | true =>
          rw [hin] at hcon
          have hge : (0 : Int) ≤ Lib.indexByte chars.data.toList x := of_decide_eq_true hcon.symm
          have HI := Lib.hid hin
          clear hcon hin
          go_wp2_with (go_at_call 89; refine HX.out.mono ?_; rintro e w' ⟨rfl, hw⟩; rw [hw])
          go_ret
          exact ⟨ret_int (Lib.indexAny_hit HN.out Hx.out HI.out).symm, hb3.out⟩
      · have hx2 : 128 ≤ (s[i]'hi).toNat := by rw [hx]; omega
        obtain ⟨d1, d2⟩ := decode_high s i hi hx2
        have d3 := Rune.decode_skip s i hi hx2
        have hnx := fun ty => Go.Lib.run_next_any_at (P := Tryz.prog) wr w.heap.size s i ty hk hi
        generalize (Utf8.decode s i).2 = wd at *
        generalize (Utf8.decode s i).1 = r at *
        have hle : i + wd ≤ s.size := by
          obtain ⟨hh, _⟩ := d3 (i + wd - 1) (by omega) (by omega)
          omega
        have hskip := Lib.hid (Rune.any_skip (j := i + wd) HN.out (fun k b h1 h2 h3 => by
          obtain ⟨hh, h4⟩ := d3 k h1 h2
          have e := Lib.data_getElem? s k hh
          rw [h3] at e
          refine Rune.low_free HC.out ?_
          rw [Option.some.inj e]; exact h4))
        have hk3 := Lib.hid (hk2 (i + wd))
        have hb3 := Lib.hid (hb2 (i + wd))
        clear hk2 hb2 hk hb hxl hx d3 HN
        generalize wr.iterAt w.heap.size s (i + wd) = wy at *
        have hlt : w.heap.size < wy.heap.size := (Array.getElem?_eq_some_iff.1 hk3.out).1
        have HX := Lib.hid (HR.out (r : Int) wy (by omega))
        go_wp2_with fail
        refine HX.out.mono ?_
        rintro e w4 ⟨rfl, hb4⟩
        have hk5 := Lib.hid ((hb4.block _ hlt).trans hk3.out)
        have hb5 := Lib.hid (hb3.out.trans (hb4.mono (by omega)))
        clear hb4 hk3 hb3
        go_wp2
        go_roundg (s.size - (i + wd))
        case measure => omega
        case rel => exact ⟨i + wd, by omega, hk5.out, hb5.out, hskip.out⟩
/-- Where one of two or more bytes below 128 stands first, in a text of whatever bytes. -/
theorem any_calls (s chars : ByteArray) (w : World) (h2 : 2 ≤ chars.size) (hz : chars.size ≤ 1000) (hch : ∀ b ∈ chars.data.toList, b.toNat < 128) (hs : s.size ≤ 4294967280) :
    Calls Tryz.prog 76 #[.string s, .string chars] w fun e w' => e = .returned (.int .i64 (Lib.indexAny s.data.toList chars.data.toList)) ∧ Below w.heap.size w w' := by
  by_cases h8 : s.size ≤ 8
  · exact anyShort_calls s chars w h2 h8 hz hch
  · refine (Tryz.strings_IndexAny_long (zero_of_info (n := 256) (by kernel_rfl)).1 s chars w h2 (by omega) (by omega) (by omega) (fun j b hj => hch b (List.mem_of_getElem? hj))).mono fun e w' ⟨he, hw⟩ => ⟨he, ?_⟩
    rw [hw]
    exact ((Below.refl w.heap.size w).alloc (Nat.le_refl _) _).alloc (by show w.heap.size ≤ (w.heap.push _).size; simp) _
theorem anyOne_calls (s chars : ByteArray) (w : World) (h1 : chars.size = 1) (hch : ∀ b ∈ chars.data.toList, b.toNat < 128) :
    Calls Tryz.prog 76 #[.string s, .string chars] w fun e w' => e = .returned (.int .i64 (Lib.indexAny s.data.toList chars.data.toList)) ∧ Below w.heap.size w w' :=
  (Tryz.strings_IndexAny_one s chars w h1 (fun j b hj => hch b (List.mem_of_getElem? hj))).mono fun e w' ⟨he, hw⟩ => ⟨he, by rw [hw]; exact Below.refl _ _⟩
end Go.Proofs.YtnlhniaoaciopaaGreatDoor
/- The walks of the small calls of package rule. -/
namespace Go.Proofs.YtnlhniaoaciopaaGreatDoor
open Go.RowKit Go.Maps
set_option maxHeartbeats 1000000 in
theorem first_calls (s : ByteArray) (w : World) (hs : s.size ≤ 4294967280) :
    Calls Tryz.prog 62 #[.string s] w (NewText w.heap.size (Ru.first s.data.toList) w) := by
  have H1 := Lib.hid (fun W => any_calls s ⟨#[32, 9]⟩ W (by decide) (by decide) (by decide) hs)
  have e1 : (⟨#[32, 9]⟩ : ByteArray).data.toList = [32, 9] := rfl
  rw [e1] at H1
  by_cases hn : Lib.indexAny s.data.toList [32, 9] < 0
  · obtain ⟨e1, _⟩ := Ur.indexAny_at hn
    have HE : Hid ((⟨(Ru.first s.data.toList).toArray⟩ : ByteArray) = s) := Lib.hid (by unfold Ru.first; rw [e1, mk_bytes])
    clear e1
    generalize Ru.first s.data.toList = l at *
    generalize Lib.indexAny s.data.toList [32, 9] = r at *
    go_enter Tryz.func62, Tryz.ntmps62
    go_wp2_with fail
    refine (H1.out _).mono ?_
    rintro e v1 ⟨rfl, d1⟩
    go_wp2
    go_ret
    exact ⟨ret_str HE.out.symm, d1⟩
  · obtain ⟨e1, e2⟩ := Ur.indexAny_hits hn
    rw [e1] at H1
    have hle : Ur.find s.data.toList [32, 9] ≤ s.size := by rw [Oct.length_bytes] at e2; omega
    have HA : Hid (s.extract 0 (Ur.find s.data.toList [32, 9]) = ⟨(Ru.first s.data.toList).toArray⟩) := Lib.hid (extract_take s _)
    clear hn e1 e2
    generalize Ru.first s.data.toList = l at *
    generalize Ur.find s.data.toList [32, 9] = n at *
    have hn0 : ¬ (n : Int) < 0 := by omega
    have hle1 : (n : Int) ≤ (s.size : Int) := by omega
    go_enter Tryz.func62, Tryz.ntmps62
    go_wp2_with fail
    refine (H1.out _).mono ?_
    rintro e v1 ⟨rfl, d1⟩
    go_wp2
    go_ret
    exact ⟨ret_str HA.out, d1⟩
set_option maxHeartbeats 1000000 in
theorem mark_calls (s : ByteArray) (w : World) :
    Calls Tryz.prog 61 #[.string s] w fun e w' => e = .returned (.tuple #[.int .i64 (Ru.kind s.data.toList), .string ⟨(Ru.rest s.data.toList).toArray⟩]) ∧ w = w' := by
  have H1 := Lib.hid (fun W => Tryz.strings_CutPrefix s ⟨#[33]⟩ W)
  have H2 := Lib.hid (fun W => Tryz.strings_CutPrefix s ⟨#[42, 46]⟩ W)
  have e1 : (⟨#[33]⟩ : ByteArray).data.toList = [33] := rfl
  have e2 : (⟨#[42, 46]⟩ : ByteArray).data.toList = [42, 46] := rfl
  rw [e1] at H1
  rw [e2] at H2
  have HK : Hid (Ru.kind s.data.toList = if Lib.hasPrefix s.data.toList [33] = true then 3 else if Lib.hasPrefix s.data.toList [42, 46] = true then 2 else 1) := Lib.hid rfl
  have HR : Hid (Ru.rest s.data.toList = if Lib.hasPrefix s.data.toList [33] = true then Lib.trimPrefix s.data.toList [33] else if Lib.hasPrefix s.data.toList [42, 46] = true then Lib.trimPrefix s.data.toList [42, 46] else s.data.toList) := Lib.hid rfl
  clear e1 e2
  generalize Ru.kind s.data.toList = K at *
  generalize Ru.rest s.data.toList = R at *
  generalize Lib.trimPrefix s.data.toList [33] = t1 at *
  generalize Lib.trimPrefix s.data.toList [42, 46] = t2 at *
  cases h1 : Lib.hasPrefix s.data.toList [33] with
  | true =>
    rw [h1] at H1 HK HR
    have KK : Hid (K = 3) := Lib.hid (by rw [HK.out, if_pos rfl])
    have RR : Hid (R = t1) := Lib.hid (by rw [HR.out, if_pos rfl])
    clear h1 HK HR
    go_enter Tryz.func61, Tryz.ntmps61
    go_wp2_with fail
    refine (H1.out _).mono ?_
    rintro e v1 ⟨rfl, rfl⟩
    go_wp2
    go_ret2
    exact ⟨ret_two (val_int KK.out.symm) (val_str (by rw [RR.out])), rfl⟩
  | false =>
    rw [h1] at H1 HK HR
    clear h1
    cases h2 : Lib.hasPrefix s.data.toList [42, 46] with
    | true =>
      rw [h2] at H2 HK HR
      have KK : Hid (K = 2) := Lib.hid (by rw [HK.out, if_neg (by simp), if_pos rfl])
      have RR : Hid (R = t2) := Lib.hid (by rw [HR.out, if_neg (by simp), if_pos rfl])
      clear h2 HK HR
      go_enter Tryz.func61, Tryz.ntmps61
      go_wp2_with fail
      refine (H1.out _).mono ?_
      rintro e v1 ⟨rfl, rfl⟩
      go_wp2_with fail
      refine (H2.out _).mono ?_
      rintro e v2 ⟨rfl, rfl⟩
      go_wp2
      go_ret2
      exact ⟨ret_two (val_int KK.out.symm) (val_str (by rw [RR.out])), rfl⟩
    | false =>
      rw [h2] at H2 HK HR
      have KK : Hid (K = 1) := Lib.hid (by rw [HK.out, if_neg (by simp), if_neg (by simp)])
      have RR : Hid (R = s.data.toList) := Lib.hid (by rw [HR.out, if_neg (by simp), if_neg (by simp)])
      clear h2 HK HR
      go_enter Tryz.func61, Tryz.ntmps61
      go_wp2_with fail
      refine (H1.out _).mono ?_
      rintro e v1 ⟨rfl, rfl⟩
      go_wp2_with fail
      refine (H2.out _).mono ?_
      rintro e v2 ⟨rfl, rfl⟩
      go_wp2
      go_ret2
      exact ⟨ret_two (val_int KK.out.symm) (val_str (by rw [RR.out, mk_bytes])), rfl⟩
/-- A set of rules in memory. -/
structure RuleSet (w : World) (g : Nat) (acc : List Ru.Rule) : Prop where
  own : w.ownsMap Tryz.prog 50 (unitElem (H := Unit)) g acc.length (setD acc)
  ok : ∀ x ∈ acc, RuleOk x
  once : acc.Nodup
theorem RuleSet.stays {w w' : World} {g : Nat} {acc : List Ru.Rule} (h : RuleSet w g acc) (hb : Below w.heap.size w w') : RuleSet w' g acc :=
  ⟨h.own.kept (row := none) ⟨hb.os, hb.tape, hb.output, hb.size, fun i hi _ => hb.block i hi⟩ (by simp), h.ok, h.once⟩
theorem RuleSet.new (w : World) : RuleSet (w.alloc (.map #[] 0)) w.heap.size [] := ⟨World.ownsMap_made _ _ _ _, by simp, by simp⟩
/-! ### Text -/
set_option maxRecDepth 100000 in
set_option maxHeartbeats 1000000 in
theorem ruleText_calls (r : Ru.Rule) (w : World) (hr : r.name.length ≤ 1048576) :
    Calls Tryz.prog 44 #[.agg (ruleA r)] w (NewText w.heap.size (Ru.text r) w) := by
  obtain ⟨t, ht⟩ : ∃ t : ByteArray, t = ⟨r.name.toArray⟩ := ⟨_, rfl⟩
  have R0 := Row.new w 50 (ruleA r)
  have c0 : (w.alloc (.cells (ruleA r) 50)).cell? ⟨w.heap.size, 0, none⟩ = some (.int .i64 r.kind) := by rw [R0.cell, ruleA_kind]
  have c1 : (w.alloc (.cells (ruleA r) 50)).cell? ⟨w.heap.size, 1, none⟩ = some (.string t) := by rw [R0.cell, ruleA_name, ht]; rfl
  have B0 := (Below.refl w.heap.size w).alloc (Nat.le_refl _) (.cells (ruleA r) 50)
  have hts : t.size ≤ 1048576 := by rw [ht]; show (List.toArray _).size ≤ _; simp; exact hr
  have hn1 : ¬ 9223372036854775807 < (⟨#[33]⟩ : ByteArray).size + t.size := by show ¬ 9223372036854775807 < 1 + t.size; omega
  have hn2 : ¬ 9223372036854775807 < (⟨#[42, 46]⟩ : ByteArray).size + t.size := by show ¬ 9223372036854775807 < 2 + t.size; omega
  have htl : t.data.toList = r.name := by rw [ht]
  have E1 : Hid ((⟨#[33]⟩ ++ t : ByteArray) = ⟨(33 :: r.name).toArray⟩) := Lib.hid (by apply ByteArray.ext; rw [ht]; simp)
  have E2 : Hid ((⟨#[42, 46]⟩ ++ t : ByteArray) = ⟨(42 :: 46 :: r.name).toArray⟩) := Lib.hid (by apply ByteArray.ext; rw [ht]; simp)
  have E3 := Lib.hid ht
  have HT : Hid (Ru.text r = if r.kind = 3 then 33 :: r.name else if r.kind = 2 then 42 :: 46 :: r.name else r.name) := Lib.hid rfl
  clear ht htl R0 hr
  generalize Ru.text r = T at *
  generalize r.kind = k at *
  generalize r.name = m at *
  generalize ruleA r = X at *
  by_cases h3 : k = 3
  · have h31 : (k == 3) = true := by simpa using h3
    have HY : Hid (T = 33 :: m) := Lib.hid (by rw [HT.out, if_pos h3])
    clear h3 HT
    go_enter Tryz.func44, Tryz.ntmps44
    go_wp2
    go_ret
    exact ⟨ret_str (by rw [HY.out]; exact E1.out), B0⟩
  · have h31 : (k == 3) = false := by simpa using h3
    by_cases h2 : k = 2
    · have h21 : (k == 2) = true := by simpa using h2
      have HY : Hid (T = 42 :: 46 :: m) := Lib.hid (by rw [HT.out, if_neg h3, if_pos h2])
      clear h3 h2 HT
      go_enter Tryz.func44, Tryz.ntmps44
      go_wp2
      go_ret
      exact ⟨ret_str (by rw [HY.out]; exact E2.out), B0⟩
    · have h21 : (k == 2) = false := by simpa using h2
      have HY : Hid (T = m) := Lib.hid (by rw [HT.out, if_neg h3, if_neg h2])
      clear h3 h2 HT
      go_enter Tryz.func44, Tryz.ntmps44
      go_wp2
      go_ret
      exact ⟨ret_str (by rw [HY.out]; exact E3.out), B0⟩
end Go.Proofs.YtnlhniaoaciopaaGreatDoor
/- The walks of Trim, of octet and of the reference. -/
namespace Go.Proofs.YtnlhniaoaciopaaGreatDoor
open Go.RowKit

set_option maxRecDepth 100000 in
set_option maxHeartbeats 1000000 in
theorem trim_calls (s : ByteArray) (w : World) (hs : s.size ≤ maxLen) :
    Calls Tryz.prog 59 #[.string s] w fun e w' => e = .returned (.string ⟨(Oct.trim s.data.toList).toArray⟩) ∧ w = w' := by
  unfold maxLen at hs
  go_enter Tryz.func59, Tryz.ntmps59
  go_wp2
  go_loop [3] (fun i => ∃ k : Nat, k ≤ s.size ∧ i = .int .i64 k ∧ s.data.toList.dropWhile Oct.blankB = (s.data.toList.drop k).dropWhile Oct.blankB) (fun i => s.size - (intOf i).toNat)
  case atStart => exact ⟨0, Nat.zero_le _, rfl, by simp⟩
  case round =>
    obtain ⟨k, hk, rfl, hd⟩ := hrel
    have HD := Lib.hid hd
    clear hd
    have hor : (∃ h : k < s.size, Oct.blankB s[k] = true) ∨ ((∃ h : k < s.size, Oct.blankB s[k] = false) ∨ ¬ k < s.size) := by
      by_cases h : k < s.size
      · cases hb : Oct.blankB s[k]
        · exact .inr (.inl ⟨h, hb⟩)
        · exact .inl ⟨h, hb⟩
      · exact .inr (.inr h)
    rcases hor with ⟨hlt, hbk⟩ | hor
    · have HE := Lib.hid (HD.out.trans (Oct.drop_yes (by rw [Oct.length_bytes]; exact hlt) hbk))
      go_wp2_with (go_at_call 73; refine (blank_calls _ _).mono ?_; rintro e w' ⟨rfl, rfl⟩)
      go_round
      case rel => exact ⟨k + 1, by omega, by go_num, HE.out⟩
      case measure => simp [intOf]; omega
    · have HE : Hid (s.data.toList.dropWhile Oct.blankB = s.data.toList.drop k) := by
        refine Lib.hid (HD.out.trans ?_)
        rcases hor with ⟨hlt, hbk⟩ | hge
        · exact Oct.drop_no (by rw [Oct.length_bytes]; exact hlt) hbk
        · exact Oct.drop_end (by rw [Oct.length_bytes]; omega)
      rcases hor with ⟨hlt, hbk⟩ | hge
      all_goals
        go_wp2_with (go_at_call 73; refine (blank_calls _ _).mono ?_; rintro e w' ⟨rfl, rfl⟩)
        go_loop [4] (fun i => ∃ m : Nat, k ≤ m ∧ m ≤ s.size ∧ i = .int .i64 m ∧ Oct.chopEnd (s.data.toList.drop k) = Oct.chopEnd (Oct.mid s.data.toList k m)) (fun i => (intOf i).toNat)
        case atStart => exact ⟨s.size, hk, Nat.le_refl _, rfl, by rw [Oct.mid_all (by rw [Oct.length_bytes]; exact Nat.le_refl _)]⟩
        case round =>
          obtain ⟨m, hkm, hm, rfl, hc⟩ := hrel
          have HC := Lib.hid hc
          clear hc
          by_cases hkl : k < m
          · try (exfalso; omega)
            all_goals
              have hmm : ((m : Int) - 1).toNat = m - 1 := by omega
              have hm1 : m - 1 < s.size := by omega
              have HS := Lib.hid (Oct.mid_succ hkl (l := s.data.toList) (by rw [Oct.length_bytes]; exact hm))
              cases hb : Oct.blankB s[m - 1] with
              | true =>
                have HF := Lib.hid (show Oct.chopEnd (s.data.toList.drop k) = Oct.chopEnd (Oct.mid s.data.toList k (m - 1)) from by rw [HC.out, HS.out]; exact Oct.chopEnd_yes _ _ hb)
                go_wp2_with (go_at_call 73; refine (blank_calls _ _).mono ?_; rintro e w' ⟨rfl, rfl⟩)
                go_round
                case rel => exact ⟨m - 1, by omega, by omega, by go_num, HF.out⟩
                case measure => simp [intOf]; omega
              | false =>
                have HF := Lib.hid (show Oct.trim s.data.toList = Oct.mid s.data.toList k m from by unfold Oct.trim; rw [HE.out, HC.out, HS.out]; exact Oct.chopEnd_no _ _ hb)
                go_wp2_with (go_at_call 73; refine (blank_calls _ _).mono ?_; rintro e w' ⟨rfl, rfl⟩)
                go_ret
                exact ⟨ret_str (by rw [HF.out, Lib.extract_eq, Oct.mid]), rfl⟩
          · have HF := Lib.hid (show Oct.trim s.data.toList = Oct.mid s.data.toList k m from by unfold Oct.trim; rw [HE.out, HC.out, Oct.mid_none (by omega)]; rfl)
            go_wp2
            go_ret
            exact ⟨ret_str (by rw [HF.out, Lib.extract_eq, Oct.mid]), rfl⟩


set_option maxRecDepth 100000 in
set_option maxHeartbeats 1000000 in
theorem refTrim_calls (s : ByteArray) (w : World) (hs : s.size ≤ maxLen) :
    Calls Tryz.prog 52 #[.string s] w fun e w' => e = .returned (.string ⟨(Oct.trim s.data.toList).toArray⟩) ∧ w = w' := by
  unfold maxLen at hs
  go_enter Tryz.func52, Tryz.ntmps52
  go_wp2
  go_loop [0] (fun v => ∃ u : ByteArray, v = .string u ∧ u.size ≤ s.size ∧ s.data.toList.dropWhile Oct.blankB = u.data.toList.dropWhile Oct.blankB) (fun v => match v with | .string u => u.size | _ => 0)
  case atStart => exact ⟨s, rfl, Nat.le_refl _, rfl⟩
  case round =>
    obtain ⟨u, rfl, hu, hd⟩ := hrel
    have HD := Lib.hid hd
    clear hd
    have hor : (∃ h : 0 < u.size, Oct.blankB u[0] = true) ∨ ((∃ h : 0 < u.size, Oct.blankB u[0] = false) ∨ u.size = 0) := by
      by_cases h : 0 < u.size
      · cases hb : Oct.blankB u[0]
        · exact .inr (.inl ⟨h, hb⟩)
        · exact .inl ⟨h, hb⟩
      · exact .inr (.inr (by omega))
    rcases hor with ⟨hlt, hbk⟩ | hor
    · have HE := Lib.hid (HD.out.trans (Oct.tail_yes hlt hbk))
      go_wp2_with (go_at_call 70; refine (refBlank_calls _ _).mono ?_; rintro e w' ⟨rfl, rfl⟩)
      go_round
      case rel => exact ⟨_, rfl, by rw [ByteArray.size_extract]; omega, by rw [Lib.extract_to_end]; exact HE.out⟩
      case measure => simp; omega
    · have HE : Hid (s.data.toList.dropWhile Oct.blankB = u.data.toList) := by
        refine Lib.hid (HD.out.trans ?_)
        rcases hor with ⟨hlt, hbk⟩ | hge
        · exact Oct.tail_no hlt hbk
        · exact Oct.tail_end hge
      have hor2 : (∃ h : 0 < u.size, Oct.blankB u[0] = false) ∨ u.size ≤ 0 := by
        rcases hor with h | h
        · exact .inl h
        · exact .inr (by omega)
      clear hor
      rcases hor2 with ⟨hlt, hbk⟩ | hge
      all_goals
        go_wp2_with (go_at_call 70; refine (refBlank_calls _ _).mono ?_; rintro e w' ⟨rfl, rfl⟩)
        go_loop [0] (fun v => ∃ x : ByteArray, v = .string x ∧ x.size ≤ u.size ∧ Oct.chopEnd u.data.toList = Oct.chopEnd x.data.toList) (fun v => match v with | .string x => x.size | _ => 0)
        case atStart => exact ⟨u, rfl, Nat.le_refl _, rfl⟩
        case round =>
          obtain ⟨x, rfl, hx, hc⟩ := hrel
          have HC := Lib.hid hc
          clear hc
          by_cases h0 : 0 < x.size
          · try (exfalso; omega)
            all_goals
              have hmm : ((x.size : Int) - 1).toNat = x.size - 1 := by omega
              have hm1 : x.size - 1 < x.size := by omega
              have HS := Lib.hid (Oct.last_split hm1)
              cases hb : Oct.blankB x[x.size - 1] with
              | true =>
                have HF := Lib.hid (show Oct.chopEnd u.data.toList = Oct.chopEnd (x.data.toList.take (x.size - 1)) from by rw [HC.out, HS.out, Oct.chopEnd_yes _ _ hb, ← HS.out])
                go_wp2_with (go_at_call 70; refine (refBlank_calls _ _).mono ?_; rintro e w' ⟨rfl, rfl⟩)
                go_round
                case rel => exact ⟨_, rfl, by rw [ByteArray.size_extract]; omega, by rw [Lib.extract_data, List.drop_zero, Nat.sub_zero]; exact HF.out⟩
                case measure => simp; omega
              | false =>
                have HF := Lib.hid (show Oct.trim s.data.toList = x.data.toList from by unfold Oct.trim; rw [HE.out, HC.out, HS.out, Oct.chopEnd_no _ _ hb])
                go_wp2_with (go_at_call 70; refine (refBlank_calls _ _).mono ?_; rintro e w' ⟨rfl, rfl⟩)
                go_ret
                exact ⟨ret_str (by rw [HF.out, Lib.mk_data]), rfl⟩
          · have HF := Lib.hid (show Oct.trim s.data.toList = x.data.toList from by unfold Oct.trim; rw [HE.out, HC.out, (Oct.nil_size x).2 (by omega)]; rfl)
            go_wp2
            go_ret
            exact ⟨ret_str (by rw [HF.out, Lib.mk_data]), rfl⟩
end Go.Proofs.YtnlhniaoaciopaaGreatDoor
