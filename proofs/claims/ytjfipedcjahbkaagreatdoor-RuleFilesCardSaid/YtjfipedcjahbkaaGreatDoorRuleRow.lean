/- Rules and faults as values, and held against each other. -/
import Derived.Test.YtjfipedcjahbkaaGreatDoorCells
import Derived.Test.YtjfipedcjahbkaaGreatDoorPlains
import Derived.Laws.Small
namespace Go.Proofs.YtjfipedcjahbkaaGreatDoor
open Go.RowKit
/-- A rule as a value. -/
def ruleA (r : Ru.Rule) : Array Value := #[Value.int .i64 r.kind, strV r.name]
/-- A fault as a value. -/
def faultA (f : Ru.Fault) : Array Value := #[Value.int .i64 f.code, .int .i64 f.line, .int .i64 f.col]
theorem ruleA_size (r : Ru.Rule) : (ruleA r).size = 2 := rfl
theorem faultA_size (f : Ru.Fault) : (faultA f).size = 3 := rfl
theorem ruleA_one (r : Ru.Rule) : (ruleA r).all (·.oneCell') = true := by simp [ruleA, strV, Value.oneCell']
theorem faultA_one (f : Ru.Fault) : (faultA f).all (·.oneCell') = true := by simp [faultA, Value.oneCell']
theorem ruleA_kind (r : Ru.Rule) : (ruleA r)[0]? = some (.int .i64 r.kind) := rfl
theorem ruleA_name (r : Ru.Rule) : (ruleA r)[1]? = some (strV r.name) := rfl
theorem faultA_code (f : Ru.Fault) : (faultA f)[0]? = some (.int .i64 f.code) := rfl
theorem faultA_line (f : Ru.Fault) : (faultA f)[1]? = some (.int .i64 f.line) := rfl
theorem faultA_col (f : Ru.Fault) : (faultA f)[2]? = some (.int .i64 f.col) := rfl
theorem infoRule : (Tryz.prog.info? 24).map (·.size) = some 2 := by kernel_rfl
theorem infoFault : (Tryz.prog.info? 34).map (·.size) = some 3 := by kernel_rfl
theorem zeroRule : #[Value.int .i64 0, .string ⟨#[]⟩] = ruleA Ru.zero := rfl
theorem zeroFault : #[Value.int .i64 0, .int .i64 0, .int .i64 0] = faultA Ru.fine := rfl
theorem built_rule (k : Int) (s : ByteArray) : Tryz.prog.built 24 [(0, .int .i64 k), (1, .string s)] = some (ruleA ⟨k, s.data.toList⟩) := by kernel_rfl
theorem built_zeroRule : Tryz.prog.built 24 [] = some (ruleA Ru.zero) := by kernel_rfl
theorem built_fault (c l k : Int) : Tryz.prog.built 34 [(0, .int .i64 c), (1, .int .i64 l), (2, .int .i64 k)] = some (faultA ⟨c, l, k⟩) := by kernel_rfl
theorem built_fine : Tryz.prog.built 34 [] = some (faultA Ru.fine) := by kernel_rfl
/-! ### Two rules -/
theorem eq_rule (r q : Ru.Rule) (W : World) : (Op.equalIn 10000 24 (.agg (ruleA r)) (.agg (ruleA q))).run Tryz.prog W = .ok (decide (r = q)) W := by
  obtain ⟨f0, f1, hf⟩ : ∃ f0 f1, Tryz.prog.underlying 24 = some (.struct #[f0, f1]) ∧ (f0.name ≠ "_" ∧ f1.name ≠ "_") ∧ (f0.offset = 0 ∧ f1.offset = 1) ∧ f0.type = 3 ∧ f1.type = 9 :=
    ⟨_, _, Tryz.underlying24, ⟨by decide, by decide⟩, ⟨rfl, rfl⟩, rfl, rfl⟩
  obtain ⟨hu, ⟨n0, n1⟩, ⟨o0, o1⟩, t0, t1⟩ := hf
  have hl : Tryz.prog.fieldsOf 24 = #[f0, f1] := by unfold Program.fieldsOf; rw [hu]
  rw [run_equalIn_struct W 9999 24 _ _ (by rw [hl]; exact hu) (by kernel_rfl), hl]
  have a0 : (part f0.type (ruleA r) f0.offset).run Tryz.prog W = .ok (.int .i64 r.kind) W := run_part_plain W (by rw [t0]; kernel_rfl) (by rw [o0]; rfl)
  have b0 : (part f0.type (ruleA q) f0.offset).run Tryz.prog W = .ok (.int .i64 q.kind) W := run_part_plain W (by rw [t0]; kernel_rfl) (by rw [o0]; rfl)
  have a1 : (part f1.type (ruleA r) f1.offset).run Tryz.prog W = .ok (strV r.name) W := run_part_plain W (by rw [t1]; kernel_rfl) (by rw [o1]; rfl)
  have b1 : (part f1.type (ruleA q) f1.offset).run Tryz.prog W = .ok (strV q.name) W := run_part_plain W (by rw [t1]; kernel_rfl) (by rw [o1]; rfl)
  have q0 : (Op.equalIn 9999 f0.type (.int .i64 r.kind) (.int .i64 q.kind)).run Tryz.prog W = .ok (r.kind == q.kind) W := run_equalIn_int W 9998 f0.type .i64 .i64 r.kind q.kind (by rw [t0]; exact Tryz.underlying3)
  have q1 : (Op.equalIn 9999 f1.type (strV r.name) (strV q.name)).run Tryz.prog W = .ok (decide (r.name = q.name)) W := by
    unfold strV
    rw [run_equalIn_string W 9998 f1.type _ _ (by rw [t1]; exact Tryz.underlying9), Oct.bytes_data, Oct.bytes_data]
    refine congrArg (fun b => Result.ok b W) ?_
    rw [Bool.eq_iff_iff]
    simp
  have hd : decide (r = q) = ((r.kind == q.kind) && decide (r.name = q.name)) := by
    rw [Bool.eq_iff_iff]
    simp only [decide_eq_true_eq, Bool.and_eq_true, beq_iff_eq]
    constructor
    · rintro rfl; exact ⟨rfl, rfl⟩
    · rintro ⟨e0, e1⟩
      cases r; cases q
      simp only at e0 e1
      rw [e0, e1]
  rw [hd]
  show (Op.eqFields 9999 (ruleA r) (ruleA q) [f0, f1]).run Tryz.prog W = _
  simp only [Op.eqFields, Sem.run_bind, a0, b0, a1, b1, q0, q1, Result.andThen_ok, Sem.run_ite, Sem.run_pure, ne_eq, n0, n1, not_false_eq_true, if_true]
  cases (r.kind == q.kind) <;> cases decide (r.name = q.name) <;> rfl
theorem eql_rule (r q : Ru.Rule) (W : World) : (binOp .eql 24 (.agg (ruleA r)) (.agg (ruleA q))).run Tryz.prog W = .ok (.bool (decide (r = q))) W := by
  rw [run_eql_struct, eq_rule r q W]; rfl
theorem neq_rule (r q : Ru.Rule) (W : World) : (binOp .neq 24 (.agg (ruleA r)) (.agg (ruleA q))).run Tryz.prog W = .ok (.bool (!decide (r = q))) W := by
  rw [run_neq_struct, eq_rule r q W]; rfl
/-! ### Two faults -/
theorem eq_fault (r q : Ru.Fault) (W : World) : (Op.equalIn 10000 34 (.agg (faultA r)) (.agg (faultA q))).run Tryz.prog W = .ok (decide (r = q)) W := by
  obtain ⟨f0, f1, f2, hf⟩ : ∃ f0 f1 f2, Tryz.prog.underlying 34 = some (.struct #[f0, f1, f2]) ∧ (f0.name ≠ "_" ∧ f1.name ≠ "_" ∧ f2.name ≠ "_") ∧ (f0.offset = 0 ∧ f1.offset = 1 ∧ f2.offset = 2) ∧ f0.type = 25 ∧ f1.type = 3 ∧ f2.type = 3 :=
    ⟨_, _, _, Tryz.underlying34, ⟨by decide, by decide, by decide⟩, ⟨rfl, rfl, rfl⟩, rfl, rfl, rfl⟩
  obtain ⟨hu, ⟨n0, n1, n2⟩, ⟨o0, o1, o2⟩, t0, t1, t2⟩ := hf
  have hl : Tryz.prog.fieldsOf 34 = #[f0, f1, f2] := by unfold Program.fieldsOf; rw [hu]
  rw [run_equalIn_struct W 9999 34 _ _ (by rw [hl]; exact hu) (by kernel_rfl), hl]
  have a0 : (part f0.type (faultA r) f0.offset).run Tryz.prog W = .ok (.int .i64 r.code) W := run_part_plain W (by rw [t0]; kernel_rfl) (by rw [o0]; rfl)
  have b0 : (part f0.type (faultA q) f0.offset).run Tryz.prog W = .ok (.int .i64 q.code) W := run_part_plain W (by rw [t0]; kernel_rfl) (by rw [o0]; rfl)
  have a1 : (part f1.type (faultA r) f1.offset).run Tryz.prog W = .ok (.int .i64 r.line) W := run_part_plain W (by rw [t1]; kernel_rfl) (by rw [o1]; rfl)
  have b1 : (part f1.type (faultA q) f1.offset).run Tryz.prog W = .ok (.int .i64 q.line) W := run_part_plain W (by rw [t1]; kernel_rfl) (by rw [o1]; rfl)
  have a2 : (part f2.type (faultA r) f2.offset).run Tryz.prog W = .ok (.int .i64 r.col) W := run_part_plain W (by rw [t2]; kernel_rfl) (by rw [o2]; rfl)
  have b2 : (part f2.type (faultA q) f2.offset).run Tryz.prog W = .ok (.int .i64 q.col) W := run_part_plain W (by rw [t2]; kernel_rfl) (by rw [o2]; rfl)
  have q0 : (Op.equalIn 9999 f0.type (.int .i64 r.code) (.int .i64 q.code)).run Tryz.prog W = .ok (r.code == q.code) W := run_equalIn_int W 9998 f0.type .i64 .i64 r.code q.code (by rw [t0]; exact Tryz.underlying25)
  have q1 : (Op.equalIn 9999 f1.type (.int .i64 r.line) (.int .i64 q.line)).run Tryz.prog W = .ok (r.line == q.line) W := run_equalIn_int W 9998 f1.type .i64 .i64 r.line q.line (by rw [t1]; exact Tryz.underlying3)
  have q2 : (Op.equalIn 9999 f2.type (.int .i64 r.col) (.int .i64 q.col)).run Tryz.prog W = .ok (r.col == q.col) W := run_equalIn_int W 9998 f2.type .i64 .i64 r.col q.col (by rw [t2]; exact Tryz.underlying3)
  have hd : decide (r = q) = ((r.code == q.code) && ((r.line == q.line) && (r.col == q.col))) := by
    rw [Bool.eq_iff_iff]
    simp only [decide_eq_true_eq, Bool.and_eq_true, beq_iff_eq]
    constructor
    · rintro rfl; exact ⟨rfl, rfl, rfl⟩
    · rintro ⟨e0, e1, e2⟩
      cases r; cases q
      simp only at e0 e1 e2
      rw [e0, e1, e2]
  rw [hd]
  show (Op.eqFields 9999 (faultA r) (faultA q) [f0, f1, f2]).run Tryz.prog W = _
  simp only [Op.eqFields, Sem.run_bind, a0, b0, a1, b1, a2, b2, q0, q1, q2, Result.andThen_ok, Sem.run_ite, Sem.run_pure, ne_eq, n0, n1, n2, not_false_eq_true, if_true]
  cases (r.code == q.code) <;> cases (r.line == q.line) <;> cases (r.col == q.col) <;> rfl
theorem eql_fault (r q : Ru.Fault) (W : World) : (binOp .eql 34 (.agg (faultA r)) (.agg (faultA q))).run Tryz.prog W = .ok (.bool (decide (r = q))) W := by
  rw [run_eql_struct, eq_fault r q W]; rfl
theorem neq_fault (r q : Ru.Fault) (W : World) : (binOp .neq 34 (.agg (faultA r)) (.agg (faultA q))).run Tryz.prog W = .ok (.bool (!decide (r = q))) W := by
  rw [run_neq_struct, eq_fault r q W]; rfl
/-- A rule in memory, two values besides. -/
theorem results_cell_three {P : Program} {fn : Func} {p u x : Tmp} {ty : TypeId} (h : fn.results = #[.cell p ty, .tmp u, .tmp x]) (tmps : Array Value) (w : World) (g : Nat) (t : TypeId) (cs : Array Value) (d : TypeDesc)
    (hp : tmps.getD p undef = .pointer (some ⟨g, 0, none⟩)) (v1 v2 : Value) (hv1 : tmps.getD u undef = v1) (hv2 : tmps.getD x undef = v2) (hg : Row w g t cs)
    (hu : P.underlying ty = some d) (hd : (match d with | .struct _ | .array _ _ => true | _ => false) = true) (hi : (P.info? ty).map (·.size) = some cs.size) :
    (results fn tmps).run P w = .ok (.tuple #[.agg cs, v1, v2]) w := by
  have hp' : (asAddr (tmps.getD p undef)).run P w = .ok ⟨g, 0, none⟩ w := by rw [hp]; rfl
  have e : (results fn tmps).run P w = ((asAddr (tmps.getD p undef)).run P w).andThen fun a w₁ => ((loadVar ty a).run P w₁).andThen fun v w₂ => .ok (.tuple #[v, tmps.getD u undef, tmps.getD x undef]) w₂ := by
    simp only [results, h]
    simp [Sem.run_bind, Result.andThen]
  rw [e, hp', Result.andThen_ok, run_loadVar_row (P := P) w g t ty cs (0, 0) d hg hu hd hi, Result.andThen_ok, hv1, hv2]
/-- A value, and a struct in memory. -/
theorem results_two_cell {P : Program} {fn : Func} {p u : Tmp} {ty : TypeId} (h : fn.results = #[.tmp u, .cell p ty]) (tmps : Array Value) (w : World) (g : Nat) (t : TypeId) (cs : Array Value) (d : TypeDesc)
    (hp : tmps.getD p undef = .pointer (some ⟨g, 0, none⟩)) (v : Value) (hv : tmps.getD u undef = v) (hg : Row w g t cs)
    (hu : P.underlying ty = some d) (hd : (match d with | .struct _ | .array _ _ => true | _ => false) = true) (hi : (P.info? ty).map (·.size) = some cs.size) :
    (results fn tmps).run P w = .ok (.tuple #[v, .agg cs]) w := by
  have hp' : (asAddr (tmps.getD p undef)).run P w = .ok ⟨g, 0, none⟩ w := by rw [hp]; rfl
  have e : (results fn tmps).run P w = ((asAddr (tmps.getD p undef)).run P w).andThen fun a w₁ => ((loadVar ty a).run P w₁).andThen fun v w₂ => .ok (.tuple #[tmps.getD u undef, v]) w₂ := by
    simp only [results, h]
    simp [Sem.run_bind, Result.andThen]
  rw [e, hp', Result.andThen_ok, run_loadVar_row (P := P) w g t ty cs (0, 0) d hg hu hd hi, Result.andThen_ok, hv]
/-- Of a line: the rule, whether it says one, the error's number. -/
def NewRule (o : Int × Bool × Ru.Rule) (w : World) (e : Ending) (w' : World) : Prop := e = .returned (.tuple #[.agg (ruleA o.2.2), .bool o.2.1, .int .i64 o.1]) ∧ Below w.heap.size w w'
end Go.Proofs.YtjfipedcjahbkaaGreatDoor
