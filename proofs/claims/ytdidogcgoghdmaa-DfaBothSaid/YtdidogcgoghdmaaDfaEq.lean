/- Pairs, and triples, of numbers held against each other. -/
import Derived.Test.YtdidogcgoghdmaaDfaKey
import Derived.Laws.StructEq
namespace Go.Proofs.Ytdidogcgoghdmaa
open Go.RowKit
theorem eqFields_list {P : Program} {d : Nat} {xs ys : Array Value} {W : World} : ∀ l : List (Field × Bool), (∀ q ∈ l, q.1.name ≠ "_" ∧ ∃ u v, (part q.1.type xs q.1.offset).run P W = .ok u W ∧ (part q.1.type ys q.1.offset).run P W = .ok v W ∧ (Op.equalIn d q.1.type u v).run P W = .ok q.2 W) →
    (Op.eqFields d xs ys (l.map (·.1))).run P W = .ok (l.all (·.2)) W
  | [], _ => by simp [Op.eqFields]
  | (f, b) :: l, h => by
    obtain ⟨h1, u, v, h2, h3, h4⟩ := h (f, b) (by simp)
    have ih := eqFields_list (P := P) (d := d) (xs := xs) (ys := ys) (W := W) l (fun q hq => h q (by simp [hq]))
    simp only [List.map_cons, List.all_cons, Op.eqFields, Sem.run_bind, h1, h2, h3, h4, Result.andThen_ok, Sem.run_ite, Sem.run_pure, ne_eq, not_false_eq_true, if_true, ih]
    cases b <;> rfl
/-- Three numbers as a value. -/
def tripleA (p : Nat × Nat × Nat) : Array Value := #[.int .i64 (p.1 : Int), .int .i64 (p.2.1 : Int), .int .i64 (p.2.2 : Int)]
theorem tripleA_size (p : Nat × Nat × Nat) : (tripleA p).size = 3 := rfl
theorem tripleA_one (p : Nat × Nat × Nat) : (tripleA p).all (·.oneCell') = true := by simp [tripleA, Value.oneCell']
theorem infoTriple : (Try.prog.info? 55).map (·.size) = some 3 := by kernel_rfl
theorem infoTripleF : (Try.prog.info? 55).map (fun i => (i.zero, i.size, i.bytes)) = some (some (.agg #[.int .i64 0, .int .i64 0, .int .i64 0]), 3, 24) := by kernel_rfl
theorem infoRef : (Try.prog.info? 58).map (·.size) = some 2 := by kernel_rfl
theorem infoRefF : (Try.prog.info? 58).map (fun i => (i.zero, i.size, i.bytes)) = some (some (.agg #[.int .i64 0, .int .i64 0]), 2, 16) := by kernel_rfl
theorem eq_pair (p q : Nat × Nat) (W : World) : (Op.equalIn 10000 50 (.agg (pairA p)) (.agg (pairA q))).run Try.prog W = .ok (decide (p = q)) W := by
  have kn : ∀ a b : Int, (Op.equalIn 9999 3 (.int .i64 a) (.int .i64 b)).run Try.prog W = .ok (a == b) W := fun a b => run_equalIn_int W 9998 3 .i64 .i64 _ _ Try.underlying3
  have pn : ∀ (q : Nat × Nat) i v, (pairA q)[i]? = some v → (part 3 (pairA q) i).run Try.prog W = .ok v W := fun q i v hv => run_part_plain W (by kernel_rfl) hv
  obtain ⟨f0, f1, hf, hn, ho, ht⟩ : ∃ f0 f1 : Field, Try.prog.underlying 50 = some (.struct #[f0, f1]) ∧ (f0.name ≠ "_" ∧ f1.name ≠ "_") ∧ (f0.offset = 0 ∧ f1.offset = 1) ∧ (f0.type = 3 ∧ f1.type = 3) :=
    ⟨_, _, Try.underlying50, ⟨by decide, by decide⟩, ⟨rfl, rfl⟩, ⟨rfl, rfl⟩⟩
  obtain ⟨n0, n1⟩ := hn
  obtain ⟨o0, o1⟩ := ho
  obtain ⟨t0, t1⟩ := ht
  have hl : Try.prog.fieldsOf 50 = #[f0, f1] := by unfold Program.fieldsOf; rw [hf]
  rw [run_equalIn_struct W 9999 50 _ _ (by rw [hl]; exact hf) (by kernel_rfl), hl]
  have key := eqFields_list (P := Try.prog) (d := 9999) (xs := pairA p) (ys := pairA q) (W := W) [(f0, ((p.1 : Nat) : Int) == ((q.1 : Nat) : Int)), (f1, ((p.2 : Nat) : Int) == ((q.2 : Nat) : Int))] (by
    intro z hz
    simp only [List.mem_cons, List.not_mem_nil, or_false] at hz
    rcases hz with rfl | rfl
    · dsimp only; rw [t0, o0]; exact ⟨n0, _, _, pn p 0 _ rfl, pn q 0 _ rfl, kn _ _⟩
    · dsimp only; rw [t1, o1]; exact ⟨n1, _, _, pn p 1 _ rfl, pn q 1 _ rfl, kn _ _⟩)
  have e : decide (p = q) = ([(f0, ((p.1 : Nat) : Int) == ((q.1 : Nat) : Int)), (f1, ((p.2 : Nat) : Int) == ((q.2 : Nat) : Int))] : List (Field × Bool)).all (·.2) := by
    rw [Bool.eq_iff_iff, decide_eq_true_iff]
    simp only [List.all_cons, List.all_nil, Bool.and_true, Bool.and_eq_true, beq_iff_eq, Int.ofNat_inj]
    constructor
    · rintro rfl; exact ⟨rfl, rfl⟩
    · rintro ⟨e0, e1⟩
      obtain ⟨p0, p1⟩ := p
      obtain ⟨q0, q1⟩ := q
      simp only at e0 e1
      subst e0 e1
      rfl
  rw [e]
  exact key
theorem eql_pair (p q : Nat × Nat) (W : World) : (binOp .eql 50 (.agg (pairA p)) (.agg (pairA q))).run Try.prog W = .ok (.bool (decide (p = q))) W := by
  rw [run_eql_struct, eq_pair p q W]; rfl
theorem neq_pair (p q : Nat × Nat) (W : World) : (binOp .neq 50 (.agg (pairA p)) (.agg (pairA q))).run Try.prog W = .ok (.bool (!decide (p = q))) W := by
  rw [run_neq_struct, eq_pair p q W]; rfl
theorem eq_ref (p q : Nat × Nat) (W : World) : (Op.equalIn 10000 58 (.agg (pairA p)) (.agg (pairA q))).run Try.prog W = .ok (decide (p = q)) W := by
  have kn : ∀ a b : Int, (Op.equalIn 9999 3 (.int .i64 a) (.int .i64 b)).run Try.prog W = .ok (a == b) W := fun a b => run_equalIn_int W 9998 3 .i64 .i64 _ _ Try.underlying3
  have pn : ∀ (q : Nat × Nat) i v, (pairA q)[i]? = some v → (part 3 (pairA q) i).run Try.prog W = .ok v W := fun q i v hv => run_part_plain W (by kernel_rfl) hv
  obtain ⟨f0, f1, hf, hn, ho, ht⟩ : ∃ f0 f1 : Field, Try.prog.underlying 58 = some (.struct #[f0, f1]) ∧ (f0.name ≠ "_" ∧ f1.name ≠ "_") ∧ (f0.offset = 0 ∧ f1.offset = 1) ∧ (f0.type = 3 ∧ f1.type = 3) :=
    ⟨_, _, Try.underlying58, ⟨by decide, by decide⟩, ⟨rfl, rfl⟩, ⟨rfl, rfl⟩⟩
  obtain ⟨n0, n1⟩ := hn
  obtain ⟨o0, o1⟩ := ho
  obtain ⟨t0, t1⟩ := ht
  have hl : Try.prog.fieldsOf 58 = #[f0, f1] := by unfold Program.fieldsOf; rw [hf]
  rw [run_equalIn_struct W 9999 58 _ _ (by rw [hl]; exact hf) (by kernel_rfl), hl]
  have key := eqFields_list (P := Try.prog) (d := 9999) (xs := pairA p) (ys := pairA q) (W := W) [(f0, ((p.1 : Nat) : Int) == ((q.1 : Nat) : Int)), (f1, ((p.2 : Nat) : Int) == ((q.2 : Nat) : Int))] (by
    intro z hz
    simp only [List.mem_cons, List.not_mem_nil, or_false] at hz
    rcases hz with rfl | rfl
    · dsimp only; rw [t0, o0]; exact ⟨n0, _, _, pn p 0 _ rfl, pn q 0 _ rfl, kn _ _⟩
    · dsimp only; rw [t1, o1]; exact ⟨n1, _, _, pn p 1 _ rfl, pn q 1 _ rfl, kn _ _⟩)
  have e : decide (p = q) = ([(f0, ((p.1 : Nat) : Int) == ((q.1 : Nat) : Int)), (f1, ((p.2 : Nat) : Int) == ((q.2 : Nat) : Int))] : List (Field × Bool)).all (·.2) := by
    rw [Bool.eq_iff_iff, decide_eq_true_iff]
    simp only [List.all_cons, List.all_nil, Bool.and_true, Bool.and_eq_true, beq_iff_eq, Int.ofNat_inj]
    constructor
    · rintro rfl; exact ⟨rfl, rfl⟩
    · rintro ⟨e0, e1⟩
      obtain ⟨p0, p1⟩ := p
      obtain ⟨q0, q1⟩ := q
      simp only at e0 e1
      subst e0 e1
      rfl
  rw [e]
  exact key
theorem eql_ref (p q : Nat × Nat) (W : World) : (binOp .eql 58 (.agg (pairA p)) (.agg (pairA q))).run Try.prog W = .ok (.bool (decide (p = q))) W := by
  rw [run_eql_struct, eq_ref p q W]; rfl
theorem neq_ref (p q : Nat × Nat) (W : World) : (binOp .neq 58 (.agg (pairA p)) (.agg (pairA q))).run Try.prog W = .ok (.bool (!decide (p = q))) W := by
  rw [run_neq_struct, eq_ref p q W]; rfl
theorem eq_triple (p q : Nat × Nat × Nat) (W : World) : (Op.equalIn 10000 55 (.agg (tripleA p)) (.agg (tripleA q))).run Try.prog W = .ok (decide (p = q)) W := by
  have kn : ∀ a b : Int, (Op.equalIn 9999 3 (.int .i64 a) (.int .i64 b)).run Try.prog W = .ok (a == b) W := fun a b => run_equalIn_int W 9998 3 .i64 .i64 _ _ Try.underlying3
  have pn : ∀ (q : Nat × Nat × Nat) i v, (tripleA q)[i]? = some v → (part 3 (tripleA q) i).run Try.prog W = .ok v W := fun q i v hv => run_part_plain W (by kernel_rfl) hv
  obtain ⟨f0, f1, f2, hf, hn, ho, ht⟩ : ∃ f0 f1 f2 : Field, Try.prog.underlying 55 = some (.struct #[f0, f1, f2]) ∧ (f0.name ≠ "_" ∧ f1.name ≠ "_" ∧ f2.name ≠ "_") ∧ (f0.offset = 0 ∧ f1.offset = 1 ∧ f2.offset = 2) ∧ (f0.type = 3 ∧ f1.type = 3 ∧ f2.type = 3) :=
    ⟨_, _, _, Try.underlying55, ⟨by decide, by decide, by decide⟩, ⟨rfl, rfl, rfl⟩, ⟨rfl, rfl, rfl⟩⟩
  obtain ⟨n0, n1, n2⟩ := hn
  obtain ⟨o0, o1, o2⟩ := ho
  obtain ⟨t0, t1, t2⟩ := ht
  have hl : Try.prog.fieldsOf 55 = #[f0, f1, f2] := by unfold Program.fieldsOf; rw [hf]
  rw [run_equalIn_struct W 9999 55 _ _ (by rw [hl]; exact hf) (by kernel_rfl), hl]
  have key := eqFields_list (P := Try.prog) (d := 9999) (xs := tripleA p) (ys := tripleA q) (W := W) [(f0, ((p.1 : Nat) : Int) == ((q.1 : Nat) : Int)), (f1, ((p.2.1 : Nat) : Int) == ((q.2.1 : Nat) : Int)), (f2, ((p.2.2 : Nat) : Int) == ((q.2.2 : Nat) : Int))] (by
    intro z hz
    simp only [List.mem_cons, List.not_mem_nil, or_false] at hz
    rcases hz with rfl | rfl | rfl
    · dsimp only; rw [t0, o0]; exact ⟨n0, _, _, pn p 0 _ rfl, pn q 0 _ rfl, kn _ _⟩
    · dsimp only; rw [t1, o1]; exact ⟨n1, _, _, pn p 1 _ rfl, pn q 1 _ rfl, kn _ _⟩
    · dsimp only; rw [t2, o2]; exact ⟨n2, _, _, pn p 2 _ rfl, pn q 2 _ rfl, kn _ _⟩)
  have e : decide (p = q) = ([(f0, ((p.1 : Nat) : Int) == ((q.1 : Nat) : Int)), (f1, ((p.2.1 : Nat) : Int) == ((q.2.1 : Nat) : Int)), (f2, ((p.2.2 : Nat) : Int) == ((q.2.2 : Nat) : Int))] : List (Field × Bool)).all (·.2) := by
    rw [Bool.eq_iff_iff, decide_eq_true_iff]
    simp only [List.all_cons, List.all_nil, Bool.and_true, Bool.and_eq_true, beq_iff_eq, Int.ofNat_inj]
    constructor
    · rintro rfl; exact ⟨rfl, rfl, rfl⟩
    · rintro ⟨e0, e1, e2⟩
      obtain ⟨p0, p1, p2⟩ := p
      obtain ⟨q0, q1, q2⟩ := q
      simp only at e0 e1 e2
      subst e0 e1 e2
      rfl
  rw [e]
  exact key
theorem eql_triple (p q : Nat × Nat × Nat) (W : World) : (binOp .eql 55 (.agg (tripleA p)) (.agg (tripleA q))).run Try.prog W = .ok (.bool (decide (p = q))) W := by
  rw [run_eql_struct, eq_triple p q W]; rfl
theorem neq_triple (p q : Nat × Nat × Nat) (W : World) : (binOp .neq 55 (.agg (tripleA p)) (.agg (tripleA q))).run Try.prog W = .ok (.bool (!decide (p = q))) W := by
  rw [run_neq_struct, eq_triple p q W]; rfl
end Go.Proofs.Ytdidogcgoghdmaa
