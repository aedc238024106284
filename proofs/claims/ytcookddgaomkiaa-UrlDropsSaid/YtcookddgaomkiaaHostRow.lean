/- Hosts as values, in memory, and held against each other. -/
import Derived.Test.YtcookddgaomkiaaRow
import Derived.Test.YtcookddgaomkiaaArrayEq
import Derived.Test.YtcookddgaomkiaaHostPlain
namespace Go.Proofs.Ytcookddgaomkiaa
open Go.RowKit
/-- A host as a value. -/
def hostA (h : Hst.Host) : Array Value := (Value.int .i64 h.kind :: strV h.name :: h.addr.map byteV).toArray
theorem hostA_size (h : Hst.Host) (ha : h.addr.length = 16) : (hostA h).size = 18 := by simp [hostA, ha]
theorem hostA_one (h : Hst.Host) : (hostA h).all (·.oneCell') = true := by simp [hostA, byteV, strV, Value.oneCell']
theorem hostA_kind (h : Hst.Host) : (hostA h)[0]? = some (.int .i64 h.kind) := rfl
theorem hostA_name (h : Hst.Host) : (hostA h)[1]? = some (strV h.name) := rfl
theorem hostA_addr (h : Hst.Host) (ha : h.addr.length = 16) : (hostA h).extract 2 18 = bytesA h.addr := by
  apply Array.ext'
  rw [Array.toList_extract]
  unfold hostA bytesA
  have e : List.take 16 (List.map byteV h.addr) = List.map byteV h.addr := List.take_of_length_le (by simp [ha])
  simp [e]
theorem infoHost : (Try.prog.info? 25).map (·.size) = some 18 := by kernel_rfl
theorem zeroHost : #[Value.int .i64 0, .string ⟨#[]⟩, .int .u8 0, .int .u8 0, .int .u8 0, .int .u8 0, .int .u8 0, .int .u8 0, .int .u8 0, .int .u8 0, .int .u8 0, .int .u8 0, .int .u8 0, .int .u8 0, .int .u8 0, .int .u8 0, .int .u8 0, .int .u8 0] = hostA Hst.zero := by rfl
theorem nameHost (s : ByteArray) : #[Value.int .i64 1, .string s, .int .u8 0, .int .u8 0, .int .u8 0, .int .u8 0, .int .u8 0, .int .u8 0, .int .u8 0, .int .u8 0, .int .u8 0, .int .u8 0, .int .u8 0, .int .u8 0, .int .u8 0, .int .u8 0, .int .u8 0, .int .u8 0] = hostA ⟨1, s.data.toList, Hst.nil16⟩ := by rfl
theorem sixteen {a : List UInt8} (ha : a.length = 16) : ∃ x0 x1 x2 x3 x4 x5 x6 x7 x8 x9 x10 x11 x12 x13 x14 x15, a = [x0, x1, x2, x3, x4, x5, x6, x7, x8, x9, x10, x11, x12, x13, x14, x15] := by
  match a, ha with
  | [x0, x1, x2, x3, x4, x5, x6, x7, x8, x9, x10, x11, x12, x13, x14, x15], _ => exact ⟨x0, x1, x2, x3, x4, x5, x6, x7, x8, x9, x10, x11, x12, x13, x14, x15, rfl⟩
/-- A host out of its kind and its address. -/
theorem built_addr (k : Int) (a : List UInt8) (ha : a.length = 16) : Try.prog.built 25 [(0, .int .i64 k), (2, .agg (bytesA a))] = some (hostA ⟨k, [], a⟩) := by
  obtain ⟨x0, x1, x2, x3, x4, x5, x6, x7, x8, x9, x10, x11, x12, x13, x14, x15, rfl⟩ := sixteen ha
  kernel_rfl
theorem built_name (k : Int) (s : ByteArray) : Try.prog.built 25 [(0, .int .i64 k), (1, .string s)] = some (hostA ⟨k, s.data.toList, Hst.nil16⟩) := by kernel_rfl
theorem built_zero : Try.prog.built 25 [] = some (hostA Hst.zero) := by kernel_rfl
/-! ### Two hosts -/
theorem run_part_agg {P : Program} {W : World} {t e : TypeId} {n : Nat} {i : TypeInfo} {xs : Array Value} {off : Nat} (ht : P.underlying t = some (.array n e)) (hi : P.info? t = some i) : (part t xs off).run P W = .ok (.agg (xs.extract off (off + P.cellsOf t))) W := by
  have hs := run_sizeOf (w := W) hi
  simp [part, isAgg, run_underlying ht, hs]
theorem eq_fields {P : Program} {f0 f1 f2 : Field} (n0 : f0.name ≠ "_") (n1 : f1.name ≠ "_") (n2 : f2.name ≠ "_") (o0 : f0.offset = 0) (o1 : f1.offset = 1) (o2 : f2.offset = 2)
    (u0 : P.underlying f0.type = some (.int .i64)) (u1 : P.underlying f1.type = some .string) {e : TypeId} (u2 : P.underlying f2.type = some (.array 16 e)) (ue : P.underlying e = some (.int .u8))
    (p0 : P.plainKey f0.type = true) (p1 : P.plainKey f1.type = true) (pe : P.plainKey e = true) {i2 ie : TypeInfo} (i2h : P.info? f2.type = some i2) (ieh : P.info? e = some ie) (ce : P.cellsOf e = 1) (c2 : P.cellsOf f2.type = 16)
    (h g : Hst.Host) (hh : h.addr.length = 16) (hg : g.addr.length = 16) (d : Nat) (W : World) :
    (Op.eqFields (d + 2) (hostA h) (hostA g) [f0, f1, f2]).run P W = .ok (decide (h = g)) W := by
  have a0 : (part f0.type (hostA h) f0.offset).run P W = .ok (.int .i64 h.kind) W := run_part_plain W p0 (by rw [o0]; rfl)
  have b0 : (part f0.type (hostA g) f0.offset).run P W = .ok (.int .i64 g.kind) W := run_part_plain W p0 (by rw [o0]; rfl)
  have a1 : (part f1.type (hostA h) f1.offset).run P W = .ok (strV h.name) W := run_part_plain W p1 (by rw [o1]; rfl)
  have b1 : (part f1.type (hostA g) f1.offset).run P W = .ok (strV g.name) W := run_part_plain W p1 (by rw [o1]; rfl)
  have a2 : (part f2.type (hostA h) f2.offset).run P W = .ok (.agg (bytesA h.addr)) W := by
    rw [run_part_agg u2 i2h, c2, o2, hostA_addr h hh]
  have b2 : (part f2.type (hostA g) f2.offset).run P W = .ok (.agg (bytesA g.addr)) W := by
    rw [run_part_agg u2 i2h, c2, o2, hostA_addr g hg]
  have q0 : (Op.equalIn (d + 2) f0.type (.int .i64 h.kind) (.int .i64 g.kind)).run P W = .ok (h.kind == g.kind) W := run_equalIn_int W (d + 1) f0.type .i64 .i64 h.kind g.kind u0
  have q1 : (Op.equalIn (d + 2) f1.type (strV h.name) (strV g.name)).run P W = .ok (decide (h.name = g.name)) W := by
    unfold strV
    rw [run_equalIn_string W (d + 1) f1.type _ _ u1, Oct.bytes_data, Oct.bytes_data]
    refine congrArg (fun b => Result.ok b W) ?_
    rw [Bool.eq_iff_iff]
    simp
  have q2 : (Op.equalIn (d + 2) f2.type (.agg (bytesA h.addr)) (.agg (bytesA g.addr))).run P W = .ok (decide (h.addr = g.addr)) W := by
    rw [bytesA_ints, bytesA_ints, equal_ints u2 ue pe ieh ce _ _ (by simp [hh]) (by simp [hg]) d W]
    exact congrArg (fun b => Result.ok b W) (decide_eq_decide.2 ints_inj8)
  have hd : decide (h = g) = ((h.kind == g.kind) && (decide (h.name = g.name) && decide (h.addr = g.addr))) := by
    rw [Bool.eq_iff_iff]
    simp only [decide_eq_true_eq, Bool.and_eq_true, beq_iff_eq]
    constructor
    · rintro rfl; exact ⟨rfl, rfl, rfl⟩
    · rintro ⟨e0, e1, e2⟩
      cases h; cases g
      simp at e0 e1 e2
      rw [e0, e1, e2]
  rw [hd]
  simp only [Op.eqFields, Sem.run_bind, a0, b0, a1, b1, a2, b2, q0, q1, q2, Result.andThen_ok, Sem.run_ite, Sem.run_pure, ne_eq, n0, n1, n2, not_false_eq_true, if_true]
  cases (h.kind == g.kind) <;> cases decide (h.name = g.name) <;> cases decide (h.addr = g.addr) <;> rfl
theorem infoSomeA : ∃ i, Try.prog.info? 23 = some i := Option.isSome_iff_exists.1 (by kernel_rfl)
theorem eq_host (h g : Hst.Host) (hh : h.addr.length = 16) (hg : g.addr.length = 16) (W : World) :
    (Op.equalIn 10000 25 (.agg (hostA h)) (.agg (hostA g))).run Try.prog W = .ok (decide (h = g)) W := by
  obtain ⟨ie, hie⟩ := infoSome8
  obtain ⟨ia, hia⟩ := infoSomeA
  obtain ⟨f0, f1, f2, hf⟩ : ∃ f0 f1 f2, Try.prog.underlying 25 = some (.struct #[f0, f1, f2]) ∧ (f0.name ≠ "_" ∧ f1.name ≠ "_" ∧ f2.name ≠ "_") ∧ (f0.offset = 0 ∧ f1.offset = 1 ∧ f2.offset = 2) ∧ f0.type = 3 ∧ f1.type = 9 ∧ f2.type = 23 :=
    ⟨_, _, _, Try.underlying25, ⟨by decide, by decide, by decide⟩, ⟨rfl, rfl, rfl⟩, rfl, rfl, rfl⟩
  obtain ⟨hu, ⟨n0, n1, n2⟩, ⟨o0, o1, o2⟩, t0, t1, t2⟩ := hf
  have hl : Try.prog.fieldsOf 25 = #[f0, f1, f2] := by unfold Program.fieldsOf; rw [hu]
  rw [run_equalIn_struct W 9999 25 _ _ (by rw [hl]; exact hu) (by kernel_rfl), hl]
  exact eq_fields n0 n1 n2 o0 o1 o2 (by rw [t0]; exact Try.underlying3) (by rw [t1]; exact Try.underlying9) (by rw [t2]; exact Try.underlying23) Try.underlying5
    (by rw [t0]; kernel_rfl) (by rw [t1]; kernel_rfl) (by kernel_rfl) (by rw [t2]; exact hia) hie (by kernel_rfl) (by rw [t2]; kernel_rfl) h g hh hg 9997 W
/-- A value of several cells is laid in a block of its own: what lay before lies on. -/
theorem lay_row {w w1 : World} {B : Nat} (t : TypeId) (zs cs : Array Value) (hb : Below B w w1) (hB : B ≤ w1.heap.size) :
    Row (w1.alloc (.cells zs t)) w1.heap.size t zs ∧ Row ((w1.alloc (.cells zs t)).setRow w1.heap.size cs) w1.heap.size t cs ∧ Below B w ((w1.alloc (.cells zs t)).setRow w1.heap.size cs) ∧
    ∀ g t' c, Row w1 g t' c → Row ((w1.alloc (.cells zs t)).setRow w1.heap.size cs) g t' c := by
  have T := Row.new w1 t zs
  refine ⟨T, T.whole cs, below_setRow (hb.alloc hB _) hB cs, fun g t' c R => ?_⟩
  have hne : g ≠ w1.heap.size := by have := R.lt; omega
  exact (R.alloc _).aside hne cs
/-- A value is built of two parts. -/
theorem build_two {P : Program} {ops : Array Oper} {rest : List Oper} {o : Oper} {a : Act} {w : World} {Q : Exit → Act → World → Prop} (hg : o.guard = none) (t : TypeId) (i j : Nat) (x y : Operand) (ho : o.op = .build t #[(i, x), (j, y)]) (u v : Value) (hx : a.eval x = u) (hy : a.eval y = v) (cells : Array Value)
    (hc : P.built t [(i, u), (j, v)] = some cells) (h : wpList P ops Q rest (a.put o.dst (.agg cells)) w) : wpList P ops Q (o :: rest) a w := by
  have e : ((#[(i, x), (j, y)] : Array (Nat × Operand)).map fun (i, x) => (i, a.eval x)).toList = [(i, u), (j, v)] := by simp [hx, hy]
  refine wpList_build hg t #[(i, x), (j, y)] ho ?_ ?_
  · rw [e, hc]; rfl
  · rw [e, hc]; exact h
/-- A host, and whether there is one. -/
def NewHost (o : Option Hst.Host) (w : World) (e : Ending) (w' : World) : Prop := e = .returned (.tuple #[.agg (hostA (o.getD Hst.zero)), .int .i64 (if o.isSome then 0 else 31)]) ∧ Below w.heap.size w w'
end Go.Proofs.Ytcookddgaomkiaa
