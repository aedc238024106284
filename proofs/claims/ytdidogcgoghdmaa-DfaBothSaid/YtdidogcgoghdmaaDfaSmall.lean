/- The walks of the laws' own small ones: whether an automaton is more than is looked at; whether it is a zero one. -/
import Derived.Test.YtdidogcgoghdmaaDfaTells
import Derived.Test.YtdidogcgoghdmaaDfaNone
import Derived.Test.YtdidogcgoghdmaaYieldsBuilt
namespace Go.Proofs.Ytdidogcgoghdmaa
open Go.RowKit
theorem in_class15 {P : Program} {a b : World} {p : Ending → Prop} (hC : Below a.heap.size a b) {f : FuncId} {args : Array Value} (h : Calls P f args b fun e w' => p e ∧ Below b.heap.size b w') :
    Calls P f args b fun e w' => p e ∧ Below a.heap.size a w' :=
  h.mono fun _ _ ⟨h1, h2⟩ => ⟨h1, hC.trans (h2.mono hC.size)⟩
theorem is_class15 {P : Program} {a b : World} {p : Ending → Prop} (hC : Below a.heap.size a b) {f : FuncId} {args : Array Value} (h : Calls P f args b fun e w' => p e ∧ w' = b) :
    Calls P f args b fun e w' => p e ∧ Below a.heap.size a w' :=
  h.mono fun _ _ ⟨h1, h2⟩ => ⟨h1, h2 ▸ hC⟩
/-- The opposite of a Bool, under a name of its own. -/
theorem not_op {P : Program} {ops : Array Oper} {Q : Exit → Act → World → Prop} {rest : List Oper} {o : Oper} {a : Act} {w : World} (hw : Region.wanted o (yielded ops a.tmps) = true) (t : TypeId) (x : Operand) (ho : o.op = .unOp .not t x) (b : Bool) (hx : a.eval x = .bool b) (v : Bool) (hv : (!b) = v) (h : wpList P ops Q rest (a.put o.dst (.bool v)) w) : wpList P ops Q (o :: rest) a w :=
  wpList_step fun K hK => by
    subst hv
    simp only [hw, if_true]
    unfold Oper.wp execOp
    simp [ho, hx, Op.unary]
    exact hK _ _ h
/-- A pick whose test is known not to hold. -/
theorem pick_false {P : Program} {ops : Array Oper} {Q : Exit → Act → World → Prop} {rest : List Oper} {o : Oper} {a : Act} {w : World} (hw : Region.wanted o (yielded ops a.tmps) = true) (c x y : Operand) (ho : o.op = .pick c x y) (hc : a.eval c = .bool false) (v : Value) (hy : a.eval y = v) (h : wpList P ops Q rest (a.put o.dst v) w) : wpList P ops Q (o :: rest) a w :=
  wpList_step fun K hK => by
    simp only [hw, if_true]
    unfold Oper.wp execOp
    simp [ho, hc, hy, asBool]
    exact hK _ _ h
def Au.Dv.great (d : Au.Dv) : Bool := decide ((12 : Int) < (d.acc.length : Int)) || (decide ((100 : Int) < (d.next.length : Int)) || decide (9 < d.k))
theorem Au.great_no {d : Au.Dv} (h : d.great = false) : d.acc.length ≤ 12 ∧ d.next.length ≤ 100 ∧ d.k ≤ 9 := by
  unfold Au.Dv.great at h
  simp only [Bool.or_eq_false_iff, decide_eq_false_iff_not] at h
  omega
set_option maxHeartbeats 2000000 in
theorem great_calls15 (v : Value) (d : Au.Dv) (w : World) (h : Auto w v d) :
    Calls Try.prog 15 #[v] w fun e w' => e = .returned (.bool d.great) ∧ Below w.heap.size w w' := by
  obtain ⟨A, c, A', c', rfl, HN, HB⟩ := h.parts
  have HP : Hid (∀ b w', d.great = b → Below w.heap.size w w' → (fun (e : Ending) (w' : World) => e = .returned (.bool d.great) ∧ Below w.heap.size w w') (.returned (.bool b)) w') := Lib.hid (fun b w' h1 h2 => ⟨by rw [h1], h2⟩)
  generalize (fun (e : Ending) (w' : World) => e = .returned (.bool d.great) ∧ Below w.heap.size w w') = post at *
  have HG : Hid (d.great = (decide ((12 : Int) < (d.acc.length : Int)) || (decide ((100 : Int) < (d.next.length : Int)) || decide (9 < d.k)))) := Lib.hid rfl
  generalize d.great = r at *
  clear h HN HB
  generalize d.next.length = m at *
  generalize d.acc.length = n at *
  generalize d.k = k at *
  generalize d.start = s at *
  have HB := Lib.hid ((Below.refl w.heap.size w).alloc (Nat.le_refl _) (.cells #[.int .i64 k, .int .i64 s, .slice A m c, .slice A' n c'] 25))
  by_cases h1 : (12 : Int) < (n : Int)
  · have HZ : Hid (r = true) := Lib.hid (by rw [HG.out, decide_eq_true h1]; rfl)
    have e1 : decide ((12 : Int) < (n : Int)) = true := decide_eq_true h1
    go_enter Try.func15, Try.ntmps15
    go_wp2
    exact HP.out _ _ HZ.out HB.out
  have e1 : decide ((12 : Int) < (n : Int)) = false := decide_eq_false h1
  by_cases h2 : (100 : Int) < (m : Int)
  · have HZ : Hid (r = true) := Lib.hid (by rw [HG.out, e1, decide_eq_true h2]; rfl)
    have e2 : decide ((100 : Int) < (m : Int)) = true := decide_eq_true h2
    go_enter Try.func15, Try.ntmps15
    go_wp2
    exact HP.out _ _ HZ.out HB.out
  have e2 : decide ((100 : Int) < (m : Int)) = false := decide_eq_false h2
  have HZ : Hid (r = decide (9 < k)) := Lib.hid (by rw [HG.out, e1, e2]; rfl)
  clear h1 h2
  go_enter Try.func15, Try.ntmps15
  go_wp2
  exact HP.out _ _ HZ.out HB.out
set_option maxHeartbeats 2000000 in
theorem zero_calls15 (v : Value) (w : World) (h : Auto w v Au.Dv.zero) :
    Calls Try.prog 19 #[v] w fun e w' => e = .returned (.bool true) ∧ Below w.heap.size w w' := by
  obtain ⟨A, c, A', c', rfl, HN, HB⟩ := h.parts
  show Calls Try.prog 19 #[.agg #[.int .i64 0, .int .i64 0, .slice A 0 c, .slice A' 0 c']] w _
  have HB := Lib.hid ((Below.refl w.heap.size w).alloc (Nat.le_refl _) (.cells #[.int .i64 0, .int .i64 0, .slice A 0 c, .slice A' 0 c'] 25))
  clear h HN
  go_enter Try.func19, Try.ntmps19
  go_wp2
  go_ret
  exact ⟨rfl, HB.out⟩
end Go.Proofs.Ytdidogcgoghdmaa
