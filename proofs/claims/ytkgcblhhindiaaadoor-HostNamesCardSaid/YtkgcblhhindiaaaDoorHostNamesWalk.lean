/- The walk of the law HostNames. -/
import Derived.Test.YtkgcblhhindiaaaDoorHostAlive
namespace Go.Proofs.YtkgcblhhindiaaaDoor
open Go.RowKit
/-- A value is built of two parts, guarded or not, where it runs. -/
theorem build_two_g {P : Program} {ops : Array Oper} {rest : List Oper} {o : Oper} {a : Act} {w : World} {Q : Exit → Act → World → Prop} (hw : Region.wanted o (yielded ops a.tmps) = true) (t : TypeId) (i j : Nat) (x y : Operand) (ho : o.op = .build t #[(i, x), (j, y)]) (u v : Value) (hx : a.eval x = u) (hy : a.eval y = v) (cells : Array Value)
    (hc : P.built t [(i, u), (j, v)] = some cells) (h : wpList P ops Q rest (a.put o.dst (.agg cells)) w) : wpList P ops Q (o :: rest) a w := by
  have e : ((#[(i, x), (j, y)] : Array (Nat × Operand)).map fun (i, x) => (i, a.eval x)).toList = [(i, u), (j, v)] := by simp [hx, hy]
  refine wpList_step fun K hK => ?_
  simp only [hw, if_true]
  refine wp_build t #[(i, x), (j, y)] ho ?_ (hK _ _ ?_)
  · rw [e, hc]; rfl
  · rw [e, hc]; exact h
theorem build_one_g {P : Program} {ops : Array Oper} {rest : List Oper} {o : Oper} {a : Act} {w : World} {Q : Exit → Act → World → Prop} (hw : Region.wanted o (yielded ops a.tmps) = true) (t : TypeId) (i : Nat) (x : Operand) (ho : o.op = .build t #[(i, x)]) (u : Value) (hx : a.eval x = u) (cells : Array Value)
    (hc : P.built t [(i, u)] = some cells) (h : wpList P ops Q rest (a.put o.dst (.agg cells)) w) : wpList P ops Q (o :: rest) a w := by
  have e : ((#[(i, x)] : Array (Nat × Operand)).map fun (i, x) => (i, a.eval x)).toList = [(i, u)] := by simp [hx]
  refine wpList_step fun K hK => ?_
  simp only [hw, if_true]
  refine wp_build t #[(i, x)] ho ?_ (hK _ _ ?_)
  · rw [e, hc]; rfl
  · rw [e, hc]; exact h
namespace Hst
def exA1 : List UInt8 := [0, 0, 0, 0, 0, 0, 0, 0, 0, 0, 0, 0, 10, 0, 0, 1]
def exA2 : List UInt8 := [0, 0, 0, 0, 0, 0, 0, 0, 0, 0, 0, 0, 0, 0, 0, 1]
theorem ex5 : parse [49, 48, 46, 48, 46, 48, 46, 49] = some ⟨2, [], exA1⟩ := by decide +kernel
theorem ex6 : parse [91, 58, 58, 49, 93] = some ⟨3, [], exA2⟩ := by decide +kernel
end Hst
set_option maxRecDepth 100000 in
set_option maxHeartbeats 4000000 in
theorem hnames_walk (w : World) (hw : Std w) : Calls Tryd.prog 3 #[] w fun e w' => e = .returned (.bool true) ∧ Below w.heap.size w w' := by
  have z0 := zeroHost
  have HA := Lib.hid host_alive
  have H1 := Lib.hid (fun W hW => parse_is ⟨#[49, 48, 46, 48, 46, 48, 46, 49]⟩ rfl Hst.ex5 (by decide) W hW)
  have H2 := Lib.hid (fun W hW => parse_is ⟨#[91, 58, 58, 49, 93]⟩ rfl Hst.ex6 (by decide) W hW)
  have e1 : Hst.host (some ⟨2, [], Hst.exA1⟩) = ⟨2, [], Hst.exA1⟩ := rfl
  have e2 : Hst.host (some ⟨3, [], Hst.exA2⟩) = ⟨3, [], Hst.exA2⟩ := rfl
  have f1 : Hst.code (some ⟨2, [], Hst.exA1⟩) = 0 := rfl
  have f2 : Hst.code (some ⟨3, [], Hst.exA2⟩) = 0 := rfl
  rw [e1, f1] at H1
  rw [e2, f2] at H2
  clear e1 e2 f1 f2
  have q1 := eql_host ⟨2, [], Hst.exA1⟩ ⟨2, [], Hst.exA1⟩ rfl rfl
  have q2 := eql_host ⟨3, [], Hst.exA2⟩ ⟨3, [], Hst.exA2⟩ rfl rfl
  rw [decide_eq_true rfl] at q1 q2
  have HB1 := Lib.hid (show Tryd.prog.built 23 [(12, .int .u8 10), (15, .int .u8 1)] = some (bytesA Hst.exA1) by kernel_rfl)
  have HB2 := Lib.hid (show Tryd.prog.built 23 [(15, .int .u8 1)] = some (bytesA Hst.exA2) by kernel_rfl)
  have HB3 := Lib.hid (built_addr 2 Hst.exA1 rfl)
  have HB4 := Lib.hid (built_addr 3 Hst.exA2 rfl)
  have HH := Lib.hid (show (hostA ⟨2, [], Hst.exA1⟩).size = 18 from rfl)
  have HD := Lib.hid (show (hostA ⟨3, [], Hst.exA2⟩).size = 18 from rfl)
  have HX1 := Lib.hid (hostA_one ⟨2, [], Hst.exA1⟩)
  have HY1 := Lib.hid (hostA_one ⟨3, [], Hst.exA2⟩)
  generalize hostA ⟨2, [], Hst.exA1⟩ = X at *
  generalize hostA ⟨3, [], Hst.exA2⟩ = Y at *
  generalize bytesA Hst.exA1 = X1 at *
  generalize bytesA Hst.exA2 = Y1 at *
  go_enter Tryd.func3, Tryd.ntmps3
  go_wp2_with fail
  refine (H1.out _ hw).mono ?_
  rintro e v1 ⟨rfl, d1⟩
  obtain ⟨T1, U1, C1, _⟩ := lay_row 25 (hostA Hst.zero) X d1 d1.size
  go_wp2_with (refine wpList_store_row rfl 25 _ _ rfl v1.heap.size X rfl rfl 25 _ T1 (by rw [HH.out]; exact infoHost) (by rw [HH.out]; rfl) HX1.out ?_)
  generalize (v1.alloc (.cells (hostA Hst.zero) 25)).setRow v1.heap.size X = u1 at *
  clear T1 d1
  generalize v1.heap.size = n1 at *
  refine (H2.out _ (hw.below C1)).mono ?_
  rintro e v2 ⟨rfl, d2⟩
  have B2 := C1.trans (d2.mono C1.size)
  have P1 := U1.stays d2
  obtain ⟨T2, U2, C2, L2⟩ := lay_row 25 (hostA Hst.zero) Y B2 B2.size
  have P2 := L2 _ _ _ P1
  go_wp2_with (refine wpList_store_row rfl 25 _ _ rfl v2.heap.size Y rfl rfl 25 _ T2 (by rw [HD.out]; exact infoHost) (by rw [HD.out]; rfl) HY1.out ?_)
  generalize (v2.alloc (.cells (hostA Hst.zero) 25)).setRow v2.heap.size Y = u2 at *
  clear T2 d2 U1 P1 C1 B2 L2
  generalize v2.heap.size = n2 at *
  refine (HA.out _ (hw.below C2)).mono ?_
  rintro e v3 ⟨rfl, d3⟩
  have B3 := C2.trans (d3.mono C2.size)
  have P3 := P2.stays d3
  have P4 := U2.stays d3
  clear d3 U2 P2 C2
  go_wp2_with (first
    | (refine at_slot 35 rfl ?_; refine load_row rfl 25 _ rfl n1 rfl P3 Tryd.underlying25 rfl (by rw [HH.out]; exact infoHost) ?_)
    | (refine at_slot 36 rfl ?_; refine build_two_g rfl 23 12 15 _ _ rfl _ _ rfl rfl X1 HB1.out ?_)
    | (refine at_slot 37 rfl ?_; refine build_two_g rfl 25 0 2 _ _ rfl _ _ rfl rfl X HB3.out ?_)
    | (refine at_slot 41 rfl ?_; refine load_row rfl 25 _ rfl n2 rfl P4 Tryd.underlying25 rfl (by rw [HD.out]; exact infoHost) ?_)
    | (refine at_slot 42 rfl ?_; refine build_one_g rfl 23 15 _ rfl _ rfl Y1 HB2.out ?_)
    | (refine at_slot 43 rfl ?_; refine build_two_g rfl 25 0 2 _ _ rfl _ _ rfl rfl Y HB4.out ?_))
  go_ret
  exact ⟨rfl, B3⟩
end Go.Proofs.YtkgcblhhindiaaaDoor
