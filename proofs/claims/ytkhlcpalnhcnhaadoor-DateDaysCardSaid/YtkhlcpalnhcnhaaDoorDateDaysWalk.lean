/- The walk of the law DateDays. -/
import Derived.Test.YtkhlcpalnhcnhaaDoorDateAlive
namespace Go.Proofs.YtkhlcpalnhcnhaaDoor
open Go.RowKit
set_option maxRecDepth 100000 in
set_option maxHeartbeats 4000000 in
theorem ddays_walk (z : List Int) (n : Int) (w : World) (hz : z.length = 3) (_hn : (Lit.int .i64 n).wf = true) (hw : Cal w) :
    Calls Tryd.prog 3 #[.agg (z.map fun z => Value.int .i64 z).toArray, .int .i64 n] w fun e w' => e = .returned (.bool true) ∧ Below w.heap.size w w' := by
  obtain ⟨a, b, c, rfl⟩ : ∃ a b c, z = [a, b, c] := by
    match z, hz with
    | [a, b, c], _ => exact ⟨a, b, c, rfl⟩
  have e3 : (([a, b, c] : List Int).map fun z => Value.int .i64 z).toArray = #[.int .i64 a, .int .i64 b, .int .i64 c] := rfl
  rw [e3]
  have HA := Lib.hid (fun W hW => date_alive W hW)
  unfold BoolPost at HA
  have H1 := Lib.hid (fun W hW => days_calls a b c W hW)
  have H2 := Lib.hid (fun W => refDays_calls a b c W)
  unfold DaysPost at H1 H2
  generalize Dt.daysO a b c = o at *
  obtain ⟨p, q⟩ := o
  dsimp only at H1 H2
  have H3 := Lib.hid (fun W hW => civil_calls n W hW)
  have H4 := Lib.hid (fun W => refCivil_calls n W)
  unfold CivPost at H3 H4
  generalize civY (Dt.civil n) = cy at *
  generalize civM (Dt.civil n) = cm at *
  generalize civD (Dt.civil n) = cd at *
  generalize (Dt.civil n).isSome = cs at *
  have R0 := Row.new w 22 #[.int .i64 a, .int .i64 b, .int .i64 c]
  have B0 := (Below.refl w.heap.size w).alloc (Nat.le_refl _) (.cells #[.int .i64 a, .int .i64 b, .int .i64 c] 22)
  go_enter Tryd.func3, Tryd.ntmps3
  go_wp2_with fail
  generalize w.alloc (.cells #[.int .i64 a, .int .i64 b, .int .i64 c] 22) = w0 at *
  refine (HA.out _ (hw.below B0)).mono ?_
  rintro e w1 ⟨rfl, b1⟩
  have R1 := R0.stays b1
  have B1 := B0.trans (b1.mono B0.size)
  have q0 := R1.cell 0
  have q1 := R1.cell 1
  have q2 := R1.cell 2
  have hw1 := hw.below B1
  clear R0 B0 b1 R1
  go_wp2_with fail
  refine (H1.out _ hw1).mono ?_
  rintro e w2 ⟨rfl, rfl⟩
  go_wp2_with fail
  refine (H2.out _).mono ?_
  rintro e w2 ⟨rfl, rfl⟩
  go_wp2_with fail
  refine (H3.out _ hw1).mono ?_
  rintro e w3 ⟨rfl, b3⟩
  have B3 := B1.trans (b3.mono B1.size)
  go_wp2_with fail
  refine (H4.out _).mono ?_
  rintro e w4 ⟨rfl, b4⟩
  have B4 := B3.trans (b4.mono B3.size)
  go_wp2
  go_ret
  exact ⟨rfl, B4⟩
end Go.Proofs.YtkhlcpalnhcnhaaDoor
