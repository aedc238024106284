/- The walk of the chapter's examples of rules. -/
import Derived.Test.YtjfipedcjahbkaaGreatDoorRuleLine
import Derived.Test.YtjfipedcjahbkaaGreatDoorCells
namespace Go.Proofs.YtjfipedcjahbkaaGreatDoor
open Go.RowKit
namespace Ru
def exA : Rule := ⟨2, [99, 107]⟩
def exB : Rule := ⟨3, [119, 119, 119, 46, 99, 107]⟩
theorem ex1 : line [42, 46, 99, 107] = (0, true, exA) := by decide +kernel
theorem ex2 : line [33, 119, 119, 119, 46, 99, 107, 32, 32, 47, 47, 32, 116, 104, 105, 115, 32, 111, 110, 101, 32, 110, 111, 116] = (0, true, exB) := by decide +kernel
end Ru
theorem lineR_is (s : ByteArray) {l : List UInt8} (hl : s.data.toList = l) {o : Int × Bool × Ru.Rule} (ho : Ru.line l = o) (hs : s.size ≤ 1048576) (w : World) (hw : Std w) :
    Calls Tryz.prog 6 #[.string s] w fun e w' => e = .returned (.tuple #[.agg (ruleA o.2.2), .bool o.2.1, .int .i64 o.1]) ∧ Below w.heap.size w w' := by
  have h := line_calls s w hw hs
  rw [hl, ho] at h
  exact h
set_option maxRecDepth 100000 in
set_option maxHeartbeats 4000000 in
theorem rule_alive (w : World) (hw : Std w) : Calls Tryz.prog 5 #[] w fun e w' => e = .returned (.bool true) ∧ Below w.heap.size w w' := by
  have z0 := zeroRule
  have H1 := Lib.hid (fun W hW => lineR_is ⟨#[42, 46, 99, 107]⟩ rfl Ru.ex1 (by decide) W hW)
  have H2 := Lib.hid (fun W hW => lineR_is ⟨#[33, 119, 119, 119, 46, 99, 107, 32, 32, 47, 47, 32, 116, 104, 105, 115, 32, 111, 110, 101, 32, 110, 111, 116]⟩ rfl Ru.ex2 (by decide) W hW)
  dsimp only at H1 H2
  have q1 := eql_rule Ru.exA Ru.exA
  have q2 := eql_rule Ru.exB Ru.exB
  rw [decide_eq_true rfl] at q1 q2
  have HB1 := Lib.hid (built_rule 2 ⟨#[99, 107]⟩)
  have HB2 := Lib.hid (built_rule 3 ⟨#[119, 119, 119, 46, 99, 107]⟩)
  change Hid (Tryz.prog.built 24 [(0, .int .i64 2), (1, .string ⟨#[99, 107]⟩)] = some (ruleA Ru.exA)) at HB1
  change Hid (Tryz.prog.built 24 [(0, .int .i64 3), (1, .string ⟨#[119, 119, 119, 46, 99, 107]⟩)] = some (ruleA Ru.exB)) at HB2
  have HX := Lib.hid (ruleA_size Ru.exA)
  have HY := Lib.hid (ruleA_size Ru.exB)
  have HX1 := Lib.hid (ruleA_one Ru.exA)
  have HY1 := Lib.hid (ruleA_one Ru.exB)
  generalize ruleA Ru.exA = X at *
  generalize ruleA Ru.exB = Y at *
  go_enter Tryz.func5, Tryz.ntmps5
  go_wp2_with fail
  refine (H1.out _ hw).mono ?_
  rintro e v1 ⟨rfl, d1⟩
  obtain ⟨T1, U1, C1, _⟩ := lay_row 24 (ruleA Ru.zero) X d1 d1.size
  go_wp2_with (refine wpList_store_row rfl 24 _ _ rfl v1.heap.size X rfl rfl 24 _ T1 (by rw [HX.out]; exact infoRule) (by rw [HX.out]; rfl) HX1.out ?_)
  generalize (v1.alloc (.cells (ruleA Ru.zero) 24)).setRow v1.heap.size X = u1 at *
  clear T1 d1
  generalize v1.heap.size = n1 at *
  refine (H2.out _ (hw.below C1)).mono ?_
  rintro e v2 ⟨rfl, d2⟩
  have B2 := C1.trans (d2.mono C1.size)
  have P1 := U1.stays d2
  obtain ⟨T2, U2, C2, L2⟩ := lay_row 24 (ruleA Ru.zero) Y B2 B2.size
  have P2 := L2 _ _ _ P1
  clear L2 P1 U1 C1 B2 d2
  go_wp2_with (first
    | (refine wpList_store_row rfl 24 _ _ rfl v2.heap.size Y rfl rfl 24 _ T2 (by rw [HY.out]; exact infoRule) (by rw [HY.out]; rfl) HY1.out ?_)
    | (refine at_slot 30 rfl ?_; refine load_row rfl 24 _ rfl n1 rfl P2 Tryz.underlying24 rfl (by rw [HX.out]; exact infoRule) ?_)
    | (refine at_slot 31 rfl ?_; refine build_two_g rfl 24 0 1 _ _ rfl _ _ rfl rfl X HB1.out ?_)
    | (refine at_slot 35 rfl ?_; refine load_row rfl 24 _ rfl v2.heap.size rfl U2 Tryz.underlying24 rfl (by rw [HY.out]; exact infoRule) ?_)
    | (refine at_slot 36 rfl ?_; refine build_two_g rfl 24 0 1 _ _ rfl _ _ rfl rfl Y HB2.out ?_))
  go_ret
  exact ⟨rfl, C2⟩
end Go.Proofs.YtjfipedcjahbkaaGreatDoor
