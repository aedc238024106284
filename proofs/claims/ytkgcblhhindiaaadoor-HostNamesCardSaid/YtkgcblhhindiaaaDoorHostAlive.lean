/- The walk of the chapter's examples. -/
import Derived.Test.YtkgcblhhindiaaaDoorHostUnder
namespace Go.Proofs.YtkgcblhhindiaaaDoor
open Go.RowKit
namespace Hst
def exH : Host := ⟨1, [97, 46, 101, 120, 97, 109, 112, 108, 101, 46, 99, 111, 109], nil16⟩
def exD : Host := ⟨1, [101, 120, 97, 109, 112, 108, 101, 46, 99, 111, 109], nil16⟩
theorem ex1 : parse [65, 46, 69, 120, 97, 109, 112, 108, 101, 46, 99, 111, 109] = some exH := by decide +kernel
theorem ex2 : parse [101, 120, 97, 109, 112, 108, 101, 46, 99, 111, 109] = some exD := by decide +kernel
theorem ex3 : parse [49, 46, 50, 46, 51] = none := by decide +kernel
theorem ex4 : under exH exD = true := by decide +kernel
end Hst
theorem parse_is (s : ByteArray) {l : List UInt8} (hl : s.data.toList = l) {o : Option Hst.Host} (ho : Hst.parse l = o) (hs : s.size ≤ 1048576) (w : World) (hw : Std w) :
    Calls Tryd.prog 7 #[.string s] w fun e w' => e = .returned (.tuple #[.agg (hostA (Hst.host o)), .int .i64 (Hst.code o)]) ∧ Below w.heap.size w w' := by
  have h := parse_calls s w hw hs
  rw [hl, ho] at h
  exact h
set_option maxRecDepth 100000 in
set_option maxHeartbeats 4000000 in
theorem host_alive (w : World) (hw : Std w) : Calls Tryd.prog 8 #[] w fun e w' => e = .returned (.bool true) ∧ Below w.heap.size w w' := by
  have z0 := zeroHost
  have HZ0 := Lib.hid (show (hostA Hst.zero).size = 18 from rfl)
  have z2 : ((hostA Hst.zero).setIfInBounds 0 (.int .i64 1)).setIfInBounds 1 (.string ⟨#[97, 46, 101, 120, 97, 109, 112, 108, 101, 46, 99, 111, 109]⟩) = hostA Hst.exH := rfl
  have H1 := Lib.hid (fun W hW => parse_is ⟨#[65, 46, 69, 120, 97, 109, 112, 108, 101, 46, 99, 111, 109]⟩ rfl Hst.ex1 (by decide) W hW)
  have H2 := Lib.hid (fun W hW => parse_is ⟨#[101, 120, 97, 109, 112, 108, 101, 46, 99, 111, 109]⟩ rfl Hst.ex2 (by decide) W hW)
  have H3 := Lib.hid (fun W hW => parse_is ⟨#[49, 46, 50, 46, 51]⟩ rfl Hst.ex3 (by decide) W hW)
  have H4 := Lib.hid (fun W hW => under_calls Hst.exH Hst.exD rfl rfl (by decide) (by decide) W hW)
  rw [Hst.ex4] at H4
  have e1 : Hst.host (some Hst.exH) = Hst.exH := rfl
  have e2 : Hst.host (some Hst.exD) = Hst.exD := rfl
  have e3 : Hst.host none = Hst.zero := rfl
  have f1 : Hst.code (some Hst.exH) = 0 := rfl
  have f2 : Hst.code (some Hst.exD) = 0 := rfl
  have f3 : Hst.code none = 31 := rfl
  rw [e1, f1] at H1
  rw [e2, f2] at H2
  rw [e3, f3] at H3
  clear e1 e2 e3 f1 f2 f3
  have q1 := eql_host Hst.exH Hst.exH rfl rfl
  rw [decide_eq_true rfl] at q1
  have HH := Lib.hid (show (hostA Hst.exH).size = 18 from rfl)
  have HD := Lib.hid (show (hostA Hst.exD).size = 18 from rfl)
  have HO := Lib.hid hostA_one
  generalize hX : hostA Hst.exH = X at *
  generalize hY : hostA Hst.exD = Y at *
  have HX1 := Lib.hid (show X.all (·.oneCell') = true by rw [← hX]; exact hostA_one _)
  have HY1 := Lib.hid (show Y.all (·.oneCell') = true by rw [← hY]; exact hostA_one _)
  clear hX hY HO
  go_enter Tryd.func8, Tryd.ntmps8
  go_wp2_with fail
  refine (H1.out _ hw).mono ?_
  rintro e v1 ⟨rfl, d1⟩
  obtain ⟨T1, U1, C1, _⟩ := lay_row 25 (hostA Hst.zero) X d1 d1.size
  go_wp2_with (refine wpList_store_row rfl 25 _ _ rfl v1.heap.size X rfl rfl 25 _ T1 (by rw [HH.out]; exact infoHost) (by rw [HH.out]; rfl) HX1.out ?_)
  generalize (v1.alloc (.cells (hostA Hst.zero) 25)).setRow v1.heap.size X = u1 at *
  clear T1 d1
  generalize v1.heap.size = n1 at *
  refine (H2.out _ (hw.below C1)).mono ?_
  rintro e v2 ⟨rfl, d2⟩
  have B2 := C1.trans (d2.mono C1.size)
  have P1 := U1.stays d2
  obtain ⟨T2, U2, C2, L2⟩ := lay_row 25 (hostA Hst.zero) Y B2 B2.size
  have P2 := L2 _ _ _ P1
  go_wp2_with (refine wpList_store_row rfl 25 _ _ rfl v2.heap.size Y rfl rfl 25 _ T2 (by rw [HD.out]; exact infoHost) (by rw [HD.out]; rfl) HY1.out ?_)
  generalize (v2.alloc (.cells (hostA Hst.zero) 25)).setRow v2.heap.size Y = u2 at *
  clear T2 d2 U1 P1 C1 B2 L2
  generalize v2.heap.size = n2 at *
  refine (H3.out _ (hw.below C2)).mono ?_
  rintro e v3 ⟨rfl, d3⟩
  have B3 := C2.trans (d3.mono C2.size)
  have P3 := P2.stays d3
  have P4 := U2.stays d3
  obtain ⟨T3, U3, C3, L3⟩ := lay_row 25 (hostA Hst.zero) (hostA Hst.zero) B3 B3.size
  have P5 := L3 _ _ _ P3
  have P6 := L3 _ _ _ P4
  clear d3 U2 P2 C2 B3 L3 P3 P4
  go_wp2_with (first
    | (refine wpList_store_row rfl 25 _ _ rfl v3.heap.size (hostA Hst.zero) rfl rfl 25 _ T3 (by rw [HZ0.out]; exact infoHost) rfl (hostA_one _) ?_)
    | (refine at_slot 26 rfl ?_; refine load_row rfl 25 _ rfl n1 rfl P5 Tryd.underlying25 rfl (by rw [HH.out]; exact infoHost) ?_)
    | (refine at_slot 31 rfl ?_; refine load_row rfl 25 _ rfl n1 rfl P5 Tryd.underlying25 rfl (by rw [HH.out]; exact infoHost) ?_)
    | (refine at_slot 32 rfl ?_; refine load_row rfl 25 _ rfl n2 rfl P6 Tryd.underlying25 rfl (by rw [HD.out]; exact infoHost) ?_)
    | (go_at_call 10; refine (H4.out _ (hw.below C3)).mono ?_; rintro e v4 ⟨rfl, d4⟩))
  go_ret
  exact ⟨rfl, C3.trans (d4.mono C3.size)⟩
end Go.Proofs.YtkgcblhhindiaaaDoor
