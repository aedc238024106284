/- The walk of the law HostReads. -/
import Derived.Test.YtkgcblhhindiaaaDoorHostAlive
import Derived.Test.YtkgcblhhindiaaaDoorRefHostParse
namespace Go.Proofs.YtkgcblhhindiaaaDoor
open Go.RowKit
set_option maxRecDepth 100000 in
set_option maxHeartbeats 4000000 in
theorem hreads_walk (s : ByteArray) (w : World) (_hs : s.size ≤ maxLen) (hw : Std w) :
    Calls Tryd.prog 4 #[.string s] w fun e w' => e = .returned (.bool true) ∧ Below w.heap.size w w' := by
  have HA := Lib.hid host_alive
  by_cases hlen : s.size ≤ 600
  · have hlen1 : ¬ (600 : Int) < (s.size : Int) := by omega
    have z0 := zeroHost
    have hh := Hst.parse_length s.data.toList
    have H1 := Lib.hid (fun W hW => (parse_calls s W hW (by omega)).mono fun e w' h => newHost_is h)
    have H2 := Lib.hid (fun W => (refParse_calls s W hlen).mono fun e w' h => newHost_is h)
    generalize Hst.code (Hst.parse s.data.toList) = code at *
    generalize Hst.host (Hst.parse s.data.toList) = h at *
    have q := eql_host h h hh hh
    rw [decide_eq_true rfl] at q
    have HH := Lib.hid (hostA_size h hh)
    have HH1 := Lib.hid (hostA_one h)
    clear hh
    generalize hostA h = X at *
    go_enter Tryd.func4, Tryd.ntmps4
    go_wp2_with fail
    refine (HA.out _ hw).mono ?_
    rintro e v0 ⟨rfl, d0⟩
    go_wp2_with fail
    refine (H1.out _ (hw.below d0)).mono ?_
    rintro e v1 ⟨rfl, d1⟩
    have B1 := d0.trans (d1.mono d0.size)
    obtain ⟨T1, U1, C1, _⟩ := lay_row 25 (hostA Hst.zero) X B1 B1.size
    go_wp2_with (first
      | (refine wpList_store_row rfl 25 _ _ rfl v1.heap.size X rfl rfl 25 _ T1 (by rw [HH.out]; exact infoHost) (by rw [HH.out]; rfl) HH1.out ?_))
    generalize (v1.alloc (.cells (hostA Hst.zero) 25)).setRow v1.heap.size X = x1 at *
    clear T1 d0 d1 B1
    generalize v1.heap.size = n1 at *
    refine (H2.out _).mono ?_
    rintro e v2 ⟨rfl, d2⟩
    have B2 := C1.trans (d2.mono C1.size)
    have P1 := U1.stays d2
    obtain ⟨T2, U2, C2, L2⟩ := lay_row 25 (hostA Hst.zero) X B2 B2.size
    have P2 := L2 _ _ _ P1
    clear L2 P1 U1 C1 B2 d2
    go_wp2_with (first
      | (refine wpList_store_row rfl 25 _ _ rfl v2.heap.size X rfl rfl 25 _ T2 (by rw [HH.out]; exact infoHost) (by rw [HH.out]; rfl) HH1.out ?_)
      | (refine at_slot 22 rfl ?_; refine load_row rfl 25 _ rfl n1 rfl P2 Tryd.underlying25 rfl (by rw [HH.out]; exact infoHost) ?_)
      | (refine at_slot 23 rfl ?_; refine load_row rfl 25 _ rfl v2.heap.size rfl U2 Tryd.underlying25 rfl (by rw [HH.out]; exact infoHost) ?_))
    go_ret
    exact ⟨rfl, C2⟩
  · have hlen1 : (600 : Int) < (s.size : Int) := by omega
    go_enter Tryd.func4, Tryd.ntmps4
    go_wp2_with fail
    refine (HA.out _ hw).mono ?_
    rintro e w1 ⟨rfl, b1⟩
    go_wp2
    go_ret
    exact ⟨rfl, b1⟩
end Go.Proofs.YtkgcblhhindiaaaDoor
