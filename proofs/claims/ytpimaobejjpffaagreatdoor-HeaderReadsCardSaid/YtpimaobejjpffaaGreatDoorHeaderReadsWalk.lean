/- The walk of the law HeaderReads. -/
import Derived.Test.YtpimaobejjpffaaGreatDoorHeaderText
import Derived.Test.YtpimaobejjpffaaGreatDoorRefHeader
namespace Go.Proofs.YtpimaobejjpffaaGreatDoor
open Go.RowKit
set_option maxRecDepth 100000 in
set_option maxHeartbeats 8000000 in
theorem hreads_walk (s : ByteArray) (w : World) (hs : s.size ≤ maxLen) (hw : Hal w) :
    Calls Tryz.prog 3 #[.string s] w fun e w' => e = .returned (.bool true) ∧ Below w.heap.size w w' := by
  have z0 := zeroHead
  have HZ : Hid (∀ h : Hd.Head, (headA h).size = 11) := Lib.hid (fun h => rfl)
  have HA := Lib.hid (fun W hW => header_alive W hW)
  by_cases hbig : 6000 < s.size
  · have hbig1 : (6000 : Int) < (s.size : Int) := by omega
    clear hs
    go_enter Tryz.func3, Tryz.ntmps3
    go_wp2_with fail
    refine (HA.out _ hw).mono ?_
    rintro e w1 ⟨rfl, b1⟩
    go_wp2
    go_ret
    exact ⟨rfl, b1⟩
  have hbig1 : ¬ (6000 : Int) < (s.size : Int) := by omega
  obtain ⟨⟨n, h⟩, hp⟩ : ∃ o, Hd.parse s.data.toList = o := ⟨_, rfl⟩
  have H1 := Lib.hid (fun W hW => parse_calls_is s hp W hW hs)
  have H2 := Lib.hid (fun W => refHeadParse_calls s W (by omega))
  unfold NewHead at H2
  rw [hp] at H2
  have HE := eql_head h
  clear hp hs
  go_enter Tryz.func3, Tryz.ntmps3
  go_wp2_with fail
  refine (HA.out _ hw).mono ?_
  rintro e w1 ⟨rfl, b1⟩
  go_wp2_with fail
  refine (H1.out _ (hw.below b1)).mono ?_
  rintro e w2 ⟨rfl, b2⟩
  have B2 := b1.trans (b2.mono b1.size)
  obtain ⟨T0, U0, V0, W0⟩ := lay_row 24 (headA Hd.zero) (headA h) B2 B2.size
  go_wp2_with (refine wpList_store_row rfl 24 _ _ rfl w2.heap.size (headA h) rfl rfl 24 _ T0 (by rw [HZ.out]; exact infoHead) rfl (headA_one _) ?_)
  clear T0 W0 B2 b2
  generalize (w2.alloc (.cells (headA Hd.zero) 24)).setRow w2.heap.size (headA h) = w3 at *
  generalize w2.heap.size = g at *
  refine (H2.out _).mono ?_
  rintro e w4 ⟨rfl, b4⟩
  have U4 := U0.stays b4
  have V4 := V0.trans (b4.mono V0.size)
  obtain ⟨T6, U6, V6, W6⟩ := lay_row 24 (headA Hd.zero) (headA h) V4 V4.size
  have X6 := W6 _ _ _ U4
  go_wp2_with (first
    | (refine wpList_store_row rfl 24 _ _ rfl w4.heap.size (headA h) rfl rfl 24 _ T6 (by rw [HZ.out]; exact infoHead) rfl (headA_one _) ?_)
    | (refine at_slot 22 rfl ?_; refine load_row rfl 24 _ rfl g rfl X6 Tryz.underlying24 rfl (by rw [HZ.out]; exact infoHead) ?_)
    | (refine at_slot 23 rfl ?_; refine load_row rfl 24 _ rfl w4.heap.size rfl U6 Tryz.underlying24 rfl (by rw [HZ.out]; exact infoHead) ?_))
  go_ret
  exact ⟨rfl, V6⟩
end Go.Proofs.YtpimaobejjpffaaGreatDoor
