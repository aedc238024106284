/- The walk of host's Under. -/
import Derived.Test.YtkajddopjflniaaGreatDoorHosts
namespace Go.Proofs.YtkajddopjflniaaGreatDoor
open Go.RowKit
theorem Hst.under_eq (h d : Hst.Host) : Hst.under h d = ((Hst.tailOf h ((Hst.labels d).length : Int)).isSome && (decide (Hst.host (Hst.tailOf h ((Hst.labels d).length : Int)) = d) && !decide (Hst.host (Hst.tailOf h ((Hst.labels d).length : Int)) = h))) := by
  unfold Hst.under
  cases Hst.tailOf h ((Hst.labels d).length : Int) <;> rfl
set_option maxRecDepth 100000 in
set_option maxHeartbeats 4000000 in
theorem under_calls (h d : Hst.Host) (ha : h.addr.length = 16) (hda : d.addr.length = 16) (hs : h.name.length ≤ 1048576) (hds : d.name.length ≤ 1048576) (w : World) (hw : Std w) :
    Calls Tryz.prog 16 #[.agg (hostA h), .agg (hostA d)] w fun e w' => e = .returned (.bool (Hst.under h d)) ∧ Below w.heap.size w w' := by
  have z0 := zeroHost
  have HZ0 := Lib.hid (show (hostA Hst.zero).size = 18 from rfl)
  have HH := Lib.hid (hostA_size h ha)
  have HD := Lib.hid (hostA_size d hda)
  have H1 := Lib.hid (fun W hW => labels_calls d hda hds W hW)
  have hU := Hst.under_eq h d
  have hta := Hst.tail_length h ((Hst.labels d).length : Int)
  have H2 : ∀ W, Std W → Calls Tryz.prog 29 #[.agg (hostA h), .int .i64 ((Hst.labels d).length : Int)] W (TailHost (Hst.tailOf h ((Hst.labels d).length : Int)) W) :=
    fun W hW => tail_calls h ha hs _ W hW
  have H2 := Lib.hid H2
  unfold TailHost at H2
  unfold NewTexts at H1
  generalize Hst.labels d = ps at *
  generalize hL : ps.length = L at *
  generalize Hst.tailOf h (L : Int) = o at *
  generalize Hst.host o = T at *
  have HT := Lib.hid (hostA_size T hta)
  have HT1 := Lib.hid (hostA_one T)
  have q1 := eql_host T d hta hda
  have q2 := neq_host T h hta ha
  generalize o.isSome = ok at *
  generalize Hst.under h d = b at *
  generalize decide (T = d) = b1 at *
  generalize decide (T = h) = b2 at *
  generalize hostA h = H at *
  generalize hostA d = D at *
  generalize hostA T = TT at *
  clear ha hda hta hds hs
  have R0 := Row.new w 25 H
  have B0 := (Below.refl w.heap.size w).alloc (Nat.le_refl _) (.cells H 25)
  have hN : (w.alloc (.cells H 25)).heap.size = w.heap.size + 1 := by simp
  have S0 := (Row.new (w.alloc (.cells H 25)) 25 D)
  rw [hN] at S0
  go_enter Tryz.func16, Tryz.ntmps16
  go_wp2_with (refine at_slot 8 rfl ?_; refine load_row rfl 25 _ rfl (w.heap.size + 1) rfl S0 Tryz.underlying25 rfl (by rw [HD.out]; exact infoHost) ?_)
  generalize w.alloc (.cells H 25) = w0 at *
  have C0 := B0.alloc B0.size (.cells D 25)
  have R1 := R0.alloc (.cells D 25)
  generalize w0.alloc (.cells D 25) = x0 at *
  clear R0 B0 hN
  refine (H1.out _ (hw.below C0)).mono ?_
  rintro e v1 ⟨v, rfl, hown, d1⟩
  have S1 := S0.stays d1
  have R2 := R1.stays d1
  have C1 := C0.trans (d1.mono C0.size)
  have hv : ∃ A c, v = .slice A L c := by
    rcases hown.2 with ⟨rfl, h0⟩ | ⟨g, cap, cur, rfl, _⟩
    · exact ⟨none, 0, by rw [h0]⟩
    · exact ⟨_, _, rfl⟩
  obtain ⟨A, c, rfl⟩ := hv
  clear hown d1 S0 R1 C0
  go_wp2_with (refine at_slot 12 rfl ?_; refine load_row rfl 25 _ rfl w.heap.size rfl R2 Tryz.underlying25 rfl (by rw [HH.out]; exact infoHost) ?_)
  refine (H2.out _ (hw.below C1)).mono ?_
  rintro e v2 ⟨rfl, d2⟩
  have S2 := S1.stays d2
  have R3 := R2.stays d2
  have C2 := C1.trans (d2.mono C1.size)
  obtain ⟨T0, U, C, L⟩ := lay_row 25 (hostA Hst.zero) TT C2 C2.size
  have S3 := L _ _ _ S2
  have R4 := L _ _ _ R3
  clear L S1 R2 C1 S2 R3 C2 d2
  cases ok
  · go_wp2_with (first
      | (refine wpList_store_row rfl 25 _ _ rfl v2.heap.size TT rfl rfl 25 _ T0 (by rw [HT.out]; exact infoHost) (by rw [HT.out]; rfl) HT1.out ?_))
    go_ret
    exact ⟨ret_bool (by rw [hU]; rfl), C⟩
  · cases b1
    all_goals
      go_wp2_with (first
        | (refine wpList_store_row rfl 25 _ _ rfl v2.heap.size TT rfl rfl 25 _ T0 (by rw [HT.out]; exact infoHost) (by rw [HT.out]; rfl) HT1.out ?_)
        | (refine at_slot 19 rfl ?_; refine load_row rfl 25 _ rfl v2.heap.size rfl U Tryz.underlying25 rfl (by rw [HT.out]; exact infoHost) ?_)
        | (refine at_slot 20 rfl ?_; refine load_row rfl 25 _ rfl (w.heap.size + 1) rfl S3 Tryz.underlying25 rfl (by rw [HD.out]; exact infoHost) ?_)
        | (refine at_slot 24 rfl ?_; refine load_row rfl 25 _ rfl v2.heap.size rfl U Tryz.underlying25 rfl (by rw [HT.out]; exact infoHost) ?_)
        | (refine at_slot 25 rfl ?_; refine load_row rfl 25 _ rfl w.heap.size rfl R4 Tryz.underlying25 rfl (by rw [HH.out]; exact infoHost) ?_))
      go_ret
      exact ⟨ret_bool (by rw [hU]; rfl), C⟩
end Go.Proofs.YtkajddopjflniaaGreatDoor
