/- The walks of header's Right and Text, of headers that can be. -/
import Derived.Test.YtpimaobejjpffaaGreatDoorHeaderWrite
import Derived.Test.YtpimaobejjpffaaGreatDoorHeaderParse
namespace Go.Proofs.YtpimaobejjpffaaGreatDoor
open Go.RowKit
set_option maxRecDepth 100000 in
set_option maxHeartbeats 4000000 in
theorem headRight_calls (h : Hd.Head) (hg : Hd.Good h) (w : World) (hw : Hal w) :
    Calls Tryz.prog 21 #[.agg (headA h)] w fun e w' => e = .returned (.bool true) ∧ Below w.heap.size w w' := by
  have z0 := zeroHead
  have HZ : Hid (∀ h : Hd.Head, (headA h).size = 11) := Lib.hid (fun h => rfl)
  have H1 := Lib.hid (fun W hW => write_calls h hg W hW)
  unfold NewText at H1
  have H2 : Hid (∀ W, Hal W → Calls Tryz.prog 5 #[.string ⟨(Hd.text h).toArray⟩] W fun e w' => e = .returned (.tuple #[.agg (headA h), .int .i64 0]) ∧ Below W.heap.size W w') := Lib.hid (fun W hW => by
    have hl := Hd.text_len hg
    have := headParse_calls ⟨(Hd.text h).toArray⟩ W hW (by rw [size_mk]; unfold maxLen; omega)
    have e : (⟨(Hd.text h).toArray⟩ : ByteArray).data.toList = Hd.text h := rfl
    rw [e, Hd.parse_text hg] at this
    exact this)
  have HE := Lib.hid (fun W => eql_head h W)
  have R0 := Row.new w 24 (headA h)
  have B0 := (Below.refl w.heap.size w).alloc (Nat.le_refl _) (.cells (headA h) 24)
  have HW0 := hw.below B0
  generalize (⟨(Hd.text h).toArray⟩ : ByteArray) = t at *
  go_enter Tryz.func21, Tryz.ntmps21
  go_wp2_with (refine at_slot 6 rfl ?_; refine load_row rfl 24 _ rfl w.heap.size rfl R0 Tryz.underlying24 rfl (by rw [HZ.out]; exact infoHead) ?_)
  generalize w.alloc (.cells (headA h) 24) = w0 at *
  refine (H1.out _ HW0).mono ?_
  rintro e w1 ⟨rfl, b1⟩
  have R1 := R0.stays b1
  have B1 := B0.trans (b1.mono B0.size)
  go_wp2_with fail
  refine (H2.out _ (hw.below B1)).mono ?_
  rintro e w2 ⟨rfl, b2⟩
  have R2 := R1.stays b2
  have B2 := B1.trans (b2.mono B1.size)
  clear R0 R1 B0 B1 b1 b2 HW0
  obtain ⟨T0, U0, V0, W0⟩ := lay_row 24 (headA Hd.zero) (headA h) B2 B2.size
  have R3 := W0 _ _ _ R2
  have HE2 := HE.out
  go_wp2_with (first
    | (refine wpList_store_row rfl 24 _ _ rfl w2.heap.size (headA h) rfl rfl 24 _ T0 (by rw [HZ.out]; exact infoHead) rfl (headA_one _) ?_)
    | (refine at_slot 14 rfl ?_; refine load_row rfl 24 _ rfl w2.heap.size rfl U0 Tryz.underlying24 rfl (by rw [HZ.out]; exact infoHead) ?_)
    | (refine at_slot 15 rfl ?_; refine load_row rfl 24 _ rfl w.heap.size rfl R3 Tryz.underlying24 rfl (by rw [HZ.out]; exact infoHead) ?_))
  go_ret
  exact ⟨rfl, V0⟩
set_option maxRecDepth 100000 in
set_option maxHeartbeats 4000000 in
theorem headText_calls (h : Hd.Head) (hg : Hd.Good h) (w : World) (hw : Hal w) :
    Calls Tryz.prog 7 #[.agg (headA h)] w (NewText w.heap.size (Hd.text h) w) := by
  have HZ : Hid (∀ h : Hd.Head, (headA h).size = 11) := Lib.hid (fun h => rfl)
  have H1 := Lib.hid (fun W hW => write_calls h hg W hW)
  unfold NewText at H1 ⊢
  have H2 := Lib.hid (fun W hW => headRight_calls h hg W hW)
  have R0 := Row.new w 24 (headA h)
  have B0 := (Below.refl w.heap.size w).alloc (Nat.le_refl _) (.cells (headA h) 24)
  have HW0 := hw.below B0
  generalize (⟨(Hd.text h).toArray⟩ : ByteArray) = t at *
  go_enter Tryz.func7, Tryz.ntmps7
  go_wp2_with (refine at_slot 3 rfl ?_; refine load_row rfl 24 _ rfl w.heap.size rfl R0 Tryz.underlying24 rfl (by rw [HZ.out]; exact infoHead) ?_)
  generalize w.alloc (.cells (headA h) 24) = w0 at *
  refine (H2.out _ HW0).mono ?_
  rintro e w1 ⟨rfl, b1⟩
  have R1 := R0.stays b1
  have B1 := B0.trans (b1.mono B0.size)
  go_wp2_with (refine at_slot 6 rfl ?_; refine load_row rfl 24 _ rfl w.heap.size rfl R1 Tryz.underlying24 rfl (by rw [HZ.out]; exact infoHead) ?_)
  refine (H1.out _ (hw.below B1)).mono ?_
  rintro e w2 ⟨rfl, b2⟩
  go_wp2
  go_ret
  exact ⟨rfl, B1.trans (b2.mono B1.size)⟩
/-! ### The chapter's example -/
theorem alive_built : Tryz.prog.built 24 [(0, .string ⟨#[97]⟩), (1, .string ⟨#[98]⟩), (3, .string ⟨#[47, 120]⟩), (6, .bool true), (7, .int .i64 5), (8, .bool true)] = some (headA Hd.egH) := by kernel_rfl
set_option maxRecDepth 100000 in
set_option maxHeartbeats 4000000 in
theorem header_alive (w : World) (hw : Hal w) : Calls Tryz.prog 4 #[] w fun e w' => e = .returned (.bool true) ∧ Below w.heap.size w w' := by
  have z0 := zeroHead
  have HZ : Hid (∀ h : Hd.Head, (headA h).size = 11) := Lib.hid (fun h => rfl)
  have hgood : Hd.Good Hd.egH := Hd.parse_good Hd.parse_eg
  have H1 : Hid (∀ W, Hal W → Calls Tryz.prog 5 #[.string ⟨#[97, 61, 98, 59, 32, 112, 97, 116, 104, 61, 47, 120, 59, 32, 77, 65, 88, 45, 65, 71, 69, 61, 53, 59, 32, 83, 101, 99, 117, 114, 101]⟩] W fun e w' => e = .returned (.tuple #[.agg (headA Hd.egH), .int .i64 0]) ∧ Below W.heap.size W w') := Lib.hid (fun W hW => by
    have := headParse_calls ⟨#[97, 61, 98, 59, 32, 112, 97, 116, 104, 61, 47, 120, 59, 32, 77, 65, 88, 45, 65, 71, 69, 61, 53, 59, 32, 83, 101, 99, 117, 114, 101]⟩ W hW (by decide)
    have e : (⟨#[97, 61, 98, 59, 32, 112, 97, 116, 104, 61, 47, 120, 59, 32, 77, 65, 88, 45, 65, 71, 69, 61, 53, 59, 32, 83, 101, 99, 117, 114, 101]⟩ : ByteArray).data.toList = Hd.eg := rfl
    rw [e, Hd.parse_eg] at this
    exact this)
  have H2 : Hid (∀ W, Hal W → Calls Tryz.prog 7 #[.agg (headA Hd.egH)] W fun e w' => e = .returned (.string ⟨#[97, 61, 98, 59, 32, 77, 97, 120, 45, 65, 103, 101, 61, 53, 59, 32, 80, 97, 116, 104, 61, 47, 120, 59, 32, 83, 101, 99, 117, 114, 101]⟩) ∧ Below W.heap.size W w') := Lib.hid (fun W hW => by
    have := headText_calls Hd.egH hgood W hW
    rw [Hd.text_eg] at this
    exact this)
  have HE := Lib.hid (fun W => eql_head Hd.egH W)
  have hb : ((((((headA Hd.zero).setIfInBounds 0 (.string ⟨#[97]⟩)).setIfInBounds 1 (.string ⟨#[98]⟩)).setIfInBounds 3 (.string ⟨#[47, 120]⟩)).setIfInBounds 6 (.bool true)).setIfInBounds 7 (.int .i64 5)).setIfInBounds 8 (.bool true) = headA Hd.egH := rfl
  have HE2 := HE.out
  clear hgood
  go_enter Tryz.func4, Tryz.ntmps4
  go_wp2_with fail
  refine (H1.out _ hw).mono ?_
  rintro e w1 ⟨rfl, b1⟩
  obtain ⟨T0, U0, V0, W0⟩ := lay_row 24 (headA Hd.zero) (headA Hd.egH) b1 b1.size
  go_wp2_with (first
    | (refine wpList_store_row rfl 24 _ _ rfl w1.heap.size (headA Hd.egH) rfl rfl 24 _ T0 (by rw [HZ.out]; exact infoHead) rfl (headA_one _) ?_)
    | (refine at_slot 10 rfl ?_; refine load_row rfl 24 _ rfl w1.heap.size rfl U0 Tryz.underlying24 rfl (by rw [HZ.out]; exact infoHead) ?_)
    | (refine at_slot 15 rfl ?_; refine load_row rfl 24 _ rfl w1.heap.size rfl U0 Tryz.underlying24 rfl (by rw [HZ.out]; exact infoHead) ?_))
  refine (H2.out _ (hw.below V0)).mono ?_
  rintro e w2 ⟨rfl, b2⟩
  go_wp2
  go_ret
  exact ⟨rfl, V0.trans (b2.mono V0.size)⟩
/-! ### What is read -/
theorem parse_other {s : List UInt8} {n : Int} {h : Hd.Head} (hp : Hd.parse s = (n, h)) (hn : n ≠ 0) : h = Hd.zero := by
  have := Hd.parse_error (s := s) (by rw [hp]; exact hn)
  rw [hp] at this
  exact this
theorem parse_calls_is (s : ByteArray) {n : Int} {h : Hd.Head} (hp : Hd.parse s.data.toList = (n, h)) (W : World) (hW : Hal W) (hs : s.size ≤ maxLen) : Calls Tryz.prog 5 #[.string s] W fun e w' => e = .returned (.tuple #[.agg (headA h), .int .i64 n]) ∧ Below W.heap.size W w' := by
  have := headParse_calls s W hW hs
  rw [hp] at this
  exact this
end Go.Proofs.YtpimaobejjpffaaGreatDoor
