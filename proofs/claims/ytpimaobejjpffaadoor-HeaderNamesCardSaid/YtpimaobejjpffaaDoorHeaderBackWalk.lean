/- The walk of the law HeaderBack. -/
import Derived.Test.YtpimaobejjpffaaDoorHeaderText
namespace Go.Proofs.YtpimaobejjpffaaDoor
open Go.RowKit
theorem parse_other {s : List UInt8} {n : Int} {h : Hd.Head} (hp : Hd.parse s = (n, h)) (hn : n ≠ 0) : h = Hd.zero := by
  have := Hd.parse_error (s := s) (by rw [hp]; exact hn)
  rw [hp] at this
  exact this
theorem parse_calls_is (s : ByteArray) {n : Int} {h : Hd.Head} (hp : Hd.parse s.data.toList = (n, h)) (W : World) (hW : Hal W) (hs : s.size ≤ maxLen) : Calls Tryd.prog 7 #[.string s] W fun e w' => e = .returned (.tuple #[.agg (headA h), .int .i64 n]) ∧ Below W.heap.size W w' := by
  have := headParse_calls s W hW hs
  rw [hp] at this
  exact this
set_option maxRecDepth 100000 in
set_option maxHeartbeats 8000000 in
theorem hback_walk (s : ByteArray) (w : World) (hs : s.size ≤ maxLen) (hw : Hal w) :
    Calls Tryd.prog 4 #[.string s] w fun e w' => e = .returned (.bool true) ∧ Below w.heap.size w w' := by
  have z0 := zeroHead
  have HZ : Hid (∀ h : Hd.Head, (headA h).size = 11) := Lib.hid (fun h => rfl)
  have HA := Lib.hid (fun W hW => header_alive W hW)
  by_cases hbig : 6000 < s.size
  · have hbig1 : (6000 : Int) < (s.size : Int) := by omega
    clear hs
    go_enter Tryd.func4, Tryd.ntmps4
    go_wp2_with fail
    refine (HA.out _ hw).mono ?_
    rintro e w1 ⟨rfl, b1⟩
    go_wp2
    go_ret
    exact ⟨rfl, b1⟩
  have hbig1 : ¬ (6000 : Int) < (s.size : Int) := by omega
  obtain ⟨⟨n, h⟩, hp⟩ : ∃ o, Hd.parse s.data.toList = o := ⟨_, rfl⟩
  have H1 := Lib.hid (fun W hW => parse_calls_is s hp W hW hs)
  have HE := Lib.hid (fun h W => eql_head h W)
  by_cases hn : n = 0
  · subst hn
    have hg := Hd.parse_good hp
    have H2 := Lib.hid (fun W hW => headText_calls h hg W hW)
    unfold NewText at H2
    have H3 := Lib.hid (fun W hW => headRight_calls h hg W hW)
    have H4 := Lib.hid (fun W hW => parse_calls_is ⟨(Hd.text h).toArray⟩ (Hd.parse_text hg) W hW (by have := Hd.text_len hg; rw [size_mk]; unfold maxLen; omega))
    clear hp hg
    generalize (⟨(Hd.text h).toArray⟩ : ByteArray) = t at *
    have HEh := HE.out h
    go_enter Tryd.func4, Tryd.ntmps4
    go_wp2_with fail
    refine (HA.out _ hw).mono ?_
    rintro e w1 ⟨rfl, b1⟩
    go_wp2_with fail
    refine (H1.out _ (hw.below b1)).mono ?_
    rintro e w2 ⟨rfl, b2⟩
    have B2 := b1.trans (b2.mono b1.size)
    obtain ⟨T0, U0, V0, W0⟩ := lay_row 23 (headA Hd.zero) (headA h) B2 B2.size
    go_wp2_with (first
      | (refine wpList_store_row rfl 23 _ _ rfl w2.heap.size (headA h) rfl rfl 23 _ T0 (by rw [HZ.out]; exact infoHead) rfl (headA_one _) ?_)
      | (refine at_slot 23 rfl ?_; refine load_row rfl 23 _ rfl w2.heap.size rfl U0 Tryd.underlying23 rfl (by rw [HZ.out]; exact infoHead) ?_))
    clear T0 W0
    have HV := hw.below V0
    generalize (w2.alloc (.cells (headA Hd.zero) 23)).setRow w2.heap.size (headA h) = w3 at *
    generalize w2.heap.size = g at *
    refine (H2.out _ HV).mono ?_
    rintro e w4 ⟨rfl, b4⟩
    have U4 := U0.stays b4
    have V4 := V0.trans (b4.mono V0.size)
    go_wp2_with fail
    refine (H4.out _ (hw.below V4)).mono ?_
    rintro e w5 ⟨rfl, b5⟩
    have U5 := U4.stays b5
    have V5 := V4.trans (b5.mono V4.size)
    clear U0 V0 U4 V4 b4 b5 HV
    obtain ⟨T6, U6, V6, W6⟩ := lay_row 23 (headA Hd.zero) (headA h) V5 V5.size
    have X6 := W6 _ _ _ U5
    go_wp2_with (first
      | (refine wpList_store_row rfl 23 _ _ rfl w5.heap.size (headA h) rfl rfl 23 _ T6 (by rw [HZ.out]; exact infoHead) rfl (headA_one _) ?_)
      | (refine at_slot 30 rfl ?_; refine load_row rfl 23 _ rfl g rfl X6 Tryd.underlying23 rfl (by rw [HZ.out]; exact infoHead) ?_))
    clear T6 W6
    have HV := hw.below V6
    generalize (w5.alloc (.cells (headA Hd.zero) 23)).setRow w5.heap.size (headA h) = w6 at *
    generalize w5.heap.size = g2 at *
    refine (H3.out _ HV).mono ?_
    rintro e w7 ⟨rfl, b7⟩
    have U7 := U6.stays b7
    have X7 := X6.stays b7
    have V7 := V6.trans (b7.mono V6.size)
    go_wp2_with (first
      | (refine at_slot 37 rfl ?_; refine load_row rfl 23 _ rfl g2 rfl U7 Tryd.underlying23 rfl (by rw [HZ.out]; exact infoHead) ?_)
      | (refine at_slot 38 rfl ?_; refine load_row rfl 23 _ rfl g rfl X7 Tryd.underlying23 rfl (by rw [HZ.out]; exact infoHead) ?_)
      | (refine at_slot 42 rfl ?_; refine load_row rfl 23 _ rfl g2 rfl U7 Tryd.underlying23 rfl (by rw [HZ.out]; exact infoHead) ?_))
    refine (H2.out _ (hw.below V7)).mono ?_
    rintro e w8 ⟨rfl, b8⟩
    go_wp2
    go_ret
    exact ⟨rfl, V7.trans (b8.mono V7.size)⟩
  · obtain rfl := parse_other hp hn
    have hn1 : (n != 0) = true := by rw [bne_iff_ne]; exact hn
    have HEh := HE.out Hd.zero
    clear hp hn
    go_enter Tryd.func4, Tryd.ntmps4
    go_wp2_with fail
    refine (HA.out _ hw).mono ?_
    rintro e w1 ⟨rfl, b1⟩
    go_wp2_with fail
    refine (H1.out _ (hw.below b1)).mono ?_
    rintro e w2 ⟨rfl, b2⟩
    have B2 := b1.trans (b2.mono b1.size)
    obtain ⟨T0, U0, V0, W0⟩ := lay_row 23 (headA Hd.zero) (headA Hd.zero) B2 B2.size
    go_wp2_with (first
      | (refine wpList_store_row rfl 23 _ _ rfl w2.heap.size (headA Hd.zero) rfl rfl 23 _ T0 (by rw [HZ.out]; exact infoHead) rfl (headA_one _) ?_)
      | (refine at_slot 20 rfl ?_; refine load_row rfl 23 _ rfl w2.heap.size rfl U0 Tryd.underlying23 rfl (by rw [HZ.out]; exact infoHead) ?_))
    go_ret
    exact ⟨rfl, V0⟩
end Go.Proofs.YtpimaobejjpffaaDoor
