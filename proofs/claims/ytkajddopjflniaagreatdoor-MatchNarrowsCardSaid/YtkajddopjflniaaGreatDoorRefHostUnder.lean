/- The walks of the reference's Labels and Under. -/
import Derived.Test.YtkajddopjflniaaGreatDoorHostUnder
import Derived.Test.YtkajddopjflniaaGreatDoorRefHosts
namespace Go.Proofs.YtkajddopjflniaaGreatDoor
open Go.RowKit
set_option maxRecDepth 100000 in
set_option maxHeartbeats 4000000 in
theorem refUnder_calls (h d : Hst.Host) (ha : h.addr.length = 16) (hda : d.addr.length = 16) (hs : h.name.length ≤ 100000) (hds : d.name.length ≤ 100000) (w : World) :
    Calls Tryz.prog 17 #[.agg (hostA h), .agg (hostA d)] w fun e w' => e = .returned (.bool (Hst.refUnder h d)) ∧ Below w.heap.size w w' := by
  have HH := Lib.hid (hostA_size h ha)
  have HD := Lib.hid (hostA_size d hda)
  have H1 := Lib.hid (fun W => refLabels_calls h ha hs W)
  have H2 := Lib.hid (fun W => refLabels_calls d hda hds W)
  have hll := Hst.labels_length h
  have hlm := Hst.labels_length d
  obtain ⟨th, hth⟩ : ∃ t : ByteArray, t = ⟨h.name.toArray⟩ := ⟨_, rfl⟩
  obtain ⟨td, htd⟩ : ∃ t : ByteArray, t = ⟨d.name.toArray⟩ := ⟨_, rfl⟩
  obtain ⟨E, hE⟩ : ∃ E : ByteArray, (⟨#[46]⟩ : ByteArray) ++ td = E := ⟨_, rfl⟩
  have hthl : th.data.toList = h.name := by rw [hth]
  have htdl : td.data.toList = d.name := by rw [htd]
  have hths : th.size = h.name.length := by rw [← hthl, Oct.length_bytes]
  have htds : td.size = d.name.length := by rw [← htdl, Oct.length_bytes]
  have hEl : E.data.toList = 46 :: d.name := by rw [← hE, ByteArray.data_append, Array.toList_append, htdl]; rfl
  have hEs : E.size = d.name.length + 1 := by rw [← Oct.length_bytes, hEl]; rfl
  have HU : Hid (Hst.refUnder h d = (decide (Hst.labels h ≠ [] ∧ Hst.labels d ≠ []) && (decide (d.name.length + 1 < h.name.length) && decide (h.name.drop (h.name.length - (d.name.length + 1)) = 46 :: d.name)))) := Lib.hid rfl
  obtain ⟨b, hb⟩ : ∃ b, decide (h.name.drop (h.name.length - (d.name.length + 1)) = 46 :: d.name) = b := ⟨_, rfl⟩
  have heq : ((th.extract (th.size - E.size) th.size).toList == E.toList) = b := by
    rw [← hb, Oct.bytes_data, Oct.bytes_data, hEl, Lib.extract_eq]
    show (((th.data.toList.drop (th.size - E.size)).take (th.size - (th.size - E.size))) == 46 :: d.name) = _
    rw [List.take_of_length_le (by rw [List.length_drop, Oct.length_bytes]; exact Nat.le_refl _), hthl, hths, hEs, Bool.eq_iff_iff, beq_iff_eq, decide_eq_true_eq]
  rw [hb] at HU
  have R0 := Row.new w 25 (hostA h)
  have hN : (w.alloc (.cells (hostA h) 25)).heap.size = w.heap.size + 1 := by simp
  have S0 := Row.new (w.alloc (.cells (hostA h) 25)) 25 (hostA d)
  rw [hN] at S0
  have R1 := R0.alloc (.cells (hostA d) 25)
  have C0 := ((Below.refl w.heap.size w).alloc (Nat.le_refl _) (.cells (hostA h) 25)).alloc (by omega) (.cells (hostA d) 25)
  have SX := S0
  have c0 : ((w.alloc (.cells (hostA h) 25)).alloc (.cells (hostA d) 25)).cell? ⟨w.heap.size, 1, none⟩ = some (.string th) := by rw [R1.cell, hostA_name, hth]; rfl
  have e0 : ((w.alloc (.cells (hostA h) 25)).alloc (.cells (hostA d) 25)).cell? ⟨w.heap.size + 1, 1, none⟩ = some (.string td) := by rw [S0.cell, hostA_name, htd]; rfl
  have hcase : Hst.labels h = [] ∨ (Hst.labels h ≠ [] ∧ Hst.labels d = []) ∨ (Hst.labels h ≠ [] ∧ Hst.labels d ≠ [] ∧ E.size < th.size) ∨ (Hst.labels h ≠ [] ∧ Hst.labels d ≠ [] ∧ ¬ E.size < th.size) := by
    by_cases k1 : Hst.labels h = []
    · exact .inl k1
    · by_cases k2 : Hst.labels d = []
      · exact .inr (.inl ⟨k1, k2⟩)
      · by_cases k3 : E.size < th.size
        · exact .inr (.inr (.inl ⟨k1, k2, k3⟩))
        · exact .inr (.inr (.inr ⟨k1, k2, k3⟩))
  unfold NewTexts at H1 H2
  rcases hcase with k1 | ⟨k1, k2⟩ | ⟨k1, k2, k3⟩ | ⟨k1, k2, k3⟩
  · have HV : Hid (Hst.refUnder h d = false) := Lib.hid (by rw [HU.out, k1]; rfl)
    rw [k1] at H1
    rw [HV.out]
    generalize hostA h = H at *
    generalize hostA d = D at *
    clear HU hb heq hE hEl hEs hth htd hthl htdl ha hda hs hds HV
    go_enter Tryz.func17, Tryz.ntmps17
    go_wp2_with (refine at_slot 6 rfl ?_; refine load_row rfl 25 _ rfl w.heap.size rfl R1 Tryz.underlying25 rfl (by rw [HH.out]; exact infoHost) ?_)
    generalize (w.alloc (.cells H 25)).alloc (.cells D 25) = x0 at *
    refine (H1.out _).mono ?_
    rintro e v1 ⟨v, rfl, hown, d1⟩
    have hv : ∃ A c, v = .slice A 0 c := by
      rcases hown.2 with ⟨rfl, h0⟩ | ⟨g, cap, cur, rfl, _⟩
      · exact ⟨none, 0, rfl⟩
      · exact ⟨_, _, rfl⟩
    obtain ⟨A, c, rfl⟩ := hv
    clear hown
    go_wp2
    go_ret
    exact ⟨rfl, C0.trans (d1.mono C0.size)⟩
  · have HV : Hid (Hst.refUnder h d = false) := Lib.hid (by rw [HU.out, decide_eq_false (fun k => k.2 k2)]; rfl)
    have hL : 0 < (Hst.labels h).length := List.length_pos_iff.2 k1
    rw [k2] at H2
    rw [HV.out]
    generalize Hst.labels h = ps at *
    generalize ps.length = L at *
    generalize hostA h = H at *
    generalize hostA d = D at *
    have hL0 : ((L : Int) == 0) = false := beq_eq_false_iff_ne.2 (by omega)
    clear HU hb heq hE hEl hEs hth htd hthl htdl ha hda hs hds HV
    go_enter Tryz.func17, Tryz.ntmps17
    go_wp2_with (refine at_slot 6 rfl ?_; refine load_row rfl 25 _ rfl w.heap.size rfl R1 Tryz.underlying25 rfl (by rw [HH.out]; exact infoHost) ?_)
    generalize (w.alloc (.cells H 25)).alloc (.cells D 25) = x0 at *
    refine (H1.out _).mono ?_
    rintro e v1 ⟨v, rfl, hown, d1⟩
    have hv : ∃ A c, v = .slice A L c := by
      rcases hown.2 with ⟨rfl, h0⟩ | ⟨g, cap, cur, rfl, _⟩
      · exact ⟨none, 0, by rw [h0]⟩
      · exact ⟨_, _, rfl⟩
    obtain ⟨A, c, rfl⟩ := hv
    have C1 := C0.trans (d1.mono C0.size)
    have S2 := SX.stays d1
    clear hown
    go_wp2_with (refine at_slot 11 rfl ?_; refine load_row rfl 25 _ rfl (w.heap.size + 1) rfl S2 Tryz.underlying25 rfl (by rw [HD.out]; exact infoHost) ?_)
    refine (H2.out _).mono ?_
    rintro e v2 ⟨v, rfl, hown, d2⟩
    have hv : ∃ A c, v = .slice A 0 c := by
      rcases hown.2 with ⟨rfl, h0⟩ | ⟨g, cap, cur, rfl, _⟩
      · exact ⟨none, 0, rfl⟩
      · exact ⟨_, _, rfl⟩
    obtain ⟨A2, c2, rfl⟩ := hv
    clear hown
    go_wp2
    go_ret
    exact ⟨rfl, C1.trans (d2.mono C1.size)⟩
  · have HV : Hid (Hst.refUnder h d = b) := Lib.hid (by rw [HU.out, decide_eq_true (show Hst.labels h ≠ [] ∧ Hst.labels d ≠ [] from ⟨k1, k2⟩), decide_eq_true (show d.name.length + 1 < h.name.length by omega)]; rfl)
    have hL : 0 < (Hst.labels h).length := List.length_pos_iff.2 k1
    have hM : 0 < (Hst.labels d).length := List.length_pos_iff.2 k2
    rw [HV.out]
    generalize Hst.labels h = ps at *
    generalize Hst.labels d = qs at *
    generalize ps.length = L at *
    generalize qs.length = M at *
    generalize hostA h = H at *
    generalize hostA d = D at *
    have hL0 : ((L : Int) == 0) = false := beq_eq_false_iff_ne.2 (by omega)
    have hM0 : ((M : Int) == 0) = false := beq_eq_false_iff_ne.2 (by omega)
    have hcat : ¬ 9223372036854775807 < (⟨#[46]⟩ : ByteArray).size + td.size := by
      show ¬ 9223372036854775807 < 1 + td.size
      omega
    have h46 : (⟨#[46]⟩ : ByteArray).size = 1 := rfl
    have hz : ((th.size : Int) - (E.size : Int)).toNat = th.size - E.size := by omega
    have k4 : (E.size : Int) < (th.size : Int) := by omega
    have HEQ := Lib.hid heq
    rw [hths, hEs] at HEQ
    clear heq
    have hlt0 := R1.lt
    have hlt1 := SX.lt
    clear HU hb hEl hth htd hthl htdl ha hda HV
    go_enter Tryz.func17, Tryz.ntmps17
    go_wp2_with (refine at_slot 6 rfl ?_; refine load_row rfl 25 _ rfl w.heap.size rfl R1 Tryz.underlying25 rfl (by rw [HH.out]; exact infoHost) ?_)
    generalize (w.alloc (.cells H 25)).alloc (.cells D 25) = x0 at *
    refine (H1.out _).mono ?_
    rintro e v1 ⟨v, rfl, hown, d1⟩
    have hv : ∃ A c, v = .slice A L c := by
      rcases hown.2 with ⟨rfl, h0⟩ | ⟨g, cap, cur, rfl, _⟩
      · exact ⟨none, 0, by rw [h0]⟩
      · exact ⟨_, _, rfl⟩
    obtain ⟨A, c, rfl⟩ := hv
    have C1 := C0.trans (d1.mono C0.size)
    have S2 := SX.stays d1
    have c1 := (d1.cell (p := ⟨w.heap.size, 1, none⟩) hlt0).trans c0
    have e1 := (d1.cell (p := ⟨w.heap.size + 1, 1, none⟩) hlt1).trans e0
    have hlt2 := Nat.lt_of_lt_of_le hlt0 d1.size
    have hlt3 := Nat.lt_of_lt_of_le hlt1 d1.size
    clear hown c0 e0
    go_wp2_with (refine at_slot 11 rfl ?_; refine load_row rfl 25 _ rfl (w.heap.size + 1) rfl S2 Tryz.underlying25 rfl (by rw [HD.out]; exact infoHost) ?_)
    refine (H2.out _).mono ?_
    rintro e v2 ⟨v, rfl, hown, d2⟩
    have hv : ∃ A c, v = .slice A M c := by
      rcases hown.2 with ⟨rfl, h0⟩ | ⟨g, cap, cur, rfl, _⟩
      · exact ⟨none, 0, by rw [h0]⟩
      · exact ⟨_, _, rfl⟩
    obtain ⟨A2, cp2, rfl⟩ := hv
    have c2 := (d2.cell (p := ⟨w.heap.size, 1, none⟩) hlt2).trans c1
    have e2 := (d2.cell (p := ⟨w.heap.size + 1, 1, none⟩) hlt3).trans e1
    have C2 := C1.trans (d2.mono C1.size)
    clear hown c1 e1 d1 d2 C1 S2 C0 R0 R1 S0 SX
    go_wp2
    go_ret
    exact ⟨ret_bool HEQ.out, C2⟩
  · have HV : Hid (Hst.refUnder h d = false) := Lib.hid (by rw [HU.out, decide_eq_true (show Hst.labels h ≠ [] ∧ Hst.labels d ≠ [] from ⟨k1, k2⟩), decide_eq_false (show ¬ d.name.length + 1 < h.name.length by omega)]; rfl)
    have hL : 0 < (Hst.labels h).length := List.length_pos_iff.2 k1
    have hM : 0 < (Hst.labels d).length := List.length_pos_iff.2 k2
    rw [HV.out]
    generalize Hst.labels h = ps at *
    generalize Hst.labels d = qs at *
    generalize ps.length = L at *
    generalize qs.length = M at *
    generalize hostA h = H at *
    generalize hostA d = D at *
    have hL0 : ((L : Int) == 0) = false := beq_eq_false_iff_ne.2 (by omega)
    have hM0 : ((M : Int) == 0) = false := beq_eq_false_iff_ne.2 (by omega)
    have hcat : ¬ 9223372036854775807 < (⟨#[46]⟩ : ByteArray).size + td.size := by
      show ¬ 9223372036854775807 < 1 + td.size
      omega
    have h46 : (⟨#[46]⟩ : ByteArray).size = 1 := rfl
    have k4 : ¬ (E.size : Int) < (th.size : Int) := by omega
    have hlt0 := R1.lt
    have hlt1 := SX.lt
    clear HU hb hEl hth htd hthl htdl ha hda HV
    go_enter Tryz.func17, Tryz.ntmps17
    go_wp2_with (refine at_slot 6 rfl ?_; refine load_row rfl 25 _ rfl w.heap.size rfl R1 Tryz.underlying25 rfl (by rw [HH.out]; exact infoHost) ?_)
    generalize (w.alloc (.cells H 25)).alloc (.cells D 25) = x0 at *
    refine (H1.out _).mono ?_
    rintro e v1 ⟨v, rfl, hown, d1⟩
    have hv : ∃ A c, v = .slice A L c := by
      rcases hown.2 with ⟨rfl, h0⟩ | ⟨g, cap, cur, rfl, _⟩
      · exact ⟨none, 0, by rw [h0]⟩
      · exact ⟨_, _, rfl⟩
    obtain ⟨A, c, rfl⟩ := hv
    have C1 := C0.trans (d1.mono C0.size)
    have S2 := SX.stays d1
    have c1 := (d1.cell (p := ⟨w.heap.size, 1, none⟩) hlt0).trans c0
    have e1 := (d1.cell (p := ⟨w.heap.size + 1, 1, none⟩) hlt1).trans e0
    have hlt2 := Nat.lt_of_lt_of_le hlt0 d1.size
    have hlt3 := Nat.lt_of_lt_of_le hlt1 d1.size
    clear hown c0 e0
    go_wp2_with (refine at_slot 11 rfl ?_; refine load_row rfl 25 _ rfl (w.heap.size + 1) rfl S2 Tryz.underlying25 rfl (by rw [HD.out]; exact infoHost) ?_)
    refine (H2.out _).mono ?_
    rintro e v2 ⟨v, rfl, hown, d2⟩
    have hv : ∃ A c, v = .slice A M c := by
      rcases hown.2 with ⟨rfl, h0⟩ | ⟨g, cap, cur, rfl, _⟩
      · exact ⟨none, 0, by rw [h0]⟩
      · exact ⟨_, _, rfl⟩
    obtain ⟨A2, cp2, rfl⟩ := hv
    have c2 := (d2.cell (p := ⟨w.heap.size, 1, none⟩) hlt2).trans c1
    have e2 := (d2.cell (p := ⟨w.heap.size + 1, 1, none⟩) hlt3).trans e1
    have C2 := C1.trans (d2.mono C1.size)
    clear hown c1 e1 d1 d2 C1 S2 C0 R0 R1 S0 SX
    go_wp2
    go_ret
    exact ⟨rfl, C2⟩
end Go.Proofs.YtkajddopjflniaaGreatDoor
