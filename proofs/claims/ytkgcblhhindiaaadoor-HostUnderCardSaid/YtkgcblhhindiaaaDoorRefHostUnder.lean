/- The walks of the reference's Text (of names), Right, Labels and Under. -/
import Derived.Test.YtkgcblhhindiaaaDoorHostUnder
import Derived.Test.YtkgcblhhindiaaaDoorRefHostParse
namespace Go.Proofs.YtkgcblhhindiaaaDoor
open Go.RowKit
set_option maxHeartbeats 1000000 in
theorem refText1_calls (h : Hst.Host) (hk : h.kind = 1) (t : ByteArray) (ht : t = ⟨h.name.toArray⟩) (w : World) :
    Calls Tryd.prog 57 #[.agg (hostA h)] w fun e w' => e = .returned (.string t) ∧ Below w.heap.size w w' := by
  have R := Row.new w 25 (hostA h)
  have c0 : (w.alloc (.cells (hostA h) 25)).cell? ⟨w.heap.size, 0, none⟩ = some (.int .i64 1) := by rw [R.cell, hostA_kind, hk]
  have c1 : (w.alloc (.cells (hostA h) 25)).cell? ⟨w.heap.size, 1, none⟩ = some (.string t) := by rw [R.cell, hostA_name, ht]; rfl
  have B := (Below.refl w.heap.size w).alloc (Nat.le_refl _) (.cells (hostA h) 25)
  have HB := Lib.hid B
  clear B R ht
  go_enter Tryd.func57, Tryd.ntmps57
  generalize hostA h = H at *
  go_wp2
  go_ret
  exact ⟨rfl, HB.out⟩
set_option maxRecDepth 100000 in
set_option maxHeartbeats 4000000 in
theorem refRight1_calls (h : Hst.Host) (hk : h.kind = 1) (ha : h.addr.length = 16) (hs : h.name.length ≤ 600) (w : World) :
    Calls Tryd.prog 42 #[.agg (hostA h)] w fun e w' => e = .returned (.bool (Hst.right h)) ∧ Below w.heap.size w w' := by
  have z0 := zeroHost
  obtain ⟨t, ht⟩ : ∃ t : ByteArray, t = ⟨h.name.toArray⟩ := ⟨_, rfl⟩
  have H1 := Lib.hid (fun W => refText1_calls h hk t ht W)
  have htl : t.data.toList = h.name := by rw [ht]
  have hts : t.size = h.name.length := by rw [← htl, Oct.length_bytes]
  have H2 := Lib.hid (fun W => (refParse_calls t W (by omega)).mono fun e w' h => newHost_is h)
  rw [htl] at H2
  have hx := Hst.parse_length h.name
  have HR : Hid (Hst.right h = decide (Hst.parse h.name = some h)) := Lib.hid rfl
  have HZ0 := Lib.hid (show (hostA Hst.zero).size = 18 from rfl)
  have HH := Lib.hid (hostA_size h ha)
  cases ho : Hst.parse h.name with
  | none =>
    rw [ho] at H2 HR
    have HR2 : Hid (Hst.right h = false) := Lib.hid (by rw [HR.out]; rfl)
    have e1 : Hst.host none = Hst.zero := rfl
    have e2 : Hst.code none = 31 := rfl
    rw [e1, e2] at H2
    clear ho hx hts htl ht HR e1 e2
    rw [HR2.out]
    generalize hostA h = H at *
    have R0 := Row.new w 25 H
    have B0 := (Below.refl w.heap.size w).alloc (Nat.le_refl _) (.cells H 25)
    go_enter Tryd.func42, Tryd.ntmps42
    go_wp2_with (refine at_slot 6 rfl ?_; refine load_row rfl 25 _ rfl w.heap.size rfl R0 Tryd.underlying25 rfl (by rw [HH.out]; exact infoHost) ?_)
    generalize w.alloc (.cells H 25) = w0 at *
    refine (H1.out _).mono ?_
    rintro e v1 ⟨rfl, d1⟩
    have B1 := B0.trans (d1.mono B0.size)
    go_wp2_with fail
    refine (H2.out _).mono ?_
    rintro e v2 ⟨rfl, d2⟩
    have B2 := B1.trans (d2.mono B1.size)
    obtain ⟨T, U, C, L⟩ := lay_row 25 (hostA Hst.zero) (hostA Hst.zero) B2 B2.size
    clear B0 B1 B2 d1 d2 R0 L
    go_wp2_with (first
      | (refine wpList_store_row rfl 25 _ _ rfl v2.heap.size (hostA Hst.zero) rfl rfl 25 _ T (by rw [HZ0.out]; exact infoHost) rfl (hostA_one _) ?_))
    go_ret
    exact ⟨rfl, C⟩
  | some g =>
    rw [ho] at H2 HR hx
    have hx : g.addr.length = 16 := hx
    have HR2 : Hid (Hst.right h = decide (g = h)) := Lib.hid (by rw [HR.out, decide_eq_decide]; exact ⟨fun e => Option.some.inj e, fun e => by rw [e]⟩)
    have e1 : Hst.host (some g) = g := rfl
    have e2 : Hst.code (some g) = 0 := rfl
    rw [e1, e2] at H2
    have q := eql_host g h hx ha
    have HG := Lib.hid (hostA_size g hx)
    have HG1 := Lib.hid (hostA_one g)
    clear ho hx hts htl ht HR e1 e2
    rw [HR2.out]
    generalize hostA h = H at *
    generalize hostA g = G at *
    generalize decide (g = h) = b at *
    have R0 := Row.new w 25 H
    have B0 := (Below.refl w.heap.size w).alloc (Nat.le_refl _) (.cells H 25)
    go_enter Tryd.func42, Tryd.ntmps42
    go_wp2_with (refine at_slot 6 rfl ?_; refine load_row rfl 25 _ rfl w.heap.size rfl R0 Tryd.underlying25 rfl (by rw [HH.out]; exact infoHost) ?_)
    generalize w.alloc (.cells H 25) = w0 at *
    refine (H1.out _).mono ?_
    rintro e v1 ⟨rfl, d1⟩
    have B1 := B0.trans (d1.mono B0.size)
    have R1 := R0.stays d1
    go_wp2_with fail
    refine (H2.out _).mono ?_
    rintro e v2 ⟨rfl, d2⟩
    have R2 := R1.stays d2
    have B2 := B1.trans (d2.mono B1.size)
    obtain ⟨T, U, C, L⟩ := lay_row 25 (hostA Hst.zero) G B2 B2.size
    have R3 := L _ _ _ R2
    clear B0 B1 B2 d1 d2 R0 R1 R2 L
    go_wp2_with (first
      | (refine wpList_store_row rfl 25 _ _ rfl v2.heap.size G rfl rfl 25 _ T (by rw [HG.out]; exact infoHost) (by rw [HG.out]; rfl) HG1.out ?_)
      | (refine at_slot 14 rfl ?_; refine load_row rfl 25 _ rfl v2.heap.size rfl U Tryd.underlying25 rfl (by rw [HG.out]; exact infoHost) ?_)
      | (refine at_slot 15 rfl ?_; refine load_row rfl 25 _ rfl w.heap.size rfl R3 Tryd.underlying25 rfl (by rw [HH.out]; exact infoHost) ?_))
    go_ret
    exact ⟨rfl, C⟩
set_option maxRecDepth 100000 in
set_option maxHeartbeats 2000000 in
theorem refLabels_calls (h : Hst.Host) (ha : h.addr.length = 16) (hs : h.name.length ≤ 600) (w : World) :
    Calls Tryd.prog 27 #[.agg (hostA h)] w (NewTexts w.heap.size (Hst.labels h) w) := by
  have HH := Lib.hid (hostA_size h ha)
  obtain ⟨t, ht⟩ : ∃ t : ByteArray, t = ⟨h.name.toArray⟩ := ⟨_, rfl⟩
  have R0 := Row.new w 25 (hostA h)
  have c0 : (w.alloc (.cells (hostA h) 25)).cell? ⟨w.heap.size, 0, none⟩ = some (.int .i64 h.kind) := by rw [R0.cell, hostA_kind]
  have c1 : (w.alloc (.cells (hostA h) 25)).cell? ⟨w.heap.size, 1, none⟩ = some (.string t) := by rw [R0.cell, hostA_name, ht]; rfl
  have B0 := (Below.refl w.heap.size w).alloc (Nat.le_refl _) (.cells (hostA h) 25)
  by_cases hk : h.kind = 1
  · have htl : t.data.toList = h.name := by rw [ht]
    have hts : t.size = h.name.length := by rw [← htl, Oct.length_bytes]
    have H1 := Lib.hid (fun W => refRight1_calls h hk ha hs W)
    have H2 : ∀ W, Calls Tryd.prog 23 #[.string t, .int .u8 46] W (NewTexts W.heap.size (Oct.split 46 h.name) W) := fun W => by
      have := refSplit_calls t 46 W (by omega)
      rw [htl] at this
      exact this
    have H2 := Lib.hid H2
    rw [hk] at c0
    cases hr : Hst.right h with
    | false =>
      rw [hr] at H1
      have HL : Hid (Hst.labels h = []) := Lib.hid (by unfold Hst.labels; rw [if_neg (fun k => by rw [hr] at k; simp at k)])
      rw [HL.out]
      generalize hostA h = H at *
      clear hr htl hts ht hk ha HL
      go_enter Tryd.func27, Tryd.ntmps27
      go_wp2_with (refine at_slot 7 rfl ?_; refine load_row rfl 25 _ rfl w.heap.size rfl R0 Tryd.underlying25 rfl (by rw [HH.out]; exact infoHost) ?_)
      generalize w.alloc (.cells H 25) = w0 at *
      refine (H1.out _).mono ?_
      rintro e v1 ⟨rfl, d1⟩
      have B1 := B0.trans (d1.mono B0.size)
      go_wp2
      go_ret
      exact ⟨_, rfl, World.ownsRow_nil _ _ _ _, B1⟩
    | true =>
      rw [hr] at H1
      have HL : Hid (Hst.labels h = Oct.split 46 h.name) := Lib.hid (by unfold Hst.labels; rw [if_pos ⟨hk, hr⟩])
      rw [HL.out]
      generalize Oct.split 46 h.name = ps at *
      generalize hostA h = H at *
      clear hr htl hts ht hk ha HL
      go_enter Tryd.func27, Tryd.ntmps27
      go_wp2_with (refine at_slot 7 rfl ?_; refine load_row rfl 25 _ rfl w.heap.size rfl R0 Tryd.underlying25 rfl (by rw [HH.out]; exact infoHost) ?_)
      have hlt := R0.lt
      generalize w.alloc (.cells H 25) = w0 at *
      refine (H1.out _).mono ?_
      rintro e v1 ⟨rfl, d1⟩
      have B1 := B0.trans (d1.mono B0.size)
      have c2 := (d1.cell (p := ⟨w.heap.size, 1, none⟩) hlt).trans c1
      clear c0 c1 d1 R0 B0
      go_wp2_with fail
      refine (H2.out _).mono ?_
      rintro e v2 ⟨v, rfl, hown, d2⟩
      have B2 := B1.trans (d2.mono B1.size)
      have HO := Lib.hid (own_base hown B1.size)
      clear hown
      go_wp2
      go_ret
      exact ⟨_, rfl, HO.out, B2⟩
  · have HL : Hid (Hst.labels h = []) := Lib.hid (by unfold Hst.labels; rw [if_neg (fun k => hk k.1)])
    rw [HL.out]
    generalize hostA h = H at *
    generalize h.kind = k at *
    clear HL ha
    go_enter Tryd.func27, Tryd.ntmps27
    go_wp2
    go_ret
    exact ⟨_, rfl, World.ownsRow_nil _ _ _ _, B0⟩
set_option maxRecDepth 100000 in
set_option maxHeartbeats 4000000 in
theorem refUnder_calls (h d : Hst.Host) (ha : h.addr.length = 16) (hda : d.addr.length = 16) (hs : h.name.length ≤ 600) (hds : d.name.length ≤ 600) (w : World) :
    Calls Tryd.prog 11 #[.agg (hostA h), .agg (hostA d)] w fun e w' => e = .returned (.bool (Hst.refUnder h d)) ∧ Below w.heap.size w w' := by
  have HH := Lib.hid (hostA_size h ha)
  have HD := Lib.hid (hostA_size d hda)
  have H1 := Lib.hid (fun W => refLabels_calls h ha hs W)
  have H2 := Lib.hid (fun W => refLabels_calls d hda hds W)
  have hll := Hst.labels_length h
  have hlm := Hst.labels_length d
  obtain ⟨th, hth⟩ : ∃ t : ByteArray, t = ⟨h.name.toArray⟩ := ⟨_, rfl⟩
  obtain ⟨td, htd⟩ : ∃ t : ByteArray, t = ⟨d.name.toArray⟩ := ⟨_, rfl⟩
  obtain ⟨E, hE⟩ : ∃ E : ByteArray, (⟨#[46]⟩ : ByteArray) ++ td = E := ⟨_, rfl⟩
  have hthl : th.data.toList = h.name := by rw [hth]
  have htdl : td.data.toList = d.name := by rw [htd]
  have hths : th.size = h.name.length := by rw [← hthl, Oct.length_bytes]
  have htds : td.size = d.name.length := by rw [← htdl, Oct.length_bytes]
  have hEl : E.data.toList = 46 :: d.name := by rw [← hE, ByteArray.data_append, Array.toList_append, htdl]; rfl
  have hEs : E.size = d.name.length + 1 := by rw [← Oct.length_bytes, hEl]; rfl
  have HU : Hid (Hst.refUnder h d = (decide (Hst.labels h ≠ [] ∧ Hst.labels d ≠ []) && (decide (d.name.length + 1 < h.name.length) && decide (h.name.drop (h.name.length - (d.name.length + 1)) = 46 :: d.name)))) := Lib.hid rfl
  obtain ⟨b, hb⟩ : ∃ b, decide (h.name.drop (h.name.length - (d.name.length + 1)) = 46 :: d.name) = b := ⟨_, rfl⟩
  have heq : ((th.extract (th.size - E.size) th.size).toList == E.toList) = b := by
    rw [← hb, Oct.bytes_data, Oct.bytes_data, hEl, Lib.extract_eq]
    show (((th.data.toList.drop (th.size - E.size)).take (th.size - (th.size - E.size))) == 46 :: d.name) = _
    rw [List.take_of_length_le (by rw [List.length_drop, Oct.length_bytes]; exact Nat.le_refl _), hthl, hths, hEs, Bool.eq_iff_iff, beq_iff_eq, decide_eq_true_eq]
  rw [hb] at HU
  have R0 := Row.new w 25 (hostA h)
  have hN : (w.alloc (.cells (hostA h) 25)).heap.size = w.heap.size + 1 := by simp
  have S0 := Row.new (w.alloc (.cells (hostA h) 25)) 25 (hostA d)
  rw [hN] at S0
  have R1 := R0.alloc (.cells (hostA d) 25)
  have C0 := ((Below.refl w.heap.size w).alloc (Nat.le_refl _) (.cells (hostA h) 25)).alloc (by omega) (.cells (hostA d) 25)
  have SX := S0
  have c0 : ((w.alloc (.cells (hostA h) 25)).alloc (.cells (hostA d) 25)).cell? ⟨w.heap.size, 1, none⟩ = some (.string th) := by rw [R1.cell, hostA_name, hth]; rfl
  have e0 : ((w.alloc (.cells (hostA h) 25)).alloc (.cells (hostA d) 25)).cell? ⟨w.heap.size + 1, 1, none⟩ = some (.string td) := by rw [S0.cell, hostA_name, htd]; rfl
  have hcase : Hst.labels h = [] ∨ (Hst.labels h ≠ [] ∧ Hst.labels d = []) ∨ (Hst.labels h ≠ [] ∧ Hst.labels d ≠ [] ∧ E.size < th.size) ∨ (Hst.labels h ≠ [] ∧ Hst.labels d ≠ [] ∧ ¬ E.size < th.size) := by
    by_cases k1 : Hst.labels h = []
    · exact .inl k1
    · by_cases k2 : Hst.labels d = []
      · exact .inr (.inl ⟨k1, k2⟩)
      · by_cases k3 : E.size < th.size
        · exact .inr (.inr (.inl ⟨k1, k2, k3⟩))
        · exact .inr (.inr (.inr ⟨k1, k2, k3⟩))
  unfold NewTexts at H1 H2
  rcases hcase with k1 | ⟨k1, k2⟩ | ⟨k1, k2, k3⟩ | ⟨k1, k2, k3⟩
  · have HV : Hid (Hst.refUnder h d = false) := Lib.hid (by rw [HU.out, k1]; rfl)
    rw [k1] at H1
    rw [HV.out]
    generalize hostA h = H at *
    generalize hostA d = D at *
    clear HU hb heq hE hEl hEs hth htd hthl htdl ha hda hs hds HV
    go_enter Tryd.func11, Tryd.ntmps11
    go_wp2_with (refine at_slot 6 rfl ?_; refine load_row rfl 25 _ rfl w.heap.size rfl R1 Tryd.underlying25 rfl (by rw [HH.out]; exact infoHost) ?_)
    generalize (w.alloc (.cells H 25)).alloc (.cells D 25) = x0 at *
    refine (H1.out _).mono ?_
    rintro e v1 ⟨v, rfl, hown, d1⟩
    have hv : ∃ A c, v = .slice A 0 c := by
      rcases hown.2 with ⟨rfl, h0⟩ | ⟨g, cap, cur, rfl, _⟩
      · exact ⟨none, 0, rfl⟩
      · exact ⟨_, _, rfl⟩
    obtain ⟨A, c, rfl⟩ := hv
    clear hown
    go_wp2
    go_ret
    exact ⟨rfl, C0.trans (d1.mono C0.size)⟩
  · have HV : Hid (Hst.refUnder h d = false) := Lib.hid (by rw [HU.out, decide_eq_false (fun k => k.2 k2)]; rfl)
    have hL : 0 < (Hst.labels h).length := List.length_pos_iff.2 k1
    rw [k2] at H2
    rw [HV.out]
    generalize Hst.labels h = ps at *
    generalize ps.length = L at *
    generalize hostA h = H at *
    generalize hostA d = D at *
    have hL0 : ((L : Int) == 0) = false := beq_eq_false_iff_ne.2 (by omega)
    clear HU hb heq hE hEl hEs hth htd hthl htdl ha hda hs hds HV
    go_enter Tryd.func11, Tryd.ntmps11
    go_wp2_with (refine at_slot 6 rfl ?_; refine load_row rfl 25 _ rfl w.heap.size rfl R1 Tryd.underlying25 rfl (by rw [HH.out]; exact infoHost) ?_)
    generalize (w.alloc (.cells H 25)).alloc (.cells D 25) = x0 at *
    refine (H1.out _).mono ?_
    rintro e v1 ⟨v, rfl, hown, d1⟩
    have hv : ∃ A c, v = .slice A L c := by
      rcases hown.2 with ⟨rfl, h0⟩ | ⟨g, cap, cur, rfl, _⟩
      · exact ⟨none, 0, by rw [h0]⟩
      · exact ⟨_, _, rfl⟩
    obtain ⟨A, c, rfl⟩ := hv
    have C1 := C0.trans (d1.mono C0.size)
    have S2 := SX.stays d1
    clear hown
    go_wp2_with (refine at_slot 11 rfl ?_; refine load_row rfl 25 _ rfl (w.heap.size + 1) rfl S2 Tryd.underlying25 rfl (by rw [HD.out]; exact infoHost) ?_)
    refine (H2.out _).mono ?_
    rintro e v2 ⟨v, rfl, hown, d2⟩
    have hv : ∃ A c, v = .slice A 0 c := by
      rcases hown.2 with ⟨rfl, h0⟩ | ⟨g, cap, cur, rfl, _⟩
      · exact ⟨none, 0, rfl⟩
      · exact ⟨_, _, rfl⟩
    obtain ⟨A2, c2, rfl⟩ := hv
    clear hown
    go_wp2
    go_ret
    exact ⟨rfl, C1.trans (d2.mono C1.size)⟩
  · have HV : Hid (Hst.refUnder h d = b) := Lib.hid (by rw [HU.out, decide_eq_true (show Hst.labels h ≠ [] ∧ Hst.labels d ≠ [] from ⟨k1, k2⟩), decide_eq_true (show d.name.length + 1 < h.name.length by omega)]; rfl)
    have hL : 0 < (Hst.labels h).length := List.length_pos_iff.2 k1
    have hM : 0 < (Hst.labels d).length := List.length_pos_iff.2 k2
    rw [HV.out]
    generalize Hst.labels h = ps at *
    generalize Hst.labels d = qs at *
    generalize ps.length = L at *
    generalize qs.length = M at *
    generalize hostA h = H at *
    generalize hostA d = D at *
    have hL0 : ((L : Int) == 0) = false := beq_eq_false_iff_ne.2 (by omega)
    have hM0 : ((M : Int) == 0) = false := beq_eq_false_iff_ne.2 (by omega)
    have hcat : ¬ 9223372036854775807 < (⟨#[46]⟩ : ByteArray).size + td.size := by
      show ¬ 9223372036854775807 < 1 + td.size
      omega
    have h46 : (⟨#[46]⟩ : ByteArray).size = 1 := rfl
    have hz : ((th.size : Int) - (E.size : Int)).toNat = th.size - E.size := by omega
    have k4 : (E.size : Int) < (th.size : Int) := by omega
    have HEQ := Lib.hid heq
    rw [hths, hEs] at HEQ
    clear heq
    have hlt0 := R1.lt
    have hlt1 := SX.lt
    clear HU hb hEl hth htd hthl htdl ha hda HV
    go_enter Tryd.func11, Tryd.ntmps11
    go_wp2_with (refine at_slot 6 rfl ?_; refine load_row rfl 25 _ rfl w.heap.size rfl R1 Tryd.underlying25 rfl (by rw [HH.out]; exact infoHost) ?_)
    generalize (w.alloc (.cells H 25)).alloc (.cells D 25) = x0 at *
    refine (H1.out _).mono ?_
    rintro e v1 ⟨v, rfl, hown, d1⟩
    have hv : ∃ A c, v = .slice A L c := by
      rcases hown.2 with ⟨rfl, h0⟩ | ⟨g, cap, cur, rfl, _⟩
      · exact ⟨none, 0, by rw [h0]⟩
      · exact ⟨_, _, rfl⟩
    obtain ⟨A, c, rfl⟩ := hv
    have C1 := C0.trans (d1.mono C0.size)
    have S2 := SX.stays d1
    have c1 := (d1.cell (p := ⟨w.heap.size, 1, none⟩) hlt0).trans c0
    have e1 := (d1.cell (p := ⟨w.heap.size + 1, 1, none⟩) hlt1).trans e0
    have hlt2 := Nat.lt_of_lt_of_le hlt0 d1.size
    have hlt3 := Nat.lt_of_lt_of_le hlt1 d1.size
    clear hown c0 e0
    go_wp2_with (refine at_slot 11 rfl ?_; refine load_row rfl 25 _ rfl (w.heap.size + 1) rfl S2 Tryd.underlying25 rfl (by rw [HD.out]; exact infoHost) ?_)
    refine (H2.out _).mono ?_
    rintro e v2 ⟨v, rfl, hown, d2⟩
    have hv : ∃ A c, v = .slice A M c := by
      rcases hown.2 with ⟨rfl, h0⟩ | ⟨g, cap, cur, rfl, _⟩
      · exact ⟨none, 0, by rw [h0]⟩
      · exact ⟨_, _, rfl⟩
    obtain ⟨A2, cp2, rfl⟩ := hv
    have c2 := (d2.cell (p := ⟨w.heap.size, 1, none⟩) hlt2).trans c1
    have e2 := (d2.cell (p := ⟨w.heap.size + 1, 1, none⟩) hlt3).trans e1
    have C2 := C1.trans (d2.mono C1.size)
    clear hown c1 e1 d1 d2 C1 S2 C0 R0 R1 S0 SX
    go_wp2
    go_ret
    exact ⟨ret_bool HEQ.out, C2⟩
  · have HV : Hid (Hst.refUnder h d = false) := Lib.hid (by rw [HU.out, decide_eq_true (show Hst.labels h ≠ [] ∧ Hst.labels d ≠ [] from ⟨k1, k2⟩), decide_eq_false (show ¬ d.name.length + 1 < h.name.length by omega)]; rfl)
    have hL : 0 < (Hst.labels h).length := List.length_pos_iff.2 k1
    have hM : 0 < (Hst.labels d).length := List.length_pos_iff.2 k2
    rw [HV.out]
    generalize Hst.labels h = ps at *
    generalize Hst.labels d = qs at *
    generalize ps.length = L at *
    generalize qs.length = M at *
    generalize hostA h = H at *
    generalize hostA d = D at *
    have hL0 : ((L : Int) == 0) = false := beq_eq_false_iff_ne.2 (by omega)
    have hM0 : ((M : Int) == 0) = false := beq_eq_false_iff_ne.2 (by omega)
    have hcat : ¬ 9223372036854775807 < (⟨#[46]⟩ : ByteArray).size + td.size := by
      show ¬ 9223372036854775807 < 1 + td.size
      omega
    have h46 : (⟨#[46]⟩ : ByteArray).size = 1 := rfl
    have k4 : ¬ (E.size : Int) < (th.size : Int) := by omega
    have hlt0 := R1.lt
    have hlt1 := SX.lt
    clear HU hb hEl hth htd hthl htdl ha hda HV
    go_enter Tryd.func11, Tryd.ntmps11
    go_wp2_with (refine at_slot 6 rfl ?_; refine load_row rfl 25 _ rfl w.heap.size rfl R1 Tryd.underlying25 rfl (by rw [HH.out]; exact infoHost) ?_)
    generalize (w.alloc (.cells H 25)).alloc (.cells D 25) = x0 at *
    refine (H1.out _).mono ?_
    rintro e v1 ⟨v, rfl, hown, d1⟩
    have hv : ∃ A c, v = .slice A L c := by
      rcases hown.2 with ⟨rfl, h0⟩ | ⟨g, cap, cur, rfl, _⟩
      · exact ⟨none, 0, by rw [h0]⟩
      · exact ⟨_, _, rfl⟩
    obtain ⟨A, c, rfl⟩ := hv
    have C1 := C0.trans (d1.mono C0.size)
    have S2 := SX.stays d1
    have c1 := (d1.cell (p := ⟨w.heap.size, 1, none⟩) hlt0).trans c0
    have e1 := (d1.cell (p := ⟨w.heap.size + 1, 1, none⟩) hlt1).trans e0
    have hlt2 := Nat.lt_of_lt_of_le hlt0 d1.size
    have hlt3 := Nat.lt_of_lt_of_le hlt1 d1.size
    clear hown c0 e0
    go_wp2_with (refine at_slot 11 rfl ?_; refine load_row rfl 25 _ rfl (w.heap.size + 1) rfl S2 Tryd.underlying25 rfl (by rw [HD.out]; exact infoHost) ?_)
    refine (H2.out _).mono ?_
    rintro e v2 ⟨v, rfl, hown, d2⟩
    have hv : ∃ A c, v = .slice A M c := by
      rcases hown.2 with ⟨rfl, h0⟩ | ⟨g, cap, cur, rfl, _⟩
      · exact ⟨none, 0, by rw [h0]⟩
      · exact ⟨_, _, rfl⟩
    obtain ⟨A2, cp2, rfl⟩ := hv
    have c2 := (d2.cell (p := ⟨w.heap.size, 1, none⟩) hlt2).trans c1
    have e2 := (d2.cell (p := ⟨w.heap.size + 1, 1, none⟩) hlt3).trans e1
    have C2 := C1.trans (d2.mono C1.size)
    clear hown c1 e1 d1 d2 C1 S2 C0 R0 R1 S0 SX
    go_wp2
    go_ret
    exact ⟨rfl, C2⟩
end Go.Proofs.YtkgcblhhindiaaaDoor
