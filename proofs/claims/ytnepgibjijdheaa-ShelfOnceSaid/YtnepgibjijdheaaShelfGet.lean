/- The walk of a shelf's Get. -/
import Derived.Test.YtnepgibjijdheaaShelfAt
namespace Go.Proofs.Ytnepgibjijdheaa
open Go.RowKit Go.Maps
set_option maxRecDepth 100000 in
set_option maxHeartbeats 4000000 in
theorem getShelf_calls (c : Ma.Cookie) (hc : PlaceOk c) {sb mb : Nat} {s : Sh.Shelf} (w : World) (h : ShelfAt w sb mb s) :
    Calls Try.prog 13 #[.pointer (some ⟨sb, 0, none⟩), .agg (cookieA c)] w fun e w' => e = .returned (.tuple #[.agg (cookieA ((Sh.seek s c).getD Sh.zeroK).c), .bool (Sh.seek s c).isSome]) ∧ Below w.heap.size w w' := by
  have z0 := zeroPlace
  have z1 := zeroKept
  have ha := hc.host.addr
  have HPL := Lib.hid (fun W => placeOfS_calls c ha W)
  have HC := Lib.hid (show (Try.prog.info? 34).map (·.size) = some (cookieA c).size by rw [cookieA_size c ha]; exact infoCookie)
  have HP := Lib.hid (show (Try.prog.info? 72).map (·.size) = some (placeA c).size by rw [placeA_size c ha]; exact infoPlaceS)
  have HPZ := Lib.hid (show (placeA Ma.zero).size = (placeA c).size by rw [placeA_size c ha]; rfl)
  have HP1 := Lib.hid (placeA_one c)
  obtain ⟨X, hX⟩ : ∃ X, keptA ((Sh.seek s c).getD Sh.zeroK) = X := ⟨_, rfl⟩
  have HX := Lib.hid (show (Try.prog.info? 75).map (·.size) = some X.size by rw [← hX, keptA_size _ (h.seek_addr c)]; exact infoKept)
  have HXZ := Lib.hid (show (keptA Sh.zeroK).size = X.size by rw [← hX, keptA_size _ (h.seek_addr c)]; rfl)
  have HX1 := Lib.hid (show X.all (·.oneCell') = true by rw [← hX]; exact keptA_one _)
  have z2 := zeroCookie
  have hka := h.seek_addr c
  obtain ⟨b, hb⟩ : ∃ b, (Sh.seek s c).isSome = b := ⟨_, rfl⟩
  have HL := Lib.hid (fun W (hW : ShelfAt W sb mb s) => by have := hW.look hc; rw [hX, hb] at this; exact this)
  rw [hb]
  obtain ⟨Y, hY⟩ : ∃ Y, cookieA ((Sh.seek s c).getD Sh.zeroK).c = Y := ⟨_, rfl⟩
  have HX29 := Lib.hid (show 0 + 29 ≤ X.size by rw [← hX, keptA_size _ hka]; decide)
  have HXY := Lib.hid (show X.extract 0 (0 + 29) = Y by rw [← hX, ← hY]; exact keptA_cookie _ hka)
  have HY := Lib.hid (show (Try.prog.info? 34).map (·.size) = some Y.size by rw [← hY, cookieA_size _ hka]; exact infoCookie)
  have HYZ := Lib.hid (show (cookieA Ma.zeroC).size = Y.size by rw [← hY, cookieA_size _ hka]; rfl)
  have HY1 := Lib.hid (show Y.all (·.oneCell') = true by rw [← hY]; exact cookieA_one _)
  rw [hY]
  clear hb hX hY hka HPZ HP1 HP
  have R0 := Row.new w 34 (cookieA c)
  have C0 := (Below.refl w.heap.size w).alloc (Nat.le_refl _) (.cells (cookieA c) 34)
  have hN : (w.alloc (.cells (cookieA c) 34)).heap.size = w.heap.size + 1 := by simp
  have T1 := Row.new (w.alloc (.cells (cookieA c) 34)) 34 (cookieA Ma.zeroC)
  rw [hN] at T1
  have R1 := R0.alloc (.cells (cookieA Ma.zeroC) 34)
  have C1 := C0.alloc C0.size (.cells (cookieA Ma.zeroC) 34)
  have H1 := h.stays C1
  clear R0 C0 hN
  go_enter Try.func13, Try.ntmps13
  go_wp2_with fail
  generalize (w.alloc (.cells (cookieA c) 34)).alloc (.cells (cookieA Ma.zeroC) 34) = x1 at *
  have AT := Lib.hid (fun W (hW : Below x1.heap.size x1 W) => T1.stays hW)
  have AH := Lib.hid (fun W (hW : Below x1.heap.size x1 W) => H1.stays hW)
  have AR := Lib.hid (fun W (hW : Below x1.heap.size x1 W) => R1.stays hW)
  have AK := Lib.hid (show True from trivial)
  clear T1 H1 R1
  refine wp_region_held_drew (S := (fun W => Below x1.heap.size x1 W)) (by kernel_rfl) (Below.refl _ _).drew (fun hS => ?_)
  generalize x1.drew = u0 at *
  refine wpAnyH_take (i := 0) (v := ?_) rfl (by kernel_rfl) (by kernel_rfl) (by kernel_rfl) (fun _ _ _ h => h) (Or.inl ⟨by rfl, ?_⟩) (by assumption) ?_
  rotate_left
  · intro _ _; go_simp; with_reducible rfl
  simp only [Act.put, List.setIfInBounds_toArray, List.set_cons_zero, List.set_cons_succ, List.getElem_toArray, List.getElem_cons_zero]
  refine wpAnyH_take (i := 1) (v := ?_) rfl (by kernel_rfl) (by kernel_rfl) (by kernel_rfl) (fun _ _ _ h => h) (Or.inl ⟨by rfl, ?_⟩) (by assumption) ?_
  rotate_left
  · intro _ _; go_simp; with_reducible rfl
  simp only [Act.put, List.setIfInBounds_toArray, List.set_cons_zero, List.set_cons_succ, List.getElem_toArray, List.getElem_cons_zero, List.getElem_cons_succ]
  refine wpAnyH_take (i := 2) (v := ?_) rfl (by kernel_rfl) (by kernel_rfl) (by kernel_rfl) (fun _ _ _ h => h) (Or.inl ⟨by rfl, ?_⟩) (by assumption) ?_
  rotate_left
  · intro _ _; go_simp; with_reducible rfl
  simp only [Act.put, List.setIfInBounds_toArray, List.set_cons_zero, List.set_cons_succ, List.getElem_toArray, List.getElem_cons_zero, List.getElem_cons_succ]
  refine wpAnyH_take (i := 3) (v := .map (some mb)) rfl (by kernel_rfl) (by kernel_rfl) (by kernel_rfl) (fun _ _ _ h => h) (Or.inl ⟨by rfl, fun wq hC => by have hcell := (AH.out wq hC).cell0; go_simp; try with_reducible rfl⟩) (by assumption) ?_
  simp only [Act.put, List.setIfInBounds_toArray, List.set_cons_zero, List.set_cons_succ, List.getElem_toArray, List.getElem_cons_zero, List.getElem_cons_succ]
  refine wpAnyH_take (i := 4) rfl (by kernel_rfl) (by kernel_rfl) (by kernel_rfl) (fun _ _ _ h => h) (yields_row (by rfl) _ _ rfl _ rfl AR.out Try.underlying34 rfl HC.out) (by assumption) ?_
  simp only [Act.put, List.setIfInBounds_toArray, List.set_cons_zero, List.set_cons_succ, List.getElem_toArray, List.getElem_cons_zero, List.getElem_cons_succ]
  refine wpAnyH_ready (rs := [5, 10]) (by kernel_rfl) (by simp) (AllReadyH.cons rfl (fun K hK => ?_) (AllReadyH.cons rfl (fun K hK => ?_) AllReadyH.nil))
  · rw [if_pos (by rfl)]
    go_simp
    refine (HPL.out u0).mono ?_
    rintro e x3 ⟨rfl, d3⟩
    have S1 := Below.trans hS (d3.mono (Below.size hS))
    go_wp2_with fail
    refine hK.out _ _ S1 (fun _ => ?_)
    clear hK K
    refine wpAnyH_take (i := 6) (v := .tuple #[.agg X, .bool b]) rfl (by kernel_rfl) (by kernel_rfl) (by kernel_rfl) (fun _ _ _ h => h) (Or.inl ⟨by rfl, fun wq hC => by have hcell := HL.out wq (AH.out wq hC); go_simp; try with_reducible rfl⟩) (by assumption) ?_
    simp only [Act.put, List.setIfInBounds_toArray, List.set_cons_zero, List.set_cons_succ, List.getElem_toArray, List.getElem_cons_zero, List.getElem_cons_succ]
    refine wpAnyH_take (i := 7) (v := ?_) rfl (by kernel_rfl) (by kernel_rfl) (by kernel_rfl) (fun _ _ _ h => h) (Or.inl ⟨by rfl, ?_⟩) (by assumption) ?_
    rotate_left
    · intro _ _; go_simp; with_reducible rfl
    simp only [Act.put, List.setIfInBounds_toArray, List.set_cons_zero, List.set_cons_succ, List.getElem_toArray, List.getElem_cons_zero, List.getElem_cons_succ]
    refine wpAnyH_take (i := 8) (v := ?_) rfl (by kernel_rfl) (by kernel_rfl) (by kernel_rfl) (fun _ _ _ h => h) (Or.inl ⟨by rfl, ?_⟩) (by assumption) ?_
    rotate_left
    · intro _ _; go_simp; with_reducible rfl
    simp only [Act.put, List.setIfInBounds_toArray, List.set_cons_zero, List.set_cons_succ, List.getElem_toArray, List.getElem_cons_zero, List.getElem_cons_succ]
    refine wpAnyH_take (i := 9) (v := ?_) rfl (by kernel_rfl) (by kernel_rfl) (by kernel_rfl) (fun _ _ _ h => h) (Or.inl ⟨by rfl, ?_⟩) (by assumption) ?_
    rotate_left
    · intro _ _; go_simp; with_reducible rfl
    simp only [Act.put, List.setIfInBounds_toArray, List.set_cons_zero, List.set_cons_succ, List.getElem_toArray, List.getElem_cons_zero, List.getElem_cons_succ]
    have le0 := Below.size S1
    have Z3 := Row.new x3 75 (keptA Sh.zeroK)
    refine wpAnyH_ready (rs := [10]) (by kernel_rfl) (by simp) (AllReadyH.cons rfl (fun K hK => ?_) AllReadyH.nil)
    rw [if_pos (by rfl)]
    go_simp
    have S2 := Below.alloc S1 (Below.size S1) (.cells (keptA Sh.zeroK) 75)
    refine hK.out _ _ S2 (fun _ => ?_)
    clear hK K
    refine wpAnyH_ready (rs := [11]) (by kernel_rfl) (by simp) (AllReadyH.cons rfl (fun K hK => ?_) AllReadyH.nil)
    rw [if_pos (by rfl)]
    refine wp_store_row 75 _ _ rfl x3.heap.size X rfl rfl 75 _ Z3 HX.out HXZ.out HX1.out ?_
    have S3 := below_setRow (g := x3.heap.size) S2 (by first | exact Below.size S2 | (have := Below.size S2; simp at this; omega) | assumption | omega) X
    have Z4 := Row.whole Z3 X
    refine hK.out _ _ S3 (fun _ => ?_)
    clear hK K
    refine wpAnyH_take (i := 12) (v := ?_) rfl (by kernel_rfl) (by kernel_rfl) (by kernel_rfl) (fun _ _ _ h => h) (Or.inl ⟨by rfl, ?_⟩) (by assumption) ?_
    rotate_left
    · intro _ _; go_simp; with_reducible rfl
    simp only [Act.put, List.setIfInBounds_toArray, List.set_cons_zero, List.set_cons_succ, List.getElem_toArray, List.getElem_cons_zero, List.getElem_cons_succ]
    refine wpAnyH_done (by kernel_rfl) ?_ _
    have C3 := C1.trans (S3.mono C1.size)
    have T3 := AT.out _ S3
    have hT3 := T3.lt
    clear AT AH AK AR HL
    generalize (x3.alloc (.cells (keptA Sh.zeroK) 75)).setRow x3.heap.size X = x4 at *
    generalize x3.heap.size = g3 at *
    go_wp2_with (first
      | (refine at_slot 19 rfl ?_; refine load_part rfl 34 _ rfl g3 0 29 rfl Z4 Try.underlying34 rfl infoCookie HX29.out Y HXY.out ?_)
      | (refine wpList_store_row rfl 34 _ _ rfl (w.heap.size + 1) Y rfl rfl 34 _ T3 HY.out HYZ.out HY1.out ?_))
    exact bodyPost_ret (v := .tuple #[.agg Y, .bool b]) (results_cell_two rfl _ _ (w.heap.size + 1) _ _ _ rfl _ rfl (T3.whole _) Try.underlying34 rfl HY.out) rfl ⟨rfl, below_setRow C3 (Nat.le_succ _) _⟩
  · have le0 := Below.size hS
    have Z3 := Row.new u0 75 (keptA Sh.zeroK)
    rw [if_pos (by rfl)]
    go_simp
    have S1 := Below.alloc hS (Below.size hS) (.cells (keptA Sh.zeroK) 75)
    refine hK.out _ _ S1 (fun _ => ?_)
    clear hK K
    generalize u0.alloc (.cells (keptA Sh.zeroK) 75) = u1 at *
    generalize u0.heap.size = g1 at *
    refine wpAnyH_ready (rs := [5]) (by kernel_rfl) (by simp) (AllReadyH.cons rfl (fun K hK => ?_) AllReadyH.nil)
    rw [if_pos (by rfl)]
    go_simp
    refine (HPL.out u1).mono ?_
    rintro e x3 ⟨rfl, d3⟩
    have S2 := Below.trans S1 (d3.mono (Below.size S1))
    go_wp2_with fail
    refine hK.out _ _ S2 (fun _ => ?_)
    clear hK K
    have Z5 := Z3.stays d3
    refine wpAnyH_take (i := 6) (v := .tuple #[.agg X, .bool b]) rfl (by kernel_rfl) (by kernel_rfl) (by kernel_rfl) (fun _ _ _ h => h) (Or.inl ⟨by rfl, fun wq hC => by have hcell := HL.out wq (AH.out wq hC); go_simp; try with_reducible rfl⟩) (by assumption) ?_
    simp only [Act.put, List.setIfInBounds_toArray, List.set_cons_zero, List.set_cons_succ, List.getElem_toArray, List.getElem_cons_zero, List.getElem_cons_succ]
    refine wpAnyH_take (i := 7) (v := ?_) rfl (by kernel_rfl) (by kernel_rfl) (by kernel_rfl) (fun _ _ _ h => h) (Or.inl ⟨by rfl, ?_⟩) (by assumption) ?_
    rotate_left
    · intro _ _; go_simp; with_reducible rfl
    simp only [Act.put, List.setIfInBounds_toArray, List.set_cons_zero, List.set_cons_succ, List.getElem_toArray, List.getElem_cons_zero, List.getElem_cons_succ]
    refine wpAnyH_take (i := 8) (v := ?_) rfl (by kernel_rfl) (by kernel_rfl) (by kernel_rfl) (fun _ _ _ h => h) (Or.inl ⟨by rfl, ?_⟩) (by assumption) ?_
    rotate_left
    · intro _ _; go_simp; with_reducible rfl
    simp only [Act.put, List.setIfInBounds_toArray, List.set_cons_zero, List.set_cons_succ, List.getElem_toArray, List.getElem_cons_zero, List.getElem_cons_succ]
    refine wpAnyH_take (i := 9) (v := ?_) rfl (by kernel_rfl) (by kernel_rfl) (by kernel_rfl) (fun _ _ _ h => h) (Or.inl ⟨by rfl, ?_⟩) (by assumption) ?_
    rotate_left
    · intro _ _; go_simp; with_reducible rfl
    simp only [Act.put, List.setIfInBounds_toArray, List.set_cons_zero, List.set_cons_succ, List.getElem_toArray, List.getElem_cons_zero, List.getElem_cons_succ]
    refine wpAnyH_ready (rs := [11]) (by kernel_rfl) (by simp) (AllReadyH.cons rfl (fun K hK => ?_) AllReadyH.nil)
    rw [if_pos (by rfl)]
    refine wp_store_row 75 _ _ rfl g1 X rfl rfl 75 _ Z5 HX.out HXZ.out HX1.out ?_
    have S3 := below_setRow (g := g1) S2 (by first | exact Below.size S2 | (have := Below.size S2; simp at this; omega) | assumption | omega) X
    have Z4 := Row.whole Z5 X
    refine hK.out _ _ S3 (fun _ => ?_)
    clear hK K
    refine wpAnyH_take (i := 12) (v := ?_) rfl (by kernel_rfl) (by kernel_rfl) (by kernel_rfl) (fun _ _ _ h => h) (Or.inl ⟨by rfl, ?_⟩) (by assumption) ?_
    rotate_left
    · intro _ _; go_simp; with_reducible rfl
    simp only [Act.put, List.setIfInBounds_toArray, List.set_cons_zero, List.set_cons_succ, List.getElem_toArray, List.getElem_cons_zero, List.getElem_cons_succ]
    refine wpAnyH_done (by kernel_rfl) ?_ _
    have C3 := C1.trans (S3.mono C1.size)
    have T3 := AT.out _ S3
    have hT3 := T3.lt
    clear AT AH AK AR HL
    generalize (x3).setRow g1 X = x4 at *
    generalize g1 = g3 at *
    go_wp2_with (first
      | (refine at_slot 19 rfl ?_; refine load_part rfl 34 _ rfl g3 0 29 rfl Z4 Try.underlying34 rfl infoCookie HX29.out Y HXY.out ?_)
      | (refine wpList_store_row rfl 34 _ _ rfl (w.heap.size + 1) Y rfl rfl 34 _ T3 HY.out HYZ.out HY1.out ?_))
    exact bodyPost_ret (v := .tuple #[.agg Y, .bool b]) (results_cell_two rfl _ _ (w.heap.size + 1) _ _ _ rfl _ rfl (T3.whole _) Try.underlying34 rfl HY.out) rfl ⟨rfl, below_setRow C3 (Nat.le_succ _) _⟩
end Go.Proofs.Ytnepgibjijdheaa
