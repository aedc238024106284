/- The walk of a shelf's Drop. -/
import Derived.Test.YtdfcnodlddeccaaShelfAt
namespace Go.Proofs.Ytdfcnodlddeccaa
open Go.RowKit Go.Maps
set_option maxRecDepth 100000 in
set_option maxHeartbeats 4000000 in
theorem dropShelf_calls (c : Ma.Cookie) (hc : PlaceOk c) {sb mb : Nat} {s : Sh.Shelf} (w : World) (h : ShelfAt w sb mb s) :
    Calls Try.prog 11 #[.pointer (some ⟨sb, 0, none⟩), .agg (cookieA c)] w fun e w' => e = .returned (.bool (Sh.drop s c).2) ∧ ShelfAt w' sb mb (Sh.drop s c).1 ∧ Turn2 sb mb w w' := by
  have z0 := zeroPlace
  have z1 := zeroKept
  have ha := hc.host.addr
  have HPL := Lib.hid (fun W => placeOfS_calls c ha W)
  have HC := Lib.hid (show (Try.prog.info? 34).map (·.size) = some (cookieA c).size by rw [cookieA_size c ha]; exact infoCookie)
  have HP := Lib.hid (show (Try.prog.info? 72).map (·.size) = some (placeA c).size by rw [placeA_size c ha]; exact infoPlaceS)
  have HPZ := Lib.hid (show (placeA Ma.zero).size = (placeA c).size by rw [placeA_size c ha]; rfl)
  have HP1 := Lib.hid (placeA_one c)
  obtain ⟨X, hX⟩ : ∃ X, keptA ((Sh.seek s c).getD Sh.zeroK) = X := ⟨_, rfl⟩
  have HX := Lib.hid (show (Try.prog.info? 75).map (·.size) = some X.size by rw [← hX, keptA_size _ (h.seek_addr c)]; exact infoKept)
  have HXZ := Lib.hid (show (keptA Sh.zeroK).size = X.size by rw [← hX, keptA_size _ (h.seek_addr c)]; rfl)
  have HX1 := Lib.hid (show X.all (·.oneCell') = true by rw [← hX]; exact keptA_one _)
  have hp := Sh.drop_perm h.well c
  have HW := Lib.hid (Sh.well_drop h.well c)
  obtain ⟨t, ht⟩ : ∃ t, (Sh.drop s c).1 = t := ⟨_, rfl⟩
  have hb : (Sh.seek s c).isSome = (Sh.drop s c).2 := hp.2.2.symm
  obtain ⟨b, hb2⟩ : ∃ b, (Sh.drop s c).2 = b := ⟨_, rfl⟩
  rw [ht] at hp HW
  rw [hb2] at hb
  have HL := Lib.hid (fun W (hW : ShelfAt W sb mb s) => by have := hW.look hc; rw [hX, hb] at this; exact this)
  rw [ht, hb2]
  have HPM := Lib.hid hp.1
  have HLA := Lib.hid hp.2.1
  clear hb hb2 ht hX hp
  have R0 := Row.new w 34 (cookieA c)
  have C0 := (Below.refl w.heap.size w).alloc (Nat.le_refl _) (.cells (cookieA c) 34)
  go_enter Try.func11, Try.ntmps11
  go_wp2_with (refine at_slot 8 rfl ?_; refine load_row rfl 34 _ rfl w.heap.size rfl R0 Try.underlying34 rfl HC.out ?_)
  generalize w.alloc (.cells (cookieA c) 34) = x0 at *
  refine (HPL.out _).mono ?_
  rintro e x1 ⟨rfl, d1⟩
  have C1 := C0.trans (d1.mono C0.size)
  have K1 := R0.stays d1
  obtain ⟨Z1, P2, C2, L2⟩ := lay_row 72 (placeA Ma.zero) (placeA c) C1 C1.size
  have K2 := L2 _ _ _ K1
  have K1lt := K1.lt
  clear L2 d1 C0 R0 K1
  go_wp2_with (refine wpList_store_row rfl 72 _ _ rfl x1.heap.size (placeA c) rfl rfl 72 _ Z1 HP.out HPZ.out HP1.out ?_)
  have hgw1 : x1.heap.size ≠ w.heap.size := by have := K1lt; omega
  have hg1 := P2.lt
  have hw1 := C1.size
  generalize (x1.alloc (.cells (placeA Ma.zero) 72)).setRow x1.heap.size (placeA c) = x2 at *
  generalize x1.heap.size = g1 at *
  have H2 := h.stays C2
  clear Z1 C1
  have AP := Lib.hid (fun W (hW : Below x2.heap.size x2 W) => P2.stays hW)
  have AH := Lib.hid (fun W (hW : Below x2.heap.size x2 W) => H2.stays hW)
  have AK := Lib.hid (fun W (hW : Below x2.heap.size x2 W) => K2.stays hW)
  refine wp_region_held_drew (S := (fun W => Below x2.heap.size x2 W)) (by kernel_rfl) (Below.refl _ _).drew (fun hS => ?_)
  generalize x2.drew = u0 at *
  refine wpAnyH_take (i := 0) (v := ?_) rfl (by kernel_rfl) (by kernel_rfl) (by kernel_rfl) (fun _ _ _ h => h) (Or.inl ⟨by rfl, ?_⟩) (by assumption) ?_
  rotate_left
  · intro _ _; go_simp; with_reducible rfl
  simp only [Act.put, List.setIfInBounds_toArray, List.set_cons_zero, List.set_cons_succ, List.getElem_toArray, List.getElem_cons_zero]
  refine wpAnyH_take (i := 1) (v := ?_) rfl (by kernel_rfl) (by kernel_rfl) (by kernel_rfl) (fun _ _ _ h => h) (Or.inl ⟨by rfl, ?_⟩) (by assumption) ?_
  rotate_left
  · intro _ _; go_simp; with_reducible rfl
  simp only [Act.put, List.setIfInBounds_toArray, List.set_cons_zero, List.set_cons_succ, List.getElem_toArray, List.getElem_cons_zero, List.getElem_cons_succ]
  refine wpAnyH_take (i := 2) (v := ?_) rfl (by kernel_rfl) (by kernel_rfl) (by kernel_rfl) (fun _ _ _ h => h) (Or.inl ⟨by rfl, ?_⟩) (by assumption) ?_
  rotate_left
  · intro _ _; go_simp; with_reducible rfl
  simp only [Act.put, List.setIfInBounds_toArray, List.set_cons_zero, List.set_cons_succ, List.getElem_toArray, List.getElem_cons_zero, List.getElem_cons_succ]
  refine wpAnyH_take (i := 3) (v := .map (some mb)) rfl (by kernel_rfl) (by kernel_rfl) (by kernel_rfl) (fun _ _ _ h => h) (Or.inl ⟨by rfl, fun wq hC => by have hcell := (AH.out wq hC).cell0; go_simp; try with_reducible rfl⟩) (by assumption) ?_
  simp only [Act.put, List.setIfInBounds_toArray, List.set_cons_zero, List.set_cons_succ, List.getElem_toArray, List.getElem_cons_zero, List.getElem_cons_succ]
  refine wpAnyH_take (i := 4) rfl (by kernel_rfl) (by kernel_rfl) (by kernel_rfl) (fun _ _ _ h => h) (yields_row (by rfl) _ _ rfl _ rfl AP.out Try.underlying72 rfl HP.out) (by assumption) ?_
  simp only [Act.put, List.setIfInBounds_toArray, List.set_cons_zero, List.set_cons_succ, List.getElem_toArray, List.getElem_cons_zero, List.getElem_cons_succ]
  refine wpAnyH_take (i := 5) (v := .tuple #[.agg X, .bool b]) rfl (by kernel_rfl) (by kernel_rfl) (by kernel_rfl) (fun _ _ _ h => h) (Or.inl ⟨by rfl, fun wq hC => by have hcell := HL.out wq (AH.out wq hC); go_simp; try with_reducible rfl⟩) (by assumption) ?_
  simp only [Act.put, List.setIfInBounds_toArray, List.set_cons_zero, List.set_cons_succ, List.getElem_toArray, List.getElem_cons_zero, List.getElem_cons_succ]
  refine wpAnyH_take (i := 6) (v := ?_) rfl (by kernel_rfl) (by kernel_rfl) (by kernel_rfl) (fun _ _ _ h => h) (Or.inl ⟨by rfl, ?_⟩) (by assumption) ?_
  rotate_left
  · intro _ _; go_simp; with_reducible rfl
  simp only [Act.put, List.setIfInBounds_toArray, List.set_cons_zero, List.set_cons_succ, List.getElem_toArray, List.getElem_cons_zero, List.getElem_cons_succ]
  refine wpAnyH_take (i := 7) (v := ?_) rfl (by kernel_rfl) (by kernel_rfl) (by kernel_rfl) (fun _ _ _ h => h) (Or.inl ⟨by rfl, ?_⟩) (by assumption) ?_
  rotate_left
  · intro _ _; go_simp; with_reducible rfl
  simp only [Act.put, List.setIfInBounds_toArray, List.set_cons_zero, List.set_cons_succ, List.getElem_toArray, List.getElem_cons_zero, List.getElem_cons_succ]
  refine wpAnyH_take (i := 8) (v := ?_) rfl (by kernel_rfl) (by kernel_rfl) (by kernel_rfl) (fun _ _ _ h => h) (Or.inl ⟨by rfl, ?_⟩) (by assumption) ?_
  rotate_left
  · intro _ _; go_simp; with_reducible rfl
  simp only [Act.put, List.setIfInBounds_toArray, List.set_cons_zero, List.set_cons_succ, List.getElem_toArray, List.getElem_cons_zero, List.getElem_cons_succ]
  have le0 := Below.size hS
  have Z3 := Row.new u0 75 (keptA Sh.zeroK)
  refine wpAnyH_ready (rs := [9]) (by kernel_rfl) (by simp) (AllReadyH.cons rfl (fun K hK => ?_) AllReadyH.nil)
  rw [if_pos (by rfl)]
  go_simp
  have S1 := Below.alloc hS (Below.size hS) (.cells (keptA Sh.zeroK) 75)
  refine hK.out _ _ S1 (fun _ => ?_)
  clear hK K
  refine wpAnyH_ready (rs := [10]) (by kernel_rfl) (by simp) (AllReadyH.cons rfl (fun K hK => ?_) AllReadyH.nil)
  rw [if_pos (by rfl)]
  refine wp_store_row 75 _ _ rfl u0.heap.size X rfl rfl 75 _ Z3 HX.out HXZ.out HX1.out ?_
  have S2 := below_setRow (g := u0.heap.size) S1 (by first | exact Below.size S1 | (have := Below.size S1; simp at this; omega) | assumption | omega) X
  have Z4 := Row.whole Z3 X
  refine hK.out _ _ S2 (fun _ => ?_)
  clear hK K
  refine wpAnyH_take (i := 11) (v := ?_) rfl (by kernel_rfl) (by kernel_rfl) (by kernel_rfl) (fun _ _ _ h => h) (Or.inl ⟨by rfl, ?_⟩) (by assumption) ?_
  rotate_left
  · intro _ _; go_simp; with_reducible rfl
  simp only [Act.put, List.setIfInBounds_toArray, List.set_cons_zero, List.set_cons_succ, List.getElem_toArray, List.getElem_cons_zero, List.getElem_cons_succ]
  refine wpAnyH_done (by kernel_rfl) ?_ _
  generalize (u0.alloc (.cells (keptA Sh.zeroK) 75)).setRow u0.heap.size X = x3 at *
  have hg3 : x2.heap.size ≤ u0.heap.size := le0
  generalize u0.heap.size = g3 at *
  have C3 := C2.trans (S2.mono C2.size)
  have H3 := AH.out _ S2
  have P3 := AP.out _ S2
  have K3 := AK.out _ S2
  clear AH AP AK Z3 hS S1 S2 C2 H2 P2 K2
  clear Z4 K3 hg1 hw1 hg3
  have AP := Lib.hid (fun W (hW : Below x3.heap.size x3 W) => P3.stays hW)
  have AH := Lib.hid (fun W (hW : Below x3.heap.size x3 W) => H3.stays hW)
  go_wp2_with fail
  refine region_quiet_tail (C := (fun W => Below x3.heap.size x3 W)) 5 (by kernel_rfl) (by kernel_rfl) (Below.refl _ _).drew ?_
  simp only [List.take_succ_cons, List.take_zero]
  refine q_yields (v := ?_) (Or.inl ⟨by rfl, ?_⟩) ?_
  rotate_left
  · intro _ _; go_simp; with_reducible rfl
  simp only [Act.put, List.setIfInBounds_toArray, List.set_cons_zero, List.set_cons_succ]
  refine q_yields (v := ?_) (Or.inl ⟨by rfl, ?_⟩) ?_
  rotate_left
  · intro _ _; go_simp; with_reducible rfl
  simp only [Act.put, List.setIfInBounds_toArray, List.set_cons_zero, List.set_cons_succ]
  refine q_yields (v := ?_) (Or.inl ⟨by rfl, ?_⟩) ?_
  rotate_left
  · intro _ _; go_simp; with_reducible rfl
  simp only [Act.put, List.setIfInBounds_toArray, List.set_cons_zero, List.set_cons_succ]
  refine q_yields (v := .map (some mb)) (Or.inl ⟨by rfl, fun wq hC => by have hcell := (AH.out wq hC).cell0; go_simp; try with_reducible rfl⟩) ?_
  simp only [Act.put, List.setIfInBounds_toArray, List.set_cons_zero, List.set_cons_succ]
  refine q_yields (yields_row (by rfl) _ _ rfl _ rfl AP.out Try.underlying72 rfl HP.out) ?_
  simp only [Act.put, List.setIfInBounds_toArray, List.set_cons_zero, List.set_cons_succ]
  refine wpQuiet_nil ?_
  intro x4 hC
  have H4 := AH.out x4 hC
  have C4 := C3.trans (hC.mono C3.size)
  clear AH AP C3 H3 P3 hC
  simp only [List.drop_succ_cons, List.drop_zero]
  go_wp2_with (at_delete; refine drop_shelf rfl _ _ rfl rfl H4.map H4.okay hc rfl HPM.out ?_; intro x5 hM hT)
  go_ret
  have hR : Row x5 sb 56 #[.map (some mb), .int .i64 s.last] := (hT.grown.block sb H4.row.lt (fun e => H4.apart (Option.some.inj e).symm)).trans H4.row
  refine ⟨rfl, ⟨HW.out, fun k hk => ?_, by rw [HLA.out]; exact h.few, h.apart, by rw [HLA.out]; exact hR, hM⟩, (Turn2.of C4 (Nat.le_refl _)).trans (.turned hT)⟩
  exact h.okay k (List.mem_filter.1 (HPM.out.mem_iff.1 hk)).1
end Go.Proofs.Ytdfcnodlddeccaa
