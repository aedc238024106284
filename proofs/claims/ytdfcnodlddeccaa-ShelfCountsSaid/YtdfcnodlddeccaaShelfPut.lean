/- The walk of a shelf's Put. -/
import Derived.Test.YtdfcnodlddeccaaShelfAt
namespace Go.Proofs.Ytdfcnodlddeccaa
open Go.RowKit Go.Maps
set_option maxRecDepth 100000 in
set_option maxHeartbeats 4000000 in
theorem putShelf_calls (c : Ma.Cookie) (hc : PlaceOk c) (site : ByteArray) (hsite : site.size ≤ maxLen) {sb mb : Nat} {s : Sh.Shelf} (w : World) (h : ShelfAt w sb mb s) (hlast : s.last < 1000000) :
    Calls Try.prog 12 #[.pointer (some ⟨sb, 0, none⟩), .agg (cookieA c), .string site] w fun e w' => e = .returned (.bool (Sh.put s c site.data.toList).2) ∧ ShelfAt w' sb mb (Sh.put s c site.data.toList).1 ∧ Turn2 sb mb w w' := by
  have z0 := zeroPlace
  have z1 := zeroKept
  have ha := hc.host.addr
  have HPL := Lib.hid (fun W => placeOfS_calls c ha W)
  have HC := Lib.hid (show (Try.prog.info? 34).map (·.size) = some (cookieA c).size by rw [cookieA_size c ha]; exact infoCookie)
  have HP := Lib.hid (show (Try.prog.info? 72).map (·.size) = some (placeA c).size by rw [placeA_size c ha]; exact infoPlaceS)
  have HPZ := Lib.hid (show (placeA Ma.zero).size = (placeA c).size by rw [placeA_size c ha]; rfl)
  have HP1 := Lib.hid (placeA_one c)
  obtain ⟨X, hX⟩ : ∃ X, keptA ((Sh.seek s c).getD Sh.zeroK) = X := ⟨_, rfl⟩
  have HX := Lib.hid (show (Try.prog.info? 75).map (·.size) = some X.size by rw [← hX, keptA_size _ (h.seek_addr c)]; exact infoKept)
  have HXZ := Lib.hid (show (keptA Sh.zeroK).size = X.size by rw [← hX, keptA_size _ (h.seek_addr c)]; rfl)
  have HX1 := Lib.hid (show X.all (·.oneCell') = true by rw [← hX]; exact keptA_one _)
  cases hs : Sh.seek s c with
  | some k0 =>
    have hk0 := List.mem_of_find?_eq_some hs
    have hp := Sh.put_there h.well hs site.data.toList
    have ko := (h.okay k0 hk0).addr
    have hX2 : X = keptA k0 := by rw [← hX, hs]; rfl
    have hX26 : X[26]? = some (.int .i64 k0.c.born) := by rw [hX2]; exact keptA_cell (cookieA_born k0.c ko)
    have hX28 : X[28]? = some (.int .i64 k0.c.seq) := by rw [hX2]; exact keptA_cell (cookieA_seq k0.c ko)
    obtain ⟨CN, hCN⟩ : ∃ CN : Ma.Cookie, CN = { c with born := k0.c.born, seq := k0.c.seq } := ⟨_, rfl⟩
    obtain ⟨KN, hKN⟩ : ∃ KN : Sh.Kept, KN = Sh.old c site.data.toList k0 := ⟨_, rfl⟩
    have hKC : KN = ⟨CN, site.data.toList⟩ := by rw [hKN, hCN]; rfl
    have hcn : PlaceOk CN := by rw [hCN]; exact ⟨hc.host, hc.name, hc.path⟩
    have HSET : Hid (((cookieA c).setIfInBounds 26 (.int .i64 k0.c.born)).setIfInBounds 28 (.int .i64 k0.c.seq) = cookieA CN) := Lib.hid (by rw [hCN, cookieA_setBorn c ha]; exact cookieA_setSeq { c with born := k0.c.born } ha _)
    rw [← hKN] at hp
    have HL := Lib.hid (fun W (hW : ShelfAt W sb mb s) => by have := hW.look hc; rw [hX, hs] at this; exact this)
    have HW := Lib.hid (Sh.well_put h.well c site.data.toList)
    obtain ⟨t, ht⟩ : ∃ t, (Sh.put s c site.data.toList).1 = t := ⟨_, rfl⟩
    rw [ht] at hp HW ⊢
    rw [hp.1]
    have HN := Lib.hid (show (Try.prog.info? 34).map (·.size) = some (cookieA CN).size by rw [cookieA_size CN hcn.host.addr]; exact infoCookie)
    have HBK := Lib.hid (built_kept CN hcn.host.addr site)
    rw [← hKC] at HBK
    have HKO : Hid (KeptOk KN) := Lib.hid (by rw [hKC]; exact ⟨hcn, by rw [Oct.length_bytes]; exact hsite⟩)
    have HPM := Lib.hid hp.2.2.1
    have HKK := Lib.hid hp.2.2.2
    have hla := hp.2.1
    have HFW : Hid (t.last ≤ 1000000) := Lib.hid (by rw [hla]; exact h.few)
    have HLA := Lib.hid hla
    clear hX hs hp ht hKN hKC hCN hcn hla hX2 ko hk0
    have R0 := Row.new w 34 (cookieA c)
    have C0 := (Below.refl w.heap.size w).alloc (Nat.le_refl _) (.cells (cookieA c) 34)
    go_enter Try.func12, Try.ntmps12
    go_wp2_with (refine at_slot 10 rfl ?_; refine load_row rfl 34 _ rfl w.heap.size rfl R0 Try.underlying34 rfl HC.out ?_)
    generalize w.alloc (.cells (cookieA c) 34) = x0 at *
    refine (HPL.out _).mono ?_
    rintro e x1 ⟨rfl, d1⟩
    have C1 := C0.trans (d1.mono C0.size)
    have K1 := R0.stays d1
    obtain ⟨Z1, P2, C2, L2⟩ := lay_row 72 (placeA Ma.zero) (placeA c) C1 C1.size
    have K2 := L2 _ _ _ K1
    have K1lt := K1.lt
    clear L2 d1 C0 R0 K1
    go_wp2_with (refine wpList_store_row rfl 72 _ _ rfl x1.heap.size (placeA c) rfl rfl 72 _ Z1 HP.out HPZ.out HP1.out ?_)
    have hgw1 : x1.heap.size ≠ w.heap.size := by have := K1lt; omega
    have hg1 := P2.lt
    have hw1 := C1.size
    generalize (x1.alloc (.cells (placeA Ma.zero) 72)).setRow x1.heap.size (placeA c) = x2 at *
    generalize x1.heap.size = g1 at *
    have H2 := h.stays C2
    clear Z1 C1
    have AP := Lib.hid (fun W (hW : Below x2.heap.size x2 W) => P2.stays hW)
    have AH := Lib.hid (fun W (hW : Below x2.heap.size x2 W) => H2.stays hW)
    have AK := Lib.hid (fun W (hW : Below x2.heap.size x2 W) => K2.stays hW)
    refine wp_region_held_drew (S := (fun W => Below x2.heap.size x2 W)) (by kernel_rfl) (Below.refl _ _).drew (fun hS => ?_)
    generalize x2.drew = u0 at *
    refine wpAnyH_take (i := 0) (v := ?_) rfl (by kernel_rfl) (by kernel_rfl) (by kernel_rfl) (fun _ _ _ h => h) (Or.inl ⟨by rfl, ?_⟩) (by assumption) ?_
    rotate_left
    · intro _ _; go_simp; with_reducible rfl
    simp only [Act.put, List.setIfInBounds_toArray, List.set_cons_zero, List.set_cons_succ, List.getElem_toArray, List.getElem_cons_zero]
    refine wpAnyH_take (i := 1) (v := ?_) rfl (by kernel_rfl) (by kernel_rfl) (by kernel_rfl) (fun _ _ _ h => h) (Or.inl ⟨by rfl, ?_⟩) (by assumption) ?_
    rotate_left
    · intro _ _; go_simp; with_reducible rfl
    simp only [Act.put, List.setIfInBounds_toArray, List.set_cons_zero, List.set_cons_succ, List.getElem_toArray, List.getElem_cons_zero, List.getElem_cons_succ]
    refine wpAnyH_take (i := 2) (v := ?_) rfl (by kernel_rfl) (by kernel_rfl) (by kernel_rfl) (fun _ _ _ h => h) (Or.inl ⟨by rfl, ?_⟩) (by assumption) ?_
    rotate_left
    · intro _ _; go_simp; with_reducible rfl
    simp only [Act.put, List.setIfInBounds_toArray, List.set_cons_zero, List.set_cons_succ, List.getElem_toArray, List.getElem_cons_zero, List.getElem_cons_succ]
    refine wpAnyH_take (i := 3) (v := .map (some mb)) rfl (by kernel_rfl) (by kernel_rfl) (by kernel_rfl) (fun _ _ _ h => h) (Or.inl ⟨by rfl, fun wq hC => by have hcell := (AH.out wq hC).cell0; go_simp; try with_reducible rfl⟩) (by assumption) ?_
    simp only [Act.put, List.setIfInBounds_toArray, List.set_cons_zero, List.set_cons_succ, List.getElem_toArray, List.getElem_cons_zero, List.getElem_cons_succ]
    refine wpAnyH_take (i := 4) rfl (by kernel_rfl) (by kernel_rfl) (by kernel_rfl) (fun _ _ _ h => h) (yields_row (by rfl) _ _ rfl _ rfl AP.out Try.underlying72 rfl HP.out) (by assumption) ?_
    simp only [Act.put, List.setIfInBounds_toArray, List.set_cons_zero, List.set_cons_succ, List.getElem_toArray, List.getElem_cons_zero, List.getElem_cons_succ]
    refine wpAnyH_take (i := 5) (v := .tuple #[.agg X, .bool true]) rfl (by kernel_rfl) (by kernel_rfl) (by kernel_rfl) (fun _ _ _ h => h) (Or.inl ⟨by rfl, fun wq hC => by have hcell := HL.out wq (AH.out wq hC); go_simp; try with_reducible rfl⟩) (by assumption) ?_
    simp only [Act.put, List.setIfInBounds_toArray, List.set_cons_zero, List.set_cons_succ, List.getElem_toArray, List.getElem_cons_zero, List.getElem_cons_succ]
    refine wpAnyH_take (i := 6) (v := ?_) rfl (by kernel_rfl) (by kernel_rfl) (by kernel_rfl) (fun _ _ _ h => h) (Or.inl ⟨by rfl, ?_⟩) (by assumption) ?_
    rotate_left
    · intro _ _; go_simp; with_reducible rfl
    simp only [Act.put, List.setIfInBounds_toArray, List.set_cons_zero, List.set_cons_succ, List.getElem_toArray, List.getElem_cons_zero, List.getElem_cons_succ]
    refine wpAnyH_take (i := 7) (v := ?_) rfl (by kernel_rfl) (by kernel_rfl) (by kernel_rfl) (fun _ _ _ h => h) (Or.inl ⟨by rfl, ?_⟩) (by assumption) ?_
    rotate_left
    · intro _ _; go_simp; with_reducible rfl
    simp only [Act.put, List.setIfInBounds_toArray, List.set_cons_zero, List.set_cons_succ, List.getElem_toArray, List.getElem_cons_zero, List.getElem_cons_succ]
    refine wpAnyH_take (i := 8) (v := ?_) rfl (by kernel_rfl) (by kernel_rfl) (by kernel_rfl) (fun _ _ _ h => h) (Or.inl ⟨by rfl, ?_⟩) (by assumption) ?_
    rotate_left
    · intro _ _; go_simp; with_reducible rfl
    simp only [Act.put, List.setIfInBounds_toArray, List.set_cons_zero, List.set_cons_succ, List.getElem_toArray, List.getElem_cons_zero, List.getElem_cons_succ]
    have le0 := Below.size hS
    have Z3 := Row.new u0 75 (keptA Sh.zeroK)
    refine wpAnyH_ready (rs := [9]) (by kernel_rfl) (by simp) (AllReadyH.cons rfl (fun K hK => ?_) AllReadyH.nil)
    rw [if_pos (by rfl)]
    go_simp
    have S1 := Below.alloc hS (Below.size hS) (.cells (keptA Sh.zeroK) 75)
    refine hK.out _ _ S1 (fun _ => ?_)
    clear hK K
    refine wpAnyH_ready (rs := [10]) (by kernel_rfl) (by simp) (AllReadyH.cons rfl (fun K hK => ?_) AllReadyH.nil)
    rw [if_pos (by rfl)]
    refine wp_store_row 75 _ _ rfl u0.heap.size X rfl rfl 75 _ Z3 HX.out HXZ.out HX1.out ?_
    have S2 := below_setRow (g := u0.heap.size) S1 (by first | exact Below.size S1 | (have := Below.size S1; simp at this; omega) | assumption | omega) X
    have Z4 := Row.whole Z3 X
    refine hK.out _ _ S2 (fun _ => ?_)
    clear hK K
    refine wpAnyH_take (i := 11) (v := ?_) rfl (by kernel_rfl) (by kernel_rfl) (by kernel_rfl) (fun _ _ _ h => h) (Or.inl ⟨by rfl, ?_⟩) (by assumption) ?_
    rotate_left
    · intro _ _; go_simp; with_reducible rfl
    simp only [Act.put, List.setIfInBounds_toArray, List.set_cons_zero, List.set_cons_succ, List.getElem_toArray, List.getElem_cons_zero, List.getElem_cons_succ]
    refine wpAnyH_done (by kernel_rfl) ?_ _
    generalize (u0.alloc (.cells (keptA Sh.zeroK) 75)).setRow u0.heap.size X = x3 at *
    have hg3 : x2.heap.size ≤ u0.heap.size := le0
    generalize u0.heap.size = g3 at *
    have C3 := C2.trans (S2.mono C2.size)
    have H3 := AH.out _ S2
    have P3 := AP.out _ S2
    have K3 := AK.out _ S2
    clear AH AP AK Z3 hS S1 S2 C2 H2 P2 K2

    go_wp2_with fail
    have e26 : x3.drew.cell? ⟨g3, 26, none⟩ = some (.int .i64 k0.c.born) := (Z4.drew.cell 26).trans hX26
    have e28 : x3.drew.cell? ⟨g3, 28, none⟩ = some (.int .i64 k0.c.seq) := (Z4.drew.cell 28).trans hX28
    have hwg : w.heap.size ≠ g3 := by omega
    have C4 := C3.trans (Below.drew (Below.refl _ _))
    have R4 : Row x3.drew sb 56 _ := H3.row
    have M4 : MapAt x3.drew mb s.l := H3.map
    have K4 := K3.drew
    have P4 := P3.drew
    have Z5 := Z4.drew
    have hne1 : g1 ≠ w.heap.size := hgw1
    have hne2 : sb ≠ w.heap.size := by have := h.row.lt; omega
    have hne3 : mb ≠ w.heap.size := by have := h.map.lt; omega
    generalize k0.c.born = vb at *
    generalize k0.c.seq = vs at *
    refine wp_region_held_drew (S := (fun W => W.cell? ⟨g3, 26, none⟩ = some (.int .i64 vb) ∧ W.cell? ⟨g3, 28, none⟩ = some (.int .i64 vs))) (by kernel_rfl) ⟨e26, e28⟩ (fun hS => ?_)
    generalize x3.drew = u1 at *
    refine wpAnyH_take (i := 0) (v := ?_) rfl (by kernel_rfl) (by kernel_rfl) (by kernel_rfl) (fun _ _ _ h => h) (Or.inl ⟨by rfl, ?_⟩) (by assumption) ?_
    rotate_left
    · intro _ _; go_simp; with_reducible rfl
    simp only [Act.put, List.setIfInBounds_toArray, List.set_cons_zero, List.set_cons_succ, List.getElem_toArray, List.getElem_cons_zero]
    refine wpAnyH_take (i := 1) (v := ?_) rfl (by kernel_rfl) (by kernel_rfl) (by kernel_rfl) (fun _ _ _ h => h) (Or.inl ⟨by rfl, ?_⟩) (by assumption) ?_
    rotate_left
    · intro _ _; go_simp; with_reducible rfl
    simp only [Act.put, List.setIfInBounds_toArray, List.set_cons_zero, List.set_cons_succ, List.getElem_toArray, List.getElem_cons_zero, List.getElem_cons_succ]
    refine wpAnyH_take (i := 2) (v := .int .i64 vb) rfl (by kernel_rfl) (by kernel_rfl) (by kernel_rfl) (fun _ _ _ h => h) (Or.inl ⟨by rfl, fun wq hC => by have hcell := hC.1; go_simp; try with_reducible rfl⟩) (by assumption) ?_
    simp only [Act.put, List.setIfInBounds_toArray, List.set_cons_zero, List.set_cons_succ, List.getElem_toArray, List.getElem_cons_zero, List.getElem_cons_succ]
    refine wpAnyH_take (i := 3) (v := ?_) rfl (by kernel_rfl) (by kernel_rfl) (by kernel_rfl) (fun _ _ _ h => h) (Or.inl ⟨by rfl, ?_⟩) (by assumption) ?_
    rotate_left
    · intro _ _; go_simp; with_reducible rfl
    simp only [Act.put, List.setIfInBounds_toArray, List.set_cons_zero, List.set_cons_succ, List.getElem_toArray, List.getElem_cons_zero, List.getElem_cons_succ]
    refine wpAnyH_take (i := 4) (v := ?_) rfl (by kernel_rfl) (by kernel_rfl) (by kernel_rfl) (fun _ _ _ h => h) (Or.inl ⟨by rfl, ?_⟩) (by assumption) ?_
    rotate_left
    · intro _ _; go_simp; with_reducible rfl
    simp only [Act.put, List.setIfInBounds_toArray, List.set_cons_zero, List.set_cons_succ, List.getElem_toArray, List.getElem_cons_zero, List.getElem_cons_succ]
    refine wpAnyH_take (i := 5) (v := .int .i64 vs) rfl (by kernel_rfl) (by kernel_rfl) (by kernel_rfl) (fun _ _ _ h => h) (Or.inl ⟨by rfl, fun wq hC => by have hcell := hC.2; go_simp; try with_reducible rfl⟩) (by assumption) ?_
    simp only [Act.put, List.setIfInBounds_toArray, List.set_cons_zero, List.set_cons_succ, List.getElem_toArray, List.getElem_cons_zero, List.getElem_cons_succ]
    refine wpAnyH_take (i := 6) (v := ?_) rfl (by kernel_rfl) (by kernel_rfl) (by kernel_rfl) (fun _ _ _ h => h) (Or.inl ⟨by rfl, ?_⟩) (by assumption) ?_
    rotate_left
    · intro _ _; go_simp; with_reducible rfl
    simp only [Act.put, List.setIfInBounds_toArray, List.set_cons_zero, List.set_cons_succ, List.getElem_toArray, List.getElem_cons_zero, List.getElem_cons_succ]
    have q0 := K4.free 26
    have q1 := (K4.cell 26).trans (cookieA_born c ha)
    refine wpAnyH_ready (rs := [7]) (by kernel_rfl) (by simp) (AllReadyH.cons rfl (fun K hK => ?_) AllReadyH.nil)
    rw [if_pos (by rfl)]
    go_simp
    have S1 : (u1.setCell ⟨w.heap.size, 26, none⟩ (.int .i64 vb)).cell? ⟨g3, 26, none⟩ = some (.int .i64 vb) ∧ (u1.setCell ⟨w.heap.size, 26, none⟩ (.int .i64 vb)).cell? ⟨g3, 28, none⟩ = some (.int .i64 vs) :=
      ⟨((Z5.other (p := ⟨w.heap.size, 26, none⟩) (Ne.symm hwg) (.int .i64 vb)).cell 26).trans hX26, ((Z5.other (p := ⟨w.heap.size, 26, none⟩) (Ne.symm hwg) (.int .i64 vb)).cell 28).trans hX28⟩
    refine hK.out _ _ S1 (fun _ => ?_)
    clear hK K q0 q1
    have K5 := K4.set 26 (.int .i64 vb)
    have R5 := R4.other (p := ⟨w.heap.size, 26, none⟩) hne2 (.int .i64 vb)
    have P5 := P4.other (p := ⟨w.heap.size, 26, none⟩) hne1 (.int .i64 vb)
    have M5 := M4.kept (grownBy_cellS u1 w.heap.size 26 (.int .i64 vb)) (fun e => hne3 (Option.some.inj e))
    have C5 := C4.setCell (p := ⟨w.heap.size, 26, none⟩) (Nat.le_refl _) (.int .i64 vb)
    clear K4 R4 P4 M4 C4 Z5
    generalize u1.setCell ⟨w.heap.size, 26, none⟩ (.int .i64 vb) = u2 at *
    refine wpAnyH_take (i := 8) (v := ?_) rfl (by kernel_rfl) (by kernel_rfl) (by kernel_rfl) (fun _ _ _ h => h) (Or.inl ⟨by rfl, ?_⟩) (by assumption) ?_
    rotate_left
    · intro _ _; go_simp; with_reducible rfl
    simp only [Act.put, List.setIfInBounds_toArray, List.set_cons_zero, List.set_cons_succ, List.getElem_toArray, List.getElem_cons_zero, List.getElem_cons_succ]
    have q0 := K5.free 28
    have q1 : u2.cell? ⟨w.heap.size, 28, none⟩ = some (.int .i64 c.seq) := (K5.cell 28).trans (by rw [Array.getElem?_setIfInBounds_ne (by decide)]; exact cookieA_seq c ha)
    refine wpAnyH_ready (rs := [9]) (by kernel_rfl) (by simp) (AllReadyH.cons rfl (fun K hK => ?_) AllReadyH.nil)
    rw [if_pos (by rfl)]
    go_simp
    have S2 : (u2.setCell ⟨w.heap.size, 28, none⟩ (.int .i64 vs)).cell? ⟨g3, 26, none⟩ = some (.int .i64 vb) ∧ (u2.setCell ⟨w.heap.size, 28, none⟩ (.int .i64 vs)).cell? ⟨g3, 28, none⟩ = some (.int .i64 vs) :=
      ⟨(World.cell?_setCell_other _ _ _ _ (fun e => hwg (congrArg Addr.block e))).trans S1.1, (World.cell?_setCell_other _ _ _ _ (fun e => hwg (congrArg Addr.block e))).trans S1.2⟩
    refine hK.out _ _ S2 (fun _ => ?_)
    clear hK K q0 q1
    have K6 := K5.set 28 (.int .i64 vs)
    have R6 := R5.other (p := ⟨w.heap.size, 28, none⟩) hne2 (.int .i64 vs)
    have P6 := P5.other (p := ⟨w.heap.size, 28, none⟩) hne1 (.int .i64 vs)
    have M6 := M5.kept (grownBy_cellS u2 w.heap.size 28 (.int .i64 vs)) (fun e => hne3 (Option.some.inj e))
    have C6 := C5.setCell (p := ⟨w.heap.size, 28, none⟩) (Nat.le_refl _) (.int .i64 vs)
    rw [HSET.out] at K6
    refine wpAnyH_done (by kernel_rfl) ?_ _
    rw [← HLA.out] at R6
    have C5 := Turn2.of (sb := sb) (mb := mb) C6 (Nat.le_refl _)
    have K5 := K6
    have R5 := R6
    have P5 := P6
    have M5 := M6
    clear K6 R6 P6 M6 C6 S1 S2 hS e26 e28
    go_wp2_with fail
    generalize u2.setCell ⟨w.heap.size, 28, none⟩ (.int .i64 vs) = x5 at *
    have AP := Lib.hid (fun W (hW : Below x5.heap.size x5 W) => P5.stays hW)
    have AM := Lib.hid (fun W (hW : Below x5.heap.size x5 W) => M5.stays hW)
    have AR := Lib.hid (fun W (hW : Below x5.heap.size x5 W) => R5.stays hW)
    have AK := Lib.hid (fun W (hW : Below x5.heap.size x5 W) => K5.stays hW)
    have AC := Lib.hid (fun W (hW : Below x5.heap.size x5 W) => show W.cell? ⟨sb, 0, none⟩ = some (.map (some mb)) by rw [(AR.out W hW).cell]; rfl)
    refine region_quiet_tail (C := (fun W => Below x5.heap.size x5 W)) 8 (by kernel_rfl) (by kernel_rfl) (Below.refl _ _).drew ?_
    simp only [List.take_succ_cons, List.take_zero]
    refine q_yields (v := ?_) (Or.inl ⟨by rfl, ?_⟩) ?_
    rotate_left
    · intro _ _; go_simp; with_reducible rfl
    simp only [Act.put, List.setIfInBounds_toArray, List.set_cons_zero, List.set_cons_succ]
    refine q_yields (v := ?_) (Or.inl ⟨by rfl, ?_⟩) ?_
    rotate_left
    · intro _ _; go_simp; with_reducible rfl
    simp only [Act.put, List.setIfInBounds_toArray, List.set_cons_zero, List.set_cons_succ]
    refine q_yields (v := ?_) (Or.inl ⟨by rfl, ?_⟩) ?_
    rotate_left
    · intro _ _; go_simp; with_reducible rfl
    simp only [Act.put, List.setIfInBounds_toArray, List.set_cons_zero, List.set_cons_succ]
    refine q_yields (v := .map (some mb)) (Or.inl ⟨by rfl, fun wq hC => by have hcell := AC.out wq hC; go_simp; try with_reducible rfl⟩) ?_
    simp only [Act.put, List.setIfInBounds_toArray, List.set_cons_zero, List.set_cons_succ]
    refine q_yields (yields_row (by rfl) _ _ rfl _ rfl AP.out Try.underlying72 rfl HP.out) ?_
    simp only [Act.put, List.setIfInBounds_toArray, List.set_cons_zero, List.set_cons_succ]
    refine q_yields (yields_row (by rfl) _ _ rfl _ rfl AK.out Try.underlying34 rfl HN.out) ?_
    simp only [Act.put, List.setIfInBounds_toArray, List.set_cons_zero, List.set_cons_succ]
    refine q_yields (v := ?_) (Or.inl ⟨by rfl, ?_⟩) ?_
    rotate_left
    · intro _ _; go_simp; with_reducible rfl
    simp only [Act.put, List.setIfInBounds_toArray, List.set_cons_zero, List.set_cons_succ]
    refine q_yields (yields_built2 (by rfl) 75 0 1 (.tmp 47) (.tmp 48) rfl (.agg (cookieA CN)) (.string site) rfl rfl (keptA KN) HBK.out) ?_
    simp only [Act.put, List.setIfInBounds_toArray, List.set_cons_zero, List.set_cons_succ]
    refine wpQuiet_nil ?_
    intro x6 hC
    have M6 := AM.out x6 hC
    have R6 := AR.out x6 hC
    have C6 := C5.trans (.of hC (Nat.le_refl _))
    clear AP AM AR AK AC C5 M5 R5 P5 K5 hC
    simp only [List.drop_succ_cons, List.drop_zero]
    go_wp2_with (at_mapUpdate; refine store_shelf rfl _ _ _ rfl rfl M6 h.okay hc rfl rfl HKK.out HKO.out.cookie HPM.out (by have := h.length; omega) ?_; intro x7 hM hT)
    go_ret
    have hR : Row x7 sb 56 #[.map (some mb), .int .i64 t.last] := (hT.grown.block sb R6.lt (fun e => h.apart (Option.some.inj e).symm)).trans R6
    refine ⟨rfl, ⟨HW.out, fun k hk => ?_, HFW.out, h.apart, hR, hM⟩, C6.trans (.turned hT)⟩
    rcases List.mem_cons.1 (HPM.out.mem_iff.1 hk) with e | e
    · rw [e]; exact HKO.out
    · exact h.okay k (List.mem_filter.1 e).1
  | none =>
    have hp := Sh.put_new hs site.data.toList
    obtain ⟨CN, hCN⟩ : ∃ CN : Ma.Cookie, CN = { c with seq := s.last + 1 } := ⟨_, rfl⟩
    obtain ⟨KN, hKN⟩ : ∃ KN : Sh.Kept, KN = ⟨{ c with seq := s.last + 1 }, site.data.toList⟩ := ⟨_, rfl⟩
    have hKC : KN = ⟨CN, site.data.toList⟩ := by rw [hKN, hCN]
    have hl0 := h.well.last
    have hcn : PlaceOk CN := by rw [hCN]; exact ⟨hc.host, hc.name, hc.path⟩
    have HSET : Hid ((cookieA c).setIfInBounds 28 (.int .i64 (s.last + 1)) = cookieA CN) := Lib.hid (by rw [hCN, cookieA_setSeq _ ha])
    have hkc : Ma.key KN.c c = true := by rw [hKN]; exact hp.2.2.2
    rw [← hKN] at hp
    have HL := Lib.hid (fun W (hW : ShelfAt W sb mb s) => by have := hW.look hc; rw [hX, hs] at this; exact this)
    have HW := Lib.hid (Sh.well_put h.well c site.data.toList)
    obtain ⟨t, ht⟩ : ∃ t, (Sh.put s c site.data.toList).1 = t := ⟨_, rfl⟩
    rw [ht] at hp HW ⊢
    rw [hp.1]
    have HN := Lib.hid (show (Try.prog.info? 34).map (·.size) = some (cookieA CN).size by rw [cookieA_size CN hcn.host.addr]; exact infoCookie)
    have HBK := Lib.hid (built_kept CN hcn.host.addr site)
    rw [← hKC] at HBK
    have HKO : Hid (KeptOk KN) := Lib.hid (by rw [hKC]; exact ⟨hcn, by rw [Oct.length_bytes]; exact hsite⟩)
    have HPM := Lib.hid hp.2.2.1
    have HKK := Lib.hid hkc
    have hla := hp.2.1
    have HFW : Hid (t.last ≤ 1000000) := Lib.hid (by rw [hla]; omega)
    have HLA := Lib.hid hla
    clear hX hs hp ht hKN hKC hCN hcn hla hkc
    have R0 := Row.new w 34 (cookieA c)
    have C0 := (Below.refl w.heap.size w).alloc (Nat.le_refl _) (.cells (cookieA c) 34)
    go_enter Try.func12, Try.ntmps12
    go_wp2_with (refine at_slot 10 rfl ?_; refine load_row rfl 34 _ rfl w.heap.size rfl R0 Try.underlying34 rfl HC.out ?_)
    generalize w.alloc (.cells (cookieA c) 34) = x0 at *
    refine (HPL.out _).mono ?_
    rintro e x1 ⟨rfl, d1⟩
    have C1 := C0.trans (d1.mono C0.size)
    have K1 := R0.stays d1
    obtain ⟨Z1, P2, C2, L2⟩ := lay_row 72 (placeA Ma.zero) (placeA c) C1 C1.size
    have K2 := L2 _ _ _ K1
    have K1lt := K1.lt
    clear L2 d1 C0 R0 K1
    go_wp2_with (refine wpList_store_row rfl 72 _ _ rfl x1.heap.size (placeA c) rfl rfl 72 _ Z1 HP.out HPZ.out HP1.out ?_)
    have hgw1 : x1.heap.size ≠ w.heap.size := by have := K1lt; omega
    have hg1 := P2.lt
    have hw1 := C1.size
    generalize (x1.alloc (.cells (placeA Ma.zero) 72)).setRow x1.heap.size (placeA c) = x2 at *
    generalize x1.heap.size = g1 at *
    have H2 := h.stays C2
    clear Z1 C1
    have AP := Lib.hid (fun W (hW : Below x2.heap.size x2 W) => P2.stays hW)
    have AH := Lib.hid (fun W (hW : Below x2.heap.size x2 W) => H2.stays hW)
    have AK := Lib.hid (fun W (hW : Below x2.heap.size x2 W) => K2.stays hW)
    refine wp_region_held_drew (S := (fun W => Below x2.heap.size x2 W)) (by kernel_rfl) (Below.refl _ _).drew (fun hS => ?_)
    generalize x2.drew = u0 at *
    refine wpAnyH_take (i := 0) (v := ?_) rfl (by kernel_rfl) (by kernel_rfl) (by kernel_rfl) (fun _ _ _ h => h) (Or.inl ⟨by rfl, ?_⟩) (by assumption) ?_
    rotate_left
    · intro _ _; go_simp; with_reducible rfl
    simp only [Act.put, List.setIfInBounds_toArray, List.set_cons_zero, List.set_cons_succ, List.getElem_toArray, List.getElem_cons_zero]
    refine wpAnyH_take (i := 1) (v := ?_) rfl (by kernel_rfl) (by kernel_rfl) (by kernel_rfl) (fun _ _ _ h => h) (Or.inl ⟨by rfl, ?_⟩) (by assumption) ?_
    rotate_left
    · intro _ _; go_simp; with_reducible rfl
    simp only [Act.put, List.setIfInBounds_toArray, List.set_cons_zero, List.set_cons_succ, List.getElem_toArray, List.getElem_cons_zero, List.getElem_cons_succ]
    refine wpAnyH_take (i := 2) (v := ?_) rfl (by kernel_rfl) (by kernel_rfl) (by kernel_rfl) (fun _ _ _ h => h) (Or.inl ⟨by rfl, ?_⟩) (by assumption) ?_
    rotate_left
    · intro _ _; go_simp; with_reducible rfl
    simp only [Act.put, List.setIfInBounds_toArray, List.set_cons_zero, List.set_cons_succ, List.getElem_toArray, List.getElem_cons_zero, List.getElem_cons_succ]
    refine wpAnyH_take (i := 3) (v := .map (some mb)) rfl (by kernel_rfl) (by kernel_rfl) (by kernel_rfl) (fun _ _ _ h => h) (Or.inl ⟨by rfl, fun wq hC => by have hcell := (AH.out wq hC).cell0; go_simp; try with_reducible rfl⟩) (by assumption) ?_
    simp only [Act.put, List.setIfInBounds_toArray, List.set_cons_zero, List.set_cons_succ, List.getElem_toArray, List.getElem_cons_zero, List.getElem_cons_succ]
    refine wpAnyH_take (i := 4) rfl (by kernel_rfl) (by kernel_rfl) (by kernel_rfl) (fun _ _ _ h => h) (yields_row (by rfl) _ _ rfl _ rfl AP.out Try.underlying72 rfl HP.out) (by assumption) ?_
    simp only [Act.put, List.setIfInBounds_toArray, List.set_cons_zero, List.set_cons_succ, List.getElem_toArray, List.getElem_cons_zero, List.getElem_cons_succ]
    refine wpAnyH_take (i := 5) (v := .tuple #[.agg X, .bool false]) rfl (by kernel_rfl) (by kernel_rfl) (by kernel_rfl) (fun _ _ _ h => h) (Or.inl ⟨by rfl, fun wq hC => by have hcell := HL.out wq (AH.out wq hC); go_simp; try with_reducible rfl⟩) (by assumption) ?_
    simp only [Act.put, List.setIfInBounds_toArray, List.set_cons_zero, List.set_cons_succ, List.getElem_toArray, List.getElem_cons_zero, List.getElem_cons_succ]
    refine wpAnyH_take (i := 6) (v := ?_) rfl (by kernel_rfl) (by kernel_rfl) (by kernel_rfl) (fun _ _ _ h => h) (Or.inl ⟨by rfl, ?_⟩) (by assumption) ?_
    rotate_left
    · intro _ _; go_simp; with_reducible rfl
    simp only [Act.put, List.setIfInBounds_toArray, List.set_cons_zero, List.set_cons_succ, List.getElem_toArray, List.getElem_cons_zero, List.getElem_cons_succ]
    refine wpAnyH_take (i := 7) (v := ?_) rfl (by kernel_rfl) (by kernel_rfl) (by kernel_rfl) (fun _ _ _ h => h) (Or.inl ⟨by rfl, ?_⟩) (by assumption) ?_
    rotate_left
    · intro _ _; go_simp; with_reducible rfl
    simp only [Act.put, List.setIfInBounds_toArray, List.set_cons_zero, List.set_cons_succ, List.getElem_toArray, List.getElem_cons_zero, List.getElem_cons_succ]
    refine wpAnyH_take (i := 8) (v := ?_) rfl (by kernel_rfl) (by kernel_rfl) (by kernel_rfl) (fun _ _ _ h => h) (Or.inl ⟨by rfl, ?_⟩) (by assumption) ?_
    rotate_left
    · intro _ _; go_simp; with_reducible rfl
    simp only [Act.put, List.setIfInBounds_toArray, List.set_cons_zero, List.set_cons_succ, List.getElem_toArray, List.getElem_cons_zero, List.getElem_cons_succ]
    have le0 := Below.size hS
    have Z3 := Row.new u0 75 (keptA Sh.zeroK)
    refine wpAnyH_ready (rs := [9]) (by kernel_rfl) (by simp) (AllReadyH.cons rfl (fun K hK => ?_) AllReadyH.nil)
    rw [if_pos (by rfl)]
    go_simp
    have S1 := Below.alloc hS (Below.size hS) (.cells (keptA Sh.zeroK) 75)
    refine hK.out _ _ S1 (fun _ => ?_)
    clear hK K
    refine wpAnyH_ready (rs := [10]) (by kernel_rfl) (by simp) (AllReadyH.cons rfl (fun K hK => ?_) AllReadyH.nil)
    rw [if_pos (by rfl)]
    refine wp_store_row 75 _ _ rfl u0.heap.size X rfl rfl 75 _ Z3 HX.out HXZ.out HX1.out ?_
    have S2 := below_setRow (g := u0.heap.size) S1 (by first | exact Below.size S1 | (have := Below.size S1; simp at this; omega) | assumption | omega) X
    have Z4 := Row.whole Z3 X
    refine hK.out _ _ S2 (fun _ => ?_)
    clear hK K
    refine wpAnyH_take (i := 11) (v := ?_) rfl (by kernel_rfl) (by kernel_rfl) (by kernel_rfl) (fun _ _ _ h => h) (Or.inl ⟨by rfl, ?_⟩) (by assumption) ?_
    rotate_left
    · intro _ _; go_simp; with_reducible rfl
    simp only [Act.put, List.setIfInBounds_toArray, List.set_cons_zero, List.set_cons_succ, List.getElem_toArray, List.getElem_cons_zero, List.getElem_cons_succ]
    refine wpAnyH_done (by kernel_rfl) ?_ _
    generalize (u0.alloc (.cells (keptA Sh.zeroK) 75)).setRow u0.heap.size X = x3 at *
    have hg3 : x2.heap.size ≤ u0.heap.size := le0
    generalize u0.heap.size = g3 at *
    have C3 := C2.trans (S2.mono C2.size)
    have H3 := AH.out _ S2
    have P3 := AP.out _ S2
    have K3 := AK.out _ S2
    clear AH AP AK Z3 hS S1 S2 C2 H2 P2 K2

    have c1 := H3.cell1
    have f1 := H3.row.free 1
    have q0 := K3.free 28
    have q1 := (K3.cell 28).trans (cookieA_seq c ha)
    have hne1 : g1 ≠ w.heap.size := hgw1
    have hne2 : sb ≠ w.heap.size := by have := h.row.lt; omega
    have hne3 : mb ≠ w.heap.size := by have := h.map.lt; omega
    have hne4 : sb ≠ g1 := by have := h.row.lt; omega
    have K4 := K3.other (p := ⟨sb, 1, none⟩) (Ne.symm hne2) (.int .i64 (s.last + 1))
    have P4 := P3.other (p := ⟨sb, 1, none⟩) (Ne.symm hne4) (.int .i64 (s.last + 1))
    have M4 := H3.map.kept (grownBy_cellS x3 sb 1 (.int .i64 (s.last + 1))) (fun e => H3.apart (Option.some.inj e))
    have R4 := H3.row.set 1 (.int .i64 (s.last + 1))
    have K5 := K4.set 28 (.int .i64 (s.last + 1))
    have P5 := P4.other (p := ⟨w.heap.size, 28, none⟩) hne1 (.int .i64 (s.last + 1))
    have M5 := M4.kept (grownBy_cellS _ w.heap.size 28 (.int .i64 (s.last + 1))) (fun e => hne3 (Option.some.inj e))
    have R5 := R4.other (p := ⟨w.heap.size, 28, none⟩) hne2 (.int .i64 (s.last + 1))
    have C5 := ((Turn2.of (sb := sb) (mb := mb) C3 (Nat.le_refl _)).setCell (p := ⟨sb, 1, none⟩) (.inr rfl) (.int .i64 (s.last + 1))).setCell (p := ⟨w.heap.size, 28, none⟩) (.inl (Nat.le_refl _)) (.int .i64 (s.last + 1))
    rw [HSET.out] at K5
    have R6 : Row ((x3.setCell ⟨sb, 1, none⟩ (.int .i64 (s.last + 1))).setCell ⟨w.heap.size, 28, none⟩ (.int .i64 (s.last + 1))) sb 56 #[.map (some mb), .int .i64 t.last] := by rw [HLA.out]; exact R5
    clear R5
    have R5 := R6
    clear R6
    clear K4 P4 M4 R4 K3 P3 C3 Z4 H3
    go_wp2_with fail
    generalize (x3.setCell ⟨sb, 1, none⟩ (.int .i64 (s.last + 1))).setCell ⟨w.heap.size, 28, none⟩ (.int .i64 (s.last + 1)) = x5 at *
    have AP := Lib.hid (fun W (hW : Below x5.heap.size x5 W) => P5.stays hW)
    have AM := Lib.hid (fun W (hW : Below x5.heap.size x5 W) => M5.stays hW)
    have AR := Lib.hid (fun W (hW : Below x5.heap.size x5 W) => R5.stays hW)
    have AK := Lib.hid (fun W (hW : Below x5.heap.size x5 W) => K5.stays hW)
    have AC := Lib.hid (fun W (hW : Below x5.heap.size x5 W) => show W.cell? ⟨sb, 0, none⟩ = some (.map (some mb)) by rw [(AR.out W hW).cell]; rfl)
    refine region_quiet_tail (C := (fun W => Below x5.heap.size x5 W)) 8 (by kernel_rfl) (by kernel_rfl) (Below.refl _ _).drew ?_
    simp only [List.take_succ_cons, List.take_zero]
    refine q_yields (v := ?_) (Or.inl ⟨by rfl, ?_⟩) ?_
    rotate_left
    · intro _ _; go_simp; with_reducible rfl
    simp only [Act.put, List.setIfInBounds_toArray, List.set_cons_zero, List.set_cons_succ]
    refine q_yields (v := ?_) (Or.inl ⟨by rfl, ?_⟩) ?_
    rotate_left
    · intro _ _; go_simp; with_reducible rfl
    simp only [Act.put, List.setIfInBounds_toArray, List.set_cons_zero, List.set_cons_succ]
    refine q_yields (v := ?_) (Or.inl ⟨by rfl, ?_⟩) ?_
    rotate_left
    · intro _ _; go_simp; with_reducible rfl
    simp only [Act.put, List.setIfInBounds_toArray, List.set_cons_zero, List.set_cons_succ]
    refine q_yields (v := .map (some mb)) (Or.inl ⟨by rfl, fun wq hC => by have hcell := AC.out wq hC; go_simp; try with_reducible rfl⟩) ?_
    simp only [Act.put, List.setIfInBounds_toArray, List.set_cons_zero, List.set_cons_succ]
    refine q_yields (yields_row (by rfl) _ _ rfl _ rfl AP.out Try.underlying72 rfl HP.out) ?_
    simp only [Act.put, List.setIfInBounds_toArray, List.set_cons_zero, List.set_cons_succ]
    refine q_yields (yields_row (by rfl) _ _ rfl _ rfl AK.out Try.underlying34 rfl HN.out) ?_
    simp only [Act.put, List.setIfInBounds_toArray, List.set_cons_zero, List.set_cons_succ]
    refine q_yields (v := ?_) (Or.inl ⟨by rfl, ?_⟩) ?_
    rotate_left
    · intro _ _; go_simp; with_reducible rfl
    simp only [Act.put, List.setIfInBounds_toArray, List.set_cons_zero, List.set_cons_succ]
    refine q_yields (yields_built2 (by rfl) 75 0 1 (.tmp 47) (.tmp 48) rfl (.agg (cookieA CN)) (.string site) rfl rfl (keptA KN) HBK.out) ?_
    simp only [Act.put, List.setIfInBounds_toArray, List.set_cons_zero, List.set_cons_succ]
    refine wpQuiet_nil ?_
    intro x6 hC
    have M6 := AM.out x6 hC
    have R6 := AR.out x6 hC
    have C6 := C5.trans (.of hC (Nat.le_refl _))
    clear AP AM AR AK AC C5 M5 R5 P5 K5 hC
    simp only [List.drop_succ_cons, List.drop_zero]
    go_wp2_with (at_mapUpdate; refine store_shelf rfl _ _ _ rfl rfl M6 h.okay hc rfl rfl HKK.out HKO.out.cookie HPM.out (by have := h.length; omega) ?_; intro x7 hM hT)
    go_ret
    have hR : Row x7 sb 56 #[.map (some mb), .int .i64 t.last] := (hT.grown.block sb R6.lt (fun e => h.apart (Option.some.inj e).symm)).trans R6
    refine ⟨rfl, ⟨HW.out, fun k hk => ?_, HFW.out, h.apart, hR, hM⟩, C6.trans (.turned hT)⟩
    rcases List.mem_cons.1 (HPM.out.mem_iff.1 hk) with e | e
    · rw [e]; exact HKO.out
    · exact h.okay k (List.mem_filter.1 e).1
end Go.Proofs.Ytdfcnodlddeccaa
