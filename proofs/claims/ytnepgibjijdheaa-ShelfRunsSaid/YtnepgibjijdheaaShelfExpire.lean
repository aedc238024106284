/- The walk of a shelf's Expire. -/
import Derived.Test.YtnepgibjijdheaaShelfAt
namespace Go.Proofs.Ytnepgibjijdheaa
open Go.RowKit Go.Maps
set_option maxRecDepth 100000 in
set_option maxHeartbeats 4000000 in
theorem expireShelf_calls (now : Int) {sb mb : Nat} {s : Sh.Shelf} (w : World) (h : ShelfAt w sb mb s) :
    Calls Try.prog 25 #[.pointer (some ⟨sb, 0, none⟩), .int .i64 now] w fun e w' => e = .returned (.int .i64 ((Sh.expire s now).2 : Int)) ∧ ShelfAt w' sb mb (Sh.expire s now).1 ∧ Turn2 sb mb w w' := by
  have z0 := zeroPlace
  have z1 := zeroKept
  have c0 := h.cell0
  have hle := h.length
  obtain ⟨x1, x2, x3⟩ := Sh.expire_is s now
  have HW := Lib.hid (Sh.well_expire h.well now)
  obtain ⟨⟨t, m⟩, ht⟩ : ∃ t, Sh.expire s now = t := ⟨_, rfl⟩
  rw [ht] at x1 x2 x3 HW ⊢
  dsimp only at x1 x2 x3 HW ⊢
  have HOK := Lib.hid h.okay
  have HCT : Hid (∀ S : List Sh.Kept, (S ++ []).Perm s.l → S.countP (fun k => !Sh.alive now k) = m) := Lib.hid (fun S hp => by rw [List.append_nil] at hp; rw [x3]; exact hp.countP_eq _)
  have HLE : Hid (∀ S T : List Sh.Kept, (S ++ T).Perm s.l → S.countP (fun k => !Sh.alive now k) ≤ 1000000) := Lib.hid (fun S T hp => by
    have h1 := hp.length_eq
    have h2 := List.countP_le_length (p := fun k : Sh.Kept => !Sh.alive now k) (l := S)
    rw [List.length_append] at h1
    omega)
  have HEND : Hid (∀ W (S L : List Sh.Kept), (S ++ []).Perm s.l → L.Perm (S.filter (Sh.alive now) ++ []) → MapAt W mb L → Row W sb 56 #[.map (some mb), .int .i64 s.last] → ShelfAt W sb mb t) := Lib.hid (fun W S L hp hL hM hR => by
    rw [List.append_nil] at hp hL
    refine ⟨HW.out, fun k hk => ?_, by rw [x2]; exact h.few, h.apart, by rw [x2]; exact hR, hM.perm (hL.trans ?_)⟩
    · rw [x1] at hk
      exact h.okay k (List.mem_filter.1 hk).1
    · rw [x1]
      exact hp.filter _)
  have HM := Lib.hid h
  clear hle x1 x2 x3 ht h
  go_enter Try.func25, Try.ntmps25
  go_wp2_with (at_range; refine range_shelf rfl _ rfl rfl HM.out.map HM.out.keys HM.out.okay ?_; intro w1 hr1 hg1 hs1)
  go_frame
  have C1 : Below w.heap.size w w1 := (Below.refl _ w).grown hg1 (Nat.le_refl _) (fun _ e => by cases e)
  have R1 : Row w1 sb 56 #[.map (some mb), .int .i64 s.last] := (hg1.block sb HM.out.row.lt (by simp)).trans HM.out.row
  have hsb := HM.out.row.lt
  have hap := HM.out.apart
  clear hs1 c0
  go_loopw [5] (fun v wr => ∃ S T L, (S ++ T).Perm s.l ∧ L.Perm (S.filter (Sh.alive now) ++ T) ∧ v = .int .i64 ((S.countP fun k => !Sh.alive now k : Nat) : Int) ∧ Rng wr mb w.heap.size s.l.length L T ∧ Row wr sb 56 #[.map (some mb), .int .i64 s.last] ∧ Turn2 sb mb w wr)
    (fun _ wr => wr.rangeLeft mb w.heap.size)
  case atStart => exact ⟨[], s.l, s.l, List.Perm.refl _, List.Perm.refl _, rfl, hr1, R1, .of C1 (Nat.le_refl _)⟩
  case round =>
    obtain ⟨S, T, L, hp, hL, rfl, hr, hR, hb⟩ := hrel
    clear hr1 C1 hg1 R1
    have hle := HLE.out S T hp
    go_wp2_with (first | (at_next; refine next_shelf rfl _ rfl rfl hr ?_ ?_))
    · rintro rfl
      have HC := Lib.hid (HCT.out S hp)
      have HE := Lib.hid (HEND.out wr S L hp hL hr.map hR)
      go_wp2
      go_ret
      exact ⟨by rw [HC.out]; rfl, HE.out, hb⟩
    · intro k T' w2 hpt hr2 hlt hg2 hs2 hen
      have HS2 := Lib.hid hs2
      obtain ⟨hp2, hkm⟩ := mem_left hp hpt
      have ko := HOK.out k hkm
      have HLT := Lib.hid hlt
      have hkL := hr.in_ hpt
      have hfr := hr.fresh hpt
      have hrl : w.heap.size ≠ sb := by omega
      have C2 : Turn2 sb mb w w2 := ⟨hg2.os.trans hb.os, hg2.tape.trans hb.tape, hg2.output.trans hb.output, Nat.le_trans hb.size hg2.size, fun i hi h1 h2 => (hg2.block i (Nat.lt_of_lt_of_le hi hb.size) (fun e => by have := Option.some.inj e; omega)).trans (hb.same i hi h1 h2)⟩
      have R2 : Row w2 sb 56 #[.map (some mb), .int .i64 s.last] := (hg2.block sb hR.lt (fun e => hrl (Option.some.inj e).symm)).trans hR
      have ha := ko.addr
      have HP := Lib.hid (show (Try.prog.info? 72).map (·.size) = some (placeA k.c).size by rw [placeA_size k.c ha]; exact infoPlaceS)
      have HPZ := Lib.hid (show (placeA Ma.zero).size = (placeA k.c).size by rw [placeA_size k.c ha]; rfl)
      have HP1 := Lib.hid (placeA_one k.c)
      obtain ⟨X, hX⟩ : ∃ X, keptA k = X := ⟨_, rfl⟩
      rw [hX] at hen
      have HX := Lib.hid (show (Try.prog.info? 75).map (·.size) = some X.size by rw [← hX, keptA_size _ ko.addr]; exact infoKept)
      have HXZ := Lib.hid (show (keptA Sh.zeroK).size = X.size by rw [← hX, keptA_size _ ko.addr]; rfl)
      have HX1 := Lib.hid (show X.all (·.oneCell') = true by rw [← hX]; exact keptA_one _)
      have hX25 : X[25]? = some (.int .i64 k.c.expires) := by rw [← hX]; exact keptA_cell (cookieA_expires k.c ha)
      -- the two variables of the round
      have hN : (w2.alloc (.cells (placeA Ma.zero) 72)).heap.size = w2.heap.size + 1 := by simp
      have T6 := (Row.new w2 72 (placeA Ma.zero)).alloc (.cells (keptA Sh.zeroK) 75)
      have T7 := Row.new (w2.alloc (.cells (placeA Ma.zero) 72)) 75 (keptA Sh.zeroK)
      rw [hN] at T7
      have D0 := ((Below.refl w2.heap.size w2).alloc (Nat.le_refl _) (.cells (placeA Ma.zero) 72)).alloc (by rw [hN]; omega) (.cells (keptA Sh.zeroK) 75)
      have hne : w2.heap.size + 1 ≠ w2.heap.size := by omega
      have U6 := (T6.whole (placeA k.c)).aside (Ne.symm hne) X
      have T8 := T7.aside hne (placeA k.c)
      have U7 := T8.whole X
      have D1 := below_setRow (g := w2.heap.size) D0 (Nat.le_refl _) (placeA k.c)
      have D2 := below_setRow (g := w2.heap.size + 1) D1 (by omega) X
      have u25 := (U7.cell 25).trans hX25
      have hr3 := hr2.stays D2
      have HL3 : Hid (World.rangeLeft _ mb w.heap.size < wr.rangeLeft mb w.heap.size) := Lib.hid (by rw [hr2.left_stays D2]; exact HLT.out)
      have R3 := R2.stays D2
      have C3 := C2.trans (.of D2 (Nat.le_refl _))
      have HA : Hid (Sh.alive now k = !decide (k.c.expires ≤ now)) := Lib.hid (by
        unfold Sh.alive
        by_cases hq : k.c.expires ≤ now
        · rw [decide_eq_true hq, decide_eq_false (by omega)]; rfl
        · rw [decide_eq_false hq, decide_eq_true (by omega)]; rfl)
      have HSN : Hid (((S ++ [k]).countP fun k => !Sh.alive now k) = (S.countP fun k => !Sh.alive now k) + (if !Sh.alive now k then 1 else 0)) := Lib.hid (by
        rw [List.countP_append, List.countP_cons, List.countP_nil]; simp)
      have HFN : Hid ((S ++ [k]).filter (Sh.alive now) = S.filter (Sh.alive now) ++ (if Sh.alive now k then [k] else [])) := Lib.hid (by
        rw [List.filter_append, List.filter_cons, List.filter_nil])
      clear hs2 hlt hg2 hr2 hX hX25 D0 D1 D2 R2 C2 hN T7
      generalize k.c.expires = ex at *
      by_cases hq : ex ≤ now
      · rw [decide_eq_true hq] at HA
        rw [HA.out] at HSN HFN
        have hLn : L.Perm (k :: (S.filter (Sh.alive now) ++ T')) := hL.trans ((List.Perm.append_left _ hpt).trans List.perm_middle)
        go_wp2_with (first
          | (refine at_store 72 (.tmp 6) (.tmp 16) rfl ?_; refine wpList_store_row rfl 72 _ _ rfl w2.heap.size (placeA k.c) rfl rfl 72 _ T6 HP.out HPZ.out HP1.out ?_)
          | (refine at_store 75 (.tmp 7) (.tmp 17) rfl ?_; refine wpList_store_row rfl 75 _ _ rfl (w2.heap.size + 1) X rfl rfl 75 _ T8 HX.out HXZ.out HX1.out ?_))
        generalize (World.setRow (World.setRow _ _ _) (w2.heap.size + 1) X) = x3 at *
        generalize w2.heap.size = g6 at *
        have AP := Lib.hid (fun W (hW : Below x3.heap.size x3 W) => U6.stays hW)
        have AR := Lib.hid (fun W (hW : Below x3.heap.size x3 W) => R3.stays hW)
        have AG := Lib.hid (fun W (hW : Below x3.heap.size x3 W) => hr3.stays hW)
        have AL := Lib.hid (fun W (hW : Below x3.heap.size x3 W) => hr3.left_stays hW)
        have AC := Lib.hid (fun W (hW : Below x3.heap.size x3 W) => show W.cell? ⟨sb, 0, none⟩ = some (.map (some mb)) by rw [(AR.out W hW).cell]; rfl)
        clear U6 U7 u25 T8 T6 R3
        refine region_quiet_tail (C := (fun W => Below x3.heap.size x3 W)) 5 (by kernel_rfl) (by kernel_rfl) (Below.refl _ _).drew ?_
        simp only [List.take_succ_cons, List.take_zero]
        refine q_yields (v := ?_) (Or.inl ⟨by rfl, ?_⟩) ?_
        rotate_left
        · intro _ _; go_simp; with_reducible rfl
        simp only [Act.put, List.setIfInBounds_toArray, List.set_cons_zero, List.set_cons_succ]
        refine q_yields (v := ?_) (Or.inl ⟨by rfl, ?_⟩) ?_
        rotate_left
        · intro _ _; go_simp; with_reducible rfl
        simp only [Act.put, List.setIfInBounds_toArray, List.set_cons_zero, List.set_cons_succ]
        refine q_yields (v := ?_) (Or.inl ⟨by rfl, ?_⟩) ?_
        rotate_left
        · intro _ _; go_simp; with_reducible rfl
        simp only [Act.put, List.setIfInBounds_toArray, List.set_cons_zero, List.set_cons_succ]
        refine q_yields (v := .map (some mb)) (Or.inl ⟨by rfl, fun wq hC => by have hcell := AC.out wq hC; go_simp; try with_reducible rfl⟩) ?_
        simp only [Act.put, List.setIfInBounds_toArray, List.set_cons_zero, List.set_cons_succ]
        refine q_yields (yields_row (by rfl) _ _ rfl _ rfl AP.out Try.underlying72 rfl HP.out) ?_
        simp only [Act.put, List.setIfInBounds_toArray, List.set_cons_zero, List.set_cons_succ]
        refine wpQuiet_nil ?_
        intro x4 hC
        have R4 := AR.out x4 hC
        have G4 := AG.out x4 hC
        have L4 := Lib.hid (AL.out x4 hC)
        have C4 := C3.trans (.of hC (Nat.le_refl _))
        clear AP AR AG AL AC C3 hC hr3
        simp only [List.drop_succ_cons, List.drop_zero]
        go_wp2_with (at_delete; refine drop_round rfl _ _ rfl rfl G4 hkL rfl hLn hfr ?_; intro x5 G5 l5 hT; have L5 := Lib.hid l5; clear l5)
        go_roundw
        case rel =>
          refine ⟨S ++ [k], T', S.filter (Sh.alive now) ++ T', hp2, by rw [HFN.out]; simp, by rw [HSN.out]; go_num, G5, (hT.grown.block sb R4.lt (fun e => hap (Option.some.inj e).symm)).trans R4, C4.trans (.turned hT)⟩
        case measure => exact Nat.lt_of_le_of_lt L5.out (by rw [L4.out]; exact HL3.out)
      · rw [decide_eq_false hq] at HA
        rw [HA.out] at HSN HFN
        have hLn : L.Perm ((S.filter (Sh.alive now) ++ [k]) ++ T') := hL.trans ((List.Perm.append_left _ hpt).trans (by simp))
        go_wp2_with (first
          | (refine at_store 72 (.tmp 6) (.tmp 16) rfl ?_; refine wpList_store_row rfl 72 _ _ rfl w2.heap.size (placeA k.c) rfl rfl 72 _ T6 HP.out HPZ.out HP1.out ?_)
          | (refine at_store 75 (.tmp 7) (.tmp 17) rfl ?_; refine wpList_store_row rfl 75 _ _ rfl (w2.heap.size + 1) X rfl rfl 75 _ T8 HX.out HXZ.out HX1.out ?_))
        go_roundw
        case rel => exact ⟨S ++ [k], T', L, hp2, by rw [HFN.out]; exact hLn, by rw [HSN.out]; go_num, hr3, R3, C3⟩
        case measure => exact HL3.out
end Go.Proofs.Ytnepgibjijdheaa
