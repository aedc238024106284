/- The walk of Word. -/
import Derived.Test.YtdidogcgoghdmaaDfaRightWord
import Derived.Deep.DeepCutAuto
import Derived.Deep.CutBlock
import Derived.RegionTactic
namespace Go.Proofs.Ytdidogcgoghdmaa
open Go.RowKit
/-- What is answered, its rows the call's own. -/
def OwnAuto (w : World) (f : Au.Fa) (e : Ending) (w' : World) : Prop := ∃ nv av n m, e = .returned (.tuple #[.agg #[.int .i64 (f.k : Int), .int .i64 (f.start : Int), nv, av], .int .i64 0]) ∧ w'.ownsRow w.heap.size 3 1 nv n (natVs f.next) ∧ w'.ownsRow w.heap.size 4 1 av m (boolVs f.acc) ∧ Below w.heap.size w w'
theorem OwnAuto.new {w w' : World} {f : Au.Fa} {e : Ending} (hf : Au.Sound f) (h : OwnAuto w f e w') : NewAuto w (Au.Dv.of f) 0 e w' := by
  obtain ⟨nv, av, n, m, rfl, h1, h2, h3⟩ := h
  exact ⟨_, rfl, sound_auto hf (nums_own h1) (bools_own h2), h3⟩
/-- What Word answers. -/
def WordPost (w : World) (k : Int) (x : List Int) (e : Ending) (w' : World) : Prop := (wordCode k x = 0 ∧ ∃ c, Au.WordOf k.toNat (Au.toN x) c ∧ OwnAuto w c e w') ∨ (wordCode k x ≠ 0 ∧ NewAuto w Au.Dv.zero (wordCode k x) e w')
theorem wordCode_zero {k : Int} {x : List Int} (h : wordCode k x = 0) : 1 ≤ k ∧ k ≤ 512 ∧ Au.syms k x = true ∧ x.length ≤ 65534 := by
  unfold wordCode at h
  split at h
  · rename_i a
    split at h
    · cases h
    · exact ⟨a.1, a.2.1, a.2.2, by omega⟩
  · cases h
set_option maxRecDepth 100000 in
set_option maxHeartbeats 8000000 in
theorem word_calls (k : Int) (u : Value) (x : List Int) (w : World) (hx : Nums w u x) (hxl : x.length ≤ maxLen) :
    Calls Try.prog 10 #[.int .i64 k, u] w (WordPost w k x) := by
  have HRW := Lib.hid (fun W h => rightWord_calls k u x W h hxl)
  have HX := Lib.hid hx
  obtain ⟨B, cb, rfl⟩ := hx.slice
  by_cases h0 : ¬ wordCode k x = 0
  · have HPost : Hid (∀ w', Below w.heap.size w w' → WordPost w k x (.returned (.tuple #[.agg zeroD, .int .i64 (wordCode k x)])) w') := Lib.hid (fun w' h => .inr ⟨h0, _, rfl, zero_auto w', h⟩)
    have e1 : (wordCode k x != 0) = true := by rw [bne_iff_ne]; exact h0
    generalize WordPost w k x = post at *
    generalize wordCode k x = r at *
    generalize x.length = n at *
    have hb0 := (Below.refl w.heap.size w).alloc (Nat.le_refl _) (.cells zeroD 25)
    have R0 := Row.new w 25 zeroD
    clear hx h0
    go_enter Try.func10, Try.ntmps10
    go_wp2_with (first
      | (go_at_call 31; refine (HRW.out _ (HX.out.later hb0 (Nat.le_refl _))).mono ?_; rintro e w1 ⟨rfl, hb⟩; have R1 := R0.stays hb)
      | (refine wpList_store_row rfl 25 _ _ rfl w.heap.size zeroD rfl rfl 25 _ R1 infoDfa rfl zeroD_one ?_))
    exact bodyPost_ret (v := .tuple #[.agg zeroD, .int .i64 r]) (results_cell_two rfl _ _ w.heap.size _ _ _ rfl _ rfl (R1.whole _) Try.underlying25 rfl infoDfa) rfl (HPost.out _ (below_setRow (hb0.trans (hb.mono hb0.size)) (Nat.le_refl _) _))
  have h0 := Classical.not_not.1 h0
  obtain ⟨k1, k2, hsy, hlen⟩ := wordCode_zero h0
  obtain ⟨hx1, hx2⟩ := Au.syms_wd (k := k.toNat) (w := x) (by rw [Int.toNat_of_nonneg (by omega)]; exact hsy)
  have HPost : Hid (∀ c e w', Au.WordOf k.toNat (Au.toN x) c → OwnAuto w c e w' → WordPost w k x e w') := Lib.hid (fun c e w' h1 h2 => .inl ⟨h0, c, h1, h2⟩)
  generalize WordPost w k x = post at *
  rw [h0] at HRW
  obtain ⟨y, hy⟩ : ∃ y, y = Au.toN x := ⟨_, rfl⟩
  rw [← hy] at HPost hx1 hx2
  have hyl : x.length = y.length := by rw [hy, Au.toN_length]
  rw [hyl] at HRW HX hlen ⊢
  obtain ⟨kk, rfl⟩ : ∃ kk : Nat, k = (kk : Int) := ⟨k.toNat, by omega⟩
  rw [Int.toNat_natCast] at HPost hx2
  have k1' : 1 ≤ kk := by omega
  have k2' : kk ≤ 512 := by omega
  obtain ⟨n, hn⟩ : ∃ n, y.length = n := ⟨_, rfl⟩
  rw [hn] at HRW HX hlen ⊢
  have HW := Lib.hid hx2
  have HY := Lib.hid hx1
  have HN := Lib.hid hn
  have hb0 := (Below.refl w.heap.size w).alloc (Nat.le_refl _) (.cells zeroD 25)
  have R0 := Row.new w 25 zeroD
  clear hx h0 hsy hx1 hx2 hy hyl hn
  have hNK : kk * (n + 2) ≤ 33554432 := by
    have h : kk * (n + 2) ≤ 512 * 65536 := Nat.mul_le_mul (by omega) (by omega)
    exact h
  obtain ⟨N, hN⟩ : ∃ N, kk * (n + 2) = N := ⟨_, rfl⟩
  rw [hN] at hNK
  have HNN := Lib.hid hN
  have hN1 : 1 ≤ N := by rw [← hN]; exact Nat.mul_pos (by omega) (by omega)
  have q2 : IntKind.i64.wrap ((n : Int) + 1 + 1) = (n : Int) + 2 := by rw [IntKind.wrap_i64]; omega
  have q3 : IntKind.i64.wrap ((kk : Int) * ((n : Int) + 2)) = (N : Int) := by rw [show (n : Int) + 2 = ((n + 2 : Nat) : Int) by omega, ← Int.natCast_mul, hN, IntKind.wrap_i64]; omega
  have hmb : ∀ W : World, (Instr.makeSlice 23 (.int .i64 ((n : Int) + 2)) (.int .i64 ((n : Int) + 2))).run Try.prog W = .ok (.slice (some ⟨W.heap.size, 0, none⟩) (n + 2) (n + 2)) (W.alloc (.cells (List.replicate (n + 2) (.bool false)).toArray 4)) := fun W => by
    have h := make_one (P := Try.prog) Try.underlying23 infoBool15 rfl (n + 2) (by omega) (by omega) W
    rw [show ((n + 2 : Nat) : Int) = (n : Int) + 2 by omega] at h
    exact h
  have HRP : Hid (∀ W g, W.cell? ⟨g, 0, none⟩ = some (.int .i64 ((n : Int) + 1)) → Calls Try.prog 32 #[.slice (some ⟨g, 0, none⟩) 1 1, .int .i64 (N : Int)] W fun e w' => ∃ u, e = .returned u ∧ w'.ownsRow W.heap.size 3 1 u N (List.replicate N (.int .i64 ((n : Int) + 1))) ∧ Below W.heap.size W w') := Lib.hid (fun W g h => repeat_calls _ N g W hN1 (by omega) h)
  clear hN
  go_enter Try.func10, Try.ntmps10
  go_wp2_with (first
    | (go_at_call 31; refine (HRW.out _ (HX.out.later hb0 (Nat.le_refl _))).mono ?_; rintro e w1 ⟨rfl, hb⟩; have R1 := R0.stays hb))
  have C0 := Lib.hid ((hb0.trans (hb.mono hb0.size)).drew)
  have RZ_0 := Lib.hid (R1.drew)
  have HX1 := Lib.hid (HX.out.later (hb0.trans (hb.mono hb0.size)) (Nat.le_refl _))
  clear hb0 hb R0 R1 HRW
  go_cut [9] (fun s wx => ∃ gd un um, s = .pointer (some ⟨gd, 0, none⟩) ∧ Row wx gd 25 #[.int .i64 (kk : Int), .int .i64 0, un, um] ∧ wx.ownsRow w.heap.size 3 1 un N (List.replicate N (.int .i64 ((n : Int) + 1))) ∧ wx.ownsRow w.heap.size 4 1 um (n + 2) (List.replicate (n + 2) (.bool false)) ∧ Row wx w.heap.size 25 zeroD ∧ Below w.heap.size w wx)
  case first => as_aux_lemma =>
    refine wp_region_held_drew (S := fun _ => True) (by kernel_rfl) trivial (fun hS => ?_)
    generalize w1.drew = v0 at *
    refine wpAnyH_take (i := 0) (v := ?_) rfl (by kernel_rfl) (by kernel_rfl) (by kernel_rfl) (fun _ _ _ h => h) (Or.inl ⟨by rfl, ?_⟩) (by assumption) ?_
    rotate_left
    · intro _ _; go_simp; with_reducible rfl
    simp only [Act.put, List.setIfInBounds_toArray, List.set_cons_zero, List.set_cons_succ, List.getElem_toArray, List.getElem_cons_zero]
    refine wpAnyH_take (i := 1) (v := ?_) rfl (by kernel_rfl) (by kernel_rfl) (by kernel_rfl) (fun _ _ _ h => h) (Or.inl ⟨by rfl, ?_⟩) (by assumption) ?_
    rotate_left
    · intro _ _; go_simp; with_reducible rfl
    simp only [Act.put, List.setIfInBounds_toArray, List.set_cons_zero, List.set_cons_succ, List.getElem_toArray, List.getElem_cons_zero, List.getElem_cons_succ]
    refine wpAnyH_take (i := 3) (v := ?_) rfl (by kernel_rfl) (by kernel_rfl) (by kernel_rfl) (fun _ _ _ h => h) (Or.inl ⟨by rfl, ?_⟩) (by assumption) ?_
    rotate_left
    · intro _ _; go_simp; with_reducible rfl
    simp only [Act.put, List.setIfInBounds_toArray, List.set_cons_zero, List.set_cons_succ, List.getElem_toArray, List.getElem_cons_zero, List.getElem_cons_succ]
    refine wpAnyH_take (i := 4) (v := ?_) rfl (by kernel_rfl) (by kernel_rfl) (by kernel_rfl) (fun _ _ _ h => h) (Or.inl ⟨by rfl, ?_⟩) (by assumption) ?_
    rotate_left
    · intro _ _; go_simp; with_reducible rfl
    simp only [Act.put, List.setIfInBounds_toArray, List.set_cons_zero, List.set_cons_succ, List.getElem_toArray, List.getElem_cons_zero, List.getElem_cons_succ]
    refine wpAnyH_take (i := 5) (v := ?_) rfl (by kernel_rfl) (by kernel_rfl) (by kernel_rfl) (fun _ _ _ h => h) (Or.inl ⟨by rfl, ?_⟩) (by assumption) ?_
    rotate_left
    · intro _ _; go_simp; with_reducible rfl
    simp only [Act.put, List.setIfInBounds_toArray, List.set_cons_zero, List.set_cons_succ, List.getElem_toArray, List.getElem_cons_zero, List.getElem_cons_succ]
    refine wpAnyH_take (i := 6) (v := ?_) rfl (by kernel_rfl) (by kernel_rfl) (by kernel_rfl) (fun _ _ _ h => h) (Or.inl ⟨by rfl, ?_⟩) (by assumption) ?_
    rotate_left
    · intro _ _; go_simp; with_reducible rfl
    simp only [Act.put, List.setIfInBounds_toArray, List.set_cons_zero, List.set_cons_succ, List.getElem_toArray, List.getElem_cons_zero, List.getElem_cons_succ]
    refine wpAnyH_take (i := 8) (v := ?_) rfl (by kernel_rfl) (by kernel_rfl) (by kernel_rfl) (fun _ _ _ h => h) (Or.inl ⟨by rfl, ?_⟩) (by assumption) ?_
    rotate_left
    · intro _ _; go_simp; with_reducible rfl
    simp only [Act.put, List.setIfInBounds_toArray, List.set_cons_zero, List.set_cons_succ, List.getElem_toArray, List.getElem_cons_zero, List.getElem_cons_succ]
    refine wpAnyH_take (i := 9) (v := ?_) rfl (by kernel_rfl) (by kernel_rfl) (by kernel_rfl) (fun _ _ _ h => h) (Or.inl ⟨by rfl, ?_⟩) (by assumption) ?_
    rotate_left
    · intro _ _; go_simp; with_reducible rfl
    simp only [Act.put, List.setIfInBounds_toArray, List.set_cons_zero, List.set_cons_succ, List.getElem_toArray, List.getElem_cons_zero, List.getElem_cons_succ]
    -- REGION
    refine wpAnyH_ready (rs := [2, 10, 12]) (by kernel_rfl) (by simp) (AllReadyH.cons rfl (fun K hK => ?_) (AllReadyH.cons rfl (fun K hK => ?_) (AllReadyH.cons rfl (fun K hK => ?_) AllReadyH.nil)))
    · have D := (Below.refl v0.heap.size v0).alloc (Nat.le_refl _) (.cells #[.int .i64 ((n : Int) + 1)] 3)
      have C1 := Lib.hid (C0.out.alloc C0.out.size (.cells #[.int .i64 ((n : Int) + 1)] 3))
      have LgB := Lib.hid RZ_0.out.lt
      have FB_1 := Lib.hid (Row.new v0 3 #[.int .i64 ((n : Int) + 1)])
      have RZ_1 := Lib.hid (RZ_0.out.stays D)
      rw [if_pos (by rfl)]
      go_simp
      refine hK.out _ _ trivial (fun _ => ?_)
      clear hK K
      clear RZ_0 C0 D
      generalize v0.alloc (.cells #[.int .i64 ((n : Int) + 1)] 3) = v1 at *
      generalize v0.heap.size = gB at *
      refine wpAnyH_ready (rs := [7, 10, 12]) (by kernel_rfl) (by simp) (AllReadyH.cons rfl (fun K hK => ?_) (AllReadyH.cons rfl (fun K hK => ?_) (AllReadyH.cons rfl (fun K hK => ?_) AllReadyH.nil)))
      · rw [if_pos (by rfl)]
        go_simp
        refine (HRP.out v1 _ (FB_1.out.cell 0)).mono ?_
        rintro e v2 ⟨u2, rfl, HU, D⟩
        have C2 := Lib.hid (C1.out.trans (D.mono C1.out.size))
        have RZ_2 := Lib.hid (RZ_1.out.stays D)
        have FB_2 := Lib.hid (FB_1.out.stays D)
        have FU_2 := Lib.hid (own_base HU C1.out.size)
        clear HU
        obtain ⟨Au2, cu2, rfl, _⟩ := own_any FU_2.out
        go_wp2_with fail
        refine hK.out _ _ trivial (fun _ => ?_)
        clear hK K
        clear RZ_1 FB_1 C1 D
        refine wpAnyH_ready (rs := [10, 12]) (by kernel_rfl) (by simp) (AllReadyH.cons rfl (fun K hK => ?_) (AllReadyH.cons rfl (fun K hK => ?_) AllReadyH.nil))
        · have D := (Below.refl v2.heap.size v2).alloc (Nat.le_refl _) (.cells (Array.replicate (n + 2) (.bool false)) 4)
          have C3 := Lib.hid (C2.out.alloc C2.out.size (.cells (Array.replicate (n + 2) (.bool false)) 4))
          have LgM := Lib.hid RZ_2.out.lt
          have FM_3 := Lib.hid (own_base (own_bools v2 (n + 2) (by omega)) (Nat.le_of_lt LgM.out))
          have RZ_3 := Lib.hid (RZ_2.out.stays D)
          have FB_3 := Lib.hid (FB_2.out.stays D)
          have FU_3 := Lib.hid (own_keep FU_2.out D)
          rw [if_pos (by rfl)]
          go_simp
          refine hK.out _ _ trivial (fun _ => ?_)
          clear hK K
          clear RZ_2 FB_2 FU_2 C2 D
          generalize v2.alloc (.cells (Array.replicate (n + 2) (.bool false)) 4) = v3 at *
          generalize v2.heap.size = gM at *
          refine wpAnyH_take (i := 11) (v := ?_) rfl (by kernel_rfl) (by kernel_rfl) (by kernel_rfl) (fun _ _ _ h => h) (Or.inl ⟨by rfl, ?_⟩) (by assumption) ?_
          rotate_left
          · intro _ _; go_simp; with_reducible rfl
          simp only [Act.put, List.setIfInBounds_toArray, List.set_cons_zero, List.set_cons_succ, List.getElem_toArray, List.getElem_cons_zero, List.getElem_cons_succ]
          refine wpAnyH_ready (rs := [12]) (by kernel_rfl) (by simp) (AllReadyH.cons rfl (fun K hK => ?_) AllReadyH.nil)
          have D := (Below.refl v3.heap.size v3).alloc (Nat.le_refl _) (.cells #[.int .i64 0, .int .i64 0, .slice none 0 0, .slice none 0 0] 25)
          have C4 := Lib.hid (C3.out.alloc C3.out.size (.cells #[.int .i64 0, .int .i64 0, .slice none 0 0, .slice none 0 0] 25))
          have LgA := Lib.hid RZ_3.out.lt
          have FA_4 := Lib.hid (Row.new v3 25 #[.int .i64 0, .int .i64 0, .slice none 0 0, .slice none 0 0])
          have RZ_4 := Lib.hid (RZ_3.out.stays D)
          have FB_4 := Lib.hid (FB_3.out.stays D)
          have FU_4 := Lib.hid (own_keep FU_3.out D)
          have FM_4 := Lib.hid (own_keep FM_3.out D)
          rw [if_pos (by rfl)]
          go_simp
          refine hK.out _ _ trivial (fun _ => ?_)
          clear hK K
          clear RZ_3 FB_3 FU_3 FM_3 C3 D
          generalize v3.alloc (.cells #[.int .i64 0, .int .i64 0, .slice none 0 0, .slice none 0 0] 25) = v4 at *
          generalize v3.heap.size = gA at *
          refine wpAnyH_ready (rs := [13]) (by kernel_rfl) (by simp) (AllReadyH.cons rfl (fun K hK => ?_) AllReadyH.nil)
          rw [if_pos (by rfl)]
          refine wp_store_row 25 _ _ rfl gA #[.int .i64 (kk : Int), .int .i64 0, .slice Au2 N cu2, .slice (some ⟨gM, 0, none⟩) (n + 2) (n + 2)] rfl rfl 25 _ FA_4.out infoDfa rfl (dfaD_one _ _ _ _ _ _ _ _) ?_
          refine hK.out _ _ trivial (fun _ => ?_)
          clear hK K
          refine wpAnyH_done (by kernel_rfl) ?_ _
          go_wp2
          go_meet
          exact ⟨gA, _, _, rfl, FA_4.out.whole _, own_row FU_4.out FA_4.out (by decide), own_row FM_4.out FA_4.out (by decide), Row.aside RZ_4.out (Nat.ne_of_lt LgA.out) _, below_setRow C4.out (Nat.le_of_lt LgA.out) _⟩
        · have D := (Below.refl v2.heap.size v2).alloc (Nat.le_refl _) (.cells #[.int .i64 0, .int .i64 0, .slice none 0 0, .slice none 0 0] 25)
          have C3 := Lib.hid (C2.out.alloc C2.out.size (.cells #[.int .i64 0, .int .i64 0, .slice none 0 0, .slice none 0 0] 25))
          have LgA := Lib.hid RZ_2.out.lt
          have FA_3 := Lib.hid (Row.new v2 25 #[.int .i64 0, .int .i64 0, .slice none 0 0, .slice none 0 0])
          have RZ_3 := Lib.hid (RZ_2.out.stays D)
          have FB_3 := Lib.hid (FB_2.out.stays D)
          have FU_3 := Lib.hid (own_keep FU_2.out D)
          rw [if_pos (by rfl)]
          go_simp
          refine hK.out _ _ trivial (fun _ => ?_)
          clear hK K
          clear RZ_2 FB_2 FU_2 C2 D
          generalize v2.alloc (.cells #[.int .i64 0, .int .i64 0, .slice none 0 0, .slice none 0 0] 25) = v3 at *
          generalize v2.heap.size = gA at *
          refine wpAnyH_ready (rs := [10]) (by kernel_rfl) (by simp) (AllReadyH.cons rfl (fun K hK => ?_) AllReadyH.nil)
          have D := (Below.refl v3.heap.size v3).alloc (Nat.le_refl _) (.cells (Array.replicate (n + 2) (.bool false)) 4)
          have C4 := Lib.hid (C3.out.alloc C3.out.size (.cells (Array.replicate (n + 2) (.bool false)) 4))
          have LgM := Lib.hid RZ_3.out.lt
          have FM_4 := Lib.hid (own_base (own_bools v3 (n + 2) (by omega)) (Nat.le_of_lt LgM.out))
          have RZ_4 := Lib.hid (RZ_3.out.stays D)
          have FB_4 := Lib.hid (FB_3.out.stays D)
          have FU_4 := Lib.hid (own_keep FU_3.out D)
          have FA_4 := Lib.hid (FA_3.out.stays D)
          rw [if_pos (by rfl)]
          go_simp
          refine hK.out _ _ trivial (fun _ => ?_)
          clear hK K
          clear RZ_3 FB_3 FU_3 FA_3 C3 D
          generalize v3.alloc (.cells (Array.replicate (n + 2) (.bool false)) 4) = v4 at *
          generalize v3.heap.size = gM at *
          refine wpAnyH_take (i := 11) (v := ?_) rfl (by kernel_rfl) (by kernel_rfl) (by kernel_rfl) (fun _ _ _ h => h) (Or.inl ⟨by rfl, ?_⟩) (by assumption) ?_
          rotate_left
          · intro _ _; go_simp; with_reducible rfl
          simp only [Act.put, List.setIfInBounds_toArray, List.set_cons_zero, List.set_cons_succ, List.getElem_toArray, List.getElem_cons_zero, List.getElem_cons_succ]
          refine wpAnyH_ready (rs := [13]) (by kernel_rfl) (by simp) (AllReadyH.cons rfl (fun K hK => ?_) AllReadyH.nil)
          rw [if_pos (by rfl)]
          refine wp_store_row 25 _ _ rfl gA #[.int .i64 (kk : Int), .int .i64 0, .slice Au2 N cu2, .slice (some ⟨gM, 0, none⟩) (n + 2) (n + 2)] rfl rfl 25 _ FA_4.out infoDfa rfl (dfaD_one _ _ _ _ _ _ _ _) ?_
          refine hK.out _ _ trivial (fun _ => ?_)
          clear hK K
          refine wpAnyH_done (by kernel_rfl) ?_ _
          go_wp2
          go_meet
          exact ⟨gA, _, _, rfl, FA_4.out.whole _, own_row FU_4.out FA_4.out (by decide), own_row FM_4.out FA_4.out (by decide), Row.aside RZ_4.out (Nat.ne_of_lt LgA.out) _, below_setRow C4.out (Nat.le_of_lt LgA.out) _⟩
      · have D := (Below.refl v1.heap.size v1).alloc (Nat.le_refl _) (.cells (Array.replicate (n + 2) (.bool false)) 4)
        have C2 := Lib.hid (C1.out.alloc C1.out.size (.cells (Array.replicate (n + 2) (.bool false)) 4))
        have LgM := Lib.hid RZ_1.out.lt
        have FM_2 := Lib.hid (own_base (own_bools v1 (n + 2) (by omega)) (Nat.le_of_lt LgM.out))
        have RZ_2 := Lib.hid (RZ_1.out.stays D)
        have FB_2 := Lib.hid (FB_1.out.stays D)
        rw [if_pos (by rfl)]
        go_simp
        refine hK.out _ _ trivial (fun _ => ?_)
        clear hK K
        clear RZ_1 FB_1 C1 D
        generalize v1.alloc (.cells (Array.replicate (n + 2) (.bool false)) 4) = v2 at *
        generalize v1.heap.size = gM at *
        refine wpAnyH_ready (rs := [7, 12]) (by kernel_rfl) (by simp) (AllReadyH.cons rfl (fun K hK => ?_) (AllReadyH.cons rfl (fun K hK => ?_) AllReadyH.nil))
        · rw [if_pos (by rfl)]
          go_simp
          refine (HRP.out v2 _ (FB_2.out.cell 0)).mono ?_
          rintro e v3 ⟨u2, rfl, HU, D⟩
          have C3 := Lib.hid (C2.out.trans (D.mono C2.out.size))
          have RZ_3 := Lib.hid (RZ_2.out.stays D)
          have FB_3 := Lib.hid (FB_2.out.stays D)
          have FM_3 := Lib.hid (own_keep FM_2.out D)
          have FU_3 := Lib.hid (own_base HU C2.out.size)
          clear HU
          obtain ⟨Au2, cu2, rfl, _⟩ := own_any FU_3.out
          go_wp2_with fail
          refine hK.out _ _ trivial (fun _ => ?_)
          clear hK K
          clear RZ_2 FB_2 FM_2 C2 D
          refine wpAnyH_take (i := 11) (v := ?_) rfl (by kernel_rfl) (by kernel_rfl) (by kernel_rfl) (fun _ _ _ h => h) (Or.inl ⟨by rfl, ?_⟩) (by assumption) ?_
          rotate_left
          · intro _ _; go_simp; with_reducible rfl
          simp only [Act.put, List.setIfInBounds_toArray, List.set_cons_zero, List.set_cons_succ, List.getElem_toArray, List.getElem_cons_zero, List.getElem_cons_succ]
          refine wpAnyH_ready (rs := [12]) (by kernel_rfl) (by simp) (AllReadyH.cons rfl (fun K hK => ?_) AllReadyH.nil)
          have D := (Below.refl v3.heap.size v3).alloc (Nat.le_refl _) (.cells #[.int .i64 0, .int .i64 0, .slice none 0 0, .slice none 0 0] 25)
          have C4 := Lib.hid (C3.out.alloc C3.out.size (.cells #[.int .i64 0, .int .i64 0, .slice none 0 0, .slice none 0 0] 25))
          have LgA := Lib.hid RZ_3.out.lt
          have FA_4 := Lib.hid (Row.new v3 25 #[.int .i64 0, .int .i64 0, .slice none 0 0, .slice none 0 0])
          have RZ_4 := Lib.hid (RZ_3.out.stays D)
          have FB_4 := Lib.hid (FB_3.out.stays D)
          have FM_4 := Lib.hid (own_keep FM_3.out D)
          have FU_4 := Lib.hid (own_keep FU_3.out D)
          rw [if_pos (by rfl)]
          go_simp
          refine hK.out _ _ trivial (fun _ => ?_)
          clear hK K
          clear RZ_3 FB_3 FM_3 FU_3 C3 D
          generalize v3.alloc (.cells #[.int .i64 0, .int .i64 0, .slice none 0 0, .slice none 0 0] 25) = v4 at *
          generalize v3.heap.size = gA at *
          refine wpAnyH_ready (rs := [13]) (by kernel_rfl) (by simp) (AllReadyH.cons rfl (fun K hK => ?_) AllReadyH.nil)
          rw [if_pos (by rfl)]
          refine wp_store_row 25 _ _ rfl gA #[.int .i64 (kk : Int), .int .i64 0, .slice Au2 N cu2, .slice (some ⟨gM, 0, none⟩) (n + 2) (n + 2)] rfl rfl 25 _ FA_4.out infoDfa rfl (dfaD_one _ _ _ _ _ _ _ _) ?_
          refine hK.out _ _ trivial (fun _ => ?_)
          clear hK K
          refine wpAnyH_done (by kernel_rfl) ?_ _
          go_wp2
          go_meet
          exact ⟨gA, _, _, rfl, FA_4.out.whole _, own_row FU_4.out FA_4.out (by decide), own_row FM_4.out FA_4.out (by decide), Row.aside RZ_4.out (Nat.ne_of_lt LgA.out) _, below_setRow C4.out (Nat.le_of_lt LgA.out) _⟩
        · have D := (Below.refl v2.heap.size v2).alloc (Nat.le_refl _) (.cells #[.int .i64 0, .int .i64 0, .slice none 0 0, .slice none 0 0] 25)
          have C3 := Lib.hid (C2.out.alloc C2.out.size (.cells #[.int .i64 0, .int .i64 0, .slice none 0 0, .slice none 0 0] 25))
          have LgA := Lib.hid RZ_2.out.lt
          have FA_3 := Lib.hid (Row.new v2 25 #[.int .i64 0, .int .i64 0, .slice none 0 0, .slice none 0 0])
          have RZ_3 := Lib.hid (RZ_2.out.stays D)
          have FB_3 := Lib.hid (FB_2.out.stays D)
          have FM_3 := Lib.hid (own_keep FM_2.out D)
          rw [if_pos (by rfl)]
          go_simp
          refine hK.out _ _ trivial (fun _ => ?_)
          clear hK K
          clear RZ_2 FB_2 FM_2 C2 D
          generalize v2.alloc (.cells #[.int .i64 0, .int .i64 0, .slice none 0 0, .slice none 0 0] 25) = v3 at *
          generalize v2.heap.size = gA at *
          refine wpAnyH_ready (rs := [7]) (by kernel_rfl) (by simp) (AllReadyH.cons rfl (fun K hK => ?_) AllReadyH.nil)
          rw [if_pos (by rfl)]
          go_simp
          refine (HRP.out v3 _ (FB_3.out.cell 0)).mono ?_
          rintro e v4 ⟨u2, rfl, HU, D⟩
          have C4 := Lib.hid (C3.out.trans (D.mono C3.out.size))
          have RZ_4 := Lib.hid (RZ_3.out.stays D)
          have FB_4 := Lib.hid (FB_3.out.stays D)
          have FM_4 := Lib.hid (own_keep FM_3.out D)
          have FA_4 := Lib.hid (FA_3.out.stays D)
          have FU_4 := Lib.hid (own_base HU C3.out.size)
          clear HU
          obtain ⟨Au2, cu2, rfl, _⟩ := own_any FU_4.out
          go_wp2_with fail
          refine hK.out _ _ trivial (fun _ => ?_)
          clear hK K
          clear RZ_3 FB_3 FM_3 FA_3 C3 D
          refine wpAnyH_take (i := 11) (v := ?_) rfl (by kernel_rfl) (by kernel_rfl) (by kernel_rfl) (fun _ _ _ h => h) (Or.inl ⟨by rfl, ?_⟩) (by assumption) ?_
          rotate_left
          · intro _ _; go_simp; with_reducible rfl
          simp only [Act.put, List.setIfInBounds_toArray, List.set_cons_zero, List.set_cons_succ, List.getElem_toArray, List.getElem_cons_zero, List.getElem_cons_succ]
          refine wpAnyH_ready (rs := [13]) (by kernel_rfl) (by simp) (AllReadyH.cons rfl (fun K hK => ?_) AllReadyH.nil)
          rw [if_pos (by rfl)]
          refine wp_store_row 25 _ _ rfl gA #[.int .i64 (kk : Int), .int .i64 0, .slice Au2 N cu2, .slice (some ⟨gM, 0, none⟩) (n + 2) (n + 2)] rfl rfl 25 _ FA_4.out infoDfa rfl (dfaD_one _ _ _ _ _ _ _ _) ?_
          refine hK.out _ _ trivial (fun _ => ?_)
          clear hK K
          refine wpAnyH_done (by kernel_rfl) ?_ _
          go_wp2
          go_meet
          exact ⟨gA, _, _, rfl, FA_4.out.whole _, own_row FU_4.out FA_4.out (by decide), own_row FM_4.out FA_4.out (by decide), Row.aside RZ_4.out (Nat.ne_of_lt LgA.out) _, below_setRow C4.out (Nat.le_of_lt LgA.out) _⟩
      · have D := (Below.refl v1.heap.size v1).alloc (Nat.le_refl _) (.cells #[.int .i64 0, .int .i64 0, .slice none 0 0, .slice none 0 0] 25)
        have C2 := Lib.hid (C1.out.alloc C1.out.size (.cells #[.int .i64 0, .int .i64 0, .slice none 0 0, .slice none 0 0] 25))
        have LgA := Lib.hid RZ_1.out.lt
        have FA_2 := Lib.hid (Row.new v1 25 #[.int .i64 0, .int .i64 0, .slice none 0 0, .slice none 0 0])
        have RZ_2 := Lib.hid (RZ_1.out.stays D)
        have FB_2 := Lib.hid (FB_1.out.stays D)
        rw [if_pos (by rfl)]
        go_simp
        refine hK.out _ _ trivial (fun _ => ?_)
        clear hK K
        clear RZ_1 FB_1 C1 D
        generalize v1.alloc (.cells #[.int .i64 0, .int .i64 0, .slice none 0 0, .slice none 0 0] 25) = v2 at *
        generalize v1.heap.size = gA at *
        refine wpAnyH_ready (rs := [7, 10]) (by kernel_rfl) (by simp) (AllReadyH.cons rfl (fun K hK => ?_) (AllReadyH.cons rfl (fun K hK => ?_) AllReadyH.nil))
        · rw [if_pos (by rfl)]
          go_simp
          refine (HRP.out v2 _ (FB_2.out.cell 0)).mono ?_
          rintro e v3 ⟨u2, rfl, HU, D⟩
          have C3 := Lib.hid (C2.out.trans (D.mono C2.out.size))
          have RZ_3 := Lib.hid (RZ_2.out.stays D)
          have FB_3 := Lib.hid (FB_2.out.stays D)
          have FA_3 := Lib.hid (FA_2.out.stays D)
          have FU_3 := Lib.hid (own_base HU C2.out.size)
          clear HU
          obtain ⟨Au2, cu2, rfl, _⟩ := own_any FU_3.out
          go_wp2_with fail
          refine hK.out _ _ trivial (fun _ => ?_)
          clear hK K
          clear RZ_2 FB_2 FA_2 C2 D
          refine wpAnyH_ready (rs := [10]) (by kernel_rfl) (by simp) (AllReadyH.cons rfl (fun K hK => ?_) AllReadyH.nil)
          have D := (Below.refl v3.heap.size v3).alloc (Nat.le_refl _) (.cells (Array.replicate (n + 2) (.bool false)) 4)
          have C4 := Lib.hid (C3.out.alloc C3.out.size (.cells (Array.replicate (n + 2) (.bool false)) 4))
          have LgM := Lib.hid RZ_3.out.lt
          have FM_4 := Lib.hid (own_base (own_bools v3 (n + 2) (by omega)) (Nat.le_of_lt LgM.out))
          have RZ_4 := Lib.hid (RZ_3.out.stays D)
          have FB_4 := Lib.hid (FB_3.out.stays D)
          have FA_4 := Lib.hid (FA_3.out.stays D)
          have FU_4 := Lib.hid (own_keep FU_3.out D)
          rw [if_pos (by rfl)]
          go_simp
          refine hK.out _ _ trivial (fun _ => ?_)
          clear hK K
          clear RZ_3 FB_3 FA_3 FU_3 C3 D
          generalize v3.alloc (.cells (Array.replicate (n + 2) (.bool false)) 4) = v4 at *
          generalize v3.heap.size = gM at *
          refine wpAnyH_take (i := 11) (v := ?_) rfl (by kernel_rfl) (by kernel_rfl) (by kernel_rfl) (fun _ _ _ h => h) (Or.inl ⟨by rfl, ?_⟩) (by assumption) ?_
          rotate_left
          · intro _ _; go_simp; with_reducible rfl
          simp only [Act.put, List.setIfInBounds_toArray, List.set_cons_zero, List.set_cons_succ, List.getElem_toArray, List.getElem_cons_zero, List.getElem_cons_succ]
          refine wpAnyH_ready (rs := [13]) (by kernel_rfl) (by simp) (AllReadyH.cons rfl (fun K hK => ?_) AllReadyH.nil)
          rw [if_pos (by rfl)]
          refine wp_store_row 25 _ _ rfl gA #[.int .i64 (kk : Int), .int .i64 0, .slice Au2 N cu2, .slice (some ⟨gM, 0, none⟩) (n + 2) (n + 2)] rfl rfl 25 _ FA_4.out infoDfa rfl (dfaD_one _ _ _ _ _ _ _ _) ?_
          refine hK.out _ _ trivial (fun _ => ?_)
          clear hK K
          refine wpAnyH_done (by kernel_rfl) ?_ _
          go_wp2
          go_meet
          exact ⟨gA, _, _, rfl, FA_4.out.whole _, own_row FU_4.out FA_4.out (by decide), own_row FM_4.out FA_4.out (by decide), Row.aside RZ_4.out (Nat.ne_of_lt LgA.out) _, below_setRow C4.out (Nat.le_of_lt LgA.out) _⟩
        · have D := (Below.refl v2.heap.size v2).alloc (Nat.le_refl _) (.cells (Array.replicate (n + 2) (.bool false)) 4)
          have C3 := Lib.hid (C2.out.alloc C2.out.size (.cells (Array.replicate (n + 2) (.bool false)) 4))
          have LgM := Lib.hid RZ_2.out.lt
          have FM_3 := Lib.hid (own_base (own_bools v2 (n + 2) (by omega)) (Nat.le_of_lt LgM.out))
          have RZ_3 := Lib.hid (RZ_2.out.stays D)
          have FB_3 := Lib.hid (FB_2.out.stays D)
          have FA_3 := Lib.hid (FA_2.out.stays D)
          rw [if_pos (by rfl)]
          go_simp
          refine hK.out _ _ trivial (fun _ => ?_)
          clear hK K
          clear RZ_2 FB_2 FA_2 C2 D
          generalize v2.alloc (.cells (Array.replicate (n + 2) (.bool false)) 4) = v3 at *
          generalize v2.heap.size = gM at *
          refine wpAnyH_ready (rs := [7]) (by kernel_rfl) (by simp) (AllReadyH.cons rfl (fun K hK => ?_) AllReadyH.nil)
          rw [if_pos (by rfl)]
          go_simp
          refine (HRP.out v3 _ (FB_3.out.cell 0)).mono ?_
          rintro e v4 ⟨u2, rfl, HU, D⟩
          have C4 := Lib.hid (C3.out.trans (D.mono C3.out.size))
          have RZ_4 := Lib.hid (RZ_3.out.stays D)
          have FB_4 := Lib.hid (FB_3.out.stays D)
          have FA_4 := Lib.hid (FA_3.out.stays D)
          have FM_4 := Lib.hid (own_keep FM_3.out D)
          have FU_4 := Lib.hid (own_base HU C3.out.size)
          clear HU
          obtain ⟨Au2, cu2, rfl, _⟩ := own_any FU_4.out
          go_wp2_with fail
          refine hK.out _ _ trivial (fun _ => ?_)
          clear hK K
          clear RZ_3 FB_3 FA_3 FM_3 C3 D
          refine wpAnyH_take (i := 11) (v := ?_) rfl (by kernel_rfl) (by kernel_rfl) (by kernel_rfl) (fun _ _ _ h => h) (Or.inl ⟨by rfl, ?_⟩) (by assumption) ?_
          rotate_left
          · intro _ _; go_simp; with_reducible rfl
          simp only [Act.put, List.setIfInBounds_toArray, List.set_cons_zero, List.set_cons_succ, List.getElem_toArray, List.getElem_cons_zero, List.getElem_cons_succ]
          refine wpAnyH_ready (rs := [13]) (by kernel_rfl) (by simp) (AllReadyH.cons rfl (fun K hK => ?_) AllReadyH.nil)
          rw [if_pos (by rfl)]
          refine wp_store_row 25 _ _ rfl gA #[.int .i64 (kk : Int), .int .i64 0, .slice Au2 N cu2, .slice (some ⟨gM, 0, none⟩) (n + 2) (n + 2)] rfl rfl 25 _ FA_4.out infoDfa rfl (dfaD_one _ _ _ _ _ _ _ _) ?_
          refine hK.out _ _ trivial (fun _ => ?_)
          clear hK K
          refine wpAnyH_done (by kernel_rfl) ?_ _
          go_wp2
          go_meet
          exact ⟨gA, _, _, rfl, FA_4.out.whole _, own_row FU_4.out FA_4.out (by decide), own_row FM_4.out FA_4.out (by decide), Row.aside RZ_4.out (Nat.ne_of_lt LgA.out) _, below_setRow C4.out (Nat.le_of_lt LgA.out) _⟩
    · have D := (Below.refl v0.heap.size v0).alloc (Nat.le_refl _) (.cells (Array.replicate (n + 2) (.bool false)) 4)
      have C1 := Lib.hid (C0.out.alloc C0.out.size (.cells (Array.replicate (n + 2) (.bool false)) 4))
      have LgM := Lib.hid RZ_0.out.lt
      have FM_1 := Lib.hid (own_base (own_bools v0 (n + 2) (by omega)) (Nat.le_of_lt LgM.out))
      have RZ_1 := Lib.hid (RZ_0.out.stays D)
      rw [if_pos (by rfl)]
      go_simp
      refine hK.out _ _ trivial (fun _ => ?_)
      clear hK K
      clear RZ_0 C0 D
      generalize v0.alloc (.cells (Array.replicate (n + 2) (.bool false)) 4) = v1 at *
      generalize v0.heap.size = gM at *
      refine wpAnyH_ready (rs := [2, 12]) (by kernel_rfl) (by simp) (AllReadyH.cons rfl (fun K hK => ?_) (AllReadyH.cons rfl (fun K hK => ?_) AllReadyH.nil))
      · have D := (Below.refl v1.heap.size v1).alloc (Nat.le_refl _) (.cells #[.int .i64 ((n : Int) + 1)] 3)
        have C2 := Lib.hid (C1.out.alloc C1.out.size (.cells #[.int .i64 ((n : Int) + 1)] 3))
        have LgB := Lib.hid RZ_1.out.lt
        have FB_2 := Lib.hid (Row.new v1 3 #[.int .i64 ((n : Int) + 1)])
        have RZ_2 := Lib.hid (RZ_1.out.stays D)
        have FM_2 := Lib.hid (own_keep FM_1.out D)
        rw [if_pos (by rfl)]
        go_simp
        refine hK.out _ _ trivial (fun _ => ?_)
        clear hK K
        clear RZ_1 FM_1 C1 D
        generalize v1.alloc (.cells #[.int .i64 ((n : Int) + 1)] 3) = v2 at *
        generalize v1.heap.size = gB at *
        refine wpAnyH_ready (rs := [7, 12]) (by kernel_rfl) (by simp) (AllReadyH.cons rfl (fun K hK => ?_) (AllReadyH.cons rfl (fun K hK => ?_) AllReadyH.nil))
        · rw [if_pos (by rfl)]
          go_simp
          refine (HRP.out v2 _ (FB_2.out.cell 0)).mono ?_
          rintro e v3 ⟨u2, rfl, HU, D⟩
          have C3 := Lib.hid (C2.out.trans (D.mono C2.out.size))
          have RZ_3 := Lib.hid (RZ_2.out.stays D)
          have FM_3 := Lib.hid (own_keep FM_2.out D)
          have FB_3 := Lib.hid (FB_2.out.stays D)
          have FU_3 := Lib.hid (own_base HU C2.out.size)
          clear HU
          obtain ⟨Au2, cu2, rfl, _⟩ := own_any FU_3.out
          go_wp2_with fail
          refine hK.out _ _ trivial (fun _ => ?_)
          clear hK K
          clear RZ_2 FM_2 FB_2 C2 D
          refine wpAnyH_take (i := 11) (v := ?_) rfl (by kernel_rfl) (by kernel_rfl) (by kernel_rfl) (fun _ _ _ h => h) (Or.inl ⟨by rfl, ?_⟩) (by assumption) ?_
          rotate_left
          · intro _ _; go_simp; with_reducible rfl
          simp only [Act.put, List.setIfInBounds_toArray, List.set_cons_zero, List.set_cons_succ, List.getElem_toArray, List.getElem_cons_zero, List.getElem_cons_succ]
          refine wpAnyH_ready (rs := [12]) (by kernel_rfl) (by simp) (AllReadyH.cons rfl (fun K hK => ?_) AllReadyH.nil)
          have D := (Below.refl v3.heap.size v3).alloc (Nat.le_refl _) (.cells #[.int .i64 0, .int .i64 0, .slice none 0 0, .slice none 0 0] 25)
          have C4 := Lib.hid (C3.out.alloc C3.out.size (.cells #[.int .i64 0, .int .i64 0, .slice none 0 0, .slice none 0 0] 25))
          have LgA := Lib.hid RZ_3.out.lt
          have FA_4 := Lib.hid (Row.new v3 25 #[.int .i64 0, .int .i64 0, .slice none 0 0, .slice none 0 0])
          have RZ_4 := Lib.hid (RZ_3.out.stays D)
          have FM_4 := Lib.hid (own_keep FM_3.out D)
          have FB_4 := Lib.hid (FB_3.out.stays D)
          have FU_4 := Lib.hid (own_keep FU_3.out D)
          rw [if_pos (by rfl)]
          go_simp
          refine hK.out _ _ trivial (fun _ => ?_)
          clear hK K
          clear RZ_3 FM_3 FB_3 FU_3 C3 D
          generalize v3.alloc (.cells #[.int .i64 0, .int .i64 0, .slice none 0 0, .slice none 0 0] 25) = v4 at *
          generalize v3.heap.size = gA at *
          refine wpAnyH_ready (rs := [13]) (by kernel_rfl) (by simp) (AllReadyH.cons rfl (fun K hK => ?_) AllReadyH.nil)
          rw [if_pos (by rfl)]
          refine wp_store_row 25 _ _ rfl gA #[.int .i64 (kk : Int), .int .i64 0, .slice Au2 N cu2, .slice (some ⟨gM, 0, none⟩) (n + 2) (n + 2)] rfl rfl 25 _ FA_4.out infoDfa rfl (dfaD_one _ _ _ _ _ _ _ _) ?_
          refine hK.out _ _ trivial (fun _ => ?_)
          clear hK K
          refine wpAnyH_done (by kernel_rfl) ?_ _
          go_wp2
          go_meet
          exact ⟨gA, _, _, rfl, FA_4.out.whole _, own_row FU_4.out FA_4.out (by decide), own_row FM_4.out FA_4.out (by decide), Row.aside RZ_4.out (Nat.ne_of_lt LgA.out) _, below_setRow C4.out (Nat.le_of_lt LgA.out) _⟩
        · have D := (Below.refl v2.heap.size v2).alloc (Nat.le_refl _) (.cells #[.int .i64 0, .int .i64 0, .slice none 0 0, .slice none 0 0] 25)
          have C3 := Lib.hid (C2.out.alloc C2.out.size (.cells #[.int .i64 0, .int .i64 0, .slice none 0 0, .slice none 0 0] 25))
          have LgA := Lib.hid RZ_2.out.lt
          have FA_3 := Lib.hid (Row.new v2 25 #[.int .i64 0, .int .i64 0, .slice none 0 0, .slice none 0 0])
          have RZ_3 := Lib.hid (RZ_2.out.stays D)
          have FM_3 := Lib.hid (own_keep FM_2.out D)
          have FB_3 := Lib.hid (FB_2.out.stays D)
          rw [if_pos (by rfl)]
          go_simp
          refine hK.out _ _ trivial (fun _ => ?_)
          clear hK K
          clear RZ_2 FM_2 FB_2 C2 D
          generalize v2.alloc (.cells #[.int .i64 0, .int .i64 0, .slice none 0 0, .slice none 0 0] 25) = v3 at *
          generalize v2.heap.size = gA at *
          refine wpAnyH_ready (rs := [7]) (by kernel_rfl) (by simp) (AllReadyH.cons rfl (fun K hK => ?_) AllReadyH.nil)
          rw [if_pos (by rfl)]
          go_simp
          refine (HRP.out v3 _ (FB_3.out.cell 0)).mono ?_
          rintro e v4 ⟨u2, rfl, HU, D⟩
          have C4 := Lib.hid (C3.out.trans (D.mono C3.out.size))
          have RZ_4 := Lib.hid (RZ_3.out.stays D)
          have FM_4 := Lib.hid (own_keep FM_3.out D)
          have FB_4 := Lib.hid (FB_3.out.stays D)
          have FA_4 := Lib.hid (FA_3.out.stays D)
          have FU_4 := Lib.hid (own_base HU C3.out.size)
          clear HU
          obtain ⟨Au2, cu2, rfl, _⟩ := own_any FU_4.out
          go_wp2_with fail
          refine hK.out _ _ trivial (fun _ => ?_)
          clear hK K
          clear RZ_3 FM_3 FB_3 FA_3 C3 D
          refine wpAnyH_take (i := 11) (v := ?_) rfl (by kernel_rfl) (by kernel_rfl) (by kernel_rfl) (fun _ _ _ h => h) (Or.inl ⟨by rfl, ?_⟩) (by assumption) ?_
          rotate_left
          · intro _ _; go_simp; with_reducible rfl
          simp only [Act.put, List.setIfInBounds_toArray, List.set_cons_zero, List.set_cons_succ, List.getElem_toArray, List.getElem_cons_zero, List.getElem_cons_succ]
          refine wpAnyH_ready (rs := [13]) (by kernel_rfl) (by simp) (AllReadyH.cons rfl (fun K hK => ?_) AllReadyH.nil)
          rw [if_pos (by rfl)]
          refine wp_store_row 25 _ _ rfl gA #[.int .i64 (kk : Int), .int .i64 0, .slice Au2 N cu2, .slice (some ⟨gM, 0, none⟩) (n + 2) (n + 2)] rfl rfl 25 _ FA_4.out infoDfa rfl (dfaD_one _ _ _ _ _ _ _ _) ?_
          refine hK.out _ _ trivial (fun _ => ?_)
          clear hK K
          refine wpAnyH_done (by kernel_rfl) ?_ _
          go_wp2
          go_meet
          exact ⟨gA, _, _, rfl, FA_4.out.whole _, own_row FU_4.out FA_4.out (by decide), own_row FM_4.out FA_4.out (by decide), Row.aside RZ_4.out (Nat.ne_of_lt LgA.out) _, below_setRow C4.out (Nat.le_of_lt LgA.out) _⟩
      · have D := (Below.refl v1.heap.size v1).alloc (Nat.le_refl _) (.cells #[.int .i64 0, .int .i64 0, .slice none 0 0, .slice none 0 0] 25)
        have C2 := Lib.hid (C1.out.alloc C1.out.size (.cells #[.int .i64 0, .int .i64 0, .slice none 0 0, .slice none 0 0] 25))
        have LgA := Lib.hid RZ_1.out.lt
        have FA_2 := Lib.hid (Row.new v1 25 #[.int .i64 0, .int .i64 0, .slice none 0 0, .slice none 0 0])
        have RZ_2 := Lib.hid (RZ_1.out.stays D)
        have FM_2 := Lib.hid (own_keep FM_1.out D)
        rw [if_pos (by rfl)]
        go_simp
        refine hK.out _ _ trivial (fun _ => ?_)
        clear hK K
        clear RZ_1 FM_1 C1 D
        generalize v1.alloc (.cells #[.int .i64 0, .int .i64 0, .slice none 0 0, .slice none 0 0] 25) = v2 at *
        generalize v1.heap.size = gA at *
        refine wpAnyH_ready (rs := [2]) (by kernel_rfl) (by simp) (AllReadyH.cons rfl (fun K hK => ?_) AllReadyH.nil)
        have D := (Below.refl v2.heap.size v2).alloc (Nat.le_refl _) (.cells #[.int .i64 ((n : Int) + 1)] 3)
        have C3 := Lib.hid (C2.out.alloc C2.out.size (.cells #[.int .i64 ((n : Int) + 1)] 3))
        have LgB := Lib.hid RZ_2.out.lt
        have FB_3 := Lib.hid (Row.new v2 3 #[.int .i64 ((n : Int) + 1)])
        have RZ_3 := Lib.hid (RZ_2.out.stays D)
        have FM_3 := Lib.hid (own_keep FM_2.out D)
        have FA_3 := Lib.hid (FA_2.out.stays D)
        rw [if_pos (by rfl)]
        go_simp
        refine hK.out _ _ trivial (fun _ => ?_)
        clear hK K
        clear RZ_2 FM_2 FA_2 C2 D
        generalize v2.alloc (.cells #[.int .i64 ((n : Int) + 1)] 3) = v3 at *
        generalize v2.heap.size = gB at *
        refine wpAnyH_ready (rs := [7]) (by kernel_rfl) (by simp) (AllReadyH.cons rfl (fun K hK => ?_) AllReadyH.nil)
        rw [if_pos (by rfl)]
        go_simp
        refine (HRP.out v3 _ (FB_3.out.cell 0)).mono ?_
        rintro e v4 ⟨u2, rfl, HU, D⟩
        have C4 := Lib.hid (C3.out.trans (D.mono C3.out.size))
        have RZ_4 := Lib.hid (RZ_3.out.stays D)
        have FM_4 := Lib.hid (own_keep FM_3.out D)
        have FA_4 := Lib.hid (FA_3.out.stays D)
        have FB_4 := Lib.hid (FB_3.out.stays D)
        have FU_4 := Lib.hid (own_base HU C3.out.size)
        clear HU
        obtain ⟨Au2, cu2, rfl, _⟩ := own_any FU_4.out
        go_wp2_with fail
        refine hK.out _ _ trivial (fun _ => ?_)
        clear hK K
        clear RZ_3 FM_3 FA_3 FB_3 C3 D
        refine wpAnyH_take (i := 11) (v := ?_) rfl (by kernel_rfl) (by kernel_rfl) (by kernel_rfl) (fun _ _ _ h => h) (Or.inl ⟨by rfl, ?_⟩) (by assumption) ?_
        rotate_left
        · intro _ _; go_simp; with_reducible rfl
        simp only [Act.put, List.setIfInBounds_toArray, List.set_cons_zero, List.set_cons_succ, List.getElem_toArray, List.getElem_cons_zero, List.getElem_cons_succ]
        refine wpAnyH_ready (rs := [13]) (by kernel_rfl) (by simp) (AllReadyH.cons rfl (fun K hK => ?_) AllReadyH.nil)
        rw [if_pos (by rfl)]
        refine wp_store_row 25 _ _ rfl gA #[.int .i64 (kk : Int), .int .i64 0, .slice Au2 N cu2, .slice (some ⟨gM, 0, none⟩) (n + 2) (n + 2)] rfl rfl 25 _ FA_4.out infoDfa rfl (dfaD_one _ _ _ _ _ _ _ _) ?_
        refine hK.out _ _ trivial (fun _ => ?_)
        clear hK K
        refine wpAnyH_done (by kernel_rfl) ?_ _
        go_wp2
        go_meet
        exact ⟨gA, _, _, rfl, FA_4.out.whole _, own_row FU_4.out FA_4.out (by decide), own_row FM_4.out FA_4.out (by decide), Row.aside RZ_4.out (Nat.ne_of_lt LgA.out) _, below_setRow C4.out (Nat.le_of_lt LgA.out) _⟩
    · have D := (Below.refl v0.heap.size v0).alloc (Nat.le_refl _) (.cells #[.int .i64 0, .int .i64 0, .slice none 0 0, .slice none 0 0] 25)
      have C1 := Lib.hid (C0.out.alloc C0.out.size (.cells #[.int .i64 0, .int .i64 0, .slice none 0 0, .slice none 0 0] 25))
      have LgA := Lib.hid RZ_0.out.lt
      have FA_1 := Lib.hid (Row.new v0 25 #[.int .i64 0, .int .i64 0, .slice none 0 0, .slice none 0 0])
      have RZ_1 := Lib.hid (RZ_0.out.stays D)
      rw [if_pos (by rfl)]
      go_simp
      refine hK.out _ _ trivial (fun _ => ?_)
      clear hK K
      clear RZ_0 C0 D
      generalize v0.alloc (.cells #[.int .i64 0, .int .i64 0, .slice none 0 0, .slice none 0 0] 25) = v1 at *
      generalize v0.heap.size = gA at *
      refine wpAnyH_ready (rs := [2, 10]) (by kernel_rfl) (by simp) (AllReadyH.cons rfl (fun K hK => ?_) (AllReadyH.cons rfl (fun K hK => ?_) AllReadyH.nil))
      · have D := (Below.refl v1.heap.size v1).alloc (Nat.le_refl _) (.cells #[.int .i64 ((n : Int) + 1)] 3)
        have C2 := Lib.hid (C1.out.alloc C1.out.size (.cells #[.int .i64 ((n : Int) + 1)] 3))
        have LgB := Lib.hid RZ_1.out.lt
        have FB_2 := Lib.hid (Row.new v1 3 #[.int .i64 ((n : Int) + 1)])
        have RZ_2 := Lib.hid (RZ_1.out.stays D)
        have FA_2 := Lib.hid (FA_1.out.stays D)
        rw [if_pos (by rfl)]
        go_simp
        refine hK.out _ _ trivial (fun _ => ?_)
        clear hK K
        clear RZ_1 FA_1 C1 D
        generalize v1.alloc (.cells #[.int .i64 ((n : Int) + 1)] 3) = v2 at *
        generalize v1.heap.size = gB at *
        refine wpAnyH_ready (rs := [7, 10]) (by kernel_rfl) (by simp) (AllReadyH.cons rfl (fun K hK => ?_) (AllReadyH.cons rfl (fun K hK => ?_) AllReadyH.nil))
        · rw [if_pos (by rfl)]
          go_simp
          refine (HRP.out v2 _ (FB_2.out.cell 0)).mono ?_
          rintro e v3 ⟨u2, rfl, HU, D⟩
          have C3 := Lib.hid (C2.out.trans (D.mono C2.out.size))
          have RZ_3 := Lib.hid (RZ_2.out.stays D)
          have FA_3 := Lib.hid (FA_2.out.stays D)
          have FB_3 := Lib.hid (FB_2.out.stays D)
          have FU_3 := Lib.hid (own_base HU C2.out.size)
          clear HU
          obtain ⟨Au2, cu2, rfl, _⟩ := own_any FU_3.out
          go_wp2_with fail
          refine hK.out _ _ trivial (fun _ => ?_)
          clear hK K
          clear RZ_2 FA_2 FB_2 C2 D
          refine wpAnyH_ready (rs := [10]) (by kernel_rfl) (by simp) (AllReadyH.cons rfl (fun K hK => ?_) AllReadyH.nil)
          have D := (Below.refl v3.heap.size v3).alloc (Nat.le_refl _) (.cells (Array.replicate (n + 2) (.bool false)) 4)
          have C4 := Lib.hid (C3.out.alloc C3.out.size (.cells (Array.replicate (n + 2) (.bool false)) 4))
          have LgM := Lib.hid RZ_3.out.lt
          have FM_4 := Lib.hid (own_base (own_bools v3 (n + 2) (by omega)) (Nat.le_of_lt LgM.out))
          have RZ_4 := Lib.hid (RZ_3.out.stays D)
          have FA_4 := Lib.hid (FA_3.out.stays D)
          have FB_4 := Lib.hid (FB_3.out.stays D)
          have FU_4 := Lib.hid (own_keep FU_3.out D)
          rw [if_pos (by rfl)]
          go_simp
          refine hK.out _ _ trivial (fun _ => ?_)
          clear hK K
          clear RZ_3 FA_3 FB_3 FU_3 C3 D
          generalize v3.alloc (.cells (Array.replicate (n + 2) (.bool false)) 4) = v4 at *
          generalize v3.heap.size = gM at *
          refine wpAnyH_take (i := 11) (v := ?_) rfl (by kernel_rfl) (by kernel_rfl) (by kernel_rfl) (fun _ _ _ h => h) (Or.inl ⟨by rfl, ?_⟩) (by assumption) ?_
          rotate_left
          · intro _ _; go_simp; with_reducible rfl
          simp only [Act.put, List.setIfInBounds_toArray, List.set_cons_zero, List.set_cons_succ, List.getElem_toArray, List.getElem_cons_zero, List.getElem_cons_succ]
          refine wpAnyH_ready (rs := [13]) (by kernel_rfl) (by simp) (AllReadyH.cons rfl (fun K hK => ?_) AllReadyH.nil)
          rw [if_pos (by rfl)]
          refine wp_store_row 25 _ _ rfl gA #[.int .i64 (kk : Int), .int .i64 0, .slice Au2 N cu2, .slice (some ⟨gM, 0, none⟩) (n + 2) (n + 2)] rfl rfl 25 _ FA_4.out infoDfa rfl (dfaD_one _ _ _ _ _ _ _ _) ?_
          refine hK.out _ _ trivial (fun _ => ?_)
          clear hK K
          refine wpAnyH_done (by kernel_rfl) ?_ _
          go_wp2
          go_meet
          exact ⟨gA, _, _, rfl, FA_4.out.whole _, own_row FU_4.out FA_4.out (by decide), own_row FM_4.out FA_4.out (by decide), Row.aside RZ_4.out (Nat.ne_of_lt LgA.out) _, below_setRow C4.out (Nat.le_of_lt LgA.out) _⟩
        · have D := (Below.refl v2.heap.size v2).alloc (Nat.le_refl _) (.cells (Array.replicate (n + 2) (.bool false)) 4)
          have C3 := Lib.hid (C2.out.alloc C2.out.size (.cells (Array.replicate (n + 2) (.bool false)) 4))
          have LgM := Lib.hid RZ_2.out.lt
          have FM_3 := Lib.hid (own_base (own_bools v2 (n + 2) (by omega)) (Nat.le_of_lt LgM.out))
          have RZ_3 := Lib.hid (RZ_2.out.stays D)
          have FA_3 := Lib.hid (FA_2.out.stays D)
          have FB_3 := Lib.hid (FB_2.out.stays D)
          rw [if_pos (by rfl)]
          go_simp
          refine hK.out _ _ trivial (fun _ => ?_)
          clear hK K
          clear RZ_2 FA_2 FB_2 C2 D
          generalize v2.alloc (.cells (Array.replicate (n + 2) (.bool false)) 4) = v3 at *
          generalize v2.heap.size = gM at *
          refine wpAnyH_ready (rs := [7]) (by kernel_rfl) (by simp) (AllReadyH.cons rfl (fun K hK => ?_) AllReadyH.nil)
          rw [if_pos (by rfl)]
          go_simp
          refine (HRP.out v3 _ (FB_3.out.cell 0)).mono ?_
          rintro e v4 ⟨u2, rfl, HU, D⟩
          have C4 := Lib.hid (C3.out.trans (D.mono C3.out.size))
          have RZ_4 := Lib.hid (RZ_3.out.stays D)
          have FA_4 := Lib.hid (FA_3.out.stays D)
          have FB_4 := Lib.hid (FB_3.out.stays D)
          have FM_4 := Lib.hid (own_keep FM_3.out D)
          have FU_4 := Lib.hid (own_base HU C3.out.size)
          clear HU
          obtain ⟨Au2, cu2, rfl, _⟩ := own_any FU_4.out
          go_wp2_with fail
          refine hK.out _ _ trivial (fun _ => ?_)
          clear hK K
          clear RZ_3 FA_3 FB_3 FM_3 C3 D
          refine wpAnyH_take (i := 11) (v := ?_) rfl (by kernel_rfl) (by kernel_rfl) (by kernel_rfl) (fun _ _ _ h => h) (Or.inl ⟨by rfl, ?_⟩) (by assumption) ?_
          rotate_left
          · intro _ _; go_simp; with_reducible rfl
          simp only [Act.put, List.setIfInBounds_toArray, List.set_cons_zero, List.set_cons_succ, List.getElem_toArray, List.getElem_cons_zero, List.getElem_cons_succ]
          refine wpAnyH_ready (rs := [13]) (by kernel_rfl) (by simp) (AllReadyH.cons rfl (fun K hK => ?_) AllReadyH.nil)
          rw [if_pos (by rfl)]
          refine wp_store_row 25 _ _ rfl gA #[.int .i64 (kk : Int), .int .i64 0, .slice Au2 N cu2, .slice (some ⟨gM, 0, none⟩) (n + 2) (n + 2)] rfl rfl 25 _ FA_4.out infoDfa rfl (dfaD_one _ _ _ _ _ _ _ _) ?_
          refine hK.out _ _ trivial (fun _ => ?_)
          clear hK K
          refine wpAnyH_done (by kernel_rfl) ?_ _
          go_wp2
          go_meet
          exact ⟨gA, _, _, rfl, FA_4.out.whole _, own_row FU_4.out FA_4.out (by decide), own_row FM_4.out FA_4.out (by decide), Row.aside RZ_4.out (Nat.ne_of_lt LgA.out) _, below_setRow C4.out (Nat.le_of_lt LgA.out) _⟩
      · have D := (Below.refl v1.heap.size v1).alloc (Nat.le_refl _) (.cells (Array.replicate (n + 2) (.bool false)) 4)
        have C2 := Lib.hid (C1.out.alloc C1.out.size (.cells (Array.replicate (n + 2) (.bool false)) 4))
        have LgM := Lib.hid RZ_1.out.lt
        have FM_2 := Lib.hid (own_base (own_bools v1 (n + 2) (by omega)) (Nat.le_of_lt LgM.out))
        have RZ_2 := Lib.hid (RZ_1.out.stays D)
        have FA_2 := Lib.hid (FA_1.out.stays D)
        rw [if_pos (by rfl)]
        go_simp
        refine hK.out _ _ trivial (fun _ => ?_)
        clear hK K
        clear RZ_1 FA_1 C1 D
        generalize v1.alloc (.cells (Array.replicate (n + 2) (.bool false)) 4) = v2 at *
        generalize v1.heap.size = gM at *
        refine wpAnyH_ready (rs := [2]) (by kernel_rfl) (by simp) (AllReadyH.cons rfl (fun K hK => ?_) AllReadyH.nil)
        have D := (Below.refl v2.heap.size v2).alloc (Nat.le_refl _) (.cells #[.int .i64 ((n : Int) + 1)] 3)
        have C3 := Lib.hid (C2.out.alloc C2.out.size (.cells #[.int .i64 ((n : Int) + 1)] 3))
        have LgB := Lib.hid RZ_2.out.lt
        have FB_3 := Lib.hid (Row.new v2 3 #[.int .i64 ((n : Int) + 1)])
        have RZ_3 := Lib.hid (RZ_2.out.stays D)
        have FA_3 := Lib.hid (FA_2.out.stays D)
        have FM_3 := Lib.hid (own_keep FM_2.out D)
        rw [if_pos (by rfl)]
        go_simp
        refine hK.out _ _ trivial (fun _ => ?_)
        clear hK K
        clear RZ_2 FA_2 FM_2 C2 D
        generalize v2.alloc (.cells #[.int .i64 ((n : Int) + 1)] 3) = v3 at *
        generalize v2.heap.size = gB at *
        refine wpAnyH_ready (rs := [7]) (by kernel_rfl) (by simp) (AllReadyH.cons rfl (fun K hK => ?_) AllReadyH.nil)
        rw [if_pos (by rfl)]
        go_simp
        refine (HRP.out v3 _ (FB_3.out.cell 0)).mono ?_
        rintro e v4 ⟨u2, rfl, HU, D⟩
        have C4 := Lib.hid (C3.out.trans (D.mono C3.out.size))
        have RZ_4 := Lib.hid (RZ_3.out.stays D)
        have FA_4 := Lib.hid (FA_3.out.stays D)
        have FM_4 := Lib.hid (own_keep FM_3.out D)
        have FB_4 := Lib.hid (FB_3.out.stays D)
        have FU_4 := Lib.hid (own_base HU C3.out.size)
        clear HU
        obtain ⟨Au2, cu2, rfl, _⟩ := own_any FU_4.out
        go_wp2_with fail
        refine hK.out _ _ trivial (fun _ => ?_)
        clear hK K
        clear RZ_3 FA_3 FM_3 FB_3 C3 D
        refine wpAnyH_take (i := 11) (v := ?_) rfl (by kernel_rfl) (by kernel_rfl) (by kernel_rfl) (fun _ _ _ h => h) (Or.inl ⟨by rfl, ?_⟩) (by assumption) ?_
        rotate_left
        · intro _ _; go_simp; with_reducible rfl
        simp only [Act.put, List.setIfInBounds_toArray, List.set_cons_zero, List.set_cons_succ, List.getElem_toArray, List.getElem_cons_zero, List.getElem_cons_succ]
        refine wpAnyH_ready (rs := [13]) (by kernel_rfl) (by simp) (AllReadyH.cons rfl (fun K hK => ?_) AllReadyH.nil)
        rw [if_pos (by rfl)]
        refine wp_store_row 25 _ _ rfl gA #[.int .i64 (kk : Int), .int .i64 0, .slice Au2 N cu2, .slice (some ⟨gM, 0, none⟩) (n + 2) (n + 2)] rfl rfl 25 _ FA_4.out infoDfa rfl (dfaD_one _ _ _ _ _ _ _ _) ?_
        refine hK.out _ _ trivial (fun _ => ?_)
        clear hK K
        refine wpAnyH_done (by kernel_rfl) ?_ _
        go_wp2
        go_meet
        exact ⟨gA, _, _, rfl, FA_4.out.whole _, own_row FU_4.out FA_4.out (by decide), own_row FM_4.out FA_4.out (by decide), Row.aside RZ_4.out (Nat.ne_of_lt LgA.out) _, below_setRow C4.out (Nat.le_of_lt LgA.out) _⟩
    -- BEHIND
  case rest =>
    obtain ⟨gd, un, um, rfl, RD, OU, OM, RZ, hb⟩ := hcut
    obtain ⟨Aun, cun, rfl, hAun⟩ := own_any OU
    obtain ⟨Aum, cum, rfl, hAum⟩ := own_any OM
    obtain ⟨gu, rfl⟩ := hAun (by omega)
    obtain ⟨gm, rfl⟩ := hAum (by omega)
    have hdu := row_own_ne OU RD (by decide)
    have hdm := row_own_ne OM RD (by decide)
    have hzu := row_own_ne OU RZ (by decide)
    have hzm := row_own_ne OM RZ (by decide)
    have hum := own_own_ne OU OM (by decide)
    have hgu : w.heap.size ≤ gu := (OU.lt gu rfl).1
    have hgm : w.heap.size ≤ gm := (OM.lt gm rfl).1
    have HOU : Hid (wc.ownsRow w.heap.size 3 1 (.slice (some ⟨gu, 0, none⟩) N cun) N (natVs (Au.wordRow kk y 0))) := Lib.hid (by
      have e : Au.wordRow kk y 0 = List.replicate N (n + 1) := by unfold Au.wordRow; rw [HN.out, HNN.out]
      rw [e, natVs_replicate, show ((n + 1 : Nat) : Int) = (n : Int) + 1 by omega]; exact OU)
    have HOM := Lib.hid OM
    have HRD := Lib.hid RD
    have HRZ := Lib.hid RZ
    have HBC := Lib.hid hb
    have HNE := Lib.hid (And.intro hdu (And.intro hdm (And.intro hzu (And.intro hzm hum))))
    clear OU OM RD RZ hb hdu hdm hzu hzm hum hAun hAum
    go_wp2
    go_loopw [37] (fun i wr => ∃ j : Nat, j ≤ n ∧ i = .int .i64 j ∧ Hid (Row wr gd 25 #[.int .i64 (kk : Int), .int .i64 0, .slice (some ⟨gu, 0, none⟩) N cun, .slice (some ⟨gm, 0, none⟩) (n + 2) cum]) ∧ Hid (Row wr w.heap.size 25 zeroD) ∧ Hid (wr.ownsRow w.heap.size 3 1 (.slice (some ⟨gu, 0, none⟩) N cun) N (natVs (Au.wordRow kk y j))) ∧ Hid (wr.ownsRow w.heap.size 4 1 (.slice (some ⟨gm, 0, none⟩) (n + 2) cum) (n + 2) (List.replicate (n + 2) (.bool false))) ∧ Hid (Below w.heap.size w wr)) (fun i _ => n - (intOf i).toNat)
    case atStart => exact ⟨0, Nat.zero_le _, rfl, HRD, HRZ, HOU, HOM, HBC⟩
    case round =>
      obtain ⟨j, hj, rfl, HD, HZ, HU, HM, HB⟩ := hrel
      by_cases hlt : j < n
      · obtain ⟨z, hz⟩ : ∃ z, y[j]? = some z := ⟨_, List.getElem?_eq_getElem (by rw [HN.out]; exact hlt)⟩
        have hzk : z < kk := HW.out z (List.mem_of_getElem? hz)
        obtain ⟨g, off, rfl, hcell⟩ := (HX.out.later HB.out (Nat.le_refl _)).at (m := (z : Int)) (by rw [HY.out]; exact Au.ofN_at hz)
        have hpl := Au.place (s := j) (n := n + 2) (by omega) hzk
        rw [Nat.mul_comm (n + 2), HNN.out] at hpl
        obtain ⟨p, hp⟩ : ∃ p, j * kk + z = p := ⟨_, rfl⟩
        have hjk : j * kk ≤ p := by rw [← hp]; exact Nat.le_add_right _ _
        obtain ⟨m, hm⟩ : ∃ m, j * kk = m := ⟨_, rfl⟩
        have q1 : wrap64 ((j : Int) * (kk : Int)) = (m : Int) := by rw [← Int.natCast_mul, hm]; exact wrapN _ (by omega)
        have q2 : wrap64 ((m : Int) + (z : Int)) = (p : Int) := by rw [← Int.natCast_add, ← hm, hp]; exact wrapN _ (by omega)
        rw [hp] at hpl
        have HS := Lib.hid (HU.out.stored p (.int .i64 ((j + 1 : Nat) : Int)))
        have HW2 : Hid ((natVs (Au.wordRow kk y j)).set p (.int .i64 ((j + 1 : Nat) : Int)) = natVs (Au.wordRow kk y (j + 1))) := Lib.hid (by
          rw [natVs_set]
          conv => rhs; unfold Au.wordRow
          rw [hz, ← hp]; rfl)
        rw [HW2.out] at HS
        have hfr := HU.out.frozenAt p
        have hold := HU.out.cellAt p (Nat.lt_of_lt_of_eq hpl (Nat.mul_one N).symm)
        obtain ⟨o, ho⟩ : ∃ o, (natVs (Au.wordRow kk y j))[p]? = some o := ⟨_, List.getElem?_eq_getElem (by rw [natVs_length, Au.wordRow_length, HN.out, HNN.out]; exact hpl)⟩
        rw [ho] at hold
        have c2 := HD.out.cell 2
        have HD2 := Lib.hid (HD.out.other (p := ⟨gu, p, none⟩) HNE.out.1 (.int .i64 ((j + 1 : Nat) : Int)))
        have HZ2 := Lib.hid (HZ.out.other (p := ⟨gu, p, none⟩) HNE.out.2.2.1 (.int .i64 ((j + 1 : Nat) : Int)))
        have HM2 := Lib.hid (own_far HM.out (p := ⟨gu, p, none⟩) (fun e => HNE.out.2.2.2.2 (Option.some.inj e).symm) (.int .i64 ((j + 1 : Nat) : Int)))
        have HB2 := Lib.hid (HB.out.setCell (p := ⟨gu, p, none⟩) hgu (.int .i64 ((j + 1 : Nat) : Int)))
        rw [show ((j + 1 : Nat) : Int) = (j : Int) + 1 by omega] at HS HD2 HZ2 HM2 HB2
        clear hz hp hm hjk ho HW2
        go_wp2
        go_roundw
        case rel => exact ⟨j + 1, by omega, by go_num, HD2, HZ2, Lib.hid HS.out.1, HM2, HB2⟩
        case measure => simp [intOf]; omega
      · obtain rfl : j = n := by omega
        have hfr := HM.out.frozenAt j
        have hold := HM.out.cellAt j (by omega)
        rw [List.getElem?_replicate, if_pos (by omega)] at hold
        have HM2 := Lib.hid (HM.out.stored j (.bool true)).1
        rw [← boolVs_replicate, boolVs_set] at HM2
        have HD2 := Lib.hid (HD.out.other (p := ⟨gm, j, none⟩) HNE.out.2.1 (.bool true))
        have HZ2 := Lib.hid (HZ.out.other (p := ⟨gm, j, none⟩) HNE.out.2.2.2.1 (.bool true))
        have HU2 := Lib.hid (own_far HU.out (p := ⟨gm, j, none⟩) (fun e => HNE.out.2.2.2.2 (Option.some.inj e)) (.bool true))
        have HB2 := Lib.hid (HB.out.setCell (p := ⟨gm, j, none⟩) hgm (.bool true))
        have c3 := HD.out.cell 3
        have HC := Lib.hid (Au.word_of HW.out k1' k2' (by rw [HN.out]; exact hlen))
        rw [HN.out] at HC
        have HE : Hid (Au.endAcc j = (List.replicate (j + 2) false).set j true) := Lib.hid rfl
        rw [← HE.out] at HM2
        generalize Au.wordRow kk y j = W at *
        generalize Au.endAcc j = E at *
        clear HD HZ HM HU HB
        go_wp2_with (first
          | (refine at_slot 57 rfl ?_; refine load_row rfl 25 _ rfl gd rfl HD2.out Try.underlying25 rfl infoDfa ?_)
          | (refine wpList_store_row rfl 25 _ _ rfl w.heap.size #[.int .i64 (kk : Int), .int .i64 0, .slice (some ⟨gu, 0, none⟩) N cun, .slice (some ⟨gm, 0, none⟩) (j + 2) cum] rfl rfl 25 _ HZ2.out infoDfa rfl (dfaD_one _ _ _ _ _ _ _ _) ?_))
        exact bodyPost_ret (v := .tuple #[.agg #[.int .i64 (kk : Int), .int .i64 0, .slice (some ⟨gu, 0, none⟩) N cun, .slice (some ⟨gm, 0, none⟩) (j + 2) cum], .int .i64 0]) (results_cell_two rfl _ _ w.heap.size _ _ _ rfl _ rfl (HZ2.out.whole _) Try.underlying25 rfl infoDfa) rfl
          (HPost.out _ _ _ HC.out ⟨_, _, _, _, rfl, own_row HU2.out HZ2.out (by decide), own_row HM2.out HZ2.out (by decide), below_setRow HB2.out (Nat.le_refl _) _⟩)
end Go.Proofs.Ytdidogcgoghdmaa
