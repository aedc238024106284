/- The walk of Not. -/
import Derived.Test.YtdidogcgoghdmaaDfaBegins
namespace Go.Proofs.Ytdidogcgoghdmaa
open Go.RowKit
/-- So many are turned. -/
def flip (l : List Bool) (n j : Nat) : List Bool := (l.take j).map not ++ List.replicate (n - j) false
theorem flip_zero (l : List Bool) (n : Nat) : flip l n 0 = List.replicate n false := by simp [flip]
theorem flip_all {l : List Bool} {n : Nat} (h : l.length = n) : flip l n n = l.map not := by unfold flip; rw [List.take_of_length_le (by omega), Nat.sub_self]; simp
theorem flip_length {l : List Bool} {n j : Nat} (h : l.length = n) (hj : j ≤ n) : (flip l n j).length = n := by unfold flip; rw [List.length_append, List.length_map, List.length_take, List.length_replicate]; omega
theorem flip_set {l : List Bool} {n j : Nat} {b : Bool} (h : l.length = n) (hj : l[j]? = some b) : (boolVs (flip l n j)).set j (.bool (!b)) = boolVs (flip l n (j + 1)) := by
  have hl := (List.getElem?_eq_some_iff.1 hj).1
  unfold boolVs flip
  rw [← List.map_set, List.set_append_right _ _ (by rw [List.length_map, List.length_take]; omega), List.length_map, List.length_take, Nat.min_eq_left (by omega), Nat.sub_self, List.take_add_one, hj, show n - j = (n - (j + 1)) + 1 by omega, List.replicate_succ]
  simp
set_option maxRecDepth 100000 in
set_option maxHeartbeats 8000000 in
theorem not_calls (v : Value) (d : Au.Dv) (w : World) (h : Auto w v d) :
    Calls Try.prog 12 #[v] w fun e w' => (¬ Au.Ok d → NewAuto w Au.Dv.zero 151 e w') ∧ ∀ f, d = Au.Dv.of f → Au.Sound f → NewAuto w (Au.Dv.of (Au.notFa f)) 0 e w' := by
  have HR := Lib.hid (fun V W h => dright_calls V d W h)
  have HV := Lib.hid h
  rcases Au.ok_cases d with ⟨hr, hno⟩ | ⟨f, rfl, hf⟩
  · have HPost : Hid (∀ w', Below w.heap.size w w' → (fun (e : Ending) (w' : World) => (¬ Au.Ok d → NewAuto w Au.Dv.zero 151 e w') ∧ ∀ f, d = Au.Dv.of f → Au.Sound f → NewAuto w (Au.Dv.of (Au.notFa f)) 0 e w') (.returned (.tuple #[.agg zeroD, .int .i64 151])) w') := Lib.hid (fun w' h => ⟨fun _ => ⟨_, rfl, zero_auto w', h⟩, fun f e hf => absurd (by rw [e]; exact Au.ok_sound hf) hno⟩)
    generalize (fun (e : Ending) (w' : World) => (¬ Au.Ok d → NewAuto w Au.Dv.zero 151 e w') ∧ ∀ f, d = Au.Dv.of f → Au.Sound f → NewAuto w (Au.Dv.of (Au.notFa f)) 0 e w') = post at *
    obtain ⟨A, c, A', c', rfl, _, _⟩ := h.parts
    rw [hr] at HR
    clear h hno hr
    generalize d.next.length = m at *
    generalize d.acc.length = n at *
    generalize d.k = k at *
    generalize d.start = s at *
    have C0 := ((Below.refl w.heap.size w).alloc (Nat.le_refl _) (.cells #[.int .i64 k, .int .i64 s, .slice A m c, .slice A' n c'] 25)).alloc (by simp) (.cells zeroD 25)
    have R0 := row_next (w := w) (o := .cells #[.int .i64 k, .int .i64 s, .slice A m c, .slice A' n c'] 25) (t := 25) (cs := zeroD) (g := w.heap.size + 1) (by simp)
    go_enter Try.func12, Try.ntmps12
    go_wp2_with (first
      | (go_at_call 16; refine (HR.out _ _ (HV.out.later C0 (Nat.le_refl _))).mono ?_; rintro e w1 ⟨rfl, hb⟩; have R1 := R0.stays hb)
      | (refine wpList_store_row rfl 25 _ _ rfl (w.heap.size + 1) zeroD rfl rfl 25 _ R1 infoDfa rfl zeroD_one ?_))
    exact bodyPost_ret (v := .tuple #[.agg zeroD, .int .i64 151]) (results_cell_two rfl _ _ (w.heap.size + 1) _ _ _ rfl _ rfl (R1.whole _) Try.underlying25 rfl infoDfa) rfl (HPost.out _ (below_setRow (C0.trans (hb.mono C0.size)) (Nat.le_succ _) _))
  have HPost : Hid (∀ e w', NewAuto w (Au.Dv.of (Au.notFa f)) 0 e w' → (fun (e : Ending) (w' : World) => (¬ Au.Ok (Au.Dv.of f) → NewAuto w Au.Dv.zero 151 e w') ∧ ∀ f', Au.Dv.of f = Au.Dv.of f' → Au.Sound f' → NewAuto w (Au.Dv.of (Au.notFa f')) 0 e w') e w') := Lib.hid (fun e w' h => ⟨fun hno => absurd (Au.ok_sound hf) hno, fun f' e' _ => by
    have : f = f' := by have := congrArg Au.Dv.fa e'; rw [Au.fa_of, Au.fa_of] at this; exact this
    rw [← this]; exact h⟩)
  generalize (fun (e : Ending) (w' : World) => (¬ Au.Ok (Au.Dv.of f) → NewAuto w Au.Dv.zero 151 e w') ∧ ∀ f', Au.Dv.of f = Au.Dv.of f' → Au.Sound f' → NewAuto w (Au.Dv.of (Au.notFa f')) 0 e w') = post at *
  obtain ⟨A, c, A', c', rfl, HNX, HBX⟩ := h.parts
  rw [Au.right_sound hf] at HR
  have HF := Lib.hid hf
  have hkk : (Au.Dv.of f).k = (f.k : Int) := rfl
  have hss : (Au.Dv.of f).start = (f.start : Int) := rfl
  have hnn : (Au.Dv.of f).next = Au.ofN f.next := rfl
  have haa : (Au.Dv.of f).acc = f.acc := rfl
  rw [hnn, Au.ofN_length] at HNX
  rw [haa] at HBX
  rw [hkk, hss, hnn, haa, Au.ofN_length] at HV ⊢
  have hn2 : f.acc.length ≤ 65536 := hf.n2
  have hn1 : f.next.length ≤ 33554432 := by
    rw [hf.len]
    have h : f.n * f.k ≤ 65536 * 512 := Nat.mul_le_mul hf.n2 hf.k2
    exact h
  clear h hkk hss hnn haa hf
  obtain ⟨m, hm⟩ : ∃ m, f.next.length = m := ⟨_, rfl⟩
  obtain ⟨n, hn⟩ : ∃ n, f.acc.length = n := ⟨_, rfl⟩
  obtain ⟨k, hk⟩ : ∃ k, f.k = k := ⟨_, rfl⟩
  obtain ⟨s, hs⟩ : ∃ s, f.start = s := ⟨_, rfl⟩
  have HCL : Hid (∀ W, Nums W (.slice A m c) (Au.ofN f.next) → Calls Try.prog 33 #[.slice A m c] W fun e w' => ∃ u, e = .returned u ∧ w'.ownsRow W.heap.size 3 1 u m (natVs f.next) ∧ Below W.heap.size W w') := Lib.hid (fun W h => by
    have := cloneN_calls _ _ W h (by rw [Au.ofN_length]; omega)
    rw [Au.ofN_length, hm] at this
    exact this)
  rw [hm, hn, hk, hs] at HV ⊢
  rw [hm] at HNX hn1
  rw [hn] at HBX hn2
  have HM := Lib.hid hm
  have HN := Lib.hid hn
  have HKS := Lib.hid (And.intro hk hs)
  clear hm hn hk hs
  have hmb := fun W => make_one (P := Try.prog) Try.underlying23 infoBool15 rfl n (by omega) (by omega) W
  have C0 := ((Below.refl w.heap.size w).alloc (Nat.le_refl _) (.cells #[.int .i64 (k : Int), .int .i64 (s : Int), .slice A m c, .slice A' n c'] 25)).alloc (by simp) (.cells zeroD 25)
  have RI := (Row.new w 25 #[.int .i64 (k : Int), .int .i64 (s : Int), .slice A m c, .slice A' n c']).alloc (.cells zeroD 25)
  have R0 := row_next (w := w) (o := .cells #[.int .i64 (k : Int), .int .i64 (s : Int), .slice A m c, .slice A' n c'] 25) (t := 25) (cs := zeroD) (g := w.heap.size + 1) (by simp)
  go_enter Try.func12, Try.ntmps12
  go_wp2_with (first
    | (go_at_call 16; refine (HR.out _ _ (HV.out.later C0 (Nat.le_refl _))).mono ?_; rintro e w1 ⟨rfl, hb⟩))
  have C1 := C0.trans (hb.mono C0.size)
  have RZ1 := R0.stays hb
  have RI1 := RI.stays hb
  clear hb C0 R0 RI HR HV
  have HNX1 := HNX.out.later C1 (Nat.le_refl _)
  have HBX1 := HBX.out.later C1 (Nat.le_refl _)
  have C0 := Lib.hid C1.drew
  have RZ_0 := Lib.hid RZ1.drew
  have HRI := Lib.hid (fun W (hW : Below w1.drew.heap.size w1.drew W) => RI1.drew.stays hW)
  have HNX2 : Hid (∀ W, Below w1.drew.heap.size w1.drew W → Nums W (.slice A m c) (Au.ofN f.next)) := Lib.hid (fun W hW => (HNX1.stays ((Below.refl _ _).drew)).stays hW)
  have HBX2 : Hid (∀ W, Below w1.drew.heap.size w1.drew W → Bools W (.slice A' n c') f.acc) := Lib.hid (fun W hW => (HBX1.stays ((Below.refl _ _).drew)).stays hW)
  have HRI2 : Hid (∀ W, Below w.heap.size w W → Bools W (.slice A' n c') f.acc) := Lib.hid (fun W hW => HBX.out.later hW (Nat.le_refl _))
  clear C1 RZ1 RI1 HNX1 HBX1 HNX HBX
  obtain ⟨z0, hz0⟩ : ∃ z, z = w1.drew.heap.size := ⟨_, rfl⟩
  rw [← hz0] at HRI HNX2 HBX2
  have Z0 := Lib.hid (Nat.le_of_eq hz0)
  clear hz0
  go_cut [4] (fun s4 wx => ∃ gd un um, s4 = .pointer (some ⟨gd, 0, none⟩) ∧ Row wx gd 25 #[.int .i64 (k : Int), .int .i64 (s : Int), un, um] ∧ wx.ownsRow w.heap.size 3 1 un m (natVs f.next) ∧ wx.ownsRow w.heap.size 4 1 um n (List.replicate n (.bool false)) ∧ Row wx (w.heap.size + 1) 25 zeroD ∧ Below w.heap.size w wx ∧ Row wx w.heap.size 25 #[.int .i64 (k : Int), .int .i64 (s : Int), .slice A m c, .slice A' n c'])
  case first => as_aux_lemma =>
    refine wp_region_held_drew (S := fun W => Below z0 w1.drew W) (by kernel_rfl) (Below.refl _ _) (fun S0 => ?_)
    generalize w1.drew = v0 at *
    refine wpAnyH_take (i := 0) (v := ?_) rfl (by kernel_rfl) (by kernel_rfl) (by kernel_rfl) (fun _ _ _ h => h) (Or.inl ⟨by rfl, ?_⟩) (by assumption) ?_
    rotate_left
    · intro _ _; go_simp; with_reducible rfl
    simp only [Act.put, List.setIfInBounds_toArray, List.set_cons_zero, List.set_cons_succ, List.getElem_toArray, List.getElem_cons_zero]
    refine wpAnyH_take (i := 1) (v := .int .i64 (k : Int)) rfl (by kernel_rfl) (by kernel_rfl) (by kernel_rfl) (fun _ _ _ h => h) (Or.inl ⟨by rfl, fun wq hC => by have hcell := (HRI.out wq hC).cell 0; go_simp; try with_reducible rfl⟩) (by assumption) ?_
    simp only [Act.put, List.setIfInBounds_toArray, List.set_cons_zero, List.set_cons_succ, List.getElem_toArray, List.getElem_cons_zero, List.getElem_cons_succ]
    refine wpAnyH_take (i := 2) (v := ?_) rfl (by kernel_rfl) (by kernel_rfl) (by kernel_rfl) (fun _ _ _ h => h) (Or.inl ⟨by rfl, ?_⟩) (by assumption) ?_
    rotate_left
    · intro _ _; go_simp; with_reducible rfl
    simp only [Act.put, List.setIfInBounds_toArray, List.set_cons_zero, List.set_cons_succ, List.getElem_toArray, List.getElem_cons_zero, List.getElem_cons_succ]
    refine wpAnyH_take (i := 3) (v := .int .i64 (s : Int)) rfl (by kernel_rfl) (by kernel_rfl) (by kernel_rfl) (fun _ _ _ h => h) (Or.inl ⟨by rfl, fun wq hC => by have hcell := (HRI.out wq hC).cell 1; go_simp; try with_reducible rfl⟩) (by assumption) ?_
    simp only [Act.put, List.setIfInBounds_toArray, List.set_cons_zero, List.set_cons_succ, List.getElem_toArray, List.getElem_cons_zero, List.getElem_cons_succ]
    refine wpAnyH_take (i := 4) (v := ?_) rfl (by kernel_rfl) (by kernel_rfl) (by kernel_rfl) (fun _ _ _ h => h) (Or.inl ⟨by rfl, ?_⟩) (by assumption) ?_
    rotate_left
    · intro _ _; go_simp; with_reducible rfl
    simp only [Act.put, List.setIfInBounds_toArray, List.set_cons_zero, List.set_cons_succ, List.getElem_toArray, List.getElem_cons_zero, List.getElem_cons_succ]
    refine wpAnyH_take (i := 5) (v := .slice A m c) rfl (by kernel_rfl) (by kernel_rfl) (by kernel_rfl) (fun _ _ _ h => h) (Or.inl ⟨by rfl, fun wq hC => by have hcell := (HRI.out wq hC).cell 2; go_simp; try with_reducible rfl⟩) (by assumption) ?_
    simp only [Act.put, List.setIfInBounds_toArray, List.set_cons_zero, List.set_cons_succ, List.getElem_toArray, List.getElem_cons_zero, List.getElem_cons_succ]
    refine wpAnyH_take (i := 7) (v := ?_) rfl (by kernel_rfl) (by kernel_rfl) (by kernel_rfl) (fun _ _ _ h => h) (Or.inl ⟨by rfl, ?_⟩) (by assumption) ?_
    rotate_left
    · intro _ _; go_simp; with_reducible rfl
    simp only [Act.put, List.setIfInBounds_toArray, List.set_cons_zero, List.set_cons_succ, List.getElem_toArray, List.getElem_cons_zero, List.getElem_cons_succ]
    refine wpAnyH_take (i := 8) (v := .slice A' n c') rfl (by kernel_rfl) (by kernel_rfl) (by kernel_rfl) (fun _ _ _ h => h) (Or.inl ⟨by rfl, fun wq hC => by have hcell := (HRI.out wq hC).cell 3; go_simp; try with_reducible rfl⟩) (by assumption) ?_
    simp only [Act.put, List.setIfInBounds_toArray, List.set_cons_zero, List.set_cons_succ, List.getElem_toArray, List.getElem_cons_zero, List.getElem_cons_succ]
    refine wpAnyH_take (i := 9) (v := ?_) rfl (by kernel_rfl) (by kernel_rfl) (by kernel_rfl) (fun _ _ _ h => h) (Or.inl ⟨by rfl, ?_⟩) (by assumption) ?_
    rotate_left
    · intro _ _; go_simp; with_reducible rfl
    simp only [Act.put, List.setIfInBounds_toArray, List.set_cons_zero, List.set_cons_succ, List.getElem_toArray, List.getElem_cons_zero, List.getElem_cons_succ]
    -- REGION
    refine wpAnyH_ready (rs := [6, 10, 12]) (by kernel_rfl) (by simp) (AllReadyH.cons rfl (fun K hK => ?_) (AllReadyH.cons rfl (fun K hK => ?_) (AllReadyH.cons rfl (fun K hK => ?_) AllReadyH.nil)))
    · rw [if_pos (by rfl)]
      go_simp
      refine (HCL.out v0 (HNX2.out v0 S0)).mono ?_
      rintro e v1 ⟨u2, rfl, HU, D⟩
      have C1 := Lib.hid (C0.out.trans (D.mono C0.out.size))
      have RZ_1 := Lib.hid (RZ_0.out.stays D)
      have FU_1 := Lib.hid (own_base HU (Nat.le_trans (Nat.le_succ w.heap.size) (Nat.le_of_lt RZ_0.out.lt)))
      clear HU
      obtain ⟨Au2, cu2, rfl, _⟩ := own_any FU_1.out
      have Z1 := Lib.hid (Nat.le_trans Z0.out D.size)
      have S1 := Below.trans S0 (D.mono Z0.out)
      go_wp2_with fail
      refine hK.out _ _ S1 (fun _ => ?_)
      clear hK K
      clear RZ_0 C0 D S0 Z0
      refine wpAnyH_ready (rs := [10, 12]) (by kernel_rfl) (by simp) (AllReadyH.cons rfl (fun K hK => ?_) (AllReadyH.cons rfl (fun K hK => ?_) AllReadyH.nil))
      · have D := (Below.refl v1.heap.size v1).alloc (Nat.le_refl _) (.cells (Array.replicate n (.bool false)) 4)
        have C2 := Lib.hid (C1.out.alloc C1.out.size (.cells (Array.replicate n (.bool false)) 4))
        have LgM := Lib.hid RZ_1.out.lt
        have FM_2 := Lib.hid (own_base (own_bools v1 n (by omega)) (Nat.le_trans (Nat.le_succ w.heap.size) (Nat.le_of_lt LgM.out)))
        have RZ_2 := Lib.hid (RZ_1.out.stays D)
        have FU_2 := Lib.hid (own_keep FU_1.out D)
        have MgM := Z1
        have Z2 := Lib.hid (Nat.le_trans Z1.out D.size)
        have S2 := Below.alloc S1 Z1.out (.cells (Array.replicate n (.bool false)) 4)
        rw [if_pos (by rfl)]
        go_simp
        refine hK.out _ _ S2 (fun _ => ?_)
        clear hK K
        clear RZ_1 FU_1 C1 D S1 Z1
        generalize v1.alloc (.cells (Array.replicate n (.bool false)) 4) = v2 at *
        generalize v1.heap.size = gM at *
        refine wpAnyH_take (i := 11) (v := ?_) rfl (by kernel_rfl) (by kernel_rfl) (by kernel_rfl) (fun _ _ _ h => h) (Or.inl ⟨by rfl, ?_⟩) (by assumption) ?_
        rotate_left
        · intro _ _; go_simp; with_reducible rfl
        simp only [Act.put, List.setIfInBounds_toArray, List.set_cons_zero, List.set_cons_succ, List.getElem_toArray, List.getElem_cons_zero, List.getElem_cons_succ]
        refine wpAnyH_ready (rs := [12]) (by kernel_rfl) (by simp) (AllReadyH.cons rfl (fun K hK => ?_) AllReadyH.nil)
        have D := (Below.refl v2.heap.size v2).alloc (Nat.le_refl _) (.cells #[.int .i64 0, .int .i64 0, .slice none 0 0, .slice none 0 0] 25)
        have C3 := Lib.hid (C2.out.alloc C2.out.size (.cells #[.int .i64 0, .int .i64 0, .slice none 0 0, .slice none 0 0] 25))
        have LgA := Lib.hid RZ_2.out.lt
        have FA_3 := Lib.hid (Row.new v2 25 #[.int .i64 0, .int .i64 0, .slice none 0 0, .slice none 0 0])
        have RZ_3 := Lib.hid (RZ_2.out.stays D)
        have FU_3 := Lib.hid (own_keep FU_2.out D)
        have FM_3 := Lib.hid (own_keep FM_2.out D)
        have MgA := Z2
        have Z3 := Lib.hid (Nat.le_trans Z2.out D.size)
        have S3 := Below.alloc S2 Z2.out (.cells #[.int .i64 0, .int .i64 0, .slice none 0 0, .slice none 0 0] 25)
        rw [if_pos (by rfl)]
        go_simp
        refine hK.out _ _ S3 (fun _ => ?_)
        clear hK K
        clear RZ_2 FU_2 FM_2 C2 D S2 Z2
        generalize v2.alloc (.cells #[.int .i64 0, .int .i64 0, .slice none 0 0, .slice none 0 0] 25) = v3 at *
        generalize v2.heap.size = gA at *
        refine wpAnyH_ready (rs := [13]) (by kernel_rfl) (by simp) (AllReadyH.cons rfl (fun K hK => ?_) AllReadyH.nil)
        rw [if_pos (by rfl)]
        refine wp_store_row 25 _ _ rfl gA #[.int .i64 (k : Int), .int .i64 (s : Int), .slice Au2 m cu2, .slice (some ⟨gM, 0, none⟩) n n] rfl rfl 25 _ FA_3.out infoDfa rfl (dfaD_one _ _ _ _ _ _ _ _) ?_
        refine hK.out _ _ (below_setRow S3 MgA.out _) (fun _ => ?_)
        clear hK K
        refine wpAnyH_done (by kernel_rfl) ?_ _
        go_wp2
        go_meet
        exact ⟨gA, _, _, rfl, FA_3.out.whole _, own_row FU_3.out FA_3.out (by decide), own_row FM_3.out FA_3.out (by decide), Row.aside RZ_3.out (Nat.ne_of_lt LgA.out) _, below_setRow C3.out (Nat.le_trans (Nat.le_succ _) (Nat.le_of_lt LgA.out)) _, Row.aside (HRI.out _ S3) (Nat.ne_of_lt (Nat.lt_of_succ_lt LgA.out)) _⟩
      · have D := (Below.refl v1.heap.size v1).alloc (Nat.le_refl _) (.cells #[.int .i64 0, .int .i64 0, .slice none 0 0, .slice none 0 0] 25)
        have C2 := Lib.hid (C1.out.alloc C1.out.size (.cells #[.int .i64 0, .int .i64 0, .slice none 0 0, .slice none 0 0] 25))
        have LgA := Lib.hid RZ_1.out.lt
        have FA_2 := Lib.hid (Row.new v1 25 #[.int .i64 0, .int .i64 0, .slice none 0 0, .slice none 0 0])
        have RZ_2 := Lib.hid (RZ_1.out.stays D)
        have FU_2 := Lib.hid (own_keep FU_1.out D)
        have MgA := Z1
        have Z2 := Lib.hid (Nat.le_trans Z1.out D.size)
        have S2 := Below.alloc S1 Z1.out (.cells #[.int .i64 0, .int .i64 0, .slice none 0 0, .slice none 0 0] 25)
        rw [if_pos (by rfl)]
        go_simp
        refine hK.out _ _ S2 (fun _ => ?_)
        clear hK K
        clear RZ_1 FU_1 C1 D S1 Z1
        generalize v1.alloc (.cells #[.int .i64 0, .int .i64 0, .slice none 0 0, .slice none 0 0] 25) = v2 at *
        generalize v1.heap.size = gA at *
        refine wpAnyH_ready (rs := [10]) (by kernel_rfl) (by simp) (AllReadyH.cons rfl (fun K hK => ?_) AllReadyH.nil)
        have D := (Below.refl v2.heap.size v2).alloc (Nat.le_refl _) (.cells (Array.replicate n (.bool false)) 4)
        have C3 := Lib.hid (C2.out.alloc C2.out.size (.cells (Array.replicate n (.bool false)) 4))
        have LgM := Lib.hid RZ_2.out.lt
        have FM_3 := Lib.hid (own_base (own_bools v2 n (by omega)) (Nat.le_trans (Nat.le_succ w.heap.size) (Nat.le_of_lt LgM.out)))
        have RZ_3 := Lib.hid (RZ_2.out.stays D)
        have FU_3 := Lib.hid (own_keep FU_2.out D)
        have FA_3 := Lib.hid (FA_2.out.stays D)
        have MgM := Z2
        have Z3 := Lib.hid (Nat.le_trans Z2.out D.size)
        have S3 := Below.alloc S2 Z2.out (.cells (Array.replicate n (.bool false)) 4)
        rw [if_pos (by rfl)]
        go_simp
        refine hK.out _ _ S3 (fun _ => ?_)
        clear hK K
        clear RZ_2 FU_2 FA_2 C2 D S2 Z2
        generalize v2.alloc (.cells (Array.replicate n (.bool false)) 4) = v3 at *
        generalize v2.heap.size = gM at *
        refine wpAnyH_take (i := 11) (v := ?_) rfl (by kernel_rfl) (by kernel_rfl) (by kernel_rfl) (fun _ _ _ h => h) (Or.inl ⟨by rfl, ?_⟩) (by assumption) ?_
        rotate_left
        · intro _ _; go_simp; with_reducible rfl
        simp only [Act.put, List.setIfInBounds_toArray, List.set_cons_zero, List.set_cons_succ, List.getElem_toArray, List.getElem_cons_zero, List.getElem_cons_succ]
        refine wpAnyH_ready (rs := [13]) (by kernel_rfl) (by simp) (AllReadyH.cons rfl (fun K hK => ?_) AllReadyH.nil)
        rw [if_pos (by rfl)]
        refine wp_store_row 25 _ _ rfl gA #[.int .i64 (k : Int), .int .i64 (s : Int), .slice Au2 m cu2, .slice (some ⟨gM, 0, none⟩) n n] rfl rfl 25 _ FA_3.out infoDfa rfl (dfaD_one _ _ _ _ _ _ _ _) ?_
        refine hK.out _ _ (below_setRow S3 MgA.out _) (fun _ => ?_)
        clear hK K
        refine wpAnyH_done (by kernel_rfl) ?_ _
        go_wp2
        go_meet
        exact ⟨gA, _, _, rfl, FA_3.out.whole _, own_row FU_3.out FA_3.out (by decide), own_row FM_3.out FA_3.out (by decide), Row.aside RZ_3.out (Nat.ne_of_lt LgA.out) _, below_setRow C3.out (Nat.le_trans (Nat.le_succ _) (Nat.le_of_lt LgA.out)) _, Row.aside (HRI.out _ S3) (Nat.ne_of_lt (Nat.lt_of_succ_lt LgA.out)) _⟩
    · have D := (Below.refl v0.heap.size v0).alloc (Nat.le_refl _) (.cells (Array.replicate n (.bool false)) 4)
      have C1 := Lib.hid (C0.out.alloc C0.out.size (.cells (Array.replicate n (.bool false)) 4))
      have LgM := Lib.hid RZ_0.out.lt
      have FM_1 := Lib.hid (own_base (own_bools v0 n (by omega)) (Nat.le_trans (Nat.le_succ w.heap.size) (Nat.le_of_lt LgM.out)))
      have RZ_1 := Lib.hid (RZ_0.out.stays D)
      have MgM := Z0
      have Z1 := Lib.hid (Nat.le_trans Z0.out D.size)
      have S1 := Below.alloc S0 Z0.out (.cells (Array.replicate n (.bool false)) 4)
      rw [if_pos (by rfl)]
      go_simp
      refine hK.out _ _ S1 (fun _ => ?_)
      clear hK K
      clear RZ_0 C0 D S0 Z0
      generalize v0.alloc (.cells (Array.replicate n (.bool false)) 4) = v1 at *
      generalize v0.heap.size = gM at *
      refine wpAnyH_ready (rs := [6, 12]) (by kernel_rfl) (by simp) (AllReadyH.cons rfl (fun K hK => ?_) (AllReadyH.cons rfl (fun K hK => ?_) AllReadyH.nil))
      · rw [if_pos (by rfl)]
        go_simp
        refine (HCL.out v1 (HNX2.out v1 S1)).mono ?_
        rintro e v2 ⟨u2, rfl, HU, D⟩
        have C2 := Lib.hid (C1.out.trans (D.mono C1.out.size))
        have RZ_2 := Lib.hid (RZ_1.out.stays D)
        have FM_2 := Lib.hid (own_keep FM_1.out D)
        have FU_2 := Lib.hid (own_base HU (Nat.le_trans (Nat.le_succ w.heap.size) (Nat.le_of_lt RZ_1.out.lt)))
        clear HU
        obtain ⟨Au2, cu2, rfl, _⟩ := own_any FU_2.out
        have Z2 := Lib.hid (Nat.le_trans Z1.out D.size)
        have S2 := Below.trans S1 (D.mono Z1.out)
        go_wp2_with fail
        refine hK.out _ _ S2 (fun _ => ?_)
        clear hK K
        clear RZ_1 FM_1 C1 D S1 Z1
        refine wpAnyH_take (i := 11) (v := ?_) rfl (by kernel_rfl) (by kernel_rfl) (by kernel_rfl) (fun _ _ _ h => h) (Or.inl ⟨by rfl, ?_⟩) (by assumption) ?_
        rotate_left
        · intro _ _; go_simp; with_reducible rfl
        simp only [Act.put, List.setIfInBounds_toArray, List.set_cons_zero, List.set_cons_succ, List.getElem_toArray, List.getElem_cons_zero, List.getElem_cons_succ]
        refine wpAnyH_ready (rs := [12]) (by kernel_rfl) (by simp) (AllReadyH.cons rfl (fun K hK => ?_) AllReadyH.nil)
        have D := (Below.refl v2.heap.size v2).alloc (Nat.le_refl _) (.cells #[.int .i64 0, .int .i64 0, .slice none 0 0, .slice none 0 0] 25)
        have C3 := Lib.hid (C2.out.alloc C2.out.size (.cells #[.int .i64 0, .int .i64 0, .slice none 0 0, .slice none 0 0] 25))
        have LgA := Lib.hid RZ_2.out.lt
        have FA_3 := Lib.hid (Row.new v2 25 #[.int .i64 0, .int .i64 0, .slice none 0 0, .slice none 0 0])
        have RZ_3 := Lib.hid (RZ_2.out.stays D)
        have FM_3 := Lib.hid (own_keep FM_2.out D)
        have FU_3 := Lib.hid (own_keep FU_2.out D)
        have MgA := Z2
        have Z3 := Lib.hid (Nat.le_trans Z2.out D.size)
        have S3 := Below.alloc S2 Z2.out (.cells #[.int .i64 0, .int .i64 0, .slice none 0 0, .slice none 0 0] 25)
        rw [if_pos (by rfl)]
        go_simp
        refine hK.out _ _ S3 (fun _ => ?_)
        clear hK K
        clear RZ_2 FM_2 FU_2 C2 D S2 Z2
        generalize v2.alloc (.cells #[.int .i64 0, .int .i64 0, .slice none 0 0, .slice none 0 0] 25) = v3 at *
        generalize v2.heap.size = gA at *
        refine wpAnyH_ready (rs := [13]) (by kernel_rfl) (by simp) (AllReadyH.cons rfl (fun K hK => ?_) AllReadyH.nil)
        rw [if_pos (by rfl)]
        refine wp_store_row 25 _ _ rfl gA #[.int .i64 (k : Int), .int .i64 (s : Int), .slice Au2 m cu2, .slice (some ⟨gM, 0, none⟩) n n] rfl rfl 25 _ FA_3.out infoDfa rfl (dfaD_one _ _ _ _ _ _ _ _) ?_
        refine hK.out _ _ (below_setRow S3 MgA.out _) (fun _ => ?_)
        clear hK K
        refine wpAnyH_done (by kernel_rfl) ?_ _
        go_wp2
        go_meet
        exact ⟨gA, _, _, rfl, FA_3.out.whole _, own_row FU_3.out FA_3.out (by decide), own_row FM_3.out FA_3.out (by decide), Row.aside RZ_3.out (Nat.ne_of_lt LgA.out) _, below_setRow C3.out (Nat.le_trans (Nat.le_succ _) (Nat.le_of_lt LgA.out)) _, Row.aside (HRI.out _ S3) (Nat.ne_of_lt (Nat.lt_of_succ_lt LgA.out)) _⟩
      · have D := (Below.refl v1.heap.size v1).alloc (Nat.le_refl _) (.cells #[.int .i64 0, .int .i64 0, .slice none 0 0, .slice none 0 0] 25)
        have C2 := Lib.hid (C1.out.alloc C1.out.size (.cells #[.int .i64 0, .int .i64 0, .slice none 0 0, .slice none 0 0] 25))
        have LgA := Lib.hid RZ_1.out.lt
        have FA_2 := Lib.hid (Row.new v1 25 #[.int .i64 0, .int .i64 0, .slice none 0 0, .slice none 0 0])
        have RZ_2 := Lib.hid (RZ_1.out.stays D)
        have FM_2 := Lib.hid (own_keep FM_1.out D)
        have MgA := Z1
        have Z2 := Lib.hid (Nat.le_trans Z1.out D.size)
        have S2 := Below.alloc S1 Z1.out (.cells #[.int .i64 0, .int .i64 0, .slice none 0 0, .slice none 0 0] 25)
        rw [if_pos (by rfl)]
        go_simp
        refine hK.out _ _ S2 (fun _ => ?_)
        clear hK K
        clear RZ_1 FM_1 C1 D S1 Z1
        generalize v1.alloc (.cells #[.int .i64 0, .int .i64 0, .slice none 0 0, .slice none 0 0] 25) = v2 at *
        generalize v1.heap.size = gA at *
        refine wpAnyH_ready (rs := [6]) (by kernel_rfl) (by simp) (AllReadyH.cons rfl (fun K hK => ?_) AllReadyH.nil)
        rw [if_pos (by rfl)]
        go_simp
        refine (HCL.out v2 (HNX2.out v2 S2)).mono ?_
        rintro e v3 ⟨u2, rfl, HU, D⟩
        have C3 := Lib.hid (C2.out.trans (D.mono C2.out.size))
        have RZ_3 := Lib.hid (RZ_2.out.stays D)
        have FM_3 := Lib.hid (own_keep FM_2.out D)
        have FA_3 := Lib.hid (FA_2.out.stays D)
        have FU_3 := Lib.hid (own_base HU (Nat.le_trans (Nat.le_succ w.heap.size) (Nat.le_of_lt RZ_2.out.lt)))
        clear HU
        obtain ⟨Au2, cu2, rfl, _⟩ := own_any FU_3.out
        have Z3 := Lib.hid (Nat.le_trans Z2.out D.size)
        have S3 := Below.trans S2 (D.mono Z2.out)
        go_wp2_with fail
        refine hK.out _ _ S3 (fun _ => ?_)
        clear hK K
        clear RZ_2 FM_2 FA_2 C2 D S2 Z2
        refine wpAnyH_take (i := 11) (v := ?_) rfl (by kernel_rfl) (by kernel_rfl) (by kernel_rfl) (fun _ _ _ h => h) (Or.inl ⟨by rfl, ?_⟩) (by assumption) ?_
        rotate_left
        · intro _ _; go_simp; with_reducible rfl
        simp only [Act.put, List.setIfInBounds_toArray, List.set_cons_zero, List.set_cons_succ, List.getElem_toArray, List.getElem_cons_zero, List.getElem_cons_succ]
        refine wpAnyH_ready (rs := [13]) (by kernel_rfl) (by simp) (AllReadyH.cons rfl (fun K hK => ?_) AllReadyH.nil)
        rw [if_pos (by rfl)]
        refine wp_store_row 25 _ _ rfl gA #[.int .i64 (k : Int), .int .i64 (s : Int), .slice Au2 m cu2, .slice (some ⟨gM, 0, none⟩) n n] rfl rfl 25 _ FA_3.out infoDfa rfl (dfaD_one _ _ _ _ _ _ _ _) ?_
        refine hK.out _ _ (below_setRow S3 MgA.out _) (fun _ => ?_)
        clear hK K
        refine wpAnyH_done (by kernel_rfl) ?_ _
        go_wp2
        go_meet
        exact ⟨gA, _, _, rfl, FA_3.out.whole _, own_row FU_3.out FA_3.out (by decide), own_row FM_3.out FA_3.out (by decide), Row.aside RZ_3.out (Nat.ne_of_lt LgA.out) _, below_setRow C3.out (Nat.le_trans (Nat.le_succ _) (Nat.le_of_lt LgA.out)) _, Row.aside (HRI.out _ S3) (Nat.ne_of_lt (Nat.lt_of_succ_lt LgA.out)) _⟩
    · have D := (Below.refl v0.heap.size v0).alloc (Nat.le_refl _) (.cells #[.int .i64 0, .int .i64 0, .slice none 0 0, .slice none 0 0] 25)
      have C1 := Lib.hid (C0.out.alloc C0.out.size (.cells #[.int .i64 0, .int .i64 0, .slice none 0 0, .slice none 0 0] 25))
      have LgA := Lib.hid RZ_0.out.lt
      have FA_1 := Lib.hid (Row.new v0 25 #[.int .i64 0, .int .i64 0, .slice none 0 0, .slice none 0 0])
      have RZ_1 := Lib.hid (RZ_0.out.stays D)
      have MgA := Z0
      have Z1 := Lib.hid (Nat.le_trans Z0.out D.size)
      have S1 := Below.alloc S0 Z0.out (.cells #[.int .i64 0, .int .i64 0, .slice none 0 0, .slice none 0 0] 25)
      rw [if_pos (by rfl)]
      go_simp
      refine hK.out _ _ S1 (fun _ => ?_)
      clear hK K
      clear RZ_0 C0 D S0 Z0
      generalize v0.alloc (.cells #[.int .i64 0, .int .i64 0, .slice none 0 0, .slice none 0 0] 25) = v1 at *
      generalize v0.heap.size = gA at *
      refine wpAnyH_ready (rs := [6, 10]) (by kernel_rfl) (by simp) (AllReadyH.cons rfl (fun K hK => ?_) (AllReadyH.cons rfl (fun K hK => ?_) AllReadyH.nil))
      · rw [if_pos (by rfl)]
        go_simp
        refine (HCL.out v1 (HNX2.out v1 S1)).mono ?_
        rintro e v2 ⟨u2, rfl, HU, D⟩
        have C2 := Lib.hid (C1.out.trans (D.mono C1.out.size))
        have RZ_2 := Lib.hid (RZ_1.out.stays D)
        have FA_2 := Lib.hid (FA_1.out.stays D)
        have FU_2 := Lib.hid (own_base HU (Nat.le_trans (Nat.le_succ w.heap.size) (Nat.le_of_lt RZ_1.out.lt)))
        clear HU
        obtain ⟨Au2, cu2, rfl, _⟩ := own_any FU_2.out
        have Z2 := Lib.hid (Nat.le_trans Z1.out D.size)
        have S2 := Below.trans S1 (D.mono Z1.out)
        go_wp2_with fail
        refine hK.out _ _ S2 (fun _ => ?_)
        clear hK K
        clear RZ_1 FA_1 C1 D S1 Z1
        refine wpAnyH_ready (rs := [10]) (by kernel_rfl) (by simp) (AllReadyH.cons rfl (fun K hK => ?_) AllReadyH.nil)
        have D := (Below.refl v2.heap.size v2).alloc (Nat.le_refl _) (.cells (Array.replicate n (.bool false)) 4)
        have C3 := Lib.hid (C2.out.alloc C2.out.size (.cells (Array.replicate n (.bool false)) 4))
        have LgM := Lib.hid RZ_2.out.lt
        have FM_3 := Lib.hid (own_base (own_bools v2 n (by omega)) (Nat.le_trans (Nat.le_succ w.heap.size) (Nat.le_of_lt LgM.out)))
        have RZ_3 := Lib.hid (RZ_2.out.stays D)
        have FA_3 := Lib.hid (FA_2.out.stays D)
        have FU_3 := Lib.hid (own_keep FU_2.out D)
        have MgM := Z2
        have Z3 := Lib.hid (Nat.le_trans Z2.out D.size)
        have S3 := Below.alloc S2 Z2.out (.cells (Array.replicate n (.bool false)) 4)
        rw [if_pos (by rfl)]
        go_simp
        refine hK.out _ _ S3 (fun _ => ?_)
        clear hK K
        clear RZ_2 FA_2 FU_2 C2 D S2 Z2
        generalize v2.alloc (.cells (Array.replicate n (.bool false)) 4) = v3 at *
        generalize v2.heap.size = gM at *
        refine wpAnyH_take (i := 11) (v := ?_) rfl (by kernel_rfl) (by kernel_rfl) (by kernel_rfl) (fun _ _ _ h => h) (Or.inl ⟨by rfl, ?_⟩) (by assumption) ?_
        rotate_left
        · intro _ _; go_simp; with_reducible rfl
        simp only [Act.put, List.setIfInBounds_toArray, List.set_cons_zero, List.set_cons_succ, List.getElem_toArray, List.getElem_cons_zero, List.getElem_cons_succ]
        refine wpAnyH_ready (rs := [13]) (by kernel_rfl) (by simp) (AllReadyH.cons rfl (fun K hK => ?_) AllReadyH.nil)
        rw [if_pos (by rfl)]
        refine wp_store_row 25 _ _ rfl gA #[.int .i64 (k : Int), .int .i64 (s : Int), .slice Au2 m cu2, .slice (some ⟨gM, 0, none⟩) n n] rfl rfl 25 _ FA_3.out infoDfa rfl (dfaD_one _ _ _ _ _ _ _ _) ?_
        refine hK.out _ _ (below_setRow S3 MgA.out _) (fun _ => ?_)
        clear hK K
        refine wpAnyH_done (by kernel_rfl) ?_ _
        go_wp2
        go_meet
        exact ⟨gA, _, _, rfl, FA_3.out.whole _, own_row FU_3.out FA_3.out (by decide), own_row FM_3.out FA_3.out (by decide), Row.aside RZ_3.out (Nat.ne_of_lt LgA.out) _, below_setRow C3.out (Nat.le_trans (Nat.le_succ _) (Nat.le_of_lt LgA.out)) _, Row.aside (HRI.out _ S3) (Nat.ne_of_lt (Nat.lt_of_succ_lt LgA.out)) _⟩
      · have D := (Below.refl v1.heap.size v1).alloc (Nat.le_refl _) (.cells (Array.replicate n (.bool false)) 4)
        have C2 := Lib.hid (C1.out.alloc C1.out.size (.cells (Array.replicate n (.bool false)) 4))
        have LgM := Lib.hid RZ_1.out.lt
        have FM_2 := Lib.hid (own_base (own_bools v1 n (by omega)) (Nat.le_trans (Nat.le_succ w.heap.size) (Nat.le_of_lt LgM.out)))
        have RZ_2 := Lib.hid (RZ_1.out.stays D)
        have FA_2 := Lib.hid (FA_1.out.stays D)
        have MgM := Z1
        have Z2 := Lib.hid (Nat.le_trans Z1.out D.size)
        have S2 := Below.alloc S1 Z1.out (.cells (Array.replicate n (.bool false)) 4)
        rw [if_pos (by rfl)]
        go_simp
        refine hK.out _ _ S2 (fun _ => ?_)
        clear hK K
        clear RZ_1 FA_1 C1 D S1 Z1
        generalize v1.alloc (.cells (Array.replicate n (.bool false)) 4) = v2 at *
        generalize v1.heap.size = gM at *
        refine wpAnyH_ready (rs := [6]) (by kernel_rfl) (by simp) (AllReadyH.cons rfl (fun K hK => ?_) AllReadyH.nil)
        rw [if_pos (by rfl)]
        go_simp
        refine (HCL.out v2 (HNX2.out v2 S2)).mono ?_
        rintro e v3 ⟨u2, rfl, HU, D⟩
        have C3 := Lib.hid (C2.out.trans (D.mono C2.out.size))
        have RZ_3 := Lib.hid (RZ_2.out.stays D)
        have FA_3 := Lib.hid (FA_2.out.stays D)
        have FM_3 := Lib.hid (own_keep FM_2.out D)
        have FU_3 := Lib.hid (own_base HU (Nat.le_trans (Nat.le_succ w.heap.size) (Nat.le_of_lt RZ_2.out.lt)))
        clear HU
        obtain ⟨Au2, cu2, rfl, _⟩ := own_any FU_3.out
        have Z3 := Lib.hid (Nat.le_trans Z2.out D.size)
        have S3 := Below.trans S2 (D.mono Z2.out)
        go_wp2_with fail
        refine hK.out _ _ S3 (fun _ => ?_)
        clear hK K
        clear RZ_2 FA_2 FM_2 C2 D S2 Z2
        refine wpAnyH_take (i := 11) (v := ?_) rfl (by kernel_rfl) (by kernel_rfl) (by kernel_rfl) (fun _ _ _ h => h) (Or.inl ⟨by rfl, ?_⟩) (by assumption) ?_
        rotate_left
        · intro _ _; go_simp; with_reducible rfl
        simp only [Act.put, List.setIfInBounds_toArray, List.set_cons_zero, List.set_cons_succ, List.getElem_toArray, List.getElem_cons_zero, List.getElem_cons_succ]
        refine wpAnyH_ready (rs := [13]) (by kernel_rfl) (by simp) (AllReadyH.cons rfl (fun K hK => ?_) AllReadyH.nil)
        rw [if_pos (by rfl)]
        refine wp_store_row 25 _ _ rfl gA #[.int .i64 (k : Int), .int .i64 (s : Int), .slice Au2 m cu2, .slice (some ⟨gM, 0, none⟩) n n] rfl rfl 25 _ FA_3.out infoDfa rfl (dfaD_one _ _ _ _ _ _ _ _) ?_
        refine hK.out _ _ (below_setRow S3 MgA.out _) (fun _ => ?_)
        clear hK K
        refine wpAnyH_done (by kernel_rfl) ?_ _
        go_wp2
        go_meet
        exact ⟨gA, _, _, rfl, FA_3.out.whole _, own_row FU_3.out FA_3.out (by decide), own_row FM_3.out FA_3.out (by decide), Row.aside RZ_3.out (Nat.ne_of_lt LgA.out) _, below_setRow C3.out (Nat.le_trans (Nat.le_succ _) (Nat.le_of_lt LgA.out)) _, Row.aside (HRI.out _ S3) (Nat.ne_of_lt (Nat.lt_of_succ_lt LgA.out)) _⟩
    -- BEHIND
  case rest =>
    obtain ⟨gd, un, um, rfl, RD, OU, OM, RZ, hb, RIN⟩ := hcut
    obtain ⟨Aun, cun, rfl, _⟩ := own_any OU
    obtain ⟨Aum, cum, rfl, hAum⟩ := own_any OM
    have hn0 : 0 < n := by
      have h := HF.out.start
      unfold Au.Fa.n at h
      rw [HN.out] at h
      omega
    obtain ⟨gm, rfl⟩ := hAum hn0
    have hdm := row_own_ne OM RD (by decide)
    have hzm := row_own_ne OM RZ (by decide)
    have him := row_own_ne OM RIN (by decide)
    have hgm : w.heap.size ≤ gm := (OM.lt gm rfl).1
    have hum : (Value.slice Aun m cun).ownBlock ≠ some gm := by
      cases Aun with
      | none => simp [Value.ownBlock]
      | some a =>
        obtain ⟨Aq, cq, hv, hq⟩ := own_any OU
        have hm0 : 0 < m := by
          have h := HF.out.len
          rw [HM.out] at h
          rw [h]
          exact Nat.mul_pos (by unfold Au.Fa.n; rw [HN.out]; exact hn0) HF.out.k1
        obtain ⟨g, hg⟩ := hq hm0
        obtain ⟨e, _, _⟩ := Value.slice.inj hv
        rw [hg] at e
        obtain rfl := Option.some.inj e
        have := own_own_ne OU OM (by decide)
        intro e2
        exact this (Option.some.inj e2)
    have HOM : Hid (wc.ownsRow w.heap.size 4 1 (.slice (some ⟨gm, 0, none⟩) n cum) n (boolVs (flip f.acc n 0))) := Lib.hid (by rw [flip_zero, boolVs_replicate]; exact OM)
    have HOU := Lib.hid OU
    have HRD := Lib.hid RD
    have HRZ := Lib.hid RZ
    have HBC := Lib.hid hb
    have HNE := Lib.hid (And.intro hdm (And.intro hzm hum))
    have c3 := RIN.cell 3
    clear OU OM RD RZ hb hdm hzm hum RIN him hAum
    go_wp2
    clear c3
    go_loopw [26] (fun i wr => ∃ j : Nat, j ≤ n ∧ i = .int .i64 j ∧ Hid (Row wr gd 25 #[.int .i64 (k : Int), .int .i64 (s : Int), .slice Aun m cun, .slice (some ⟨gm, 0, none⟩) n cum]) ∧ Hid (Row wr (w.heap.size + 1) 25 zeroD) ∧ Hid (wr.ownsRow w.heap.size 3 1 (.slice Aun m cun) m (natVs f.next)) ∧ Hid (wr.ownsRow w.heap.size 4 1 (.slice (some ⟨gm, 0, none⟩) n cum) n (boolVs (flip f.acc n j))) ∧ Hid (Below w.heap.size w wr)) (fun i _ => n - (intOf i).toNat)
    case atStart => exact ⟨0, Nat.zero_le _, rfl, HRD, HRZ, HOU, HOM, HBC⟩
    case round =>
      obtain ⟨j, hj, rfl, HD, HZ, HU, HMM, HB⟩ := hrel
      by_cases hlt : j < n
      · obtain ⟨b, hbj⟩ : ∃ b, f.acc[j]? = some b := ⟨_, List.getElem?_eq_getElem (by rw [HN.out]; exact hlt)⟩
        obtain ⟨g, off, rfl, hcell⟩ := (HRI2.out _ HB.out).at hbj
        have HS := Lib.hid (HMM.out.stored j (.bool (!b))).1
        rw [flip_set HN.out hbj] at HS
        have hfr := HMM.out.frozenAt j
        have hold := HMM.out.cellAt j (Nat.lt_of_lt_of_eq hlt (Nat.mul_one n).symm)
        obtain ⟨o, ho⟩ : ∃ o, (boolVs (flip f.acc n j))[j]? = some o := ⟨_, List.getElem?_eq_getElem (by rw [boolVs_length, flip_length HN.out hj]; exact hlt)⟩
        rw [ho] at hold
        have c3 := HD.out.cell 3
        have HD2 := Lib.hid (HD.out.other (p := ⟨gm, j, none⟩) HNE.out.1 (.bool (!b)))
        have HZ2 := Lib.hid (HZ.out.other (p := ⟨gm, j, none⟩) HNE.out.2.1 (.bool (!b)))
        have HU2 := Lib.hid (own_far HU.out (p := ⟨gm, j, none⟩) HNE.out.2.2 (.bool (!b)))
        have HB2 := Lib.hid (HB.out.setCell (p := ⟨gm, j, none⟩) hgm (.bool (!b)))
        clear hbj ho
        go_wp2
        go_roundw
        case rel => exact ⟨j + 1, by omega, by go_num, HD2, HZ2, HU2, HS, HB2⟩
        case measure => simp [intOf]; omega
      · obtain rfl : j = n := by omega
        have HNF := Lib.hid (Au.not_sound HF.out)
        rw [flip_all HN.out] at HMM
        have hcn : Au.notFa f = ⟨k, s, f.next, f.acc.map not⟩ := by unfold Au.notFa; rw [HKS.out.1, HKS.out.2]
        rw [hcn] at HNF HPost
        clear hcn
        generalize f.acc.map not = E at *
        go_wp2_with (first
          | (refine at_slot 38 rfl ?_; refine load_row rfl 25 _ rfl gd rfl HD.out Try.underlying25 rfl infoDfa ?_)
          | (refine wpList_store_row rfl 25 _ _ rfl (w.heap.size + 1) #[.int .i64 (k : Int), .int .i64 (s : Int), .slice Aun m cun, .slice (some ⟨gm, 0, none⟩) j cum] rfl rfl 25 _ HZ.out infoDfa rfl (dfaD_one _ _ _ _ _ _ _ _) ?_))
        exact bodyPost_ret (v := .tuple #[.agg #[.int .i64 (k : Int), .int .i64 (s : Int), .slice Aun m cun, .slice (some ⟨gm, 0, none⟩) j cum], .int .i64 0]) (results_cell_two rfl _ _ (w.heap.size + 1) _ _ _ rfl _ rfl (HZ.out.whole _) Try.underlying25 rfl infoDfa) rfl
          (HPost.out _ _ ⟨_, rfl, sound_auto HNF.out (nums_own (own_row HU.out HZ.out (by decide))) (bools_own (own_row HMM.out HZ.out (by decide))), below_setRow HB.out (Nat.le_succ _) _⟩)
end Go.Proofs.Ytdidogcgoghdmaa
