/- The walk of the reference's Drop of a shelf. -/
import Derived.Test.YtnepgibjijdheaaRefShelfExpire
import Derived.Test.YtnepgibjijdheaaSpanMore
namespace Go.Proofs.Ytnepgibjijdheaa
open Go.RowKit
set_option maxRecDepth 100000 in
set_option maxHeartbeats 8000000 in
theorem refDrop_calls (s : Sh.Shelf) (c : Ma.Cookie) (hc : c.host.addr.length = 16) (v : Value) (w : World) (ho : AllOk s.l) (hv : Lies keptA w v s.l) (hn : s.l.length ≤ 1000000) :
    Calls Try.prog 22 #[.agg #[v, .int .i64 s.last], .agg (cookieA c)] w (NewKept (Sh.drop s c).1 (.bool (Sh.drop s c).2) w) := by
  have z1 := zeroKept
  have HV := Lib.hid hv
  have HOK := Lib.hid ho
  have HC := Lib.hid (show (Try.prog.info? 34).map (·.size) = some (cookieA c).size by rw [cookieA_size c hc]; exact infoCookie)
  have HAT := Lib.hid (fun W hW => refAt_calls s c hc v W ho hW hn)
  obtain ⟨A, cp, rfl, hcp, _⟩ := hv
  obtain ⟨n, hnn⟩ : ∃ n, s.l.length = n := ⟨_, rfl⟩
  have HNN := Lib.hid hnn
  rw [hnn] at hn hcp HV HAT ⊢
  have hN : (w.alloc (.cells #[Value.slice A n cp, .int .i64 s.last] 28)).heap.size = w.heap.size + 1 := by simp
  have hN2 : ((w.alloc (.cells #[Value.slice A n cp, .int .i64 s.last] 28)).alloc (.cells (cookieA c) 34)).heap.size = w.heap.size + 2 := by simp
  have R0 := ((Row.new w 28 #[Value.slice A n cp, .int .i64 s.last]).alloc (.cells (cookieA c) 34)).alloc (.cells #[.slice none 0 0, .int .i64 0] 28)
  have K0 := (Row.new (w.alloc (.cells #[Value.slice A n cp, .int .i64 s.last] 28)) 34 (cookieA c)).alloc (.cells #[.slice none 0 0, .int .i64 0] 28)
  have O0 := Row.new ((w.alloc (.cells #[Value.slice A n cp, .int .i64 s.last] 28)).alloc (.cells (cookieA c) 34)) 28 #[.slice none 0 0, .int .i64 0]
  rw [hN] at K0
  rw [hN2] at O0
  have C0 := (((Below.refl w.heap.size w).alloc (Nat.le_refl _) (.cells #[Value.slice A n cp, .int .i64 s.last] 28)).alloc (by rw [hN]; omega) (.cells (cookieA c) 34)).alloc (by rw [hN2]; omega) (.cells #[.slice none 0 0, .int .i64 0] 28)
  have HSI : Hid ((Try.prog.info? 28).map (·.size) = some #[Value.slice A n cp, .int .i64 s.last].size) := Lib.hid zeroRefShelf
  have HS1 : Hid (#[Value.slice A n cp, .int .i64 s.last].all (·.oneCell') = true) := Lib.hid (by simp [Value.oneCell'])
  clear hN hN2 ho hnn
  cases hpl : Sh.place s c with
  | none =>
    have hu : Sh.drop s c = (s, false) := by unfold Sh.drop; rw [hpl]
    have hpi : Sh.placeI s c = -1 := by unfold Sh.placeI; rw [hpl]
    rw [hu]
    rw [hpi] at HAT
    clear hu hpi hpl
    go_enter Try.func22, Try.ntmps22
    go_wp2_with (first
      | (refine at_slot 7 rfl ?_; refine load_row rfl 28 _ rfl w.heap.size rfl R0 Try.underlying28 rfl HSI.out ?_)
      | (refine at_slot 8 rfl ?_; refine load_row rfl 34 _ rfl (w.heap.size + 1) rfl K0 Try.underlying34 rfl HC.out ?_))
    generalize (((w.alloc (.cells #[Value.slice A n cp, .int .i64 s.last] 28)).alloc (.cells (cookieA c) 34)).alloc (.cells #[.slice none 0 0, .int .i64 0] 28)) = x0 at *
    refine (HAT.out x0 (HV.out.stays C0)).mono ?_
    rintro e x1 ⟨rfl, d1⟩
    have R1 := R0.stays d1
    have K1 := K0.stays d1
    have O1 := O0.stays d1
    have C1 := C0.trans (d1.mono C0.size)
    have V1 := HV.out.stays C1
    have c00 : (x1.alloc (.cells #[] 59)).cell? ⟨w.heap.size, 0, none⟩ = some (.slice A n cp) := (R1.alloc (.cells #[] 59)).cell 0
    clear R0 K0 O0 C0 d1 HAT
    have HVE : Hid (Lies keptA (x1.setRow (w.heap.size + 2) #[Value.slice A n cp, .int .i64 s.last]) (.slice A n cp) s.l) := Lib.hid (HV.out.stays (below_setRow C1 (by omega) _))
    go_wp2_with (first
      | (refine at_slot 12 rfl ?_; refine load_row rfl 28 _ rfl w.heap.size rfl R1 Try.underlying28 rfl HSI.out ?_)
      | (refine wpList_store_row rfl 28 _ _ rfl (w.heap.size + 2) #[Value.slice A n cp, .int .i64 s.last] rfl rfl 28 _ O1 HSI.out rfl HS1.out ?_))
    exact bodyPost_ret (v := .tuple #[.agg #[Value.slice A n cp, .int .i64 s.last], .bool false]) (results_cell_two rfl _ _ (w.heap.size + 2) _ _ _ rfl _ rfl (O1.whole _) Try.underlying28 rfl HSI.out) rfl ⟨_, rfl, HVE.out, below_setRow C1 (by omega) _⟩
  | some i =>
    obtain ⟨k0, hk, hkey, _⟩ := Sh.place_some hpl
    have hil := (List.getElem?_eq_some_iff.1 hk).1
    rw [HNN.out] at hil
    have ko := HOK.out k0 (List.mem_of_getElem? hk)
    have hpi : Sh.placeI s c = (i : Int) := by unfold Sh.placeI; rw [hpl]
    rw [hpi] at HAT
    have HKI := Lib.hid hk
    have HKY := Lib.hid hkey
    have HKA := Lib.hid (keptA_sizes HOK.out)
    have HKO := Lib.hid (show ∀ x ∈ s.l, (keptA x).all (·.oneCell') = true from fun x _ => keptA_one x)
    have hi0 : ¬ ((i : Int) < 0) := by omega
    clear hpi hk hkey
    have hu : Sh.drop s c = (⟨s.l.take i ++ s.l.drop (i + 1), s.last⟩, true) := by unfold Sh.drop; rw [hpl]; dsimp only; rw [List.eraseIdx_eq_take_drop_succ]
    obtain ⟨m, hm⟩ : ∃ m, (s.l.take i).length + (s.l.drop (i + 1)).length = m := ⟨_, rfl⟩
    have hmn : m < n := by have := HNN.out; rw [List.length_take, List.length_drop] at hm; omega
    have HEND : Hid (∀ W u, W.ownsRow (w.heap.size + 3) 59 30 u m (flat keptA (s.l.take i) ++ flat keptA (s.l.drop (i + 1))) → Below w.heap.size w W → NewKept (Sh.drop s c).1 (.bool (Sh.drop s c).2) w (.returned (.tuple #[.agg #[u, .int .i64 s.last], .bool true])) W) := Lib.hid (fun W u hO hb => by
      rw [hu]
      refine ⟨u, rfl, lies_own (n := 30) (B := w.heap.size + 3) (t := 59) ?_, hb⟩
      dsimp only
      rw [flat_append, List.length_append, hm]
      exact hO)
    generalize NewKept (Sh.drop s c).1 (.bool (Sh.drop s c).2) w = post at *
    have HM := Lib.hid hm
    clear hu hpl HKI HKY hm
    go_enter Try.func22, Try.ntmps22
    go_wp2_with (first
      | (refine at_slot 7 rfl ?_; refine load_row rfl 28 _ rfl w.heap.size rfl R0 Try.underlying28 rfl HSI.out ?_)
      | (refine at_slot 8 rfl ?_; refine load_row rfl 34 _ rfl (w.heap.size + 1) rfl K0 Try.underlying34 rfl HC.out ?_))
    generalize (((w.alloc (.cells #[Value.slice A n cp, .int .i64 s.last] 28)).alloc (.cells (cookieA c) 34)).alloc (.cells #[.slice none 0 0, .int .i64 0] 28)) = x0 at *
    refine (HAT.out x0 (HV.out.stays C0)).mono ?_
    rintro e x1 ⟨rfl, d1⟩
    have R1 := R0.stays d1
    have K1 := K0.stays d1
    have O1 := O0.stays d1
    have C1 := C0.trans (d1.mono C0.size)
    have V1 := HV.out.stays C1
    have c00 : (x1.alloc (.cells #[] 59)).cell? ⟨w.heap.size, 0, none⟩ = some (.slice A n cp) := (R1.alloc (.cells #[] 59)).cell 0
    clear R0 K0 O0 C0 d1 HAT
    clear c00
    obtain ⟨g, off, rfl, hgx⟩ := V1.block.2.2 (by rw [HNN.out]; omega)
    have hwr : IntKind.i64.wrap ((i : Int) + 1) = (i : Int) + 1 := by rw [IntKind.wrap_i64]; omega
    have HTA := Lib.hid (show ∀ x ∈ s.l.take i, (keptA x).size = 30 from fun x hx => HKA.out x (List.mem_of_mem_take hx))
    have HTO := Lib.hid (show ∀ x ∈ s.l.take i, (keptA x).all (·.oneCell') = true from fun x hx => HKO.out x (List.mem_of_mem_take hx))
    have HDA := Lib.hid (show ∀ x ∈ s.l.drop (i + 1), (keptA x).size = 30 from fun x hx => HKA.out x (List.mem_of_mem_drop hx))
    have HDO := Lib.hid (show ∀ x ∈ s.l.drop (i + 1), (keptA x).all (·.oneCell') = true from fun x hx => HKO.out x (List.mem_of_mem_drop hx))
    have HLT := Lib.hid (show ∀ W : World, Below w.heap.size w W → Lies keptA W (.slice (some ⟨g, off, none⟩) i cp) (s.l.take i) from fun W hb => by
      have h := HV.out.stays hb
      rw [← HNN.out] at h
      exact h.take HKA.out (by rw [HNN.out]; omega))
    have HLD := Lib.hid (show ∀ W : World, Below w.heap.size w W → Lies keptA W (.slice (if cp = i + 1 then some ⟨g, off, none⟩ else some ⟨g, off + (i + 1) * 30, none⟩) (n - (i + 1)) (cp - (i + 1))) (s.l.drop (i + 1)) from fun W hb => by
      have h := HV.out.stays hb
      rw [← HNN.out] at h
      have h := lies_tail (k := i + 1) HKA.out h (by rw [HNN.out]; omega)
      rw [HNN.out] at h
      exact h)
    have HSH := Lib.hid (show ∀ W, (Instr.sliceAt 26 (.slice (some ⟨g, off, none⟩) n cp) none (some (.int .i64 (i : Int))) none).run Try.prog W = .ok (.slice (some ⟨g, off, none⟩) i cp) W from fun W => run_slice_head Try.underlying26 infoKeptR (by omega) W)
    have HST := Lib.hid (show ∀ W, (Instr.sliceAt 26 (.slice (some ⟨g, off, none⟩) n cp) (some (.int .i64 ((i : Int) + 1))) none none).run Try.prog W = .ok (.slice (if cp = i + 1 then some ⟨g, off, none⟩ else some ⟨g, off + (i + 1) * 30, none⟩) (n - (i + 1)) (cp - (i + 1))) W from fun W => by
      have h := run_slice_tail (P := Try.prog) (S := 26) (g := g) (off := off) (cap := cp) Try.underlying26 infoKeptR (show i + 1 ≤ n by omega) W
      have e : ((i + 1 : Nat) : Int) = (i : Int) + 1 := by omega
      rw [e] at h
      exact h)
    generalize (if cp = i + 1 then some (⟨g, off, none⟩ : Addr) else some ⟨g, off + (i + 1) * 30, none⟩) = TA at *
    have HTL := Lib.hid (show (s.l.take i).length ≤ 1000000 ∧ (s.l.drop (i + 1)).length ≤ 1000000 ∧ (s.l.take i).length + (s.l.drop (i + 1)).length = m by have h1 := HM.out; have h2 := hn; omega)
    go_wp2_with fail
    have O2 := O1.drew
    have C2 := C1.drew
    refine wp_region_held_drew (S := (fun W => Row W w.heap.size 28 #[Value.slice (some ⟨g, off, none⟩) n cp, .int .i64 s.last])) (by kernel_rfl) R1.drew (fun hS => ?_)
    generalize x1.drew = u0 at *
    have hu0 := O2.lt
    clear O1 C1 R1 V1 K1
    refine wpAnyH_take (i := 1) (v := ?_) rfl (by kernel_rfl) (by kernel_rfl) (by kernel_rfl) (fun _ _ _ h => h) (Or.inl ⟨by rfl, ?_⟩) (by assumption) ?_
    rotate_left
    · intro _ _; go_simp; with_reducible rfl
    simp only [Act.put, List.setIfInBounds_toArray, List.set_cons_zero, List.set_cons_succ, List.getElem_toArray, List.getElem_cons_zero, List.getElem_cons_succ]
    refine wpAnyH_take (i := 2) (v := .slice (some ⟨g, off, none⟩) n cp) rfl (by kernel_rfl) (by kernel_rfl) (by kernel_rfl) (fun _ _ _ h => h) (Or.inl ⟨by rfl, fun wq hC => by have hcell := (show wq.cell? ⟨w.heap.size, 0, none⟩ = some (.slice (some ⟨g, off, none⟩) n cp) by rw [hC.cell]; rfl); go_simp; try with_reducible rfl⟩) (by assumption) ?_
    simp only [Act.put, List.setIfInBounds_toArray, List.set_cons_zero, List.set_cons_succ, List.getElem_toArray, List.getElem_cons_zero, List.getElem_cons_succ]
    refine wpAnyH_take (i := 3) (v := ?_) rfl (by kernel_rfl) (by kernel_rfl) (by kernel_rfl) (fun _ _ _ h => h) (Or.inl ⟨by rfl, ?_⟩) (by assumption) ?_
    rotate_left
    · intro _ _; go_simp; with_reducible rfl
    simp only [Act.put, List.setIfInBounds_toArray, List.set_cons_zero, List.set_cons_succ, List.getElem_toArray, List.getElem_cons_zero, List.getElem_cons_succ]
    refine wpAnyH_take (i := 4) rfl (by kernel_rfl) (by kernel_rfl) (by kernel_rfl) (fun _ _ _ h => h) (yields_slice (by rfl) 26 (.tmp 15) none (some (.tmp 16)) rfl (.slice (some ⟨g, off, none⟩) n cp) rfl none (some (.int .i64 (i : Int))) rfl rfl _ HSH.out) (by assumption) ?_
    simp only [Act.put, List.setIfInBounds_toArray, List.set_cons_zero, List.set_cons_succ, List.getElem_toArray, List.getElem_cons_zero, List.getElem_cons_succ]
    refine wpAnyH_take (i := 6) (v := ?_) rfl (by kernel_rfl) (by kernel_rfl) (by kernel_rfl) (fun _ _ _ h => h) (Or.inl ⟨by rfl, ?_⟩) (by assumption) ?_
    rotate_left
    · intro _ _; go_simp; with_reducible rfl
    simp only [Act.put, List.setIfInBounds_toArray, List.set_cons_zero, List.set_cons_succ, List.getElem_toArray, List.getElem_cons_zero, List.getElem_cons_succ]
    refine wpAnyH_take (i := 7) (v := .slice (some ⟨g, off, none⟩) n cp) rfl (by kernel_rfl) (by kernel_rfl) (by kernel_rfl) (fun _ _ _ h => h) (Or.inl ⟨by rfl, fun wq hC => by have hcell := (show wq.cell? ⟨w.heap.size, 0, none⟩ = some (.slice (some ⟨g, off, none⟩) n cp) by rw [hC.cell]; rfl); go_simp; try with_reducible rfl⟩) (by assumption) ?_
    simp only [Act.put, List.setIfInBounds_toArray, List.set_cons_zero, List.set_cons_succ, List.getElem_toArray, List.getElem_cons_zero, List.getElem_cons_succ]
    refine wpAnyH_take (i := 8) (v := ?_) rfl (by kernel_rfl) (by kernel_rfl) (by kernel_rfl) (fun _ _ _ h => h) (Or.inl ⟨by rfl, ?_⟩) (by assumption) ?_
    rotate_left
    · intro _ _; go_simp; with_reducible rfl
    simp only [Act.put, List.setIfInBounds_toArray, List.set_cons_zero, List.set_cons_succ, List.getElem_toArray, List.getElem_cons_zero, List.getElem_cons_succ]
    refine wpAnyH_take (i := 9) (v := ?_) rfl (by kernel_rfl) (by kernel_rfl) (by kernel_rfl) (fun _ _ _ h => h) (Or.inl ⟨by rfl, ?_⟩) (by assumption) ?_
    rotate_left
    · intro _ _; go_simp; with_reducible rfl
    simp only [Act.put, List.setIfInBounds_toArray, List.set_cons_zero, List.set_cons_succ, List.getElem_toArray, List.getElem_cons_zero, List.getElem_cons_succ]
    refine wpAnyH_take (i := 10) rfl (by kernel_rfl) (by kernel_rfl) (by kernel_rfl) (fun _ _ _ h => h) (yields_slice (by rfl) 26 (.tmp 20) (some (.tmp 22)) none rfl (.slice (some ⟨g, off, none⟩) n cp) rfl (some (.int .i64 ((i : Int) + 1))) none rfl rfl _ HST.out) (by assumption) ?_
    simp only [Act.put, List.setIfInBounds_toArray, List.set_cons_zero, List.set_cons_succ, List.getElem_toArray, List.getElem_cons_zero, List.getElem_cons_succ]
    refine wpAnyH_take (i := 12) (v := ?_) rfl (by kernel_rfl) (by kernel_rfl) (by kernel_rfl) (fun _ _ _ h => h) (Or.inl ⟨by rfl, ?_⟩) (by assumption) ?_
    rotate_left
    · intro _ _; go_simp; with_reducible rfl
    simp only [Act.put, List.setIfInBounds_toArray, List.set_cons_zero, List.set_cons_succ, List.getElem_toArray, List.getElem_cons_zero, List.getElem_cons_succ]
    refine wpAnyH_take (i := 13) (v := .int .i64 s.last) rfl (by kernel_rfl) (by kernel_rfl) (by kernel_rfl) (fun _ _ _ h => h) (Or.inl ⟨by rfl, fun wq hC => by have hcell := (show wq.cell? ⟨w.heap.size, 1, none⟩ = some (.int .i64 s.last) by rw [hC.cell]; rfl); go_simp; try with_reducible rfl⟩) (by assumption) ?_
    simp only [Act.put, List.setIfInBounds_toArray, List.set_cons_zero, List.set_cons_succ, List.getElem_toArray, List.getElem_cons_zero, List.getElem_cons_succ]
    refine wpAnyH_ready (rs := [0]) (by kernel_rfl) (by simp) (AllReadyH.cons rfl (fun K hK => ?_) AllReadyH.nil)
    rw [if_pos (by rfl)]
    refine wp_build_none rfl Try.underlying26 infoKeptR ?_
    have S1 := hS.alloc (.cells #[] 59)
    refine hK.out _ _ S1 (fun _ => ?_)
    clear hK K
    have O3 := O2.alloc (.cells #[] 59)
    have C3 := C2.alloc C2.size (.cells #[] 59)
    have ho3 : (u0.alloc (.cells #[] 59)).ownsRow (w.heap.size + 3) 59 30 (.slice (some ⟨u0.heap.size, 0, none⟩) 0 0) 0 [] := own_mono (own_empty (by decide)) (by omega)
    generalize hu1 : u0.alloc (.cells #[] 59) = u1 at *
    have hs1 : u1.heap.size = u0.heap.size + 1 := by rw [← hu1]; simp
    generalize u0.heap.size = g0 at *
    simp only [Act.put, List.setIfInBounds_toArray, List.set_cons_zero, List.set_cons_succ, List.getElem_toArray, List.getElem_cons_zero]
    refine wpAnyH_ready (rs := [5]) (by kernel_rfl) (by simp) (AllReadyH.cons rfl (fun K hK => ?_) AllReadyH.nil)
    rw [if_pos (by rfl)]
    refine wp_append_lies (.tmp 13) (.tmp 17) rfl Try.underlying26 infoKeptZ (by kernel_rfl) (by decide) (by decide) rfl ho3 rfl HTA.out HTO.out (HLT.out _ C3) (by have := HTL.out; omega) (by omega) ?_
    intro v4 u2 ho4 hg4 _
    have hnb : ∀ b, (Value.slice (some ⟨g0, 0, none⟩) 0 0).ownBlock = some b → w.heap.size + 3 ≤ b := fun b e => (ho3.lt b e).1
    have S2 : Row u2 w.heap.size 28 #[Value.slice (some ⟨g, off, none⟩) n cp, .int .i64 s.last] := (hg4.block _ S1.lt (fun e => by have := hnb _ e.symm; omega)).trans S1
    have O4 : Row u2 (w.heap.size + 2) 28 #[.slice none 0 0, .int .i64 0] := (hg4.block _ O3.lt (fun e => by have := hnb _ e.symm; omega)).trans O3
    have C4 := C3.grown hg4 C3.size (fun b e => by have := hnb b e; omega)
    refine hK.out _ _ S2 (fun _ => ?_)
    clear hK K
    simp only [Act.put, List.setIfInBounds_toArray, List.set_cons_zero, List.set_cons_succ, List.getElem_toArray, List.getElem_cons_zero, List.getElem_cons_succ]
    refine wpAnyH_ready (rs := [11]) (by kernel_rfl) (by simp) (AllReadyH.cons rfl (fun K hK => ?_) AllReadyH.nil)
    rw [if_pos (by rfl)]
    have hs4 := C4.size
    have hl4 := O4.lt
    refine wp_append_lies (.tmp 18) (.tmp 23) rfl Try.underlying26 infoKeptZ (by kernel_rfl) (by decide) (by decide) rfl ho4 rfl HDA.out HDO.out (HLD.out _ C4) (by have := HTL.out; omega) (by omega) ?_
    intro v6 u3 ho5 hg5 _
    have hnb5 : ∀ b, v4.ownBlock = some b → w.heap.size + 3 ≤ b := fun b e => (ho4.lt b e).1
    have S3 : Row u3 w.heap.size 28 #[Value.slice (some ⟨g, off, none⟩) n cp, .int .i64 s.last] := (hg5.block _ S2.lt (fun e => by have := hnb5 _ e.symm; omega)).trans S2
    have O5 : Row u3 (w.heap.size + 2) 28 #[.slice none 0 0, .int .i64 0] := (hg5.block _ O4.lt (fun e => by have := hnb5 _ e.symm; omega)).trans O4
    have C5 := C4.grown hg5 C4.size (fun b e => by have := hnb5 b e; omega)
    have ho6 : u3.ownsRow (w.heap.size + 3) 59 30 v6 m (flat keptA (s.l.take i) ++ flat keptA (s.l.drop (i + 1))) := by
      have h := HTL.out.2.2
      have h2 := ho5
      rw [Nat.zero_add, h] at h2
      exact h2
    clear ho5 hg5 hg4 ho4 ho3
    obtain ⟨A6, c6, rfl⟩ : ∃ A c, v6 = .slice A m c := by
      rcases ho6.2 with ⟨rfl, h0⟩ | ⟨g, cap, cur, rfl, _⟩
      · exact ⟨none, 0, by rw [h0]⟩
      · exact ⟨_, _, rfl⟩
    refine hK.out _ _ S3 (fun _ => ?_)
    clear hK K
    simp only [Act.put, List.setIfInBounds_toArray, List.set_cons_zero, List.set_cons_succ, List.getElem_toArray, List.getElem_cons_zero, List.getElem_cons_succ]
    have HBD := Lib.hid (built_refShelf A6 m c6 s.last)
    refine wpAnyH_take (i := 14) rfl (by kernel_rfl) (by kernel_rfl) (by kernel_rfl) (fun _ _ _ h => h) (yields_built2 (by rfl) 28 0 1 (.tmp 24) (.tmp 26) rfl (.slice A6 m c6) (.int .i64 s.last) rfl rfl #[Value.slice A6 m c6, .int .i64 s.last] HBD.out) (by assumption) ?_
    simp only [Act.put, List.setIfInBounds_toArray, List.set_cons_zero, List.set_cons_succ, List.getElem_toArray, List.getElem_cons_zero, List.getElem_cons_succ]
    refine wpAnyH_ready (rs := [15]) (by kernel_rfl) (by simp) (AllReadyH.cons rfl (fun K hK => ?_) AllReadyH.nil)
    rw [if_pos (by rfl)]
    refine wp_store_row 28 _ _ rfl (w.heap.size + 2) #[Value.slice A6 m c6, .int .i64 s.last] rfl rfl 28 _ O5 zeroRefShelf rfl (by simp [Value.oneCell']) ?_
    have S4 : Row (u3.setRow (w.heap.size + 2) #[Value.slice A6 m c6, .int .i64 s.last]) w.heap.size 28 #[Value.slice (some ⟨g, off, none⟩) n cp, .int .i64 s.last] := S3.aside (by omega) _
    have O6 := O5.whole #[Value.slice A6 m c6, .int .i64 s.last]
    have C6 := below_setRow (g := w.heap.size + 2) C5 (by omega) #[Value.slice A6 m c6, .int .i64 s.last]
    have ho7 := ho6.kept (grownBy_rowS u3 (w.heap.size + 2) #[Value.slice A6 m c6, .int .i64 s.last]) (by
      cases hv : (Value.slice A6 m c6).ownBlock with
      | none => exact .inl rfl
      | some b => exact .inr (fun e => by have := (ho6.lt b hv).1; have := Option.some.inj e; omega))
    refine hK.out _ _ S4 (fun _ => ?_)
    clear hK K
    have HE := Lib.hid (HEND.out _ _ ho7 C6)
    refine wpAnyH_take (i := 16) (v := ?_) rfl (by kernel_rfl) (by kernel_rfl) (by kernel_rfl) (fun _ _ _ h => h) (Or.inl ⟨by rfl, ?_⟩) (by assumption) ?_
    rotate_left
    · intro _ _; go_simp; with_reducible rfl
    simp only [Act.put, List.setIfInBounds_toArray, List.set_cons_zero, List.set_cons_succ, List.getElem_toArray, List.getElem_cons_zero, List.getElem_cons_succ]
    refine wpAnyH_done (by kernel_rfl) ?_ _
    go_wp2_with fail
    exact bodyPost_ret (v := .tuple #[.agg #[Value.slice A6 m c6, .int .i64 s.last], .bool true]) (results_cell_two rfl _ _ (w.heap.size + 2) _ _ _ rfl _ rfl O6 Try.underlying28 rfl zeroRefShelf) rfl HE.out
end Go.Proofs.Ytnepgibjijdheaa
