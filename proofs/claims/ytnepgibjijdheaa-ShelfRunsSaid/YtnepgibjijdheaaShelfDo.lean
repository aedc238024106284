/- The walk of the law's 'do': something is done to a shelf and to the reference's list. -/
import Derived.Test.YtnepgibjijdheaaShelfBoth
import Derived.Test.YtnepgibjijdheaaBuildListG
import Derived.Test.YtnepgibjijdheaaShelfPut
import Derived.Test.YtnepgibjijdheaaShelfGet
import Derived.Test.YtnepgibjijdheaaShelfDrop
import Derived.Test.YtnepgibjijdheaaShelfUse
import Derived.Test.YtnepgibjijdheaaShelfExpire
import Derived.Test.YtnepgibjijdheaaRefShelfPut
import Derived.Test.YtnepgibjijdheaaRefShelfDrop
import Derived.Test.YtnepgibjijdheaaRefShelfUse
import Derived.Test.YtnepgibjijdheaaCells
namespace Go.Proofs.Ytnepgibjijdheaa
open Go.RowKit
set_option maxRecDepth 100000 in
set_option maxHeartbeats 16000000 in
theorem do_calls (x : Sh.Act) (hx : ActOk x) {sb mb : Nat} {s : Sh.Shelf} (w : World) (h : ShelfAt w sb mb s) (v : Value) (hv : Lies keptA w v s.l) (hlast : s.last < 1000000) :
    Calls Try.prog 9 #[.pointer (some ⟨sb, 0, none⟩), .agg #[v, .int .i64 s.last], .agg (actA x)] w (DoPost (Sh.done s x) sb mb w) := by
  have z1 := zeroCookie
  have hca := hx.cookie.host.addr
  have hsl := h.length
  have hl0 := h.well.last
  have HKA := Lib.hid (keptA_sizes h.okay)
  have HV := Lib.hid hv
  have HSK := Lib.hid (fun i => @seek_some s x.c i)
  have HSN := Lib.hid (@seek_none s x.c)
  have HOK := Lib.hid h.okay
  have HSI := Lib.hid (h.seek_addr x.c)
  have HG := Lib.hid (fun W (k : ShelfAt W sb mb s) => getShelf_calls x.c hx.cookie.place W k)
  have HAT := Lib.hid (fun W hW => refAt_calls s x.c hca v W h.okay hW hsl)
  have HRP := Lib.hid (fun W hW => refPut_calls s x.c hca ⟨x.site.toArray⟩ v W h.okay hW hsl hl0 (by omega))
  have HRD := Lib.hid (fun W hW => refDrop_calls s x.c hca v W h.okay hW hsl)
  have HRU := Lib.hid (fun W hW => refUse_calls s x.c hca x.n v W h.okay hW hsl)
  have HRE := Lib.hid (fun W hW => refExpire_calls s x.n v W h.okay hW hsl)
  obtain ⟨A, cp, rfl, hcp, _⟩ := hv
  have HP := Lib.hid (fun W (k : ShelfAt W sb mb s) => putShelf_calls x.c hx.cookie.place ⟨x.site.toArray⟩ hx.site W k hlast)
  have HD := Lib.hid (fun W (k : ShelfAt W sb mb s) => dropShelf_calls x.c hx.cookie.place W k)
  have HU := Lib.hid (fun W (k : ShelfAt W sb mb s) => useShelf_calls x.c hx.cookie.place x.n W k)
  have HE := Lib.hid (fun W (k : ShelfAt W sb mb s) => expireShelf_calls x.n W k)
  unfold NewKept at HRP HRD HRU HRE
  rw [show (⟨x.site.toArray⟩ : ByteArray).data.toList = x.site from rfl] at HRP HP
  obtain ⟨X, hX⟩ : ∃ X, cookieA ((Sh.seek s x.c).getD Sh.zeroK).c = X := ⟨_, rfl⟩
  rw [hX] at HG
  have NX := Lib.hid (show (Try.prog.info? 34).map (·.size) = some X.size by rw [← hX, cookieA_size _ HSI.out]; exact infoCookie)
  have ZX := Lib.hid (show (cookieA Ma.zeroC).size = X.size by rw [← hX, cookieA_size _ HSI.out]; rfl)
  have OX := Lib.hid (show X.all (·.oneCell') = true by rw [← hX]; exact cookieA_one _)
  have hXA : ∃ c : Ma.Cookie, X = cookieA c ∧ c.host.addr.length = 16 := ⟨_, hX.symm, HSI.out⟩
  have HNEQ : ∀ W, (binOp .neq 34 (.agg X) (.agg X)).run Try.prog W = .ok (.bool false) W := fun W => by
    obtain ⟨c, rfl, hc⟩ := hXA
    exact neq_cookie c hc W
  have HBZ := built_zeroCookie
  obtain ⟨n, hnn⟩ : ∃ n, s.l.length = n := ⟨_, rfl⟩
  have HNN := Lib.hid hnn
  rw [hnn] at hcp HV HAT HRP HRD HRU HRE hsl ⊢
  have hN : (w.alloc (.cells #[Value.slice A n cp, .int .i64 s.last] 28)).heap.size = w.heap.size + 1 := by simp
  have hN2 : ((w.alloc (.cells #[Value.slice A n cp, .int .i64 s.last] 28)).alloc (.cells (actA x) 36)).heap.size = w.heap.size + 2 := by simp
  have R0 := ((Row.new w 28 #[Value.slice A n cp, .int .i64 s.last]).alloc (.cells (actA x) 36)).alloc (.cells #[.slice none 0 0, .int .i64 0] 28)
  have T0 := (Row.new (w.alloc (.cells #[Value.slice A n cp, .int .i64 s.last] 28)) 36 (actA x)).alloc (.cells #[.slice none 0 0, .int .i64 0] 28)
  have O0 := Row.new ((w.alloc (.cells #[Value.slice A n cp, .int .i64 s.last] 28)).alloc (.cells (actA x) 36)) 28 #[.slice none 0 0, .int .i64 0]
  rw [hN] at T0
  rw [hN2] at O0
  have C0 := (((Below.refl w.heap.size w).alloc (Nat.le_refl _) (.cells #[Value.slice A n cp, .int .i64 s.last] 28)).alloc (by rw [hN]; omega) (.cells (actA x) 36)).alloc (by rw [hN2]; omega) (.cells #[.slice none 0 0, .int .i64 0] 28)
  have K0 := h.stays C0
  have sb1 := h.row.lt
  have mb1 := h.map.lt
  have HLE := Lib.hid (show 1 + 29 ≤ (actA x).size by rw [actA_size x hca]; decide)
  have HCK := Lib.hid (actA_cookie x hca)
  have hk0 : (actA x)[0]? = some (.int .i64 x.kind) := rfl
  have hk30 := actA_site x hca
  unfold strV at hk30
  have hk31 := actA_n x hca
  obtain ⟨CK, hCK⟩ : ∃ Y, cookieA x.c = Y := ⟨_, rfl⟩
  rw [hCK] at HCK HG HAT HRP HRD HRU HP HD HU
  have NCK := Lib.hid (show (Try.prog.info? 34).map (·.size) = some CK.size by rw [← hCK, cookieA_size _ hca]; exact infoCookie)
  have HCC : Hid (∀ j u, CK[j]? = some u → (actA x)[1 + j]? = some u) := Lib.hid (fun j u hu => by
    rw [← hCK] at hu
    unfold actA
    rw [Nat.add_comm, List.getElem?_toArray, List.getElem?_cons_succ, List.getElem?_append_left (by rw [Array.length_toList]; exact (Array.getElem?_eq_some_iff.1 hu).1), Array.getElem?_toList]
    exact hu)
  obtain ⟨q, hq⟩ : ∃ q, q = Sh.done s x := ⟨_, rfl⟩
  have HDN := Lib.hid hq
  rw [← hq]
  generalize (⟨x.site.toArray⟩ : ByteArray) = B at *
  clear hN hN2 hnn hca hx hq hCK hlast hl0 HSI
  go_enter Try.func9, Try.ntmps9
  go_wp2_with (refine at_slot 22 rfl ?_; generalize (((w.alloc (.cells #[Value.slice A n cp, .int .i64 s.last] 28)).alloc (.cells (actA x) 36)).alloc (.cells #[.slice none 0 0, .int .i64 0] 28)) = x0 at *; refine load_part rfl 34 _ rfl (w.heap.size + 1) 1 29 rfl T0 Try.underlying34 rfl infoCookie HLE.out CK HCK.out ?_)
  refine (HG.out _ K0).mono ?_
  rintro e x1 ⟨rfl, d1⟩
  have R1 := R0.stays d1
  have T1 := T0.stays d1
  have O1 := O0.stays d1
  have K1 := K0.stays d1
  have C1 := C0.trans (d1.mono C0.size)
  clear R0 T0 O0 K0 C0 d1 HG
  obtain ⟨Z2, G2, D2, L2⟩ := lay_row 34 (cookieA Ma.zeroC) X (Below.refl x1.heap.size x1) (Nat.le_refl _)
  have R2 := L2 _ _ _ R1
  have T2 := L2 _ _ _ T1
  have O2 := L2 _ _ _ O1
  have K2 := K1.stays D2
  have C2 := C1.trans (D2.mono C1.size)
  obtain ⟨x2, hW2⟩ : ∃ W, (x1.alloc (.cells (cookieA Ma.zeroC) 34)).setRow x1.heap.size X = W := ⟨_, rfl⟩
  rw [hW2] at G2 D2 R2 T2 O2 K2 C2
  have HW2 := Lib.hid hW2
  clear hW2 L2 D2 R1 T1 O1 K1
  go_wp2_with (first
    | (refine at_slot 26 rfl ?_; rw [HW2.out]; refine load_row rfl 28 _ rfl w.heap.size rfl R2 Try.underlying28 rfl zeroRefShelf ?_)
    | (refine at_slot 28 rfl ?_; refine load_part rfl 34 _ rfl (w.heap.size + 1) 1 29 rfl T2 Try.underlying34 rfl infoCookie HLE.out CK HCK.out ?_)
    | (refine at_store 34 (.tmp 8) (.tmp 24) rfl ?_; refine wpList_store_row rfl 34 _ _ rfl x1.heap.size X rfl rfl 34 _ Z2 NX.out ZX.out OX.out ?_))
  have g1w := C1.size
  clear Z2 HW2 C1
  generalize x1.heap.size = g8 at *
  refine (HAT.out x2 (HV.out.stays C2)).mono ?_
  rintro e x3 ⟨rfl, d3⟩
  have R3 := R2.stays d3
  have T3 := T2.stays d3
  have O3 := O2.stays d3
  have G3 := G2.stays d3
  have K3 := K2.stays d3
  have C3 := C2.trans (d3.mono C2.size)
  clear R2 T2 O2 G2 K2 C2 d3 HAT
  have AG := Lib.hid (fun W (hW : Below x3.heap.size x3 W) => G3.stays hW)
  have AR := Lib.hid (fun W (hW : Below x3.heap.size x3 W) => show W.cell? ⟨w.heap.size, 0, none⟩ = some (.slice A n cp) by rw [(R3.stays hW).cell]; rfl)
  cases hpl : Sh.place s x.c with
  | some i =>
    obtain ⟨k0, hk, hsk⟩ := HSK.out i hpl
    have hil := (List.getElem?_eq_some_iff.1 hk).1
    rw [HNN.out] at hil
    have hpi : Sh.placeI s x.c = (i : Int) := by unfold Sh.placeI; rw [hpl]
    obtain ⟨g, off, rfl, hgx⟩ := HV.out.block.2.2 (by rw [HNN.out]; omega)
    have HCE : Hid (∀ W, Below x3.heap.size x3 W → ∀ j u, X[j]? = some u → W.cell? ⟨g, off + i * 30 + j, none⟩ = some u) := Lib.hid (fun W hW j u hu => by
      have h1 := HV.out.stays (C3.trans (hW.mono C3.size))
      rw [← HNN.out] at h1
      have h2 := h1.one HKA.out hk
      refine h2 j u (keptA_cell ?_)
      rw [← hsk, hX]
      exact hu)
    rw [hpi]
    have hi0 : (0 : Int) ≤ (i : Int) := by omega
    have hi1 : ¬ ((i : Int) < 0) := by omega
    have hi2 : (i : Int) < (n : Int) := by omega
    clear hpi hsk hk
    go_wp2_with fail
    refine region_quiet (C := (fun W => Below x3.heap.size x3 W)) (by kernel_rfl) (by kernel_rfl) (Below.refl _ _).drew ?_
    refine q_yields (v := ?_) (Or.inl ⟨by rfl, ?_⟩) ?_
    rotate_left
    · intro _ _; go_simp; with_reducible rfl
    simp only [Act.put, List.setIfInBounds_toArray, List.set_cons_zero, List.set_cons_succ]
    refine q_yields (v := ?_) (Or.inl ⟨by rfl, ?_⟩) ?_
    rotate_left
    · intro _ _; go_simp; with_reducible rfl
    simp only [Act.put, List.setIfInBounds_toArray, List.set_cons_zero, List.set_cons_succ]
    refine q_yields (v := ?_) (Or.inl ⟨by rfl, ?_⟩) ?_
    rotate_left
    · intro _ _; go_simp; with_reducible rfl
    simp only [Act.put, List.setIfInBounds_toArray, List.set_cons_zero, List.set_cons_succ]
    refine q_yields (yields_row (by rfl) _ _ rfl _ rfl AG.out Try.underlying34 rfl NX.out) ?_
    simp only [Act.put, List.setIfInBounds_toArray, List.set_cons_zero, List.set_cons_succ]
    refine q_yields (v := ?_) (Or.inl ⟨by rfl, ?_⟩) ?_
    rotate_left
    · intro _ _; go_simp; with_reducible rfl
    simp only [Act.put, List.setIfInBounds_toArray, List.set_cons_zero, List.set_cons_succ]
    refine q_yields (v := .slice (some ⟨g, off, none⟩) n cp) (Or.inl ⟨by rfl, fun wq hC => by have hcell := AR.out wq hC; go_simp; try with_reducible rfl⟩) ?_
    simp only [Act.put, List.setIfInBounds_toArray, List.set_cons_zero, List.set_cons_succ]
    refine q_yields (v := ?_) (Or.inl ⟨by rfl, ?_⟩) ?_
    rotate_left
    · intro _ _; go_simp; with_reducible rfl
    simp only [Act.put, List.setIfInBounds_toArray, List.set_cons_zero, List.set_cons_succ]
    refine q_yields (v := ?_) (Or.inl ⟨by rfl, ?_⟩) ?_
    rotate_left
    · intro _ _; go_simp; with_reducible rfl
    simp only [Act.put, List.setIfInBounds_toArray, List.set_cons_zero, List.set_cons_succ]
    refine q_yields (v := ?_) (Or.inl ⟨by rfl, ?_⟩) ?_
    rotate_left
    · intro _ _; go_simp; with_reducible rfl
    simp only [Act.put, List.setIfInBounds_toArray, List.set_cons_zero, List.set_cons_succ]
    refine q_yields (yields_span (by rfl) 34 (.tmp 38) rfl g (off + i * 30) rfl X HCE.out Try.underlying34 rfl NX.out) ?_
    simp only [Act.put, List.setIfInBounds_toArray, List.set_cons_zero, List.set_cons_succ]
    refine q_yields (v := ?_) (Or.inl ⟨by rfl, ?_⟩) ?_
    rotate_left
    · intro _ _; go_simp; with_reducible rfl
    simp only [Act.put, List.setIfInBounds_toArray, List.set_cons_zero, List.set_cons_succ]
    refine q_yields (v := ?_) (Or.inl ⟨by rfl, ?_⟩) ?_
    rotate_left
    · intro _ _; go_simp; with_reducible rfl
    simp only [Act.put, List.setIfInBounds_toArray, List.set_cons_zero, List.set_cons_succ]
    refine q_yields (v := ?_) (Or.inl ⟨by rfl, ?_⟩) ?_
    rotate_left
    · intro _ _; go_simp; with_reducible rfl
    simp only [Act.put, List.setIfInBounds_toArray, List.set_cons_zero, List.set_cons_succ]
    refine q_yields (v := ?_) (Or.inl ⟨by rfl, ?_⟩) ?_
    rotate_left
    · intro _ _; go_simp; with_reducible rfl
    simp only [Act.put, List.setIfInBounds_toArray, List.set_cons_zero, List.set_cons_succ]
    refine q_yields (v := ?_) (Or.inl ⟨by rfl, ?_⟩) ?_
    rotate_left
    · intro _ _; go_simp; with_reducible rfl
    simp only [Act.put, List.setIfInBounds_toArray, List.set_cons_zero, List.set_cons_succ]
    refine q_yields (v := ?_) (Or.inl ⟨by rfl, ?_⟩) ?_
    rotate_left
    · intro _ _; go_simp; with_reducible rfl
    simp only [Act.put, List.setIfInBounds_toArray, List.set_cons_zero, List.set_cons_succ]
    refine q_yields (Or.inr ⟨by rfl, rfl⟩) ?_
    simp only [Act.put, List.setIfInBounds_toArray, List.set_cons_zero, List.set_cons_succ]
    refine q_yields (Or.inr ⟨by rfl, rfl⟩) ?_
    simp only [Act.put, List.setIfInBounds_toArray, List.set_cons_zero, List.set_cons_succ]
    refine q_yields (Or.inr ⟨by rfl, rfl⟩) ?_
    simp only [Act.put, List.setIfInBounds_toArray, List.set_cons_zero, List.set_cons_succ]
    refine q_yields (v := ?_) (Or.inl ⟨by rfl, ?_⟩) ?_
    rotate_left
    · intro _ _; go_simp; with_reducible rfl
    simp only [Act.put, List.setIfInBounds_toArray, List.set_cons_zero, List.set_cons_succ]
    refine q_yields (v := ?_) (Or.inl ⟨by rfl, ?_⟩) ?_
    rotate_left
    · intro _ _; go_simp; with_reducible rfl
    simp only [Act.put, List.setIfInBounds_toArray, List.set_cons_zero, List.set_cons_succ]
    refine wpQuiet_nil ?_
    intro x4 hC4
    clear HCE
    have R4 := R3.stays hC4
    have T4 := T3.stays hC4
    have O4 := O3.stays hC4
    have K4 := K3.stays hC4
    have C4 := C3.trans (hC4.mono C3.size)
    have q0 := (T4.cell 0).trans hk0
    have q30 := (T4.cell 30).trans hk30
    have q31 := (T4.cell 31).trans hk31
    clear R3 T3 O3 G3 K3 C3 hC4 AG AR
    by_cases hkind : x.kind = 0
    · have hdn : q = (Sh.put s x.c x.site).1 := by rw [HDN.out]; unfold Sh.done; rw [if_pos hkind]
      have HEND : Hid (∀ W u, ShelfAt W sb mb (Sh.put s x.c x.site).1 → Lies keptA W u (Sh.put s x.c x.site).1.l → Turn2 sb mb w W → DoPost q sb mb w (.returned (.tuple #[.agg #[u, .int .i64 (Sh.put s x.c x.site).1.last], .bool true])) W) := Lib.hid (fun W u k1 k2 k3 => by
        rw [hdn]
        exact ⟨u, rfl, k1, k2, k3⟩)
      generalize DoPost q sb mb w = post at *
      go_wp2_with (first
        | (refine at_slot 57 rfl ?_; refine load_row rfl 28 _ rfl w.heap.size rfl R4 Try.underlying28 rfl zeroRefShelf ?_)
        | (refine at_slot 59 rfl ?_; refine load_part rfl 34 _ rfl (w.heap.size + 1) 1 29 rfl T4 Try.underlying34 rfl infoCookie HLE.out CK HCK.out ?_))
      refine (HRP.out x4 (HV.out.stays C4)).mono ?_
      rintro e x5 ⟨v5, rfl, hL5, d5⟩
      have T5 := T4.stays d5
      have O5 := O4.stays d5
      have K5 := K4.stays d5
      have C5 := C4.trans (d5.mono C4.size)
      clear R4 T4 O4 K4 C4 d5 q0 q30 q31
      obtain ⟨s5, hs5⟩ : ∃ z, z = (Sh.put s x.c x.site).1 := ⟨_, rfl⟩
      have HOK5 : Hid (∀ W, ShelfAt W sb mb s5 → ∀ y ∈ s5.l, (keptA y).size = 30) := Lib.hid (fun W k => keptA_sizes k.okay)
      have HJ := Lib.hid (HP.out)
      rw [← hs5] at hL5 HEND HJ ⊢
      clear hs5
      generalize (Sh.put s x.c x.site).2 = bb at *
      have HL5 := Lib.hid hL5
      obtain ⟨A5, c5, rfl, _, _⟩ := hL5
      obtain ⟨n5, hn5⟩ : ∃ m, s5.l.length = m := ⟨_, rfl⟩
      rw [hn5] at HL5 ⊢
      obtain ⟨Z6, E6, D6, L6⟩ := lay_row 28 #[.slice none 0 0, .int .i64 0] #[.slice A5 n5 c5, .int .i64 s5.last] (Below.refl x5.heap.size x5) (Nat.le_refl _)
      have T6 := L6 _ _ _ T5
      have O6 := L6 _ _ _ O5
      have K6 := K5.stays D6
      have C6 := C5.trans (D6.mono C5.size)
      have HL6 := Lib.hid (HL5.out.stays D6)
      have g5w := C5.size
      have l5 := O5.lt
      obtain ⟨x6, hW6⟩ : ∃ W, (x5.alloc (.cells #[.slice none 0 0, .int .i64 0] 28)).setRow x5.heap.size #[.slice A5 n5 c5, .int .i64 s5.last] = W := ⟨_, rfl⟩
      rw [hW6] at E6 D6 T6 O6 K6 C6 HL6
      have HW6 := Lib.hid hW6
      clear hW6 L6 D6 T5 O5 K5 C5 HL5
      go_wp2_with (first
        | (refine at_store 28 (.tmp 11) (.tmp 63) rfl ?_; refine wpList_store_row rfl 28 _ _ rfl x5.heap.size #[.slice A5 n5 c5, .int .i64 s5.last] rfl rfl 28 _ Z6 zeroRefShelf rfl (by simp [Value.oneCell']) ?_))
      rw [HW6.out]
      clear Z6 HW6
      generalize x5.heap.size = g6 at *
      have H6 := Turn2.of (sb := sb) (mb := mb) C6.drew (Nat.le_refl _)
      have K7 := K6.stays (Below.refl x6.heap.size x6).drew
      have O7 := O6.drew
      have HL7 := Lib.hid (HL6.out.stays (Below.refl x6.heap.size x6).drew)
      refine wp_region_held_drew (S := (fun W => Row W (w.heap.size + 1) 36 (actA x) ∧ Row W g6 28 #[Value.slice A5 n5 c5, .int .i64 s5.last])) (by kernel_rfl) ⟨T6.drew, E6.drew⟩ (fun hS => ?_)
      generalize x6.drew = u0 at *
      clear K6 O6 C6 HL6 E6 T6
      refine wpAnyH_take (i := 0) rfl (by kernel_rfl) (by kernel_rfl) (by kernel_rfl) (fun _ _ _ h => h) (yields_row (by rfl) _ _ rfl _ rfl (fun W hW => hW.2) Try.underlying28 rfl zeroRefShelf) (by assumption) ?_
      simp only [Act.put, List.setIfInBounds_toArray, List.set_cons_zero, List.set_cons_succ, List.getElem_toArray, List.getElem_cons_zero]
      refine wpAnyH_take (i := 1) (v := ?_) rfl (by kernel_rfl) (by kernel_rfl) (by kernel_rfl) (fun _ _ _ h => h) (Or.inl ⟨by rfl, ?_⟩) (by assumption) ?_
      rotate_left
      · intro _ _; go_simp; with_reducible rfl
      simp only [Act.put, List.setIfInBounds_toArray, List.set_cons_zero, List.set_cons_succ, List.getElem_toArray, List.getElem_cons_zero, List.getElem_cons_succ]
      refine wpAnyH_take (i := 2) (v := ?_) rfl (by kernel_rfl) (by kernel_rfl) (by kernel_rfl) (fun _ _ _ h => h) (Or.inl ⟨by rfl, ?_⟩) (by assumption) ?_
      rotate_left
      · intro _ _; go_simp; with_reducible rfl
      simp only [Act.put, List.setIfInBounds_toArray, List.set_cons_zero, List.set_cons_succ, List.getElem_toArray, List.getElem_cons_zero, List.getElem_cons_succ]
      refine wpAnyH_take (i := 3) rfl (by kernel_rfl) (by kernel_rfl) (by kernel_rfl) (fun _ _ _ h => h) (yields_part (by rfl) 34 (.tmp 67) rfl (w.heap.size + 1) 1 29 rfl (fun W hW => hW.1) Try.underlying34 rfl infoCookie HLE.out CK HCK.out) (by assumption) ?_
      simp only [Act.put, List.setIfInBounds_toArray, List.set_cons_zero, List.set_cons_succ, List.getElem_toArray, List.getElem_cons_zero, List.getElem_cons_succ]
      refine wpAnyH_take (i := 4) (v := ?_) rfl (by kernel_rfl) (by kernel_rfl) (by kernel_rfl) (fun _ _ _ h => h) (Or.inl ⟨by rfl, ?_⟩) (by assumption) ?_
      rotate_left
      · intro _ _; go_simp; with_reducible rfl
      simp only [Act.put, List.setIfInBounds_toArray, List.set_cons_zero, List.set_cons_succ, List.getElem_toArray, List.getElem_cons_zero, List.getElem_cons_succ]
      refine wpAnyH_take (i := 5) (v := .string B) rfl (by kernel_rfl) (by kernel_rfl) (by kernel_rfl) (fun _ _ _ h => h) (Or.inl ⟨by rfl, fun wq hC => by have hcell := (show wq.cell? ⟨w.heap.size + 1, 30, none⟩ = some (.string B) by rw [hC.1.cell]; exact hk30); go_simp; try with_reducible rfl⟩) (by assumption) ?_
      simp only [Act.put, List.setIfInBounds_toArray, List.set_cons_zero, List.set_cons_succ, List.getElem_toArray, List.getElem_cons_zero, List.getElem_cons_succ]
      refine wpAnyH_take (i := 7) (v := ?_) rfl (by kernel_rfl) (by kernel_rfl) (by kernel_rfl) (fun _ _ _ h => h) (Or.inl ⟨by rfl, ?_⟩) (by assumption) ?_
      rotate_left
      · intro _ _; go_simp; with_reducible rfl
      simp only [Act.put, List.setIfInBounds_toArray, List.set_cons_zero, List.set_cons_succ, List.getElem_toArray, List.getElem_cons_zero, List.getElem_cons_succ]
      refine wpAnyH_ready (rs := [6]) (by kernel_rfl) (by simp) (AllReadyH.cons rfl (fun K hK => ?_) AllReadyH.nil)
      rw [if_pos (by rfl)]
      go_simp
      refine (HJ.out u0 K7).mono ?_
      rintro e x8 ⟨rfl, K8, t8⟩
      have S8 : Row x8 (w.heap.size + 1) 36 (actA x) ∧ Row x8 g6 28 #[Value.slice A5 n5 c5, .int .i64 s5.last] := ⟨t8.rows hS.1 (by omega) (by omega), t8.rows hS.2 (by omega) (by omega)⟩
      have O8 := t8.rows O7 (by omega) (by omega)
      have H8 := H6.trans t8
      have HL8 := Lib.hid (Lies.turned (HOK5.out _ K8) (by decide) (show Lies keptA u0 (.slice A5 n5 c5) s5.l from HL7.out) K7 t8)
      clear K7 O7 H6 HL7 t8 hS
      go_wp2_with fail
      refine hK.out _ _ S8 (fun _ => ?_)
      clear hK K
      refine wpAnyH_take (i := 8) (v := ?_) rfl (by kernel_rfl) (by kernel_rfl) (by kernel_rfl) (fun _ _ _ h => h) (Or.inl ⟨by rfl, ?_⟩) (by assumption) ?_
      rotate_left
      · intro _ _; go_simp; with_reducible rfl
      simp only [Act.put, List.setIfInBounds_toArray, List.set_cons_zero, List.set_cons_succ, List.getElem_toArray, List.getElem_cons_zero, List.getElem_cons_succ]
      refine wpAnyH_ready (rs := [9]) (by kernel_rfl) (by simp) (AllReadyH.cons rfl (fun K hK => ?_) AllReadyH.nil)
      rw [if_pos (by rfl)]
      refine wp_store_row 28 _ _ rfl (w.heap.size + 2) #[.slice A5 n5 c5, .int .i64 s5.last] rfl rfl 28 _ O8 zeroRefShelf rfl (by simp [Value.oneCell']) ?_
      have S9 : Row (x8.setRow (w.heap.size + 2) #[.slice A5 n5 c5, .int .i64 s5.last]) (w.heap.size + 1) 36 (actA x) ∧ Row (x8.setRow (w.heap.size + 2) #[.slice A5 n5 c5, .int .i64 s5.last]) g6 28 #[Value.slice A5 n5 c5, .int .i64 s5.last] := ⟨S8.1.aside (by omega) _, S8.2.aside (by omega) _⟩
      have O9 := O8.whole #[.slice A5 n5 c5, .int .i64 s5.last]
      have K9 := K8.rowed (g := w.heap.size + 2) (by omega) (by omega) #[.slice A5 n5 c5, .int .i64 s5.last]
      have L9 := HL8.out.rowed (HOK5.out _ K8) (by decide) O8 rfl #[.slice A5 n5 c5, .int .i64 s5.last]
      have H9 := H8.rowed (g := w.heap.size + 2) (by omega) #[.slice A5 n5 c5, .int .i64 s5.last]
      refine hK.out _ _ S9 (fun _ => ?_)
      clear hK K
      have HF := Lib.hid (HEND.out _ _ K9 L9 H9)
      refine wpAnyH_take (i := 10) (v := ?_) rfl (by kernel_rfl) (by kernel_rfl) (by kernel_rfl) (fun _ _ _ h => h) (Or.inl ⟨by rfl, ?_⟩) (by assumption) ?_
      rotate_left
      · intro _ _; go_simp; with_reducible rfl
      simp only [Act.put, List.setIfInBounds_toArray, List.set_cons_zero, List.set_cons_succ, List.getElem_toArray, List.getElem_cons_zero, List.getElem_cons_succ]
      refine wpAnyH_done (by kernel_rfl) ?_ _
      go_wp2_with fail
      exact bodyPost_ret (v := .tuple #[.agg #[.slice A5 n5 c5, .int .i64 s5.last], .bool true]) (results_cell_two rfl _ _ (w.heap.size + 2) _ _ _ rfl _ rfl O9 Try.underlying28 rfl zeroRefShelf) rfl HF.out
    · have hn0 : ¬ (x.kind = 0) := hkind
      clear hkind
      by_cases hkind : x.kind = 1
      · have hdn : q = (Sh.drop s x.c).1 := by rw [HDN.out]; unfold Sh.done; rw [if_neg hn0, if_pos hkind]
        have HEND : Hid (∀ W u, ShelfAt W sb mb (Sh.drop s x.c).1 → Lies keptA W u (Sh.drop s x.c).1.l → Turn2 sb mb w W → DoPost q sb mb w (.returned (.tuple #[.agg #[u, .int .i64 (Sh.drop s x.c).1.last], .bool true])) W) := Lib.hid (fun W u k1 k2 k3 => by
          rw [hdn]
          exact ⟨u, rfl, k1, k2, k3⟩)
        generalize DoPost q sb mb w = post at *
        go_wp2_with (first
          | (refine at_slot 77 rfl ?_; refine load_row rfl 28 _ rfl w.heap.size rfl R4 Try.underlying28 rfl zeroRefShelf ?_)
          | (refine at_slot 79 rfl ?_; refine load_part rfl 34 _ rfl (w.heap.size + 1) 1 29 rfl T4 Try.underlying34 rfl infoCookie HLE.out CK HCK.out ?_))
        refine (HRD.out x4 (HV.out.stays C4)).mono ?_
        rintro e x5 ⟨v5, rfl, hL5, d5⟩
        have T5 := T4.stays d5
        have O5 := O4.stays d5
        have K5 := K4.stays d5
        have C5 := C4.trans (d5.mono C4.size)
        clear R4 T4 O4 K4 C4 d5 q0 q30 q31
        obtain ⟨s5, hs5⟩ : ∃ z, z = (Sh.drop s x.c).1 := ⟨_, rfl⟩
        have HOK5 : Hid (∀ W, ShelfAt W sb mb s5 → ∀ y ∈ s5.l, (keptA y).size = 30) := Lib.hid (fun W k => keptA_sizes k.okay)
        have HJ := Lib.hid (HD.out)
        rw [← hs5] at hL5 HEND HJ ⊢
        clear hs5
        generalize (Sh.drop s x.c).2 = bb at *
        have HL5 := Lib.hid hL5
        obtain ⟨A5, c5, rfl, _, _⟩ := hL5
        obtain ⟨n5, hn5⟩ : ∃ m, s5.l.length = m := ⟨_, rfl⟩
        rw [hn5] at HL5 ⊢
        obtain ⟨Z6, E6, D6, L6⟩ := lay_row 28 #[.slice none 0 0, .int .i64 0] #[.slice A5 n5 c5, .int .i64 s5.last] (Below.refl x5.heap.size x5) (Nat.le_refl _)
        have T6 := L6 _ _ _ T5
        have O6 := L6 _ _ _ O5
        have K6 := K5.stays D6
        have C6 := C5.trans (D6.mono C5.size)
        have HL6 := Lib.hid (HL5.out.stays D6)
        have g5w := C5.size
        have l5 := O5.lt
        obtain ⟨x6, hW6⟩ : ∃ W, (x5.alloc (.cells #[.slice none 0 0, .int .i64 0] 28)).setRow x5.heap.size #[.slice A5 n5 c5, .int .i64 s5.last] = W := ⟨_, rfl⟩
        rw [hW6] at E6 D6 T6 O6 K6 C6 HL6
        have HW6 := Lib.hid hW6
        clear hW6 L6 D6 T5 O5 K5 C5 HL5
        go_wp2_with (first
          | (refine at_store 28 (.tmp 13) (.tmp 81) rfl ?_; refine wpList_store_row rfl 28 _ _ rfl x5.heap.size #[.slice A5 n5 c5, .int .i64 s5.last] rfl rfl 28 _ Z6 zeroRefShelf rfl (by simp [Value.oneCell']) ?_))
        rw [HW6.out]
        clear Z6 HW6
        generalize x5.heap.size = g6 at *
        have H6 := Turn2.of (sb := sb) (mb := mb) C6.drew (Nat.le_refl _)
        have K7 := K6.stays (Below.refl x6.heap.size x6).drew
        have O7 := O6.drew
        have HL7 := Lib.hid (HL6.out.stays (Below.refl x6.heap.size x6).drew)
        refine wp_region_held_drew (S := (fun W => Row W (w.heap.size + 1) 36 (actA x) ∧ Row W g6 28 #[Value.slice A5 n5 c5, .int .i64 s5.last])) (by kernel_rfl) ⟨T6.drew, E6.drew⟩ (fun hS => ?_)
        generalize x6.drew = u0 at *
        clear K6 O6 C6 HL6 E6 T6
        refine wpAnyH_take (i := 0) rfl (by kernel_rfl) (by kernel_rfl) (by kernel_rfl) (fun _ _ _ h => h) (yields_row (by rfl) _ _ rfl _ rfl (fun W hW => hW.2) Try.underlying28 rfl zeroRefShelf) (by assumption) ?_
        simp only [Act.put, List.setIfInBounds_toArray, List.set_cons_zero, List.set_cons_succ, List.getElem_toArray, List.getElem_cons_zero]
        refine wpAnyH_take (i := 1) (v := ?_) rfl (by kernel_rfl) (by kernel_rfl) (by kernel_rfl) (fun _ _ _ h => h) (Or.inl ⟨by rfl, ?_⟩) (by assumption) ?_
        rotate_left
        · intro _ _; go_simp; with_reducible rfl
        simp only [Act.put, List.setIfInBounds_toArray, List.set_cons_zero, List.set_cons_succ, List.getElem_toArray, List.getElem_cons_zero, List.getElem_cons_succ]
        refine wpAnyH_take (i := 2) (v := ?_) rfl (by kernel_rfl) (by kernel_rfl) (by kernel_rfl) (fun _ _ _ h => h) (Or.inl ⟨by rfl, ?_⟩) (by assumption) ?_
        rotate_left
        · intro _ _; go_simp; with_reducible rfl
        simp only [Act.put, List.setIfInBounds_toArray, List.set_cons_zero, List.set_cons_succ, List.getElem_toArray, List.getElem_cons_zero, List.getElem_cons_succ]
        refine wpAnyH_take (i := 3) rfl (by kernel_rfl) (by kernel_rfl) (by kernel_rfl) (fun _ _ _ h => h) (yields_part (by rfl) 34 (.tmp 85) rfl (w.heap.size + 1) 1 29 rfl (fun W hW => hW.1) Try.underlying34 rfl infoCookie HLE.out CK HCK.out) (by assumption) ?_
        simp only [Act.put, List.setIfInBounds_toArray, List.set_cons_zero, List.set_cons_succ, List.getElem_toArray, List.getElem_cons_zero, List.getElem_cons_succ]
        refine wpAnyH_take (i := 5) (v := ?_) rfl (by kernel_rfl) (by kernel_rfl) (by kernel_rfl) (fun _ _ _ h => h) (Or.inl ⟨by rfl, ?_⟩) (by assumption) ?_
        rotate_left
        · intro _ _; go_simp; with_reducible rfl
        simp only [Act.put, List.setIfInBounds_toArray, List.set_cons_zero, List.set_cons_succ, List.getElem_toArray, List.getElem_cons_zero, List.getElem_cons_succ]
        refine wpAnyH_ready (rs := [4]) (by kernel_rfl) (by simp) (AllReadyH.cons rfl (fun K hK => ?_) AllReadyH.nil)
        rw [if_pos (by rfl)]
        go_simp
        refine (HJ.out u0 K7).mono ?_
        rintro e x8 ⟨rfl, K8, t8⟩
        have S8 : Row x8 (w.heap.size + 1) 36 (actA x) ∧ Row x8 g6 28 #[Value.slice A5 n5 c5, .int .i64 s5.last] := ⟨t8.rows hS.1 (by omega) (by omega), t8.rows hS.2 (by omega) (by omega)⟩
        have O8 := t8.rows O7 (by omega) (by omega)
        have H8 := H6.trans t8
        have HL8 := Lib.hid (Lies.turned (HOK5.out _ K8) (by decide) (show Lies keptA u0 (.slice A5 n5 c5) s5.l from HL7.out) K7 t8)
        clear K7 O7 H6 HL7 t8 hS
        go_wp2_with fail
        refine hK.out _ _ S8 (fun _ => ?_)
        clear hK K
        refine wpAnyH_take (i := 6) (v := ?_) rfl (by kernel_rfl) (by kernel_rfl) (by kernel_rfl) (fun _ _ _ h => h) (Or.inl ⟨by rfl, ?_⟩) (by assumption) ?_
        rotate_left
        · intro _ _; go_simp; with_reducible rfl
        simp only [Act.put, List.setIfInBounds_toArray, List.set_cons_zero, List.set_cons_succ, List.getElem_toArray, List.getElem_cons_zero, List.getElem_cons_succ]
        refine wpAnyH_ready (rs := [7]) (by kernel_rfl) (by simp) (AllReadyH.cons rfl (fun K hK => ?_) AllReadyH.nil)
        rw [if_pos (by rfl)]
        refine wp_store_row 28 _ _ rfl (w.heap.size + 2) #[.slice A5 n5 c5, .int .i64 s5.last] rfl rfl 28 _ O8 zeroRefShelf rfl (by simp [Value.oneCell']) ?_
        have S9 : Row (x8.setRow (w.heap.size + 2) #[.slice A5 n5 c5, .int .i64 s5.last]) (w.heap.size + 1) 36 (actA x) ∧ Row (x8.setRow (w.heap.size + 2) #[.slice A5 n5 c5, .int .i64 s5.last]) g6 28 #[Value.slice A5 n5 c5, .int .i64 s5.last] := ⟨S8.1.aside (by omega) _, S8.2.aside (by omega) _⟩
        have O9 := O8.whole #[.slice A5 n5 c5, .int .i64 s5.last]
        have K9 := K8.rowed (g := w.heap.size + 2) (by omega) (by omega) #[.slice A5 n5 c5, .int .i64 s5.last]
        have L9 := HL8.out.rowed (HOK5.out _ K8) (by decide) O8 rfl #[.slice A5 n5 c5, .int .i64 s5.last]
        have H9 := H8.rowed (g := w.heap.size + 2) (by omega) #[.slice A5 n5 c5, .int .i64 s5.last]
        refine hK.out _ _ S9 (fun _ => ?_)
        clear hK K
        have HF := Lib.hid (HEND.out _ _ K9 L9 H9)
        refine wpAnyH_take (i := 8) (v := ?_) rfl (by kernel_rfl) (by kernel_rfl) (by kernel_rfl) (fun _ _ _ h => h) (Or.inl ⟨by rfl, ?_⟩) (by assumption) ?_
        rotate_left
        · intro _ _; go_simp; with_reducible rfl
        simp only [Act.put, List.setIfInBounds_toArray, List.set_cons_zero, List.set_cons_succ, List.getElem_toArray, List.getElem_cons_zero, List.getElem_cons_succ]
        refine wpAnyH_done (by kernel_rfl) ?_ _
        go_wp2_with fail
        exact bodyPost_ret (v := .tuple #[.agg #[.slice A5 n5 c5, .int .i64 s5.last], .bool true]) (results_cell_two rfl _ _ (w.heap.size + 2) _ _ _ rfl _ rfl O9 Try.underlying28 rfl zeroRefShelf) rfl HF.out
      · have hn1 : ¬ (x.kind = 1) := hkind
        clear hkind
        by_cases hkind : x.kind = 2
        · have hdn : q = (Sh.use s x.c x.n).1 := by rw [HDN.out]; unfold Sh.done; rw [if_neg hn0, if_neg hn1, if_pos hkind]
          have HEND : Hid (∀ W u, ShelfAt W sb mb (Sh.use s x.c x.n).1 → Lies keptA W u (Sh.use s x.c x.n).1.l → Turn2 sb mb w W → DoPost q sb mb w (.returned (.tuple #[.agg #[u, .int .i64 (Sh.use s x.c x.n).1.last], .bool true])) W) := Lib.hid (fun W u k1 k2 k3 => by
            rw [hdn]
            exact ⟨u, rfl, k1, k2, k3⟩)
          generalize DoPost q sb mb w = post at *
          go_wp2_with (first
            | (refine at_slot 93 rfl ?_; refine load_row rfl 28 _ rfl w.heap.size rfl R4 Try.underlying28 rfl zeroRefShelf ?_)
            | (refine at_slot 95 rfl ?_; refine load_part rfl 34 _ rfl (w.heap.size + 1) 1 29 rfl T4 Try.underlying34 rfl infoCookie HLE.out CK HCK.out ?_))
          refine (HRU.out x4 (HV.out.stays C4)).mono ?_
          rintro e x5 ⟨v5, rfl, hL5, d5⟩
          have T5 := T4.stays d5
          have O5 := O4.stays d5
          have K5 := K4.stays d5
          have C5 := C4.trans (d5.mono C4.size)
          clear R4 T4 O4 K4 C4 d5 q0 q30 q31
          obtain ⟨s5, hs5⟩ : ∃ z, z = (Sh.use s x.c x.n).1 := ⟨_, rfl⟩
          have HOK5 : Hid (∀ W, ShelfAt W sb mb s5 → ∀ y ∈ s5.l, (keptA y).size = 30) := Lib.hid (fun W k => keptA_sizes k.okay)
          have HJ := Lib.hid (HU.out)
          rw [← hs5] at hL5 HEND HJ ⊢
          clear hs5
          generalize (Sh.use s x.c x.n).2 = bb at *
          have HL5 := Lib.hid hL5
          obtain ⟨A5, c5, rfl, _, _⟩ := hL5
          obtain ⟨n5, hn5⟩ : ∃ m, s5.l.length = m := ⟨_, rfl⟩
          rw [hn5] at HL5 ⊢
          obtain ⟨Z6, E6, D6, L6⟩ := lay_row 28 #[.slice none 0 0, .int .i64 0] #[.slice A5 n5 c5, .int .i64 s5.last] (Below.refl x5.heap.size x5) (Nat.le_refl _)
          have T6 := L6 _ _ _ T5
          have O6 := L6 _ _ _ O5
          have K6 := K5.stays D6
          have C6 := C5.trans (D6.mono C5.size)
          have HL6 := Lib.hid (HL5.out.stays D6)
          have g5w := C5.size
          have l5 := O5.lt
          obtain ⟨x6, hW6⟩ : ∃ W, (x5.alloc (.cells #[.slice none 0 0, .int .i64 0] 28)).setRow x5.heap.size #[.slice A5 n5 c5, .int .i64 s5.last] = W := ⟨_, rfl⟩
          rw [hW6] at E6 D6 T6 O6 K6 C6 HL6
          have HW6 := Lib.hid hW6
          clear hW6 L6 D6 T5 O5 K5 C5 HL5
          go_wp2_with (first
            | (refine at_store 28 (.tmp 15) (.tmp 99) rfl ?_; refine wpList_store_row rfl 28 _ _ rfl x5.heap.size #[.slice A5 n5 c5, .int .i64 s5.last] rfl rfl 28 _ Z6 zeroRefShelf rfl (by simp [Value.oneCell']) ?_))
          rw [HW6.out]
          clear Z6 HW6
          generalize x5.heap.size = g6 at *
          have H6 := Turn2.of (sb := sb) (mb := mb) C6.drew (Nat.le_refl _)
          have K7 := K6.stays (Below.refl x6.heap.size x6).drew
          have O7 := O6.drew
          have HL7 := Lib.hid (HL6.out.stays (Below.refl x6.heap.size x6).drew)
          refine wp_region_held_drew (S := (fun W => Row W (w.heap.size + 1) 36 (actA x) ∧ Row W g6 28 #[Value.slice A5 n5 c5, .int .i64 s5.last])) (by kernel_rfl) ⟨T6.drew, E6.drew⟩ (fun hS => ?_)
          generalize x6.drew = u0 at *
          clear K6 O6 C6 HL6 E6 T6
          refine wpAnyH_take (i := 0) rfl (by kernel_rfl) (by kernel_rfl) (by kernel_rfl) (fun _ _ _ h => h) (yields_row (by rfl) _ _ rfl _ rfl (fun W hW => hW.2) Try.underlying28 rfl zeroRefShelf) (by assumption) ?_
          simp only [Act.put, List.setIfInBounds_toArray, List.set_cons_zero, List.set_cons_succ, List.getElem_toArray, List.getElem_cons_zero]
          refine wpAnyH_take (i := 1) (v := ?_) rfl (by kernel_rfl) (by kernel_rfl) (by kernel_rfl) (fun _ _ _ h => h) (Or.inl ⟨by rfl, ?_⟩) (by assumption) ?_
          rotate_left
          · intro _ _; go_simp; with_reducible rfl
          simp only [Act.put, List.setIfInBounds_toArray, List.set_cons_zero, List.set_cons_succ, List.getElem_toArray, List.getElem_cons_zero, List.getElem_cons_succ]
          refine wpAnyH_take (i := 2) (v := ?_) rfl (by kernel_rfl) (by kernel_rfl) (by kernel_rfl) (fun _ _ _ h => h) (Or.inl ⟨by rfl, ?_⟩) (by assumption) ?_
          rotate_left
          · intro _ _; go_simp; with_reducible rfl
          simp only [Act.put, List.setIfInBounds_toArray, List.set_cons_zero, List.set_cons_succ, List.getElem_toArray, List.getElem_cons_zero, List.getElem_cons_succ]
          refine wpAnyH_take (i := 3) rfl (by kernel_rfl) (by kernel_rfl) (by kernel_rfl) (fun _ _ _ h => h) (yields_part (by rfl) 34 (.tmp 103) rfl (w.heap.size + 1) 1 29 rfl (fun W hW => hW.1) Try.underlying34 rfl infoCookie HLE.out CK HCK.out) (by assumption) ?_
          simp only [Act.put, List.setIfInBounds_toArray, List.set_cons_zero, List.set_cons_succ, List.getElem_toArray, List.getElem_cons_zero, List.getElem_cons_succ]
          refine wpAnyH_take (i := 4) (v := ?_) rfl (by kernel_rfl) (by kernel_rfl) (by kernel_rfl) (fun _ _ _ h => h) (Or.inl ⟨by rfl, ?_⟩) (by assumption) ?_
          rotate_left
          · intro _ _; go_simp; with_reducible rfl
          simp only [Act.put, List.setIfInBounds_toArray, List.set_cons_zero, List.set_cons_succ, List.getElem_toArray, List.getElem_cons_zero, List.getElem_cons_succ]
          refine wpAnyH_take (i := 5) (v := .int .i64 x.n) rfl (by kernel_rfl) (by kernel_rfl) (by kernel_rfl) (fun _ _ _ h => h) (Or.inl ⟨by rfl, fun wq hC => by have hcell := (show wq.cell? ⟨w.heap.size + 1, 31, none⟩ = some (.int .i64 x.n) by rw [hC.1.cell]; exact hk31); go_simp; try with_reducible rfl⟩) (by assumption) ?_
          simp only [Act.put, List.setIfInBounds_toArray, List.set_cons_zero, List.set_cons_succ, List.getElem_toArray, List.getElem_cons_zero, List.getElem_cons_succ]
          refine wpAnyH_take (i := 7) (v := ?_) rfl (by kernel_rfl) (by kernel_rfl) (by kernel_rfl) (fun _ _ _ h => h) (Or.inl ⟨by rfl, ?_⟩) (by assumption) ?_
          rotate_left
          · intro _ _; go_simp; with_reducible rfl
          simp only [Act.put, List.setIfInBounds_toArray, List.set_cons_zero, List.set_cons_succ, List.getElem_toArray, List.getElem_cons_zero, List.getElem_cons_succ]
          refine wpAnyH_ready (rs := [6]) (by kernel_rfl) (by simp) (AllReadyH.cons rfl (fun K hK => ?_) AllReadyH.nil)
          rw [if_pos (by rfl)]
          go_simp
          refine (HJ.out u0 K7).mono ?_
          rintro e x8 ⟨rfl, K8, t8⟩
          have S8 : Row x8 (w.heap.size + 1) 36 (actA x) ∧ Row x8 g6 28 #[Value.slice A5 n5 c5, .int .i64 s5.last] := ⟨t8.rows hS.1 (by omega) (by omega), t8.rows hS.2 (by omega) (by omega)⟩
          have O8 := t8.rows O7 (by omega) (by omega)
          have H8 := H6.trans t8
          have HL8 := Lib.hid (Lies.turned (HOK5.out _ K8) (by decide) (show Lies keptA u0 (.slice A5 n5 c5) s5.l from HL7.out) K7 t8)
          clear K7 O7 H6 HL7 t8 hS
          go_wp2_with fail
          refine hK.out _ _ S8 (fun _ => ?_)
          clear hK K
          refine wpAnyH_take (i := 8) (v := ?_) rfl (by kernel_rfl) (by kernel_rfl) (by kernel_rfl) (fun _ _ _ h => h) (Or.inl ⟨by rfl, ?_⟩) (by assumption) ?_
          rotate_left
          · intro _ _; go_simp; with_reducible rfl
          simp only [Act.put, List.setIfInBounds_toArray, List.set_cons_zero, List.set_cons_succ, List.getElem_toArray, List.getElem_cons_zero, List.getElem_cons_succ]
          refine wpAnyH_ready (rs := [9]) (by kernel_rfl) (by simp) (AllReadyH.cons rfl (fun K hK => ?_) AllReadyH.nil)
          rw [if_pos (by rfl)]
          refine wp_store_row 28 _ _ rfl (w.heap.size + 2) #[.slice A5 n5 c5, .int .i64 s5.last] rfl rfl 28 _ O8 zeroRefShelf rfl (by simp [Value.oneCell']) ?_
          have S9 : Row (x8.setRow (w.heap.size + 2) #[.slice A5 n5 c5, .int .i64 s5.last]) (w.heap.size + 1) 36 (actA x) ∧ Row (x8.setRow (w.heap.size + 2) #[.slice A5 n5 c5, .int .i64 s5.last]) g6 28 #[Value.slice A5 n5 c5, .int .i64 s5.last] := ⟨S8.1.aside (by omega) _, S8.2.aside (by omega) _⟩
          have O9 := O8.whole #[.slice A5 n5 c5, .int .i64 s5.last]
          have K9 := K8.rowed (g := w.heap.size + 2) (by omega) (by omega) #[.slice A5 n5 c5, .int .i64 s5.last]
          have L9 := HL8.out.rowed (HOK5.out _ K8) (by decide) O8 rfl #[.slice A5 n5 c5, .int .i64 s5.last]
          have H9 := H8.rowed (g := w.heap.size + 2) (by omega) #[.slice A5 n5 c5, .int .i64 s5.last]
          refine hK.out _ _ S9 (fun _ => ?_)
          clear hK K
          have HF := Lib.hid (HEND.out _ _ K9 L9 H9)
          refine wpAnyH_take (i := 10) (v := ?_) rfl (by kernel_rfl) (by kernel_rfl) (by kernel_rfl) (fun _ _ _ h => h) (Or.inl ⟨by rfl, ?_⟩) (by assumption) ?_
          rotate_left
          · intro _ _; go_simp; with_reducible rfl
          simp only [Act.put, List.setIfInBounds_toArray, List.set_cons_zero, List.set_cons_succ, List.getElem_toArray, List.getElem_cons_zero, List.getElem_cons_succ]
          refine wpAnyH_done (by kernel_rfl) ?_ _
          go_wp2_with fail
          exact bodyPost_ret (v := .tuple #[.agg #[.slice A5 n5 c5, .int .i64 s5.last], .bool true]) (results_cell_two rfl _ _ (w.heap.size + 2) _ _ _ rfl _ rfl O9 Try.underlying28 rfl zeroRefShelf) rfl HF.out
        · have hn2 : ¬ (x.kind = 2) := hkind
          clear hkind
          by_cases hkind : x.kind = 3
          · have hdn : q = (Sh.expire s x.n).1 := by rw [HDN.out]; unfold Sh.done; rw [if_neg hn0, if_neg hn1, if_neg hn2, if_pos hkind]
            have HEND : Hid (∀ W u, ShelfAt W sb mb (Sh.expire s x.n).1 → Lies keptA W u (Sh.expire s x.n).1.l → Turn2 sb mb w W → DoPost q sb mb w (.returned (.tuple #[.agg #[u, .int .i64 (Sh.expire s x.n).1.last], .bool true])) W) := Lib.hid (fun W u k1 k2 k3 => by
              rw [hdn]
              exact ⟨u, rfl, k1, k2, k3⟩)
            generalize DoPost q sb mb w = post at *
            go_wp2_with (first
              | (refine at_slot 113 rfl ?_; refine load_row rfl 28 _ rfl w.heap.size rfl R4 Try.underlying28 rfl zeroRefShelf ?_))
            refine (HRE.out x4 (HV.out.stays C4)).mono ?_
            rintro e x5 ⟨v5, rfl, hL5, d5⟩
            have T5 := T4.stays d5
            have O5 := O4.stays d5
            have K5 := K4.stays d5
            have C5 := C4.trans (d5.mono C4.size)
            clear R4 T4 O4 K4 C4 d5 q0 q30 q31
            obtain ⟨s5, hs5⟩ : ∃ z, z = (Sh.expire s x.n).1 := ⟨_, rfl⟩
            have HOK5 : Hid (∀ W, ShelfAt W sb mb s5 → ∀ y ∈ s5.l, (keptA y).size = 30) := Lib.hid (fun W k => keptA_sizes k.okay)
            have HJ := Lib.hid (HE.out)
            rw [← hs5] at hL5 HEND HJ ⊢
            clear hs5
            generalize (Sh.expire s x.n).2 = bb at *
            have HL5 := Lib.hid hL5
            obtain ⟨A5, c5, rfl, _, _⟩ := hL5
            obtain ⟨n5, hn5⟩ : ∃ m, s5.l.length = m := ⟨_, rfl⟩
            rw [hn5] at HL5 ⊢
            obtain ⟨Z6, E6, D6, L6⟩ := lay_row 28 #[.slice none 0 0, .int .i64 0] #[.slice A5 n5 c5, .int .i64 s5.last] (Below.refl x5.heap.size x5) (Nat.le_refl _)
            have T6 := L6 _ _ _ T5
            have O6 := L6 _ _ _ O5
            have K6 := K5.stays D6
            have C6 := C5.trans (D6.mono C5.size)
            have HL6 := Lib.hid (HL5.out.stays D6)
            have g5w := C5.size
            have l5 := O5.lt
            obtain ⟨x6, hW6⟩ : ∃ W, (x5.alloc (.cells #[.slice none 0 0, .int .i64 0] 28)).setRow x5.heap.size #[.slice A5 n5 c5, .int .i64 s5.last] = W := ⟨_, rfl⟩
            rw [hW6] at E6 D6 T6 O6 K6 C6 HL6
            have HW6 := Lib.hid hW6
            clear hW6 L6 D6 T5 O5 K5 C5 HL5
            go_wp2_with (first
              | (refine at_store 28 (.tmp 17) (.tmp 117) rfl ?_; refine wpList_store_row rfl 28 _ _ rfl x5.heap.size #[.slice A5 n5 c5, .int .i64 s5.last] rfl rfl 28 _ Z6 zeroRefShelf rfl (by simp [Value.oneCell']) ?_))
            rw [HW6.out]
            clear Z6 HW6
            generalize x5.heap.size = g6 at *
            have H6 := Turn2.of (sb := sb) (mb := mb) C6.drew (Nat.le_refl _)
            have K7 := K6.stays (Below.refl x6.heap.size x6).drew
            have O7 := O6.drew
            have HL7 := Lib.hid (HL6.out.stays (Below.refl x6.heap.size x6).drew)
            refine wp_region_held_drew (S := (fun W => Row W (w.heap.size + 1) 36 (actA x) ∧ Row W g6 28 #[Value.slice A5 n5 c5, .int .i64 s5.last])) (by kernel_rfl) ⟨T6.drew, E6.drew⟩ (fun hS => ?_)
            generalize x6.drew = u0 at *
            clear K6 O6 C6 HL6 E6 T6
            refine wpAnyH_take (i := 0) rfl (by kernel_rfl) (by kernel_rfl) (by kernel_rfl) (fun _ _ _ h => h) (yields_row (by rfl) _ _ rfl _ rfl (fun W hW => hW.2) Try.underlying28 rfl zeroRefShelf) (by assumption) ?_
            simp only [Act.put, List.setIfInBounds_toArray, List.set_cons_zero, List.set_cons_succ, List.getElem_toArray, List.getElem_cons_zero]
            refine wpAnyH_take (i := 1) (v := ?_) rfl (by kernel_rfl) (by kernel_rfl) (by kernel_rfl) (fun _ _ _ h => h) (Or.inl ⟨by rfl, ?_⟩) (by assumption) ?_
            rotate_left
            · intro _ _; go_simp; with_reducible rfl
            simp only [Act.put, List.setIfInBounds_toArray, List.set_cons_zero, List.set_cons_succ, List.getElem_toArray, List.getElem_cons_zero, List.getElem_cons_succ]
            refine wpAnyH_take (i := 2) (v := ?_) rfl (by kernel_rfl) (by kernel_rfl) (by kernel_rfl) (fun _ _ _ h => h) (Or.inl ⟨by rfl, ?_⟩) (by assumption) ?_
            rotate_left
            · intro _ _; go_simp; with_reducible rfl
            simp only [Act.put, List.setIfInBounds_toArray, List.set_cons_zero, List.set_cons_succ, List.getElem_toArray, List.getElem_cons_zero, List.getElem_cons_succ]
            refine wpAnyH_take (i := 3) (v := .int .i64 x.n) rfl (by kernel_rfl) (by kernel_rfl) (by kernel_rfl) (fun _ _ _ h => h) (Or.inl ⟨by rfl, fun wq hC => by have hcell := (show wq.cell? ⟨w.heap.size + 1, 31, none⟩ = some (.int .i64 x.n) by rw [hC.1.cell]; exact hk31); go_simp; try with_reducible rfl⟩) (by assumption) ?_
            simp only [Act.put, List.setIfInBounds_toArray, List.set_cons_zero, List.set_cons_succ, List.getElem_toArray, List.getElem_cons_zero, List.getElem_cons_succ]
            refine wpAnyH_take (i := 5) (v := ?_) rfl (by kernel_rfl) (by kernel_rfl) (by kernel_rfl) (fun _ _ _ h => h) (Or.inl ⟨by rfl, ?_⟩) (by assumption) ?_
            rotate_left
            · intro _ _; go_simp; with_reducible rfl
            simp only [Act.put, List.setIfInBounds_toArray, List.set_cons_zero, List.set_cons_succ, List.getElem_toArray, List.getElem_cons_zero, List.getElem_cons_succ]
            refine wpAnyH_ready (rs := [4]) (by kernel_rfl) (by simp) (AllReadyH.cons rfl (fun K hK => ?_) AllReadyH.nil)
            rw [if_pos (by rfl)]
            go_simp
            refine (HJ.out u0 K7).mono ?_
            rintro e x8 ⟨rfl, K8, t8⟩
            have S8 : Row x8 (w.heap.size + 1) 36 (actA x) ∧ Row x8 g6 28 #[Value.slice A5 n5 c5, .int .i64 s5.last] := ⟨t8.rows hS.1 (by omega) (by omega), t8.rows hS.2 (by omega) (by omega)⟩
            have O8 := t8.rows O7 (by omega) (by omega)
            have H8 := H6.trans t8
            have HL8 := Lib.hid (Lies.turned (HOK5.out _ K8) (by decide) (show Lies keptA u0 (.slice A5 n5 c5) s5.l from HL7.out) K7 t8)
            clear K7 O7 H6 HL7 t8 hS
            go_wp2_with fail
            refine hK.out _ _ S8 (fun _ => ?_)
            clear hK K
            refine wpAnyH_take (i := 6) (v := ?_) rfl (by kernel_rfl) (by kernel_rfl) (by kernel_rfl) (fun _ _ _ h => h) (Or.inl ⟨by rfl, ?_⟩) (by assumption) ?_
            rotate_left
            · intro _ _; go_simp; with_reducible rfl
            simp only [Act.put, List.setIfInBounds_toArray, List.set_cons_zero, List.set_cons_succ, List.getElem_toArray, List.getElem_cons_zero, List.getElem_cons_succ]
            refine wpAnyH_ready (rs := [7]) (by kernel_rfl) (by simp) (AllReadyH.cons rfl (fun K hK => ?_) AllReadyH.nil)
            rw [if_pos (by rfl)]
            refine wp_store_row 28 _ _ rfl (w.heap.size + 2) #[.slice A5 n5 c5, .int .i64 s5.last] rfl rfl 28 _ O8 zeroRefShelf rfl (by simp [Value.oneCell']) ?_
            have S9 : Row (x8.setRow (w.heap.size + 2) #[.slice A5 n5 c5, .int .i64 s5.last]) (w.heap.size + 1) 36 (actA x) ∧ Row (x8.setRow (w.heap.size + 2) #[.slice A5 n5 c5, .int .i64 s5.last]) g6 28 #[Value.slice A5 n5 c5, .int .i64 s5.last] := ⟨S8.1.aside (by omega) _, S8.2.aside (by omega) _⟩
            have O9 := O8.whole #[.slice A5 n5 c5, .int .i64 s5.last]
            have K9 := K8.rowed (g := w.heap.size + 2) (by omega) (by omega) #[.slice A5 n5 c5, .int .i64 s5.last]
            have L9 := HL8.out.rowed (HOK5.out _ K8) (by decide) O8 rfl #[.slice A5 n5 c5, .int .i64 s5.last]
            have H9 := H8.rowed (g := w.heap.size + 2) (by omega) #[.slice A5 n5 c5, .int .i64 s5.last]
            refine hK.out _ _ S9 (fun _ => ?_)
            clear hK K
            have HF := Lib.hid (HEND.out _ _ K9 L9 H9)
            refine wpAnyH_take (i := 8) (v := ?_) rfl (by kernel_rfl) (by kernel_rfl) (by kernel_rfl) (fun _ _ _ h => h) (Or.inl ⟨by rfl, ?_⟩) (by assumption) ?_
            rotate_left
            · intro _ _; go_simp; with_reducible rfl
            simp only [Act.put, List.setIfInBounds_toArray, List.set_cons_zero, List.set_cons_succ, List.getElem_toArray, List.getElem_cons_zero, List.getElem_cons_succ]
            refine wpAnyH_done (by kernel_rfl) ?_ _
            go_wp2_with fail
            exact bodyPost_ret (v := .tuple #[.agg #[.slice A5 n5 c5, .int .i64 s5.last], .bool true]) (results_cell_two rfl _ _ (w.heap.size + 2) _ _ _ rfl _ rfl O9 Try.underlying28 rfl zeroRefShelf) rfl HF.out
          · have hn3 : ¬ (x.kind = 3) := hkind
            clear hkind
            have hdn : q = s := by rw [HDN.out]; unfold Sh.done; rw [if_neg hn0, if_neg hn1, if_neg hn2, if_neg hn3]
            have HEND : Hid (∀ W u, ShelfAt W sb mb s → Lies keptA W u s.l → Turn2 sb mb w W → DoPost q sb mb w (.returned (.tuple #[.agg #[u, .int .i64 s.last], .bool true])) W) := Lib.hid (fun W u k1 k2 k3 => by
              rw [hdn]
              exact ⟨u, rfl, k1, k2, k3⟩)
            generalize DoPost q sb mb w = post at *
            have O5 := O4.whole #[Value.slice (some ⟨g, off, none⟩) n cp, .int .i64 s.last]
            have K5 := K4.rowed (g := w.heap.size + 2) (by omega) (by omega) #[Value.slice (some ⟨g, off, none⟩) n cp, .int .i64 s.last]
            have L5 := HV.out.stays (below_setRow (g := w.heap.size + 2) C4 (by omega) #[Value.slice (some ⟨g, off, none⟩) n cp, .int .i64 s.last])
            have H5 := (Turn2.of (sb := sb) (mb := mb) C4 (Nat.le_refl _)).rowed (g := w.heap.size + 2) (by omega) #[Value.slice (some ⟨g, off, none⟩) n cp, .int .i64 s.last]
            have HF := Lib.hid (HEND.out _ _ K5 L5 H5)
            clear K5 L5 H5
            go_wp2_with (first
              | (refine at_slot 126 rfl ?_; refine load_row rfl 28 _ rfl w.heap.size rfl R4 Try.underlying28 rfl zeroRefShelf ?_)
              | (refine wpList_store_row rfl 28 _ _ rfl (w.heap.size + 2) #[Value.slice (some ⟨g, off, none⟩) n cp, .int .i64 s.last] rfl rfl 28 _ O4 zeroRefShelf rfl (by simp [Value.oneCell']) ?_))
            exact bodyPost_ret (v := .tuple #[.agg #[Value.slice (some ⟨g, off, none⟩) n cp, .int .i64 s.last], .bool true]) (results_cell_two rfl _ _ (w.heap.size + 2) _ _ _ rfl _ rfl O5 Try.underlying28 rfl zeroRefShelf) rfl HF.out
  | none =>
    have hsk := HSN.out hpl
    have hpi : Sh.placeI s x.c = -1 := by unfold Sh.placeI; rw [hpl]
    rw [hsk] at hX
    rw [hpi]
    subst hX
    clear hpi hsk
    go_wp2_with fail
    refine region_quiet (C := (fun W => Below x3.heap.size x3 W)) (by kernel_rfl) (by kernel_rfl) (Below.refl _ _).drew ?_
    refine q_yields (v := ?_) (Or.inl ⟨by rfl, ?_⟩) ?_
    rotate_left
    · intro _ _; go_simp; with_reducible rfl
    simp only [Act.put, List.setIfInBounds_toArray, List.set_cons_zero, List.set_cons_succ]
    refine q_yields (v := ?_) (Or.inl ⟨by rfl, ?_⟩) ?_
    rotate_left
    · intro _ _; go_simp; with_reducible rfl
    simp only [Act.put, List.setIfInBounds_toArray, List.set_cons_zero, List.set_cons_succ]
    refine q_yields (v := ?_) (Or.inl ⟨by rfl, ?_⟩) ?_
    rotate_left
    · intro _ _; go_simp; with_reducible rfl
    simp only [Act.put, List.setIfInBounds_toArray, List.set_cons_zero, List.set_cons_succ]
    refine q_yields (Or.inr ⟨by rfl, rfl⟩) ?_
    simp only [Act.put, List.setIfInBounds_toArray, List.set_cons_zero, List.set_cons_succ]
    refine q_yields (Or.inr ⟨by rfl, rfl⟩) ?_
    simp only [Act.put, List.setIfInBounds_toArray, List.set_cons_zero, List.set_cons_succ]
    refine q_yields (Or.inr ⟨by rfl, rfl⟩) ?_
    simp only [Act.put, List.setIfInBounds_toArray, List.set_cons_zero, List.set_cons_succ]
    refine q_yields (Or.inr ⟨by rfl, rfl⟩) ?_
    simp only [Act.put, List.setIfInBounds_toArray, List.set_cons_zero, List.set_cons_succ]
    refine q_yields (Or.inr ⟨by rfl, rfl⟩) ?_
    simp only [Act.put, List.setIfInBounds_toArray, List.set_cons_zero, List.set_cons_succ]
    refine q_yields (Or.inr ⟨by rfl, rfl⟩) ?_
    simp only [Act.put, List.setIfInBounds_toArray, List.set_cons_zero, List.set_cons_succ]
    refine q_yields (Or.inr ⟨by rfl, rfl⟩) ?_
    simp only [Act.put, List.setIfInBounds_toArray, List.set_cons_zero, List.set_cons_succ]
    refine q_yields (Or.inr ⟨by rfl, rfl⟩) ?_
    simp only [Act.put, List.setIfInBounds_toArray, List.set_cons_zero, List.set_cons_succ]
    refine q_yields (v := ?_) (Or.inl ⟨by rfl, ?_⟩) ?_
    rotate_left
    · intro _ _; go_simp; with_reducible rfl
    simp only [Act.put, List.setIfInBounds_toArray, List.set_cons_zero, List.set_cons_succ]
    refine q_yields (v := ?_) (Or.inl ⟨by rfl, ?_⟩) ?_
    rotate_left
    · intro _ _; go_simp; with_reducible rfl
    simp only [Act.put, List.setIfInBounds_toArray, List.set_cons_zero, List.set_cons_succ]
    refine q_yields (v := ?_) (Or.inl ⟨by rfl, ?_⟩) ?_
    rotate_left
    · intro _ _; go_simp; with_reducible rfl
    simp only [Act.put, List.setIfInBounds_toArray, List.set_cons_zero, List.set_cons_succ]
    refine q_yields (v := ?_) (Or.inl ⟨by rfl, ?_⟩) ?_
    rotate_left
    · intro _ _; go_simp; with_reducible rfl
    simp only [Act.put, List.setIfInBounds_toArray, List.set_cons_zero, List.set_cons_succ]
    refine q_yields (v := ?_) (Or.inl ⟨by rfl, ?_⟩) ?_
    rotate_left
    · intro _ _; go_simp; with_reducible rfl
    simp only [Act.put, List.setIfInBounds_toArray, List.set_cons_zero, List.set_cons_succ]
    refine q_yields (yields_row (by rfl) _ _ rfl _ rfl AG.out Try.underlying34 rfl NX.out) ?_
    simp only [Act.put, List.setIfInBounds_toArray, List.set_cons_zero, List.set_cons_succ]
    refine q_yields (yields_zero (by rfl) 34 rfl (cookieA Ma.zeroC) HBZ) ?_
    simp only [Act.put, List.setIfInBounds_toArray, List.set_cons_zero, List.set_cons_succ]
    refine q_yields (v := ?_) (Or.inl ⟨by rfl, ?_⟩) ?_
    rotate_left
    · intro _ _; go_simp; with_reducible rfl
    simp only [Act.put, List.setIfInBounds_toArray, List.set_cons_zero, List.set_cons_succ]
    refine q_yields (v := ?_) (Or.inl ⟨by rfl, ?_⟩) ?_
    rotate_left
    · intro _ _; go_simp; with_reducible rfl
    simp only [Act.put, List.setIfInBounds_toArray, List.set_cons_zero, List.set_cons_succ]
    refine q_yields (v := ?_) (Or.inl ⟨by rfl, ?_⟩) ?_
    rotate_left
    · intro _ _; go_simp; with_reducible rfl
    simp only [Act.put, List.setIfInBounds_toArray, List.set_cons_zero, List.set_cons_succ]
    refine wpQuiet_nil ?_
    intro x4 hC4
    have R4 := R3.stays hC4
    have T4 := T3.stays hC4
    have O4 := O3.stays hC4
    have K4 := K3.stays hC4
    have C4 := C3.trans (hC4.mono C3.size)
    have q0 := (T4.cell 0).trans hk0
    have q30 := (T4.cell 30).trans hk30
    have q31 := (T4.cell 31).trans hk31
    clear R3 T3 O3 G3 K3 C3 hC4 AG AR
    by_cases hkind : x.kind = 0
    · have hdn : q = (Sh.put s x.c x.site).1 := by rw [HDN.out]; unfold Sh.done; rw [if_pos hkind]
      have HEND : Hid (∀ W u, ShelfAt W sb mb (Sh.put s x.c x.site).1 → Lies keptA W u (Sh.put s x.c x.site).1.l → Turn2 sb mb w W → DoPost q sb mb w (.returned (.tuple #[.agg #[u, .int .i64 (Sh.put s x.c x.site).1.last], .bool true])) W) := Lib.hid (fun W u k1 k2 k3 => by
        rw [hdn]
        exact ⟨u, rfl, k1, k2, k3⟩)
      generalize DoPost q sb mb w = post at *
      go_wp2_with (first
        | (refine at_slot 57 rfl ?_; refine load_row rfl 28 _ rfl w.heap.size rfl R4 Try.underlying28 rfl zeroRefShelf ?_)
        | (refine at_slot 59 rfl ?_; refine load_part rfl 34 _ rfl (w.heap.size + 1) 1 29 rfl T4 Try.underlying34 rfl infoCookie HLE.out CK HCK.out ?_))
      refine (HRP.out x4 (HV.out.stays C4)).mono ?_
      rintro e x5 ⟨v5, rfl, hL5, d5⟩
      have T5 := T4.stays d5
      have O5 := O4.stays d5
      have K5 := K4.stays d5
      have C5 := C4.trans (d5.mono C4.size)
      clear R4 T4 O4 K4 C4 d5 q0 q30 q31
      obtain ⟨s5, hs5⟩ : ∃ z, z = (Sh.put s x.c x.site).1 := ⟨_, rfl⟩
      have HOK5 : Hid (∀ W, ShelfAt W sb mb s5 → ∀ y ∈ s5.l, (keptA y).size = 30) := Lib.hid (fun W k => keptA_sizes k.okay)
      have HJ := Lib.hid (HP.out)
      rw [← hs5] at hL5 HEND HJ ⊢
      clear hs5
      generalize (Sh.put s x.c x.site).2 = bb at *
      have HL5 := Lib.hid hL5
      obtain ⟨A5, c5, rfl, _, _⟩ := hL5
      obtain ⟨n5, hn5⟩ : ∃ m, s5.l.length = m := ⟨_, rfl⟩
      rw [hn5] at HL5 ⊢
      obtain ⟨Z6, E6, D6, L6⟩ := lay_row 28 #[.slice none 0 0, .int .i64 0] #[.slice A5 n5 c5, .int .i64 s5.last] (Below.refl x5.heap.size x5) (Nat.le_refl _)
      have T6 := L6 _ _ _ T5
      have O6 := L6 _ _ _ O5
      have K6 := K5.stays D6
      have C6 := C5.trans (D6.mono C5.size)
      have HL6 := Lib.hid (HL5.out.stays D6)
      have g5w := C5.size
      have l5 := O5.lt
      obtain ⟨x6, hW6⟩ : ∃ W, (x5.alloc (.cells #[.slice none 0 0, .int .i64 0] 28)).setRow x5.heap.size #[.slice A5 n5 c5, .int .i64 s5.last] = W := ⟨_, rfl⟩
      rw [hW6] at E6 D6 T6 O6 K6 C6 HL6
      have HW6 := Lib.hid hW6
      clear hW6 L6 D6 T5 O5 K5 C5 HL5
      go_wp2_with (first
        | (refine at_store 28 (.tmp 11) (.tmp 63) rfl ?_; refine wpList_store_row rfl 28 _ _ rfl x5.heap.size #[.slice A5 n5 c5, .int .i64 s5.last] rfl rfl 28 _ Z6 zeroRefShelf rfl (by simp [Value.oneCell']) ?_))
      rw [HW6.out]
      clear Z6 HW6
      generalize x5.heap.size = g6 at *
      have H6 := Turn2.of (sb := sb) (mb := mb) C6.drew (Nat.le_refl _)
      have K7 := K6.stays (Below.refl x6.heap.size x6).drew
      have O7 := O6.drew
      have HL7 := Lib.hid (HL6.out.stays (Below.refl x6.heap.size x6).drew)
      refine wp_region_held_drew (S := (fun W => Row W (w.heap.size + 1) 36 (actA x) ∧ Row W g6 28 #[Value.slice A5 n5 c5, .int .i64 s5.last])) (by kernel_rfl) ⟨T6.drew, E6.drew⟩ (fun hS => ?_)
      generalize x6.drew = u0 at *
      clear K6 O6 C6 HL6 E6 T6
      refine wpAnyH_take (i := 0) rfl (by kernel_rfl) (by kernel_rfl) (by kernel_rfl) (fun _ _ _ h => h) (yields_row (by rfl) _ _ rfl _ rfl (fun W hW => hW.2) Try.underlying28 rfl zeroRefShelf) (by assumption) ?_
      simp only [Act.put, List.setIfInBounds_toArray, List.set_cons_zero, List.set_cons_succ, List.getElem_toArray, List.getElem_cons_zero]
      refine wpAnyH_take (i := 1) (v := ?_) rfl (by kernel_rfl) (by kernel_rfl) (by kernel_rfl) (fun _ _ _ h => h) (Or.inl ⟨by rfl, ?_⟩) (by assumption) ?_
      rotate_left
      · intro _ _; go_simp; with_reducible rfl
      simp only [Act.put, List.setIfInBounds_toArray, List.set_cons_zero, List.set_cons_succ, List.getElem_toArray, List.getElem_cons_zero, List.getElem_cons_succ]
      refine wpAnyH_take (i := 2) (v := ?_) rfl (by kernel_rfl) (by kernel_rfl) (by kernel_rfl) (fun _ _ _ h => h) (Or.inl ⟨by rfl, ?_⟩) (by assumption) ?_
      rotate_left
      · intro _ _; go_simp; with_reducible rfl
      simp only [Act.put, List.setIfInBounds_toArray, List.set_cons_zero, List.set_cons_succ, List.getElem_toArray, List.getElem_cons_zero, List.getElem_cons_succ]
      refine wpAnyH_take (i := 3) rfl (by kernel_rfl) (by kernel_rfl) (by kernel_rfl) (fun _ _ _ h => h) (yields_part (by rfl) 34 (.tmp 67) rfl (w.heap.size + 1) 1 29 rfl (fun W hW => hW.1) Try.underlying34 rfl infoCookie HLE.out CK HCK.out) (by assumption) ?_
      simp only [Act.put, List.setIfInBounds_toArray, List.set_cons_zero, List.set_cons_succ, List.getElem_toArray, List.getElem_cons_zero, List.getElem_cons_succ]
      refine wpAnyH_take (i := 4) (v := ?_) rfl (by kernel_rfl) (by kernel_rfl) (by kernel_rfl) (fun _ _ _ h => h) (Or.inl ⟨by rfl, ?_⟩) (by assumption) ?_
      rotate_left
      · intro _ _; go_simp; with_reducible rfl
      simp only [Act.put, List.setIfInBounds_toArray, List.set_cons_zero, List.set_cons_succ, List.getElem_toArray, List.getElem_cons_zero, List.getElem_cons_succ]
      refine wpAnyH_take (i := 5) (v := .string B) rfl (by kernel_rfl) (by kernel_rfl) (by kernel_rfl) (fun _ _ _ h => h) (Or.inl ⟨by rfl, fun wq hC => by have hcell := (show wq.cell? ⟨w.heap.size + 1, 30, none⟩ = some (.string B) by rw [hC.1.cell]; exact hk30); go_simp; try with_reducible rfl⟩) (by assumption) ?_
      simp only [Act.put, List.setIfInBounds_toArray, List.set_cons_zero, List.set_cons_succ, List.getElem_toArray, List.getElem_cons_zero, List.getElem_cons_succ]
      refine wpAnyH_take (i := 7) (v := ?_) rfl (by kernel_rfl) (by kernel_rfl) (by kernel_rfl) (fun _ _ _ h => h) (Or.inl ⟨by rfl, ?_⟩) (by assumption) ?_
      rotate_left
      · intro _ _; go_simp; with_reducible rfl
      simp only [Act.put, List.setIfInBounds_toArray, List.set_cons_zero, List.set_cons_succ, List.getElem_toArray, List.getElem_cons_zero, List.getElem_cons_succ]
      refine wpAnyH_ready (rs := [6]) (by kernel_rfl) (by simp) (AllReadyH.cons rfl (fun K hK => ?_) AllReadyH.nil)
      rw [if_pos (by rfl)]
      go_simp
      refine (HJ.out u0 K7).mono ?_
      rintro e x8 ⟨rfl, K8, t8⟩
      have S8 : Row x8 (w.heap.size + 1) 36 (actA x) ∧ Row x8 g6 28 #[Value.slice A5 n5 c5, .int .i64 s5.last] := ⟨t8.rows hS.1 (by omega) (by omega), t8.rows hS.2 (by omega) (by omega)⟩
      have O8 := t8.rows O7 (by omega) (by omega)
      have H8 := H6.trans t8
      have HL8 := Lib.hid (Lies.turned (HOK5.out _ K8) (by decide) (show Lies keptA u0 (.slice A5 n5 c5) s5.l from HL7.out) K7 t8)
      clear K7 O7 H6 HL7 t8 hS
      go_wp2_with fail
      refine hK.out _ _ S8 (fun _ => ?_)
      clear hK K
      refine wpAnyH_take (i := 8) (v := ?_) rfl (by kernel_rfl) (by kernel_rfl) (by kernel_rfl) (fun _ _ _ h => h) (Or.inl ⟨by rfl, ?_⟩) (by assumption) ?_
      rotate_left
      · intro _ _; go_simp; with_reducible rfl
      simp only [Act.put, List.setIfInBounds_toArray, List.set_cons_zero, List.set_cons_succ, List.getElem_toArray, List.getElem_cons_zero, List.getElem_cons_succ]
      refine wpAnyH_ready (rs := [9]) (by kernel_rfl) (by simp) (AllReadyH.cons rfl (fun K hK => ?_) AllReadyH.nil)
      rw [if_pos (by rfl)]
      refine wp_store_row 28 _ _ rfl (w.heap.size + 2) #[.slice A5 n5 c5, .int .i64 s5.last] rfl rfl 28 _ O8 zeroRefShelf rfl (by simp [Value.oneCell']) ?_
      have S9 : Row (x8.setRow (w.heap.size + 2) #[.slice A5 n5 c5, .int .i64 s5.last]) (w.heap.size + 1) 36 (actA x) ∧ Row (x8.setRow (w.heap.size + 2) #[.slice A5 n5 c5, .int .i64 s5.last]) g6 28 #[Value.slice A5 n5 c5, .int .i64 s5.last] := ⟨S8.1.aside (by omega) _, S8.2.aside (by omega) _⟩
      have O9 := O8.whole #[.slice A5 n5 c5, .int .i64 s5.last]
      have K9 := K8.rowed (g := w.heap.size + 2) (by omega) (by omega) #[.slice A5 n5 c5, .int .i64 s5.last]
      have L9 := HL8.out.rowed (HOK5.out _ K8) (by decide) O8 rfl #[.slice A5 n5 c5, .int .i64 s5.last]
      have H9 := H8.rowed (g := w.heap.size + 2) (by omega) #[.slice A5 n5 c5, .int .i64 s5.last]
      refine hK.out _ _ S9 (fun _ => ?_)
      clear hK K
      have HF := Lib.hid (HEND.out _ _ K9 L9 H9)
      refine wpAnyH_take (i := 10) (v := ?_) rfl (by kernel_rfl) (by kernel_rfl) (by kernel_rfl) (fun _ _ _ h => h) (Or.inl ⟨by rfl, ?_⟩) (by assumption) ?_
      rotate_left
      · intro _ _; go_simp; with_reducible rfl
      simp only [Act.put, List.setIfInBounds_toArray, List.set_cons_zero, List.set_cons_succ, List.getElem_toArray, List.getElem_cons_zero, List.getElem_cons_succ]
      refine wpAnyH_done (by kernel_rfl) ?_ _
      go_wp2_with fail
      exact bodyPost_ret (v := .tuple #[.agg #[.slice A5 n5 c5, .int .i64 s5.last], .bool true]) (results_cell_two rfl _ _ (w.heap.size + 2) _ _ _ rfl _ rfl O9 Try.underlying28 rfl zeroRefShelf) rfl HF.out
    · have hn0 : ¬ (x.kind = 0) := hkind
      clear hkind
      by_cases hkind : x.kind = 1
      · have hdn : q = (Sh.drop s x.c).1 := by rw [HDN.out]; unfold Sh.done; rw [if_neg hn0, if_pos hkind]
        have HEND : Hid (∀ W u, ShelfAt W sb mb (Sh.drop s x.c).1 → Lies keptA W u (Sh.drop s x.c).1.l → Turn2 sb mb w W → DoPost q sb mb w (.returned (.tuple #[.agg #[u, .int .i64 (Sh.drop s x.c).1.last], .bool true])) W) := Lib.hid (fun W u k1 k2 k3 => by
          rw [hdn]
          exact ⟨u, rfl, k1, k2, k3⟩)
        generalize DoPost q sb mb w = post at *
        go_wp2_with (first
          | (refine at_slot 77 rfl ?_; refine load_row rfl 28 _ rfl w.heap.size rfl R4 Try.underlying28 rfl zeroRefShelf ?_)
          | (refine at_slot 79 rfl ?_; refine load_part rfl 34 _ rfl (w.heap.size + 1) 1 29 rfl T4 Try.underlying34 rfl infoCookie HLE.out CK HCK.out ?_))
        refine (HRD.out x4 (HV.out.stays C4)).mono ?_
        rintro e x5 ⟨v5, rfl, hL5, d5⟩
        have T5 := T4.stays d5
        have O5 := O4.stays d5
        have K5 := K4.stays d5
        have C5 := C4.trans (d5.mono C4.size)
        clear R4 T4 O4 K4 C4 d5 q0 q30 q31
        obtain ⟨s5, hs5⟩ : ∃ z, z = (Sh.drop s x.c).1 := ⟨_, rfl⟩
        have HOK5 : Hid (∀ W, ShelfAt W sb mb s5 → ∀ y ∈ s5.l, (keptA y).size = 30) := Lib.hid (fun W k => keptA_sizes k.okay)
        have HJ := Lib.hid (HD.out)
        rw [← hs5] at hL5 HEND HJ ⊢
        clear hs5
        generalize (Sh.drop s x.c).2 = bb at *
        have HL5 := Lib.hid hL5
        obtain ⟨A5, c5, rfl, _, _⟩ := hL5
        obtain ⟨n5, hn5⟩ : ∃ m, s5.l.length = m := ⟨_, rfl⟩
        rw [hn5] at HL5 ⊢
        obtain ⟨Z6, E6, D6, L6⟩ := lay_row 28 #[.slice none 0 0, .int .i64 0] #[.slice A5 n5 c5, .int .i64 s5.last] (Below.refl x5.heap.size x5) (Nat.le_refl _)
        have T6 := L6 _ _ _ T5
        have O6 := L6 _ _ _ O5
        have K6 := K5.stays D6
        have C6 := C5.trans (D6.mono C5.size)
        have HL6 := Lib.hid (HL5.out.stays D6)
        have g5w := C5.size
        have l5 := O5.lt
        obtain ⟨x6, hW6⟩ : ∃ W, (x5.alloc (.cells #[.slice none 0 0, .int .i64 0] 28)).setRow x5.heap.size #[.slice A5 n5 c5, .int .i64 s5.last] = W := ⟨_, rfl⟩
        rw [hW6] at E6 D6 T6 O6 K6 C6 HL6
        have HW6 := Lib.hid hW6
        clear hW6 L6 D6 T5 O5 K5 C5 HL5
        go_wp2_with (first
          | (refine at_store 28 (.tmp 13) (.tmp 81) rfl ?_; refine wpList_store_row rfl 28 _ _ rfl x5.heap.size #[.slice A5 n5 c5, .int .i64 s5.last] rfl rfl 28 _ Z6 zeroRefShelf rfl (by simp [Value.oneCell']) ?_))
        rw [HW6.out]
        clear Z6 HW6
        generalize x5.heap.size = g6 at *
        have H6 := Turn2.of (sb := sb) (mb := mb) C6.drew (Nat.le_refl _)
        have K7 := K6.stays (Below.refl x6.heap.size x6).drew
        have O7 := O6.drew
        have HL7 := Lib.hid (HL6.out.stays (Below.refl x6.heap.size x6).drew)
        refine wp_region_held_drew (S := (fun W => Row W (w.heap.size + 1) 36 (actA x) ∧ Row W g6 28 #[Value.slice A5 n5 c5, .int .i64 s5.last])) (by kernel_rfl) ⟨T6.drew, E6.drew⟩ (fun hS => ?_)
        generalize x6.drew = u0 at *
        clear K6 O6 C6 HL6 E6 T6
        refine wpAnyH_take (i := 0) rfl (by kernel_rfl) (by kernel_rfl) (by kernel_rfl) (fun _ _ _ h => h) (yields_row (by rfl) _ _ rfl _ rfl (fun W hW => hW.2) Try.underlying28 rfl zeroRefShelf) (by assumption) ?_
        simp only [Act.put, List.setIfInBounds_toArray, List.set_cons_zero, List.set_cons_succ, List.getElem_toArray, List.getElem_cons_zero]
        refine wpAnyH_take (i := 1) (v := ?_) rfl (by kernel_rfl) (by kernel_rfl) (by kernel_rfl) (fun _ _ _ h => h) (Or.inl ⟨by rfl, ?_⟩) (by assumption) ?_
        rotate_left
        · intro _ _; go_simp; with_reducible rfl
        simp only [Act.put, List.setIfInBounds_toArray, List.set_cons_zero, List.set_cons_succ, List.getElem_toArray, List.getElem_cons_zero, List.getElem_cons_succ]
        refine wpAnyH_take (i := 2) (v := ?_) rfl (by kernel_rfl) (by kernel_rfl) (by kernel_rfl) (fun _ _ _ h => h) (Or.inl ⟨by rfl, ?_⟩) (by assumption) ?_
        rotate_left
        · intro _ _; go_simp; with_reducible rfl
        simp only [Act.put, List.setIfInBounds_toArray, List.set_cons_zero, List.set_cons_succ, List.getElem_toArray, List.getElem_cons_zero, List.getElem_cons_succ]
        refine wpAnyH_take (i := 3) rfl (by kernel_rfl) (by kernel_rfl) (by kernel_rfl) (fun _ _ _ h => h) (yields_part (by rfl) 34 (.tmp 85) rfl (w.heap.size + 1) 1 29 rfl (fun W hW => hW.1) Try.underlying34 rfl infoCookie HLE.out CK HCK.out) (by assumption) ?_
        simp only [Act.put, List.setIfInBounds_toArray, List.set_cons_zero, List.set_cons_succ, List.getElem_toArray, List.getElem_cons_zero, List.getElem_cons_succ]
        refine wpAnyH_take (i := 5) (v := ?_) rfl (by kernel_rfl) (by kernel_rfl) (by kernel_rfl) (fun _ _ _ h => h) (Or.inl ⟨by rfl, ?_⟩) (by assumption) ?_
        rotate_left
        · intro _ _; go_simp; with_reducible rfl
        simp only [Act.put, List.setIfInBounds_toArray, List.set_cons_zero, List.set_cons_succ, List.getElem_toArray, List.getElem_cons_zero, List.getElem_cons_succ]
        refine wpAnyH_ready (rs := [4]) (by kernel_rfl) (by simp) (AllReadyH.cons rfl (fun K hK => ?_) AllReadyH.nil)
        rw [if_pos (by rfl)]
        go_simp
        refine (HJ.out u0 K7).mono ?_
        rintro e x8 ⟨rfl, K8, t8⟩
        have S8 : Row x8 (w.heap.size + 1) 36 (actA x) ∧ Row x8 g6 28 #[Value.slice A5 n5 c5, .int .i64 s5.last] := ⟨t8.rows hS.1 (by omega) (by omega), t8.rows hS.2 (by omega) (by omega)⟩
        have O8 := t8.rows O7 (by omega) (by omega)
        have H8 := H6.trans t8
        have HL8 := Lib.hid (Lies.turned (HOK5.out _ K8) (by decide) (show Lies keptA u0 (.slice A5 n5 c5) s5.l from HL7.out) K7 t8)
        clear K7 O7 H6 HL7 t8 hS
        go_wp2_with fail
        refine hK.out _ _ S8 (fun _ => ?_)
        clear hK K
        refine wpAnyH_take (i := 6) (v := ?_) rfl (by kernel_rfl) (by kernel_rfl) (by kernel_rfl) (fun _ _ _ h => h) (Or.inl ⟨by rfl, ?_⟩) (by assumption) ?_
        rotate_left
        · intro _ _; go_simp; with_reducible rfl
        simp only [Act.put, List.setIfInBounds_toArray, List.set_cons_zero, List.set_cons_succ, List.getElem_toArray, List.getElem_cons_zero, List.getElem_cons_succ]
        refine wpAnyH_ready (rs := [7]) (by kernel_rfl) (by simp) (AllReadyH.cons rfl (fun K hK => ?_) AllReadyH.nil)
        rw [if_pos (by rfl)]
        refine wp_store_row 28 _ _ rfl (w.heap.size + 2) #[.slice A5 n5 c5, .int .i64 s5.last] rfl rfl 28 _ O8 zeroRefShelf rfl (by simp [Value.oneCell']) ?_
        have S9 : Row (x8.setRow (w.heap.size + 2) #[.slice A5 n5 c5, .int .i64 s5.last]) (w.heap.size + 1) 36 (actA x) ∧ Row (x8.setRow (w.heap.size + 2) #[.slice A5 n5 c5, .int .i64 s5.last]) g6 28 #[Value.slice A5 n5 c5, .int .i64 s5.last] := ⟨S8.1.aside (by omega) _, S8.2.aside (by omega) _⟩
        have O9 := O8.whole #[.slice A5 n5 c5, .int .i64 s5.last]
        have K9 := K8.rowed (g := w.heap.size + 2) (by omega) (by omega) #[.slice A5 n5 c5, .int .i64 s5.last]
        have L9 := HL8.out.rowed (HOK5.out _ K8) (by decide) O8 rfl #[.slice A5 n5 c5, .int .i64 s5.last]
        have H9 := H8.rowed (g := w.heap.size + 2) (by omega) #[.slice A5 n5 c5, .int .i64 s5.last]
        refine hK.out _ _ S9 (fun _ => ?_)
        clear hK K
        have HF := Lib.hid (HEND.out _ _ K9 L9 H9)
        refine wpAnyH_take (i := 8) (v := ?_) rfl (by kernel_rfl) (by kernel_rfl) (by kernel_rfl) (fun _ _ _ h => h) (Or.inl ⟨by rfl, ?_⟩) (by assumption) ?_
        rotate_left
        · intro _ _; go_simp; with_reducible rfl
        simp only [Act.put, List.setIfInBounds_toArray, List.set_cons_zero, List.set_cons_succ, List.getElem_toArray, List.getElem_cons_zero, List.getElem_cons_succ]
        refine wpAnyH_done (by kernel_rfl) ?_ _
        go_wp2_with fail
        exact bodyPost_ret (v := .tuple #[.agg #[.slice A5 n5 c5, .int .i64 s5.last], .bool true]) (results_cell_two rfl _ _ (w.heap.size + 2) _ _ _ rfl _ rfl O9 Try.underlying28 rfl zeroRefShelf) rfl HF.out
      · have hn1 : ¬ (x.kind = 1) := hkind
        clear hkind
        by_cases hkind : x.kind = 2
        · have hdn : q = (Sh.use s x.c x.n).1 := by rw [HDN.out]; unfold Sh.done; rw [if_neg hn0, if_neg hn1, if_pos hkind]
          have HEND : Hid (∀ W u, ShelfAt W sb mb (Sh.use s x.c x.n).1 → Lies keptA W u (Sh.use s x.c x.n).1.l → Turn2 sb mb w W → DoPost q sb mb w (.returned (.tuple #[.agg #[u, .int .i64 (Sh.use s x.c x.n).1.last], .bool true])) W) := Lib.hid (fun W u k1 k2 k3 => by
            rw [hdn]
            exact ⟨u, rfl, k1, k2, k3⟩)
          generalize DoPost q sb mb w = post at *
          go_wp2_with (first
            | (refine at_slot 93 rfl ?_; refine load_row rfl 28 _ rfl w.heap.size rfl R4 Try.underlying28 rfl zeroRefShelf ?_)
            | (refine at_slot 95 rfl ?_; refine load_part rfl 34 _ rfl (w.heap.size + 1) 1 29 rfl T4 Try.underlying34 rfl infoCookie HLE.out CK HCK.out ?_))
          refine (HRU.out x4 (HV.out.stays C4)).mono ?_
          rintro e x5 ⟨v5, rfl, hL5, d5⟩
          have T5 := T4.stays d5
          have O5 := O4.stays d5
          have K5 := K4.stays d5
          have C5 := C4.trans (d5.mono C4.size)
          clear R4 T4 O4 K4 C4 d5 q0 q30 q31
          obtain ⟨s5, hs5⟩ : ∃ z, z = (Sh.use s x.c x.n).1 := ⟨_, rfl⟩
          have HOK5 : Hid (∀ W, ShelfAt W sb mb s5 → ∀ y ∈ s5.l, (keptA y).size = 30) := Lib.hid (fun W k => keptA_sizes k.okay)
          have HJ := Lib.hid (HU.out)
          rw [← hs5] at hL5 HEND HJ ⊢
          clear hs5
          generalize (Sh.use s x.c x.n).2 = bb at *
          have HL5 := Lib.hid hL5
          obtain ⟨A5, c5, rfl, _, _⟩ := hL5
          obtain ⟨n5, hn5⟩ : ∃ m, s5.l.length = m := ⟨_, rfl⟩
          rw [hn5] at HL5 ⊢
          obtain ⟨Z6, E6, D6, L6⟩ := lay_row 28 #[.slice none 0 0, .int .i64 0] #[.slice A5 n5 c5, .int .i64 s5.last] (Below.refl x5.heap.size x5) (Nat.le_refl _)
          have T6 := L6 _ _ _ T5
          have O6 := L6 _ _ _ O5
          have K6 := K5.stays D6
          have C6 := C5.trans (D6.mono C5.size)
          have HL6 := Lib.hid (HL5.out.stays D6)
          have g5w := C5.size
          have l5 := O5.lt
          obtain ⟨x6, hW6⟩ : ∃ W, (x5.alloc (.cells #[.slice none 0 0, .int .i64 0] 28)).setRow x5.heap.size #[.slice A5 n5 c5, .int .i64 s5.last] = W := ⟨_, rfl⟩
          rw [hW6] at E6 D6 T6 O6 K6 C6 HL6
          have HW6 := Lib.hid hW6
          clear hW6 L6 D6 T5 O5 K5 C5 HL5
          go_wp2_with (first
            | (refine at_store 28 (.tmp 15) (.tmp 99) rfl ?_; refine wpList_store_row rfl 28 _ _ rfl x5.heap.size #[.slice A5 n5 c5, .int .i64 s5.last] rfl rfl 28 _ Z6 zeroRefShelf rfl (by simp [Value.oneCell']) ?_))
          rw [HW6.out]
          clear Z6 HW6
          generalize x5.heap.size = g6 at *
          have H6 := Turn2.of (sb := sb) (mb := mb) C6.drew (Nat.le_refl _)
          have K7 := K6.stays (Below.refl x6.heap.size x6).drew
          have O7 := O6.drew
          have HL7 := Lib.hid (HL6.out.stays (Below.refl x6.heap.size x6).drew)
          refine wp_region_held_drew (S := (fun W => Row W (w.heap.size + 1) 36 (actA x) ∧ Row W g6 28 #[Value.slice A5 n5 c5, .int .i64 s5.last])) (by kernel_rfl) ⟨T6.drew, E6.drew⟩ (fun hS => ?_)
          generalize x6.drew = u0 at *
          clear K6 O6 C6 HL6 E6 T6
          refine wpAnyH_take (i := 0) rfl (by kernel_rfl) (by kernel_rfl) (by kernel_rfl) (fun _ _ _ h => h) (yields_row (by rfl) _ _ rfl _ rfl (fun W hW => hW.2) Try.underlying28 rfl zeroRefShelf) (by assumption) ?_
          simp only [Act.put, List.setIfInBounds_toArray, List.set_cons_zero, List.set_cons_succ, List.getElem_toArray, List.getElem_cons_zero]
          refine wpAnyH_take (i := 1) (v := ?_) rfl (by kernel_rfl) (by kernel_rfl) (by kernel_rfl) (fun _ _ _ h => h) (Or.inl ⟨by rfl, ?_⟩) (by assumption) ?_
          rotate_left
          · intro _ _; go_simp; with_reducible rfl
          simp only [Act.put, List.setIfInBounds_toArray, List.set_cons_zero, List.set_cons_succ, List.getElem_toArray, List.getElem_cons_zero, List.getElem_cons_succ]
          refine wpAnyH_take (i := 2) (v := ?_) rfl (by kernel_rfl) (by kernel_rfl) (by kernel_rfl) (fun _ _ _ h => h) (Or.inl ⟨by rfl, ?_⟩) (by assumption) ?_
          rotate_left
          · intro _ _; go_simp; with_reducible rfl
          simp only [Act.put, List.setIfInBounds_toArray, List.set_cons_zero, List.set_cons_succ, List.getElem_toArray, List.getElem_cons_zero, List.getElem_cons_succ]
          refine wpAnyH_take (i := 3) rfl (by kernel_rfl) (by kernel_rfl) (by kernel_rfl) (fun _ _ _ h => h) (yields_part (by rfl) 34 (.tmp 103) rfl (w.heap.size + 1) 1 29 rfl (fun W hW => hW.1) Try.underlying34 rfl infoCookie HLE.out CK HCK.out) (by assumption) ?_
          simp only [Act.put, List.setIfInBounds_toArray, List.set_cons_zero, List.set_cons_succ, List.getElem_toArray, List.getElem_cons_zero, List.getElem_cons_succ]
          refine wpAnyH_take (i := 4) (v := ?_) rfl (by kernel_rfl) (by kernel_rfl) (by kernel_rfl) (fun _ _ _ h => h) (Or.inl ⟨by rfl, ?_⟩) (by assumption) ?_
          rotate_left
          · intro _ _; go_simp; with_reducible rfl
          simp only [Act.put, List.setIfInBounds_toArray, List.set_cons_zero, List.set_cons_succ, List.getElem_toArray, List.getElem_cons_zero, List.getElem_cons_succ]
          refine wpAnyH_take (i := 5) (v := .int .i64 x.n) rfl (by kernel_rfl) (by kernel_rfl) (by kernel_rfl) (fun _ _ _ h => h) (Or.inl ⟨by rfl, fun wq hC => by have hcell := (show wq.cell? ⟨w.heap.size + 1, 31, none⟩ = some (.int .i64 x.n) by rw [hC.1.cell]; exact hk31); go_simp; try with_reducible rfl⟩) (by assumption) ?_
          simp only [Act.put, List.setIfInBounds_toArray, List.set_cons_zero, List.set_cons_succ, List.getElem_toArray, List.getElem_cons_zero, List.getElem_cons_succ]
          refine wpAnyH_take (i := 7) (v := ?_) rfl (by kernel_rfl) (by kernel_rfl) (by kernel_rfl) (fun _ _ _ h => h) (Or.inl ⟨by rfl, ?_⟩) (by assumption) ?_
          rotate_left
          · intro _ _; go_simp; with_reducible rfl
          simp only [Act.put, List.setIfInBounds_toArray, List.set_cons_zero, List.set_cons_succ, List.getElem_toArray, List.getElem_cons_zero, List.getElem_cons_succ]
          refine wpAnyH_ready (rs := [6]) (by kernel_rfl) (by simp) (AllReadyH.cons rfl (fun K hK => ?_) AllReadyH.nil)
          rw [if_pos (by rfl)]
          go_simp
          refine (HJ.out u0 K7).mono ?_
          rintro e x8 ⟨rfl, K8, t8⟩
          have S8 : Row x8 (w.heap.size + 1) 36 (actA x) ∧ Row x8 g6 28 #[Value.slice A5 n5 c5, .int .i64 s5.last] := ⟨t8.rows hS.1 (by omega) (by omega), t8.rows hS.2 (by omega) (by omega)⟩
          have O8 := t8.rows O7 (by omega) (by omega)
          have H8 := H6.trans t8
          have HL8 := Lib.hid (Lies.turned (HOK5.out _ K8) (by decide) (show Lies keptA u0 (.slice A5 n5 c5) s5.l from HL7.out) K7 t8)
          clear K7 O7 H6 HL7 t8 hS
          go_wp2_with fail
          refine hK.out _ _ S8 (fun _ => ?_)
          clear hK K
          refine wpAnyH_take (i := 8) (v := ?_) rfl (by kernel_rfl) (by kernel_rfl) (by kernel_rfl) (fun _ _ _ h => h) (Or.inl ⟨by rfl, ?_⟩) (by assumption) ?_
          rotate_left
          · intro _ _; go_simp; with_reducible rfl
          simp only [Act.put, List.setIfInBounds_toArray, List.set_cons_zero, List.set_cons_succ, List.getElem_toArray, List.getElem_cons_zero, List.getElem_cons_succ]
          refine wpAnyH_ready (rs := [9]) (by kernel_rfl) (by simp) (AllReadyH.cons rfl (fun K hK => ?_) AllReadyH.nil)
          rw [if_pos (by rfl)]
          refine wp_store_row 28 _ _ rfl (w.heap.size + 2) #[.slice A5 n5 c5, .int .i64 s5.last] rfl rfl 28 _ O8 zeroRefShelf rfl (by simp [Value.oneCell']) ?_
          have S9 : Row (x8.setRow (w.heap.size + 2) #[.slice A5 n5 c5, .int .i64 s5.last]) (w.heap.size + 1) 36 (actA x) ∧ Row (x8.setRow (w.heap.size + 2) #[.slice A5 n5 c5, .int .i64 s5.last]) g6 28 #[Value.slice A5 n5 c5, .int .i64 s5.last] := ⟨S8.1.aside (by omega) _, S8.2.aside (by omega) _⟩
          have O9 := O8.whole #[.slice A5 n5 c5, .int .i64 s5.last]
          have K9 := K8.rowed (g := w.heap.size + 2) (by omega) (by omega) #[.slice A5 n5 c5, .int .i64 s5.last]
          have L9 := HL8.out.rowed (HOK5.out _ K8) (by decide) O8 rfl #[.slice A5 n5 c5, .int .i64 s5.last]
          have H9 := H8.rowed (g := w.heap.size + 2) (by omega) #[.slice A5 n5 c5, .int .i64 s5.last]
          refine hK.out _ _ S9 (fun _ => ?_)
          clear hK K
          have HF := Lib.hid (HEND.out _ _ K9 L9 H9)
          refine wpAnyH_take (i := 10) (v := ?_) rfl (by kernel_rfl) (by kernel_rfl) (by kernel_rfl) (fun _ _ _ h => h) (Or.inl ⟨by rfl, ?_⟩) (by assumption) ?_
          rotate_left
          · intro _ _; go_simp; with_reducible rfl
          simp only [Act.put, List.setIfInBounds_toArray, List.set_cons_zero, List.set_cons_succ, List.getElem_toArray, List.getElem_cons_zero, List.getElem_cons_succ]
          refine wpAnyH_done (by kernel_rfl) ?_ _
          go_wp2_with fail
          exact bodyPost_ret (v := .tuple #[.agg #[.slice A5 n5 c5, .int .i64 s5.last], .bool true]) (results_cell_two rfl _ _ (w.heap.size + 2) _ _ _ rfl _ rfl O9 Try.underlying28 rfl zeroRefShelf) rfl HF.out
        · have hn2 : ¬ (x.kind = 2) := hkind
          clear hkind
          by_cases hkind : x.kind = 3
          · have hdn : q = (Sh.expire s x.n).1 := by rw [HDN.out]; unfold Sh.done; rw [if_neg hn0, if_neg hn1, if_neg hn2, if_pos hkind]
            have HEND : Hid (∀ W u, ShelfAt W sb mb (Sh.expire s x.n).1 → Lies keptA W u (Sh.expire s x.n).1.l → Turn2 sb mb w W → DoPost q sb mb w (.returned (.tuple #[.agg #[u, .int .i64 (Sh.expire s x.n).1.last], .bool true])) W) := Lib.hid (fun W u k1 k2 k3 => by
              rw [hdn]
              exact ⟨u, rfl, k1, k2, k3⟩)
            generalize DoPost q sb mb w = post at *
            go_wp2_with (first
              | (refine at_slot 113 rfl ?_; refine load_row rfl 28 _ rfl w.heap.size rfl R4 Try.underlying28 rfl zeroRefShelf ?_))
            refine (HRE.out x4 (HV.out.stays C4)).mono ?_
            rintro e x5 ⟨v5, rfl, hL5, d5⟩
            have T5 := T4.stays d5
            have O5 := O4.stays d5
            have K5 := K4.stays d5
            have C5 := C4.trans (d5.mono C4.size)
            clear R4 T4 O4 K4 C4 d5 q0 q30 q31
            obtain ⟨s5, hs5⟩ : ∃ z, z = (Sh.expire s x.n).1 := ⟨_, rfl⟩
            have HOK5 : Hid (∀ W, ShelfAt W sb mb s5 → ∀ y ∈ s5.l, (keptA y).size = 30) := Lib.hid (fun W k => keptA_sizes k.okay)
            have HJ := Lib.hid (HE.out)
            rw [← hs5] at hL5 HEND HJ ⊢
            clear hs5
            generalize (Sh.expire s x.n).2 = bb at *
            have HL5 := Lib.hid hL5
            obtain ⟨A5, c5, rfl, _, _⟩ := hL5
            obtain ⟨n5, hn5⟩ : ∃ m, s5.l.length = m := ⟨_, rfl⟩
            rw [hn5] at HL5 ⊢
            obtain ⟨Z6, E6, D6, L6⟩ := lay_row 28 #[.slice none 0 0, .int .i64 0] #[.slice A5 n5 c5, .int .i64 s5.last] (Below.refl x5.heap.size x5) (Nat.le_refl _)
            have T6 := L6 _ _ _ T5
            have O6 := L6 _ _ _ O5
            have K6 := K5.stays D6
            have C6 := C5.trans (D6.mono C5.size)
            have HL6 := Lib.hid (HL5.out.stays D6)
            have g5w := C5.size
            have l5 := O5.lt
            obtain ⟨x6, hW6⟩ : ∃ W, (x5.alloc (.cells #[.slice none 0 0, .int .i64 0] 28)).setRow x5.heap.size #[.slice A5 n5 c5, .int .i64 s5.last] = W := ⟨_, rfl⟩
            rw [hW6] at E6 D6 T6 O6 K6 C6 HL6
            have HW6 := Lib.hid hW6
            clear hW6 L6 D6 T5 O5 K5 C5 HL5
            go_wp2_with (first
              | (refine at_store 28 (.tmp 17) (.tmp 117) rfl ?_; refine wpList_store_row rfl 28 _ _ rfl x5.heap.size #[.slice A5 n5 c5, .int .i64 s5.last] rfl rfl 28 _ Z6 zeroRefShelf rfl (by simp [Value.oneCell']) ?_))
            rw [HW6.out]
            clear Z6 HW6
            generalize x5.heap.size = g6 at *
            have H6 := Turn2.of (sb := sb) (mb := mb) C6.drew (Nat.le_refl _)
            have K7 := K6.stays (Below.refl x6.heap.size x6).drew
            have O7 := O6.drew
            have HL7 := Lib.hid (HL6.out.stays (Below.refl x6.heap.size x6).drew)
            refine wp_region_held_drew (S := (fun W => Row W (w.heap.size + 1) 36 (actA x) ∧ Row W g6 28 #[Value.slice A5 n5 c5, .int .i64 s5.last])) (by kernel_rfl) ⟨T6.drew, E6.drew⟩ (fun hS => ?_)
            generalize x6.drew = u0 at *
            clear K6 O6 C6 HL6 E6 T6
            refine wpAnyH_take (i := 0) rfl (by kernel_rfl) (by kernel_rfl) (by kernel_rfl) (fun _ _ _ h => h) (yields_row (by rfl) _ _ rfl _ rfl (fun W hW => hW.2) Try.underlying28 rfl zeroRefShelf) (by assumption) ?_
            simp only [Act.put, List.setIfInBounds_toArray, List.set_cons_zero, List.set_cons_succ, List.getElem_toArray, List.getElem_cons_zero]
            refine wpAnyH_take (i := 1) (v := ?_) rfl (by kernel_rfl) (by kernel_rfl) (by kernel_rfl) (fun _ _ _ h => h) (Or.inl ⟨by rfl, ?_⟩) (by assumption) ?_
            rotate_left
            · intro _ _; go_simp; with_reducible rfl
            simp only [Act.put, List.setIfInBounds_toArray, List.set_cons_zero, List.set_cons_succ, List.getElem_toArray, List.getElem_cons_zero, List.getElem_cons_succ]
            refine wpAnyH_take (i := 2) (v := ?_) rfl (by kernel_rfl) (by kernel_rfl) (by kernel_rfl) (fun _ _ _ h => h) (Or.inl ⟨by rfl, ?_⟩) (by assumption) ?_
            rotate_left
            · intro _ _; go_simp; with_reducible rfl
            simp only [Act.put, List.setIfInBounds_toArray, List.set_cons_zero, List.set_cons_succ, List.getElem_toArray, List.getElem_cons_zero, List.getElem_cons_succ]
            refine wpAnyH_take (i := 3) (v := .int .i64 x.n) rfl (by kernel_rfl) (by kernel_rfl) (by kernel_rfl) (fun _ _ _ h => h) (Or.inl ⟨by rfl, fun wq hC => by have hcell := (show wq.cell? ⟨w.heap.size + 1, 31, none⟩ = some (.int .i64 x.n) by rw [hC.1.cell]; exact hk31); go_simp; try with_reducible rfl⟩) (by assumption) ?_
            simp only [Act.put, List.setIfInBounds_toArray, List.set_cons_zero, List.set_cons_succ, List.getElem_toArray, List.getElem_cons_zero, List.getElem_cons_succ]
            refine wpAnyH_take (i := 5) (v := ?_) rfl (by kernel_rfl) (by kernel_rfl) (by kernel_rfl) (fun _ _ _ h => h) (Or.inl ⟨by rfl, ?_⟩) (by assumption) ?_
            rotate_left
            · intro _ _; go_simp; with_reducible rfl
            simp only [Act.put, List.setIfInBounds_toArray, List.set_cons_zero, List.set_cons_succ, List.getElem_toArray, List.getElem_cons_zero, List.getElem_cons_succ]
            refine wpAnyH_ready (rs := [4]) (by kernel_rfl) (by simp) (AllReadyH.cons rfl (fun K hK => ?_) AllReadyH.nil)
            rw [if_pos (by rfl)]
            go_simp
            refine (HJ.out u0 K7).mono ?_
            rintro e x8 ⟨rfl, K8, t8⟩
            have S8 : Row x8 (w.heap.size + 1) 36 (actA x) ∧ Row x8 g6 28 #[Value.slice A5 n5 c5, .int .i64 s5.last] := ⟨t8.rows hS.1 (by omega) (by omega), t8.rows hS.2 (by omega) (by omega)⟩
            have O8 := t8.rows O7 (by omega) (by omega)
            have H8 := H6.trans t8
            have HL8 := Lib.hid (Lies.turned (HOK5.out _ K8) (by decide) (show Lies keptA u0 (.slice A5 n5 c5) s5.l from HL7.out) K7 t8)
            clear K7 O7 H6 HL7 t8 hS
            go_wp2_with fail
            refine hK.out _ _ S8 (fun _ => ?_)
            clear hK K
            refine wpAnyH_take (i := 6) (v := ?_) rfl (by kernel_rfl) (by kernel_rfl) (by kernel_rfl) (fun _ _ _ h => h) (Or.inl ⟨by rfl, ?_⟩) (by assumption) ?_
            rotate_left
            · intro _ _; go_simp; with_reducible rfl
            simp only [Act.put, List.setIfInBounds_toArray, List.set_cons_zero, List.set_cons_succ, List.getElem_toArray, List.getElem_cons_zero, List.getElem_cons_succ]
            refine wpAnyH_ready (rs := [7]) (by kernel_rfl) (by simp) (AllReadyH.cons rfl (fun K hK => ?_) AllReadyH.nil)
            rw [if_pos (by rfl)]
            refine wp_store_row 28 _ _ rfl (w.heap.size + 2) #[.slice A5 n5 c5, .int .i64 s5.last] rfl rfl 28 _ O8 zeroRefShelf rfl (by simp [Value.oneCell']) ?_
            have S9 : Row (x8.setRow (w.heap.size + 2) #[.slice A5 n5 c5, .int .i64 s5.last]) (w.heap.size + 1) 36 (actA x) ∧ Row (x8.setRow (w.heap.size + 2) #[.slice A5 n5 c5, .int .i64 s5.last]) g6 28 #[Value.slice A5 n5 c5, .int .i64 s5.last] := ⟨S8.1.aside (by omega) _, S8.2.aside (by omega) _⟩
            have O9 := O8.whole #[.slice A5 n5 c5, .int .i64 s5.last]
            have K9 := K8.rowed (g := w.heap.size + 2) (by omega) (by omega) #[.slice A5 n5 c5, .int .i64 s5.last]
            have L9 := HL8.out.rowed (HOK5.out _ K8) (by decide) O8 rfl #[.slice A5 n5 c5, .int .i64 s5.last]
            have H9 := H8.rowed (g := w.heap.size + 2) (by omega) #[.slice A5 n5 c5, .int .i64 s5.last]
            refine hK.out _ _ S9 (fun _ => ?_)
            clear hK K
            have HF := Lib.hid (HEND.out _ _ K9 L9 H9)
            refine wpAnyH_take (i := 8) (v := ?_) rfl (by kernel_rfl) (by kernel_rfl) (by kernel_rfl) (fun _ _ _ h => h) (Or.inl ⟨by rfl, ?_⟩) (by assumption) ?_
            rotate_left
            · intro _ _; go_simp; with_reducible rfl
            simp only [Act.put, List.setIfInBounds_toArray, List.set_cons_zero, List.set_cons_succ, List.getElem_toArray, List.getElem_cons_zero, List.getElem_cons_succ]
            refine wpAnyH_done (by kernel_rfl) ?_ _
            go_wp2_with fail
            exact bodyPost_ret (v := .tuple #[.agg #[.slice A5 n5 c5, .int .i64 s5.last], .bool true]) (results_cell_two rfl _ _ (w.heap.size + 2) _ _ _ rfl _ rfl O9 Try.underlying28 rfl zeroRefShelf) rfl HF.out
          · have hn3 : ¬ (x.kind = 3) := hkind
            clear hkind
            have hdn : q = s := by rw [HDN.out]; unfold Sh.done; rw [if_neg hn0, if_neg hn1, if_neg hn2, if_neg hn3]
            have HEND : Hid (∀ W u, ShelfAt W sb mb s → Lies keptA W u s.l → Turn2 sb mb w W → DoPost q sb mb w (.returned (.tuple #[.agg #[u, .int .i64 s.last], .bool true])) W) := Lib.hid (fun W u k1 k2 k3 => by
              rw [hdn]
              exact ⟨u, rfl, k1, k2, k3⟩)
            generalize DoPost q sb mb w = post at *
            have O5 := O4.whole #[Value.slice A n cp, .int .i64 s.last]
            have K5 := K4.rowed (g := w.heap.size + 2) (by omega) (by omega) #[Value.slice A n cp, .int .i64 s.last]
            have L5 := HV.out.stays (below_setRow (g := w.heap.size + 2) C4 (by omega) #[Value.slice A n cp, .int .i64 s.last])
            have H5 := (Turn2.of (sb := sb) (mb := mb) C4 (Nat.le_refl _)).rowed (g := w.heap.size + 2) (by omega) #[Value.slice A n cp, .int .i64 s.last]
            have HF := Lib.hid (HEND.out _ _ K5 L5 H5)
            clear K5 L5 H5
            go_wp2_with (first
              | (refine at_slot 126 rfl ?_; refine load_row rfl 28 _ rfl w.heap.size rfl R4 Try.underlying28 rfl zeroRefShelf ?_)
              | (refine wpList_store_row rfl 28 _ _ rfl (w.heap.size + 2) #[Value.slice A n cp, .int .i64 s.last] rfl rfl 28 _ O4 zeroRefShelf rfl (by simp [Value.oneCell']) ?_))
            exact bodyPost_ret (v := .tuple #[.agg #[Value.slice A n cp, .int .i64 s.last], .bool true]) (results_cell_two rfl _ _ (w.heap.size + 2) _ _ _ rfl _ rfl O5 Try.underlying28 rfl zeroRefShelf) rfl HF.out
end Go.Proofs.Ytnepgibjijdheaa
