/- The walk of the law DfaNot. -/
import Derived.Test.YtdidogcgoghdmaaDfaAlive
import Derived.Test.YtdidogcgoghdmaaRefLike15
import Derived.Test.YtdidogcgoghdmaaDfaWordsPlain
import Derived.Test.YtdidogcgoghdmaaDfaData
namespace Go.Proofs.Ytdidogcgoghdmaa
open Go.RowKit
set_option maxRecDepth 100000 in
set_option maxHeartbeats 8000000 in
theorem dnot_walk {va u : Value} (a : Au.Dv) (x : List Int) (w : World) (ha : Auto w va a) (hx : Nums w u x ∧ x.length ≤ maxLen ∧ ∀ n ∈ x, (Lit.int .i64 n).wf = true) :
    Calls Try.prog 7 #[va, u] w fun e w' => e = .returned (.bool true) ∧ Below w.heap.size w w' := by
  obtain ⟨hx, hxl, _⟩ := hx
  have HAL := Lib.hid alive_calls15
  have HGA := Lib.hid (fun V W h => great_calls15 V a W h)
  have HRR := Lib.hid (fun V W h => refDRight_calls V a W h)
  have HNT := Lib.hid (fun V W h => not_calls V a W h)
  obtain ⟨U, cu, rfl⟩ := hx.slice
  obtain ⟨A, c, A', c', rfl, _, _⟩ := ha.parts
  have HX := Lib.hid hx
  have HXL := Lib.hid hxl
  have HVA := Lib.hid ha
  have HKA : Hid (∀ f, a = Au.Dv.of f → a.k = (f.k : Int) ∧ a.acc.length = f.n) := Lib.hid (fun f h => by rw [h]; exact ⟨rfl, rfl⟩)
  have HNA : Hid (a.great = false → a.acc.length ≤ 12) := Lib.hid (fun h => (Au.great_no h).1)
  have HOA : Hid ((a.right = false ∧ ¬ Au.Ok a) ∨ (a.right = true ∧ ∃ f, a = Au.Dv.of f ∧ Au.Sound f)) := Lib.hid (by
    rcases Au.ok_cases a with h | ⟨f, h1, h2⟩
    · exact .inl h
    · exact .inr ⟨by rw [h1]; exact Au.right_sound h2, f, h1, h2⟩)
  obtain ⟨nx, hnx⟩ : ∃ nx, x.length = nx := ⟨_, rfl⟩
  rw [hnx] at hxl HX ⊢
  clear ha hx hnx
  generalize a.next.length = n0 at *
  generalize a.acc.length = m0 at *
  generalize a.k = ka at *
  generalize a.start = sa at *
  generalize a.great = ga at *
  generalize a.right = ra at *
  have R0 := Row.new w 25 #[.int .i64 ka, .int .i64 sa, .slice A n0 c, .slice A' m0 c']
  have C0 := (Below.refl w.heap.size w).alloc (Nat.le_refl _) (.cells #[.int .i64 ka, .int .i64 sa, .slice A n0 c, .slice A' m0 c'] 25)
  go_enter Try.func7, Try.ntmps7
  go_wp2_with fail
  generalize w.alloc (.cells #[.int .i64 ka, .int .i64 sa, .slice A n0 c, .slice A' m0 c'] 25) = w0 at *
  have RA := Lib.hid (fun W (h : Below w0.heap.size w0 W) => R0.stays h)
  have VA := Lib.hid (fun W (h : Below w0.heap.size w0 W) => HVA.out.later (C0.trans (h.mono C0.size)) (Nat.le_refl _))
  have XX := Lib.hid (fun W (h : Below w0.heap.size w0 W) => HX.out.later (C0.trans (h.mono C0.size)) (Nat.le_refl _))
  have HB0 := Lib.hid C0
  have DC := Below.refl w0.heap.size w0
  clear R0 C0 HX
  refine (HAL.out _).mono ?_
  rintro e v11 ⟨rfl, hb11⟩
  have C11 := DC.trans (hb11.mono DC.size)
  clear DC
  have DC := C11
  clear C11
  clear hb11
  go_wp2_with (refine at_slot 11 rfl ?_; refine load_row rfl 25 _ rfl w.heap.size rfl (RA.out _ DC) Try.underlying25 rfl infoDfa ?_)
  refine (HGA.out _ _ (VA.out _ DC)).mono ?_
  rintro e v12 ⟨rfl, hb12⟩
  have C12 := DC.trans (hb12.mono DC.size)
  clear DC
  have DC := C12
  clear C12
  clear hb12
  cases ga with
  | true =>
    go_wp2
    go_ret
    exact ⟨rfl, HB0.out.trans (DC.mono HB0.out.size)⟩
  | false =>
  by_cases h1 : (200 : Int) < (nx : Int)
  · have e2 : decide ((200 : Int) < (nx : Int)) = true := decide_eq_true h1
    go_wp2
    go_ret
    exact ⟨rfl, HB0.out.trans (DC.mono HB0.out.size)⟩
  have e2 : decide ((200 : Int) < (nx : Int)) = false := decide_eq_false h1
  clear h1
  rcases HOA.out with ⟨rfl, hno⟩ | ⟨rfl, f, rfl, hf⟩
  · have HN1 : Hid (∀ V W, Auto W V a → Calls Try.prog 12 #[V] W (NewAuto W Au.Dv.zero 151)) := Lib.hid (fun V W h => (HNT.out V W h).mono fun e w' h => h.1 hno)
    have HZC := Lib.hid zero_calls15
    clear HOA HNT hno
    go_wp2_with (refine at_slot 19 rfl ?_; refine load_row rfl 25 _ rfl w.heap.size rfl (RA.out _ DC) Try.underlying25 rfl infoDfa ?_)
    refine (HN1.out _ _ (VA.out _ DC)).mono ?_
    rintro e y1 hnew
    obtain ⟨k1, s1, A1, n1, c1, E1, m1, d1, w1, rfl, N1, W1, R1, V1, D1, L1, Z1⟩ := hnew.laid
    clear hnew Z1
    have B1 := DC.trans (D1.mono DC.size)
    clear DC
    have DC := B1
    clear B1
    go_wp2_with (first
      | (refine wpList_store_row rfl 25 _ _ rfl y1.heap.size #[.int .i64 k1, .int .i64 s1, .slice A1 n1 c1, .slice E1 m1 d1] rfl rfl 25 _ N1 infoDfa rfl (slices_one _ _ _ _ _ _ _ _) ?_)
      | (refine at_slot 23 rfl ?_; rw [W1.out]; refine load_row rfl 25 _ rfl w.heap.size rfl (RA.out _ DC) Try.underlying25 rfl infoDfa ?_))
    refine (HRR.out _ _ (VA.out _ DC)).mono ?_
    rintro e v13 ⟨rfl, hb13⟩
    have C13 := DC.trans (hb13.mono DC.size)
    clear DC
    have DC := C13
    clear C13
    have R2 := R1.stays hb13
    have V2 := V1.out.stays hb13
    clear hb13 R1
    go_wp2_with (first
      | (refine at_slot 29 rfl ?_; refine load_row rfl 25 _ rfl y1.heap.size rfl R2 Try.underlying25 rfl infoDfa ?_))
    refine (HZC.out _ _ V2).mono ?_
    rintro e v14 ⟨rfl, hb14⟩
    have C14 := DC.trans (hb14.mono DC.size)
    clear DC
    have DC := C14
    clear C14
    go_wp2
    go_ret
    exact ⟨rfl, HB0.out.trans (DC.mono HB0.out.size)⟩
  · obtain ⟨hka, hm0⟩ := HKA.out f rfl
    have hn12 : f.n ≤ 12 := by rw [← hm0]; exact HNA.out (by trivial)
    have hnn : f.n * f.n ≤ 144 := Au.mul_few hn12 hn12
    have HN1 := Lib.hid (not_as hf)
    have HN2 := Lib.hid (not_as (Au.not_sound hf))
    rw [Au.not_not] at HN2
    have HR1 := Lib.hid (right_as (Au.not_sound hf))
    have HR2 := Lib.hid (right_as hf)
    have HLK := Lib.hid (fun V U W h h' => refLike_calls V U f W h h' hf (by omega))
    have HSY : Hid (∀ U W, Nums W U x → Calls Try.prog 20 #[.int .i64 ka, U] W fun e w' => e = .returned (.bool (Au.syms f.k x)) ∧ w' = W) := Lib.hid (fun U W h => by
      have := refSyms_calls ka U x W h HXL.out
      rw [hka] at this ⊢
      exact this)
    obtain ⟨td, htd⟩ : ∃ t, (Au.Dv.of f).tells x = t := ⟨_, rfl⟩
    have HTD := Lib.hid (tells_as htd HXL.out)
    have htx := Au.not_tells hf x
    rw [htd] at htx
    have hmm : (Au.Dv.of (Au.notFa f)).acc.length = m0 := by rw [hm0]; exact Au.not_n f
    have HMM := Lib.hid hmm
    have HTX := Lib.hid htx
    clear HOA HNT HKA HNA hka hm0 hn12 hnn htd htx hmm hf HRR
    go_wp2_with (refine at_slot 19 rfl ?_; refine load_row rfl 25 _ rfl w.heap.size rfl (RA.out _ DC) Try.underlying25 rfl infoDfa ?_)
    refine (HN1.out _ _ (VA.out _ DC)).mono ?_
    rintro e y1 hnew
    obtain ⟨k1, s1, A1, n1, c1, E1, m1, d1, w1, rfl, N1, W1, R1, V1, D1, L1, Z1⟩ := hnew.laid
    clear hnew Z1
    have B1 := DC.trans (D1.mono DC.size)
    clear DC
    have DC := B1
    clear B1
    go_wp2_with (first
      | (refine wpList_store_row rfl 25 _ _ rfl y1.heap.size #[.int .i64 k1, .int .i64 s1, .slice A1 n1 c1, .slice E1 m1 d1] rfl rfl 25 _ N1 infoDfa rfl (slices_one _ _ _ _ _ _ _ _) ?_)
      | (refine at_slot 23 rfl ?_; rw [W1.out]; refine load_row rfl 25 _ rfl w.heap.size rfl (RA.out _ DC) Try.underlying25 rfl infoDfa ?_))
    refine (HR2.out _ _ (VA.out _ DC)).mono ?_
    rintro e v13 ⟨rfl, hb13⟩
    have C13 := DC.trans (hb13.mono DC.size)
    clear DC
    have DC := C13
    clear C13
    have R3 := R1.stays hb13
    have V3 := Lib.hid (V1.out.stays hb13)
    clear hb13 R1 V1
    go_wp2_with (first
      | (refine at_slot 33 rfl ?_; refine load_row rfl 25 _ rfl y1.heap.size rfl R3 Try.underlying25 rfl infoDfa ?_))
    refine (HN2.out _ _ V3.out).mono ?_
    rintro e y2 hnew
    obtain ⟨k2, s2, A2, n2, c2, E2, m2, d2, w2, rfl, N2, W2, R2, V2, D2, L2, Z2⟩ := hnew.laid
    clear hnew Z2
    have B2 := DC.trans (D2.mono DC.size)
    clear DC
    have DC := B2
    clear B2
    have HR4 := Lib.hid (R3.stays D2)
    have HV4 := Lib.hid (V3.out.stays D2)
    clear R3 V3 D2 N1 D1
    go_wp2_with (first
      | (refine wpList_store_row rfl 25 _ _ rfl y2.heap.size #[.int .i64 k2, .int .i64 s2, .slice A2 n2 c2, .slice E2 m2 d2] rfl rfl 25 _ N2 infoDfa rfl (slices_one _ _ _ _ _ _ _ _) ?_)
      | (refine at_slot 44 rfl ?_; rw [W2.out]; refine load_row rfl 25 _ rfl y1.heap.size rfl HR4.out Try.underlying25 rfl infoDfa ?_))
    have RX := Lib.hid (fun W (h : Below w2.heap.size w2 W) => HR4.out.stays h)
    have RY := Lib.hid (fun W (h : Below w2.heap.size w2 W) => R2.stays h)
    have VX := Lib.hid (fun W (h : Below w2.heap.size w2 W) => HV4.out.stays h)
    have VY := Lib.hid (fun W (h : Below w2.heap.size w2 W) => V2.out.stays h)
    have HD2 := Lib.hid DC
    clear DC HR4 HV4 R2 V2
    have DX := Below.refl w2.heap.size w2
    refine (HR1.out _ _ (VX.out _ DX)).mono ?_
    rintro e v15 ⟨rfl, hb⟩
    have DX2 := DX.trans (hb.mono DX.size)
    clear DX hb
    go_wp2_with (first
      | (refine at_slot 49 rfl ?_; refine load_row rfl 25 _ rfl y2.heap.size rfl (RY.out _ DX2) Try.underlying25 rfl infoDfa ?_))
    refine (HR2.out _ _ (VY.out _ DX2)).mono ?_
    rintro e v16 ⟨rfl, hb⟩
    have DX3 := DX2.trans (hb.mono DX2.size)
    clear DX2 hb
    have DC := HD2.out.trans (DX3.mono HD2.out.size)
    have hm1 : m1 = m0 := L1.out.2.trans HMM.out
    subst hm1
    have cx3 := (RX.out _ DX3).cell 3
    have ca3 := (RA.out _ DC).cell 3
    go_wp2_with (first
      | (refine at_slot 63 rfl ?_; refine load_row rfl 25 _ rfl w.heap.size rfl (RA.out _ DC) Try.underlying25 rfl infoDfa ?_)
      | (refine at_slot 64 rfl ?_; refine load_row rfl 25 _ rfl y2.heap.size rfl (RY.out _ DX3) Try.underlying25 rfl infoDfa ?_))
    clear cx3 ca3
    refine (HLK.out _ _ _ (VA.out _ DC) (VY.out _ DX3)).mono ?_
    rintro e v17 ⟨rfl, hb⟩
    have DX4 := DX3.trans (hb.mono DX3.size)
    clear DX3 hb DC
    have DC := HD2.out.trans (DX4.mono HD2.out.size)
    have RX2 := Lib.hid (fun W (h : Below v17.heap.size v17 W) => RX.out W (DX4.trans (h.mono DX4.size)))
    have VX2 := Lib.hid (fun W (h : Below v17.heap.size v17 W) => VX.out W (DX4.trans (h.mono DX4.size)))
    have RA2 := Lib.hid (fun W (h : Below v17.heap.size v17 W) => RA.out W (DC.trans (h.mono DC.size)))
    have VA2 := Lib.hid (fun W (h : Below v17.heap.size v17 W) => VA.out W (DC.trans (h.mono DC.size)))
    have XX2 := Lib.hid (fun W (h : Below v17.heap.size v17 W) => XX.out W (DC.trans (h.mono DC.size)))
    have HDC := Lib.hid DC
    clear DX4 DC RX RY VX VY
    obtain ⟨sy, hsy⟩ : ∃ t, Au.syms f.k x = t := ⟨_, rfl⟩
    rw [hsy] at HSY
    cases sy with
    | false =>
      have HTX2 := Lib.hid (tells_as (show (Au.Dv.of (Au.notFa f)).tells x = false by rw [HTX.out, hsy]; rfl) HXL.out)
      clear hsy
      go_wp2_with fail
      refine region_quiet (C := fun W => Below v17.heap.size v17 W) (by kernel_rfl) (by kernel_rfl) (Below.refl _ _).drew ?_
      refine q_yields (yields_row (by rfl) _ _ rfl _ rfl RX2.out Try.underlying25 rfl infoDfa) ?_
      simp only [Act.put, List.setIfInBounds_toArray, List.set_cons_zero, List.set_cons_succ]
      refine q_yields (v := ?_) (Or.inl ⟨by rfl, ?_⟩) ?_
      rotate_left
      · intro _ _; go_simp; with_reducible rfl
      simp only [Act.put, List.setIfInBounds_toArray, List.set_cons_zero, List.set_cons_succ]
      refine q_call (by rfl) (.bool false) (fun wq hC => by unfold Oper.quietAt; go_simp; exact in_class15 hC (HTX2.out _ _ _ (VX2.out wq hC) (XX2.out wq hC))) ?_
      simp only [Act.put, List.setIfInBounds_toArray, List.set_cons_zero, List.set_cons_succ]
      refine q_yields (v := ?_) (Or.inl ⟨by rfl, ?_⟩) ?_
      rotate_left
      · intro _ _; go_simp; with_reducible rfl
      simp only [Act.put, List.setIfInBounds_toArray, List.set_cons_zero, List.set_cons_succ]
      refine q_yields (v := .int .i64 ka) (Or.inl ⟨by rfl, fun wq hC => by have hcell := (RA2.out wq hC).cell 0; go_simp; try with_reducible rfl⟩) ?_
      simp only [Act.put, List.setIfInBounds_toArray, List.set_cons_zero, List.set_cons_succ]
      refine q_yields (v := ?_) (Or.inl ⟨by rfl, ?_⟩) ?_
      rotate_left
      · intro _ _; go_simp; with_reducible rfl
      simp only [Act.put, List.setIfInBounds_toArray, List.set_cons_zero, List.set_cons_succ]
      refine q_call (by rfl) (.bool false) (fun wq hC => by unfold Oper.quietAt; go_simp; exact is_class15 hC (HSY.out _ _ (XX2.out wq hC))) ?_
      simp only [Act.put, List.setIfInBounds_toArray, List.set_cons_zero, List.set_cons_succ]
      refine q_yields (v := ?_) (Or.inl ⟨by rfl, ?_⟩) ?_
      rotate_left
      · intro _ _; go_simp; with_reducible rfl
      simp only [Act.put, List.setIfInBounds_toArray, List.set_cons_zero, List.set_cons_succ]
      refine q_yields (Or.inr ⟨by rfl, rfl⟩) ?_
      simp only [Act.put, List.setIfInBounds_toArray, List.set_cons_zero, List.set_cons_succ]
      refine q_yields (Or.inr ⟨by rfl, rfl⟩) ?_
      simp only [Act.put, List.setIfInBounds_toArray, List.set_cons_zero, List.set_cons_succ]
      refine q_yields (Or.inr ⟨by rfl, rfl⟩) ?_
      simp only [Act.put, List.setIfInBounds_toArray, List.set_cons_zero, List.set_cons_succ]
      refine q_yields (Or.inr ⟨by rfl, rfl⟩) ?_
      simp only [Act.put, List.setIfInBounds_toArray, List.set_cons_zero, List.set_cons_succ]
      refine q_yields (v := ?_) (Or.inl ⟨by rfl, ?_⟩) ?_
      rotate_left
      · intro _ _; go_simp; with_reducible rfl
      simp only [Act.put, List.setIfInBounds_toArray, List.set_cons_zero, List.set_cons_succ]
      refine q_yields (v := ?_) (Or.inl ⟨by rfl, ?_⟩) ?_
      rotate_left
      · intro _ _; go_simp; with_reducible rfl
      simp only [Act.put, List.setIfInBounds_toArray, List.set_cons_zero, List.set_cons_succ]
      refine q_yields (v := ?_) (Or.inl ⟨by rfl, ?_⟩) ?_
      rotate_left
      · intro _ _; go_simp; with_reducible rfl
      simp only [Act.put, List.setIfInBounds_toArray, List.set_cons_zero, List.set_cons_succ]
      refine wpQuiet_nil ?_
      intro w' hC
      go_wp2
      go_ret
      exact ⟨rfl, HB0.out.trans ((HDC.out.trans (hC.mono HDC.out.size)).mono HB0.out.size)⟩
    | true =>
      have HTX2 := Lib.hid (tells_as (show (Au.Dv.of (Au.notFa f)).tells x = !td by rw [HTX.out, hsy]; rfl) HXL.out)
      clear hsy
      go_wp2_with fail
      refine region_quiet (C := fun W => Below v17.heap.size v17 W) (by kernel_rfl) (by kernel_rfl) (Below.refl _ _).drew ?_
      refine q_yields (yields_row (by rfl) _ _ rfl _ rfl RX2.out Try.underlying25 rfl infoDfa) ?_
      simp only [Act.put, List.setIfInBounds_toArray, List.set_cons_zero, List.set_cons_succ]
      refine q_yields (v := ?_) (Or.inl ⟨by rfl, ?_⟩) ?_
      rotate_left
      · intro _ _; go_simp; with_reducible rfl
      simp only [Act.put, List.setIfInBounds_toArray, List.set_cons_zero, List.set_cons_succ]
      refine q_call (by rfl) (.bool (!td)) (fun wq hC => by unfold Oper.quietAt; go_simp; exact in_class15 hC (HTX2.out _ _ _ (VX2.out wq hC) (XX2.out wq hC))) ?_
      simp only [Act.put, List.setIfInBounds_toArray, List.set_cons_zero, List.set_cons_succ]
      refine q_yields (v := ?_) (Or.inl ⟨by rfl, ?_⟩) ?_
      rotate_left
      · intro _ _; go_simp; with_reducible rfl
      simp only [Act.put, List.setIfInBounds_toArray, List.set_cons_zero, List.set_cons_succ]
      refine q_yields (v := .int .i64 ka) (Or.inl ⟨by rfl, fun wq hC => by have hcell := (RA2.out wq hC).cell 0; go_simp; try with_reducible rfl⟩) ?_
      simp only [Act.put, List.setIfInBounds_toArray, List.set_cons_zero, List.set_cons_succ]
      refine q_yields (v := ?_) (Or.inl ⟨by rfl, ?_⟩) ?_
      rotate_left
      · intro _ _; go_simp; with_reducible rfl
      simp only [Act.put, List.setIfInBounds_toArray, List.set_cons_zero, List.set_cons_succ]
      refine q_call (by rfl) (.bool true) (fun wq hC => by unfold Oper.quietAt; go_simp; exact is_class15 hC (HSY.out _ _ (XX2.out wq hC))) ?_
      simp only [Act.put, List.setIfInBounds_toArray, List.set_cons_zero, List.set_cons_succ]
      refine q_yields (v := ?_) (Or.inl ⟨by rfl, ?_⟩) ?_
      rotate_left
      · intro _ _; go_simp; with_reducible rfl
      simp only [Act.put, List.setIfInBounds_toArray, List.set_cons_zero, List.set_cons_succ]
      refine q_yields (yields_row (by rfl) _ _ rfl _ rfl RA2.out Try.underlying25 rfl infoDfa) ?_
      simp only [Act.put, List.setIfInBounds_toArray, List.set_cons_zero, List.set_cons_succ]
      refine q_yields (v := ?_) (Or.inl ⟨by rfl, ?_⟩) ?_
      rotate_left
      · intro _ _; go_simp; with_reducible rfl
      simp only [Act.put, List.setIfInBounds_toArray, List.set_cons_zero, List.set_cons_succ]
      refine q_call (by rfl) (.bool td) (fun wq hC => by unfold Oper.quietAt; go_simp; exact in_class15 hC (HTD.out _ _ _ (VA2.out wq hC) (XX2.out wq hC))) ?_
      simp only [Act.put, List.setIfInBounds_toArray, List.set_cons_zero, List.set_cons_succ]
      refine q_yields (v := ?_) (Or.inl ⟨by rfl, ?_⟩) ?_
      rotate_left
      · intro _ _; go_simp; with_reducible rfl
      simp only [Act.put, List.setIfInBounds_toArray, List.set_cons_zero, List.set_cons_succ]
      refine q_yields (v := ?_) (Or.inl ⟨by rfl, ?_⟩) ?_
      rotate_left
      · intro _ _; go_simp; with_reducible rfl
      simp only [Act.put, List.setIfInBounds_toArray, List.set_cons_zero, List.set_cons_succ]
      refine q_yields (v := ?_) (Or.inl ⟨by rfl, ?_⟩) ?_
      rotate_left
      · intro _ _; go_simp; with_reducible rfl
      simp only [Act.put, List.setIfInBounds_toArray, List.set_cons_zero, List.set_cons_succ]
      refine q_yields (v := ?_) (Or.inl ⟨by rfl, ?_⟩) ?_
      rotate_left
      · intro _ _; go_simp; with_reducible rfl
      simp only [Act.put, List.setIfInBounds_toArray, List.set_cons_zero, List.set_cons_succ]
      refine wpQuiet_nil ?_
      intro w' hC
      go_wp2
      go_ret
      exact ⟨by cases td <;> rfl, HB0.out.trans ((HDC.out.trans (hC.mono HDC.out.size)).mono HB0.out.size)⟩
end Go.Proofs.Ytdidogcgoghdmaa
