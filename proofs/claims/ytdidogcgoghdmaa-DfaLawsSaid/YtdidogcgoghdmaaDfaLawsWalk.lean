/- The walk of the law DfaLaws. -/
import Derived.Test.YtdidogcgoghdmaaDfaAlive
import Derived.Test.YtdidogcgoghdmaaDfaSmall
import Derived.Test.YtdidogcgoghdmaaDfaLawsPlain
import Derived.Test.YtdidogcgoghdmaaDfaData
import Derived.Test.YtdidogcgoghdmaaQuiet
namespace Go.Proofs.Ytdidogcgoghdmaa
open Go.RowKit
set_option maxRecDepth 100000 in
set_option maxHeartbeats 8000000 in
theorem dlaws_walk {va vb u : Value} (a b : Au.Dv) (x : List Int) (w : World) (ha : Auto w va a) (hb : Auto w vb b) (hx : Nums w u x ∧ x.length ≤ maxLen ∧ ∀ n ∈ x, (Lit.int .i64 n).wf = true) :
    Calls Try.prog 8 #[va, vb, u] w fun e w' => e = .returned (.bool true) ∧ Below w.heap.size w w' := by
  obtain ⟨hx, hxl, _⟩ := hx
  have HAL := Lib.hid alive_calls15
  have HGA := Lib.hid (fun V W h => great_calls15 V a W h)
  have HGB := Lib.hid (fun V W h => great_calls15 V b W h)
  have HRA := Lib.hid (fun V W h => dright_calls V a W h)
  have HRB := Lib.hid (fun V W h => dright_calls V b W h)
  obtain ⟨U, cu, rfl⟩ := hx.slice
  obtain ⟨A, c, A', c', rfl, _, _⟩ := ha.parts
  obtain ⟨B, d, B', d', rfl, _, _⟩ := hb.parts
  have HX := Lib.hid hx
  have HXL := Lib.hid hxl
  have HVA := Lib.hid ha
  have HVB := Lib.hid hb
  have EKA : Hid (∀ f, a = Au.Dv.of f → a.k = (f.k : Int)) := Lib.hid (fun f h => by rw [h]; rfl)
  have EKB : Hid (∀ f, b = Au.Dv.of f → b.k = (f.k : Int)) := Lib.hid (fun f h => by rw [h]; rfl)
  have HNA : Hid (a.great = false → a.acc.length ≤ 12) := Lib.hid (fun h => (Au.great_no h).1)
  have HNB : Hid (b.great = false → b.acc.length ≤ 12) := Lib.hid (fun h => (Au.great_no h).1)
  have HOA : Hid (a.right = true → ∃ f, a = Au.Dv.of f ∧ Au.Sound f) := Lib.hid (fun h => by
    rcases Au.ok_cases a with ⟨h1, _⟩ | h1
    · rw [h] at h1; exact absurd h1 (by decide)
    · exact h1)
  have HOB : Hid (b.right = true → ∃ f, b = Au.Dv.of f ∧ Au.Sound f) := Lib.hid (fun h => by
    rcases Au.ok_cases b with ⟨h1, _⟩ | h1
    · rw [h] at h1; exact absurd h1 (by decide)
    · exact h1)
  have HMA : Hid (∀ f, a = Au.Dv.of f → a.acc.length = f.n) := Lib.hid (fun f h => by rw [h]; rfl)
  have HMB : Hid (∀ f, b = Au.Dv.of f → b.acc.length = f.n) := Lib.hid (fun f h => by rw [h]; rfl)
  clear ha hb hx
  have HXL0 := Lib.hid hxl
  obtain ⟨nx, hnx⟩ : ∃ nx, x.length = nx := ⟨_, rfl⟩
  rw [hnx] at hxl HX ⊢
  clear hnx HXL
  generalize a.next.length = n1 at *
  generalize b.next.length = n2 at *
  generalize a.acc.length = m1 at *
  generalize b.acc.length = m2 at *
  generalize a.k = ka at *
  generalize b.k = kb at *
  generalize a.start = sa at *
  generalize b.start = sb at *
  generalize a.great = ga at *
  generalize b.great = gb at *
  generalize a.right = ra at *
  generalize b.right = rb at *
  have R0 := (Row.new w 25 #[.int .i64 ka, .int .i64 sa, .slice A n1 c, .slice A' m1 c']).alloc (.cells #[.int .i64 kb, .int .i64 sb, .slice B n2 d, .slice B' m2 d'] 25)
  have S0 : Row ((w.alloc (.cells #[.int .i64 ka, .int .i64 sa, .slice A n1 c, .slice A' m1 c'] 25)).alloc (.cells #[.int .i64 kb, .int .i64 sb, .slice B n2 d, .slice B' m2 d'] 25)) (w.heap.size + 1) 25 #[.int .i64 kb, .int .i64 sb, .slice B n2 d, .slice B' m2 d'] := row_next (by simp)
  have C0 := ((Below.refl w.heap.size w).alloc (Nat.le_refl _) (.cells #[.int .i64 ka, .int .i64 sa, .slice A n1 c, .slice A' m1 c'] 25)).alloc (by simp) (.cells #[.int .i64 kb, .int .i64 sb, .slice B n2 d, .slice B' m2 d'] 25)
  go_enter Try.func8, Try.ntmps8
  go_wp2_with fail
  generalize (w.alloc (.cells #[.int .i64 ka, .int .i64 sa, .slice A n1 c, .slice A' m1 c'] 25)).alloc (.cells #[.int .i64 kb, .int .i64 sb, .slice B n2 d, .slice B' m2 d'] 25) = w0 at *
  have RA := Lib.hid (fun W (h : Below w0.heap.size w0 W) => R0.stays h)
  have RB := Lib.hid (fun W (h : Below w0.heap.size w0 W) => S0.stays h)
  have VA := Lib.hid (fun W (h : Below w0.heap.size w0 W) => HVA.out.later (C0.trans (h.mono C0.size)) (Nat.le_refl _))
  have VB := Lib.hid (fun W (h : Below w0.heap.size w0 W) => HVB.out.later (C0.trans (h.mono C0.size)) (Nat.le_refl _))
  have XX := Lib.hid (fun W (h : Below w0.heap.size w0 W) => HX.out.later (C0.trans (h.mono C0.size)) (Nat.le_refl _))
  have HB0 := Lib.hid C0
  have DC := Below.refl w0.heap.size w0
  clear R0 S0 C0 HX
  refine (HAL.out _).mono ?_
  rintro e v1 ⟨rfl, hb1⟩
  have C1 := DC.trans (hb1.mono DC.size)
  clear DC hb1
  have DC := C1
  clear C1
  go_wp2_with (refine at_slot 23 rfl ?_; refine load_row rfl 25 _ rfl w.heap.size rfl (RA.out _ DC) Try.underlying25 rfl infoDfa ?_)
  refine (HGA.out _ _ (VA.out _ DC)).mono ?_
  rintro e v2 ⟨rfl, hb2⟩
  have C2 := DC.trans (hb2.mono DC.size)
  clear DC hb2
  have DC := C2
  clear C2
  cases ga with
  | true =>
    go_wp2
    go_ret
    exact ⟨rfl, HB0.out.trans (DC.mono HB0.out.size)⟩
  | false =>
  go_wp2_with (refine at_slot 26 rfl ?_; refine load_row rfl 25 _ rfl (w.heap.size + 1) rfl (RB.out _ DC) Try.underlying25 rfl infoDfa ?_)
  refine (HGB.out _ _ (VB.out _ DC)).mono ?_
  rintro e v3 ⟨rfl, hb3⟩
  have C3 := DC.trans (hb3.mono DC.size)
  clear DC hb3
  have DC := C3
  clear C3
  cases gb with
  | true =>
    go_wp2
    go_ret
    exact ⟨rfl, HB0.out.trans (DC.mono HB0.out.size)⟩
  | false =>
  go_wp2_with (refine at_slot 30 rfl ?_; refine load_row rfl 25 _ rfl w.heap.size rfl (RA.out _ DC) Try.underlying25 rfl infoDfa ?_)
  refine (HRA.out _ _ (VA.out _ DC)).mono ?_
  rintro e v4 ⟨rfl, hb4⟩
  have C4 := DC.trans (hb4.mono DC.size)
  clear DC hb4
  have DC := C4
  clear C4
  cases ra with
  | false =>
    go_wp2
    go_ret
    exact ⟨rfl, HB0.out.trans (DC.mono HB0.out.size)⟩
  | true =>
  go_wp2_with (refine at_slot 35 rfl ?_; refine load_row rfl 25 _ rfl (w.heap.size + 1) rfl (RB.out _ DC) Try.underlying25 rfl infoDfa ?_)
  refine (HRB.out _ _ (VB.out _ DC)).mono ?_
  rintro e v5 ⟨rfl, hb5⟩
  have C5 := DC.trans (hb5.mono DC.size)
  clear DC hb5
  have DC := C5
  clear C5
  cases rb with
  | false =>
    go_wp2
    go_ret
    exact ⟨rfl, HB0.out.trans (DC.mono HB0.out.size)⟩
  | true =>
  have ca := (RA.out _ DC).cell 0
  have cb := (RB.out _ DC).cell 0
  by_cases hk : ¬ ka = kb
  · have e1 : (ka != kb) = true := by rw [bne_iff_ne]; exact hk
    clear hk
    go_wp2
    go_ret
    exact ⟨rfl, HB0.out.trans (DC.mono HB0.out.size)⟩
  have hk := Classical.not_not.1 hk
  subst hk
  by_cases h1 : (200 : Int) < (nx : Int)
  · have e2 : decide ((200 : Int) < (nx : Int)) = true := decide_eq_true h1
    go_wp2
    go_ret
    exact ⟨rfl, HB0.out.trans (DC.mono HB0.out.size)⟩
  have e2 : decide ((200 : Int) < (nx : Int)) = false := decide_eq_false h1
  obtain ⟨fa, rfl, hfa⟩ := HOA.out (by trivial)
  obtain ⟨fb, rfl, hfb⟩ := HOB.out (by trivial)
  have na : fa.n ≤ 12 := (HMA.out fa rfl) ▸ HNA.out (by trivial)
  have nb : fb.n ≤ 12 := (HMB.out fb rfl) ▸ HNB.out (by trivial)
  have hk : fa.k = fb.k := by
    have h1 := EKA.out fa rfl
    have h2 := EKB.out fb rfl
    omega
  have nab : fa.n * fb.n ≤ 144 := Au.mul_few na nb
  have nba : fb.n * fa.n ≤ 144 := Au.mul_few nb na
  have HN1 := Lib.hid (not_as hfa)
  have HN2 := Lib.hid (not_as hfb)
  have HE1 := Lib.hid (either_as (Au.not_sound hfa) (Au.not_sound hfb) hk (by rw [Au.not_n, Au.not_n]; omega))
  have HBB := Lib.hid (both_as hfb hfa hk.symm (by omega))
  have HLL := Lib.hid (less_as hfa hfb hk (by omega))
  have HFA := Lib.hid hfa
  have HFB := Lib.hid hfb
  have HK := Lib.hid hk
  have HAB := Lib.hid nab
  have HBA := Lib.hid nba
  clear h1 hfa hfb na nb hk nab nba EKA EKB HNA HNB HOA HOB HMA HMB
  go_wp2_with (first
    | (refine at_slot 52 rfl ?_; refine load_row rfl 25 _ rfl w.heap.size rfl (RA.out _ DC) Try.underlying25 rfl infoDfa ?_)
    )
  refine (HN1.out _ _ (VA.out _ DC)).mono ?_
  rintro e y1 hnew
  obtain ⟨k1, s1, A1, n1, c1, E1, m1, d1, w1, rfl, N1, W1, R1, V1, D1, L1, Z1⟩ := hnew.laid
  clear hnew L1 Z1
  have B1 := DC.trans (D1.mono DC.size)
  clear DC
  have DC := B1
  clear B1
  go_wp2_with (first
    | (refine wpList_store_row rfl 25 _ _ rfl y1.heap.size #[.int .i64 k1, .int .i64 s1, .slice A1 n1 c1, .slice E1 m1 d1] rfl rfl 25 _ N1 infoDfa rfl (slices_one _ _ _ _ _ _ _ _) ?_)
    | (refine at_slot 57 rfl ?_; rw [W1.out]; refine load_row rfl 25 _ rfl (w.heap.size + 1) rfl (RB.out _ DC) Try.underlying25 rfl infoDfa ?_)
    )
  refine (HN2.out _ _ (VB.out _ DC)).mono ?_
  rintro e y2 hnew
  obtain ⟨k2, s2, A2, n2, c2, E2, m2, d2, w2, rfl, N2, W2, R2, V2, D2, L2, Z2⟩ := hnew.laid
  clear hnew L2 Z2
  have B2 := DC.trans (D2.mono DC.size)
  clear DC
  have DC := B2
  clear B2
  clear ca cb
  go_wp2_with (first
    | (refine wpList_store_row rfl 25 _ _ rfl y2.heap.size #[.int .i64 k2, .int .i64 s2, .slice A2 n2 c2, .slice E2 m2 d2] rfl rfl 25 _ N2 infoDfa rfl (slices_one _ _ _ _ _ _ _ _) ?_)
    | (refine at_slot 62 rfl ?_; rw [W2.out]; refine load_row rfl 25 _ rfl y1.heap.size rfl (R1.stays D2) Try.underlying25 rfl infoDfa ?_)
    | (refine at_slot 63 rfl ?_; refine load_row rfl 25 _ rfl y2.heap.size rfl (R2) Try.underlying25 rfl infoDfa ?_)
    )
  refine (HE1.out _ _ _ (V1.out.stays D2) V2.out).mono ?_
  rintro e y3 ⟨fo, lo, ho, hnew⟩
  obtain ⟨k3, s3, A3, n3, c3, E3, m3, d3, w3, rfl, N3, W3, R3, V3, D3, L3, Z3⟩ := hnew.laid
  clear hnew L3 Z3
  have B3 := DC.trans (D3.mono DC.size)
  clear DC
  have DC := B3
  clear B3
  clear R1 R2 V1 V2 D2 N2 N1 D1
  have HN3 := Lib.hid (not_as ho.1.toSound)
  have HO := Lib.hid ho.1
  clear ho
  go_wp2_with (first
    | (refine wpList_store_row rfl 25 _ _ rfl y3.heap.size #[.int .i64 k3, .int .i64 s3, .slice A3 n3 c3, .slice E3 m3 d3] rfl rfl 25 _ N3 infoDfa rfl (slices_one _ _ _ _ _ _ _ _) ?_)
    | (refine at_slot 68 rfl ?_; rw [W3.out]; refine load_row rfl 25 _ rfl y3.heap.size rfl (R3) Try.underlying25 rfl infoDfa ?_)
    )
  refine (HN3.out _ _ V3.out).mono ?_
  rintro e y4 hnew
  obtain ⟨k4, s4, A4, n4, c4, E4, m4, d4, w4, rfl, N4, W4, R4, V4, D4, L4, Z4⟩ := hnew.laid
  clear hnew L4 Z4
  have B4 := DC.trans (D4.mono DC.size)
  clear DC
  have DC := B4
  clear B4
  clear R3 V3 D3 N3
  go_wp2_with (first
    | (refine wpList_store_row rfl 25 _ _ rfl y4.heap.size #[.int .i64 k4, .int .i64 s4, .slice A4 n4 c4, .slice E4 m4 d4] rfl rfl 25 _ N4 infoDfa rfl (slices_one _ _ _ _ _ _ _ _) ?_)
    | (refine at_slot 73 rfl ?_; rw [W4.out]; refine load_row rfl 25 _ rfl (w.heap.size + 1) rfl (RB.out _ DC) Try.underlying25 rfl infoDfa ?_)
    | (refine at_slot 74 rfl ?_; refine load_row rfl 25 _ rfl w.heap.size rfl (RA.out _ DC) Try.underlying25 rfl infoDfa ?_)
    )
  refine (HBB.out _ _ _ (VB.out _ DC) (VA.out _ DC)).mono ?_
  rintro e y5 ⟨fx, lx, hx, hnew⟩
  obtain ⟨k5, s5, A5, n5, c5, E5, m5, d5, w5, rfl, N5, W5, R5, V5, D5, L5, Z5⟩ := hnew.laid
  clear hnew L5 Z5
  have B5 := DC.trans (D5.mono DC.size)
  clear DC
  have DC := B5
  clear B5
  clear N4
  go_wp2_with (first
    | (refine wpList_store_row rfl 25 _ _ rfl y5.heap.size #[.int .i64 k5, .int .i64 s5, .slice A5 n5 c5, .slice E5 m5 d5] rfl rfl 25 _ N5 infoDfa rfl (slices_one _ _ _ _ _ _ _ _) ?_)
    | (refine at_slot 79 rfl ?_; rw [W5.out]; refine load_row rfl 25 _ rfl w.heap.size rfl (RA.out _ DC) Try.underlying25 rfl infoDfa ?_)
    | (refine at_slot 80 rfl ?_; refine load_row rfl 25 _ rfl (w.heap.size + 1) rfl (RB.out _ DC) Try.underlying25 rfl infoDfa ?_)
    )
  refine (HLL.out _ _ _ (VA.out _ DC) (VB.out _ DC)).mono ?_
  rintro e y6 ⟨fy, ly, hy, hnew⟩
  obtain ⟨k6, s6, A6, n6, c6, E6, m6, d6, w6, rfl, N6, W6, R6, V6, D6, L6, Z6⟩ := hnew.laid
  clear hnew L6 Z6
  have B6 := DC.trans (D6.mono DC.size)
  clear DC
  have DC := B6
  clear B6
  clear N5
  have HE2 := Lib.hid (either_as hy.1.toSound hx.1.toSound (by rw [show fy.k = fa.k from hy.1.kk, show fx.k = fb.k from hx.1.kk]; exact HK.out) (by
    have := Au.mul_few (Nat.le_trans hy.2 HAB.out) (Nat.le_trans hx.2 HBA.out)
    omega))
  have HFX := Lib.hid hx.1
  have HFY := Lib.hid hy.1
  clear hx hy
  go_wp2_with (first
    | (refine wpList_store_row rfl 25 _ _ rfl y6.heap.size #[.int .i64 k6, .int .i64 s6, .slice A6 n6 c6, .slice E6 m6 d6] rfl rfl 25 _ N6 infoDfa rfl (slices_one _ _ _ _ _ _ _ _) ?_)
    | (refine at_slot 85 rfl ?_; rw [W6.out]; refine load_row rfl 25 _ rfl y6.heap.size rfl (R6) Try.underlying25 rfl infoDfa ?_)
    | (refine at_slot 86 rfl ?_; refine load_row rfl 25 _ rfl y5.heap.size rfl (R5.stays D6) Try.underlying25 rfl infoDfa ?_)
    )
  refine (HE2.out _ _ _ V6.out (V5.out.stays D6)).mono ?_
  rintro e y7 ⟨fz, lz, hz, hnew⟩
  obtain ⟨k7, s7, A7, n7, c7, E7, m7, d7, w7, rfl, N7, W7, R7, V7, D7, L7, Z7⟩ := hnew.laid
  clear hnew L7 Z7
  have B7 := DC.trans (D7.mono DC.size)
  clear DC
  have DC := B7
  clear B7
  clear N6
  have HFZ := Lib.hid hz.1
  clear hz
  have hti := Au.laws_in HFA.out HFB.out HK.out HO.out HFX.out x
  have hta := Au.laws_all HFA.out HFB.out HK.out HFY.out HFX.out HFZ.out x
  generalize htx : (Au.Dv.of fx).tells x = tx at *
  generalize htA : (Au.Dv.of fa).tells x = ta at *
  have HTI := Lib.hid (told_as hti HXL0.out)
  have HTX := Lib.hid (told_as htx HXL0.out)
  have HTZ := Lib.hid (told_as hta HXL0.out)
  have HTA := Lib.hid (told_as htA HXL0.out)
  have RI := Lib.hid (fun W (h : Below w7.heap.size w7 W) => (((R4.stays D5).stays D6).stays D7).stays h)
  have RX := Lib.hid (fun W (h : Below w7.heap.size w7 W) => ((R5.stays D6).stays D7).stays h)
  have RZ := Lib.hid (fun W (h : Below w7.heap.size w7 W) => R7.stays h)
  have RAA := Lib.hid (fun W (h : Below w7.heap.size w7 W) => RA.out W (DC.trans (h.mono DC.size)))
  have VI := Lib.hid (fun W (h : Below w7.heap.size w7 W) => (((V4.out.stays D5).stays D6).stays D7).stays h)
  have VX := Lib.hid (fun W (h : Below w7.heap.size w7 W) => ((V5.out.stays D6).stays D7).stays h)
  have VZ := Lib.hid (fun W (h : Below w7.heap.size w7 W) => V7.out.stays h)
  have VAA := Lib.hid (fun W (h : Below w7.heap.size w7 W) => VA.out W (DC.trans (h.mono DC.size)))
  have XA := Lib.hid (fun W (h : Below w7.heap.size w7 W) => XX.out W (DC.trans (h.mono DC.size)))
  have HDC := Lib.hid DC
  clear R4 R5 R6 R7 D4 D5 D6 D7 V4 V5 V6 V7 DC hti hta htx htA
  go_wp2_with (first
    | (refine wpList_store_row rfl 25 _ _ rfl y7.heap.size #[.int .i64 k7, .int .i64 s7, .slice A7 n7 c7, .slice E7 m7 d7] rfl rfl 25 _ N7 infoDfa rfl (slices_one _ _ _ _ _ _ _ _) ?_)
    )
  rw [W7.out]
  refine region_quiet (C := fun W => Below w7.heap.size w7 W) (by kernel_rfl) (by kernel_rfl) (Below.refl _ _).drew ?_
  refine q_yields (v := ?_) (Or.inl ⟨by rfl, ?_⟩) ?_
  rotate_left
  · intro _ _; go_simp; with_reducible rfl
  simp only [Act.put, List.setIfInBounds_toArray, List.set_cons_zero, List.set_cons_succ]
  refine q_yields (v := ?_) (Or.inl ⟨by rfl, ?_⟩) ?_
  rotate_left
  · intro _ _; go_simp; with_reducible rfl
  simp only [Act.put, List.setIfInBounds_toArray, List.set_cons_zero, List.set_cons_succ]
  refine q_yields (v := ?_) (Or.inl ⟨by rfl, ?_⟩) ?_
  rotate_left
  · intro _ _; go_simp; with_reducible rfl
  simp only [Act.put, List.setIfInBounds_toArray, List.set_cons_zero, List.set_cons_succ]
  refine q_yields (yields_row (by rfl) _ _ rfl _ rfl RI.out Try.underlying25 rfl infoDfa) ?_
  simp only [Act.put, List.setIfInBounds_toArray, List.set_cons_zero, List.set_cons_succ]
  refine q_yields (v := ?_) (Or.inl ⟨by rfl, ?_⟩) ?_
  rotate_left
  · intro _ _; go_simp; with_reducible rfl
  simp only [Act.put, List.setIfInBounds_toArray, List.set_cons_zero, List.set_cons_succ]
  refine q_call (by rfl) (.bool tx) (fun wq hC => by unfold Oper.quietAt; go_simp; exact in_class15 hC (HTI.out _ _ _ (VI.out wq hC) (XA.out wq hC))) ?_
  simp only [Act.put, List.setIfInBounds_toArray, List.set_cons_zero, List.set_cons_succ]
  refine q_yields (yields_row (by rfl) _ _ rfl _ rfl RX.out Try.underlying25 rfl infoDfa) ?_
  simp only [Act.put, List.setIfInBounds_toArray, List.set_cons_zero, List.set_cons_succ]
  refine q_yields (v := ?_) (Or.inl ⟨by rfl, ?_⟩) ?_
  rotate_left
  · intro _ _; go_simp; with_reducible rfl
  simp only [Act.put, List.setIfInBounds_toArray, List.set_cons_zero, List.set_cons_succ]
  refine q_call (by rfl) (.bool tx) (fun wq hC => by unfold Oper.quietAt; go_simp; exact in_class15 hC (HTX.out _ _ _ (VX.out wq hC) (XA.out wq hC))) ?_
  simp only [Act.put, List.setIfInBounds_toArray, List.set_cons_zero, List.set_cons_succ]
  refine q_yields (v := ?_) (Or.inl ⟨by rfl, ?_⟩) ?_
  rotate_left
  · intro _ _; go_simp; with_reducible rfl
  simp only [Act.put, List.setIfInBounds_toArray, List.set_cons_zero, List.set_cons_succ]
  refine q_yields (v := ?_) (Or.inl ⟨by rfl, ?_⟩) ?_
  rotate_left
  · intro _ _; go_simp; with_reducible rfl
  simp only [Act.put, List.setIfInBounds_toArray, List.set_cons_zero, List.set_cons_succ]
  refine q_yields (v := ?_) (Or.inl ⟨by rfl, ?_⟩) ?_
  rotate_left
  · intro _ _; go_simp; with_reducible rfl
  simp only [Act.put, List.setIfInBounds_toArray, List.set_cons_zero, List.set_cons_succ]
  refine q_yields (yields_row (by rfl) _ _ rfl _ rfl RZ.out Try.underlying25 rfl infoDfa) ?_
  simp only [Act.put, List.setIfInBounds_toArray, List.set_cons_zero, List.set_cons_succ]
  refine q_yields (v := ?_) (Or.inl ⟨by rfl, ?_⟩) ?_
  rotate_left
  · intro _ _; go_simp; with_reducible rfl
  simp only [Act.put, List.setIfInBounds_toArray, List.set_cons_zero, List.set_cons_succ]
  refine q_call (by rfl) (.bool ta) (fun wq hC => by unfold Oper.quietAt; go_simp; exact in_class15 hC (HTZ.out _ _ _ (VZ.out wq hC) (XA.out wq hC))) ?_
  simp only [Act.put, List.setIfInBounds_toArray, List.set_cons_zero, List.set_cons_succ]
  refine q_yields (yields_row (by rfl) _ _ rfl _ rfl RAA.out Try.underlying25 rfl infoDfa) ?_
  simp only [Act.put, List.setIfInBounds_toArray, List.set_cons_zero, List.set_cons_succ]
  refine q_yields (v := ?_) (Or.inl ⟨by rfl, ?_⟩) ?_
  rotate_left
  · intro _ _; go_simp; with_reducible rfl
  simp only [Act.put, List.setIfInBounds_toArray, List.set_cons_zero, List.set_cons_succ]
  refine q_call (by rfl) (.bool ta) (fun wq hC => by unfold Oper.quietAt; go_simp; exact in_class15 hC (HTA.out _ _ _ (VAA.out wq hC) (XA.out wq hC))) ?_
  simp only [Act.put, List.setIfInBounds_toArray, List.set_cons_zero, List.set_cons_succ]
  refine q_yields (v := ?_) (Or.inl ⟨by rfl, ?_⟩) ?_
  rotate_left
  · intro _ _; go_simp; with_reducible rfl
  simp only [Act.put, List.setIfInBounds_toArray, List.set_cons_zero, List.set_cons_succ]
  refine q_yields (v := ?_) (Or.inl ⟨by rfl, ?_⟩) ?_
  rotate_left
  · intro _ _; go_simp; with_reducible rfl
  simp only [Act.put, List.setIfInBounds_toArray, List.set_cons_zero, List.set_cons_succ]
  refine q_yields (v := ?_) (Or.inl ⟨by rfl, ?_⟩) ?_
  rotate_left
  · intro _ _; go_simp; with_reducible rfl
  simp only [Act.put, List.setIfInBounds_toArray, List.set_cons_zero, List.set_cons_succ]
  refine wpQuiet_nil ?_
  intro w' hC
  go_wp2
  go_ret
  exact ⟨rfl, HB0.out.trans ((HDC.out.trans (hC.mono HDC.out.size)).mono HB0.out.size)⟩
end Go.Proofs.Ytdidogcgoghdmaa
