/- The walk of the law DfaBoth. -/
import Derived.Test.YtdidogcgoghdmaaDfaAlive
import Derived.Test.YtdidogcgoghdmaaLawMade15
import Derived.Test.YtdidogcgoghdmaaDfaLawsPlain
import Derived.Test.YtdidogcgoghdmaaDfaData
namespace Go.Proofs.Ytdidogcgoghdmaa
open Go.RowKit
theorem and_calls (x y : Bool) (W : World) : Calls Try.prog 26 #[.bool x, .bool y] W fun e w' => e = .returned (.bool (x && y)) ∧ w' = W := by
  cases x <;> cases y
  all_goals
    go_enter Try.func26, Try.ntmps26
    go_wp2
    go_ret
    exact ⟨rfl, rfl⟩
theorem or_calls (x y : Bool) (W : World) : Calls Try.prog 27 #[.bool x, .bool y] W fun e w' => e = .returned (.bool (x || y)) ∧ w' = W := by
  cases x <;> cases y
  all_goals
    go_enter Try.func27, Try.ntmps27
    go_wp2
    go_ret
    exact ⟨rfl, rfl⟩
theorem less_calls15 (x y : Bool) (W : World) : Calls Try.prog 28 #[.bool x, .bool y] W fun e w' => e = .returned (.bool (x && !y)) ∧ w' = W := by
  cases x <;> cases y
  all_goals
    go_enter Try.func28, Try.ntmps28
    go_wp2
    go_ret
    exact ⟨rfl, rfl⟩
theorem and_enters : ∀ args w, (callFunc 26 args).run Try.prog w = .ok (.enter 26 args) w := enters_of Try.func26 (by kernel_rfl) rfl
theorem or_enters : ∀ args w, (callFunc 27 args).run Try.prog w = .ok (.enter 27 args) w := enters_of Try.func27 (by kernel_rfl) rfl
theorem less_enters15 : ∀ args w, (callFunc 28 args).run Try.prog w = .ok (.enter 28 args) w := enters_of Try.func28 (by kernel_rfl) rfl
set_option maxRecDepth 100000 in
set_option maxHeartbeats 16000000 in
theorem dboth_walk {va vb : Value} (a b : Au.Dv) (w : World) (ha : Auto w va a) (hb : Auto w vb b) :
    Calls Try.prog 6 #[va, vb] w fun e w' => e = .returned (.bool true) ∧ Below w.heap.size w w' := by
  have HAL := Lib.hid alive_calls15
  have HGA := Lib.hid (fun V W h => great_calls15 V a W h)
  have HGB := Lib.hid (fun V W h => great_calls15 V b W h)
  have HRA := Lib.hid (fun V W h => refDRight_calls V a W h)
  have HRB := Lib.hid (fun V W h => refDRight_calls V b W h)
  have HBN := Lib.hid (fun V U W h h' hn => both_no V U a b W h h' hn)
  have HEN := Lib.hid (fun V U W h h' hn => either_no V U a b W h h' hn)
  have HLN := Lib.hid (fun V U W h h' hn => less_no V U a b W h h' hn)
  obtain ⟨A, c, A', c', rfl, _, _⟩ := ha.parts
  obtain ⟨B, d, B', d', rfl, _, _⟩ := hb.parts
  have HVA := Lib.hid ha
  have HVB := Lib.hid hb
  have HKA : Hid (∀ f, a = Au.Dv.of f → a.k = (f.k : Int) ∧ a.acc.length = f.n) := Lib.hid (fun f h => by rw [h]; exact ⟨rfl, rfl⟩)
  have HKB : Hid (∀ f, b = Au.Dv.of f → b.k = (f.k : Int) ∧ b.acc.length = f.n) := Lib.hid (fun f h => by rw [h]; exact ⟨rfl, rfl⟩)
  have HNA : Hid (a.great = false → a.acc.length ≤ 12 ∧ a.k ≤ 9) := Lib.hid (fun h => ⟨(Au.great_no h).1, (Au.great_no h).2.2⟩)
  have HNB : Hid (b.great = false → b.acc.length ≤ 12) := Lib.hid (fun h => (Au.great_no h).1)
  have HOA : Hid ((a.right = false ∧ ¬ Au.Ok a) ∨ (a.right = true ∧ ∃ f, a = Au.Dv.of f ∧ Au.Sound f)) := Lib.hid (by
    rcases Au.ok_cases a with h | ⟨f, h1, h2⟩
    · exact .inl h
    · exact .inr ⟨by rw [h1]; exact Au.right_sound h2, f, h1, h2⟩)
  have HOB : Hid ((b.right = false ∧ ¬ Au.Ok b) ∨ (b.right = true ∧ ∃ f, b = Au.Dv.of f ∧ Au.Sound f)) := Lib.hid (by
    rcases Au.ok_cases b with h | ⟨f, h1, h2⟩
    · exact .inl h
    · exact .inr ⟨by rw [h1]; exact Au.right_sound h2, f, h1, h2⟩)
  clear ha hb
  generalize a.next.length = n1 at *
  generalize b.next.length = n2 at *
  generalize a.acc.length = m1 at *
  generalize b.acc.length = m2 at *
  generalize hka : a.k = ka at *
  generalize hkb : b.k = kb at *
  generalize a.start = sa at *
  generalize b.start = sb at *
  generalize a.great = ga at *
  generalize b.great = gb at *
  generalize a.right = ra at *
  generalize b.right = rb at *
  have HKKA := Lib.hid hka
  have HKKB := Lib.hid hkb
  clear hka hkb
  have R0 := (Row.new w 25 #[.int .i64 ka, .int .i64 sa, .slice A n1 c, .slice A' m1 c']).alloc (.cells #[.int .i64 kb, .int .i64 sb, .slice B n2 d, .slice B' m2 d'] 25)
  have S0 : Row ((w.alloc (.cells #[.int .i64 ka, .int .i64 sa, .slice A n1 c, .slice A' m1 c'] 25)).alloc (.cells #[.int .i64 kb, .int .i64 sb, .slice B n2 d, .slice B' m2 d'] 25)) (w.heap.size + 1) 25 #[.int .i64 kb, .int .i64 sb, .slice B n2 d, .slice B' m2 d'] := row_next (by simp)
  have C0 := ((Below.refl w.heap.size w).alloc (Nat.le_refl _) (.cells #[.int .i64 ka, .int .i64 sa, .slice A n1 c, .slice A' m1 c'] 25)).alloc (by simp) (.cells #[.int .i64 kb, .int .i64 sb, .slice B n2 d, .slice B' m2 d'] 25)
  go_enter Try.func6, Try.ntmps6
  go_wp2_with fail
  generalize (w.alloc (.cells #[.int .i64 ka, .int .i64 sa, .slice A n1 c, .slice A' m1 c'] 25)).alloc (.cells #[.int .i64 kb, .int .i64 sb, .slice B n2 d, .slice B' m2 d'] 25) = w0 at *
  have RA := Lib.hid (fun W (h : Below w0.heap.size w0 W) => R0.stays h)
  have RB := Lib.hid (fun W (h : Below w0.heap.size w0 W) => S0.stays h)
  have VA := Lib.hid (fun W (h : Below w0.heap.size w0 W) => HVA.out.later (C0.trans (h.mono C0.size)) (Nat.le_refl _))
  have VB := Lib.hid (fun W (h : Below w0.heap.size w0 W) => HVB.out.later (C0.trans (h.mono C0.size)) (Nat.le_refl _))
  have HB0 := Lib.hid C0
  have DC := Below.refl w0.heap.size w0
  clear R0 S0 C0
  refine (HAL.out _).mono ?_
  rintro e v21 ⟨rfl, hb21⟩
  have C21 := DC.trans (hb21.mono DC.size)
  clear DC hb21
  have DC := C21
  clear C21
  go_wp2_with (refine at_slot 13 rfl ?_; refine load_row rfl 25 _ rfl w.heap.size rfl (RA.out _ DC) Try.underlying25 rfl infoDfa ?_)
  refine (HGA.out _ _ (VA.out _ DC)).mono ?_
  rintro e v22 ⟨rfl, hb22⟩
  have C22 := DC.trans (hb22.mono DC.size)
  clear DC hb22
  have DC := C22
  clear C22
  cases ga with
  | true =>
    go_wp2
    go_ret
    exact ⟨rfl, HB0.out.trans (DC.mono HB0.out.size)⟩
  | false =>
  go_wp2_with (refine at_slot 16 rfl ?_; refine load_row rfl 25 _ rfl (w.heap.size + 1) rfl (RB.out _ DC) Try.underlying25 rfl infoDfa ?_)
  refine (HGB.out _ _ (VB.out _ DC)).mono ?_
  rintro e v23 ⟨rfl, hb23⟩
  have C23 := DC.trans (hb23.mono DC.size)
  clear DC hb23
  have DC := C23
  clear C23
  cases gb with
  | true =>
    go_wp2
    go_ret
    exact ⟨rfl, HB0.out.trans (DC.mono HB0.out.size)⟩
  | false =>
  by_cases hbad : ¬ (Au.Ok a ∧ Au.Ok b ∧ ka = kb)
  · have HB1 := Lib.hid (fun V U W h h' => HBN.out V U W h h' hbad)
    have HE1 := Lib.hid (fun V U W h h' => HEN.out V U W h h' hbad)
    have HL1 := Lib.hid (fun V U W h h' => HLN.out V U W h h' hbad)
    have HZC := Lib.hid zero_calls15
    have HKNE : Hid (ra = true → rb = true → ka ≠ kb) := Lib.hid (fun h1 h2 h3 => hbad (by
      rcases HOA.out with ⟨k, _⟩ | ⟨_, f, e1, k1⟩
      · rw [h1] at k; cases k
      · rcases HOB.out with ⟨k, _⟩ | ⟨_, g, e2, k2⟩
        · rw [h2] at k; cases k
        · exact ⟨by rw [e1]; exact Au.ok_sound k1, by rw [e2]; exact Au.ok_sound k2, h3⟩))
    clear hbad HBN HEN HLN HOA HOB HKA HKB HNA HNB HKKA HKKB
    go_wp2_with (first
      | (refine at_slot 20 rfl ?_; refine load_row rfl 25 _ rfl w.heap.size rfl (RA.out _ DC) Try.underlying25 rfl infoDfa ?_)
      | (refine at_slot 21 rfl ?_; refine load_row rfl 25 _ rfl (w.heap.size + 1) rfl (RB.out _ DC) Try.underlying25 rfl infoDfa ?_))
    refine (HB1.out _ _ _ (VA.out _ DC) (VB.out _ DC)).mono ?_
    rintro e y1 hnew
    obtain ⟨k1, s1, A1, n1, c1, E1, m1, d1, w1, rfl, N1, W1, R1, V1, D1, L1, Z1⟩ := hnew.laid
    clear hnew Z1 L1
    have B1 := DC.trans (D1.mono DC.size)
    clear DC
    have DC := B1
    clear B1
    go_wp2_with (first
      | (refine wpList_store_row rfl 25 _ _ rfl y1.heap.size #[.int .i64 k1, .int .i64 s1, .slice A1 n1 c1, .slice E1 m1 d1] rfl rfl 25 _ N1 infoDfa rfl (slices_one _ _ _ _ _ _ _ _) ?_)
      | (refine at_slot 26 rfl ?_; rw [W1.out]; refine load_row rfl 25 _ rfl w.heap.size rfl (RA.out _ DC) Try.underlying25 rfl infoDfa ?_)
      | (refine at_slot 27 rfl ?_; refine load_row rfl 25 _ rfl (w.heap.size + 1) rfl (RB.out _ DC) Try.underlying25 rfl infoDfa ?_))
    refine (HE1.out _ _ _ (VA.out _ DC) (VB.out _ DC)).mono ?_
    rintro e y2 hnew
    obtain ⟨k2, s2, A2, n2, c2, E2, m2, d2, w2, rfl, N2, W2, R2, V2, D2, L2, Z2⟩ := hnew.laid
    clear hnew Z2 L2
    have B2 := DC.trans (D2.mono DC.size)
    clear DC
    have DC := B2
    clear B2
    clear N1 W1 D1
    go_wp2_with (first
      | (refine wpList_store_row rfl 25 _ _ rfl y2.heap.size #[.int .i64 k2, .int .i64 s2, .slice A2 n2 c2, .slice E2 m2 d2] rfl rfl 25 _ N2 infoDfa rfl (slices_one _ _ _ _ _ _ _ _) ?_)
      | (refine at_slot 32 rfl ?_; rw [W2.out]; refine load_row rfl 25 _ rfl w.heap.size rfl (RA.out _ DC) Try.underlying25 rfl infoDfa ?_)
      | (refine at_slot 33 rfl ?_; refine load_row rfl 25 _ rfl (w.heap.size + 1) rfl (RB.out _ DC) Try.underlying25 rfl infoDfa ?_))
    refine (HL1.out _ _ _ (VA.out _ DC) (VB.out _ DC)).mono ?_
    rintro e y3 hnew
    obtain ⟨k3, s3, A3, n3, c3, E3, m3, d3, w3, rfl, N3, W3, R3, V3, D3, L3, Z3⟩ := hnew.laid
    clear hnew Z3 L3
    have B3 := DC.trans (D3.mono DC.size)
    clear DC
    have DC := B3
    clear B3
    clear N2 W2
    have RX := Lib.hid (fun W (h : Below w3.heap.size w3 W) => ((R1.stays D2).stays D3).stays h)
    have RY := Lib.hid (fun W (h : Below w3.heap.size w3 W) => (R2.stays D3).stays h)
    have RZ := Lib.hid (fun W (h : Below w3.heap.size w3 W) => R3.stays h)
    have VX := Lib.hid (fun W (h : Below w3.heap.size w3 W) => ((V1.out.stays D2).stays D3).stays h)
    have VY := Lib.hid (fun W (h : Below w3.heap.size w3 W) => (V2.out.stays D3).stays h)
    have VZ := Lib.hid (fun W (h : Below w3.heap.size w3 W) => V3.out.stays h)
    have D03 := Lib.hid DC
    have DX := Below.refl w3.heap.size w3
    clear R1 R2 R3 V1 V2 V3 D2 D3
    go_wp2_with (first
      | (refine wpList_store_row rfl 25 _ _ rfl y3.heap.size #[.int .i64 k3, .int .i64 s3, .slice A3 n3 c3, .slice E3 m3 d3] rfl rfl 25 _ N3 infoDfa rfl (slices_one _ _ _ _ _ _ _ _) ?_)
      | (refine at_slot 37 rfl ?_; rw [W3.out]; refine load_row rfl 25 _ rfl w.heap.size rfl (RA.out _ DC) Try.underlying25 rfl infoDfa ?_))
    refine (HRA.out _ _ (VA.out _ DC)).mono ?_
    clear N3 W3
    rintro e v31 ⟨rfl, hb31⟩
    have C31 := DX.trans (hb31.mono DX.size)
    clear DX DC hb31
    have DX := C31
    clear C31
    have DC := D03.out.trans (DX.mono D03.out.size)
    cases ra with
    | false =>
      go_wp2_with (first
        | (refine at_slot 63 rfl ?_; refine load_row rfl 25 _ rfl y1.heap.size rfl (RX.out _ DX) Try.underlying25 rfl infoDfa ?_))
      refine (HZC.out _ _ (VX.out _ DX)).mono ?_
      rintro e v41 ⟨rfl, hb41⟩
      have C41 := DX.trans (hb41.mono DX.size)
      clear DX DC hb41
      have DX := C41
      clear C41
      have DC := D03.out.trans (DX.mono D03.out.size)
      go_wp2_with (first
        | (refine at_slot 67 rfl ?_; refine load_row rfl 25 _ rfl y2.heap.size rfl (RY.out _ DX) Try.underlying25 rfl infoDfa ?_))
      refine (HZC.out _ _ (VY.out _ DX)).mono ?_
      rintro e v42 ⟨rfl, hb42⟩
      have C42 := DX.trans (hb42.mono DX.size)
      clear DX DC hb42
      have DX := C42
      clear C42
      have DC := D03.out.trans (DX.mono D03.out.size)
      go_wp2_with (first
        | (refine at_slot 71 rfl ?_; refine load_row rfl 25 _ rfl y3.heap.size rfl (RZ.out _ DX) Try.underlying25 rfl infoDfa ?_))
      refine (HZC.out _ _ (VZ.out _ DX)).mono ?_
      rintro e v43 ⟨rfl, hb43⟩
      have C43 := DX.trans (hb43.mono DX.size)
      clear DX DC hb43
      have DX := C43
      clear C43
      have DC := D03.out.trans (DX.mono D03.out.size)
      go_wp2
      go_ret
      exact ⟨rfl, HB0.out.trans (DC.mono HB0.out.size)⟩
    | true =>
    go_wp2_with (first
      | (refine at_slot 41 rfl ?_; refine load_row rfl 25 _ rfl (w.heap.size + 1) rfl (RB.out _ DC) Try.underlying25 rfl infoDfa ?_))
    refine (HRB.out _ _ (VB.out _ DC)).mono ?_
    rintro e v32 ⟨rfl, hb32⟩
    have C32 := DX.trans (hb32.mono DX.size)
    clear DX DC hb32
    have DX := C32
    clear C32
    have DC := D03.out.trans (DX.mono D03.out.size)
    cases rb with
    | false =>
      go_wp2_with (first
        | (refine at_slot 63 rfl ?_; refine load_row rfl 25 _ rfl y1.heap.size rfl (RX.out _ DX) Try.underlying25 rfl infoDfa ?_))
      refine (HZC.out _ _ (VX.out _ DX)).mono ?_
      rintro e v41 ⟨rfl, hb41⟩
      have C41 := DX.trans (hb41.mono DX.size)
      clear DX DC hb41
      have DX := C41
      clear C41
      have DC := D03.out.trans (DX.mono D03.out.size)
      go_wp2_with (first
        | (refine at_slot 67 rfl ?_; refine load_row rfl 25 _ rfl y2.heap.size rfl (RY.out _ DX) Try.underlying25 rfl infoDfa ?_))
      refine (HZC.out _ _ (VY.out _ DX)).mono ?_
      rintro e v42 ⟨rfl, hb42⟩
      have C42 := DX.trans (hb42.mono DX.size)
      clear DX DC hb42
      have DX := C42
      clear C42
      have DC := D03.out.trans (DX.mono D03.out.size)
      go_wp2_with (first
        | (refine at_slot 71 rfl ?_; refine load_row rfl 25 _ rfl y3.heap.size rfl (RZ.out _ DX) Try.underlying25 rfl infoDfa ?_))
      refine (HZC.out _ _ (VZ.out _ DX)).mono ?_
      rintro e v43 ⟨rfl, hb43⟩
      have C43 := DX.trans (hb43.mono DX.size)
      clear DX DC hb43
      have DX := C43
      clear C43
      have DC := D03.out.trans (DX.mono D03.out.size)
      go_wp2
      go_ret
      exact ⟨rfl, HB0.out.trans (DC.mono HB0.out.size)⟩
    | true =>
    have hk := HKNE.out (by trivial) (by trivial)
    have e1 : (ka != kb) = true := by rw [bne_iff_ne]; exact hk
    have ca := (RA.out _ DC).cell 0
    have cb := (RB.out _ DC).cell 0
    clear hk HKNE
    go_wp2_with (first
      | (refine at_slot 63 rfl ?_; refine load_row rfl 25 _ rfl y1.heap.size rfl (RX.out _ DX) Try.underlying25 rfl infoDfa ?_))
    refine (HZC.out _ _ (VX.out _ DX)).mono ?_
    rintro e v41 ⟨rfl, hb41⟩
    have C41 := DX.trans (hb41.mono DX.size)
    clear DX DC hb41
    have DX := C41
    clear C41
    have DC := D03.out.trans (DX.mono D03.out.size)
    go_wp2_with (first
      | (refine at_slot 67 rfl ?_; refine load_row rfl 25 _ rfl y2.heap.size rfl (RY.out _ DX) Try.underlying25 rfl infoDfa ?_))
    refine (HZC.out _ _ (VY.out _ DX)).mono ?_
    rintro e v42 ⟨rfl, hb42⟩
    have C42 := DX.trans (hb42.mono DX.size)
    clear DX DC hb42
    have DX := C42
    clear C42
    have DC := D03.out.trans (DX.mono D03.out.size)
    go_wp2_with (first
      | (refine at_slot 71 rfl ?_; refine load_row rfl 25 _ rfl y3.heap.size rfl (RZ.out _ DX) Try.underlying25 rfl infoDfa ?_))
    refine (HZC.out _ _ (VZ.out _ DX)).mono ?_
    rintro e v43 ⟨rfl, hb43⟩
    have C43 := DX.trans (hb43.mono DX.size)
    clear DX DC hb43
    have DX := C43
    clear C43
    have DC := D03.out.trans (DX.mono D03.out.size)
    go_wp2
    go_ret
    exact ⟨rfl, HB0.out.trans (DC.mono HB0.out.size)⟩
  obtain ⟨oka, okb, hkk⟩ := Classical.not_not.1 hbad
  rcases HOA.out with ⟨_, k⟩ | ⟨rfl, fa, rfl, hfa⟩
  · exact absurd oka k
  rcases HOB.out with ⟨_, k⟩ | ⟨rfl, fb, rfl, hfb⟩
  · exact absurd okb k
  have na : fa.n ≤ 12 := (HKA.out fa rfl).2 ▸ (HNA.out (by trivial)).1
  have nb : fb.n ≤ 12 := (HKB.out fb rfl).2 ▸ HNB.out (by trivial)
  have hk9 : fa.k ≤ 9 := by
    have h1 := (HKA.out fa rfl).1
    have h2 := (HNA.out (by trivial)).2
    omega
  have hk : fa.k = fb.k := by
    have h1 := (HKA.out fa rfl).1
    have h2 := (HKB.out fb rfl).1
    omega
  have nab : fa.n * fb.n ≤ 144 := Au.mul_few na nb
  have HB1 := Lib.hid (both_as hfa hfb hk (by omega))
  have HE1 := Lib.hid (either_as hfa hfb hk (by omega))
  have HL1 := Lib.hid (less_as hfa hfb hk (by omega))
  have HFA := Lib.hid hfa
  have HFB := Lib.hid hfb
  have HK := Lib.hid hk
  have HK9 := Lib.hid hk9
  have HAB : Hid (fa.n * fb.n ≤ 40000) := Lib.hid (by omega)
  subst hkk
  clear hbad HBN HEN HLN HOA HOB HKA HKB HNA HNB HKKA HKKB oka okb na nb hk9 hk nab hfa hfb
  go_wp2_with (first
    | (refine at_slot 20 rfl ?_; refine load_row rfl 25 _ rfl w.heap.size rfl (RA.out _ DC) Try.underlying25 rfl infoDfa ?_)
    | (refine at_slot 21 rfl ?_; refine load_row rfl 25 _ rfl (w.heap.size + 1) rfl (RB.out _ DC) Try.underlying25 rfl infoDfa ?_))
  refine (HB1.out _ _ _ (VA.out _ DC) (VB.out _ DC)).mono ?_
  rintro e y1 ⟨g1, l1, h1, hnew⟩
  obtain ⟨k1, s1, A1, n1, c1, E1, m1, d1, w1, rfl, N1, W1, R1, V1, D1, L1, Z1⟩ := hnew.laid
  clear hnew Z1 L1
  have B1 := DC.trans (D1.mono DC.size)
  clear DC
  have DC := B1
  clear B1
  go_wp2_with (first
    | (refine wpList_store_row rfl 25 _ _ rfl y1.heap.size #[.int .i64 k1, .int .i64 s1, .slice A1 n1 c1, .slice E1 m1 d1] rfl rfl 25 _ N1 infoDfa rfl (slices_one _ _ _ _ _ _ _ _) ?_)
    | (refine at_slot 26 rfl ?_; rw [W1.out]; refine load_row rfl 25 _ rfl w.heap.size rfl (RA.out _ DC) Try.underlying25 rfl infoDfa ?_)
    | (refine at_slot 27 rfl ?_; refine load_row rfl 25 _ rfl (w.heap.size + 1) rfl (RB.out _ DC) Try.underlying25 rfl infoDfa ?_))
  refine (HE1.out _ _ _ (VA.out _ DC) (VB.out _ DC)).mono ?_
  rintro e y2 ⟨g2, l2, h2, hnew⟩
  obtain ⟨k2, s2, A2, n2, c2, E2, m2, d2, w2, rfl, N2, W2, R2, V2, D2, L2, Z2⟩ := hnew.laid
  clear hnew Z2 L2
  have B2 := DC.trans (D2.mono DC.size)
  clear DC
  have DC := B2
  clear B2
  clear N1 W1 D1
  go_wp2_with (first
    | (refine wpList_store_row rfl 25 _ _ rfl y2.heap.size #[.int .i64 k2, .int .i64 s2, .slice A2 n2 c2, .slice E2 m2 d2] rfl rfl 25 _ N2 infoDfa rfl (slices_one _ _ _ _ _ _ _ _) ?_)
    | (refine at_slot 32 rfl ?_; rw [W2.out]; refine load_row rfl 25 _ rfl w.heap.size rfl (RA.out _ DC) Try.underlying25 rfl infoDfa ?_)
    | (refine at_slot 33 rfl ?_; refine load_row rfl 25 _ rfl (w.heap.size + 1) rfl (RB.out _ DC) Try.underlying25 rfl infoDfa ?_))
  refine (HL1.out _ _ _ (VA.out _ DC) (VB.out _ DC)).mono ?_
  rintro e y3 ⟨g3, l3, h3, hnew⟩
  obtain ⟨k3, s3, A3, n3, c3, E3, m3, d3, w3, rfl, N3, W3, R3, V3, D3, L3, Z3⟩ := hnew.laid
  clear hnew Z3 L3
  have B3 := DC.trans (D3.mono DC.size)
  clear DC
  have DC := B3
  clear B3
  clear N2 W2
  have RX := Lib.hid (fun W (h : Below w3.heap.size w3 W) => ((R1.stays D2).stays D3).stays h)
  have RY := Lib.hid (fun W (h : Below w3.heap.size w3 W) => (R2.stays D3).stays h)
  have RZ := Lib.hid (fun W (h : Below w3.heap.size w3 W) => R3.stays h)
  have VX := Lib.hid (fun W (h : Below w3.heap.size w3 W) => ((V1.out.stays D2).stays D3).stays h)
  have VY := Lib.hid (fun W (h : Below w3.heap.size w3 W) => (V2.out.stays D3).stays h)
  have VZ := Lib.hid (fun W (h : Below w3.heap.size w3 W) => V3.out.stays h)
  have D03 := Lib.hid DC
  have DX := Below.refl w3.heap.size w3
  clear R1 R2 R3 V1 V2 V3 D2 D3
  have H1 := Lib.hid h1.1
  have H2 := Lib.hid h2.1
  have H3 := Lib.hid h3.1
  clear h1 h2 h3
  go_wp2_with (first
    | (refine wpList_store_row rfl 25 _ _ rfl y3.heap.size #[.int .i64 k3, .int .i64 s3, .slice A3 n3 c3, .slice E3 m3 d3] rfl rfl 25 _ N3 infoDfa rfl (slices_one _ _ _ _ _ _ _ _) ?_)
    | (refine at_slot 37 rfl ?_; rw [W3.out]; refine load_row rfl 25 _ rfl w.heap.size rfl (RA.out _ DC) Try.underlying25 rfl infoDfa ?_))
  refine (HRA.out _ _ (VA.out _ DC)).mono ?_
  clear N3 W3
  rintro e v31 ⟨rfl, hb31⟩
  have C31 := DX.trans (hb31.mono DX.size)
  clear DX DC hb31
  have DX := C31
  clear C31
  have DC := D03.out.trans (DX.mono D03.out.size)
  go_wp2_with (first
    | (refine at_slot 41 rfl ?_; refine load_row rfl 25 _ rfl (w.heap.size + 1) rfl (RB.out _ DC) Try.underlying25 rfl infoDfa ?_))
  refine (HRB.out _ _ (VB.out _ DC)).mono ?_
  rintro e v32 ⟨rfl, hb32⟩
  have C32 := DX.trans (hb32.mono DX.size)
  clear DX DC hb32
  have DX := C32
  clear C32
  have DC := D03.out.trans (DX.mono D03.out.size)
  have ca := (RA.out _ DC).cell 0
  have cb := (RB.out _ DC).cell 0
  go_wp2_with (first
    | (refine at_slot 74 rfl ?_; refine load_row rfl 25 _ rfl y1.heap.size rfl (RX.out _ DX) Try.underlying25 rfl infoDfa ?_)
    | (refine at_slot 76 rfl ?_; refine load_row rfl 25 _ rfl w.heap.size rfl (RA.out _ DC) Try.underlying25 rfl infoDfa ?_)
    | (refine at_slot 77 rfl ?_; refine load_row rfl 25 _ rfl (w.heap.size + 1) rfl (RB.out _ DC) Try.underlying25 rfl infoDfa ?_))
  refine (made_calls _ _ _ _ _ g1 fa fb l1 _ (VX.out _ DX) (VA.out _ DC) (VB.out _ DC) H1.out HFA.out HFB.out HK.out HAB.out HK9.out and_enters and_calls).mono ?_
  rintro e v51 ⟨rfl, hb51⟩
  have C51 := DX.trans (hb51.mono DX.size)
  clear DX DC hb51
  have DX := C51
  clear C51
  have DC := D03.out.trans (DX.mono D03.out.size)
  clear ca cb
  go_wp2_with (first
    | (refine at_slot 80 rfl ?_; refine load_row rfl 25 _ rfl y2.heap.size rfl (RY.out _ DX) Try.underlying25 rfl infoDfa ?_)
    | (refine at_slot 82 rfl ?_; refine load_row rfl 25 _ rfl w.heap.size rfl (RA.out _ DC) Try.underlying25 rfl infoDfa ?_)
    | (refine at_slot 83 rfl ?_; refine load_row rfl 25 _ rfl (w.heap.size + 1) rfl (RB.out _ DC) Try.underlying25 rfl infoDfa ?_))
  refine (made_calls _ _ _ _ _ g2 fa fb l2 _ (VY.out _ DX) (VA.out _ DC) (VB.out _ DC) H2.out HFA.out HFB.out HK.out HAB.out HK9.out or_enters or_calls).mono ?_
  rintro e v52 ⟨rfl, hb52⟩
  have C52 := DX.trans (hb52.mono DX.size)
  clear DX DC hb52
  have DX := C52
  clear C52
  have DC := D03.out.trans (DX.mono D03.out.size)
  go_wp2_with (first
    | (refine at_slot 87 rfl ?_; refine load_row rfl 25 _ rfl y3.heap.size rfl (RZ.out _ DX) Try.underlying25 rfl infoDfa ?_)
    | (refine at_slot 89 rfl ?_; refine load_row rfl 25 _ rfl w.heap.size rfl (RA.out _ DC) Try.underlying25 rfl infoDfa ?_)
    | (refine at_slot 90 rfl ?_; refine load_row rfl 25 _ rfl (w.heap.size + 1) rfl (RB.out _ DC) Try.underlying25 rfl infoDfa ?_))
  refine (made_calls _ _ _ _ _ g3 fa fb l3 _ (VZ.out _ DX) (VA.out _ DC) (VB.out _ DC) H3.out HFA.out HFB.out HK.out HAB.out HK9.out less_enters15 less_calls15).mono ?_
  rintro e v53 ⟨rfl, hb53⟩
  have C53 := DX.trans (hb53.mono DX.size)
  clear DX DC hb53
  have DX := C53
  clear C53
  have DC := D03.out.trans (DX.mono D03.out.size)
  go_wp2
  go_ret
  exact ⟨rfl, HB0.out.trans (DC.mono HB0.out.size)⟩
end Go.Proofs.Ytdidogcgoghdmaa
