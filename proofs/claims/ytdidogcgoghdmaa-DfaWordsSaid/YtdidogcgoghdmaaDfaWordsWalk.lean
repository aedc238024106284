/- The walk of the law DfaWords. -/
import Derived.Test.YtdidogcgoghdmaaDfaAlive
import Derived.Test.YtdidogcgoghdmaaDfaSmall
import Derived.Test.YtdidogcgoghdmaaDfaBegins
import Derived.Test.YtdidogcgoghdmaaDfaWordsPlain
import Derived.Test.YtdidogcgoghdmaaDfaData
namespace Go.Proofs.Ytdidogcgoghdmaa
open Go.RowKit
/-- Where a word can't be: both errors, and what is zero. -/
theorem word_bad {k : Int} {x : List Int} (h : ¬ (1 ≤ k ∧ k ≤ 512 ∧ Au.syms k x = true)) : wordCode k x = 151 := by unfold wordCode; rw [if_neg h]
set_option maxRecDepth 100000 in
set_option maxHeartbeats 8000000 in
theorem dwords_walk {u v : Value} (k : Int) (x y : List Int) (w : World) (_hk : (Lit.int .i64 k).wf = true) (hx : Nums w u x ∧ x.length ≤ maxLen ∧ ∀ n ∈ x, (Lit.int .i64 n).wf = true) (hy : Nums w v y ∧ y.length ≤ maxLen ∧ ∀ n ∈ y, (Lit.int .i64 n).wf = true) :
    Calls Try.prog 5 #[.int .i64 k, u, v] w fun e w' => e = .returned (.bool true) ∧ Below w.heap.size w w' := by
  obtain ⟨hx, hxl, _⟩ := hx
  obtain ⟨hy, hyl, _⟩ := hy
  have HAL := Lib.hid alive_calls15
  obtain ⟨U, cu, rfl⟩ := hx.slice
  obtain ⟨O, co, rfl⟩ := hy.slice
  have HX := Lib.hid hx
  have HY := Lib.hid hy
  have HXL := Lib.hid hxl
  have HYL := Lib.hid hyl
  obtain ⟨nx, hnx⟩ : ∃ nx, x.length = nx := ⟨_, rfl⟩
  obtain ⟨ny, hny⟩ : ∃ ny, y.length = ny := ⟨_, rfl⟩
  rw [hnx] at HX hxl ⊢
  rw [hny] at HY hyl ⊢
  have EX := Lib.hid hnx
  have EY := Lib.hid hny
  clear hx hy hnx hny
  unfold maxLen at hxl hyl
  by_cases h1 : (40 : Int) < (nx : Int)
  · have e1 : decide ((40 : Int) < (nx : Int)) = true := decide_eq_true h1
    go_enter Try.func5, Try.ntmps5
    go_wp2_with fail
    refine (HAL.out _).mono ?_
    rintro e w0 ⟨rfl, hb⟩
    go_wp2
    go_ret
    exact ⟨rfl, hb⟩
  have e1 : decide ((40 : Int) < (nx : Int)) = false := decide_eq_false h1
  by_cases h2 : (60 : Int) < (ny : Int)
  · have e2 : decide ((60 : Int) < (ny : Int)) = true := decide_eq_true h2
    go_enter Try.func5, Try.ntmps5
    go_wp2_with fail
    refine (HAL.out _).mono ?_
    rintro e w0 ⟨rfl, hb⟩
    go_wp2
    go_ret
    exact ⟨rfl, hb⟩
  have e2 : decide ((60 : Int) < (ny : Int)) = false := decide_eq_false h2
  by_cases h3 : 40 < k ∧ k ≤ 512
  · have e3 : decide (40 < k) = true := decide_eq_true h3.1
    have e4 : decide (k ≤ 512) = true := decide_eq_true h3.2
    go_enter Try.func5, Try.ntmps5
    go_wp2_with fail
    refine (HAL.out _).mono ?_
    rintro e w0 ⟨rfl, hb⟩
    go_wp2
    go_ret
    exact ⟨rfl, hb⟩
  have hnx2 : nx ≤ 40 := by omega
  have hny2 : ny ≤ 60 := by omega
  have HBad : Hid (¬ (1 ≤ k ∧ k ≤ 512 ∧ Au.syms k x = true) → ∀ W, Below w.heap.size w W → Calls Try.prog 10 #[.int .i64 k, .slice U nx cu] W (NewAuto W Au.Dv.zero 151)) := Lib.hid (fun hn W hb => (word_calls k _ x W (HX.out.later hb (Nat.le_refl _)) HXL.out).mono fun e w' h => (by
    rcases h with ⟨h0, _⟩ | ⟨_, h0⟩
    · rw [word_bad hn] at h0; exact absurd h0 (by decide)
    · rw [word_bad hn] at h0; exact h0))
  have HBadB : Hid (¬ (1 ≤ k ∧ k ≤ 512 ∧ Au.syms k x = true) → ∀ W, Below w.heap.size w W → Calls Try.prog 11 #[.int .i64 k, .slice U nx cu] W (NewAuto W Au.Dv.zero 151)) := Lib.hid (fun hn W hb => (begins_calls15 k _ x W (HX.out.later hb (Nat.le_refl _)) HXL.out).mono fun e w' h => (by
    rcases h with ⟨h0, _⟩ | ⟨_, h0⟩
    · rw [word_bad hn] at h0; exact absurd h0 (by decide)
    · rw [word_bad hn] at h0; exact h0))
  by_cases h4 : ¬ (1 ≤ k ∧ k ≤ 512)
  · have hbad := HBad.out (fun a => h4 ⟨a.1, a.2.1⟩)
    have hbadB := HBadB.out (fun a => h4 ⟨a.1, a.2.1⟩)
    have HW := Lib.hid hbad
    have HB := Lib.hid hbadB
    have HN : Hid (∀ W, Calls Try.prog 9 #[.int .i64 k] W (NewAuto W Au.Dv.zero 151)) := Lib.hid (fun W => (dnone_calls k W).mono fun e w' h => (by rw [if_neg h4] at h; exact h))
    have HZC := Lib.hid zero_calls15
    have f40 : (40 : Int) < k → k ≤ 512 → False := fun a b => h3 ⟨a, b⟩
    by_cases h5 : 1 ≤ k
    · have g1 : decide (1 ≤ k) = true := decide_eq_true h5
      have g2 : decide (k ≤ 512) = false := decide_eq_false (fun a => h4 ⟨h5, a⟩)
      have g3 : decide (40 < k) = true := decide_eq_true (by omega)
      clear hbad hbadB h1 h2 h3 h4 h5 f40
      go_enter Try.func5, Try.ntmps5
      go_wp2_with fail
      refine (HAL.out _).mono ?_
      rintro e w0 ⟨rfl, C0⟩
      go_wp2_with fail
      refine (HW.out _ C0).mono ?_
      rintro e y1 hnew
      obtain ⟨k1, s1, A1, n1, c1, E1, m1, d1, w1, rfl, N1, W1, R1, V1, D1, L1, Z1⟩ := hnew.laid
      clear hnew
      have T1 := W1.out.symm ▸ R1
      have B1 := C0.trans (D1.mono C0.size)
      clear D1 C0
      go_wp2_with (first
        | (refine wpList_store_row rfl 25 _ _ rfl y1.heap.size #[.int .i64 k1, .int .i64 s1, .slice A1 n1 c1, .slice E1 m1 d1] rfl rfl 25 _ N1 infoDfa rfl (slices_one _ _ _ _ _ _ _ _) ?_)
        )
      rw [W1.out]
      refine (HB.out _ B1).mono ?_
      rintro e y2 hnew
      obtain ⟨k2, s2, A2, n2, c2, E2, m2, d2, w2, rfl, N2, W2, R2, V2, D2, L2, Z2⟩ := hnew.laid
      clear hnew
      have T2 := W2.out.symm ▸ R2
      have B2 := B1.trans (D2.mono B1.size)
      clear B1 T1 N1
      go_wp2_with (first
        | (refine wpList_store_row rfl 25 _ _ rfl y2.heap.size #[.int .i64 k2, .int .i64 s2, .slice A2 n2 c2, .slice E2 m2 d2] rfl rfl 25 _ N2 infoDfa rfl (slices_one _ _ _ _ _ _ _ _) ?_)
        )
      rw [W2.out]
      refine (HN.out _).mono ?_
      rintro e y3 hnew
      obtain ⟨k3, s3, A3, n3, c3, E3, m3, d3, w3, rfl, N3, W3, R3, V3, D3, L3, Z3⟩ := hnew.laid
      clear hnew
      have T3 := W3.out.symm ▸ R3
      have B3 := B2.trans (D3.mono B2.size)
      clear B2 T2 N2
      have RA := Lib.hid (fun W (h : Below w3.heap.size w3 W) => ((R1.stays D2).stays D3).stays h)
      have RB := Lib.hid (fun W (h : Below w3.heap.size w3 W) => (R2.stays D3).stays h)
      have RC := Lib.hid (fun W (h : Below w3.heap.size w3 W) => R3.stays h)
      have VA := Lib.hid (fun W (h : Below w3.heap.size w3 W) => ((V1.out.stays D2).stays D3).stays h)
      have VB := Lib.hid (fun W (h : Below w3.heap.size w3 W) => (V2.out.stays D3).stays h)
      have VC := Lib.hid (fun W (h : Below w3.heap.size w3 W) => V3.out.stays h)
      have XX := Lib.hid (fun W (h : Below w3.heap.size w3 W) => HX.out.later (B3.trans (h.mono B3.size)) (Nat.le_refl _))
      have YY := Lib.hid (fun W (h : Below w3.heap.size w3 W) => HY.out.later (B3.trans (h.mono B3.size)) (Nat.le_refl _))
      have HB3 := Lib.hid B3
      have DC := Below.refl w3.heap.size w3
      clear R1 R2 B3 D2 D3 V1 V2 V3
      go_wp2_with (first
        | (refine wpList_store_row rfl 25 _ _ rfl y3.heap.size #[.int .i64 k3, .int .i64 s3, .slice A3 n3 c3, .slice E3 m3 d3] rfl rfl 25 _ N3 infoDfa rfl (slices_one _ _ _ _ _ _ _ _) ?_)
        | (refine at_slot 65 rfl ?_; refine load_row rfl 25 _ rfl y3.heap.size rfl T3 Try.underlying25 rfl infoDfa ?_))
      rw [W3.out]
      refine (HZC.out _ _ (VC.out _ DC)).mono ?_
      rintro e v5 ⟨rfl, hb5⟩
      have C5 := DC.trans (hb5.mono DC.size)
      clear DC hb5
      have DC := C5
      clear C5
      clear T3 N3 R3
      go_wp2_with (first
        | (refine at_slot 89 rfl ?_; refine load_row rfl 25 _ rfl y1.heap.size rfl (RA.out _ DC) Try.underlying25 rfl infoDfa ?_))
      refine (HZC.out _ _ (VA.out _ DC)).mono ?_
      rintro e v6 ⟨rfl, hb6⟩
      have C6 := DC.trans (hb6.mono DC.size)
      clear DC hb6
      have DC := C6
      clear C6
      go_wp2_with (first
        | (refine at_slot 93 rfl ?_; refine load_row rfl 25 _ rfl y2.heap.size rfl (RB.out _ DC) Try.underlying25 rfl infoDfa ?_))
      refine (HZC.out _ _ (VB.out _ DC)).mono ?_
      rintro e v7 ⟨rfl, hb7⟩
      have C7 := DC.trans (hb7.mono DC.size)
      clear DC hb7
      have DC := C7
      clear C7
      go_wp2
      go_ret
      exact ⟨rfl, HB3.out.trans (DC.mono HB3.out.size)⟩
    · have g1 : decide (1 ≤ k) = false := decide_eq_false h5
      have g3 : decide (40 < k) = false := decide_eq_false (by omega)
      clear hbad hbadB h1 h2 h3 h4 h5 f40
      go_enter Try.func5, Try.ntmps5
      go_wp2_with fail
      refine (HAL.out _).mono ?_
      rintro e w0 ⟨rfl, C0⟩
      go_wp2_with fail
      refine (HW.out _ C0).mono ?_
      rintro e y1 hnew
      obtain ⟨k1, s1, A1, n1, c1, E1, m1, d1, w1, rfl, N1, W1, R1, V1, D1, L1, Z1⟩ := hnew.laid
      clear hnew
      have T1 := W1.out.symm ▸ R1
      have B1 := C0.trans (D1.mono C0.size)
      clear D1 C0
      go_wp2_with (first
        | (refine wpList_store_row rfl 25 _ _ rfl y1.heap.size #[.int .i64 k1, .int .i64 s1, .slice A1 n1 c1, .slice E1 m1 d1] rfl rfl 25 _ N1 infoDfa rfl (slices_one _ _ _ _ _ _ _ _) ?_)
        )
      rw [W1.out]
      refine (HB.out _ B1).mono ?_
      rintro e y2 hnew
      obtain ⟨k2, s2, A2, n2, c2, E2, m2, d2, w2, rfl, N2, W2, R2, V2, D2, L2, Z2⟩ := hnew.laid
      clear hnew
      have T2 := W2.out.symm ▸ R2
      have B2 := B1.trans (D2.mono B1.size)
      clear B1 T1 N1
      go_wp2_with (first
        | (refine wpList_store_row rfl 25 _ _ rfl y2.heap.size #[.int .i64 k2, .int .i64 s2, .slice A2 n2 c2, .slice E2 m2 d2] rfl rfl 25 _ N2 infoDfa rfl (slices_one _ _ _ _ _ _ _ _) ?_)
        )
      rw [W2.out]
      refine (HN.out _).mono ?_
      rintro e y3 hnew
      obtain ⟨k3, s3, A3, n3, c3, E3, m3, d3, w3, rfl, N3, W3, R3, V3, D3, L3, Z3⟩ := hnew.laid
      clear hnew
      have T3 := W3.out.symm ▸ R3
      have B3 := B2.trans (D3.mono B2.size)
      clear B2 T2 N2
      have RA := Lib.hid (fun W (h : Below w3.heap.size w3 W) => ((R1.stays D2).stays D3).stays h)
      have RB := Lib.hid (fun W (h : Below w3.heap.size w3 W) => (R2.stays D3).stays h)
      have RC := Lib.hid (fun W (h : Below w3.heap.size w3 W) => R3.stays h)
      have VA := Lib.hid (fun W (h : Below w3.heap.size w3 W) => ((V1.out.stays D2).stays D3).stays h)
      have VB := Lib.hid (fun W (h : Below w3.heap.size w3 W) => (V2.out.stays D3).stays h)
      have VC := Lib.hid (fun W (h : Below w3.heap.size w3 W) => V3.out.stays h)
      have XX := Lib.hid (fun W (h : Below w3.heap.size w3 W) => HX.out.later (B3.trans (h.mono B3.size)) (Nat.le_refl _))
      have YY := Lib.hid (fun W (h : Below w3.heap.size w3 W) => HY.out.later (B3.trans (h.mono B3.size)) (Nat.le_refl _))
      have HB3 := Lib.hid B3
      have DC := Below.refl w3.heap.size w3
      clear R1 R2 B3 D2 D3 V1 V2 V3
      go_wp2_with (first
        | (refine wpList_store_row rfl 25 _ _ rfl y3.heap.size #[.int .i64 k3, .int .i64 s3, .slice A3 n3 c3, .slice E3 m3 d3] rfl rfl 25 _ N3 infoDfa rfl (slices_one _ _ _ _ _ _ _ _) ?_)
        | (refine at_slot 65 rfl ?_; refine load_row rfl 25 _ rfl y3.heap.size rfl T3 Try.underlying25 rfl infoDfa ?_))
      rw [W3.out]
      refine (HZC.out _ _ (VC.out _ DC)).mono ?_
      rintro e v5 ⟨rfl, hb5⟩
      have C5 := DC.trans (hb5.mono DC.size)
      clear DC hb5
      have DC := C5
      clear C5
      clear T3 N3 R3
      go_wp2_with (first
        | (refine at_slot 89 rfl ?_; refine load_row rfl 25 _ rfl y1.heap.size rfl (RA.out _ DC) Try.underlying25 rfl infoDfa ?_))
      refine (HZC.out _ _ (VA.out _ DC)).mono ?_
      rintro e v6 ⟨rfl, hb6⟩
      have C6 := DC.trans (hb6.mono DC.size)
      clear DC hb6
      have DC := C6
      clear C6
      go_wp2_with (first
        | (refine at_slot 93 rfl ?_; refine load_row rfl 25 _ rfl y2.heap.size rfl (RB.out _ DC) Try.underlying25 rfl infoDfa ?_))
      refine (HZC.out _ _ (VB.out _ DC)).mono ?_
      rintro e v7 ⟨rfl, hb7⟩
      have C7 := DC.trans (hb7.mono DC.size)
      clear DC hb7
      have DC := C7
      clear C7
      go_wp2
      go_ret
      exact ⟨rfl, HB3.out.trans (DC.mono HB3.out.size)⟩
  have h4 := Classical.not_not.1 h4
  have g1 : decide (1 ≤ k) = true := decide_eq_true h4.1
  have g2 : decide (k ≤ 512) = true := decide_eq_true h4.2
  have g3 : decide (40 < k) = false := decide_eq_false (fun a => h3 ⟨a, h4.2⟩)
  have HSX := Lib.hid (fun U W h => refSyms_calls k U x W h HXL.out)
  have HZC := Lib.hid zero_calls15
  obtain ⟨bf, hbf⟩ : ∃ b : Bool, b = false := ⟨_, rfl⟩
  have HBF := Lib.hid hbf
  clear hbf
  cases hs : Au.syms k x with
  | false =>
    have hbad := HBad.out (fun a => by rw [hs] at a; exact absurd a.2.2 (by decide))
    have hbadB := HBadB.out (fun a => by rw [hs] at a; exact absurd a.2.2 (by decide))
    have HW := Lib.hid hbad
    have HB := Lib.hid hbadB
    have HN : Hid (∀ W, Calls Try.prog 9 #[.int .i64 k] W (NewAuto W (Au.Dv.of (Au.noneFa k.toNat)) 0)) := Lib.hid (fun W => (dnone_calls k W).mono fun e w' h => (by rw [if_pos h4] at h; exact h))
    rw [hs] at HSX
    clear hbad hbadB h1 h2 h3 h4 hs
    go_enter Try.func5, Try.ntmps5
    go_wp2_with fail
    refine (HAL.out _).mono ?_
    rintro e w0 ⟨rfl, C0⟩
    go_wp2_with fail
    refine (HW.out _ C0).mono ?_
    rintro e y1 hnew
    obtain ⟨k1, s1, A1, n1, c1, E1, m1, d1, w1, rfl, N1, W1, R1, V1, D1, L1, Z1⟩ := hnew.laid
    clear hnew
    have T1 := W1.out.symm ▸ R1
    have B1 := C0.trans (D1.mono C0.size)
    clear D1 C0
    go_wp2_with (first
      | (refine wpList_store_row rfl 25 _ _ rfl y1.heap.size #[.int .i64 k1, .int .i64 s1, .slice A1 n1 c1, .slice E1 m1 d1] rfl rfl 25 _ N1 infoDfa rfl (slices_one _ _ _ _ _ _ _ _) ?_)
      )
    rw [W1.out]
    refine (HB.out _ B1).mono ?_
    rintro e y2 hnew
    obtain ⟨k2, s2, A2, n2, c2, E2, m2, d2, w2, rfl, N2, W2, R2, V2, D2, L2, Z2⟩ := hnew.laid
    clear hnew
    have T2 := W2.out.symm ▸ R2
    have B2 := B1.trans (D2.mono B1.size)
    clear B1 T1 N1
    go_wp2_with (first
      | (refine wpList_store_row rfl 25 _ _ rfl y2.heap.size #[.int .i64 k2, .int .i64 s2, .slice A2 n2 c2, .slice E2 m2 d2] rfl rfl 25 _ N2 infoDfa rfl (slices_one _ _ _ _ _ _ _ _) ?_)
      )
    rw [W2.out]
    refine (HN.out _).mono ?_
    rintro e y3 hnew
    obtain ⟨k3, s3, A3, n3, c3, E3, m3, d3, w3, rfl, N3, W3, R3, V3, D3, L3, Z3⟩ := hnew.laid
    clear hnew
    have T3 := W3.out.symm ▸ R3
    have B3 := B2.trans (D3.mono B2.size)
    clear B2 T2 N2
    have RA := Lib.hid (fun W (h : Below w3.heap.size w3 W) => ((R1.stays D2).stays D3).stays h)
    have RB := Lib.hid (fun W (h : Below w3.heap.size w3 W) => (R2.stays D3).stays h)
    have RC := Lib.hid (fun W (h : Below w3.heap.size w3 W) => R3.stays h)
    have VA := Lib.hid (fun W (h : Below w3.heap.size w3 W) => ((V1.out.stays D2).stays D3).stays h)
    have VB := Lib.hid (fun W (h : Below w3.heap.size w3 W) => (V2.out.stays D3).stays h)
    have VC := Lib.hid (fun W (h : Below w3.heap.size w3 W) => V3.out.stays h)
    have XX := Lib.hid (fun W (h : Below w3.heap.size w3 W) => HX.out.later (B3.trans (h.mono B3.size)) (Nat.le_refl _))
    have YY := Lib.hid (fun W (h : Below w3.heap.size w3 W) => HY.out.later (B3.trans (h.mono B3.size)) (Nat.le_refl _))
    have HB3 := Lib.hid B3
    have DC := Below.refl w3.heap.size w3
    clear R1 R2 B3 D2 D3 V1 V2 V3
    go_wp2_with (first
      | (refine wpList_store_row rfl 25 _ _ rfl y3.heap.size #[.int .i64 k3, .int .i64 s3, .slice A3 n3 c3, .slice E3 m3 d3] rfl rfl 25 _ N3 infoDfa rfl (slices_one _ _ _ _ _ _ _ _) ?_)
      | (refine at_slot 63 rfl ?_; go_must (refine not_op rfl _ _ rfl true rfl bf (by have h := HBF.out; subst h; rfl) ?_; go_simp))
      | (refine at_slot 65 rfl ?_; go_must (refine skip_op (by have h := HBF.out; subst h; rfl) ?_; go_simp; refine skip_op (by have h := HBF.out; subst h; rfl) ?_; go_simp; refine skip_op (by have h := HBF.out; subst h; rfl) ?_; go_simp; refine skip_op (by have h := HBF.out; subst h; rfl) ?_; go_simp; refine skip_op rfl ?_; go_simp; refine skip_op rfl ?_; go_simp; refine skip_op (by have h := HBF.out; subst h; rfl) ?_; go_simp; refine pick_false rfl _ _ _ rfl (by have h := HBF.out; subst h; rfl) (.bool false) rfl ?_; go_simp))
      )
    rw [W3.out]
    refine (HSX.out _ _ (XX.out _ DC)).mono ?_
    rintro e v5 ⟨rfl, rfl⟩
    clear T3 N3 R3
    go_wp2_with (first
      | (refine at_slot 89 rfl ?_; refine load_row rfl 25 _ rfl y1.heap.size rfl (RA.out _ DC) Try.underlying25 rfl infoDfa ?_))
    refine (HZC.out _ _ (VA.out _ DC)).mono ?_
    rintro e v6 ⟨rfl, hb6⟩
    have C6 := DC.trans (hb6.mono DC.size)
    clear DC hb6
    have DC := C6
    clear C6
    go_wp2_with (first
      | (refine at_slot 93 rfl ?_; refine load_row rfl 25 _ rfl y2.heap.size rfl (RB.out _ DC) Try.underlying25 rfl infoDfa ?_))
    refine (HZC.out _ _ (VB.out _ DC)).mono ?_
    rintro e v7 ⟨rfl, hb7⟩
    have C7 := DC.trans (hb7.mono DC.size)
    clear DC hb7
    have DC := C7
    clear C7
    go_wp2
    go_ret
    exact ⟨rfl, HB3.out.trans (DC.mono HB3.out.size)⟩
  | true =>
    obtain ⟨kk, hkk⟩ : ∃ kk : Nat, k = (kk : Int) := ⟨k.toNat, by omega⟩
    have HW : Hid (∀ W, Below w.heap.size w W → Calls Try.prog 10 #[.int .i64 k, .slice U nx cu] W fun e w' => ∃ c, (Au.WordOf kk (Au.toN x) c ∧ c.n = nx + 2) ∧ NewAuto W (Au.Dv.of c) 0 e w') := Lib.hid (fun W hb => (word_calls k _ x W (HX.out.later hb (Nat.le_refl _)) HXL.out).mono fun e w' h => (by
      rcases h with ⟨_, c, hc, ho⟩ | ⟨h0, _⟩
      · rw [hkk, Int.toNat_natCast] at hc
        exact ⟨c, ⟨hc, by rw [hc.nn, Au.toN_length, EX.out]⟩, ho.new hc.toSound⟩
      · refine absurd ?_ h0
        unfold wordCode
        rw [if_pos ⟨h4.1, h4.2, hs⟩, if_neg (by rw [EX.out]; omega)]))
    have HB : Hid (∀ W, Below w.heap.size w W → Calls Try.prog 11 #[.int .i64 k, .slice U nx cu] W fun e w' => ∃ c, (Au.BeginsOf kk (Au.toN x) c ∧ c.n = nx + 2) ∧ NewAuto W (Au.Dv.of c) 0 e w') := Lib.hid (fun W hb => (begins_calls15 k _ x W (HX.out.later hb (Nat.le_refl _)) HXL.out).mono fun e w' h => (by
      rcases h with ⟨_, c, hc, ho⟩ | ⟨h0, _⟩
      · rw [hkk, Int.toNat_natCast] at hc
        exact ⟨c, ⟨hc, by rw [hc.nn, Au.toN_length, EX.out]⟩, ho⟩
      · refine absurd ?_ h0
        unfold wordCode
        rw [if_pos ⟨h4.1, h4.2, hs⟩, if_neg (by rw [EX.out]; omega)]))
    have HN : Hid (∀ W, Calls Try.prog 9 #[.int .i64 k] W (NewAuto W (Au.Dv.of (Au.noneFa kk)) 0)) := Lib.hid (fun W => (dnone_calls k W).mono fun e w' h => (by rw [if_pos h4, hkk, Int.toNat_natCast] at h; exact h))
    have HK1 : Hid (1 ≤ kk ∧ kk ≤ 512) := Lib.hid (by omega)
    have hs2 : Au.syms kk x = true := by rw [← hkk]; exact hs
    rw [hs] at HSX
    have HSY : Hid (∀ U W, Nums W U y → Calls Try.prog 20 #[.int .i64 k, U] W fun e w' => e = .returned (.bool (Au.syms kk y)) ∧ w' = W) := Lib.hid (fun U W h => by
      have := refSyms_calls k U y W h HYL.out
      rw [hkk] at this ⊢
      exact this)
    have HS := Lib.hid hs2
    have HKK := Lib.hid hkk
    clear h1 h2 h3 h4 hs hs2 HBad HBadB hkk
    go_enter Try.func5, Try.ntmps5
    go_wp2_with fail
    refine (HAL.out _).mono ?_
    rintro e w0 ⟨rfl, C0⟩
    go_wp2_with fail
    refine (HW.out _ C0).mono ?_
    rintro e y1 ⟨f1, hf1, hnew⟩
    obtain ⟨k1, s1, A1, n1, c1, E1, m1, d1, w1, rfl, N1, W1, R1, V1, D1, L1, Z1⟩ := hnew.laid
    clear hnew
    have T1 := W1.out.symm ▸ R1
    have B1 := C0.trans (D1.mono C0.size)
    have F1 := Lib.hid hf1
    clear D1 C0 hf1
    go_wp2_with (first
      | (refine wpList_store_row rfl 25 _ _ rfl y1.heap.size #[.int .i64 k1, .int .i64 s1, .slice A1 n1 c1, .slice E1 m1 d1] rfl rfl 25 _ N1 infoDfa rfl (slices_one _ _ _ _ _ _ _ _) ?_)
      )
    rw [W1.out]
    refine (HB.out _ B1).mono ?_
    rintro e y2 ⟨f2, hf2, hnew⟩
    obtain ⟨k2, s2, A2, n2, c2, E2, m2, d2, w2, rfl, N2, W2, R2, V2, D2, L2, Z2⟩ := hnew.laid
    clear hnew
    have T2 := W2.out.symm ▸ R2
    have B2 := B1.trans (D2.mono B1.size)
    have F2 := Lib.hid hf2
    clear B1 T1 N1 hf2
    go_wp2_with (first
      | (refine wpList_store_row rfl 25 _ _ rfl y2.heap.size #[.int .i64 k2, .int .i64 s2, .slice A2 n2 c2, .slice E2 m2 d2] rfl rfl 25 _ N2 infoDfa rfl (slices_one _ _ _ _ _ _ _ _) ?_)
      )
    rw [W2.out]
    refine (HN.out _).mono ?_
    rintro e y3 hnew
    obtain ⟨k3, s3, A3, n3, c3, E3, m3, d3, w3, rfl, N3, W3, R3, V3, D3, L3, Z3⟩ := hnew.laid
    clear hnew
    have T3 := W3.out.symm ▸ R3
    have B3 := B2.trans (D3.mono B2.size)
    clear B2 T2 N2
    have RA := Lib.hid (fun W (h : Below w3.heap.size w3 W) => ((R1.stays D2).stays D3).stays h)
    have RB := Lib.hid (fun W (h : Below w3.heap.size w3 W) => (R2.stays D3).stays h)
    have RC := Lib.hid (fun W (h : Below w3.heap.size w3 W) => R3.stays h)
    have VA := Lib.hid (fun W (h : Below w3.heap.size w3 W) => ((V1.out.stays D2).stays D3).stays h)
    have VB := Lib.hid (fun W (h : Below w3.heap.size w3 W) => (V2.out.stays D3).stays h)
    have VC := Lib.hid (fun W (h : Below w3.heap.size w3 W) => V3.out.stays h)
    have XX := Lib.hid (fun W (h : Below w3.heap.size w3 W) => HX.out.later (B3.trans (h.mono B3.size)) (Nat.le_refl _))
    have YY := Lib.hid (fun W (h : Below w3.heap.size w3 W) => HY.out.later (B3.trans (h.mono B3.size)) (Nat.le_refl _))
    have HB3 := Lib.hid B3
    have DC := Below.refl w3.heap.size w3
    clear R1 R2 B3 D2 D3 V1 V2 V3
    go_wp2_with (first
      | (refine wpList_store_row rfl 25 _ _ rfl y3.heap.size #[.int .i64 k3, .int .i64 s3, .slice A3 n3 c3, .slice E3 m3 d3] rfl rfl 25 _ N3 infoDfa rfl (slices_one _ _ _ _ _ _ _ _) ?_)
      | (refine at_slot 63 rfl ?_; go_must (refine not_op rfl _ _ rfl true rfl bf (by have h := HBF.out; subst h; rfl) ?_; go_simp))
      | (refine at_slot 65 rfl ?_; go_must (refine skip_op (by have h := HBF.out; subst h; rfl) ?_; go_simp; refine skip_op (by have h := HBF.out; subst h; rfl) ?_; go_simp; refine skip_op (by have h := HBF.out; subst h; rfl) ?_; go_simp; refine skip_op (by have h := HBF.out; subst h; rfl) ?_; go_simp; refine skip_op rfl ?_; go_simp; refine skip_op rfl ?_; go_simp; refine skip_op (by have h := HBF.out; subst h; rfl) ?_; go_simp; refine pick_false rfl _ _ _ rfl (by have h := HBF.out; subst h; rfl) (.bool false) rfl ?_; go_simp))
      )
    rw [W3.out]
    refine (HSX.out _ _ (XX.out _ DC)).mono ?_
    rintro e v5 ⟨rfl, rfl⟩
    clear T3 N3 R3
    have hk1 : k = k1 := (L1.out.1.trans (by show (f1.k : Int) = k; rw [F1.out.1.kk, HKK.out])).symm
    have hk2 : k = k2 := (L2.out.1.trans (by show (f2.k : Int) = k; rw [F2.out.1.kk, HKK.out])).symm
    have hk3 : k = k3 := (L3.out.1.trans (by show (kk : Int) = k; rw [HKK.out])).symm
    obtain ⟨M, hM⟩ : ∃ M, nx + 2 = M := ⟨_, rfl⟩
    have hm1 : m1 = M := (L1.out.2.trans F1.out.2).trans hM
    have hm2 : m2 = M := (L2.out.2.trans F2.out.2).trans hM
    have hm3 : m3 = 1 := L3.out.2
    have HR1 := Lib.hid (right_as F1.out.1.toSound)
    have HR2 := Lib.hid (right_as F2.out.1.toSound)
    have HR3 := Lib.hid (right_as (Au.none_sound HK1.out.1 HK1.out.2))
    have HT4 := Lib.hid (tells_as (Au.none_tells HK1.out.1 HK1.out.2 y) HYL.out)
    have HT5 := Lib.hid (tells_as (Au.word_self F1.out.1 HS.out) HXL.out)
    have HXYL : Hid ((x ++ y).length ≤ maxLen) := Lib.hid (by rw [List.length_append, EX.out, EY.out]; unfold maxLen; omega)
    have HT3 := Lib.hid (tells_as (Au.begins_more F2.out.1 HS.out (y := y)) HXYL.out)
    have HM1 : Hid (0 + x.length ≤ 1048576) := Lib.hid (by rw [EX.out]; omega)
    have HM2 : Hid (0 + x.length + y.length ≤ 1048576) := Lib.hid (by rw [EX.out, EY.out]; omega)
    have HW2 : Hid (decide ((nx : Int) + 2 < (M : Int)) = false) := Lib.hid (decide_eq_false (by omega))
    clear h4 g1 g2 g3 e1 e2 L1 L2 L3 hM HSX
    subst hk1 hk2 hk3 hm1 hm2 hm3
    go_wp2_with (first
      | (refine at_slot 103 rfl ?_; refine load_row rfl 25 _ rfl y1.heap.size rfl (RA.out _ DC) Try.underlying25 rfl infoDfa ?_))
    refine (HR1.out _ _ (VA.out _ DC)).mono ?_
    rintro e v6 ⟨rfl, hb6⟩
    have C6 := DC.trans (hb6.mono DC.size)
    clear DC hb6
    have DC := C6
    clear C6
    go_wp2_with (first
      | (refine at_slot 108 rfl ?_; refine load_row rfl 25 _ rfl y2.heap.size rfl (RB.out _ DC) Try.underlying25 rfl infoDfa ?_))
    refine (HR2.out _ _ (VB.out _ DC)).mono ?_
    rintro e v7 ⟨rfl, hb7⟩
    have C7 := DC.trans (hb7.mono DC.size)
    clear DC hb7
    have DC := C7
    clear C7
    go_wp2_with (first
      | (refine at_slot 113 rfl ?_; refine load_row rfl 25 _ rfl y3.heap.size rfl (RC.out _ DC) Try.underlying25 rfl infoDfa ?_))
    refine (HR3.out _ _ (VC.out _ DC)).mono ?_
    rintro e v8 ⟨rfl, hb8⟩
    have C8 := DC.trans (hb8.mono DC.size)
    clear DC hb8
    have DC := C8
    clear C8
    have hw2 := HW2.out
    have ca3 := (RA.out _ DC).cell 3
    have cb3 := (RB.out _ DC).cell 3
    have cc3 := (RC.out _ DC).cell 3
    have ca0 := (RA.out _ DC).cell 0
    have cb0 := (RB.out _ DC).cell 0
    have cc0 := (RC.out _ DC).cell 0
    go_wp2_with fail
    clear ca3 cb3 cc3 ca0 cb0 cc0
    cases hy : Au.syms kk y with
    | false =>
      have HT1 := Lib.hid (tells_as (Au.words_other F1.out.1 F2.out.1 hy).1 HYL.out)
      have HT2 := Lib.hid (tells_as (Au.words_other F1.out.1 F2.out.1 hy).2 HYL.out)
      rw [hy] at HSY HT3
      refine (HSY.out _ _ (YY.out _ DC)).mono ?_
      rintro e vz ⟨rfl, rfl⟩
      have HLX := Lib.hid (nums_lies (XX.out _ (DC.alloc DC.size (.cells #[] 3))))
      go_wp2_with (first
        | (refine at_slot 167 rfl ?_; refine build_slice_none rfl rfl Try.underlying22 infoI15 ?_)
        | (refine at_slot 169 rfl ?_; refine append_lies (enc := oneI) (xs := x) rfl _ _ rfl Try.underlying22 infoNum rfl (by decide) (by decide) rfl (own_empty (by decide)) rfl (fun n _ => oneI_size n) (fun n _ => oneI_one n) HLX.out HM1.out (by simp) ?_; intro z1 x1 O1 g1 hz1; have b1 := Lib.hid (grown_new g1 rfl))
        | (refine at_slot 171 rfl ?_; refine append_lies (enc := oneI) (xs := y) rfl _ _ rfl Try.underlying22 infoNum rfl (by decide) (by decide) rfl O1 rfl (fun n _ => oneI_size n) (fun n _ => oneI_one n) (nums_lies (YY.out _ (DC.trans (b1.out.mono DC.size)))) HM2.out b1.out.size ?_; intro z2 x2 O2 g2 hz2; have b2 := Lib.hid (grown_own b1.out b1.out.size O1 g2))
        | (refine at_slot 172 rfl ?_; refine load_row rfl 25 _ rfl y1.heap.size rfl (RA.out _ (DC.trans (b2.out.mono DC.size))) Try.underlying25 rfl infoDfa ?_))
      have HL := Lib.hid (both_nums O2)
      have DC2 := Lib.hid (DC.trans (b2.out.mono DC.size))
      have DX := Below.refl x2.heap.size x2
      clear DC O1 O2 g1 g2 hz1 hz2 b1 b2 HLX
      have DC := DC2.out
      refine (HT1.out _ _ _ (VA.out _ DC) (YY.out _ DC)).mono ?_
      rintro e v11 ⟨rfl, hb11⟩
      have X11 := DX.trans (hb11.mono DX.size)
      clear DX DC hb11
      have DX := X11
      clear X11
      have DC := DC2.out.trans (DX.mono DC2.out.size)
      go_wp2_with (first
        | (refine at_slot 185 rfl ?_; refine load_row rfl 25 _ rfl y2.heap.size rfl (RB.out _ DC) Try.underlying25 rfl infoDfa ?_))
      refine (HT2.out _ _ _ (VB.out _ DC) (YY.out _ DC)).mono ?_
      rintro e v12 ⟨rfl, hb12⟩
      have X12 := DX.trans (hb12.mono DX.size)
      clear DX DC hb12
      have DX := X12
      clear X12
      have DC := DC2.out.trans (DX.mono DC2.out.size)
      go_wp2_with (first
        | (refine at_slot 192 rfl ?_; refine load_row rfl 25 _ rfl y2.heap.size rfl (RB.out _ DC) Try.underlying25 rfl infoDfa ?_))
      refine (HT3.out _ _ _ (VB.out _ DC) (HL.out.stays DX)).mono ?_
      rintro e v13 ⟨rfl, hb13⟩
      have X13 := DX.trans (hb13.mono DX.size)
      clear DX DC hb13
      have DX := X13
      clear X13
      have DC := DC2.out.trans (DX.mono DC2.out.size)
      go_wp2_with fail
      refine (HSY.out _ _ (YY.out _ DC)).mono ?_
      rintro e v14 ⟨rfl, rfl⟩
      go_wp2_with (first
        | (refine at_slot 201 rfl ?_; refine load_row rfl 25 _ rfl y3.heap.size rfl (RC.out _ DC) Try.underlying25 rfl infoDfa ?_))
      refine (HT4.out _ _ _ (VC.out _ DC) (YY.out _ DC)).mono ?_
      rintro e v15 ⟨rfl, hb15⟩
      have X15 := DX.trans (hb15.mono DX.size)
      clear DX DC hb15
      have DX := X15
      clear X15
      have DC := DC2.out.trans (DX.mono DC2.out.size)
      go_wp2_with (first
        | (refine at_slot 207 rfl ?_; refine load_row rfl 25 _ rfl y1.heap.size rfl (RA.out _ DC) Try.underlying25 rfl infoDfa ?_))
      refine (HT5.out _ _ _ (VA.out _ DC) (XX.out _ DC)).mono ?_
      rintro e v16 ⟨rfl, hb16⟩
      have X16 := DX.trans (hb16.mono DX.size)
      clear DX DC hb16
      have DX := X16
      clear X16
      have DC := DC2.out.trans (DX.mono DC2.out.size)
      go_wp2
      go_ret
      exact ⟨rfl, HB3.out.trans (DC.mono HB3.out.size)⟩
    | true =>
      have HBG := Lib.hid (fun U V W h h' => refBegins15_calls U V y x W h h' HYL.out)
      have HT2 := Lib.hid (tells_as (Au.begins_is F2.out.1 HS.out hy) HYL.out)
      rw [hy] at HSY HT3
      by_cases hp : x <+: y
      · rw [decide_eq_true hp] at HBG HT2
        by_cases hl : ny = nx
        · have HT1 := Lib.hid (tells_as (Au.word_yes F1.out.1 HS.out hp (by rw [EX.out, EY.out]; exact hl)) HYL.out)
          clear hp hy
          subst hl
          refine (HSY.out _ _ (YY.out _ DC)).mono ?_
          rintro e vy ⟨rfl, rfl⟩
          go_wp2_with fail
          refine (HBG.out _ _ _ (YY.out _ DC) (XX.out _ DC)).mono ?_
          rintro e vz ⟨rfl, hdz⟩
          have DZ := DC.trans ((hdz.below vy.heap.size).mono DC.size)
          clear DC hdz
          have DC := DZ
          clear DZ
          have HLX := Lib.hid (nums_lies (XX.out _ (DC.alloc DC.size (.cells #[] 3))))
          go_wp2_with (first
            | (refine at_slot 167 rfl ?_; refine build_slice_none rfl rfl Try.underlying22 infoI15 ?_)
            | (refine at_slot 169 rfl ?_; refine append_lies (enc := oneI) (xs := x) rfl _ _ rfl Try.underlying22 infoNum rfl (by decide) (by decide) rfl (own_empty (by decide)) rfl (fun n _ => oneI_size n) (fun n _ => oneI_one n) HLX.out HM1.out (by simp) ?_; intro z1 x1 O1 g1 hz1; have b1 := Lib.hid (grown_new g1 rfl))
            | (refine at_slot 171 rfl ?_; refine append_lies (enc := oneI) (xs := y) rfl _ _ rfl Try.underlying22 infoNum rfl (by decide) (by decide) rfl O1 rfl (fun n _ => oneI_size n) (fun n _ => oneI_one n) (nums_lies (YY.out _ (DC.trans (b1.out.mono DC.size)))) HM2.out b1.out.size ?_; intro z2 x2 O2 g2 hz2; have b2 := Lib.hid (grown_own b1.out b1.out.size O1 g2))
            | (refine at_slot 172 rfl ?_; refine load_row rfl 25 _ rfl y1.heap.size rfl (RA.out _ (DC.trans (b2.out.mono DC.size))) Try.underlying25 rfl infoDfa ?_))
          have HL := Lib.hid (both_nums O2)
          have DC2 := Lib.hid (DC.trans (b2.out.mono DC.size))
          have DX := Below.refl x2.heap.size x2
          clear DC O1 O2 g1 g2 hz1 hz2 b1 b2 HLX
          have DC := DC2.out
          refine (HT1.out _ _ _ (VA.out _ DC) (YY.out _ DC)).mono ?_
          rintro e v11 ⟨rfl, hb11⟩
          have X11 := DX.trans (hb11.mono DX.size)
          clear DX DC hb11
          have DX := X11
          clear X11
          have DC := DC2.out.trans (DX.mono DC2.out.size)
          go_wp2_with (first
            | (refine at_slot 185 rfl ?_; refine load_row rfl 25 _ rfl y2.heap.size rfl (RB.out _ DC) Try.underlying25 rfl infoDfa ?_))
          refine (HT2.out _ _ _ (VB.out _ DC) (YY.out _ DC)).mono ?_
          rintro e v12 ⟨rfl, hb12⟩
          have X12 := DX.trans (hb12.mono DX.size)
          clear DX DC hb12
          have DX := X12
          clear X12
          have DC := DC2.out.trans (DX.mono DC2.out.size)
          go_wp2_with (first
            | (refine at_slot 192 rfl ?_; refine load_row rfl 25 _ rfl y2.heap.size rfl (RB.out _ DC) Try.underlying25 rfl infoDfa ?_))
          refine (HT3.out _ _ _ (VB.out _ DC) (HL.out.stays DX)).mono ?_
          rintro e v13 ⟨rfl, hb13⟩
          have X13 := DX.trans (hb13.mono DX.size)
          clear DX DC hb13
          have DX := X13
          clear X13
          have DC := DC2.out.trans (DX.mono DC2.out.size)
          go_wp2_with fail
          refine (HSY.out _ _ (YY.out _ DC)).mono ?_
          rintro e v14 ⟨rfl, rfl⟩
          go_wp2_with (first
            | (refine at_slot 201 rfl ?_; refine load_row rfl 25 _ rfl y3.heap.size rfl (RC.out _ DC) Try.underlying25 rfl infoDfa ?_))
          refine (HT4.out _ _ _ (VC.out _ DC) (YY.out _ DC)).mono ?_
          rintro e v15 ⟨rfl, hb15⟩
          have X15 := DX.trans (hb15.mono DX.size)
          clear DX DC hb15
          have DX := X15
          clear X15
          have DC := DC2.out.trans (DX.mono DC2.out.size)
          go_wp2_with (first
            | (refine at_slot 207 rfl ?_; refine load_row rfl 25 _ rfl y1.heap.size rfl (RA.out _ DC) Try.underlying25 rfl infoDfa ?_))
          refine (HT5.out _ _ _ (VA.out _ DC) (XX.out _ DC)).mono ?_
          rintro e v16 ⟨rfl, hb16⟩
          have X16 := DX.trans (hb16.mono DX.size)
          clear DX DC hb16
          have DX := X16
          clear X16
          have DC := DC2.out.trans (DX.mono DC2.out.size)
          go_wp2
          go_ret
          exact ⟨rfl, HB3.out.trans (DC.mono HB3.out.size)⟩
        · have HT1 := Lib.hid (tells_as (Au.word_no F1.out.1 HS.out hy (fun a => hl (by have := a.2; rw [EX.out, EY.out] at this; exact this))) HYL.out)
          have hq : ((ny : Int) == (nx : Int)) = false := by rw [beq_eq_false_iff_ne]; omega
          clear hp hy hl
          refine (HSY.out _ _ (YY.out _ DC)).mono ?_
          rintro e vy ⟨rfl, rfl⟩
          go_wp2_with fail
          refine (HBG.out _ _ _ (YY.out _ DC) (XX.out _ DC)).mono ?_
          rintro e vz ⟨rfl, hdz⟩
          have DZ := DC.trans ((hdz.below vy.heap.size).mono DC.size)
          clear DC hdz
          have DC := DZ
          clear DZ
          have HLX := Lib.hid (nums_lies (XX.out _ (DC.alloc DC.size (.cells #[] 3))))
          go_wp2_with (first
            | (refine at_slot 167 rfl ?_; refine build_slice_none rfl rfl Try.underlying22 infoI15 ?_)
            | (refine at_slot 169 rfl ?_; refine append_lies (enc := oneI) (xs := x) rfl _ _ rfl Try.underlying22 infoNum rfl (by decide) (by decide) rfl (own_empty (by decide)) rfl (fun n _ => oneI_size n) (fun n _ => oneI_one n) HLX.out HM1.out (by simp) ?_; intro z1 x1 O1 g1 hz1; have b1 := Lib.hid (grown_new g1 rfl))
            | (refine at_slot 171 rfl ?_; refine append_lies (enc := oneI) (xs := y) rfl _ _ rfl Try.underlying22 infoNum rfl (by decide) (by decide) rfl O1 rfl (fun n _ => oneI_size n) (fun n _ => oneI_one n) (nums_lies (YY.out _ (DC.trans (b1.out.mono DC.size)))) HM2.out b1.out.size ?_; intro z2 x2 O2 g2 hz2; have b2 := Lib.hid (grown_own b1.out b1.out.size O1 g2))
            | (refine at_slot 172 rfl ?_; refine load_row rfl 25 _ rfl y1.heap.size rfl (RA.out _ (DC.trans (b2.out.mono DC.size))) Try.underlying25 rfl infoDfa ?_))
          have HL := Lib.hid (both_nums O2)
          have DC2 := Lib.hid (DC.trans (b2.out.mono DC.size))
          have DX := Below.refl x2.heap.size x2
          clear DC O1 O2 g1 g2 hz1 hz2 b1 b2 HLX
          have DC := DC2.out
          refine (HT1.out _ _ _ (VA.out _ DC) (YY.out _ DC)).mono ?_
          rintro e v11 ⟨rfl, hb11⟩
          have X11 := DX.trans (hb11.mono DX.size)
          clear DX DC hb11
          have DX := X11
          clear X11
          have DC := DC2.out.trans (DX.mono DC2.out.size)
          go_wp2_with (first
            | (refine at_slot 185 rfl ?_; refine load_row rfl 25 _ rfl y2.heap.size rfl (RB.out _ DC) Try.underlying25 rfl infoDfa ?_))
          refine (HT2.out _ _ _ (VB.out _ DC) (YY.out _ DC)).mono ?_
          rintro e v12 ⟨rfl, hb12⟩
          have X12 := DX.trans (hb12.mono DX.size)
          clear DX DC hb12
          have DX := X12
          clear X12
          have DC := DC2.out.trans (DX.mono DC2.out.size)
          go_wp2_with (first
            | (refine at_slot 192 rfl ?_; refine load_row rfl 25 _ rfl y2.heap.size rfl (RB.out _ DC) Try.underlying25 rfl infoDfa ?_))
          refine (HT3.out _ _ _ (VB.out _ DC) (HL.out.stays DX)).mono ?_
          rintro e v13 ⟨rfl, hb13⟩
          have X13 := DX.trans (hb13.mono DX.size)
          clear DX DC hb13
          have DX := X13
          clear X13
          have DC := DC2.out.trans (DX.mono DC2.out.size)
          go_wp2_with fail
          refine (HSY.out _ _ (YY.out _ DC)).mono ?_
          rintro e v14 ⟨rfl, rfl⟩
          go_wp2_with (first
            | (refine at_slot 201 rfl ?_; refine load_row rfl 25 _ rfl y3.heap.size rfl (RC.out _ DC) Try.underlying25 rfl infoDfa ?_))
          refine (HT4.out _ _ _ (VC.out _ DC) (YY.out _ DC)).mono ?_
          rintro e v15 ⟨rfl, hb15⟩
          have X15 := DX.trans (hb15.mono DX.size)
          clear DX DC hb15
          have DX := X15
          clear X15
          have DC := DC2.out.trans (DX.mono DC2.out.size)
          go_wp2_with (first
            | (refine at_slot 207 rfl ?_; refine load_row rfl 25 _ rfl y1.heap.size rfl (RA.out _ DC) Try.underlying25 rfl infoDfa ?_))
          refine (HT5.out _ _ _ (VA.out _ DC) (XX.out _ DC)).mono ?_
          rintro e v16 ⟨rfl, hb16⟩
          have X16 := DX.trans (hb16.mono DX.size)
          clear DX DC hb16
          have DX := X16
          clear X16
          have DC := DC2.out.trans (DX.mono DC2.out.size)
          go_wp2
          go_ret
          exact ⟨rfl, HB3.out.trans (DC.mono HB3.out.size)⟩
      · rw [decide_eq_false hp] at HBG HT2
        have HT1 := Lib.hid (tells_as (Au.word_no F1.out.1 HS.out hy (fun a => hp a.1)) HYL.out)
        clear hp hy
        refine (HSY.out _ _ (YY.out _ DC)).mono ?_
        rintro e vy ⟨rfl, rfl⟩
        go_wp2_with fail
        refine (HBG.out _ _ _ (YY.out _ DC) (XX.out _ DC)).mono ?_
        rintro e vz ⟨rfl, hdz⟩
        have DZ := DC.trans ((hdz.below vy.heap.size).mono DC.size)
        clear DC hdz
        have DC := DZ
        clear DZ
        have HLX := Lib.hid (nums_lies (XX.out _ (DC.alloc DC.size (.cells #[] 3))))
        go_wp2_with (first
          | (refine at_slot 167 rfl ?_; refine build_slice_none rfl rfl Try.underlying22 infoI15 ?_)
          | (refine at_slot 169 rfl ?_; refine append_lies (enc := oneI) (xs := x) rfl _ _ rfl Try.underlying22 infoNum rfl (by decide) (by decide) rfl (own_empty (by decide)) rfl (fun n _ => oneI_size n) (fun n _ => oneI_one n) HLX.out HM1.out (by simp) ?_; intro z1 x1 O1 g1 hz1; have b1 := Lib.hid (grown_new g1 rfl))
          | (refine at_slot 171 rfl ?_; refine append_lies (enc := oneI) (xs := y) rfl _ _ rfl Try.underlying22 infoNum rfl (by decide) (by decide) rfl O1 rfl (fun n _ => oneI_size n) (fun n _ => oneI_one n) (nums_lies (YY.out _ (DC.trans (b1.out.mono DC.size)))) HM2.out b1.out.size ?_; intro z2 x2 O2 g2 hz2; have b2 := Lib.hid (grown_own b1.out b1.out.size O1 g2))
          | (refine at_slot 172 rfl ?_; refine load_row rfl 25 _ rfl y1.heap.size rfl (RA.out _ (DC.trans (b2.out.mono DC.size))) Try.underlying25 rfl infoDfa ?_))
        have HL := Lib.hid (both_nums O2)
        have DC2 := Lib.hid (DC.trans (b2.out.mono DC.size))
        have DX := Below.refl x2.heap.size x2
        clear DC O1 O2 g1 g2 hz1 hz2 b1 b2 HLX
        have DC := DC2.out
        refine (HT1.out _ _ _ (VA.out _ DC) (YY.out _ DC)).mono ?_
        rintro e v11 ⟨rfl, hb11⟩
        have X11 := DX.trans (hb11.mono DX.size)
        clear DX DC hb11
        have DX := X11
        clear X11
        have DC := DC2.out.trans (DX.mono DC2.out.size)
        go_wp2_with (first
          | (refine at_slot 185 rfl ?_; refine load_row rfl 25 _ rfl y2.heap.size rfl (RB.out _ DC) Try.underlying25 rfl infoDfa ?_))
        refine (HT2.out _ _ _ (VB.out _ DC) (YY.out _ DC)).mono ?_
        rintro e v12 ⟨rfl, hb12⟩
        have X12 := DX.trans (hb12.mono DX.size)
        clear DX DC hb12
        have DX := X12
        clear X12
        have DC := DC2.out.trans (DX.mono DC2.out.size)
        go_wp2_with (first
          | (refine at_slot 192 rfl ?_; refine load_row rfl 25 _ rfl y2.heap.size rfl (RB.out _ DC) Try.underlying25 rfl infoDfa ?_))
        refine (HT3.out _ _ _ (VB.out _ DC) (HL.out.stays DX)).mono ?_
        rintro e v13 ⟨rfl, hb13⟩
        have X13 := DX.trans (hb13.mono DX.size)
        clear DX DC hb13
        have DX := X13
        clear X13
        have DC := DC2.out.trans (DX.mono DC2.out.size)
        go_wp2_with fail
        refine (HSY.out _ _ (YY.out _ DC)).mono ?_
        rintro e v14 ⟨rfl, rfl⟩
        go_wp2_with (first
          | (refine at_slot 201 rfl ?_; refine load_row rfl 25 _ rfl y3.heap.size rfl (RC.out _ DC) Try.underlying25 rfl infoDfa ?_))
        refine (HT4.out _ _ _ (VC.out _ DC) (YY.out _ DC)).mono ?_
        rintro e v15 ⟨rfl, hb15⟩
        have X15 := DX.trans (hb15.mono DX.size)
        clear DX DC hb15
        have DX := X15
        clear X15
        have DC := DC2.out.trans (DX.mono DC2.out.size)
        go_wp2_with (first
          | (refine at_slot 207 rfl ?_; refine load_row rfl 25 _ rfl y1.heap.size rfl (RA.out _ DC) Try.underlying25 rfl infoDfa ?_))
        refine (HT5.out _ _ _ (VA.out _ DC) (XX.out _ DC)).mono ?_
        rintro e v16 ⟨rfl, hb16⟩
        have X16 := DX.trans (hb16.mono DX.size)
        clear DX DC hb16
        have DX := X16
        clear X16
        have DC := DC2.out.trans (DX.mono DC2.out.size)
        go_wp2
        go_ret
        exact ⟨rfl, HB3.out.trans (DC.mono HB3.out.size)⟩
end Go.Proofs.Ytdidogcgoghdmaa
