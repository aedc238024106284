/- The walk of date's Text. -/
import Derived.Test.YtpimaobejjpffaaGreatDoorCivil
import Derived.Test.YtpimaobejjpffaaGreatDoorTwoDigits
namespace Go.Proofs.YtpimaobejjpffaaGreatDoor
open Go.RowKit
theorem on_from {a b : World} {P : Ending → Prop} (hC : Below a.heap.size a b) {f : FuncId} {args : Array Value} (h : Calls Tryz.prog f args b fun e w' => P e ∧ Below b.heap.size b w') :
    Calls Tryz.prog f args b fun e w' => P e ∧ Below a.heap.size a w' :=
  h.mono fun _ _ ⟨h1, h2⟩ => ⟨h1, hC.trans (h2.mono hC.size)⟩
namespace Dt
theorem text_some {mo y m d : Int} (h : civil (mo / 86400) = some (y, m, d)) : text mo = dateT y m d (mo / 86400) (mo % 86400).toNat := by unfold text; rw [h]
/-- The parts of a moment, as the division towards nought gives them. -/
theorem cut_moment (mo : Int) : ∃ T R : Int, ∃ N : Nat, mo.tdiv 86400 = T ∧ mo.tmod 86400 = R ∧ N < 86400 ∧ (mo % 86400).toNat = N ∧ ((R < 0 ∧ mo / 86400 = T - 1 ∧ R + 86400 = (N : Int)) ∨ (¬ R < 0 ∧ mo / 86400 = T ∧ R = (N : Int))) := by
  refine ⟨_, _, (mo % 86400).toNat, rfl, rfl, by omega, rfl, ?_⟩
  obtain ⟨h1, h2⟩ := cut_days mo
  have e := Int.tmod_add_mul_tdiv mo 86400
  by_cases h : mo.tmod 86400 < 0
  · have := h1 h
    exact .inl ⟨h, this, by omega⟩
  · have := h2 (by omega)
    exact .inr ⟨h, this.1, by omega⟩
theorem tdiv_small {mo : Int} (h1 : -9223372036854775808 ≤ mo) (h2 : mo ≤ 9223372036854775807) : -106751991167301 ≤ mo.tdiv 86400 ∧ mo.tdiv 86400 ≤ 106751991167301 ∧ -86400 ≤ mo.tmod 86400 ∧ mo.tmod 86400 < 86400 := by
  obtain ⟨h3, h4⟩ := cut_days mo
  have e1 := Int.tmod_add_mul_tdiv mo 86400
  have e2 : mo.tmod 86400 < 86400 := Int.tmod_lt_of_pos _ (by omega)
  by_cases h : mo.tmod 86400 < 0
  · have := h3 h; omega
  · have := h4 (by omega); omega
end Dt
/-- The parts of a date's text. -/
theorem date_bytes {W E M Y C : ByteArray} {y m d k : Int} {n : Nat} (hW : W = ⟨(Dt.wname k).toArray⟩) (hE : E = ⟨(Dt.two d.toNat).toArray⟩) (hM : M = ⟨(Dt.mname m).toArray⟩) (hY : Y = ⟨(Dt.two (y.toNat / 100) ++ Dt.two (y.toNat % 100)).toArray⟩) (hC : C = ⟨(Dt.clock n).toArray⟩) :
    W ++ ⟨#[44, 32]⟩ ++ E ++ ⟨#[32]⟩ ++ M ++ ⟨#[32]⟩ ++ Y ++ ⟨#[32]⟩ ++ C ++ ⟨#[32, 71, 77, 84]⟩ = ⟨(Dt.dateT y m d k n).toArray⟩ := by
  subst hW hE hM hY hC
  apply ByteArray.ext
  simp [ByteArray.data_append, Dt.dateT]
theorem bytes_size (l : List UInt8) : (⟨l.toArray⟩ : ByteArray).size = l.length := by show (List.toArray _).size = _; simp
set_option maxRecDepth 100000 in
set_option maxHeartbeats 4000000 in
theorem text_calls (mo : Int) (w : World) (hw : Cal w) (hlo : -9223372036854775808 ≤ mo) (hhi : mo ≤ 9223372036854775807) : Calls Tryz.prog 43 #[.int .i64 mo] w (TextPost (Dt.text mo) w) := by
  have hsm := Dt.tdiv_small hlo hhi
  obtain ⟨T, R, N, hT, hR, hN, hNN, hor⟩ := Dt.cut_moment mo
  rw [hT, hR] at hsm
  obtain ⟨t1, t2, t3, t4⟩ := hsm
  have HNY : Hid (∀ W, Calls Tryz.prog 63 #[.int .i64 1601] W fun e w' => e = .returned (.int .i64 (-134774)) ∧ W = w') := Lib.hid (fun W => newYear_calls 1601 W (by omega) (by omega))
  obtain ⟨D, hD⟩ : ∃ D, mo / 86400 = D := ⟨_, rfl⟩
  rw [hD] at hor
  have HC := Lib.hid (fun W hW => civil_calls D W hW)
  have HP0 := Lib.hid (fun (h : Dt.civil D = none) => show Dt.text mo = [] from Dt.text_none (by rw [hD]; exact h))
  have HP1 := Lib.hid (fun y m d (h : Dt.civil D = some (y, m, d)) => show Dt.text mo = Dt.dateT y m d D N from by rw [Dt.text_some (by rw [hD]; exact h), hD, hNN])
  generalize Dt.text mo = res at *
  clear hD hNN
  cases hc : Dt.civil D with
  | none =>
    rw [hc] at HC
    have HR := Lib.hid (HP0.out hc)
    unfold CivPost at HC
    clear HP0 HP1 hc
    rcases hor with ⟨r1, r2, r3⟩ | ⟨r1, r2, r3⟩
    all_goals
      subst r2
      go_enter Tryz.func43, Tryz.ntmps43
      go_wp2_with (go_at_call 62; refine (HC.out _ hw).mono ?_; rintro e w1 ⟨rfl, b1⟩)
      go_ret
      exact ⟨ret_str (by rw [HR.out]), b1⟩
  | some t =>
    obtain ⟨y, m, d⟩ := t
    rw [hc] at HC
    have HR := Lib.hid (HP1.out y m d hc)
    obtain ⟨hI, hdd⟩ := Dt.civil_some.1 hc
    have hdb := Dt.days_bounds hI
    rw [hdd] at hdb
    have HCC : Hid (∀ W, Cal W → Calls Tryz.prog 62 #[.int .i64 D] W fun e w' => e = .returned (.tuple #[.int .i64 y, .int .i64 m, .int .i64 d, .bool true]) ∧ Below W.heap.size W w') := HC
    clear HC HP0 HP1 hc hdd
    obtain ⟨y1, y2, m1, m2, d1, d2⟩ := hI
    have hlb := Dt.len_bounds (Dt.leap y) m
    obtain ⟨Y, rfl⟩ : ∃ Y : Nat, y = Y := ⟨y.toNat, by omega⟩
    obtain ⟨M, rfl⟩ : ∃ M : Nat, m = M := ⟨m.toNat, by omega⟩
    obtain ⟨E, rfl⟩ : ∃ E : Nat, d = E := ⟨d.toNat, by omega⟩
    obtain ⟨J, hJ⟩ : ∃ J : Nat, (D + 134774) % 7 = (J : Int) := ⟨((D + 134774) % 7).toNat, by omega⟩
    have hJ2 : J < 7 := by omega
    have HW := Lib.hid (Dt.wday D)
    have HMN := Lib.hid (Dt.mname_at m1 m2)
    rw [hJ, Int.toNat_natCast] at HW
    have eM : ((M : Int) - 1).toNat = M - 1 := by omega
    rw [eM] at HMN
    obtain ⟨w3, hw3⟩ : ∃ w3 : ByteArray, w3 = ⟨(Dt.wname D).toArray⟩ := ⟨_, rfl⟩
    obtain ⟨me, hme⟩ : ∃ w3 : ByteArray, w3 = ⟨(Dt.mname M).toArray⟩ := ⟨_, rfl⟩
    obtain ⟨e2, he2⟩ : ∃ w3 : ByteArray, w3 = ⟨(Dt.two E).toArray⟩ := ⟨_, rfl⟩
    obtain ⟨y4, hy4⟩ : ∃ w3 : ByteArray, w3 = ⟨(Dt.two (Y / 100) ++ Dt.two (Y % 100)).toArray⟩ := ⟨_, rfl⟩
    obtain ⟨c8, hc8⟩ : ∃ w3 : ByteArray, w3 = ⟨(Dt.clock N).toArray⟩ := ⟨_, rfl⟩
    have HT := Lib.hid (date_bytes (y := Y) (m := M) (d := E) hw3 he2 hme hy4 hc8)
    have s3 : w3.size = 3 := by rw [hw3, bytes_size, Dt.wname_length]
    have sm : me.size = 3 := by rw [hme, bytes_size, Dt.mname_length m1 m2]
    have s2 : e2.size = 2 := by rw [he2]; rfl
    have s4 : y4.size = 4 := by rw [hy4]; rfl
    have s8 : c8.size = 8 := by rw [hc8]; rfl
    have HDay : Hid (∀ W, Cal W → W.cell? ⟨1, J, none⟩ = some (.string w3)) := Lib.hid (fun W h => by rw [hw3]; exact h.day HW.out)
    have HMon : Hid (∀ W, Cal W → W.cell? ⟨2, M - 1, none⟩ = some (.string me)) := Lib.hid (fun W h => by rw [hme]; exact h.name HMN.out)
    have HE : Hid (∀ W, Calls Tryz.prog 64 #[.int .i64 (E : Int)] W fun e w' => e = .returned (.string e2) ∧ Below W.heap.size W w') := Lib.hid (fun W => by rw [he2]; exact twoDigits_calls E (by omega) W)
    have HY : Hid (∀ W, Cal W → Calls Tryz.prog 65 #[.int .i64 (Y : Int)] W fun e w' => e = .returned (.string y4) ∧ Below W.heap.size W w') := Lib.hid (fun W h => by
      have := itoa_calls Y W h.std (by omega)
      rw [Dt.dec_year (by omega) (by omega), ← hy4] at this
      exact this)
    have HCl : Hid (∀ W, Calls Tryz.prog 66 #[.int .i64 (N : Int)] W fun e w' => e = .returned (.string c8) ∧ Below W.heap.size W w') := Lib.hid (fun W => by rw [hc8]; exact timeText_calls N hN W)
    have q1 : (D - -134774).tmod 7 = (J : Int) := by rw [Int.tmod_eq_emod_of_nonneg (by omega)]; omega
    have q2 : (D + 134774).tmod 7 = (J : Int) := by rw [Int.tmod_eq_emod_of_nonneg (by omega)]; omega
    have j1 : (J : Int) < 7 := by omega
    have M0 : IntKind.i64.wrap ((M : Int) - 1) = (M : Int) - 1 := by rw [IntKind.wrap_i64]; omega
    have M1 : (0 : Int) ≤ (M : Int) - 1 := by omega
    have M2 : (M : Int) - 1 < 12 := by omega
    clear hw3 hme he2 hy4 hc8 HW HMN
    have p0 : ¬ 9223372036854775807 < w3.size + 2 := by omega
    have p1 : ¬ 9223372036854775807 < w3.size + 2 + e2.size := by omega
    have p2 : ¬ 9223372036854775807 < w3.size + 2 + e2.size + 1 := by omega
    have p3 : ¬ 9223372036854775807 < w3.size + 2 + e2.size + 1 + me.size := by omega
    have p4 : ¬ 9223372036854775807 < w3.size + 2 + e2.size + 1 + me.size + 1 := by omega
    have p5 : ¬ 9223372036854775807 < w3.size + 2 + e2.size + 1 + me.size + 1 + y4.size := by omega
    have p6 : ¬ 9223372036854775807 < w3.size + 2 + e2.size + 1 + me.size + 1 + y4.size + 1 := by omega
    have p7 : ¬ 9223372036854775807 < w3.size + 2 + e2.size + 1 + me.size + 1 + y4.size + 1 + c8.size := by omega
    have p8 : ¬ 9223372036854775807 < w3.size + 2 + e2.size + 1 + me.size + 1 + y4.size + 1 + c8.size + 4 := by omega
    rcases hor with ⟨r1, r2, r3⟩ | ⟨r1, r2, r3⟩
    all_goals
      have z1 : IntKind.i64.wrap T = T := by rw [IntKind.wrap_i64]; omega
      have z2 : IntKind.i64.wrap R = R := by rw [IntKind.wrap_i64]; omega
      subst r2
      first | subst r3 | skip
      go_enter Tryz.func43, Tryz.ntmps43
      go_wp2_with fail
      refine (HCC.out _ hw).mono ?_
      rintro e w1 ⟨rfl, b1⟩
      have HW1 := hw.below b1
      go_wp2_with fail
      refine (HNY.out _).mono ?_
      rintro e w2 ⟨rfl, rfl⟩
      have hday := HDay.out _ HW1
      go_wp2_with fail
      have CD := Lib.hid (fun W (hC : Below w1.heap.size w1 W) => HW1.below hC)
      have C1 := Lib.hid (fun W (hC : Below w1.heap.size w1 W) => on_from hC (HE.out W))
      have C2 := Lib.hid (fun W (hC : Below w1.heap.size w1 W) => on_from hC (HY.out W (CD.out W hC)))
      have C3 := Lib.hid (fun W (hC : Below w1.heap.size w1 W) => on_from hC (HCl.out W))
      have CM := Lib.hid (fun W (hC : Below w1.heap.size w1 W) => HMon.out W (CD.out W hC))
      refine region_quiet (C := fun W => Below w1.heap.size w1 W) (by kernel_rfl) (by kernel_rfl) (Below.refl _ _).drew ?_
      refine q_yields (v := ?_) (Or.inl ⟨by rfl, ?_⟩) ?_
      rotate_left
      · intro _ _; go_simp; with_reducible rfl
      simp only [Act.put, List.setIfInBounds_toArray, List.set_cons_zero, List.set_cons_succ]
      refine q_yields (v := ?_) (Or.inl ⟨by rfl, ?_⟩) ?_
      rotate_left
      · intro _ _; go_simp; with_reducible rfl
      simp only [Act.put, List.setIfInBounds_toArray, List.set_cons_zero, List.set_cons_succ]
      refine q_yields (v := ?_) (Or.inl ⟨by rfl, ?_⟩) ?_
      rotate_left
      · intro _ _; go_simp; with_reducible rfl
      simp only [Act.put, List.setIfInBounds_toArray, List.set_cons_zero, List.set_cons_succ]
      refine q_call (by rfl) (.string e2) (fun wq hC => by unfold Oper.quietAt; go_simp; exact C1.out wq hC) ?_
      simp only [Act.put, List.setIfInBounds_toArray, List.set_cons_zero, List.set_cons_succ]
      refine q_yields (v := ?_) (Or.inl ⟨by rfl, ?_⟩) ?_
      rotate_left
      · intro _ _; go_simp; with_reducible rfl
      simp only [Act.put, List.setIfInBounds_toArray, List.set_cons_zero, List.set_cons_succ]
      refine q_yields (v := ?_) (Or.inl ⟨by rfl, ?_⟩) ?_
      rotate_left
      · intro _ _; go_simp; with_reducible rfl
      simp only [Act.put, List.setIfInBounds_toArray, List.set_cons_zero, List.set_cons_succ]
      refine q_yields (v := ?_) (Or.inl ⟨by rfl, ?_⟩) ?_
      rotate_left
      · intro _ _; go_simp; with_reducible rfl
      simp only [Act.put, List.setIfInBounds_toArray, List.set_cons_zero, List.set_cons_succ]
      refine q_yields (v := ?_) (Or.inl ⟨by rfl, ?_⟩) ?_
      rotate_left
      · intro _ _; go_simp; with_reducible rfl
      simp only [Act.put, List.setIfInBounds_toArray, List.set_cons_zero, List.set_cons_succ]
      refine q_yields (v := ?_) (Or.inl ⟨by rfl, ?_⟩) ?_
      rotate_left
      · intro _ _; go_simp; with_reducible rfl
      simp only [Act.put, List.setIfInBounds_toArray, List.set_cons_zero, List.set_cons_succ]
      refine q_yields (v := .string me) (Or.inl ⟨by rfl, fun wq hC => by have hcell := CM.out wq hC; go_simp; try with_reducible rfl⟩) ?_
      simp only [Act.put, List.setIfInBounds_toArray, List.set_cons_zero, List.set_cons_succ]
      refine q_yields (v := ?_) (Or.inl ⟨by rfl, ?_⟩) ?_
      rotate_left
      · intro _ _; go_simp; with_reducible rfl
      simp only [Act.put, List.setIfInBounds_toArray, List.set_cons_zero, List.set_cons_succ]
      refine q_yields (v := ?_) (Or.inl ⟨by rfl, ?_⟩) ?_
      rotate_left
      · intro _ _; go_simp; with_reducible rfl
      simp only [Act.put, List.setIfInBounds_toArray, List.set_cons_zero, List.set_cons_succ]
      refine q_yields (v := ?_) (Or.inl ⟨by rfl, ?_⟩) ?_
      rotate_left
      · intro _ _; go_simp; with_reducible rfl
      simp only [Act.put, List.setIfInBounds_toArray, List.set_cons_zero, List.set_cons_succ]
      refine q_call (by rfl) (.string y4) (fun wq hC => by unfold Oper.quietAt; go_simp; exact C2.out wq hC) ?_
      simp only [Act.put, List.setIfInBounds_toArray, List.set_cons_zero, List.set_cons_succ]
      refine q_yields (v := ?_) (Or.inl ⟨by rfl, ?_⟩) ?_
      rotate_left
      · intro _ _; go_simp; with_reducible rfl
      simp only [Act.put, List.setIfInBounds_toArray, List.set_cons_zero, List.set_cons_succ]
      refine q_yields (v := ?_) (Or.inl ⟨by rfl, ?_⟩) ?_
      rotate_left
      · intro _ _; go_simp; with_reducible rfl
      simp only [Act.put, List.setIfInBounds_toArray, List.set_cons_zero, List.set_cons_succ]
      refine q_yields (v := ?_) (Or.inl ⟨by rfl, ?_⟩) ?_
      rotate_left
      · intro _ _; go_simp; with_reducible rfl
      simp only [Act.put, List.setIfInBounds_toArray, List.set_cons_zero, List.set_cons_succ]
      refine q_call (by rfl) (.string c8) (fun wq hC => by unfold Oper.quietAt; go_simp; exact C3.out wq hC) ?_
      simp only [Act.put, List.setIfInBounds_toArray, List.set_cons_zero, List.set_cons_succ]
      refine q_yields (v := ?_) (Or.inl ⟨by rfl, ?_⟩) ?_
      rotate_left
      · intro _ _; go_simp; with_reducible rfl
      simp only [Act.put, List.setIfInBounds_toArray, List.set_cons_zero, List.set_cons_succ]
      refine q_yields (v := ?_) (Or.inl ⟨by rfl, ?_⟩) ?_
      rotate_left
      · intro _ _; go_simp; with_reducible rfl
      simp only [Act.put, List.setIfInBounds_toArray, List.set_cons_zero, List.set_cons_succ]
      refine q_yields (v := ?_) (Or.inl ⟨by rfl, ?_⟩) ?_
      rotate_left
      · intro _ _; go_simp; with_reducible rfl
      simp only [Act.put, List.setIfInBounds_toArray, List.set_cons_zero, List.set_cons_succ]
      refine wpQuiet_nil ?_
      intro w3' hC
      go_wp2
      go_ret
      exact ⟨ret_str (by rw [HT.out, HR.out]), b1.trans (hC.mono b1.size)⟩
end Go.Proofs.YtpimaobejjpffaaGreatDoor
