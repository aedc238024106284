/- The walks of Civil, of the package and of the reference. -/
import Derived.Test.YtpimaobejjpffaaGreatDoorSearch
namespace Go.Proofs.YtpimaobejjpffaaGreatDoor
open Go.RowKit
theorem results_tmp4 {fn : Func} {t u v x : Tmp} (h : fn.results = #[.tmp t, .tmp u, .tmp v, .tmp x]) (tmps : Array Value) (P : Program) (w : World) :
    (results fn tmps).run P w = .ok (.tuple #[tmps.getD t undef, tmps.getD u undef, tmps.getD v undef, tmps.getD x undef]) w := by
  simp [results, h]
def civY (o : Option (Int × Int × Int)) : Int := match o with | some t => t.1 | none => 0
def civM (o : Option (Int × Int × Int)) : Int := match o with | some t => t.2.1 | none => 0
def civD (o : Option (Int × Int × Int)) : Int := match o with | some t => t.2.2 | none => 0
/-- A date and whether there is one; new memory. -/
def CivPost (o : Option (Int × Int × Int)) (w : World) (e : Ending) (w' : World) : Prop :=
  e = .returned (.tuple #[.int .i64 (civY o), .int .i64 (civM o), .int .i64 (civD o), .bool o.isSome]) ∧ Below w.heap.size w w'
theorem civ_none {o : Option (Int × Int × Int)} (h : o = none) {w w' : World} (hb : Below w.heap.size w w') : CivPost o w (.returned (.tuple #[.int .i64 0, .int .i64 0, .int .i64 0, .bool false])) w' := by subst h; exact ⟨rfl, hb⟩
theorem civ_some {o : Option (Int × Int × Int)} {y m d : Int} (h : o = some (y, m, d)) {w w' : World} (hb : Below w.heap.size w w') : CivPost o w (.returned (.tuple #[.int .i64 y, .int .i64 m, .int .i64 d, .bool true])) w' := by subst h; exact ⟨rfl, hb⟩
set_option maxRecDepth 100000 in
set_option maxHeartbeats 4000000 in
theorem civil_calls (n : Int) (w : World) (hw : Cal w) : Calls Tryz.prog 62 #[.int .i64 n] w (CivPost (Dt.civil n) w) := by
  have HN1 : Hid (∀ W, Calls Tryz.prog 63 #[.int .i64 1601] W fun e w' => e = .returned (.int .i64 (-134774)) ∧ W = w') := Lib.hid (fun W => newYear_calls 1601 W (by omega) (by omega))
  have HN2 : Hid (∀ W, Calls Tryz.prog 63 #[.int .i64 10000] W fun e w' => e = .returned (.int .i64 2932897) ∧ W = w') := Lib.hid (fun W => newYear_calls 10000 W (by omega) (by omega))
  have R0 := Row.new w 2 #[.int .i64 n]
  have B0 := (Below.refl w.heap.size w).alloc (Nat.le_refl _) (.cells #[.int .i64 n] 2)
  have HP0 := Lib.hid (fun (h : Dt.civil n = none) w' (hb : Below w.heap.size w w') => civ_none h hb)
  have HP1 := Lib.hid (fun y m d (h : Dt.civil n = some (y, m, d)) w' (hb : Below w.heap.size w w') => civ_some h hb)
  generalize hpost : CivPost (Dt.civil n) w = post at *
  clear hpost
  by_cases k1 : n < -134774
  · have KK := Lib.hid k1
    have HR := Lib.hid (HP0.out (Dt.civil_none.2 (.inl k1)))
    go_enter Tryz.func62, Tryz.ntmps62
    go_wp2_with fail
    generalize w.alloc (.cells #[.int .i64 n] 2) = w0 at *
    have D0 := R0.cell 0
    have HD : Hid (∀ W, Below w0.heap.size w0 W → W.cell? ⟨w.heap.size, 0, none⟩ = some (.int .i64 n)) := Lib.hid (fun W hC => (hC.cell (block_lt_of_cell D0)).trans D0)
    have C1 := Lib.hid (fun W (hC : Below w0.heap.size w0 W) => on_at hC (HN1.out W))
    have t1 : decide (n < -134774) = true := decide_eq_true KK.out
    refine region_quiet (C := fun W => Below w0.heap.size w0 W) (by kernel_rfl) (by kernel_rfl) (Below.refl _ _).drew ?_
    refine q_yields (v := .int .i64 n) (Or.inl ⟨by rfl, fun wq hC => by have hcell := HD.out wq hC; go_simp; try with_reducible rfl⟩) ?_
    simp only [Act.put, List.setIfInBounds_toArray, List.set_cons_zero, List.set_cons_succ]
    refine q_call (by rfl) (.int .i64 (-134774)) (fun wq hC => by unfold Oper.quietAt; go_simp; exact C1.out wq hC) ?_
    simp only [Act.put, List.setIfInBounds_toArray, List.set_cons_zero, List.set_cons_succ]
    refine q_yields (v := ?_) (Or.inl ⟨by rfl, ?_⟩) ?_
    rotate_left
    · intro _ _; go_simp; with_reducible rfl
    simp only [Act.put, List.setIfInBounds_toArray, List.set_cons_zero, List.set_cons_succ]
    refine q_yields (v := ?_) (Or.inl ⟨by rfl, ?_⟩) ?_
    rotate_left
    · intro _ _; go_simp; with_reducible rfl
    simp only [Act.put, List.setIfInBounds_toArray, List.set_cons_zero, List.set_cons_succ]
    refine q_yields (Or.inr ⟨by rfl, rfl⟩) ?_
    simp only [Act.put, List.setIfInBounds_toArray, List.set_cons_zero, List.set_cons_succ]
    refine q_yields (Or.inr ⟨by rfl, rfl⟩) ?_
    simp only [Act.put, List.setIfInBounds_toArray, List.set_cons_zero, List.set_cons_succ]
    refine q_yields (Or.inr ⟨by rfl, rfl⟩) ?_
    simp only [Act.put, List.setIfInBounds_toArray, List.set_cons_zero, List.set_cons_succ]
    refine q_yields (v := ?_) (Or.inl ⟨by rfl, ?_⟩) ?_
    rotate_left
    · intro _ _; go_simp; with_reducible rfl
    simp only [Act.put, List.setIfInBounds_toArray, List.set_cons_zero, List.set_cons_succ]
    refine wpQuiet_nil ?_
    intro w1 hC
    go_wp2
    refine bodyPost_ret (results_tmp4 rfl _ _ _) rfl ?_
    exact HR.out _ (B0.trans (hC.mono B0.size))
  · by_cases k2 : (2932897 : Int) ≤ n
    · have KK := Lib.hid k2
      have HR := Lib.hid (HP0.out (Dt.civil_none.2 (.inr (by omega))))
      go_enter Tryz.func62, Tryz.ntmps62
      go_wp2_with fail
      generalize w.alloc (.cells #[.int .i64 n] 2) = w0 at *
      have D0 := R0.cell 0
      have HD : Hid (∀ W, Below w0.heap.size w0 W → W.cell? ⟨w.heap.size, 0, none⟩ = some (.int .i64 n)) := Lib.hid (fun W hC => (hC.cell (block_lt_of_cell D0)).trans D0)
      have C1 := Lib.hid (fun W (hC : Below w0.heap.size w0 W) => on_at hC (HN1.out W))
      have C2 := Lib.hid (fun W (hC : Below w0.heap.size w0 W) => on_at hC (HN2.out W))
      have t1 : decide (n < -134774) = false := decide_eq_false (by have := KK.out; omega)
      have t2 : decide (2932897 ≤ n) = true := decide_eq_true KK.out
      refine region_quiet (C := fun W => Below w0.heap.size w0 W) (by kernel_rfl) (by kernel_rfl) (Below.refl _ _).drew ?_
      refine q_yields (v := .int .i64 n) (Or.inl ⟨by rfl, fun wq hC => by have hcell := HD.out wq hC; go_simp; try with_reducible rfl⟩) ?_
      simp only [Act.put, List.setIfInBounds_toArray, List.set_cons_zero, List.set_cons_succ]
      refine q_call (by rfl) (.int .i64 (-134774)) (fun wq hC => by unfold Oper.quietAt; go_simp; exact C1.out wq hC) ?_
      simp only [Act.put, List.setIfInBounds_toArray, List.set_cons_zero, List.set_cons_succ]
      refine q_yields (v := ?_) (Or.inl ⟨by rfl, ?_⟩) ?_
      rotate_left
      · intro _ _; go_simp; with_reducible rfl
      simp only [Act.put, List.setIfInBounds_toArray, List.set_cons_zero, List.set_cons_succ]
      refine q_yields (v := ?_) (Or.inl ⟨by rfl, ?_⟩) ?_
      rotate_left
      · intro _ _; go_simp; with_reducible rfl
      simp only [Act.put, List.setIfInBounds_toArray, List.set_cons_zero, List.set_cons_succ]
      refine q_yields (v := .int .i64 n) (Or.inl ⟨by rfl, fun wq hC => by have hcell := HD.out wq hC; go_simp; try with_reducible rfl⟩) ?_
      simp only [Act.put, List.setIfInBounds_toArray, List.set_cons_zero, List.set_cons_succ]
      refine q_call (by rfl) (.int .i64 2932897) (fun wq hC => by unfold Oper.quietAt; go_simp; exact C2.out wq hC) ?_
      simp only [Act.put, List.setIfInBounds_toArray, List.set_cons_zero, List.set_cons_succ]
      refine q_yields (v := ?_) (Or.inl ⟨by rfl, ?_⟩) ?_
      rotate_left
      · intro _ _; go_simp; with_reducible rfl
      simp only [Act.put, List.setIfInBounds_toArray, List.set_cons_zero, List.set_cons_succ]
      refine q_yields (v := ?_) (Or.inl ⟨by rfl, ?_⟩) ?_
      rotate_left
      · intro _ _; go_simp; with_reducible rfl
      simp only [Act.put, List.setIfInBounds_toArray, List.set_cons_zero, List.set_cons_succ]
      refine wpQuiet_nil ?_
      intro w1 hC
      go_wp2
      refine bodyPost_ret (results_tmp4 rfl _ _ _) rfl ?_
      exact HR.out _ (B0.trans (hC.mono B0.size))
    · have KK := Lib.hid (And.intro k1 k2)
      obtain ⟨y, y1, y2, y3, y4⟩ := Dt.year_of (d := n) (by omega) (by omega)
      have HS := Lib.hid (fun b W hd => search_calls n y b W hd y1 y2 y3 y4)
      have HNY := Lib.hid (fun W => newYear_calls y W (by omega) (by omega))
      have HM := Lib.hid (fun (j : Nat) W hW => monthLength_calls y j W hW (by omega))
      have hN : n - (Dt.before y - 134774) < Dt.yday y := by have := Dt.before_step y; omega
      have hyb := Dt.yday_bounds y
      have HN := Lib.hid hN
      have HST := Lib.hid (Dt.InYear.start (y := y) (n := n - (Dt.before y - 134774)) (by omega))
      have HSTOP := Lib.hid (fun m r (h : Dt.InYear y (n - (Dt.before y - 134774)) m r) hr => HP1.out _ _ _ (h.stop (d := n) (by omega) (by omega) (by omega) hr))
      have hN0 : 0 ≤ n - (Dt.before y - 134774) := by omega
      have HE : Hid (Dt.before y - 134774 + (n - (Dt.before y - 134774)) = n) := Lib.hid (by omega)
      have hYb : -134774 ≤ Dt.before y - 134774 ∧ Dt.before y - 134774 ≤ 3000000 := by
        have a := Dt.before_mono (y := 1601) (z := y) (by omega)
        rw [Dt.before_first] at a
        omega
      clear y3 y4
      generalize hY : Dt.before y - 134774 = Y at *
      generalize hNN : n - Y = N at *
      have HLB := Lib.hid (fun (j : Int) => Dt.len_bounds (Dt.leap y) j)
      clear hY
      go_enter Tryz.func62, Tryz.ntmps62
      go_wp2_with fail
      generalize w.alloc (.cells #[.int .i64 n] 2) = w0 at *
      have D0 := R0.cell 0
      have HD : Hid (∀ W, Below w0.heap.size w0 W → W.cell? ⟨w.heap.size, 0, none⟩ = some (.int .i64 n)) := Lib.hid (fun W hC => (hC.cell (block_lt_of_cell D0)).trans D0)
      have C1 := Lib.hid (fun W (hC : Below w0.heap.size w0 W) => on_at hC (HN1.out W))
      have C2 := Lib.hid (fun W (hC : Below w0.heap.size w0 W) => on_at hC (HN2.out W))
      have t1 : decide (n < -134774) = false := decide_eq_false (by have := KK.out; omega)
      have t2 : decide (2932897 ≤ n) = false := decide_eq_false (by have := KK.out; omega)
      refine region_quiet (C := fun W => Below w0.heap.size w0 W) (by kernel_rfl) (by kernel_rfl) (Below.refl _ _).drew ?_
      refine q_yields (v := .int .i64 n) (Or.inl ⟨by rfl, fun wq hC => by have hcell := HD.out wq hC; go_simp; try with_reducible rfl⟩) ?_
      simp only [Act.put, List.setIfInBounds_toArray, List.set_cons_zero, List.set_cons_succ]
      refine q_call (by rfl) (.int .i64 (-134774)) (fun wq hC => by unfold Oper.quietAt; go_simp; exact C1.out wq hC) ?_
      simp only [Act.put, List.setIfInBounds_toArray, List.set_cons_zero, List.set_cons_succ]
      refine q_yields (v := ?_) (Or.inl ⟨by rfl, ?_⟩) ?_
      rotate_left
      · intro _ _; go_simp; with_reducible rfl
      simp only [Act.put, List.setIfInBounds_toArray, List.set_cons_zero, List.set_cons_succ]
      refine q_yields (v := ?_) (Or.inl ⟨by rfl, ?_⟩) ?_
      rotate_left
      · intro _ _; go_simp; with_reducible rfl
      simp only [Act.put, List.setIfInBounds_toArray, List.set_cons_zero, List.set_cons_succ]
      refine q_yields (v := .int .i64 n) (Or.inl ⟨by rfl, fun wq hC => by have hcell := HD.out wq hC; go_simp; try with_reducible rfl⟩) ?_
      simp only [Act.put, List.setIfInBounds_toArray, List.set_cons_zero, List.set_cons_succ]
      refine q_call (by rfl) (.int .i64 2932897) (fun wq hC => by unfold Oper.quietAt; go_simp; exact C2.out wq hC) ?_
      simp only [Act.put, List.setIfInBounds_toArray, List.set_cons_zero, List.set_cons_succ]
      refine q_yields (v := ?_) (Or.inl ⟨by rfl, ?_⟩) ?_
      rotate_left
      · intro _ _; go_simp; with_reducible rfl
      simp only [Act.put, List.setIfInBounds_toArray, List.set_cons_zero, List.set_cons_succ]
      refine q_yields (v := ?_) (Or.inl ⟨by rfl, ?_⟩) ?_
      rotate_left
      · intro _ _; go_simp; with_reducible rfl
      simp only [Act.put, List.setIfInBounds_toArray, List.set_cons_zero, List.set_cons_succ]
      refine wpQuiet_nil ?_
      intro w1 hC
      have D1 := HD.out w1 hC
      have B1 := B0.trans (hC.mono B0.size)
      clear D0 HD C1 C2 HN1 HN2 B0 R0 hC
      go_wp2_with (go_at_call 84; refine (HS.out _ _ D1).mono ?_; rintro e w2 ⟨rfl, b2⟩)
      have D2 := (b2.cell (block_lt_of_cell D1)).trans D1
      have B2 := B1.trans (b2.mono B1.size)
      have ey : IntKind.i64.wrap (1601 + ((y : Int) - 1601)) = (y : Int) := by rw [IntKind.wrap_i64]; omega
      have ey2 : 1601 + ((y : Int) - 1601) = (y : Int) := by omega
      have HD : Hid (∀ W, Below w2.heap.size w2 W → W.cell? ⟨w.heap.size, 0, none⟩ = some (.int .i64 n)) := Lib.hid (fun W hC => (hC.cell (block_lt_of_cell D2)).trans D2)
      have C1 := Lib.hid (fun W (hC : Below w2.heap.size w2 W) => on_at hC (HNY.out W))
      have e3 : IntKind.i64.wrap (n - Y) = N := by rw [IntKind.wrap_i64, hNN]; omega
      clear D1 B1 b2
      refine region_quiet (C := fun W => Below w2.heap.size w2 W) (by kernel_rfl) (by kernel_rfl) (Below.refl _ _).drew ?_
      refine q_yields (v := .int .i64 n) (Or.inl ⟨by rfl, fun wq hC => by have hcell := HD.out wq hC; go_simp; try with_reducible rfl⟩) ?_
      simp only [Act.put, List.setIfInBounds_toArray, List.set_cons_zero, List.set_cons_succ]
      refine q_yields (v := ?_) (Or.inl ⟨by rfl, ?_⟩) ?_
      rotate_left
      · intro _ _; go_simp; with_reducible rfl
      simp only [Act.put, List.setIfInBounds_toArray, List.set_cons_zero, List.set_cons_succ]
      refine q_call (by rfl) (.int .i64 Y) (fun wq hC => by unfold Oper.quietAt; go_simp; exact C1.out wq hC) ?_
      simp only [Act.put, List.setIfInBounds_toArray, List.set_cons_zero, List.set_cons_succ]
      refine q_yields (v := ?_) (Or.inl ⟨by rfl, ?_⟩) ?_
      rotate_left
      · intro _ _; go_simp; with_reducible rfl
      simp only [Act.put, List.setIfInBounds_toArray, List.set_cons_zero, List.set_cons_succ]
      refine q_yields (v := ?_) (Or.inl ⟨by rfl, ?_⟩) ?_
      rotate_left
      · intro _ _; go_simp; with_reducible rfl
      simp only [Act.put, List.setIfInBounds_toArray, List.set_cons_zero, List.set_cons_succ]
      refine q_yields (v := ?_) (Or.inl ⟨by rfl, ?_⟩) ?_
      rotate_left
      · intro _ _; go_simp; with_reducible rfl
      simp only [Act.put, List.setIfInBounds_toArray, List.set_cons_zero, List.set_cons_succ]
      refine wpQuiet_nil ?_
      intro w3 hC
      have B3 := B2.trans (hC.mono B2.size)
      have HW3 := hw.below B3
      clear D2 HD C1 HNY HS hC B2 t1 t2 k1 k2 HP0 HP1 hw e3
      have e4 : IntKind.i64.wrap N = N := by rw [IntKind.wrap_i64]; omega
      go_wp2
      simp only [e4, ey2]
      go_loop [7, 8] (fun a r => ∃ (m : Nat) (k : Int), a = .int .i64 m ∧ r = .int .i64 k ∧ Dt.InYear y N m k) (fun a _ => 13 - (intOf a).toNat)
      case atStart => exact ⟨1, N, rfl, rfl, HST.out⟩
      case round =>
        obtain ⟨m, k, rfl, rfl, hI⟩ := hrel
        obtain ⟨i1, i2, i3, i4⟩ := hI
        have HI := Lib.hid (Dt.InYear.mk (y := y) (n := N) i1 i2 i3 i4)
        have hmb := Dt.mon_bounds y i1 i2
        have hlb := HLB.out m
        have HMM := Lib.hid (fun W hW => HM.out m W hW (by omega) (by omega))
        have hk : k ≤ 400 := by omega
        by_cases hlt : Dt.len (Dt.leap y) m ≤ k
        · have HMore := Lib.hid (HI.out.more HN.out hlt)
          clear i4 hmb
          generalize Dt.len (Dt.leap y) m = z at *
          go_wp2_with (go_at_call 86; with_reducible refine (HMM.out _ HW3).mono ?_; rintro e w' ⟨rfl, rfl⟩)
          have h12 := HMore.out.high
          go_round
          case rel => exact ⟨m + 1, k - z, by go_num, rfl, HMore.out⟩
          case measure => simp [intOf]; omega
        · have HS := Lib.hid (HSTOP.out m k HI.out (by omega))
          clear i4 hmb
          generalize Dt.len (Dt.leap y) m = z at *
          go_wp2_with (go_at_call 86; with_reducible refine (HMM.out _ HW3).mono ?_; rintro e w' ⟨rfl, rfl⟩)
          refine bodyPost_ret (results_tmp4 rfl _ _ _) rfl ?_
          exact HS.out _ B3
end Go.Proofs.YtpimaobejjpffaaGreatDoor
