/- The walks of sort.Search over the closure of Civil, and of Civil itself. -/
import Derived.Test.YtpimaobejjpffaaGreatDoorDateDays
import Derived.Test.YtpimaobejjpffaaGreatDoorQuiet
import Derived.Deep.LoopGhost
import Derived.Deep.QuietTactic
import Derived.BigQuiet
namespace Go.Proofs.YtpimaobejjpffaaGreatDoor
open Go.RowKit
theorem on_at {a b : World} {P : Ending → Prop} (hC : Below a.heap.size a b) {f : FuncId} {args : Array Value} (h : Calls Tryz.prog f args b fun e w' => P e ∧ b = w') :
    Calls Tryz.prog f args b fun e w' => P e ∧ Below a.heap.size a w' :=
  h.mono fun _ _ ⟨h1, h2⟩ => ⟨h1, h2 ▸ hC⟩
set_option maxRecDepth 100000 in
set_option maxHeartbeats 1000000 in
/-- The closure: does the year behind begin behind the day? -/
theorem behind_calls (d : Int) (b i : Nat) (w : World) (hi : i ≤ 8398) (hd : w.cell? ⟨b, 0, none⟩ = some (.int .i64 d)) :
    Calls Tryz.prog 85 #[.int .i64 (i : Int), .pointer (some ⟨b, 0, none⟩)] w fun e w' => e = .returned (.bool (Dt.newB d i)) ∧ Below w.heap.size w w' := by
  have HN := Lib.hid (fun W => newYear_calls (1601 + i + 1) W (by omega) (by omega))
  have HB : Hid (Dt.newB d i = decide (d < Dt.before (1601 + i + 1) - 134774)) := Lib.hid rfl
  generalize Dt.newB d i = r at *
  generalize Dt.before (1601 + i + 1) - 134774 = n at *
  have q1 : IntKind.i64.wrap (1601 + (i : Int)) = 1601 + (i : Int) := by rw [IntKind.wrap_i64]; omega
  have q2 : IntKind.i64.wrap (1601 + (i : Int) + 1) = 1601 + (i : Int) + 1 := by rw [IntKind.wrap_i64]; omega
  have HD := Lib.hid (fun W (hC : Below w.heap.size w W) => (hC.cell (block_lt_of_cell hd)).trans hd)
  have C1 := Lib.hid (fun W (hC : Below w.heap.size w W) => on_at hC (HN.out W))
  go_enter Tryz.func85, Tryz.ntmps85
  go_wp2_with fail
  refine region_quiet (C := fun W => Below w.heap.size w W) (by kernel_rfl) (by kernel_rfl) (Below.refl _ _).drew ?_
  refine q_yields (v := ?_) (Or.inl ⟨by rfl, ?_⟩) ?_
  rotate_left
  · intro _ _; go_simp; with_reducible rfl
  simp only [Act.put, List.setIfInBounds_toArray, List.set_cons_zero, List.set_cons_succ]
  refine q_yields (v := ?_) (Or.inl ⟨by rfl, ?_⟩) ?_
  rotate_left
  · intro _ _; go_simp; with_reducible rfl
  simp only [Act.put, List.setIfInBounds_toArray, List.set_cons_zero, List.set_cons_succ]
  refine q_yields (v := ?_) (Or.inl ⟨by rfl, ?_⟩) ?_
  rotate_left
  · intro _ _; go_simp; with_reducible rfl
  simp only [Act.put, List.setIfInBounds_toArray, List.set_cons_zero, List.set_cons_succ]
  refine q_call (by rfl) (.int .i64 n) (fun wq hC => by unfold Oper.quietAt; go_simp; exact C1.out wq hC) ?_
  simp only [Act.put, List.setIfInBounds_toArray, List.set_cons_zero, List.set_cons_succ]
  refine q_yields (v := .int .i64 d) (Or.inl ⟨by rfl, fun wq hC => by have hcell := HD.out wq hC; go_simp; try with_reducible rfl⟩) ?_
  simp only [Act.put, List.setIfInBounds_toArray, List.set_cons_zero, List.set_cons_succ]
  refine q_yields (v := ?_) (Or.inl ⟨by rfl, ?_⟩) ?_
  rotate_left
  · intro _ _; go_simp; with_reducible rfl
  simp only [Act.put, List.setIfInBounds_toArray, List.set_cons_zero, List.set_cons_succ]
  refine q_yields (v := ?_) (Or.inl ⟨by rfl, ?_⟩) ?_
  rotate_left
  · intro _ _; go_simp; with_reducible rfl
  simp only [Act.put, List.setIfInBounds_toArray, List.set_cons_zero, List.set_cons_succ]
  refine wpQuiet_nil ?_
  intro w' hC
  go_wp2
  go_ret
  exact ⟨ret_bool (by rw [HB.out]), hC⟩
set_option maxRecDepth 100000 in
set_option maxHeartbeats 2000000 in
/-- The search for the first year behind a day. -/
theorem search_calls (d : Int) (y b : Nat) (w : World) (hd : w.cell? ⟨b, 0, none⟩ = some (.int .i64 d)) (h1 : 1601 ≤ y) (h2 : y ≤ 9999) (h3 : Dt.before y - 134774 ≤ d) (h4 : d < Dt.before (y + 1) - 134774) :
    Calls Tryz.prog 84 #[.int .i64 8398, .func (.func 85) #[] #[.pointer (some ⟨b, 0, none⟩)]] w fun e w' => e = .returned (.int .i64 ((y : Int) - 1601)) ∧ Below w.heap.size w w' := by
  have HNo : Hid (∀ i : Nat, 1601 + i < y → Dt.newB d i = false) := Lib.hid (fun i h => Dt.newB_no h3 h)
  have HYes : Hid (∀ i : Nat, y ≤ 1601 + i → Dt.newB d i = true) := Lib.hid (fun i h => Dt.newB_yes h4 h)
  have HC : Hid (∀ (i : Nat) W, i ≤ 8398 → Below w.heap.size w W → Calls Tryz.prog 85 #[.int .i64 (i : Int), .pointer (some ⟨b, 0, none⟩)] W fun e w' => e = .returned (.bool (Dt.newB d i)) ∧ Below w.heap.size w w') :=
    Lib.hid (fun i W hi hC => (behind_calls d b i W hi ((hC.cell (block_lt_of_cell hd)).trans hd)).mono fun e w' ⟨a, c⟩ => ⟨a, hC.trans (c.mono hC.size)⟩)
  clear h3 h4 hd
  go_enter Tryz.func84, Tryz.ntmps84
  go_wp2
  go_loopw [5, 6] (fun s5 s6 wr => ∃ lo hi : Nat, s5 = .int .i64 lo ∧ s6 = .int .i64 hi ∧ 1601 + lo ≤ y ∧ y ≤ 1601 + hi ∧ hi ≤ 8398 ∧ Below w.heap.size w wr) (fun s5 s6 _ => (intOf s6).toNat - (intOf s5).toNat)
  case atStart => exact ⟨0, 8398, rfl, rfl, by omega, by omega, Nat.le_refl _, Below.refl _ _⟩
  case round =>
    obtain ⟨lo, hi, rfl, rfl, hlo, hhi, hm, hb⟩ := hrel
    by_cases hlt : lo < hi
    · have hc := HC.out ((lo + hi) / 2) wr (by omega) hb
      rw [show (((lo + hi) / 2 : Nat) : Int) = ((lo : Int) + (hi : Int)) / 2 by omega] at hc
      by_cases hy : 1601 + (lo + hi) / 2 < y
      · rw [HNo.out _ hy] at hc
        have HCC := Lib.hid hc
        clear hc
        go_wp2_with (go_at_call 85; refine HCC.out.mono ?_; rintro e w' ⟨rfl, b2⟩)
        go_roundw
        case rel => exact ⟨(lo + hi) / 2 + 1, hi, by go_num, rfl, by omega, hhi, hm, b2⟩
        case measure => simp [intOf]; omega
      · rw [HYes.out _ (by omega)] at hc
        have HCC := Lib.hid hc
        clear hc
        go_wp2_with (go_at_call 85; refine HCC.out.mono ?_; rintro e w' ⟨rfl, b2⟩)
        go_roundw
        case rel => exact ⟨lo, (lo + hi) / 2, rfl, by go_num, hlo, by omega, by omega, b2⟩
        case measure => simp [intOf]; omega
    · have e1 : hi = lo := by omega
      subst e1
      go_wp2
      go_ret
      exact ⟨ret_int (by omega), hb⟩
end Go.Proofs.YtpimaobejjpffaaGreatDoor
