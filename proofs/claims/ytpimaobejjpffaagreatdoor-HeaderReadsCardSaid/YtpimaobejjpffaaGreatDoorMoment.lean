/- The walks of moment and of date's Cookie. -/
import Derived.Test.YtpimaobejjpffaaGreatDoorTell
import Derived.Test.YtpimaobejjpffaaGreatDoorDateDays
import Derived.Test.YtpimaobejjpffaaGreatDoorQuiet
namespace Go.Proofs.YtpimaobejjpffaaGreatDoor
open Go.RowKit
namespace Dt
theorem moment_none {T : Told} (h : (T.time.isSome && T.day.isSome && T.month.isSome && T.year.isSome) = false) : moment T = (0, false) := by
  unfold moment
  split
  · rename_i h1 h2 h3 h4
    rw [h1, h2, h3, h4] at h
    cases h
  · rfl
theorem moment_all (h mi s d m y : Nat) : moment ⟨some (h, mi, s), some d, some m, some y⟩ = if (daysO (year2 y) m d).2 = true ∧ h ≤ 23 ∧ mi ≤ 59 ∧ s ≤ 59 then ((daysO (year2 y) m d).1 * 86400 + (h * 3600 + mi * 60 + s : Nat), true) else (0, false) := by
  unfold moment daysO
  dsimp only
  by_cases hI : Is (year2 y) m d
  · by_cases h2 : h ≤ 23 ∧ mi ≤ 59 ∧ s ≤ 59
    · rw [if_pos ⟨hI, h2⟩, if_pos hI, if_pos ⟨rfl, h2⟩]
    · rw [if_neg (fun k => h2 k.2), if_pos hI, if_neg (fun k => h2 k.2)]
  · rw [if_neg (fun k => hI k.1), if_neg hI, if_neg (fun k => by cases k.1)]
end Dt
def MomPost (o : Int × Bool) (w : World) (e : Ending) (w' : World) : Prop := e = .returned (.tuple #[.int .i64 o.1, .bool o.2]) ∧ Below w.heap.size w w'
theorem mom_post {o : Int × Bool} {n : Int} {b : Bool} (h : o = (n, b)) {w w' : World} (hb : Below w.heap.size w w') : MomPost o w (.returned (.tuple #[.int .i64 n, .bool b])) w' := by subst h; exact ⟨rfl, hb⟩
theorem on_at2 {a b : World} {P : Ending → Prop} (hC : Below a.heap.size a b) {f : FuncId} {args : Array Value} (h : Calls Tryz.prog f args b fun e w' => P e ∧ b = w') :
    Calls Tryz.prog f args b fun e w' => P e ∧ Below a.heap.size a w' :=
  h.mono fun _ _ ⟨h1, h2⟩ => ⟨h1, h2 ▸ hC⟩
set_option maxRecDepth 100000 in
set_option maxHeartbeats 8000000 in
theorem moment_calls (T : Dt.Told) (g : Nat) (w : World) (hw : Cal w) (hR : Row w g 65 (toldA T)) :
    Calls Tryz.prog 52 #[.pointer (some ⟨g, 0, none⟩)] w (MomPost (Dt.moment T) w) := by
  have HPost : Hid (∀ n b w', Dt.moment T = (n, b) → Below w.heap.size w w' → MomPost (Dt.moment T) w (.returned (.tuple #[.int .i64 n, .bool b])) w') := Lib.hid (fun n b w' h k => mom_post h k)
  generalize hpost : MomPost (Dt.moment T) w = post at *
  clear hpost
  have q0 := hR.cell 0
  have q1 := hR.cell 1
  have q2 := hR.cell 2
  have q3 := hR.cell 3
  obtain ⟨bt, hbt⟩ : ∃ b, T.time.isSome = b := ⟨_, rfl⟩
  obtain ⟨bd, hbd⟩ : ∃ b, T.day.isSome = b := ⟨_, rfl⟩
  obtain ⟨bm, hbm⟩ : ∃ b, T.month.isSome = b := ⟨_, rfl⟩
  obtain ⟨by', hby⟩ : ∃ b, T.year.isSome = b := ⟨_, rfl⟩
  have p0 : w.cell? ⟨g, 0, none⟩ = some (.bool bt) := by rw [← hbt]; exact q0
  have p1 : w.cell? ⟨g, 1, none⟩ = some (.bool bd) := by rw [← hbd]; exact q1
  have p2 : w.cell? ⟨g, 2, none⟩ = some (.bool bm) := by rw [← hbm]; exact q2
  have p3 : w.cell? ⟨g, 3, none⟩ = some (.bool by') := by rw [← hby]; exact q3
  have HN : Hid ((bt && bd && bm && by') = false → Dt.moment T = (0, false)) := Lib.hid (fun h => Dt.moment_none (by rw [hbt, hbd, hbm, hby]; exact h))
  have HT := Lib.hid (And.intro hbt (And.intro hbd (And.intro hbm hby)))
  clear q0 q1 q2 q3 hbt hbd hbm hby
  go_enter Tryz.func52, Tryz.ntmps52
  go_upto_region 1 with fail
  go_cut [31] (fun sx wx => sx = .bool (!(bt && bd && bm && by')) ∧ w = wx)
  case first =>
    cases bt with
    | false => go_wp2; go_meet; exact ⟨rfl, rfl⟩
    | true =>
    cases bd with
    | false => go_wp2; go_meet; exact ⟨rfl, rfl⟩
    | true =>
    cases bm with
    | false => go_wp2; go_meet; exact ⟨rfl, rfl⟩
    | true =>
    cases by' with
    | false => go_wp2; go_meet; exact ⟨rfl, rfl⟩
    | true => go_wp2; go_meet; exact ⟨rfl, rfl⟩
  case rest =>
  obtain ⟨rfl, rfl⟩ := hcut
  cases hB : (bt && bd && bm && by') with
  | false =>
    have HR := Lib.hid (HPost.out _ _ w (HN.out hB) (Below.refl _ _))
    clear hB
    go_wp2
    exact HR.out
  | true =>
  have hall : bt = true ∧ bd = true ∧ bm = true ∧ by' = true := by
    rw [Bool.and_eq_true, Bool.and_eq_true, Bool.and_eq_true] at hB
    exact ⟨hB.1.1.1, hB.1.1.2, hB.1.2, hB.2⟩
  obtain ⟨tt, td, tm, ty⟩ := T
  obtain ⟨a1, a2, a3, a4⟩ := HT.out
  rw [hall.1] at a1
  rw [hall.2.1] at a2
  rw [hall.2.2.1] at a3
  rw [hall.2.2.2] at a4
  dsimp only at a1 a2 a3 a4
  obtain ⟨⟨h, mi, s⟩, rfl⟩ := Option.isSome_iff_exists.1 a1
  obtain ⟨d, rfl⟩ := Option.isSome_iff_exists.1 a2
  obtain ⟨m, rfl⟩ := Option.isSome_iff_exists.1 a3
  obtain ⟨y, rfl⟩ := Option.isSome_iff_exists.1 a4
  have HM := Lib.hid (Dt.moment_all h mi s d m y)
  have HD := Lib.hid (fun W hW => days_calls (Dt.year2 y) m d W hW)
  unfold DaysPost at HD
  have hdb : (Dt.daysO (Dt.year2 y) m d).2 = true → -134774 ≤ (Dt.daysO (Dt.year2 y) m d).1 ∧ (Dt.daysO (Dt.year2 y) m d).1 ≤ 2932896 := by
    unfold Dt.daysO
    split
    · rename_i hI; intro _; exact Dt.days_bounds hI
    · intro k; cases k
  have p4 : ∀ W, Below w.heap.size w W → W.cell? ⟨g, 4, none⟩ = some (.int .i64 (h : Int)) := fun W hC => (hC.cell (hR.lt)).trans (hR.cell 4)
  have p5 : ∀ W, Below w.heap.size w W → W.cell? ⟨g, 5, none⟩ = some (.int .i64 (mi : Int)) := fun W hC => (hC.cell (hR.lt)).trans (hR.cell 5)
  have p6 : ∀ W, Below w.heap.size w W → W.cell? ⟨g, 6, none⟩ = some (.int .i64 (s : Int)) := fun W hC => (hC.cell (hR.lt)).trans (hR.cell 6)
  have p7 : ∀ W, Below w.heap.size w W → W.cell? ⟨g, 7, none⟩ = some (.int .i64 (d : Int)) := fun W hC => (hC.cell (hR.lt)).trans (hR.cell 7)
  have p8 : ∀ W, Below w.heap.size w W → W.cell? ⟨g, 8, none⟩ = some (.int .i64 (m : Int)) := fun W hC => (hC.cell (hR.lt)).trans (hR.cell 8)
  have p9 : ∀ W, Below w.heap.size w W → W.cell? ⟨g, 9, none⟩ = some (.int .i64 (Dt.year2 y)) := fun W hC => (hC.cell (hR.lt)).trans (hR.cell 9)
  have P4 := Lib.hid p4
  have P5 := Lib.hid p5
  have P6 := Lib.hid p6
  have P7 := Lib.hid p7
  have P8 := Lib.hid p8
  have P9 := Lib.hid p9
  clear p4 p5 p6 p7 p8 p9 p0 p1 p2 p3 hB hall a1 a2 a3 a4 HT HN hR
  rw [HM.out] at HPost
  generalize Dt.daysO (Dt.year2 y) m d = o at *
  obtain ⟨n, b⟩ := o
  dsimp only at HD HPost hdb
  generalize Dt.year2 y = Y at *
  have C1 := Lib.hid (fun W (hC : Below w.heap.size w W) => on_at2 hC (HD.out W (hw.below hC)))
  clear HM HD hw
  go_upto_region 3 with fail
  refine region_quiet (C := fun W => Below w.heap.size w W) (by kernel_rfl) (by kernel_rfl) (Below.refl _ _).drew ?_
  refine q_yields (v := ?_) (Or.inl ⟨by rfl, ?_⟩) ?_
  rotate_left
  · intro _ _; go_simp; with_reducible rfl
  simp only [Act.put, List.setIfInBounds_toArray, List.set_cons_zero, List.set_cons_succ]
  refine q_yields (v := ?_) (Or.inl ⟨by rfl, ?_⟩) ?_
  rotate_left
  · intro _ _; go_simp; with_reducible rfl
  simp only [Act.put, List.setIfInBounds_toArray, List.set_cons_zero, List.set_cons_succ]
  refine q_yields (v := ?_) (Or.inl ⟨by rfl, ?_⟩) ?_
  rotate_left
  · intro _ _; go_simp; with_reducible rfl
  simp only [Act.put, List.setIfInBounds_toArray, List.set_cons_zero, List.set_cons_succ]
  refine q_yields (v := .int .i64 Y) (Or.inl ⟨by rfl, fun wq hC => by have hcell := P9.out wq hC; go_simp; try with_reducible rfl⟩) ?_
  simp only [Act.put, List.setIfInBounds_toArray, List.set_cons_zero, List.set_cons_succ]
  refine q_yields (v := ?_) (Or.inl ⟨by rfl, ?_⟩) ?_
  rotate_left
  · intro _ _; go_simp; with_reducible rfl
  simp only [Act.put, List.setIfInBounds_toArray, List.set_cons_zero, List.set_cons_succ]
  refine q_yields (v := ?_) (Or.inl ⟨by rfl, ?_⟩) ?_
  rotate_left
  · intro _ _; go_simp; with_reducible rfl
  simp only [Act.put, List.setIfInBounds_toArray, List.set_cons_zero, List.set_cons_succ]
  refine q_yields (v := ?_) (Or.inl ⟨by rfl, ?_⟩) ?_
  rotate_left
  · intro _ _; go_simp; with_reducible rfl
  simp only [Act.put, List.setIfInBounds_toArray, List.set_cons_zero, List.set_cons_succ]
  refine q_yields (v := .int .i64 (m : Int)) (Or.inl ⟨by rfl, fun wq hC => by have hcell := P8.out wq hC; go_simp; try with_reducible rfl⟩) ?_
  simp only [Act.put, List.setIfInBounds_toArray, List.set_cons_zero, List.set_cons_succ]
  refine q_yields (v := ?_) (Or.inl ⟨by rfl, ?_⟩) ?_
  rotate_left
  · intro _ _; go_simp; with_reducible rfl
  simp only [Act.put, List.setIfInBounds_toArray, List.set_cons_zero, List.set_cons_succ]
  refine q_yields (v := ?_) (Or.inl ⟨by rfl, ?_⟩) ?_
  rotate_left
  · intro _ _; go_simp; with_reducible rfl
  simp only [Act.put, List.setIfInBounds_toArray, List.set_cons_zero, List.set_cons_succ]
  refine q_yields (v := ?_) (Or.inl ⟨by rfl, ?_⟩) ?_
  rotate_left
  · intro _ _; go_simp; with_reducible rfl
  simp only [Act.put, List.setIfInBounds_toArray, List.set_cons_zero, List.set_cons_succ]
  refine q_yields (v := .int .i64 (d : Int)) (Or.inl ⟨by rfl, fun wq hC => by have hcell := P7.out wq hC; go_simp; try with_reducible rfl⟩) ?_
  simp only [Act.put, List.setIfInBounds_toArray, List.set_cons_zero, List.set_cons_succ]
  refine q_call (by rfl) (.tuple #[.int .i64 n, .bool b]) (fun wq hC => by unfold Oper.quietAt; go_simp; exact C1.out wq hC) ?_
  simp only [Act.put, List.setIfInBounds_toArray, List.set_cons_zero, List.set_cons_succ]
  refine q_yields (v := ?_) (Or.inl ⟨by rfl, ?_⟩) ?_
  rotate_left
  · intro _ _; go_simp; with_reducible rfl
  simp only [Act.put, List.setIfInBounds_toArray, List.set_cons_zero, List.set_cons_succ]
  refine q_yields (v := ?_) (Or.inl ⟨by rfl, ?_⟩) ?_
  rotate_left
  · intro _ _; go_simp; with_reducible rfl
  simp only [Act.put, List.setIfInBounds_toArray, List.set_cons_zero, List.set_cons_succ]
  refine q_yields (v := ?_) (Or.inl ⟨by rfl, ?_⟩) ?_
  rotate_left
  · intro _ _; go_simp; with_reducible rfl
  simp only [Act.put, List.setIfInBounds_toArray, List.set_cons_zero, List.set_cons_succ]
  refine q_yields (v := ?_) (Or.inl ⟨by rfl, ?_⟩) ?_
  rotate_left
  · intro _ _; go_simp; with_reducible rfl
  simp only [Act.put, List.setIfInBounds_toArray, List.set_cons_zero, List.set_cons_succ]
  refine q_yields (v := ?_) (Or.inl ⟨by rfl, ?_⟩) ?_
  rotate_left
  · intro _ _; go_simp; with_reducible rfl
  simp only [Act.put, List.setIfInBounds_toArray, List.set_cons_zero, List.set_cons_succ]
  refine wpQuiet_nil ?_
  intro w1 hC1
  have e4 := P4.out w1 hC1
  have e5 := P5.out w1 hC1
  have e6 := P6.out w1 hC1
  by_cases hok : b = true ∧ h ≤ 23 ∧ mi ≤ 59 ∧ s ≤ 59
  · have HR := Lib.hid (fun W (hb : Below w.heap.size w W) => HPost.out _ _ W (if_pos hok) hb)
    obtain ⟨rfl, h1, h2, h3⟩ := hok
    have k1 : ¬ (23 : Int) < (h : Int) := by omega
    have k2 : ¬ (59 : Int) < (mi : Int) := by omega
    have k3 : ¬ (59 : Int) < (s : Int) := by omega
    have hnb := hdb rfl
    go_wp2_with fail
    have F4 : Hid (∀ W, Below w1.heap.size w1 W → W.cell? ⟨g, 4, none⟩ = some (.int .i64 (h : Int))) := Lib.hid (fun W hC => (hC.cell (block_lt_of_cell e4)).trans e4)
    have F5 : Hid (∀ W, Below w1.heap.size w1 W → W.cell? ⟨g, 5, none⟩ = some (.int .i64 (mi : Int))) := Lib.hid (fun W hC => (hC.cell (block_lt_of_cell e5)).trans e5)
    have F6 : Hid (∀ W, Below w1.heap.size w1 W → W.cell? ⟨g, 6, none⟩ = some (.int .i64 (s : Int))) := Lib.hid (fun W hC => (hC.cell (block_lt_of_cell e6)).trans e6)
    have z1 : IntKind.i64.wrap (n * 86400) = n * 86400 := by rw [IntKind.wrap_i64]; omega
    have z2 : IntKind.i64.wrap ((h : Int) * 3600) = (h : Int) * 3600 := by rw [IntKind.wrap_i64]; omega
    have z3 : IntKind.i64.wrap ((mi : Int) * 60) = (mi : Int) * 60 := by rw [IntKind.wrap_i64]; omega
    have z4 : IntKind.i64.wrap ((h : Int) * 3600 + (mi : Int) * 60) = (h : Int) * 3600 + (mi : Int) * 60 := by rw [IntKind.wrap_i64]; omega
    have z5 : IntKind.i64.wrap ((h : Int) * 3600 + (mi : Int) * 60 + (s : Int)) = (h : Int) * 3600 + (mi : Int) * 60 + (s : Int) := by rw [IntKind.wrap_i64]; omega
    have z6 : IntKind.i64.wrap (n * 86400 + ((h : Int) * 3600 + (mi : Int) * 60 + (s : Int))) = n * 86400 + ((h : Int) * 3600 + (mi : Int) * 60 + (s : Int)) := by rw [IntKind.wrap_i64]; omega
    clear e4 e5 e6
    refine region_quiet (C := fun W => Below w1.heap.size w1 W) (by kernel_rfl) (by kernel_rfl) (Below.refl _ _).drew ?_
    refine q_yields (v := ?_) (Or.inl ⟨by rfl, ?_⟩) ?_
    rotate_left
    · intro _ _; go_simp; with_reducible rfl
    simp only [Act.put, List.setIfInBounds_toArray, List.set_cons_zero, List.set_cons_succ]
    refine q_yields (v := ?_) (Or.inl ⟨by rfl, ?_⟩) ?_
    rotate_left
    · intro _ _; go_simp; with_reducible rfl
    simp only [Act.put, List.setIfInBounds_toArray, List.set_cons_zero, List.set_cons_succ]
    refine q_yields (v := ?_) (Or.inl ⟨by rfl, ?_⟩) ?_
    rotate_left
    · intro _ _; go_simp; with_reducible rfl
    simp only [Act.put, List.setIfInBounds_toArray, List.set_cons_zero, List.set_cons_succ]
    refine q_yields (v := ?_) (Or.inl ⟨by rfl, ?_⟩) ?_
    rotate_left
    · intro _ _; go_simp; with_reducible rfl
    simp only [Act.put, List.setIfInBounds_toArray, List.set_cons_zero, List.set_cons_succ]
    refine q_yields (v := ?_) (Or.inl ⟨by rfl, ?_⟩) ?_
    rotate_left
    · intro _ _; go_simp; with_reducible rfl
    simp only [Act.put, List.setIfInBounds_toArray, List.set_cons_zero, List.set_cons_succ]
    refine q_yields (v := ?_) (Or.inl ⟨by rfl, ?_⟩) ?_
    rotate_left
    · intro _ _; go_simp; with_reducible rfl
    simp only [Act.put, List.setIfInBounds_toArray, List.set_cons_zero, List.set_cons_succ]
    refine q_yields (v := .int .i64 (h : Int)) (Or.inl ⟨by rfl, fun wq hC => by have hcell := F4.out wq hC; go_simp; try with_reducible rfl⟩) ?_
    simp only [Act.put, List.setIfInBounds_toArray, List.set_cons_zero, List.set_cons_succ]
    refine q_yields (v := ?_) (Or.inl ⟨by rfl, ?_⟩) ?_
    rotate_left
    · intro _ _; go_simp; with_reducible rfl
    simp only [Act.put, List.setIfInBounds_toArray, List.set_cons_zero, List.set_cons_succ]
    refine q_yields (v := ?_) (Or.inl ⟨by rfl, ?_⟩) ?_
    rotate_left
    · intro _ _; go_simp; with_reducible rfl
    simp only [Act.put, List.setIfInBounds_toArray, List.set_cons_zero, List.set_cons_succ]
    refine q_yields (v := ?_) (Or.inl ⟨by rfl, ?_⟩) ?_
    rotate_left
    · intro _ _; go_simp; with_reducible rfl
    simp only [Act.put, List.setIfInBounds_toArray, List.set_cons_zero, List.set_cons_succ]
    refine q_yields (v := ?_) (Or.inl ⟨by rfl, ?_⟩) ?_
    rotate_left
    · intro _ _; go_simp; with_reducible rfl
    simp only [Act.put, List.setIfInBounds_toArray, List.set_cons_zero, List.set_cons_succ]
    refine q_yields (v := ?_) (Or.inl ⟨by rfl, ?_⟩) ?_
    rotate_left
    · intro _ _; go_simp; with_reducible rfl
    simp only [Act.put, List.setIfInBounds_toArray, List.set_cons_zero, List.set_cons_succ]
    refine q_yields (v := .int .i64 (mi : Int)) (Or.inl ⟨by rfl, fun wq hC => by have hcell := F5.out wq hC; go_simp; try with_reducible rfl⟩) ?_
    simp only [Act.put, List.setIfInBounds_toArray, List.set_cons_zero, List.set_cons_succ]
    refine q_yields (v := ?_) (Or.inl ⟨by rfl, ?_⟩) ?_
    rotate_left
    · intro _ _; go_simp; with_reducible rfl
    simp only [Act.put, List.setIfInBounds_toArray, List.set_cons_zero, List.set_cons_succ]
    refine q_yields (v := ?_) (Or.inl ⟨by rfl, ?_⟩) ?_
    rotate_left
    · intro _ _; go_simp; with_reducible rfl
    simp only [Act.put, List.setIfInBounds_toArray, List.set_cons_zero, List.set_cons_succ]
    refine q_yields (v := ?_) (Or.inl ⟨by rfl, ?_⟩) ?_
    rotate_left
    · intro _ _; go_simp; with_reducible rfl
    simp only [Act.put, List.setIfInBounds_toArray, List.set_cons_zero, List.set_cons_succ]
    refine q_yields (v := ?_) (Or.inl ⟨by rfl, ?_⟩) ?_
    rotate_left
    · intro _ _; go_simp; with_reducible rfl
    simp only [Act.put, List.setIfInBounds_toArray, List.set_cons_zero, List.set_cons_succ]
    refine q_yields (v := ?_) (Or.inl ⟨by rfl, ?_⟩) ?_
    rotate_left
    · intro _ _; go_simp; with_reducible rfl
    simp only [Act.put, List.setIfInBounds_toArray, List.set_cons_zero, List.set_cons_succ]
    refine q_yields (v := ?_) (Or.inl ⟨by rfl, ?_⟩) ?_
    rotate_left
    · intro _ _; go_simp; with_reducible rfl
    simp only [Act.put, List.setIfInBounds_toArray, List.set_cons_zero, List.set_cons_succ]
    refine q_yields (v := .int .i64 (s : Int)) (Or.inl ⟨by rfl, fun wq hC => by have hcell := F6.out wq hC; go_simp; try with_reducible rfl⟩) ?_
    simp only [Act.put, List.setIfInBounds_toArray, List.set_cons_zero, List.set_cons_succ]
    refine q_yields (v := ?_) (Or.inl ⟨by rfl, ?_⟩) ?_
    rotate_left
    · intro _ _; go_simp; with_reducible rfl
    simp only [Act.put, List.setIfInBounds_toArray, List.set_cons_zero, List.set_cons_succ]
    refine q_yields (v := ?_) (Or.inl ⟨by rfl, ?_⟩) ?_
    rotate_left
    · intro _ _; go_simp; with_reducible rfl
    simp only [Act.put, List.setIfInBounds_toArray, List.set_cons_zero, List.set_cons_succ]
    refine q_yields (v := ?_) (Or.inl ⟨by rfl, ?_⟩) ?_
    rotate_left
    · intro _ _; go_simp; with_reducible rfl
    simp only [Act.put, List.setIfInBounds_toArray, List.set_cons_zero, List.set_cons_succ]
    refine q_yields (v := ?_) (Or.inl ⟨by rfl, ?_⟩) ?_
    rotate_left
    · intro _ _; go_simp; with_reducible rfl
    simp only [Act.put, List.setIfInBounds_toArray, List.set_cons_zero, List.set_cons_succ]
    refine wpQuiet_nil ?_
    intro w2 hC2
    go_wp2
    have hf := HR.out w2 (hC1.trans (hC2.mono hC1.size))
    have ez : ((h * 3600 + mi * 60 + s : Nat) : Int) = (h : Int) * 3600 + (mi : Int) * 60 + (s : Int) := by omega
    rw [ez] at hf
    exact hf
  · have HR := Lib.hid (fun W (hb : Below w.heap.size w W) => HPost.out _ _ W (if_neg hok) hb)
    have hor : b = false ∨ (b = true ∧ (23 : Int) < (h : Int)) ∨ (b = true ∧ ¬ (23 : Int) < (h : Int) ∧ (59 : Int) < (mi : Int)) ∨ (b = true ∧ ¬ (23 : Int) < (h : Int) ∧ ¬ (59 : Int) < (mi : Int) ∧ (59 : Int) < (s : Int)) := by
      cases b with
      | false => exact .inl rfl
      | true =>
        have : ¬ (h ≤ 23 ∧ mi ≤ 59 ∧ s ≤ 59) := fun k => hok ⟨rfl, k⟩
        by_cases k1 : (23 : Int) < (h : Int)
        · exact .inr (.inl ⟨rfl, k1⟩)
        · by_cases k2 : (59 : Int) < (mi : Int)
          · exact .inr (.inr (.inl ⟨rfl, k1, k2⟩))
          · exact .inr (.inr (.inr ⟨rfl, k1, k2, by omega⟩))
    clear hok
    rcases hor with rfl | ⟨rfl, k1⟩ | ⟨rfl, k1, k2⟩ | ⟨rfl, k1, k2, k3⟩
    all_goals
      go_wp2
      exact HR.out w1 hC1
end Go.Proofs.YtpimaobejjpffaaGreatDoor
