/- The walk of the law DfaTells. -/
import Derived.Test.YtdidogcgoghdmaaDfaAlive
import Derived.Test.YtdidogcgoghdmaaDfaSmall
import Derived.Test.YtdidogcgoghdmaaDfaData
import Derived.Test.YtdidogcgoghdmaaQuiet
namespace Go.Proofs.Ytdidogcgoghdmaa
open Go.RowKit
set_option maxRecDepth 100000 in
set_option maxHeartbeats 4000000 in
theorem dtells_walk {v u : Value} (d : Au.Dv) (x : List Int) (w : World) (h : Auto w v d) (hx : Nums w u x ∧ x.length ≤ maxLen ∧ ∀ n ∈ x, (Lit.int .i64 n).wf = true) :
    Calls Try.prog 4 #[v, u] w fun e w' => e = .returned (.bool true) ∧ Below w.heap.size w w' := by
  obtain ⟨hx, hxl, _⟩ := hx
  have HAL := Lib.hid alive_calls15
  have HG := Lib.hid (fun V W h => great_calls15 V d W h)
  have HR := Lib.hid (fun V W h => dright_calls V d W h)
  have HRR := Lib.hid (fun V W h => refDRight_calls V d W h)
  have HT := Lib.hid (fun V U W h hx => dtells_calls V U d x W h hx hxl)
  have HRT := Lib.hid (fun V U W h hx => refDTells_calls V U d x W h hx hxl)
  obtain ⟨B, cb, rfl⟩ := hx.slice
  obtain ⟨A, c, A', c', rfl, _, _⟩ := h.parts
  have HV := Lib.hid h
  have HX := Lib.hid hx
  clear h hx
  generalize x.length = nx at *
  generalize d.next.length = m at *
  generalize d.acc.length = n at *
  generalize d.k = k at *
  generalize d.start = s at *
  generalize d.great = g at *
  generalize d.right = r at *
  generalize d.tells x = tl at *
  unfold maxLen at hxl
  have R0 := Row.new w 25 #[.int .i64 k, .int .i64 s, .slice A m c, .slice A' n c']
  have C0 := (Below.refl w.heap.size w).alloc (Nat.le_refl _) (.cells #[.int .i64 k, .int .i64 s, .slice A m c, .slice A' n c'] 25)
  go_enter Try.func4, Try.ntmps4
  go_wp2_with fail
  refine (HAL.out _).mono ?_
  rintro e w1 ⟨rfl, hb⟩
  have R1 := R0.stays hb
  have C1 := C0.trans (hb.mono C0.size)
  clear R0 C0 hb
  go_wp2_with (refine at_slot 7 rfl ?_; refine load_row rfl 25 _ rfl w.heap.size rfl R1 Try.underlying25 rfl infoDfa ?_)
  refine (HG.out _ _ (HV.out.later C1 (Nat.le_refl _))).mono ?_
  rintro e w2 ⟨rfl, hb⟩
  have R2 := R1.stays hb
  have C2 := C1.trans (hb.mono C1.size)
  clear R1 C1 hb
  cases g with
  | true =>
    go_wp2
    go_ret
    exact ⟨rfl, C2⟩
  | false =>
    by_cases h1 : (200 : Int) < (nx : Int)
    · have e1 : decide ((200 : Int) < (nx : Int)) = true := decide_eq_true h1
      go_wp2
      go_ret
      exact ⟨rfl, C2⟩
    have e1 : decide ((200 : Int) < (nx : Int)) = false := decide_eq_false h1
    have RR := Lib.hid (fun W (hC : Below w2.heap.size w2 W) => R2.stays hC)
    have VV := Lib.hid (fun W (hC : Below w2.heap.size w2 W) => HV.out.later (C2.trans (hC.mono C2.size)) (Nat.le_refl _))
    have XX := Lib.hid (fun W (hC : Below w2.heap.size w2 W) => HX.out.later (C2.trans (hC.mono C2.size)) (Nat.le_refl _))
    have HC2 := Lib.hid C2
    clear R2 C2 h1
    go_wp2_with fail
    refine region_quiet (C := fun W => Below w2.heap.size w2 W) (by kernel_rfl) (by kernel_rfl) (Below.refl _ _).drew ?_
    refine q_yields (yields_row (by rfl) _ _ rfl _ rfl RR.out Try.underlying25 rfl infoDfa) ?_
    simp only [Act.put, List.setIfInBounds_toArray, List.set_cons_zero, List.set_cons_succ]
    refine q_call (by rfl) (.bool r) (fun wq hC => by unfold Oper.quietAt; go_simp; exact in_class15 hC (HR.out _ _ (VV.out wq hC))) ?_
    simp only [Act.put, List.setIfInBounds_toArray, List.set_cons_zero, List.set_cons_succ]
    refine q_yields (yields_row (by rfl) _ _ rfl _ rfl RR.out Try.underlying25 rfl infoDfa) ?_
    simp only [Act.put, List.setIfInBounds_toArray, List.set_cons_zero, List.set_cons_succ]
    refine q_call (by rfl) (.bool r) (fun wq hC => by unfold Oper.quietAt; go_simp; exact in_class15 hC (HRR.out _ _ (VV.out wq hC))) ?_
    simp only [Act.put, List.setIfInBounds_toArray, List.set_cons_zero, List.set_cons_succ]
    refine q_yields (v := ?_) (Or.inl ⟨by rfl, ?_⟩) ?_
    rotate_left
    · intro _ _; go_simp; with_reducible rfl
    simp only [Act.put, List.setIfInBounds_toArray, List.set_cons_zero, List.set_cons_succ]
    refine q_yields (v := ?_) (Or.inl ⟨by rfl, ?_⟩) ?_
    rotate_left
    · intro _ _; go_simp; with_reducible rfl
    simp only [Act.put, List.setIfInBounds_toArray, List.set_cons_zero, List.set_cons_succ]
    refine q_yields (yields_row (by rfl) _ _ rfl _ rfl RR.out Try.underlying25 rfl infoDfa) ?_
    simp only [Act.put, List.setIfInBounds_toArray, List.set_cons_zero, List.set_cons_succ]
    refine q_yields (v := ?_) (Or.inl ⟨by rfl, ?_⟩) ?_
    rotate_left
    · intro _ _; go_simp; with_reducible rfl
    simp only [Act.put, List.setIfInBounds_toArray, List.set_cons_zero, List.set_cons_succ]
    refine q_call (by rfl) (.bool tl) (fun wq hC => by unfold Oper.quietAt; go_simp; exact in_class15 hC (HT.out _ _ _ (VV.out wq hC) (XX.out wq hC))) ?_
    simp only [Act.put, List.setIfInBounds_toArray, List.set_cons_zero, List.set_cons_succ]
    refine q_yields (yields_row (by rfl) _ _ rfl _ rfl RR.out Try.underlying25 rfl infoDfa) ?_
    simp only [Act.put, List.setIfInBounds_toArray, List.set_cons_zero, List.set_cons_succ]
    refine q_yields (v := ?_) (Or.inl ⟨by rfl, ?_⟩) ?_
    rotate_left
    · intro _ _; go_simp; with_reducible rfl
    simp only [Act.put, List.setIfInBounds_toArray, List.set_cons_zero, List.set_cons_succ]
    refine q_call (by rfl) (.bool tl) (fun wq hC => by unfold Oper.quietAt; go_simp; exact in_class15 hC (HRT.out _ _ _ (VV.out wq hC) (XX.out wq hC))) ?_
    simp only [Act.put, List.setIfInBounds_toArray, List.set_cons_zero, List.set_cons_succ]
    refine q_yields (v := ?_) (Or.inl ⟨by rfl, ?_⟩) ?_
    rotate_left
    · intro _ _; go_simp; with_reducible rfl
    simp only [Act.put, List.setIfInBounds_toArray, List.set_cons_zero, List.set_cons_succ]
    refine q_yields (v := ?_) (Or.inl ⟨by rfl, ?_⟩) ?_
    rotate_left
    · intro _ _; go_simp; with_reducible rfl
    simp only [Act.put, List.setIfInBounds_toArray, List.set_cons_zero, List.set_cons_succ]
    refine q_yields (v := ?_) (Or.inl ⟨by rfl, ?_⟩) ?_
    rotate_left
    · intro _ _; go_simp; with_reducible rfl
    simp only [Act.put, List.setIfInBounds_toArray, List.set_cons_zero, List.set_cons_succ]
    refine wpQuiet_nil ?_
    intro w' hC
    go_wp2
    go_ret
    exact ⟨rfl, HC2.out.trans (hC.mono HC2.out.size)⟩
end Go.Proofs.Ytdidogcgoghdmaa
