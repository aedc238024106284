/- The walk of the law SuffixTells. -/
import Derived.Test.YtnlhniaoaciopaaGreatDoorSuffixAlive
import Derived.Test.YtnlhniaoaciopaaGreatDoorRefSufs
import Derived.Test.YtnlhniaoaciopaaGreatDoorQuiet
namespace Go.Proofs.YtnlhniaoaciopaaGreatDoor
open Go.RowKit Go.Maps
theorem on_from {a b : World} {P : Ending → Prop} (hC : Below a.heap.size a b) {f : FuncId} {args : Array Value} (h : Calls Tryz.prog f args b fun e w' => P e ∧ Below b.heap.size b w') :
    Calls Tryz.prog f args b fun e w' => P e ∧ Below a.heap.size a w' :=
  h.mono fun _ _ ⟨h1, h2⟩ => ⟨h1, hC.trans (h2.mono hC.size)⟩
set_option maxRecDepth 100000 in
set_option maxHeartbeats 8000000 in
theorem stells_walk (rs : List Ru.Rule) (h : Hst.Host) (w : World) (v : Value) (hv : HoldsRules w v rs ∧ rs.length ≤ maxLen ∧ ∀ r ∈ rs, r.name.length ≤ maxLen) (ha : h.addr.length = 16) (hn : h.name.length ≤ maxLen) (hw : Std w) :
    Calls Tryz.prog 3 #[v, .agg (hostA h)] w fun e w' => e = .returned (.bool true) ∧ Below w.heap.size w w' := by
  have HA := Lib.hid suffix_alive
  unfold BoolPost at HA
  have HH := Lib.hid (show (Tryz.prog.info? 26).map (·.size) = some (hostA h).size by rw [hostA_size h ha]; exact infoHost)
  have R0 := Row.new w 26 (hostA h)
  have B0 := (Below.refl w.heap.size w).alloc (Nat.le_refl _) (.cells (hostA h) 26)
  have HG := Lib.hid (fun W hV => great_calls rs v h W hV hv.2.1 hn hv.2.2)
  unfold BoolPost at HG
  have HV := hv.1
  by_cases hg : greatB rs h = true
  · rw [hg] at HG
    clear hg hv hn
    generalize hostA h = X at *
    go_enter Tryz.func3, Tryz.ntmps3
    go_wp2_with fail
    generalize w.alloc (.cells X 26) = w0 at *
    refine (HA.out _ (hw.below B0)).mono ?_
    rintro e x0 ⟨rfl, d0⟩
    have B1 := B0.trans (d0.mono B0.size)
    have R1 := R0.stays d0
    have V1 := HV.stays B1
    go_wp2_with (refine at_slot 9 rfl ?_; refine load_row rfl 26 _ rfl w.heap.size rfl R1 Tryz.underlying26 rfl HH.out ?_)
    refine (HG.out _ V1).mono ?_
    rintro e x1 ⟨rfl, d1⟩
    go_wp2
    go_ret
    exact ⟨rfl, B1.trans (d1.mono B1.size)⟩
  · have hg : greatB rs h = false := by simpa using hg
    rw [hg] at HG
    obtain ⟨g1, g2, g3⟩ := great_no hg
    have hrm : ∀ r ∈ rs, r.name.length ≤ 1000 := fun r hr => by have := g1 r hr; omega
    have HN := Lib.hid (fun W hW hV => new_calls rs v W hW hV (by omega) hrm)
    unfold NewTable at HN
    have Q1 := Lib.hid (fun W hV => refSuffix_calls rs v h W ha (by omega) hV (by omega) hrm)
    unfold RSufPost at Q1
    have Q2 := Lib.hid (fun W hV => refPublic_calls rs v h W ha (by omega) hV (by omega) hrm)
    have Q3 := Lib.hid (fun W hV => refSite_calls rs v h W ha (by omega) hV (by omega) hrm)
    have P1 := Lib.hid (fun n₀ tb mb W hW hT => suffix_calls (Sx.new rs) h n₀ tb mb W hW ha (by omega) hT)
    unfold SufPost at P1
    have P2 := Lib.hid (fun n₀ tb mb W hW hT => public_calls (Sx.new rs) h n₀ tb mb W hW ha (by omega) hT)
    have P3 := Lib.hid (fun n₀ tb mb W hW hT => site_calls (Sx.new rs) h n₀ tb mb W hW ha (by omega) hT)
    rw [Sx.ref_suffix] at Q1 Q2 Q3
    generalize Sx.isPublic (Sx.suffix (Sx.new rs) h) h = b at *
    generalize (⟨(Sx.site (Sx.suffix (Sx.new rs) h) h).toArray⟩ : ByteArray) = s at *
    generalize Sx.suffix (Sx.new rs) h = k at *
    clear hg hv hn g1 g2 g3 hrm
    generalize hostA h = X at *
    go_enter Tryz.func3, Tryz.ntmps3
    go_wp2_with fail
    generalize w.alloc (.cells X 26) = w0 at *
    refine (HA.out _ (hw.below B0)).mono ?_
    rintro e x0 ⟨rfl, d0⟩
    have B1 := B0.trans (d0.mono B0.size)
    have R1 := R0.stays d0
    have V1 := HV.stays B1
    go_wp2_with (refine at_slot 9 rfl ?_; refine load_row rfl 26 _ rfl w.heap.size rfl R1 Tryz.underlying26 rfl HH.out ?_)
    refine (HG.out _ V1).mono ?_
    rintro e x1 ⟨rfl, d1⟩
    have B2 := B1.trans (d1.mono B1.size)
    have R2 := R1.stays d1
    have V2 := V1.stays d1
    go_wp2_with fail
    refine (HN.out _ (hw.below B2) V2).mono ?_
    rintro e x2 ⟨tb, mb, rfl, T3, d2⟩
    have B3 := B2.trans (d2.mono B2.size)
    have R3 := R2.stays d2
    have V3 := V2.stays d2
    have S3 := hw.below B3
    have C1 := Lib.hid (fun W (hC : Below x2.heap.size x2 W) => on_from hC (P1.out _ tb mb W (S3.below hC) (T3.stays hC)))
    have C2 := Lib.hid (fun W (hC : Below x2.heap.size x2 W) => on_from hC (P2.out _ tb mb W (S3.below hC) (T3.stays hC)))
    have C3 := Lib.hid (fun W (hC : Below x2.heap.size x2 W) => on_from hC (P3.out _ tb mb W (S3.below hC) (T3.stays hC)))
    have D1 := Lib.hid (fun W (hC : Below x2.heap.size x2 W) => on_from hC (Q1.out W (V3.stays hC)))
    have D2 := Lib.hid (fun W (hC : Below x2.heap.size x2 W) => on_from hC (Q2.out W (V3.stays hC)))
    have D3 := Lib.hid (fun W (hC : Below x2.heap.size x2 W) => on_from hC (Q3.out W (V3.stays hC)))
    have RR := Lib.hid (fun W (hC : Below x2.heap.size x2 W) => R3.stays hC)
    clear P1 P2 P3 Q1 Q2 Q3 T3 R3 V3 V2 R2 V1 R1 HV R0 B0 B1 B2 d0 d1 d2 HN HG HA
    go_wp2_with fail
    refine region_quiet (C := fun W => Below x2.heap.size x2 W) (by kernel_rfl) (by kernel_rfl) (Below.refl _ _).drew ?_
    refine q_yields (v := ?_) (Or.inl ⟨by rfl, ?_⟩) ?_
    rotate_left
    · intro _ _; go_simp; with_reducible rfl
    simp only [Act.put, List.setIfInBounds_toArray, List.set_cons_zero, List.set_cons_succ]
    refine q_yields (v := ?_) (Or.inl ⟨by rfl, ?_⟩) ?_
    rotate_left
    · intro _ _; go_simp; with_reducible rfl
    simp only [Act.put, List.setIfInBounds_toArray, List.set_cons_zero, List.set_cons_succ]
    refine q_yields (v := ?_) (Or.inl ⟨by rfl, ?_⟩) ?_
    rotate_left
    · intro _ _; go_simp; with_reducible rfl
    simp only [Act.put, List.setIfInBounds_toArray, List.set_cons_zero, List.set_cons_succ]
    refine q_yields (v := ?_) (Or.inl ⟨by rfl, ?_⟩) ?_
    rotate_left
    · intro _ _; go_simp; with_reducible rfl
    simp only [Act.put, List.setIfInBounds_toArray, List.set_cons_zero, List.set_cons_succ]
    refine q_yields (yields_row (by rfl) _ _ rfl _ rfl RR.out Tryz.underlying26 rfl HH.out) ?_
    simp only [Act.put, List.setIfInBounds_toArray, List.set_cons_zero, List.set_cons_succ]
    refine q_call (by rfl) (.int .i64 (k : Int)) (fun wq hC => by unfold Oper.quietAt; go_simp; exact C1.out wq hC) ?_
    simp only [Act.put, List.setIfInBounds_toArray, List.set_cons_zero, List.set_cons_succ]
    refine q_yields (v := ?_) (Or.inl ⟨by rfl, ?_⟩) ?_
    rotate_left
    · intro _ _; go_simp; with_reducible rfl
    simp only [Act.put, List.setIfInBounds_toArray, List.set_cons_zero, List.set_cons_succ]
    refine q_yields (yields_row (by rfl) _ _ rfl _ rfl RR.out Tryz.underlying26 rfl HH.out) ?_
    simp only [Act.put, List.setIfInBounds_toArray, List.set_cons_zero, List.set_cons_succ]
    refine q_call (by rfl) (.int .i64 (k : Int)) (fun wq hC => by unfold Oper.quietAt; go_simp; exact D1.out wq hC) ?_
    simp only [Act.put, List.setIfInBounds_toArray, List.set_cons_zero, List.set_cons_succ]
    refine q_yields (v := ?_) (Or.inl ⟨by rfl, ?_⟩) ?_
    rotate_left
    · intro _ _; go_simp; with_reducible rfl
    simp only [Act.put, List.setIfInBounds_toArray, List.set_cons_zero, List.set_cons_succ]
    refine q_yields (v := ?_) (Or.inl ⟨by rfl, ?_⟩) ?_
    rotate_left
    · intro _ _; go_simp; with_reducible rfl
    simp only [Act.put, List.setIfInBounds_toArray, List.set_cons_zero, List.set_cons_succ]
    refine q_yields (v := ?_) (Or.inl ⟨by rfl, ?_⟩) ?_
    rotate_left
    · intro _ _; go_simp; with_reducible rfl
    simp only [Act.put, List.setIfInBounds_toArray, List.set_cons_zero, List.set_cons_succ]
    refine q_yields (v := ?_) (Or.inl ⟨by rfl, ?_⟩) ?_
    rotate_left
    · intro _ _; go_simp; with_reducible rfl
    simp only [Act.put, List.setIfInBounds_toArray, List.set_cons_zero, List.set_cons_succ]
    refine q_yields (yields_row (by rfl) _ _ rfl _ rfl RR.out Tryz.underlying26 rfl HH.out) ?_
    simp only [Act.put, List.setIfInBounds_toArray, List.set_cons_zero, List.set_cons_succ]
    refine q_call (by rfl) (.bool b) (fun wq hC => by unfold Oper.quietAt; go_simp; exact C2.out wq hC) ?_
    simp only [Act.put, List.setIfInBounds_toArray, List.set_cons_zero, List.set_cons_succ]
    refine q_yields (v := ?_) (Or.inl ⟨by rfl, ?_⟩) ?_
    rotate_left
    · intro _ _; go_simp; with_reducible rfl
    simp only [Act.put, List.setIfInBounds_toArray, List.set_cons_zero, List.set_cons_succ]
    refine q_yields (yields_row (by rfl) _ _ rfl _ rfl RR.out Tryz.underlying26 rfl HH.out) ?_
    simp only [Act.put, List.setIfInBounds_toArray, List.set_cons_zero, List.set_cons_succ]
    refine q_call (by rfl) (.bool b) (fun wq hC => by unfold Oper.quietAt; go_simp; exact D2.out wq hC) ?_
    simp only [Act.put, List.setIfInBounds_toArray, List.set_cons_zero, List.set_cons_succ]
    refine q_yields (v := ?_) (Or.inl ⟨by rfl, ?_⟩) ?_
    rotate_left
    · intro _ _; go_simp; with_reducible rfl
    simp only [Act.put, List.setIfInBounds_toArray, List.set_cons_zero, List.set_cons_succ]
    refine q_yields (v := ?_) (Or.inl ⟨by rfl, ?_⟩) ?_
    rotate_left
    · intro _ _; go_simp; with_reducible rfl
    simp only [Act.put, List.setIfInBounds_toArray, List.set_cons_zero, List.set_cons_succ]
    refine q_yields (v := ?_) (Or.inl ⟨by rfl, ?_⟩) ?_
    rotate_left
    · intro _ _; go_simp; with_reducible rfl
    simp only [Act.put, List.setIfInBounds_toArray, List.set_cons_zero, List.set_cons_succ]
    refine q_yields (v := ?_) (Or.inl ⟨by rfl, ?_⟩) ?_
    rotate_left
    · intro _ _; go_simp; with_reducible rfl
    simp only [Act.put, List.setIfInBounds_toArray, List.set_cons_zero, List.set_cons_succ]
    refine q_yields (yields_row (by rfl) _ _ rfl _ rfl RR.out Tryz.underlying26 rfl HH.out) ?_
    simp only [Act.put, List.setIfInBounds_toArray, List.set_cons_zero, List.set_cons_succ]
    refine q_call (by rfl) (.string s) (fun wq hC => by unfold Oper.quietAt; go_simp; exact C3.out wq hC) ?_
    simp only [Act.put, List.setIfInBounds_toArray, List.set_cons_zero, List.set_cons_succ]
    refine q_yields (v := ?_) (Or.inl ⟨by rfl, ?_⟩) ?_
    rotate_left
    · intro _ _; go_simp; with_reducible rfl
    simp only [Act.put, List.setIfInBounds_toArray, List.set_cons_zero, List.set_cons_succ]
    refine q_yields (yields_row (by rfl) _ _ rfl _ rfl RR.out Tryz.underlying26 rfl HH.out) ?_
    simp only [Act.put, List.setIfInBounds_toArray, List.set_cons_zero, List.set_cons_succ]
    refine q_call (by rfl) (.string s) (fun wq hC => by unfold Oper.quietAt; go_simp; exact D3.out wq hC) ?_
    simp only [Act.put, List.setIfInBounds_toArray, List.set_cons_zero, List.set_cons_succ]
    refine q_yields (v := ?_) (Or.inl ⟨by rfl, ?_⟩) ?_
    rotate_left
    · intro _ _; go_simp; with_reducible rfl
    simp only [Act.put, List.setIfInBounds_toArray, List.set_cons_zero, List.set_cons_succ]
    refine q_yields (v := ?_) (Or.inl ⟨by rfl, ?_⟩) ?_
    rotate_left
    · intro _ _; go_simp; with_reducible rfl
    simp only [Act.put, List.setIfInBounds_toArray, List.set_cons_zero, List.set_cons_succ]
    refine q_yields (v := ?_) (Or.inl ⟨by rfl, ?_⟩) ?_
    rotate_left
    · intro _ _; go_simp; with_reducible rfl
    simp only [Act.put, List.setIfInBounds_toArray, List.set_cons_zero, List.set_cons_succ]
    refine wpQuiet_nil ?_
    intro w' hC
    go_wp2
    go_ret
    exact ⟨rfl, B3.trans (hC.mono B3.size)⟩
end Go.Proofs.YtnlhniaoaciopaaGreatDoor
