/- The walk of the law RuleLines. -/
import Derived.Test.YtjfipedcjahbkaaGreatDoorRuleAlive
import Derived.Test.YtjfipedcjahbkaaGreatDoorRefRuleLine
namespace Go.Proofs.YtjfipedcjahbkaaGreatDoor
open Go.RowKit
/-- Two rules lie in their blocks. -/
structure KeptL (g g' : Nat) (X : Array Value) (w w' : World) : Prop where
  row : Row w' g 24 X
  row2 : Row w' g' 24 X
  below : Below w.heap.size w w'
theorem KeptL.on {g g' : Nat} {X : Array Value} {w w' w'' : World} (k : KeptL g g' X w w') (hb : Below w'.heap.size w' w'') : KeptL g g' X w w'' :=
  ⟨k.row.stays hb, k.row2.stays hb, k.below.trans (hb.mono k.below.size)⟩
theorem Ru.said_name {l : List UInt8} {c : Int} {b : Bool} {r : Ru.Rule} (h : Ru.line l = (c, b, r)) : r.name.length ≤ 253 := by
  rcases Ru.line_cases l with ⟨x, h1, h2⟩ | h1 | h1
  · rw [h1] at h
    simp only [Prod.mk.injEq] at h
    rw [← h.2.2]; exact (Ru.rule_can h2).good.few
  · rw [h1] at h
    simp only [Prod.mk.injEq] at h
    rw [← h.2.2]; exact Nat.zero_le _
  · rw [h1] at h
    simp only [Prod.mk.injEq] at h
    rw [← h.2.2]; exact Nat.zero_le _
set_option maxRecDepth 100000 in
set_option maxHeartbeats 8000000 in
theorem rlines_walk (s : ByteArray) (w : World) (_hs : s.size ≤ maxLen) (hw : Std w) :
    Calls Tryz.prog 3 #[.string s] w fun e w' => e = .returned (.bool true) ∧ Below w.heap.size w w' := by
  have HA := Lib.hid rule_alive
  have z0 := zeroRule
  by_cases hlen : s.size ≤ 1000
  · have hlen1 : ¬ (1000 : Int) < (s.size : Int) := by omega
    have H1 := fun W hW => line_calls s W hW (by omega)
    have H2 := fun W => refLine_calls s W (by omega)
    unfold NewRule at H1 H2
    obtain ⟨o, ho⟩ : ∃ o, Ru.line s.data.toList = o := ⟨_, rfl⟩
    rw [ho] at H1 H2
    obtain ⟨c, b, r⟩ := o
    have hnl := Ru.said_name ho
    have H1 := Lib.hid H1
    have H2 := Lib.hid H2
    dsimp only at H1 H2
    have HT1 := Lib.hid (fun W => ruleText_calls r W (by omega))
    have HT2 := Lib.hid (fun W => refRuleText_calls r W (by omega))
    unfold NewText at HT1 HT2
    generalize (⟨(Ru.text r).toArray⟩ : ByteArray) = t at *
    have q1 := eql_rule r r
    rw [decide_eq_true rfl] at q1
    have HX := Lib.hid (show (Tryz.prog.info? 24).map (·.size) = some (ruleA r).size from infoRule)
    have HXS : Hid ((ruleA Ru.zero).size = (ruleA r).size) := Lib.hid rfl
    have HX1 := Lib.hid (ruleA_one r)
    clear ho hnl
    generalize ruleA r = X at *
    go_enter Tryz.func3, Tryz.ntmps3
    go_wp2_with fail
    refine (HA.out _ hw).mono ?_
    rintro e v0 ⟨rfl, d0⟩
    go_wp2_with fail
    refine (H1.out _ (hw.below d0)).mono ?_
    rintro e v1 ⟨rfl, d1⟩
    have B1 := d0.trans (d1.mono d0.size)
    obtain ⟨T1, U1, C1, _⟩ := lay_row 24 (ruleA Ru.zero) X B1 B1.size
    go_wp2_with (first
      | (refine wpList_store_row rfl 24 _ _ rfl v1.heap.size X rfl rfl 24 _ T1 HX.out HXS.out HX1.out ?_))
    generalize (v1.alloc (.cells (ruleA Ru.zero) 24)).setRow v1.heap.size X = x1 at *
    generalize v1.heap.size = g1 at *
    clear T1 B1 d1 d0
    refine (H2.out _).mono ?_
    rintro e v2 ⟨rfl, d2⟩
    have B2 := C1.trans (d2.mono C1.size)
    have P1 := U1.stays d2
    obtain ⟨T2, U2, C2, L2⟩ := lay_row 24 (ruleA Ru.zero) X B2 B2.size
    have P2 := L2 _ _ _ P1
    clear L2 P1 U1 C1 B2 d2
    go_wp2_with (first
      | (refine wpList_store_row rfl 24 _ _ rfl v2.heap.size X rfl rfl 24 _ T2 HX.out HXS.out HX1.out ?_))
    generalize (v2.alloc (.cells (ruleA Ru.zero) 24)).setRow v2.heap.size X = x2 at *
    generalize v2.heap.size = g2 at *
    have K1 := (KeptL.mk P2 U2 C2).on (Below.refl _ _).drew
    clear T2 P2 U2 C2
    refine wp_region_held_drew (S := KeptL g1 g2 X w) (by kernel_rfl) K1 (fun _ => ?_)
    clear K1
    refine wpAnyH_take (i := 0) rfl (by kernel_rfl) (by kernel_rfl) (by kernel_rfl) (fun _ _ _ h => h) (yields_row (by rfl) _ _ rfl _ rfl (fun _ h => h.row) Tryz.underlying24 rfl HX.out) (by assumption) ?_
    simp only [Act.put, List.setIfInBounds_toArray, List.set_cons_zero, List.set_cons_succ, List.getElem_toArray, List.getElem_cons_zero]
    refine wpAnyH_take (i := 1) rfl (by kernel_rfl) (by kernel_rfl) (by kernel_rfl) (fun _ _ _ h => h) (yields_row (by rfl) _ _ rfl _ rfl (fun _ h => h.row2) Tryz.underlying24 rfl HX.out) (by assumption) ?_
    simp only [Act.put, List.setIfInBounds_toArray, List.set_cons_zero, List.set_cons_succ, List.getElem_toArray, List.getElem_cons_zero, List.getElem_cons_succ]
    refine wpAnyH_take (i := 2) (v := ?_) rfl (by kernel_rfl) (by kernel_rfl) (by kernel_rfl) (fun _ _ _ h => h) (Or.inl ⟨by rfl, ?_⟩) (by assumption) ?_
    rotate_left
    · intro _ _; go_simp; with_reducible rfl
    simp only [Act.put, List.setIfInBounds_toArray, List.set_cons_zero, List.set_cons_succ, List.getElem_toArray, List.getElem_cons_zero, List.getElem_cons_succ]
    refine wpAnyH_take (i := 3) (v := ?_) rfl (by kernel_rfl) (by kernel_rfl) (by kernel_rfl) (fun _ _ _ h => h) (Or.inl ⟨by rfl, ?_⟩) (by assumption) ?_
    rotate_left
    · intro _ _; go_simp; with_reducible rfl
    simp only [Act.put, List.setIfInBounds_toArray, List.set_cons_zero, List.set_cons_succ, List.getElem_toArray, List.getElem_cons_zero, List.getElem_cons_succ]
    refine wpAnyH_take (i := 4) (v := ?_) rfl (by kernel_rfl) (by kernel_rfl) (by kernel_rfl) (fun _ _ _ h => h) (Or.inl ⟨by rfl, ?_⟩) (by assumption) ?_
    rotate_left
    · intro _ _; go_simp; with_reducible rfl
    simp only [Act.put, List.setIfInBounds_toArray, List.set_cons_zero, List.set_cons_succ, List.getElem_toArray, List.getElem_cons_zero, List.getElem_cons_succ]
    refine wpAnyH_take (i := 5) (v := ?_) rfl (by kernel_rfl) (by kernel_rfl) (by kernel_rfl) (fun _ _ _ h => h) (Or.inl ⟨by rfl, ?_⟩) (by assumption) ?_
    rotate_left
    · intro _ _; go_simp; with_reducible rfl
    simp only [Act.put, List.setIfInBounds_toArray, List.set_cons_zero, List.set_cons_succ, List.getElem_toArray, List.getElem_cons_zero, List.getElem_cons_succ]
    refine wpAnyH_take (i := 6) (v := ?_) rfl (by kernel_rfl) (by kernel_rfl) (by kernel_rfl) (fun _ _ _ h => h) (Or.inl ⟨by rfl, ?_⟩) (by assumption) ?_
    rotate_left
    · intro _ _; go_simp; with_reducible rfl
    simp only [Act.put, List.setIfInBounds_toArray, List.set_cons_zero, List.set_cons_succ, List.getElem_toArray, List.getElem_cons_zero, List.getElem_cons_succ]
    refine wpAnyH_take (i := 7) (v := ?_) rfl (by kernel_rfl) (by kernel_rfl) (by kernel_rfl) (fun _ _ _ h => h) (Or.inl ⟨by rfl, ?_⟩) (by assumption) ?_
    rotate_left
    · intro _ _; go_simp; with_reducible rfl
    simp only [Act.put, List.setIfInBounds_toArray, List.set_cons_zero, List.set_cons_succ, List.getElem_toArray, List.getElem_cons_zero, List.getElem_cons_succ]
    refine wpAnyH_take (i := 8) (v := ?_) rfl (by kernel_rfl) (by kernel_rfl) (by kernel_rfl) (fun _ _ _ h => h) (Or.inl ⟨by rfl, ?_⟩) (by assumption) ?_
    rotate_left
    · intro _ _; go_simp; with_reducible rfl
    simp only [Act.put, List.setIfInBounds_toArray, List.set_cons_zero, List.set_cons_succ, List.getElem_toArray, List.getElem_cons_zero, List.getElem_cons_succ]
    refine wpAnyH_take (i := 9) (v := ?_) rfl (by kernel_rfl) (by kernel_rfl) (by kernel_rfl) (fun _ _ _ h => h) (Or.inl ⟨by rfl, ?_⟩) (by assumption) ?_
    rotate_left
    · intro _ _; go_simp; with_reducible rfl
    simp only [Act.put, List.setIfInBounds_toArray, List.set_cons_zero, List.set_cons_succ, List.getElem_toArray, List.getElem_cons_zero, List.getElem_cons_succ]
    refine wpAnyH_take (i := 10) (v := ?_) rfl (by kernel_rfl) (by kernel_rfl) (by kernel_rfl) (fun _ _ _ h => h) (Or.inl ⟨by rfl, ?_⟩) (by assumption) ?_
    rotate_left
    · intro _ _; go_simp; with_reducible rfl
    simp only [Act.put, List.setIfInBounds_toArray, List.set_cons_zero, List.set_cons_succ, List.getElem_toArray, List.getElem_cons_zero, List.getElem_cons_succ]
    refine wpAnyH_take (i := 11) (v := ?_) rfl (by kernel_rfl) (by kernel_rfl) (by kernel_rfl) (fun _ _ _ h => h) (Or.inl ⟨by rfl, ?_⟩) (by assumption) ?_
    rotate_left
    · intro _ _; go_simp; with_reducible rfl
    simp only [Act.put, List.setIfInBounds_toArray, List.set_cons_zero, List.set_cons_succ, List.getElem_toArray, List.getElem_cons_zero, List.getElem_cons_succ]
    refine wpAnyH_take (i := 12) (v := ?_) rfl (by kernel_rfl) (by kernel_rfl) (by kernel_rfl) (fun _ _ _ h => h) (Or.inl ⟨by rfl, ?_⟩) (by assumption) ?_
    rotate_left
    · intro _ _; go_simp; with_reducible rfl
    simp only [Act.put, List.setIfInBounds_toArray, List.set_cons_zero, List.set_cons_succ, List.getElem_toArray, List.getElem_cons_zero, List.getElem_cons_succ]
    refine wpAnyH_take (i := 13) (v := ?_) rfl (by kernel_rfl) (by kernel_rfl) (by kernel_rfl) (fun _ _ _ h => h) (Or.inl ⟨by rfl, ?_⟩) (by assumption) ?_
    rotate_left
    · intro _ _; go_simp; with_reducible rfl
    simp only [Act.put, List.setIfInBounds_toArray, List.set_cons_zero, List.set_cons_succ, List.getElem_toArray, List.getElem_cons_zero, List.getElem_cons_succ]
    refine wpAnyH_take (i := 14) rfl (by kernel_rfl) (by kernel_rfl) (by kernel_rfl) (fun _ _ _ h => h) (yields_row (by rfl) _ _ rfl _ rfl (fun _ h => h.row) Tryz.underlying24 rfl HX.out) (by assumption) ?_
    simp only [Act.put, List.setIfInBounds_toArray, List.set_cons_zero, List.set_cons_succ, List.getElem_toArray, List.getElem_cons_zero, List.getElem_cons_succ]
    refine wpAnyH_take (i := 16) rfl (by kernel_rfl) (by kernel_rfl) (by kernel_rfl) (fun _ _ _ h => h) (yields_row (by rfl) _ _ rfl _ rfl (fun _ h => h.row2) Tryz.underlying24 rfl HX.out) (by assumption) ?_
    simp only [Act.put, List.setIfInBounds_toArray, List.set_cons_zero, List.set_cons_succ, List.getElem_toArray, List.getElem_cons_zero, List.getElem_cons_succ]
    refine wpAnyH_ready (rs := [15]) (by kernel_rfl) (by simp) (AllReadyH.cons rfl (fun K hK => ?_) AllReadyH.nil)
    rw [if_pos (by rfl)]
    go_simp
    refine (HT1.out _).mono ?_
    rintro e w4 ⟨rfl, b4⟩
    have S4 : KeptL g1 g2 X w w4 := KeptL.on (by assumption) b4
    clear b4
    go_wp2_with fail
    refine hK.out _ _ S4 (fun _ => ?_)
    clear hK K
    refine wpAnyH_ready (rs := [17]) (by kernel_rfl) (by simp) (AllReadyH.cons rfl (fun K hK => ?_) AllReadyH.nil)
    rw [if_pos (by rfl)]
    go_simp
    refine (HT2.out _).mono ?_
    rintro e w4 ⟨rfl, b4⟩
    have S4 : KeptL g1 g2 X w w4 := KeptL.on (by assumption) b4
    clear b4
    go_wp2_with fail
    refine hK.out _ _ S4 (fun _ => ?_)
    clear hK K
    refine wpAnyH_take (i := 18) (v := ?_) rfl (by kernel_rfl) (by kernel_rfl) (by kernel_rfl) (fun _ _ _ h => h) (Or.inl ⟨by rfl, ?_⟩) (by assumption) ?_
    rotate_left
    · intro _ _; go_simp; with_reducible rfl
    simp only [Act.put, List.setIfInBounds_toArray, List.set_cons_zero, List.set_cons_succ, List.getElem_toArray, List.getElem_cons_zero, List.getElem_cons_succ]
    refine wpAnyH_take (i := 19) (v := ?_) rfl (by kernel_rfl) (by kernel_rfl) (by kernel_rfl) (fun _ _ _ h => h) (Or.inl ⟨by rfl, ?_⟩) (by assumption) ?_
    rotate_left
    · intro _ _; go_simp; with_reducible rfl
    simp only [Act.put, List.setIfInBounds_toArray, List.set_cons_zero, List.set_cons_succ, List.getElem_toArray, List.getElem_cons_zero, List.getElem_cons_succ]
    refine wpAnyH_take (i := 20) (v := ?_) rfl (by kernel_rfl) (by kernel_rfl) (by kernel_rfl) (fun _ _ _ h => h) (Or.inl ⟨by rfl, ?_⟩) (by assumption) ?_
    rotate_left
    · intro _ _; go_simp; with_reducible rfl
    simp only [Act.put, List.setIfInBounds_toArray, List.set_cons_zero, List.set_cons_succ, List.getElem_toArray, List.getElem_cons_zero, List.getElem_cons_succ]
    refine wpAnyH_done (by kernel_rfl) ?_ _
    go_wp2
    go_ret
    exact ⟨rfl, KeptL.below (g := g1) (g' := g2) (X := X) (by assumption)⟩
  · have hlen1 : (1000 : Int) < (s.size : Int) := by omega
    go_enter Tryz.func3, Tryz.ntmps3
    go_wp2_with fail
    refine (HA.out _ hw).mono ?_
    rintro e w1 ⟨rfl, b1⟩
    go_wp2
    go_ret
    exact ⟨rfl, b1⟩
end Go.Proofs.YtjfipedcjahbkaaGreatDoor
