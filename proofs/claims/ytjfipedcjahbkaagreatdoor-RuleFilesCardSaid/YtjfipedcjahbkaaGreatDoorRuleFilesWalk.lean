/- The walk of the law RuleFiles. -/
import Derived.Test.YtjfipedcjahbkaaGreatDoorRuleAlive
import Derived.Test.YtjfipedcjahbkaaGreatDoorRefRuleFile
import Derived.Test.YtjfipedcjahbkaaGreatDoorRefRuleSame
namespace Go.Proofs.YtjfipedcjahbkaaGreatDoor
open Go.RowKit
theorem Ru.file_few (s : List UInt8) : (Ru.file s).2.length ≤ 200 := by
  by_cases h : (Ru.file s).1 = Ru.fine
  · exact (Ru.file_rules h).few
  · rw [Ru.file_none h]; simp
set_option maxRecDepth 100000 in
set_option maxHeartbeats 8000000 in
theorem rfiles_walk (s : ByteArray) (w : World) (_hs : s.size ≤ maxLen) (hw : Std w) :
    Calls Tryz.prog 4 #[.string s] w fun e w' => e = .returned (.bool true) ∧ Below w.heap.size w w' := by
  have HA := Lib.hid rule_alive
  have z1 := zeroFault
  by_cases hgo : s.size ≤ 4000 ∨ (20000 < s.size ∧ s.size ≤ 30000)
  · have H1 := fun W hW => file_calls s W hW (by omega)
    have H2 := fun W => refFile_calls s W (by omega)
    have hfew := Ru.file_few s.data.toList
    unfold NewRules at H1 H2
    obtain ⟨o, ho⟩ : ∃ o, Ru.file s.data.toList = o := ⟨_, rfl⟩
    rw [ho] at H1 H2 hfew
    obtain ⟨f, rs⟩ := o
    dsimp only at H1 H2 hfew
    have H1 := Lib.hid H1
    have H2 := Lib.hid H2
    have q1 := eql_fault f f
    rw [decide_eq_true rfl] at q1
    have HSAME : Hid (∀ va vb W, HasRules W va rs → HasRules W vb rs → Calls Tryz.prog 12 #[va, vb] W fun e w' => e = .returned (.bool true) ∧ Drawn W w') := Lib.hid (fun va vb W h1 h2 => by
      have h := sameRules_calls rs rs va vb W (by omega) h1 h2
      rw [decide_eq_true rfl] at h
      exact h)
    have HX := Lib.hid (show (Tryz.prog.info? 34).map (·.size) = some (faultA f).size from infoFault)
    have HXS : Hid ((faultA Ru.fine).size = (faultA f).size) := Lib.hid rfl
    have HX1 := Lib.hid (faultA_one f)
    clear ho hfew
    generalize faultA f = X at *
    have h4 : ¬ (30000 : Int) < (s.size : Int) := by omega
    rcases hgo with hgo | ⟨hgo, _⟩
    · have h1 : ¬ (4000 : Int) < (s.size : Int) := by omega
      clear hgo
      go_enter Tryz.func4, Tryz.ntmps4
      go_wp2_with fail
      refine (HA.out _ hw).mono ?_
      rintro e v0 ⟨rfl, d0⟩
      go_wp2_with fail
      refine (H1.out _ (hw.below d0)).mono ?_
      rintro e v1 ⟨va, rfl, hr1, d1⟩
      have B1 := d0.trans (d1.mono d0.size)
      obtain ⟨T1, U1, C1, _⟩ := lay_row 34 (faultA Ru.fine) X B1 B1.size
      have hr2 : HasRules ((v1.alloc (.cells (faultA Ru.fine) 34)).setRow v1.heap.size X) va rs := hr1.stays (below_setRow ((Below.refl _ _).alloc (Nat.le_refl _) _) (Nat.le_refl _) _)
      clear hr1 d0 d1 B1
      go_wp2_with (first
        | (refine at_none rfl ?_; refine wpList_store_row rfl 34 _ _ rfl v1.heap.size X rfl rfl 34 _ T1 HX.out HXS.out HX1.out ?_))
      generalize (v1.alloc (.cells (faultA Ru.fine) 34)).setRow v1.heap.size X = x1 at *
      generalize v1.heap.size = g1 at *
      clear T1
      refine (H2.out _).mono ?_
      rintro e v2 ⟨vb, rfl, hr3, d2⟩
      have hr4 := hr2.stays d2
      have U2 := U1.stays d2
      have B2 := C1.trans (d2.mono C1.size)
      obtain ⟨T3, U3, C3, L3⟩ := lay_row 34 (faultA Ru.fine) X B2 B2.size
      have U4 := L3 _ _ _ U2
      have hb5 : Below v2.heap.size v2 ((v2.alloc (.cells (faultA Ru.fine) 34)).setRow v2.heap.size X) := below_setRow ((Below.refl _ _).alloc (Nat.le_refl _) _) (Nat.le_refl _) _
      have hr5 := hr3.stays hb5
      have hr6 := hr4.stays hb5
      clear hr2 hr3 hr4 d2 U1 U2 C1 B2 L3 hb5
      go_wp2_with (first
        | (refine at_none rfl ?_; refine wpList_store_row rfl 34 _ _ rfl v2.heap.size X rfl rfl 34 _ T3 HX.out HXS.out HX1.out ?_))
      generalize (v2.alloc (.cells (faultA Ru.fine) 34)).setRow v2.heap.size X = x2 at *
      generalize v2.heap.size = g2 at *
      clear T3
      refine (HSAME.out _ _ _ hr6 hr5).mono ?_
      rintro e v4 ⟨rfl, d4⟩
      have U5 := U3.stays (d4.below _)
      have U6 := U4.stays (d4.below _)
      have B5 := C3.trans (d4.below _)
      clear hr5 hr6 U3 U4 C3 d4
      go_wp2_with (first
        | (refine at_slot 36 rfl ?_; refine load_row rfl 34 _ rfl g1 rfl U6 Tryz.underlying34 rfl HX.out ?_)
        | (refine at_slot 37 rfl ?_; refine load_row rfl 34 _ rfl g2 rfl U5 Tryz.underlying34 rfl HX.out ?_))
      go_ret
      exact ⟨rfl, B5⟩
    · have h1 : (4000 : Int) < (s.size : Int) := by omega
      have h2 : ¬ (s.size : Int) ≤ (20000 : Int) := by omega
      clear hgo
      go_enter Tryz.func4, Tryz.ntmps4
      go_wp2_with fail
      refine (HA.out _ hw).mono ?_
      rintro e v0 ⟨rfl, d0⟩
      go_wp2_with fail
      refine (H1.out _ (hw.below d0)).mono ?_
      rintro e v1 ⟨va, rfl, hr1, d1⟩
      have B1 := d0.trans (d1.mono d0.size)
      obtain ⟨T1, U1, C1, _⟩ := lay_row 34 (faultA Ru.fine) X B1 B1.size
      have hr2 : HasRules ((v1.alloc (.cells (faultA Ru.fine) 34)).setRow v1.heap.size X) va rs := hr1.stays (below_setRow ((Below.refl _ _).alloc (Nat.le_refl _) _) (Nat.le_refl _) _)
      clear hr1 d0 d1 B1
      go_wp2_with (first
        | (refine at_none rfl ?_; refine wpList_store_row rfl 34 _ _ rfl v1.heap.size X rfl rfl 34 _ T1 HX.out HXS.out HX1.out ?_))
      generalize (v1.alloc (.cells (faultA Ru.fine) 34)).setRow v1.heap.size X = x1 at *
      generalize v1.heap.size = g1 at *
      clear T1
      refine (H2.out _).mono ?_
      rintro e v2 ⟨vb, rfl, hr3, d2⟩
      have hr4 := hr2.stays d2
      have U2 := U1.stays d2
      have B2 := C1.trans (d2.mono C1.size)
      obtain ⟨T3, U3, C3, L3⟩ := lay_row 34 (faultA Ru.fine) X B2 B2.size
      have U4 := L3 _ _ _ U2
      have hb5 : Below v2.heap.size v2 ((v2.alloc (.cells (faultA Ru.fine) 34)).setRow v2.heap.size X) := below_setRow ((Below.refl _ _).alloc (Nat.le_refl _) _) (Nat.le_refl _) _
      have hr5 := hr3.stays hb5
      have hr6 := hr4.stays hb5
      clear hr2 hr3 hr4 d2 U1 U2 C1 B2 L3 hb5
      go_wp2_with (first
        | (refine at_none rfl ?_; refine wpList_store_row rfl 34 _ _ rfl v2.heap.size X rfl rfl 34 _ T3 HX.out HXS.out HX1.out ?_))
      generalize (v2.alloc (.cells (faultA Ru.fine) 34)).setRow v2.heap.size X = x2 at *
      generalize v2.heap.size = g2 at *
      clear T3
      refine (HSAME.out _ _ _ hr6 hr5).mono ?_
      rintro e v4 ⟨rfl, d4⟩
      have U5 := U3.stays (d4.below _)
      have U6 := U4.stays (d4.below _)
      have B5 := C3.trans (d4.below _)
      clear hr5 hr6 U3 U4 C3 d4
      go_wp2_with (first
        | (refine at_slot 36 rfl ?_; refine load_row rfl 34 _ rfl g1 rfl U6 Tryz.underlying34 rfl HX.out ?_)
        | (refine at_slot 37 rfl ?_; refine load_row rfl 34 _ rfl g2 rfl U5 Tryz.underlying34 rfl HX.out ?_))
      go_ret
      exact ⟨rfl, B5⟩
  · by_cases h30 : 30000 < s.size
    · have h1 : (4000 : Int) < (s.size : Int) := by omega
      have h2 : ¬ (s.size : Int) ≤ (20000 : Int) := by omega
      have h4 : (30000 : Int) < (s.size : Int) := by omega
      clear hgo h30
      go_enter Tryz.func4, Tryz.ntmps4
      go_wp2_with fail
      refine (HA.out _ hw).mono ?_
      rintro e w1 ⟨rfl, b1⟩
      go_wp2
      go_ret
      exact ⟨rfl, b1⟩
    · have h1 : (4000 : Int) < (s.size : Int) := by omega
      have h2 : (s.size : Int) ≤ (20000 : Int) := by omega
      clear hgo h30
      go_enter Tryz.func4, Tryz.ntmps4
      go_wp2_with fail
      refine (HA.out _ hw).mono ?_
      rintro e w1 ⟨rfl, b1⟩
      go_wp2
      go_ret
      exact ⟨rfl, b1⟩
end Go.Proofs.YtjfipedcjahbkaaGreatDoor
