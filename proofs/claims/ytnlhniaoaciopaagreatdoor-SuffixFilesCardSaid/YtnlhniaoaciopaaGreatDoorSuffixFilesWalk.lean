/- The walk of the law SuffixFiles. -/
import Derived.Test.YtnlhniaoaciopaaGreatDoorSuffixAlive
import Derived.Test.YtnlhniaoaciopaaGreatDoorRefSufs
import Derived.Test.YtnlhniaoaciopaaGreatDoorRefRuleFile
import Derived.Test.YtnlhniaoaciopaaGreatDoorRefHosts
import Derived.Test.YtnlhniaoaciopaaGreatDoorQuiet
namespace Go.Proofs.YtnlhniaoaciopaaGreatDoor
open Go.RowKit Go.Maps
theorem Hst.parse_few (l : List UInt8) : (Hst.host (Hst.parse l)).name.length ≤ l.length := by
  unfold Hst.parse
  split
  · exact Nat.zero_le _
  · split
    · rw [Hst.v6part_eq]; split <;> exact Nat.zero_le _
    · split
      · rw [Hst.v4part_eq]; split <;> exact Nat.zero_le _
      · split
        · exact Nat.le_of_eq (List.length_map ..)
        · exact Nat.zero_le _
theorem on_from {a b : World} {P : Ending → Prop} (hC : Below a.heap.size a b) {f : FuncId} {args : Array Value} (h : Calls Tryz.prog f args b fun e w' => P e ∧ Below b.heap.size b w') :
    Calls Tryz.prog f args b fun e w' => P e ∧ Below a.heap.size a w' :=
  h.mono fun _ _ ⟨h1, h2⟩ => ⟨h1, hC.trans (h2.mono hC.size)⟩
theorem rparse_is (d : ByteArray) (W : World) (hd : d.size ≤ 100000) : Calls Tryz.prog 18 #[.string d] W fun e w' => e = .returned (.tuple #[.agg (hostA (Hst.host (Hst.parse d.data.toList))), .int .i64 (Hst.code (Hst.parse d.data.toList))]) ∧ Below W.heap.size W w' := refParse_calls d W (by omega)
theorem rfile_is (s : ByteArray) {f : Ru.Fault} {rs : List Ru.Rule} (ho : Ru.file s.data.toList = (f, rs)) (hs : s.size ≤ 1048576) (W : World) :
    Calls Tryz.prog 17 #[.string s] W fun e w' => ∃ v, e = .returned (.tuple #[v, .agg (faultA f)]) ∧ HasRules w' v rs ∧ Below W.heap.size W w' := by
  have h := refFile_calls s W hs
  rw [ho] at h
  exact h
set_option maxRecDepth 100000 in
set_option maxHeartbeats 8000000 in
theorem sfiles_walk (s d : ByteArray) (w : World) (_hs : s.size ≤ maxLen) (_hd : d.size ≤ maxLen) (hw : Std w) :
    Calls Tryz.prog 4 #[.string s, .string d] w fun e w' => e = .returned (.bool true) ∧ Below w.heap.size w w' := by
  have HA := Lib.hid suffix_alive
  unfold BoolPost at HA
  have z0 := zeroHost
  have z1 := zeroFault
  by_cases k1 : 3000 < s.size
  · have k1i : (3000 : Int) < (s.size : Int) := by omega
    clear k1
    go_enter Tryz.func4, Tryz.ntmps4
    go_wp2_with fail
    refine (HA.out _ hw).mono ?_
    rintro e v0 ⟨rfl, d0⟩
    go_wp2
    go_ret
    exact ⟨rfl, d0⟩
  have k1i : ¬ (3000 : Int) < (s.size : Int) := by omega
  by_cases k2 : 400 < d.size
  · have k2i : (400 : Int) < (d.size : Int) := by omega
    clear k1 k2
    go_enter Tryz.func4, Tryz.ntmps4
    go_wp2_with fail
    refine (HA.out _ hw).mono ?_
    rintro e v0 ⟨rfl, d0⟩
    go_wp2
    go_ret
    exact ⟨rfl, d0⟩
  have k2i : ¬ (400 : Int) < (d.size : Int) := by omega
  obtain ⟨f, rs, hfr⟩ : ∃ f rs, Ru.file s.data.toList = (f, rs) := ⟨_, _, rfl⟩
  have H2 := Lib.hid (fun W => rfile_is s hfr (by omega) W)
  have HP := Lib.hid (fun W => rparse_is d W (by omega))
  have hl := Hst.parse_length d.data.toList
  have hf0 := Hst.parse_few d.data.toList
  have hds : d.data.toList.length = d.size := by simp
  rw [hds] at hf0
  obtain ⟨c, hc⟩ : ∃ c, Hst.code (Hst.parse d.data.toList) = c := ⟨_, rfl⟩
  rw [hc] at HP
  generalize Hst.host (Hst.parse d.data.toList) = h at *
  have HH := Lib.hid (show (Tryz.prog.info? 26).map (·.size) = some (hostA h).size by rw [hostA_size h hl]; exact infoHost)
  have HZ : Hid ((hostA Hst.zero).size = (hostA h).size) := Lib.hid (by rw [hostA_size h hl]; rfl)
  have HO := Lib.hid (hostA_one h)
  by_cases hfine : f = Ru.fine
  case neg =>
    have q1 := neq_fault f Ru.fine
    rw [decide_eq_false hfine] at q1
    clear hfr hfine hl hf0 hds hc k1 k2
    generalize hostA h = X at *
    go_enter Tryz.func4, Tryz.ntmps4
    go_wp2_with fail
    refine (HA.out _ hw).mono ?_
    rintro e v0 ⟨rfl, d0⟩
    go_wp2_with fail
    refine (H2.out _).mono ?_
    rintro e v1 ⟨v, rfl, hr1, d1⟩
    have B1 := d0.trans (d1.mono d0.size)
    obtain ⟨T1, U1, C1, _⟩ := lay_row 38 (faultA Ru.fine) (faultA f) B1 B1.size
    have hr2 : HasRules ((v1.alloc (.cells (faultA Ru.fine) 38)).setRow v1.heap.size (faultA f)) v rs := hr1.stays (below_setRow ((Below.refl _ _).alloc (Nat.le_refl _) _) (Nat.le_refl _) _)
    clear hr1 d1 d0 B1
    go_wp2_with (refine at_none rfl ?_; refine wpList_store_row rfl 38 _ _ rfl v1.heap.size (faultA f) rfl rfl 38 _ T1 infoFault rfl (faultA_one _) ?_)
    generalize (v1.alloc (.cells (faultA Ru.fine) 38)).setRow v1.heap.size (faultA f) = x1 at *
    generalize v1.heap.size = g1 at *
    clear T1
    refine (HP.out _).mono ?_
    rintro e v2 ⟨rfl, d2⟩
    have hr3 := hr2.stays d2
    have B2 := C1.trans (d2.mono C1.size)
    have P1 := U1.stays d2
    obtain ⟨T2, U2, C2, L2⟩ := lay_row 26 (hostA Hst.zero) X B2 B2.size
    have P2 := L2 _ _ _ P1
    have hr4 : HasRules ((v2.alloc (.cells (hostA Hst.zero) 26)).setRow v2.heap.size X) v rs := hr3.stays (below_setRow ((Below.refl _ _).alloc (Nat.le_refl _) _) (Nat.le_refl _) _)
    clear hr2 hr3 L2 P1 U1 C1 B2 d2
    go_wp2_with (first
      | (refine at_none rfl ?_; refine wpList_store_row rfl 26 _ _ rfl v2.heap.size X rfl rfl 26 _ T2 HH.out HZ.out HO.out ?_)
      | (refine at_slot 30 rfl ?_; refine load_row rfl 38 _ rfl g1 rfl P2 Tryz.underlying38 rfl infoFault ?_))
    go_ret
    exact ⟨rfl, C2⟩
  subst hfine
  have q1 := neq_fault Ru.fine Ru.fine
  rw [decide_eq_true rfl] at q1
  by_cases hc0 : c = 0
  case neg =>
    have hcb : (c == 0) = false := by simpa using hc0
    clear hfr hl hf0 hds hc k1 k2
    generalize hostA h = X at *
    go_enter Tryz.func4, Tryz.ntmps4
    go_wp2_with fail
    refine (HA.out _ hw).mono ?_
    rintro e v0 ⟨rfl, d0⟩
    go_wp2_with fail
    refine (H2.out _).mono ?_
    rintro e v1 ⟨v, rfl, hr1, d1⟩
    have B1 := d0.trans (d1.mono d0.size)
    obtain ⟨T1, U1, C1, _⟩ := lay_row 38 (faultA Ru.fine) (faultA Ru.fine) B1 B1.size
    have hr2 : HasRules ((v1.alloc (.cells (faultA Ru.fine) 38)).setRow v1.heap.size (faultA Ru.fine)) v rs := hr1.stays (below_setRow ((Below.refl _ _).alloc (Nat.le_refl _) _) (Nat.le_refl _) _)
    clear hr1 d1 d0 B1
    go_wp2_with (refine at_none rfl ?_; refine wpList_store_row rfl 38 _ _ rfl v1.heap.size (faultA Ru.fine) rfl rfl 38 _ T1 infoFault rfl (faultA_one _) ?_)
    generalize (v1.alloc (.cells (faultA Ru.fine) 38)).setRow v1.heap.size (faultA Ru.fine) = x1 at *
    generalize v1.heap.size = g1 at *
    clear T1
    refine (HP.out _).mono ?_
    rintro e v2 ⟨rfl, d2⟩
    have hr3 := hr2.stays d2
    have B2 := C1.trans (d2.mono C1.size)
    have P1 := U1.stays d2
    obtain ⟨T2, U2, C2, L2⟩ := lay_row 26 (hostA Hst.zero) X B2 B2.size
    have P2 := L2 _ _ _ P1
    have hr4 : HasRules ((v2.alloc (.cells (hostA Hst.zero) 26)).setRow v2.heap.size X) v rs := hr3.stays (below_setRow ((Below.refl _ _).alloc (Nat.le_refl _) _) (Nat.le_refl _) _)
    clear hr2 hr3 L2 P1 U1 C1 B2 d2
    go_wp2_with (first
      | (refine at_none rfl ?_; refine wpList_store_row rfl 26 _ _ rfl v2.heap.size X rfl rfl 26 _ T2 HH.out HZ.out HO.out ?_)
      | (refine at_slot 30 rfl ?_; refine load_row rfl 38 _ rfl g1 rfl P2 Tryz.underlying38 rfl infoFault ?_))
    go_ret
    exact ⟨rfl, C2⟩
  subst hc0
  have hR : Ru.Rules rs := by have := Ru.file_rules (s := s.data.toList) (by rw [hfr]); rw [hfr] at this; exact this
  have hrn : rs.length ≤ 1000 := by have := hR.few; omega
  have hrm : ∀ r ∈ rs, r.name.length ≤ 1000 := fun r hr => by have := (hR.can r hr).good.few; omega
  have HN := Lib.hid (fun v W hW hV => new_calls rs v W hW hV hrn hrm)
  unfold NewTable at HN
  have Q1 := Lib.hid (fun v W hV => refSuffix_calls rs v h W hl (by omega) hV hrn hrm)
  unfold RSufPost at Q1
  have Q3 := Lib.hid (fun v W hV => refSite_calls rs v h W hl (by omega) hV hrn hrm)
  have P1 := Lib.hid (fun n₀ tb mb W hW hT => suffix_calls (Sx.new rs) h n₀ tb mb W hW hl (by omega) hT)
  unfold SufPost at P1
  have P3 := Lib.hid (fun n₀ tb mb W hW hT => site_calls (Sx.new rs) h n₀ tb mb W hW hl (by omega) hT)
  rw [Sx.ref_suffix] at Q1 Q3
  generalize (⟨(Sx.site (Sx.suffix (Sx.new rs) h) h).toArray⟩ : ByteArray) = st at *
  generalize Sx.suffix (Sx.new rs) h = k at *
  clear hfr hl hf0 hds hc k1 k2 hR hrn hrm
  generalize hostA h = X at *
  go_enter Tryz.func4, Tryz.ntmps4
  go_wp2_with fail
  refine (HA.out _ hw).mono ?_
  rintro e v0 ⟨rfl, d0⟩
  go_wp2_with fail
  refine (H2.out _).mono ?_
  rintro e v1 ⟨v, rfl, hr1, d1⟩
  have B1 := d0.trans (d1.mono d0.size)
  obtain ⟨T1, U1, C1, _⟩ := lay_row 38 (faultA Ru.fine) (faultA Ru.fine) B1 B1.size
  have hr2 : HasRules ((v1.alloc (.cells (faultA Ru.fine) 38)).setRow v1.heap.size (faultA Ru.fine)) v rs := hr1.stays (below_setRow ((Below.refl _ _).alloc (Nat.le_refl _) _) (Nat.le_refl _) _)
  clear hr1 d1 d0 B1
  go_wp2_with (refine at_none rfl ?_; refine wpList_store_row rfl 38 _ _ rfl v1.heap.size (faultA Ru.fine) rfl rfl 38 _ T1 infoFault rfl (faultA_one _) ?_)
  generalize (v1.alloc (.cells (faultA Ru.fine) 38)).setRow v1.heap.size (faultA Ru.fine) = x1 at *
  generalize v1.heap.size = g1 at *
  clear T1
  refine (HP.out _).mono ?_
  rintro e v2 ⟨rfl, d2⟩
  have hr3 := hr2.stays d2
  have B2 := C1.trans (d2.mono C1.size)
  have P1 := U1.stays d2
  obtain ⟨T2, U2, C2, L2⟩ := lay_row 26 (hostA Hst.zero) X B2 B2.size
  have P2 := L2 _ _ _ P1
  have hr4 : HasRules ((v2.alloc (.cells (hostA Hst.zero) 26)).setRow v2.heap.size X) v rs := hr3.stays (below_setRow ((Below.refl _ _).alloc (Nat.le_refl _) _) (Nat.le_refl _) _)
  clear hr2 hr3 L2 P1 U1 C1 B2 d2
  go_wp2_with (first
    | (refine at_none rfl ?_; refine wpList_store_row rfl 26 _ _ rfl v2.heap.size X rfl rfl 26 _ T2 HH.out HZ.out HO.out ?_)
    | (refine at_slot 30 rfl ?_; refine load_row rfl 38 _ rfl g1 rfl P2 Tryz.underlying38 rfl infoFault ?_))
  generalize (v2.alloc (.cells (hostA Hst.zero) 26)).setRow v2.heap.size X = x2 at *
  generalize v2.heap.size = g2 at *
  clear T2 P2
  refine (HN.out _ _ (hw.below C2) hr4.holds).mono ?_
  rintro e x3 ⟨tb, mb, rfl, T3, d3⟩
  have B3 := C2.trans (d3.mono C2.size)
  have R3 := U2.stays d3
  have V3 := hr4.holds.stays d3
  have S3 := hw.below B3
  have C1 := Lib.hid (fun W (hC : Below x3.heap.size x3 W) => on_from hC (P1.out _ tb mb W (S3.below hC) (T3.stays hC)))
  have C3 := Lib.hid (fun W (hC : Below x3.heap.size x3 W) => on_from hC (P3.out _ tb mb W (S3.below hC) (T3.stays hC)))
  have D1 := Lib.hid (fun W (hC : Below x3.heap.size x3 W) => on_from hC (Q1.out _ W (V3.stays hC)))
  have D3 := Lib.hid (fun W (hC : Below x3.heap.size x3 W) => on_from hC (Q3.out _ W (V3.stays hC)))
  have RR := Lib.hid (fun W (hC : Below x3.heap.size x3 W) => R3.stays hC)
  clear P1 P3 Q1 Q3 T3 R3 V3 U2 hr4 C2 d3 HN HP H2 HA
  go_wp2_with fail
  refine region_quiet (C := fun W => Below x3.heap.size x3 W) (by kernel_rfl) (by kernel_rfl) (Below.refl _ _).drew ?_
  refine q_yields (v := ?_) (Or.inl ⟨by rfl, ?_⟩) ?_
  rotate_left
  · intro _ _; go_simp; with_reducible rfl
  simp only [Act.put, List.setIfInBounds_toArray, List.set_cons_zero, List.set_cons_succ]
  refine q_yields (yields_row (by rfl) _ _ rfl _ rfl RR.out Tryz.underlying26 rfl HH.out) ?_
  simp only [Act.put, List.setIfInBounds_toArray, List.set_cons_zero, List.set_cons_succ]
  refine q_call (by rfl) (.string st) (fun wq hC => by unfold Oper.quietAt; go_simp; exact C3.out wq hC) ?_
  simp only [Act.put, List.setIfInBounds_toArray, List.set_cons_zero, List.set_cons_succ]
  refine q_yields (v := ?_) (Or.inl ⟨by rfl, ?_⟩) ?_
  rotate_left
  · intro _ _; go_simp; with_reducible rfl
  simp only [Act.put, List.setIfInBounds_toArray, List.set_cons_zero, List.set_cons_succ]
  refine q_yields (yields_row (by rfl) _ _ rfl _ rfl RR.out Tryz.underlying26 rfl HH.out) ?_
  simp only [Act.put, List.setIfInBounds_toArray, List.set_cons_zero, List.set_cons_succ]
  refine q_call (by rfl) (.string st) (fun wq hC => by unfold Oper.quietAt; go_simp; exact D3.out wq hC) ?_
  simp only [Act.put, List.setIfInBounds_toArray, List.set_cons_zero, List.set_cons_succ]
  refine q_yields (v := ?_) (Or.inl ⟨by rfl, ?_⟩) ?_
  rotate_left
  · intro _ _; go_simp; with_reducible rfl
  simp only [Act.put, List.setIfInBounds_toArray, List.set_cons_zero, List.set_cons_succ]
  refine q_yields (v := ?_) (Or.inl ⟨by rfl, ?_⟩) ?_
  rotate_left
  · intro _ _; go_simp; with_reducible rfl
  simp only [Act.put, List.setIfInBounds_toArray, List.set_cons_zero, List.set_cons_succ]
  refine q_yields (v := ?_) (Or.inl ⟨by rfl, ?_⟩) ?_
  rotate_left
  · intro _ _; go_simp; with_reducible rfl
  simp only [Act.put, List.setIfInBounds_toArray, List.set_cons_zero, List.set_cons_succ]
  refine q_yields (yields_row (by rfl) _ _ rfl _ rfl RR.out Tryz.underlying26 rfl HH.out) ?_
  simp only [Act.put, List.setIfInBounds_toArray, List.set_cons_zero, List.set_cons_succ]
  refine q_call (by rfl) (.int .i64 (k : Int)) (fun wq hC => by unfold Oper.quietAt; go_simp; exact C1.out wq hC) ?_
  simp only [Act.put, List.setIfInBounds_toArray, List.set_cons_zero, List.set_cons_succ]
  refine q_yields (v := ?_) (Or.inl ⟨by rfl, ?_⟩) ?_
  rotate_left
  · intro _ _; go_simp; with_reducible rfl
  simp only [Act.put, List.setIfInBounds_toArray, List.set_cons_zero, List.set_cons_succ]
  refine q_yields (yields_row (by rfl) _ _ rfl _ rfl RR.out Tryz.underlying26 rfl HH.out) ?_
  simp only [Act.put, List.setIfInBounds_toArray, List.set_cons_zero, List.set_cons_succ]
  refine q_call (by rfl) (.int .i64 (k : Int)) (fun wq hC => by unfold Oper.quietAt; go_simp; exact D1.out wq hC) ?_
  simp only [Act.put, List.setIfInBounds_toArray, List.set_cons_zero, List.set_cons_succ]
  refine q_yields (v := ?_) (Or.inl ⟨by rfl, ?_⟩) ?_
  rotate_left
  · intro _ _; go_simp; with_reducible rfl
  simp only [Act.put, List.setIfInBounds_toArray, List.set_cons_zero, List.set_cons_succ]
  refine q_yields (v := ?_) (Or.inl ⟨by rfl, ?_⟩) ?_
  rotate_left
  · intro _ _; go_simp; with_reducible rfl
  simp only [Act.put, List.setIfInBounds_toArray, List.set_cons_zero, List.set_cons_succ]
  refine q_yields (v := ?_) (Or.inl ⟨by rfl, ?_⟩) ?_
  rotate_left
  · intro _ _; go_simp; with_reducible rfl
  simp only [Act.put, List.setIfInBounds_toArray, List.set_cons_zero, List.set_cons_succ]
  refine wpQuiet_nil ?_
  intro w' hC
  go_wp2
  go_ret
  exact ⟨rfl, B3.trans (hC.mono B3.size)⟩
end Go.Proofs.YtnlhniaoaciopaaGreatDoor
