/- The walk of the law MatchSends. -/
import Derived.Test.YtkajddopjflniaaGreatDoorMatchAlive
import Derived.Test.YtkajddopjflniaaGreatDoorRefMatchSends
import Derived.Test.YtkajddopjflniaaGreatDoorMatchData
import Derived.Test.YtkajddopjflniaaGreatDoorMatchHostsWalk
namespace Go.Proofs.YtkajddopjflniaaGreatDoor
open Go.RowKit
theorem Ma.great_no {c : Ma.Cookie} {r : Ma.Request} (h : Ma.great c r = false) : c.host.name.length ≤ 600 ∧ r.host.name.length ≤ 600 ∧ c.path.length ≤ 3000 ∧ r.path.length ≤ 3000 := by
  unfold Ma.great at h
  simp only [Bool.or_eq_false_iff, decide_eq_false_iff_not] at h
  omega
set_option maxRecDepth 100000 in
set_option maxHeartbeats 4000000 in
theorem msends_walk (c : Ma.Cookie) (r : Ma.Request) (now : Int) (w : World) (hc : CookieOk c) (hr : RequestOk r) (_hn : (Lit.int .i64 now).wf = true) (hw : Std w) :
    Calls Tryz.prog 4 #[.agg (cookieA c), .agg (requestA r), .int .i64 now] w fun e w' => e = .returned (.bool true) ∧ Below w.heap.size w w' := by
  have ha := hc.host.addr
  have hb := hr.host.addr
  have HA := Lib.hid match_alive
  have HC := Lib.hid (show (Tryz.prog.info? 29).map (·.size) = some (cookieA c).size by rw [cookieA_size c ha]; exact infoCookie)
  have HD := Lib.hid (show (Tryz.prog.info? 31).map (·.size) = some (requestA r).size by rw [requestA_size r hb]; exact infoRequest)
  have HG := Lib.hid (fun W => mgreat_calls c r ha hb W)
  have k3 := cookieA_same c ha
  have HS : Hid (Ma.great c r = false → ∀ W, Std W → Calls Tryz.prog 10 #[.agg (cookieA c), .agg (requestA r), .int .i64 now] W fun e w' => e = .returned (.bool (Ma.sends c r now)) ∧ Below W.heap.size W w') := Lib.hid (fun hg W hW => by
    obtain ⟨g1, g2, g3, _⟩ := Ma.great_no hg
    exact sends_calls c r now ha hb (by omega) (by omega) (by omega) W hW)
  have HT : Hid (Ma.great c r = false → ∀ W, Calls Tryz.prog 11 #[.agg (cookieA c), .agg (requestA r), .int .i64 now] W fun e w' => e = .returned (.bool (Ma.sends c r now)) ∧ Below W.heap.size W w') := Lib.hid (fun hg W => by
    obtain ⟨g1, g2, g3, _⟩ := Ma.great_no hg
    exact refSends_calls c r now ha hb (by omega) (by omega) (by omega) W)
  have R0 := Row.new w 29 (cookieA c)
  have B0 := (Below.refl w.heap.size w).alloc (Nat.le_refl _) (.cells (cookieA c) 29)
  have hN : (w.alloc (.cells (cookieA c) 29)).heap.size = w.heap.size + 1 := by simp
  have S1 := Row.new (w.alloc (.cells (cookieA c) 29)) 31 (requestA r)
  rw [hN] at S1
  have R1 := R0.alloc (.cells (requestA r) 31)
  have C1 := B0.alloc B0.size (.cells (requestA r) 31)
  clear R0 B0 hN ha hb hc hr
  generalize Ma.great c r = g at *
  generalize Ma.sends c r now = s at *
  generalize c.same = sm at *
  generalize cookieA c = U at *
  generalize requestA r = V at *
  go_enter Tryz.func4, Tryz.ntmps4
  go_wp2_with fail
  generalize (w.alloc (.cells U 29)).alloc (.cells V 31) = x1 at *
  refine (HA.out _).mono ?_
  rintro e w' ⟨rfl, rfl⟩
  go_wp2_with (first
    | (refine at_slot 9 rfl ?_; refine load_row rfl 29 _ rfl w.heap.size rfl R1 Tryz.underlying29 rfl HC.out ?_)
    | (refine at_slot 10 rfl ?_; refine load_row rfl 31 _ rfl (w.heap.size + 1) rfl S1 Tryz.underlying31 rfl HD.out ?_))
  refine (HG.out _).mono ?_
  rintro e x2 ⟨rfl, d2⟩
  have C2 := C1.trans (d2.mono C1.size)
  have R2 := R1.stays d2
  have S2 := S1.stays d2
  have c3 := (R2.cell 24).trans k3
  clear d2 R1 S1 C1 HG k3
  cases g
  · have h3 : sm < 0 ∨ (¬ sm < 0 ∧ 3 < sm) ∨ (¬ sm < 0 ∧ ¬ 3 < sm) := by omega
    rcases h3 with h | ⟨h, k⟩ | ⟨h, k⟩
    · go_wp2
      go_ret
      exact ⟨rfl, C2⟩
    · go_wp2
      go_ret
      exact ⟨rfl, C2⟩
    · have W2 := hw.below C2
      have RR := Lib.hid (fun W (hC : Below x2.heap.size x2 W) => R2.stays hC)
      have SS := Lib.hid (fun W (hC : Below x2.heap.size x2 W) => S2.stays hC)
      have D1 := Lib.hid (fun W (hC : Below x2.heap.size x2 W) => in_class hC (HS.out rfl W (W2.below hC)))
      have D2 := Lib.hid (fun W (hC : Below x2.heap.size x2 W) => in_class hC (HT.out rfl W))
      clear R2 S2 HS HT
      go_wp2_with fail
      refine region_quiet (C := fun W => Below x2.heap.size x2 W) (by kernel_rfl) (by kernel_rfl) (Below.refl _ _).drew ?_
      refine q_yields (yields_row (by rfl) _ _ rfl _ rfl RR.out Tryz.underlying29 rfl HC.out) ?_
      simp only [Act.put, List.setIfInBounds_toArray, List.set_cons_zero, List.set_cons_succ]
      refine q_yields (yields_row (by rfl) _ _ rfl _ rfl SS.out Tryz.underlying31 rfl HD.out) ?_
      simp only [Act.put, List.setIfInBounds_toArray, List.set_cons_zero, List.set_cons_succ]
      refine q_yields (v := ?_) (Or.inl ⟨by rfl, ?_⟩) ?_
      rotate_left
      · intro _ _; go_simp; with_reducible rfl
      simp only [Act.put, List.setIfInBounds_toArray, List.set_cons_zero, List.set_cons_succ]
      refine q_call (by rfl) (.bool s) (fun wq hC => by unfold Oper.quietAt; go_simp; exact D1.out wq hC) ?_
      simp only [Act.put, List.setIfInBounds_toArray, List.set_cons_zero, List.set_cons_succ]
      refine q_yields (yields_row (by rfl) _ _ rfl _ rfl RR.out Tryz.underlying29 rfl HC.out) ?_
      simp only [Act.put, List.setIfInBounds_toArray, List.set_cons_zero, List.set_cons_succ]
      refine q_yields (yields_row (by rfl) _ _ rfl _ rfl SS.out Tryz.underlying31 rfl HD.out) ?_
      simp only [Act.put, List.setIfInBounds_toArray, List.set_cons_zero, List.set_cons_succ]
      refine q_yields (v := ?_) (Or.inl ⟨by rfl, ?_⟩) ?_
      rotate_left
      · intro _ _; go_simp; with_reducible rfl
      simp only [Act.put, List.setIfInBounds_toArray, List.set_cons_zero, List.set_cons_succ]
      refine q_call (by rfl) (.bool s) (fun wq hC => by unfold Oper.quietAt; go_simp; exact D2.out wq hC) ?_
      simp only [Act.put, List.setIfInBounds_toArray, List.set_cons_zero, List.set_cons_succ]
      refine q_yields (v := ?_) (Or.inl ⟨by rfl, ?_⟩) ?_
      rotate_left
      · intro _ _; go_simp; with_reducible rfl
      simp only [Act.put, List.setIfInBounds_toArray, List.set_cons_zero, List.set_cons_succ]
      refine q_yields (v := ?_) (Or.inl ⟨by rfl, ?_⟩) ?_
      rotate_left
      · intro _ _; go_simp; with_reducible rfl
      simp only [Act.put, List.setIfInBounds_toArray, List.set_cons_zero, List.set_cons_succ]
      refine wpQuiet_nil ?_
      intro w' hC
      go_wp2
      go_ret
      exact ⟨rfl, C2.trans (hC.mono C2.size)⟩
  · clear HS HT
    go_wp2
    go_ret
    exact ⟨rfl, C2⟩
end Go.Proofs.YtkajddopjflniaaGreatDoor
