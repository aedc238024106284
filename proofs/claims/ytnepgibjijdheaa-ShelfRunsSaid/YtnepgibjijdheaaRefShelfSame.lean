/- The walk of the reference's Same: two lists of the same cookies. -/
import Derived.Test.YtnepgibjijdheaaRefShelfAll
import Derived.Test.YtnepgibjijdheaaSpanMore
namespace Go.Proofs.Ytnepgibjijdheaa
open Go.RowKit
set_option maxRecDepth 100000 in
set_option maxHeartbeats 4000000 in
theorem refSame_calls (xs : List Ma.Cookie) (v1 v2 : Value) (w : World) (ho : ∀ c ∈ xs, c.host.addr.length = 16) (hv1 : Lies cookieA w v1 xs) (hv2 : Lies cookieA w v2 xs) (hn : xs.length ≤ 1000000) :
    Calls Try.prog 29 #[v1, v2] w fun e w' => e = .returned (.bool true) ∧ Below w.heap.size w w' := by
  have HV1 := Lib.hid hv1
  have HV2 := Lib.hid hv2
  have HOK := Lib.hid ho
  have HKA := Lib.hid (show ∀ c ∈ xs, (cookieA c).size = 29 from fun c hc => cookieA_size c (ho c hc))
  obtain ⟨A1, p1, rfl, hp1, _⟩ := hv1
  obtain ⟨A2, p2, rfl, hp2, _⟩ := hv2
  obtain ⟨n, hnn⟩ : ∃ n, xs.length = n := ⟨_, rfl⟩
  have HNN := Lib.hid hnn
  rw [hnn] at hn hp1 hp2 HV1 HV2 ⊢
  have C0 := Below.refl w.heap.size w
  clear hnn ho
  go_enter Try.func29, Try.ntmps29
  go_wp2_with fail
  go_loopw [13] (fun i wr => ∃ (k : Nat), k ≤ n ∧ i = .int .i64 (k : Int) ∧ Below w.heap.size w wr) (fun i _ => n - (intOf i).toNat)
  case atStart => exact ⟨0, Nat.zero_le _, rfl, C0⟩
  case round =>
    obtain ⟨k, hk, rfl, hb⟩ := hrel
    clear C0
    by_cases hlt : k < n
    · obtain ⟨x, hx⟩ : ∃ x, xs[k]? = some x := ⟨_, List.getElem?_eq_getElem (by rw [HNN.out]; exact hlt)⟩
      have hxm := List.mem_of_getElem? hx
      have ka := HOK.out x hxm
      obtain ⟨g1, o1, rfl, hg1⟩ := HV1.out.block.2.2 (by rw [HNN.out]; omega)
      obtain ⟨g2, o2, rfl, hg2⟩ := HV2.out.block.2.2 (by rw [HNN.out]; omega)
      have HC1 := Lib.hid (show ∀ W : World, Below w.heap.size w W → ∀ j u, (cookieA x)[j]? = some u → W.cell? ⟨g1, o1 + k * 29 + j, none⟩ = some u from fun W hW => by
        have h := HV1.out.stays hW
        rw [← HNN.out] at h
        exact h.one HKA.out hx)
      have HC2 := Lib.hid (show ∀ W : World, Below w.heap.size w W → ∀ j u, (cookieA x)[j]? = some u → W.cell? ⟨g2, o2 + k * 29 + j, none⟩ = some u from fun W hW => by
        have h := HV2.out.stays hW
        rw [← HNN.out] at h
        exact h.one HKA.out hx)
      have HXN := Lib.hid (show (Try.prog.info? 34).map (·.size) = some (cookieA x).size by rw [cookieA_size _ ka]; exact infoCookie)
      have HNEQ : ∀ W, (binOp .neq 34 (.agg (cookieA x)) (.agg (cookieA x))).run Try.prog W = .ok (.bool false) W := fun W => neq_cookie x ka W
      generalize cookieA x = X at *
      clear hx hxm ka
      go_wp2_with fail
      refine region_quiet (C := fun W => Below w.heap.size w W) (by kernel_rfl) (by kernel_rfl) hb.drew ?_
      refine q_yields (v := ?_) (Or.inl ⟨by rfl, ?_⟩) ?_
      rotate_left
      · intro _ _; go_simp; with_reducible rfl
      simp only [Act.put, List.setIfInBounds_toArray, List.set_cons_zero, List.set_cons_succ]
      refine q_yields (v := ?_) (Or.inl ⟨by rfl, ?_⟩) ?_
      rotate_left
      · intro _ _; go_simp; with_reducible rfl
      simp only [Act.put, List.setIfInBounds_toArray, List.set_cons_zero, List.set_cons_succ]
      refine q_yields (v := ?_) (Or.inl ⟨by rfl, ?_⟩) ?_
      rotate_left
      · intro _ _; go_simp; with_reducible rfl
      simp only [Act.put, List.setIfInBounds_toArray, List.set_cons_zero, List.set_cons_succ]
      refine q_yields (yields_span (by rfl) 34 (.tmp 18) rfl g1 (o1 + k * 29) rfl X HC1.out Try.underlying34 rfl HXN.out) ?_
      simp only [Act.put, List.setIfInBounds_toArray, List.set_cons_zero, List.set_cons_succ]
      refine q_yields (v := ?_) (Or.inl ⟨by rfl, ?_⟩) ?_
      rotate_left
      · intro _ _; go_simp; with_reducible rfl
      simp only [Act.put, List.setIfInBounds_toArray, List.set_cons_zero, List.set_cons_succ]
      refine q_yields (v := ?_) (Or.inl ⟨by rfl, ?_⟩) ?_
      rotate_left
      · intro _ _; go_simp; with_reducible rfl
      simp only [Act.put, List.setIfInBounds_toArray, List.set_cons_zero, List.set_cons_succ]
      refine q_yields (v := ?_) (Or.inl ⟨by rfl, ?_⟩) ?_
      rotate_left
      · intro _ _; go_simp; with_reducible rfl
      simp only [Act.put, List.setIfInBounds_toArray, List.set_cons_zero, List.set_cons_succ]
      refine q_yields (yields_span (by rfl) 34 (.tmp 22) rfl g2 (o2 + k * 29) rfl X HC2.out Try.underlying34 rfl HXN.out) ?_
      simp only [Act.put, List.setIfInBounds_toArray, List.set_cons_zero, List.set_cons_succ]
      refine q_yields (v := ?_) (Or.inl ⟨by rfl, ?_⟩) ?_
      rotate_left
      · intro _ _; go_simp; with_reducible rfl
      simp only [Act.put, List.setIfInBounds_toArray, List.set_cons_zero, List.set_cons_succ]
      refine wpQuiet_nil ?_
      intro w5 hb5
      clear hb
      go_wp2
      go_roundw
      case rel => exact ⟨k + 1, by omega, by go_num, hb5⟩
      case measure => simp [intOf]; omega
    · obtain rfl : k = n := by omega
      go_wp2
      go_ret
      exact ⟨rfl, hb⟩
end Go.Proofs.Ytnepgibjijdheaa
