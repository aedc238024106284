/- The walks of slices.Repeat of one number, and of slices.Clone of numbers. -/
import Derived.Test.YtdidogcgoghdmaaDfaNone
import Derived.Test.YtdidogcgoghdmaaShelf
import Derived.Laws.CopyOwn
import Derived.Deep.RegionHeld
namespace Go.Proofs.Ytdidogcgoghdmaa
open Go.RowKit
/-- A copy of numbers: a row of the call's own. -/
theorem cloneN_calls (v : Value) (l : List Int) (w : World) (h : Nums w v l) (hn : l.length ≤ 4398046511104) :
    Calls Try.prog 33 #[v] w fun e w' => ∃ u, e = .returned u ∧ w'.ownsRow w.heap.size 3 1 u l.length (intVs l) ∧ Below w.heap.size w w' := by
  obtain ⟨A, c, rfl⟩ := h.slice
  cases A with
  | none =>
    have h0 : l.length = 0 := by
      obtain ⟨A, c2, hv, _, hh⟩ := h.row
      obtain ⟨rfl, _, _⟩ := Value.slice.inj hv
      rw [intVs_length] at hh
      refine Nat.eq_zero_of_not_pos fun hp => ?_
      obtain ⟨g, off, hA, _⟩ := hh hp
      cases hA
    have hl : l = [] := List.eq_nil_of_length_eq_zero h0
    subst hl
    refine (Try.slices_Clone_int_nil 0 c w).mono ?_
    rintro e w' ⟨rfl, rfl⟩
    exact ⟨_, rfl, World.ownsRow_nil _ _ _ _, Below.refl _ _⟩
  | some a =>
    by_cases h0 : l.length = 0
    · have hl : l = [] := List.eq_nil_of_length_eq_zero h0
      subst hl
      refine (Try.slices_Clone_int_zero a c w).mono ?_
      rintro e w' ⟨u, rfl, hown, _, hb⟩
      exact ⟨_, rfl, hown, hb⟩
    · obtain ⟨A2, c2, hv, _, hh⟩ := h.row
      obtain ⟨hA, _, _⟩ := Value.slice.inj hv
      obtain ⟨g, off, h1, _, h3⟩ := hh (by rw [intVs_length]; omega)
      rw [h1] at hA
      obtain rfl := Option.some.inj hA
      refine (Try.slices_Clone_int g off l.length c l w (Nat.le_refl _) (by omega) (fun j hj => ?_)).mono ?_
      · rw [h3 j _ (intVs_at (List.getElem?_eq_getElem hj))]
        simp [List.getD, List.getElem?_eq_getElem hj]
      · rintro e w' ⟨u, rfl, hown, _, hb⟩
        rw [List.take_of_length_le (Nat.le_refl _)] at hown
        exact ⟨_, rfl, hown, hb⟩
def half (x : Int) (c j : Nat) : List Value := List.replicate j (.int .i64 x) ++ List.replicate (c - j) (.int .i64 0)
theorem half_more {x : Int} {c j m : Nat} (h : j + m ≤ c) : splice (half x c j) j (List.replicate m (.int .i64 x)) = half x c (j + m) := by
  unfold splice half
  rw [List.length_replicate, List.take_append, List.length_replicate, Nat.sub_self, List.take_zero, List.append_nil, List.take_of_length_le (by simp), List.drop_append, List.length_replicate, List.drop_eq_nil_of_le (by simp), List.nil_append, List.drop_replicate, ← List.append_assoc, List.replicate_append_replicate]
  congr 2
  omega
theorem half_length {x : Int} {c j : Nat} (h : j ≤ c) : (half x c j).length = c := by unfold half; simp; omega
theorem half_all {x : Int} {c j : Nat} (h : c ≤ j) (h2 : j ≤ c) : half x c j = List.replicate c (.int .i64 x) := by
  obtain rfl : j = c := by omega
  unfold half
  simp
theorem half_at {x : Int} {c j i : Nat} (h : i < j) : (half x c j)[i]? = some (.int .i64 x) := by
  unfold half
  rw [List.getElem?_append_left (by simpa using h), List.getElem?_replicate, if_pos h]
theorem infoIntSize : (Try.prog.info? 3).map (·.size) = some 1 := by kernel_rfl
theorem ones_all {x : Int} {m : Nat} : ∀ v ∈ List.replicate m (Value.int .i64 x), v.oneCell' = true := by
  intro v hv
  rw [(List.mem_replicate.1 hv).2]; rfl
set_option maxRecDepth 100000 in
set_option maxHeartbeats 4000000 in
theorem repeat_calls (x : Int) (c g : Nat) (w : World) (hc : 1 ≤ c) (hc2 : c ≤ 1099511627776) (hx : w.cell? ⟨g, 0, none⟩ = some (.int .i64 x)) :
    Calls Try.prog 32 #[.slice (some ⟨g, 0, none⟩) 1 1, .int .i64 (c : Int)] w fun e w' => ∃ u, e = .returned u ∧ w'.ownsRow w.heap.size 3 1 u c (List.replicate c (.int .i64 x)) ∧ Below w.heap.size w w' := by
  have hmul := Lib.hid (fun W => Try.bits_Mul 1 c (by omega) (by omega) W)
  rw [Nat.one_mul, Nat.div_eq_of_lt (by omega), Nat.mod_eq_of_lt (by omega)] at hmul
  have hmk := fun W => make_one (P := Try.prog) Try.underlying22 infoNum rfl c (by omega) (by omega) W
  have HC := Lib.hid hc
  have e1 : decide ((9223372036854775807 : Int) < (c : Int)) = false := decide_eq_false (by omega)
  have e2 : decide ((c : Int) < 0) = false := decide_eq_false (by omega)
  have hz : (half x c 0).toArray = Array.replicate c (.int .i64 0) := by unfold half; simp
  have PN := Lib.hid (show Row (w.alloc (.cells (Array.replicate c (.int .i64 0)) 3)) w.heap.size 3 (half x c 0).toArray by rw [hz]; exact Row.new _ _ _)
  have BN := Lib.hid ((Below.refl w.heap.size w).alloc (Nat.le_refl _) (.cells (Array.replicate c (.int .i64 0)) 3))
  have PX := Lib.hid (show ∀ j v, (List.replicate 1 (Value.int .i64 x))[j]? = some v → (w.alloc (.cells (Array.replicate c (.int .i64 0)) 3)).cell? ((⟨g, 0, none⟩ : Addr).add j) = some v from fun j v hj => by
    have h1 := (List.getElem?_eq_some_iff.1 hj).1
    have hj0 : j = 0 := by simpa using h1
    subst hj0
    rw [add_at]
    have h2 : Value.int .i64 x = v := by simpa using hj
    rw [← h2, BN.out.cell (p := ⟨g, 0 + 0, none⟩) (by first | exact World.block_lt_of_cell? w hx | exact World.block_lt_of_cell? w _ hx)]
    exact hx)
  have HM1 := Lib.hid (half_more (x := x) (c := c) (j := 0) (m := 1) (by omega))
  have HN1 := Lib.hid (show (List.replicate 1 (Value.int .i64 x)).length = Nat.min 1 c by rw [List.length_replicate]; show 1 = min 1 c; omega)
  have HF1 := Lib.hid (show 0 + (List.replicate 1 (Value.int .i64 x)).length ≤ (half x c 0).length by rw [List.length_replicate, half_length (Nat.zero_le _)]; omega)
  clear hz
  obtain ⟨X1, hX1⟩ : ∃ X, X = List.replicate 1 (Value.int .i64 x) := ⟨_, rfl⟩
  rw [← hX1] at PX HM1 HN1 HF1
  have HO1 : Hid (∀ v ∈ X1, v.oneCell' = true) := Lib.hid (by rw [hX1]; exact ones_all)
  have HL1 : Hid (X1.length = 1) := Lib.hid (by rw [hX1]; simp)
  clear hX1
  obtain ⟨g2, hg2⟩ : ∃ g2, w.heap.size = g2 := ⟨_, rfl⟩
  rw [hg2] at PN
  have HPost : Hid (∀ w', Row w' g2 3 (half x c c).toArray → Below g2 w w' → (fun (e : Ending) (w' : World) => ∃ u, e = .returned u ∧ w'.ownsRow w.heap.size 3 1 u c (List.replicate c (.int .i64 x)) ∧ Below w.heap.size w w') (.returned (.slice (some ⟨g2, 0, none⟩) c c)) w') := Lib.hid (fun w' h1 h2 => ⟨_, rfl, by
    rw [hg2]
    refine ⟨by simp, .inr ⟨g2, c, _, rfl, Nat.le_refl _, h1, Nat.le_refl _, by unfold maxLen; omega, by rw [Nat.mul_one]; simpa using half_length (Nat.le_refl _), ?_⟩⟩
    rw [half_all (Nat.le_refl _) (Nat.le_refl _), Nat.mul_one]
    simp, by rw [hg2]; exact h2⟩)
  generalize (fun (e : Ending) (w' : World) => ∃ u, e = .returned u ∧ w'.ownsRow w.heap.size 3 1 u c (List.replicate c (.int .i64 x)) ∧ Below w.heap.size w w') = post at *
  go_enter Try.func32, Try.ntmps32
  go_wp2_with (first
    | (go_at_call 43; refine (hmul.out _).mono ?_; rintro e w' ⟨rfl, hw⟩; have hw := hw.symm; subst hw)
    | (refine at_slot 33 rfl ?_; refine wpList_copy_splice rfl _ _ 22 22 rfl 3 Try.underlying22 infoIntSize _ _ _ _ _ _ rfl rfl _ 0 (half x c 0) 3 PN.out X1 HN1.out (fun _ => ⟨rfl, _, rfl, PX.out⟩) HF1.out HO1.out _ _ BN.out (Nat.le_of_eq hg2) ?_; intro w2 HG2 hB2; rw [HM1.out] at HG2; rw [HL1.out]))
  rw [hg2] at hB2
  have HB2 := Lib.hid hB2
  have hc1 := HC.out
  clear hmk hmul PN BN PX HM1 HN1 HF1 HO1 HL1 hx hg2 e1 e2 hB2
  go_loopw [8] (fun i wr => ∃ j : Nat, 1 ≤ j ∧ j ≤ c ∧ i = .int .i64 j ∧ Hid (Row wr g2 3 (half x c j).toArray) ∧ Hid (Below g2 w wr)) (fun i _ => c - (intOf i).toNat)
  case atStart => exact ⟨1, Nat.le_refl _, hc1, rfl, HG2, HB2⟩
  case round =>
    obtain ⟨j, hj1, hj, rfl, HR, HB⟩ := hrel
    by_cases hlt : j < c
    · obtain ⟨m, hm⟩ : ∃ m, m = Nat.min j (c - j) := ⟨_, rfl⟩
      have hm1 : m ≤ j := by rw [hm]; exact Nat.min_le_left _ _
      have hm2 : m ≤ c - j := by rw [hm]; exact Nat.min_le_right _ _
      have hm3 : 1 ≤ m := by rw [hm]; exact Nat.le_min.2 ⟨hj1, by omega⟩
      obtain ⟨XS, hXS⟩ : ∃ X, X = List.replicate m (Value.int .i64 x) := ⟨_, rfl⟩
      have HL : Hid (XS.length = m) := Lib.hid (by rw [hXS]; simp)
      have P1 : Hid (XS.length = Nat.min j (c - j)) := Lib.hid (by rw [HL.out]; exact hm)
      have P3 : Hid (j + XS.length ≤ (half x c j).length) := Lib.hid (by rw [HL.out, half_length hj]; omega)
      have PO : Hid (∀ v ∈ XS, v.oneCell' = true) := Lib.hid (by rw [hXS]; exact ones_all)
      have PM : Hid (splice (half x c j) j XS = half x c (j + m)) := Lib.hid (by rw [hXS]; exact half_more (by omega))
      have PR := Lib.hid (HR.out.drew)
      have P2 : Hid (∀ i v, XS[i]? = some v → wr.drew.cell? ((⟨g2, 0, none⟩ : Addr).add i) = some v) := Lib.hid (fun i v hi => by
        have hil : i < m := by rw [← HL.out]; exact (List.getElem?_eq_some_iff.1 hi).1
        rw [add_at, PR.out.cell, Nat.zero_add]
        rw [hXS, List.getElem?_replicate, if_pos hil] at hi
        rw [← Option.some.inj hi, List.getElem?_toArray]
        exact half_at (by omega))
      have BB := Lib.hid (HB.out.drew)
      have PNE : Hid (¬ c = j) := Lib.hid (by omega)
      clear hm hXS
      have hne := PNE.out
      have w1 : IntKind.i64.wrap ((j : Int) + (m : Int)) = ((j + m : Nat) : Int) := by rw [IntKind.wrap_i64]; omega
      go_wp2
      refine wp_region_held_drew (S := fun _ => True) (by kernel_rfl) trivial (fun hS => ?_)
      refine wpAnyH_take (i := 0) (v := ?_) rfl (by kernel_rfl) (by kernel_rfl) (by kernel_rfl) (fun _ _ _ h => h) (Or.inl ⟨by rfl, ?_⟩) (by assumption) ?_
      rotate_left
      · intro _ _; go_simp; with_reducible rfl
      simp only [Act.put, List.setIfInBounds_toArray, List.set_cons_zero, List.set_cons_succ, List.getElem_toArray, List.getElem_cons_zero]
      refine wpAnyH_take (i := 1) (v := ?_) rfl (by kernel_rfl) (by kernel_rfl) (by kernel_rfl) (fun _ _ _ h => h) (Or.inl ⟨by rfl, ?_⟩) (by assumption) ?_
      rotate_left
      · intro _ _; go_simp; with_reducible rfl
      simp only [Act.put, List.setIfInBounds_toArray, List.set_cons_zero, List.set_cons_succ, List.getElem_toArray, List.getElem_cons_zero, List.getElem_cons_succ]
      refine wpAnyH_take (i := 2) (v := ?_) rfl (by kernel_rfl) (by kernel_rfl) (by kernel_rfl) (fun _ _ _ h => h) (Or.inl ⟨by rfl, ?_⟩) (by assumption) ?_
      rotate_left
      · intro _ _; go_simp; with_reducible rfl
      simp only [Act.put, List.setIfInBounds_toArray, List.set_cons_zero, List.set_cons_succ, List.getElem_toArray, List.getElem_cons_zero, List.getElem_cons_succ]
      refine wpAnyH_take (i := 3) (v := ?_) rfl (by kernel_rfl) (by kernel_rfl) (by kernel_rfl) (fun _ _ _ h => h) (Or.inl ⟨by rfl, ?_⟩) (by assumption) ?_
      rotate_left
      · intro _ _; go_simp; with_reducible rfl
      simp only [Act.put, List.setIfInBounds_toArray, List.set_cons_zero, List.set_cons_succ, List.getElem_toArray, List.getElem_cons_zero, List.getElem_cons_succ]
      refine wpAnyH_take (i := 4) (v := ?_) rfl (by kernel_rfl) (by kernel_rfl) (by kernel_rfl) (fun _ _ _ h => h) (Or.inl ⟨by rfl, ?_⟩) (by assumption) ?_
      rotate_left
      · intro _ _; go_simp; with_reducible rfl
      simp only [Act.put, List.setIfInBounds_toArray, List.set_cons_zero, List.set_cons_succ, List.getElem_toArray, List.getElem_cons_zero, List.getElem_cons_succ]
      refine wpAnyH_take (i := 5) (v := ?_) rfl (by kernel_rfl) (by kernel_rfl) (by kernel_rfl) (fun _ _ _ h => h) (Or.inl ⟨by rfl, ?_⟩) (by assumption) ?_
      rotate_left
      · intro _ _; go_simp; with_reducible rfl
      simp only [Act.put, List.setIfInBounds_toArray, List.set_cons_zero, List.set_cons_succ, List.getElem_toArray, List.getElem_cons_zero, List.getElem_cons_succ]
      refine wpAnyH_take (i := 6) (v := ?_) rfl (by kernel_rfl) (by kernel_rfl) (by kernel_rfl) (fun _ _ _ h => h) (Or.inl ⟨by rfl, ?_⟩) (by assumption) ?_
      rotate_left
      · intro _ _; go_simp; with_reducible rfl
      simp only [Act.put, List.setIfInBounds_toArray, List.set_cons_zero, List.set_cons_succ, List.getElem_toArray, List.getElem_cons_zero, List.getElem_cons_succ]
      refine wpAnyH_ready (rs := [7]) (by kernel_rfl) (by simp) (AllReadyH.cons rfl (fun K hK => ?_) AllReadyH.nil)
      refine step_copy_splice (by rfl) (.tmp 41) (.tmp 44) 22 22 (by rfl) 3 Try.underlying22 infoIntSize (some ⟨g2, j, none⟩) (some ⟨g2, 0, none⟩) (c - j) (c - j) j c (by rfl) (by rfl) g2 j (half x c j) 3 PR.out XS P1.out (fun _ => ⟨rfl, _, rfl, P2.out⟩) P3.out PO.out g2 w BB.out (Nat.le_refl _) ?_
      intro w5 hw5 hb5
      rw [PM.out] at hw5
      rw [HL.out]
      refine hK.out _ _ trivial (fun _ => ?_)
      clear hK K
      have HB5 := Lib.hid hb5
      clear hb5 P1 P2 P3 PO PR BB hS
      simp only [goInt]
      refine wpAnyH_take (i := 8) (v := ?_) rfl (by kernel_rfl) (by kernel_rfl) (by kernel_rfl) (fun _ _ _ h => h) (Or.inl ⟨by rfl, ?_⟩) (by assumption) ?_
      rotate_left
      · intro _ _; go_simp; with_reducible rfl
      simp only [Act.put, List.setIfInBounds_toArray, List.set_cons_zero, List.set_cons_succ, List.getElem_toArray, List.getElem_cons_zero, List.getElem_cons_succ]
      refine wpAnyH_take (i := 9) (v := ?_) rfl (by kernel_rfl) (by kernel_rfl) (by kernel_rfl) (fun _ _ _ h => h) (Or.inl ⟨by rfl, ?_⟩) (by assumption) ?_
      rotate_left
      · intro _ _; go_simp; with_reducible rfl
      simp only [Act.put, List.setIfInBounds_toArray, List.set_cons_zero, List.set_cons_succ, List.getElem_toArray, List.getElem_cons_zero, List.getElem_cons_succ]
      refine wpAnyH_done (by kernel_rfl) ?_ _
      go_wp2
      go_roundw
      case rel => exact ⟨j + m, by omega, by omega, rfl, hw5, HB5⟩
      case measure => simp [intOf]; omega
    · obtain rfl : j = c := by omega
      go_wp2
      exact HPost.out _ HR.out HB.out
end Go.Proofs.Ytdidogcgoghdmaa
