/- The walk of what puts down where a pair goes. -/
import Derived.Test.YtdidogcgoghdmaaDfaNext
import Derived.Test.YtdidogcgoghdmaaDfaEq
import Derived.Test.YtdidogcgoghdmaaYieldsBuilt
namespace Go.Proofs.Ytdidogcgoghdmaa
open Go.RowKit Go.Maps
theorem zip_at {xa xb : List Nat} {x a b : Nat} (ha : xa[x]? = some a) (hb : xb[x]? = some b) : (xa.zip xb)[x]? = some (a, b) := by
  rw [List.getElem?_zip_eq_some]; exact ⟨ha, hb⟩
theorem built_pair15 (a b : Nat) : Try.prog.built 50 [(0, .int .i64 (a : Int)), (1, .int .i64 (b : Int))] = some (pairA (a, b)) := by kernel_rfl
set_option maxRecDepth 100000 in
set_option maxHeartbeats 8000000 in
theorem leave_calls (w0 w : World) {B g mb kk : Nat} {st : Int} {nx : List Nat} {ac : List Bool} {l : List (Nat × Nat)} (h : MakerAt NoB w B g mb (kk : Int) st nx ac l) (hb0 : Below w0.heap.size w0 w) (hB : w0.heap.size ≤ B) {va vb : Value} {xa xb : List Nat} (Ha : Nums w0 va (Au.ofN xa)) (Hb : Nums w0 vb (Au.ofN xb)) (la : xa.length = kk) (lb : xb.length = kk)
    (oka : ∀ a ∈ xa, a < 9223372036854775808) (okb : ∀ b ∈ xb, b < 9223372036854775808) (h1 : 1 ≤ kk) (h2 : kk ≤ 512) (hn : l.length ≤ 1000000) (hnd : l.Nodup) (hnx : nx.length ≤ 4000000000) :
    Calls Try.prog 45 #[.pointer (some ⟨g, 0, none⟩), va, vb] w fun e w' => ∃ l' tos, e = .returned (.tuple #[]) ∧ Au.Left l (xa.zip xb) l' tos kk ∧ MakerAt NoB w' B g mb (kk : Int) st (nx ++ tos) ac l' ∧ Below B w w' := by
  obtain ⟨ca0, c, rfl⟩ := Ha.slice
  obtain ⟨cb0, c', rfl⟩ := Hb.slice
  rw [Au.ofN_length, la] at Ha ⊢
  rw [Au.ofN_length, lb] at Hb ⊢
  have hAt : ∀ x : Nat, x < kk → ∃ a b ga oa gb ob, xa[x]? = some a ∧ xb[x]? = some b ∧ ca0 = some ⟨ga, oa, none⟩ ∧ cb0 = some ⟨gb, ob, none⟩ ∧ (∀ W, Below w0.heap.size w0 W → W.cell? ⟨ga, oa + x, none⟩ = some (.int .i64 (a : Int))) ∧ (∀ W, Below w0.heap.size w0 W → W.cell? ⟨gb, ob + x, none⟩ = some (.int .i64 (b : Int))) ∧ PairOk (a, b) := by
    intro x hx
    obtain ⟨a, ha⟩ : ∃ a, xa[x]? = some a := ⟨_, List.getElem?_eq_getElem (by omega)⟩
    obtain ⟨b, hb⟩ : ∃ b, xb[x]? = some b := ⟨_, List.getElem?_eq_getElem (by omega)⟩
    obtain ⟨ga, oa, e1, l1, c1⟩ := Ha.row.at (intVs_at (Au.ofN_at ha))
    obtain ⟨gb, ob, e2, l2, c2⟩ := Hb.row.at (intVs_at (Au.ofN_at hb))
    exact ⟨a, b, ga, oa, gb, ob, ha, hb, e1, e2, fun W hW => (hW.cell (p := ⟨ga, oa + x, none⟩) l1).trans c1, fun W hW => (hW.cell (p := ⟨gb, ob + x, none⟩) l2).trans c2, oka a (List.mem_of_getElem? ha), okb b (List.mem_of_getElem? hb)⟩
  obtain ⟨a0, b0, ga, oa, gb, ob, ha0, hbb0, rfl, rfl, ka0, kb0, ok0⟩ := hAt 0 (by omega)
  have HAT : Hid (∀ x : Nat, x < kk → ∃ a b, xa[x]? = some a ∧ xb[x]? = some b ∧ (∀ W, Below w0.heap.size w0 W → W.cell? ⟨ga, oa + x, none⟩ = some (.int .i64 (a : Int))) ∧ (∀ W, Below w0.heap.size w0 W → W.cell? ⟨gb, ob + x, none⟩ = some (.int .i64 (b : Int))) ∧ PairOk (a, b)) := Lib.hid (fun x hx => by
    obtain ⟨a, b, ga', oa', gb', ob', e1, e2, e3, e4, e5, e6, e7⟩ := hAt x hx
    obtain ⟨rfl, rfl, _⟩ := Addr.mk.inj (Option.some.inj e3)
    obtain ⟨rfl, rfl, _⟩ := Addr.mk.inj (Option.some.inj e4)
    exact ⟨a, b, e1, e2, e5, e6, e7⟩)
  have KA0 : Hid (∀ W, Below w0.heap.size w0 W → W.cell? ⟨ga, oa, none⟩ = some (.int .i64 (a0 : Int))) := Lib.hid ka0
  have KB0 : Hid (∀ W, Below w0.heap.size w0 W → W.cell? ⟨gb, ob, none⟩ = some (.int .i64 (b0 : Int))) := Lib.hid kb0
  have HP0 : Hid ((xa.zip xb)[0]? = some (a0, b0)) := Lib.hid (zip_at ha0 hbb0)
  have HOK0 := Lib.hid ok0
  have HM := Lib.hid h
  have HND := Lib.hid hnd
  have HBL := Lib.hid hb0
  clear Ha Hb hAt ha0 hbb0 ka0 kb0 ok0 h hnd oka okb
  have hk0 : 0 < kk := h1
  go_enter Try.func45, Try.ntmps45
  go_wp2
  have S0 : Below w0.heap.size w0 w.drew := HBL.out.drew
  have M0 := HM.out.stays (Below.refl _ _).drew
  have D0 := (Below.refl B w).drew
  refine wp_region_held_drew (S := fun W => Below w0.heap.size w0 W) (by kernel_rfl) S0 (fun hS => ?_)
  generalize w.drew = v0 at *
  refine wpAnyH_take (i := 0) (v := ?_) rfl (by kernel_rfl) (by kernel_rfl) (by kernel_rfl) (fun _ _ _ h => h) (Or.inl ⟨by rfl, ?_⟩) (by assumption) ?_
  rotate_left
  · intro _ _; go_simp; with_reducible rfl
  simp only [Act.put, List.setIfInBounds_toArray, List.set_cons_zero, List.set_cons_succ, List.getElem_toArray, List.getElem_cons_zero]
  refine wpAnyH_take (i := 1) (v := ?_) rfl (by kernel_rfl) (by kernel_rfl) (by kernel_rfl) (fun _ _ _ h => h) (Or.inl ⟨by rfl, ?_⟩) (by assumption) ?_
  rotate_left
  · intro _ _; go_simp; with_reducible rfl
  simp only [Act.put, List.setIfInBounds_toArray, List.set_cons_zero, List.set_cons_succ, List.getElem_toArray, List.getElem_cons_zero, List.getElem_cons_succ]
  refine wpAnyH_take (i := 2) (v := .int .i64 (a0 : Int)) rfl (by kernel_rfl) (by kernel_rfl) (by kernel_rfl) (fun _ _ _ h => h) (Or.inl ⟨by rfl, fun wq hC => by have hcell := KA0.out wq hC; go_simp; try with_reducible rfl⟩) (by assumption) ?_
  simp only [Act.put, List.setIfInBounds_toArray, List.set_cons_zero, List.set_cons_succ, List.getElem_toArray, List.getElem_cons_zero, List.getElem_cons_succ]
  refine wpAnyH_take (i := 3) (v := ?_) rfl (by kernel_rfl) (by kernel_rfl) (by kernel_rfl) (fun _ _ _ h => h) (Or.inl ⟨by rfl, ?_⟩) (by assumption) ?_
  rotate_left
  · intro _ _; go_simp; with_reducible rfl
  simp only [Act.put, List.setIfInBounds_toArray, List.set_cons_zero, List.set_cons_succ, List.getElem_toArray, List.getElem_cons_zero, List.getElem_cons_succ]
  refine wpAnyH_take (i := 4) (v := ?_) rfl (by kernel_rfl) (by kernel_rfl) (by kernel_rfl) (fun _ _ _ h => h) (Or.inl ⟨by rfl, ?_⟩) (by assumption) ?_
  rotate_left
  · intro _ _; go_simp; with_reducible rfl
  simp only [Act.put, List.setIfInBounds_toArray, List.set_cons_zero, List.set_cons_succ, List.getElem_toArray, List.getElem_cons_zero, List.getElem_cons_succ]
  refine wpAnyH_take (i := 5) (v := .int .i64 (b0 : Int)) rfl (by kernel_rfl) (by kernel_rfl) (by kernel_rfl) (fun _ _ _ h => h) (Or.inl ⟨by rfl, fun wq hC => by have hcell := KB0.out wq hC; go_simp; try with_reducible rfl⟩) (by assumption) ?_
  simp only [Act.put, List.setIfInBounds_toArray, List.set_cons_zero, List.set_cons_succ, List.getElem_toArray, List.getElem_cons_zero, List.getElem_cons_succ]
  refine wpAnyH_take (i := 6) rfl (by kernel_rfl) (by kernel_rfl) (by kernel_rfl) (fun _ _ _ h => h) (yields_built2 (by rfl) 50 0 1 (.tmp 12) (.tmp 15) rfl (.int .i64 (a0 : Int)) (.int .i64 (b0 : Int)) rfl rfl (pairA (a0, b0)) (built_pair15 a0 b0)) (by assumption) ?_
  simp only [Act.put, List.setIfInBounds_toArray, List.set_cons_zero, List.set_cons_succ, List.getElem_toArray, List.getElem_cons_zero, List.getElem_cons_succ]
  have le0 := Below.size hS
  have Z3 := Row.new v0 50 #[.int .i64 0, .int .i64 0]
  refine wpAnyH_ready (rs := [7]) (by kernel_rfl) (by simp) (AllReadyH.cons rfl (fun K hK => ?_) AllReadyH.nil)
  rw [if_pos (by rfl)]
  go_simp
  have S1 := Below.alloc hS (Below.size hS) (.cells #[.int .i64 0, .int .i64 0] 50)
  refine hK.out _ _ S1 (fun _ => ?_)
  clear hK K
  refine wpAnyH_ready (rs := [8]) (by kernel_rfl) (by simp) (AllReadyH.cons rfl (fun K hK => ?_) AllReadyH.nil)
  rw [if_pos (by rfl)]
  refine wp_store_row 50 _ _ rfl v0.heap.size (pairA (a0, b0)) rfl rfl 50 _ Z3 infoPair15 rfl (pairA_one _) ?_
  have S2 := below_setRow (g := v0.heap.size) S1 (by first | exact Below.size S1 | (have := Below.size S1; simp at this; omega) | assumption | omega) (pairA (a0, b0))
  have Z4 := Row.whole Z3 (pairA (a0, b0))
  refine hK.out _ _ S2 (fun _ => ?_)
  clear hK K
  refine wpAnyH_done (by kernel_rfl) ?_ _
  have DN : Below v0.heap.size v0 ((v0.alloc (.cells #[.int .i64 0, .int .i64 0] 50)).setRow v0.heap.size (pairA (a0, b0))) := below_setRow ((Below.refl _ _).alloc (Nat.le_refl _) _) (Nat.le_refl _) _
  have M1 := (M0.one (Nat.le_refl _)).stays DN
  have D1 := D0.trans (DN.mono (Nat.le_of_lt M0.lt))
  have hlt6 := Z4.lt
  have hB6 := Nat.le_of_lt M0.lt
  generalize (v0.alloc (.cells #[.int .i64 0, .int .i64 0] 50)).setRow v0.heap.size (pairA (a0, b0)) = v1 at *
  generalize v0.heap.size = b6 at *
  clear Z3 DN M0 D0 S1 hS S0 le0
  have HST := Lib.hid (state_calls v1 M1 (fun b hb => by rw [show b = b6 from hb]; exact hlt6) (a0, b0) HOK0.out (by omega))
  have HS2 := Lib.hid S2
  have HD1 := Lib.hid D1
  have HB6 := Lib.hid hB6
  clear M1 S2 D1 hB6
  go_wp2_with (first
    | (refine at_slot 18 rfl ?_; refine load_row rfl 50 _ rfl b6 rfl Z4 Try.underlying50 rfl infoPair15 ?_))
  refine HST.out.mono ?_
  rintro e v2 ⟨i0, l1, rfl, hseat, M2, K2, d2⟩
  have Z5 : Row v2 b6 50 (pairA (a0, b0)) := (K2 b6 rfl).trans Z4
  have HL1 := Lib.hid (Au.left_start HND.out (List.mem_of_getElem? HP0.out) hseat)
  have HI0 := Lib.hid hseat.1
  have HM2 : Hid (MakerAt (OneB b6) v2 B g mb (kk : Int) st (nx ++ []) ac l1) := Lib.hid (by rw [List.append_nil]; exact M2)
  have HB2 := Lib.hid (HD1.out.trans d2)
  have HS3 := Lib.hid (HS2.out.trans (d2.mono hB))
  have HZ5 := Lib.hid Z5
  have h6v : b6 < v2.heap.size := Z5.lt
  obtain ⟨nv0, av0, pv0, G2, _⟩ := M2.parts
  have c0 := G2.cell 0
  clear Z4 Z5 M2 K2 d2 hseat G2 HST HS2 HD1 hlt6
  go_wp2_with fail
  clear c0
  have HH6 := Lib.hid h6v
  clear h6v
  go_loopw [7, 25] (fun to i wr => ∃ (x t : Nat) (q : Nat × Nat) (l2 : List (Nat × Nat)) (tos : List Nat), x ≤ kk ∧ i = .int .i64 x ∧ to = .int .i64 t ∧ Hid (l2[t]? = some q) ∧ Hid (Au.Left l (xa.zip xb) l2 tos x) ∧ Hid (MakerAt (OneB b6) wr B g mb (kk : Int) st (nx ++ tos) ac l2) ∧ Hid (Row wr b6 50 (pairA q)) ∧ Hid (Below B w wr) ∧ Hid (Below w0.heap.size w0 wr)) (fun _ i _ => kk - (intOf i).toNat)
  case atStart => exact ⟨0, i0, (a0, b0), l1, [], Nat.zero_le _, rfl, rfl, HI0, HL1, HM2, HZ5, HB2, HS3⟩
  case round =>
    obtain ⟨x, t, q, l2, tos, hx, rfl, rfl, HQ, HL, HMK, HZ, HB, HS⟩ := hrel
    obtain ⟨NX, hNX⟩ : ∃ L, L = nx ++ tos := ⟨_, rfl⟩
    obtain ⟨ln, hln⟩ : ∃ n, NX.length = n := ⟨_, rfl⟩
    have hln2 : ln < 4398046511104 := by rw [← hln, hNX, List.length_append, HL.out.len]; omega
    rw [← hNX] at HMK
    have HNX := Lib.hid hNX
    have HLX := Lib.hid hln
    have HLEN := Lib.hid hln2
    clear hNX hln hln2
    by_cases hlt : x < kk
    · obtain ⟨a, b, hxa, hxb, ka, kb, hok⟩ := HAT.out x hlt
      have HPX := Lib.hid (zip_at hxa hxb)
      have HOK := Lib.hid hok
      have KA := Lib.hid ka
      have KB := Lib.hid kb
      clear hxa hxb ka kb hok
      go_wp2
      have S0 : Below w0.heap.size w0 wr.drew := HS.out.drew
      have M0 := HMK.out.stays (Below.refl _ _).drew
      have D0 := HB.out.drew
      have Y0 := HZ.out.drew
      refine wp_region_held_drew (S := fun W => Below w0.heap.size w0 W) (by kernel_rfl) S0 (fun hS => ?_)
      generalize wr.drew = y0 at *
      refine wpAnyH_take (i := 0) (v := ?_) rfl (by kernel_rfl) (by kernel_rfl) (by kernel_rfl) (fun _ _ _ h => h) (Or.inl ⟨by rfl, ?_⟩) (by assumption) ?_
      rotate_left
      · intro _ _; go_simp; with_reducible rfl
      simp only [Act.put, List.setIfInBounds_toArray, List.set_cons_zero, List.set_cons_succ, List.getElem_toArray, List.getElem_cons_zero]
      refine wpAnyH_take (i := 1) (v := ?_) rfl (by kernel_rfl) (by kernel_rfl) (by kernel_rfl) (fun _ _ _ h => h) (Or.inl ⟨by rfl, ?_⟩) (by assumption) ?_
      rotate_left
      · intro _ _; go_simp; with_reducible rfl
      simp only [Act.put, List.setIfInBounds_toArray, List.set_cons_zero, List.set_cons_succ, List.getElem_toArray, List.getElem_cons_zero, List.getElem_cons_succ]
      refine wpAnyH_take (i := 2) (v := ?_) rfl (by kernel_rfl) (by kernel_rfl) (by kernel_rfl) (fun _ _ _ h => h) (Or.inl ⟨by rfl, ?_⟩) (by assumption) ?_
      rotate_left
      · intro _ _; go_simp; with_reducible rfl
      simp only [Act.put, List.setIfInBounds_toArray, List.set_cons_zero, List.set_cons_succ, List.getElem_toArray, List.getElem_cons_zero, List.getElem_cons_succ]
      refine wpAnyH_take (i := 3) (v := .int .i64 (a : Int)) rfl (by kernel_rfl) (by kernel_rfl) (by kernel_rfl) (fun _ _ _ h => h) (Or.inl ⟨by rfl, fun wq hC => by have hcell := KA.out wq hC; go_simp; try with_reducible rfl⟩) (by assumption) ?_
      simp only [Act.put, List.setIfInBounds_toArray, List.set_cons_zero, List.set_cons_succ, List.getElem_toArray, List.getElem_cons_zero, List.getElem_cons_succ]
      refine wpAnyH_take (i := 4) (v := ?_) rfl (by kernel_rfl) (by kernel_rfl) (by kernel_rfl) (fun _ _ _ h => h) (Or.inl ⟨by rfl, ?_⟩) (by assumption) ?_
      rotate_left
      · intro _ _; go_simp; with_reducible rfl
      simp only [Act.put, List.setIfInBounds_toArray, List.set_cons_zero, List.set_cons_succ, List.getElem_toArray, List.getElem_cons_zero, List.getElem_cons_succ]
      refine wpAnyH_take (i := 5) (v := ?_) rfl (by kernel_rfl) (by kernel_rfl) (by kernel_rfl) (fun _ _ _ h => h) (Or.inl ⟨by rfl, ?_⟩) (by assumption) ?_
      rotate_left
      · intro _ _; go_simp; with_reducible rfl
      simp only [Act.put, List.setIfInBounds_toArray, List.set_cons_zero, List.set_cons_succ, List.getElem_toArray, List.getElem_cons_zero, List.getElem_cons_succ]
      refine wpAnyH_take (i := 6) (v := ?_) rfl (by kernel_rfl) (by kernel_rfl) (by kernel_rfl) (fun _ _ _ h => h) (Or.inl ⟨by rfl, ?_⟩) (by assumption) ?_
      rotate_left
      · intro _ _; go_simp; with_reducible rfl
      simp only [Act.put, List.setIfInBounds_toArray, List.set_cons_zero, List.set_cons_succ, List.getElem_toArray, List.getElem_cons_zero, List.getElem_cons_succ]
      refine wpAnyH_take (i := 7) (v := .int .i64 (b : Int)) rfl (by kernel_rfl) (by kernel_rfl) (by kernel_rfl) (fun _ _ _ h => h) (Or.inl ⟨by rfl, fun wq hC => by have hcell := KB.out wq hC; go_simp; try with_reducible rfl⟩) (by assumption) ?_
      simp only [Act.put, List.setIfInBounds_toArray, List.set_cons_zero, List.set_cons_succ, List.getElem_toArray, List.getElem_cons_zero, List.getElem_cons_succ]
      refine wpAnyH_take (i := 8) rfl (by kernel_rfl) (by kernel_rfl) (by kernel_rfl) (fun _ _ _ h => h) (yields_built2 (by rfl) 50 0 1 (.tmp 31) (.tmp 35) rfl (.int .i64 (a : Int)) (.int .i64 (b : Int)) rfl rfl (pairA (a, b)) (built_pair15 a b)) (by assumption) ?_
      simp only [Act.put, List.setIfInBounds_toArray, List.set_cons_zero, List.set_cons_succ, List.getElem_toArray, List.getElem_cons_zero, List.getElem_cons_succ]
      have le0 := Below.size hS
      have Z3 := Row.new y0 50 #[.int .i64 0, .int .i64 0]
      refine wpAnyH_ready (rs := [9]) (by kernel_rfl) (by simp) (AllReadyH.cons rfl (fun K hK => ?_) AllReadyH.nil)
      rw [if_pos (by rfl)]
      go_simp
      have S1 := Below.alloc hS (Below.size hS) (.cells #[.int .i64 0, .int .i64 0] 50)
      refine hK.out _ _ S1 (fun _ => ?_)
      clear hK K
      refine wpAnyH_ready (rs := [10]) (by kernel_rfl) (by simp) (AllReadyH.cons rfl (fun K hK => ?_) AllReadyH.nil)
      rw [if_pos (by rfl)]
      refine wp_store_row 50 _ _ rfl y0.heap.size (pairA (a, b)) rfl rfl 50 _ Z3 infoPair15 rfl (pairA_one _) ?_
      have S2 := below_setRow (g := y0.heap.size) S1 (by first | exact Below.size S1 | (have := Below.size S1; simp at this; omega) | assumption | omega) (pairA (a, b))
      have Z4 := Row.whole Z3 (pairA (a, b))
      refine hK.out _ _ S2 (fun _ => ?_)
      clear hK K
      refine wpAnyH_done (by kernel_rfl) ?_ _
      have DN : Below y0.heap.size y0 ((y0.alloc (.cells #[.int .i64 0, .int .i64 0] 50)).setRow y0.heap.size (pairA (a, b))) := below_setRow ((Below.refl _ _).alloc (Nat.le_refl _) _) (Nat.le_refl _) _
      have M1 := (M0.more (Nat.le_refl _)).stays DN
      have D1 := D0.trans (DN.mono (Nat.le_of_lt M0.lt))
      have Y1 := Y0.stays DN
      have hb69 := Y0.lt
      generalize (y0.alloc (.cells #[.int .i64 0, .int .i64 0] 50)).setRow y0.heap.size (pairA (a, b)) = y1 at *
      generalize y0.heap.size = b9 at *
      clear Z3 DN M0 D0 Y0 S1 hS S0 le0
      have HNQ := Lib.hid (fun W => neq_pair (a, b) q W)
      have HL2N : Hid (l2.length < 1048576) := Lib.hid (by have := HL.out.few; omega)
      by_cases heq : (a, b) = q
      · have hne : ∀ W, (binOp .neq 50 (.agg (pairA (a, b))) (.agg (pairA q))).run Try.prog W = .ok (.bool false) W := fun W => by rw [HNQ.out W, decide_eq_true heq]; rfl
        have HQ2 : Hid (l2[t]? = some (a, b)) := Lib.hid (by rw [heq]; exact HQ.out)
        have HLS := Lib.hid (HL.out.same HPX.out HQ2.out)
        have ZZ := Y1
        rw [← heq] at ZZ
        have M := M1.less (Y := OneB b6) (fun b hb => .inl hb)
        have DB := D1
        have DS := S2
        clear M1 D1 S2 heq
        obtain ⟨nv, av, pv, G, N, A, L, F⟩ := M.parts
        obtain ⟨An, cn, rfl, _⟩ := own_any N
        have NN := Lib.hid N
        rw [HLX.out] at N G
        have hXX : ∀ b, OneB b6 b → b < y1.heap.size := fun b hb => by rw [show b = b6 from hb]; exact ZZ.lt
        have c2 := G.cell 2
        have HN9 := Lib.hid N
        have HBY : Hid (B ≤ y1.heap.size) := Lib.hid (Nat.le_of_lt M.lt)
        clear N
        go_wp2_with (first
          | (refine at_slot 37 rfl ?_; refine load_row rfl 50 _ rfl b9 rfl Z4 Try.underlying50 rfl infoPair15 ?_)
          | (refine at_slot 38 rfl ?_; refine load_row rfl 50 _ rfl b6 rfl Y1 Try.underlying50 rfl infoPair15 ?_)
          | (at_builtin; refine wpList_append_one rfl _ _ 22 rfl B 3 (.int .i64 0) 8 Try.underlying22 infoNum rfl _ ln _ rfl HN9.out rfl rfl HLEN.out (by omega) HBY.out ?_; intro v9 w9 O9 b9' hv9 g9; obtain ⟨A9, c9, rfl, _⟩ := own_any O9; have NM := next_more (by rw [HLX.out]; exact G) NN.out A L M.map F hXX M.hg M.hmb M.ok (by rw [HLX.out]; exact O9) (by rw [HLX.out]; exact g9) (by rw [HLX.out]; exact hv9); have c2' := NM.1.cell 2; have f2' := NM.1.free 2))
        have DB9 := DB.trans ((b9'.setCell (p := ⟨g, 2, none⟩) M.hg (.slice A9 (ln + 1) c9)))
        have DS9 := DS.trans ((b9'.mono hB).setCell (p := ⟨g, 2, none⟩) (Nat.le_trans hB M.hg) (.slice A9 (ln + 1) c9))
        have M9 := NM.2.1
        rw [HNX.out, List.append_assoc] at M9
        have Z9 : Row (w9.setCell ⟨g, 2, none⟩ (.slice A9 (ln + 1) c9)) b6 50 (pairA (a, b)) := (NM.2.2 b6 rfl).trans ZZ
        have HM9 := Lib.hid M9
        have HZ9 := Lib.hid Z9
        have HB9 := Lib.hid DB9
        have HS9 := Lib.hid DS9
        clear M9 Z9 DB9 DS9 NM c2 G A L F M DB DS ZZ
        go_roundw
        case rel => exact ⟨x + 1, t, (a, b), l2, tos ++ [t], by omega, by go_num, rfl, HQ2, HLS, HM9, HZ9, HB9, HS9⟩
        case measure => simp [intOf]; omega
      · have hne : ∀ W, (binOp .neq 50 (.agg (pairA (a, b))) (.agg (pairA q))).run Try.prog W = .ok (.bool true) W := fun W => by rw [HNQ.out W, decide_eq_false heq]; rfl
        have HB69 := Lib.hid hb69
        clear heq hb69
        go_wp2_with (first
          | (refine at_slot 37 rfl ?_; refine load_row rfl 50 _ rfl b9 rfl Z4 Try.underlying50 rfl infoPair15 ?_)
          | (refine at_slot 38 rfl ?_; refine load_row rfl 50 _ rfl b6 rfl Y1 Try.underlying50 rfl infoPair15 ?_))
        clear hne
        have M2 := M1.stays (Below.refl _ _).drew
        have D2 := D1.drew
        have SS := S2.drew
        have Y2 := Y1.drew
        refine wp_region_held_drew (S := fun W => Row W b9 50 (pairA (a, b))) (by kernel_rfl) Z4.drew (fun hS => ?_)
        clear M1 D1 S2 Y1 Z4
        generalize y1.drew = y2 at *
        refine wpAnyH_take (i := 0) rfl (by kernel_rfl) (by kernel_rfl) (by kernel_rfl) (fun _ _ _ h => h) (yields_row (by rfl) _ _ rfl _ rfl (fun _ h => h) Try.underlying50 rfl infoPair15) (by assumption) ?_
        simp only [Act.put, List.setIfInBounds_toArray, List.set_cons_zero, List.set_cons_succ, List.getElem_toArray, List.getElem_cons_zero]
        refine wpAnyH_take (i := 1) (v := ?_) rfl (by kernel_rfl) (by kernel_rfl) (by kernel_rfl) (fun _ _ _ h => h) (Or.inl ⟨by rfl, ?_⟩) (by assumption) ?_
        rotate_left
        · intro _ _; go_simp; with_reducible rfl
        simp only [Act.put, List.setIfInBounds_toArray, List.set_cons_zero, List.set_cons_succ, List.getElem_toArray, List.getElem_cons_zero, List.getElem_cons_succ]
        refine wpAnyH_take (i := 2) rfl (by kernel_rfl) (by kernel_rfl) (by kernel_rfl) (fun _ _ _ h => h) (yields_row (by rfl) _ _ rfl _ rfl (fun _ h => h) Try.underlying50 rfl infoPair15) (by assumption) ?_
        simp only [Act.put, List.setIfInBounds_toArray, List.set_cons_zero, List.set_cons_succ, List.getElem_toArray, List.getElem_cons_zero, List.getElem_cons_succ]
        refine wpAnyH_ready (rs := [3]) (by kernel_rfl) (by simp) (AllReadyH.cons rfl (fun K hK => ?_) AllReadyH.nil)
        rw [if_pos (by rfl)]
        go_simp
        refine (state_calls y2 M2 (fun c hc => by
          rcases hc with e | e
          · rw [show c = b6 from e]; exact Y2.lt
          · rw [e]; exact hS.lt) (a, b) HOK.out HL2N.out).mono ?_
        rintro e y3 ⟨i, l3, rfl, hseat, M3, K3, d3⟩
        have S3 : Row y3 b9 50 (pairA (a, b)) := (K3 b9 (.inr rfl)).trans hS
        have Y3 : Row y3 b6 50 (pairA q) := (K3 b6 (.inl rfl)).trans Y2
        have D3 := D2.trans d3
        have SS3 := SS.trans (d3.mono hB)
        have HLS := Lib.hid (HL.out.more HPX.out hseat)
        have HQ2 := Lib.hid hseat.1
        go_wp2_with fail
        refine hK.out _ _ S3 (fun _ => ?_)
        clear hK K hS K3 d3 M2 D2 SS Y2 hseat
        refine wpAnyH_ready (rs := [4]) (by kernel_rfl) (by simp) (AllReadyH.cons rfl (fun K hK => ?_) AllReadyH.nil)
        rw [if_pos (by rfl)]
        refine wp_store_row 50 _ _ rfl b6 (pairA (a, b)) rfl rfl 50 _ Y3 infoPair15 rfl (pairA_one _) ?_
        have S4 := S3.aside (k := b6) (Nat.ne_of_gt HB69.out) (pairA (a, b))
        refine hK.out _ _ S4 (fun _ => ?_)
        clear hK K S3
        refine wpAnyH_take (i := 5) (v := ?_) rfl (by kernel_rfl) (by kernel_rfl) (by kernel_rfl) (fun _ _ _ h => h) (Or.inl ⟨by rfl, ?_⟩) (by assumption) ?_
        rotate_left
        · intro _ _; go_simp; with_reducible rfl
        simp only [Act.put, List.setIfInBounds_toArray, List.set_cons_zero, List.set_cons_succ, List.getElem_toArray, List.getElem_cons_zero, List.getElem_cons_succ]
        refine wpAnyH_done (by kernel_rfl) ?_ _
        have M := (M3.kept (b := b6) (.inl rfl) (grown_setRow y3 b6 (pairA (a, b)))).less (Y := OneB b6) (fun b hb => .inl hb)
        have ZZ := Y3.whole (pairA (a, b))
        have DB := below_setRow D3 HB6.out (pairA (a, b))
        have DS := below_setRow SS3 (Nat.le_trans hB HB6.out) (pairA (a, b))
        generalize y3.setRow b6 (pairA (a, b)) = y4 at *
        clear M3 Y3 D3 SS3 S4
        obtain ⟨nv, av, pv, G, N, A, L, F⟩ := M.parts
        obtain ⟨An, cn, rfl, _⟩ := own_any N
        have NN := Lib.hid N
        rw [HLX.out] at N G
        have hXX : ∀ b, OneB b6 b → b < y4.heap.size := fun b hb => by rw [show b = b6 from hb]; exact ZZ.lt
        have c2 := G.cell 2
        have HN9 := Lib.hid N
        have HBY : Hid (B ≤ y4.heap.size) := Lib.hid (Nat.le_of_lt M.lt)
        clear N
        go_wp2_with (first
          | (at_builtin; refine wpList_append_one rfl _ _ 22 rfl B 3 (.int .i64 0) 8 Try.underlying22 infoNum rfl _ ln _ rfl HN9.out rfl rfl HLEN.out (by omega) HBY.out ?_; intro v9 w9 O9 b9' hv9 g9; obtain ⟨A9, c9, rfl, _⟩ := own_any O9; have NM := next_more (by rw [HLX.out]; exact G) NN.out A L M.map F hXX M.hg M.hmb M.ok (by rw [HLX.out]; exact O9) (by rw [HLX.out]; exact g9) (by rw [HLX.out]; exact hv9); have c2' := NM.1.cell 2; have f2' := NM.1.free 2))
        have DB9 := DB.trans ((b9'.setCell (p := ⟨g, 2, none⟩) M.hg (.slice A9 (ln + 1) c9)))
        have DS9 := DS.trans ((b9'.mono hB).setCell (p := ⟨g, 2, none⟩) (Nat.le_trans hB M.hg) (.slice A9 (ln + 1) c9))
        have M9 := NM.2.1
        rw [HNX.out, List.append_assoc] at M9
        have Z9 : Row (w9.setCell ⟨g, 2, none⟩ (.slice A9 (ln + 1) c9)) b6 50 (pairA (a, b)) := (NM.2.2 b6 rfl).trans ZZ
        have HM9 := Lib.hid M9
        have HZ9 := Lib.hid Z9
        have HB9 := Lib.hid DB9
        have HS9 := Lib.hid DS9
        clear M9 Z9 DB9 DS9 NM c2 G A L F M DB DS ZZ
        go_roundw
        case rel => exact ⟨x + 1, i, (a, b), l3, tos ++ [i], by omega, by go_num, rfl, HQ2, HLS, HM9, HZ9, HB9, HS9⟩
        case measure => simp [intOf]; omega
    · obtain rfl : x = kk := by omega
      rw [HNX.out] at HMK
      go_wp2
      exact bodyPost_end (results_none rfl _ _ _) rfl ⟨l2, tos, rfl, HL.out, HMK.out.none, HB.out⟩
end Go.Proofs.Ytdidogcgoghdmaa
