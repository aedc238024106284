/- The walk of the reference's Like, of two automata that have the same states. -/
import Derived.Test.YtdidogcgoghdmaaRefPairs15
import Derived.Test.YtdidogcgoghdmaaQuiet
namespace Go.Proofs.Ytdidogcgoghdmaa
open Go.RowKit
theorem bools_cell {w : World} {g off n c : Nat} {l : List Bool} (h : Bools w (.slice (some ⟨g, off, none⟩) n c) l) {k : Nat} {x : Bool} (hk : l[k]? = some x) : w.cell? ⟨g, off + k, none⟩ = some (.bool x) := by
  obtain ⟨g', off', e, hc⟩ := h.at hk
  obtain ⟨rfl, rfl, _⟩ := Addr.mk.inj (Option.some.inj e)
  exact hc
theorem bools_some {w : World} {A : Option Addr} {m c : Nat} {l : List Bool} (h : Bools w (.slice A m c) l) (h0 : 0 < l.length) : m = l.length ∧ m ≤ c ∧ ∃ g off, A = some ⟨g, off, none⟩ := by
  obtain ⟨A', c', e, hc, hh⟩ := h.row
  obtain ⟨rfl, rfl, rfl⟩ := Value.slice.inj e
  rw [boolVs_length] at hc hh ⊢
  obtain ⟨g, off, rfl, _⟩ := hh h0
  exact ⟨rfl, hc, g, off, rfl⟩
theorem come_same {f : Au.Fa} {p : Nat × Nat} (h : Au.Come f f p) : p.1 = p.2 := by
  obtain ⟨w, _, rfl⟩ := h
  rfl
set_option maxRecDepth 100000 in
set_option maxHeartbeats 8000000 in
theorem refLike_calls (va vb : Value) (f : Au.Fa) (w : World) (ha : Auto w va (Au.Dv.of f)) (hb : Auto w vb (Au.Dv.of f)) (hf : Au.Sound f) (hN : f.n * f.n ≤ 40000) :
    Calls Try.prog 29 #[va, vb] w fun e w' => e = .returned (.bool true) ∧ Below w.heap.size w w' := by
  have HPR := Lib.hid (fun V U W h h' => refPairs_calls V U f f W h h' hf hf rfl hN)
  have HVA := Lib.hid ha
  have HVB := Lib.hid hb
  obtain ⟨A, c, A', c', rfl, _, HBA⟩ := ha.parts
  obtain ⟨E, e, E', e', rfl, _, HBB⟩ := hb.parts
  have hl : 0 < (Au.Dv.of f).acc.length := Nat.lt_of_le_of_lt (Nat.zero_le _) hf.start
  obtain ⟨_, _, ga, oa, rfl⟩ := bools_some HBA.out hl
  obtain ⟨_, _, gb, ob, rfl⟩ := bools_some HBB.out hl
  have HBA := Lib.hid HBA.out
  have HBB := Lib.hid HBB.out
  have HAC : Hid (∀ p, Au.Come f f p → ∃ (s : Nat) (x : Bool), p = (s, s) ∧ s < (Au.Dv.of f).acc.length ∧ (Au.Dv.of f).acc[s]? = some x) := Lib.hid (fun p hp => by
    obtain ⟨h1, _⟩ := Au.come_lt hf.toRight hf.toRight rfl hp
    have h2 := come_same hp
    obtain ⟨p1, p2⟩ := p
    obtain rfl : p1 = p2 := h2
    exact ⟨p1, _, rfl, h1, Au.accB_at h1⟩)
  have HFEW : Hid (∀ l : List (Nat × Nat), l.length ≤ f.n * f.n → l.length ≤ 40000) := Lib.hid (fun l h => by omega)
  clear ha hb hf hN hl
  generalize (Au.Dv.of f).next.length = n1 at *
  generalize (Au.Dv.of f).acc.length = m1 at *
  generalize (Au.Dv.of f).k = k at *
  generalize (Au.Dv.of f).start = s at *
  have R0 := (Row.new w 25 #[.int .i64 k, .int .i64 s, .slice A n1 c, .slice (some ⟨ga, oa, none⟩) m1 c']).alloc (.cells #[.int .i64 k, .int .i64 s, .slice E n1 e, .slice (some ⟨gb, ob, none⟩) m1 e'] 25)
  have S0 : Row ((w.alloc (.cells #[.int .i64 k, .int .i64 s, .slice A n1 c, .slice (some ⟨ga, oa, none⟩) m1 c'] 25)).alloc (.cells #[.int .i64 k, .int .i64 s, .slice E n1 e, .slice (some ⟨gb, ob, none⟩) m1 e'] 25)) (w.heap.size + 1) 25 #[.int .i64 k, .int .i64 s, .slice E n1 e, .slice (some ⟨gb, ob, none⟩) m1 e'] := row_next (by simp)
  have C0 := ((Below.refl w.heap.size w).alloc (Nat.le_refl _) (.cells #[.int .i64 k, .int .i64 s, .slice A n1 c, .slice (some ⟨ga, oa, none⟩) m1 c'] 25)).alloc (by simp) (.cells #[.int .i64 k, .int .i64 s, .slice E n1 e, .slice (some ⟨gb, ob, none⟩) m1 e'] 25)
  have a0 := R0.cell 0
  have b0 := S0.cell 0
  go_enter Try.func29, Try.ntmps29
  go_wp2_with (first
    | (refine at_slot 12 rfl ?_; refine load_row rfl 25 _ rfl w.heap.size rfl R0 Try.underlying25 rfl infoDfa ?_)
    | (refine at_slot 13 rfl ?_; refine load_row rfl 25 _ rfl (w.heap.size + 1) rfl S0 Try.underlying25 rfl infoDfa ?_))
  clear a0 b0
  refine (HPR.out _ _ _ (HVA.out.later C0 (Nat.le_refl _)) (HVB.out.later C0 (Nat.le_refl _))).mono ?_
  rintro e2 w2 ⟨v, l, rfl, hkn, hfew, hlies, hb2⟩
  have HKN := Lib.hid hkn
  have HLI := Lib.hid hlies
  have C2 := C0.trans (hb2.mono C0.size)
  have R2 := R0.stays hb2
  have S2 := S0.stays hb2
  obtain ⟨A5, c5, rfl, hc5, _⟩ := hlies
  have hl4 := HFEW.out l hfew
  obtain ⟨n, hn⟩ : ∃ n, l.length = n := ⟨_, rfl⟩
  rw [hn] at hl4 hc5 HLI ⊢
  have HLN := Lib.hid hn
  have HRA := Lib.hid (fun W (h : Below w2.heap.size w2 W) => R2.stays h)
  have HRB := Lib.hid (fun W (h : Below w2.heap.size w2 W) => S2.stays h)
  have HXA := Lib.hid (fun W (h : Below w2.heap.size w2 W) => HBA.out.later (C2.trans (h.mono C2.size)) (Nat.le_refl _))
  have HXB := Lib.hid (fun W (h : Below w2.heap.size w2 W) => HBB.out.later (C2.trans (h.mono C2.size)) (Nat.le_refl _))
  have HC2 := Lib.hid C2
  clear R0 S0 C0 hb2 R2 S2 C2 hkn hfew hn HPR HVA HVB
  go_wp2_with fail
  go_loopw [16] (fun i wr => ∃ j : Nat, j ≤ n ∧ i = .int .i64 (j : Int) ∧ Hid (Below w2.heap.size w2 wr)) (fun i _ => n - (intOf i).toNat)
  case atStart => exact ⟨0, Nat.zero_le _, rfl, Lib.hid (Below.refl _ _)⟩
  case round =>
    obtain ⟨j, hj, rfl, HB⟩ := hrel
    by_cases hlt : j < n
    · obtain ⟨p, hp⟩ : ∃ p, l[j]? = some p := ⟨_, List.getElem?_eq_getElem (by rw [HLN.out]; exact hlt)⟩
      obtain ⟨q, x, rfl, hq, hx⟩ := HAC.out p (HKN.out.come p (List.mem_of_getElem? hp))
      have hv2 := HLI.out.stays HB.out
      obtain ⟨g5, o5, rfl, hg⟩ := hv2.block.2.2 (by rw [HLN.out]; omega)
      rw [← HLN.out] at hv2
      have HCE := Lib.hid (hv2.one (fun x _ => pairA_size x) hp)
      obtain ⟨Z, U, D, L⟩ := lay_row 58 #[.int .i64 0, .int .i64 0] (pairA (q, q)) (Below.refl wr.heap.size wr) (Nat.le_refl _)
      have B3 := HB.out.trans (D.mono HB.out.size)
      clear L D hp hv2 HB hg
      go_wp2_with (first
        | (refine at_slot 19 rfl ?_; refine load_span rfl 58 _ rfl g5 (o5 + j * 2) rfl (pairA (q, q)) HCE.out Try.underlying58 rfl infoRef ?_)
        | (refine at_store 58 (.tmp 6) (.tmp 19) rfl ?_; refine wpList_store_row rfl 58 _ _ rfl wr.heap.size (pairA (q, q)) rfl rfl 58 _ Z infoRef rfl (pairA_one _) ?_))
      generalize (wr.alloc (.cells #[.int .i64 0, .int .i64 0] 58)).setRow wr.heap.size (pairA (q, q)) = w3 at *
      generalize wr.heap.size = b3 at *
      have RP := Lib.hid (fun W (h : Below w3.heap.size w3 W) => U.stays h)
      have RA2 := Lib.hid (fun W (h : Below w3.heap.size w3 W) => HRA.out W (B3.trans (h.mono B3.size)))
      have RB2 := Lib.hid (fun W (h : Below w3.heap.size w3 W) => HRB.out W (B3.trans (h.mono B3.size)))
      have KA2 := Lib.hid (fun W (h : Below w3.heap.size w3 W) => bools_cell (HXA.out W (B3.trans (h.mono B3.size))) hx)
      have KB2 := Lib.hid (fun W (h : Below w3.heap.size w3 W) => bools_cell (HXB.out W (B3.trans (h.mono B3.size))) hx)
      have HB3 := Lib.hid B3
      clear Z U B3 HCE hx
      refine region_quiet (C := fun W => Below w3.heap.size w3 W) (by kernel_rfl) (by kernel_rfl) (Below.refl _ _).drew ?_
      refine q_yields (v := ?_) (Or.inl ⟨by rfl, ?_⟩) ?_
      rotate_left
      · intro _ _; go_simp; with_reducible rfl
      simp only [Act.put, List.setIfInBounds_toArray, List.set_cons_zero, List.set_cons_succ]
      refine q_yields (v := .slice (some ⟨ga, oa, none⟩) m1 c') (Or.inl ⟨by rfl, fun wq hC => by have hcell := (RA2.out wq hC).cell 3; go_simp; try with_reducible rfl⟩) ?_
      simp only [Act.put, List.setIfInBounds_toArray, List.set_cons_zero, List.set_cons_succ]
      refine q_yields (v := ?_) (Or.inl ⟨by rfl, ?_⟩) ?_
      rotate_left
      · intro _ _; go_simp; with_reducible rfl
      simp only [Act.put, List.setIfInBounds_toArray, List.set_cons_zero, List.set_cons_succ]
      refine q_yields (v := .int .i64 (q : Int)) (Or.inl ⟨by rfl, fun wq hC => by have hcell := pair_cell0 (RP.out wq hC); go_simp; try with_reducible rfl⟩) ?_
      simp only [Act.put, List.setIfInBounds_toArray, List.set_cons_zero, List.set_cons_succ]
      refine q_yields (v := ?_) (Or.inl ⟨by rfl, ?_⟩) ?_
      rotate_left
      · intro _ _; go_simp; with_reducible rfl
      simp only [Act.put, List.setIfInBounds_toArray, List.set_cons_zero, List.set_cons_succ]
      refine q_yields (v := .bool x) (Or.inl ⟨by rfl, fun wq hC => by have hcell := KA2.out wq hC; go_simp; try with_reducible rfl⟩) ?_
      simp only [Act.put, List.setIfInBounds_toArray, List.set_cons_zero, List.set_cons_succ]
      refine q_yields (v := ?_) (Or.inl ⟨by rfl, ?_⟩) ?_
      rotate_left
      · intro _ _; go_simp; with_reducible rfl
      simp only [Act.put, List.setIfInBounds_toArray, List.set_cons_zero, List.set_cons_succ]
      refine q_yields (v := .slice (some ⟨gb, ob, none⟩) m1 e') (Or.inl ⟨by rfl, fun wq hC => by have hcell := (RB2.out wq hC).cell 3; go_simp; try with_reducible rfl⟩) ?_
      simp only [Act.put, List.setIfInBounds_toArray, List.set_cons_zero, List.set_cons_succ]
      refine q_yields (v := ?_) (Or.inl ⟨by rfl, ?_⟩) ?_
      rotate_left
      · intro _ _; go_simp; with_reducible rfl
      simp only [Act.put, List.setIfInBounds_toArray, List.set_cons_zero, List.set_cons_succ]
      refine q_yields (v := .int .i64 (q : Int)) (Or.inl ⟨by rfl, fun wq hC => by have hcell := pair_cell1 (RP.out wq hC); go_simp; try with_reducible rfl⟩) ?_
      simp only [Act.put, List.setIfInBounds_toArray, List.set_cons_zero, List.set_cons_succ]
      refine q_yields (v := ?_) (Or.inl ⟨by rfl, ?_⟩) ?_
      rotate_left
      · intro _ _; go_simp; with_reducible rfl
      simp only [Act.put, List.setIfInBounds_toArray, List.set_cons_zero, List.set_cons_succ]
      refine q_yields (v := .bool x) (Or.inl ⟨by rfl, fun wq hC => by have hcell := KB2.out wq hC; go_simp; try with_reducible rfl⟩) ?_
      simp only [Act.put, List.setIfInBounds_toArray, List.set_cons_zero, List.set_cons_succ]
      refine q_yields (v := ?_) (Or.inl ⟨by rfl, ?_⟩) ?_
      rotate_left
      · intro _ _; go_simp; with_reducible rfl
      simp only [Act.put, List.setIfInBounds_toArray, List.set_cons_zero, List.set_cons_succ]
      refine wpQuiet_nil ?_
      intro w' hC
      have HB4 := Lib.hid (HB3.out.trans (hC.mono HB3.out.size))
      clear hC
      cases x
      all_goals
        go_wp2
        go_roundw
        case rel => exact ⟨j + 1, by omega, by go_num, HB4⟩
        case measure => simp [intOf]; omega
    · go_wp2
      go_ret
      exact ⟨rfl, HC2.out.trans (HB.out.mono HC2.out.size)⟩
end Go.Proofs.Ytdidogcgoghdmaa
