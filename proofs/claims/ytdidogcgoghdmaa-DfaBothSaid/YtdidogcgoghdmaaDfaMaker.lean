/- A maker of pairs in memory, and the walk of what gives a pair its state. -/
import Derived.Test.YtdidogcgoghdmaaDfaKey
import Derived.Test.YtdidogcgoghdmaaQuietTail
import Derived.Deep.RegionHeld
namespace Go.Proofs.Ytdidogcgoghdmaa
open Go.RowKit Go.Maps
theorem grown_cell (w : World) (b i : Nat) (u : Value) : w.grownBy (w.setCell ⟨b, i, none⟩ u) (some b) :=
  ⟨rfl, rfl, rfl, by simp, fun k _ hk => heap_setCell_other w ⟨b, i, none⟩ k u (fun e => hk (by rw [e]))⟩
theorem Row.kept {w w' : World} {g : Nat} {t : TypeId} {cs : Array Value} {row : Option Nat} (h : Row w g t cs) (hg : w.grownBy w' row) (hn : some g ≠ row) : Row w' g t cs := (hg.block g h.lt hn).trans h
/-- Rows of different types lie in different blocks. -/
theorem own_block_ne {w : World} {B B' n n' m m' : Nat} {t t' : TypeId} {u v : Value} {xs ys : List Value} (h : w.ownsRow B t m u n xs) (h' : w.ownsRow B' t' m' v n' ys) (ht : t ≠ t') : u.ownBlock = none ∨ u.ownBlock ≠ v.ownBlock := by
  rcases h.2 with ⟨rfl, _⟩ | ⟨g, cap, cur, rfl, _, hg, _⟩
  · exact .inl rfl
  · right
    rcases h'.2 with ⟨rfl, _⟩ | ⟨g', cap', cur', rfl, _, hg', _⟩
    · simp [Value.ownBlock]
    · intro e
      have e : g = g' := Option.some.inj e
      subst e
      have e3 := Option.some.inj (hg.symm.trans hg')
      injection e3 with _ e4 _
      exact ht e4
theorem own_row_ne {w : World} {B g n m : Nat} {t t' : TypeId} {cs : Array Value} {v : Value} {xs : List Value} (h : w.ownsRow B t m v n xs) (hr : Row w g t' cs) (ht : t ≠ t') : v.ownBlock = none ∨ v.ownBlock ≠ some g := by
  rcases h.2 with ⟨rfl, _⟩ | ⟨g', cap', cur', rfl, _, hg', _⟩
  · exact .inl rfl
  · right
    intro e
    have e : g' = g := Option.some.inj e
    subst e
    have e3 := Option.some.inj (hg'.symm.trans hr)
    injection e3 with _ e4 _
    exact ht e4
theorem own_pairs_ne {w : World} {B mb n m : Nat} {t : TypeId} {v : Value} {xs : List Value} {l : List (Nat × Nat)} (h : w.ownsRow B t m v n xs) (hp : PairsAt w mb l) : v.ownBlock = none ∨ v.ownBlock ≠ some mb := by
  rcases h.2 with ⟨rfl, _⟩ | ⟨g', cap', cur', rfl, _, hg', _⟩
  · exact .inl rfl
  · right
    intro e
    have e : g' = mb := Option.some.inj e
    subst e
    obtain ⟨D, ⟨es, clock, hb, _⟩, _⟩ := hp.map
    cases hg'.symm.trans hb
theorem row_pairs_ne {w : World} {g mb : Nat} {t : TypeId} {cs : Array Value} {l : List (Nat × Nat)} (h : Row w g t cs) (hp : PairsAt w mb l) : g ≠ mb := by
  rintro rfl
  obtain ⟨D, ⟨es, clock, hb, _⟩, _⟩ := hp.map
  cases h.symm.trans hb
theorem some_ne {x : Option Nat} {g : Nat} (h : x = none ∨ x ≠ some g) : some g ≠ x := by
  rcases h with rfl | h
  · simp
  · exact Ne.symm h
theorem row_row_ne {w : World} {g g' : Nat} {t t' : TypeId} {cs ds : Array Value} (h : Row w g t cs) (h' : Row w g' t' ds) (ht : t ≠ t') : g ≠ g' := by
  rintro rfl
  have e3 := Option.some.inj (h.symm.trans h')
  injection e3 with _ e4 _
  exact ht e4
theorem own_anyN {w : World} {B n m : Nat} {t : TypeId} {v : Value} {xs : List Value} (h : w.ownsRow B t m v n xs) : ∃ A c, v = .slice A n c ∧ n ≤ c ∧ (0 < n → ∃ g, A = some ⟨g, 0, none⟩) := by
  rcases h.2 with ⟨rfl, rfl⟩ | ⟨g, cap, cur, rfl, _, _, hc, _⟩
  · exact ⟨none, 0, rfl, Nat.le_refl _, fun h => absurd h (by omega)⟩
  · exact ⟨some ⟨g, 0, none⟩, cap, rfl, hc, fun _ => ⟨g, rfl⟩⟩
/-- A maker in block g, its map in block mb; all that is its own lies from B on, and in no block of X. -/
structure MakerAt (X : Nat → Prop) (w : World) (B g mb : Nat) (k st : Int) (nx : List Nat) (ac : List Bool) (l : List (Nat × Nat)) : Prop where
  parts : ∃ nv av pv, Row w g 66 #[.int .i64 k, .int .i64 st, nv, av, pv, .map (some mb)] ∧ w.ownsRow B 3 1 nv nx.length (natVs nx) ∧ w.ownsRow B 4 1 av ac.length (boolVs ac) ∧ w.ownsRow B 50 2 pv l.length (flat pairA l) ∧ ∀ b, X b → b ≠ g ∧ b ≠ mb ∧ nv.ownBlock ≠ some b ∧ av.ownBlock ≠ some b ∧ pv.ownBlock ≠ some b
  map : PairsAt w mb l
  hg : B ≤ g
  hmb : B ≤ mb
  ok : ∀ p ∈ l, PairOk p
def NoB : Nat → Prop := fun _ => False
def OneB (b : Nat) : Nat → Prop := fun c => c = b
section
variable {X : Nat → Prop} {w w' : World} {B g mb : Nat} {k st : Int} {nx : List Nat} {ac : List Bool} {l : List (Nat × Nat)}
theorem MakerAt.stays (h : MakerAt X w B g mb k st nx ac l) (hb : Below w.heap.size w w') : MakerAt X w' B g mb k st nx ac l := by
  obtain ⟨nv, av, pv, h1, h2, h3, h4, h5⟩ := h.parts
  exact ⟨⟨nv, av, pv, h1.stays hb, own_below h2 hb, own_below h3 hb, own_below h4 hb, h5⟩, h.map.stays hb, h.hg, h.hmb, h.ok⟩
theorem MakerAt.lt (h : MakerAt X w B g mb k st nx ac l) : B < w.heap.size := by
  obtain ⟨nv, av, pv, h1, _⟩ := h.parts
  have := h1.lt
  have := h.hg
  omega
/-- A block that is not there yet lies aside. -/
theorem MakerAt.one (h : MakerAt X w B g mb k st nx ac l) {b : Nat} (hb : w.heap.size ≤ b) : MakerAt (OneB b) w B g mb k st nx ac l := by
  obtain ⟨nv, av, pv, h1, h2, h3, h4, _⟩ := h.parts
  refine ⟨⟨nv, av, pv, h1, h2, h3, h4, ?_⟩, h.map, h.hg, h.hmb, h.ok⟩
  rintro c rfl
  have g1 := h1.lt
  have g2 := h.map.lt
  exact ⟨by omega, by omega, fun e => by have := (h2.lt c e).2; omega, fun e => by have := (h3.lt c e).2; omega, fun e => by have := (h4.lt c e).2; omega⟩
theorem MakerAt.none (h : MakerAt X w B g mb k st nx ac l) : MakerAt NoB w B g mb k st nx ac l := by
  obtain ⟨nv, av, pv, h1, h2, h3, h4, _⟩ := h.parts
  exact ⟨⟨nv, av, pv, h1, h2, h3, h4, fun b hb => hb.elim⟩, h.map, h.hg, h.hmb, h.ok⟩
end
/-- What lies in X is as it was. -/
def Aside (X : Nat → Prop) (w w' : World) : Prop := ∀ b, X b → w'.heap[b]? = w.heap[b]?
theorem aside_below {X : Nat → Prop} {w w' : World} (hX : ∀ b, X b → b < w.heap.size) (h : Below w.heap.size w w') : Aside X w w' := fun b hb => h.block b (hX b hb)
/-- What a lookup yields. -/
theorem run_seat {w : World} {mb n : Nat} {D : DataW Unit} (h : w.ownsMap Try.prog 50 (plainElem Try.prog 3) mb n D) {p : Nat × Nat} (hp : PairOk p) {c : Int} (hc : D.atKey (pairK p) (.lit (.int .i64 0)) = .lit (.int .i64 c)) {b : Bool} (hb : has D (pairK p) = b) :
    (Instr.lookup 63 (.map (some mb)) (.agg (pairA p)) true).run Try.prog w = .ok (.tuple #[.int .i64 c, .bool b]) w := by
  obtain ⟨v, ps, hrun, hv⟩ := h.look_ok pairLaw Try.underlying63 (zeroInt15 w) (plainElem_int Try.underlying3 (WalkArith.wf_i64 (by decide))) (pair_key p hp)
  obtain ⟨c', rfl, hc', _⟩ := plainElem_int_inv Try.underlying3 hv
  have e := (congrArg Prod.fst hc').symm.trans hc
  injection e with e
  injection e with _ e
  rw [hrun, e, hb]
theorem seat_some {w : World} {mb n : Nat} {D : DataW Unit} (h : w.ownsMap Try.prog 50 (plainElem Try.prog 3) mb n D) {p : Nat × Nat} (hp : PairOk p) : ∃ c : Int, D.atKey (pairK p) (.lit (.int .i64 0)) = .lit (.int .i64 c) := by
  obtain ⟨v, ps, _, hv⟩ := h.look_ok pairLaw Try.underlying63 (zeroInt15 w) (plainElem_int Try.underlying3 (WalkArith.wf_i64 (by decide))) (pair_key p hp)
  obtain ⟨c', rfl, hc', _⟩ := plainElem_int_inv Try.underlying3 hv
  exact ⟨c', congrArg Prod.fst hc'⟩
set_option maxRecDepth 100000 in
set_option maxHeartbeats 4000000 in
theorem state_calls {X : Nat → Prop} (w : World) {B g mb : Nat} {k st : Int} {nx : List Nat} {ac : List Bool} {l : List (Nat × Nat)} (h : MakerAt X w B g mb k st nx ac l) (hX : ∀ b, X b → b < w.heap.size) (p : Nat × Nat) (hp : PairOk p) (hn : l.length < 1048576) :
    Calls Try.prog 44 #[.pointer (some ⟨g, 0, none⟩), .agg (pairA p)] w fun e w' => ∃ i l', e = .returned (.int .i64 ((i : Nat) : Int)) ∧ Au.Seat l p l' i ∧ MakerAt X w' B g mb k st nx ac l' ∧ Aside X w w' ∧ Below B w w' := by
  have HM := Lib.hid h
  obtain ⟨D, hown, hhas, hat⟩ := h.map.map
  obtain ⟨cc, hcc⟩ := seat_some hown hp
  have hh := hhas p hp
  have HP := Lib.hid hp
  have Bw := h.lt
  obtain ⟨w1, hw1⟩ : ∃ w1, w1 = w.alloc (.cells (pairA p) 50) := ⟨_, rfl⟩
  have D0 : Below w.heap.size w w1 := by rw [hw1]; exact (Below.refl w.heap.size w).alloc (Nat.le_refl _) _
  have R0 : Row w1 w.heap.size 50 (pairA p) := by rw [hw1]; exact Row.new _ _ _
  obtain ⟨nv, av, pv, RG, ON, OA, OP, hfar⟩ := h.parts
  obtain ⟨Ap, cp, rfl, hcp, hAp⟩ := own_anyN OP
  have HON : Hid (∀ W, Below w1.heap.size w1 W → W.ownsRow B 3 1 nv nx.length (natVs nx)) := Lib.hid (fun W hW => own_below ON (D0.trans (hW.mono D0.size)))
  have HOA : Hid (∀ W, Below w1.heap.size w1 W → W.ownsRow B 4 1 av ac.length (boolVs ac)) := Lib.hid (fun W hW => own_below OA (D0.trans (hW.mono D0.size)))
  have HOP : Hid (∀ W, Below w1.heap.size w1 W → W.ownsRow B 50 2 (.slice Ap l.length cp) l.length (flat pairA l)) := Lib.hid (fun W hW => own_below OP (D0.trans (hW.mono D0.size)))
  have HPM : Hid (∀ W, Below w1.heap.size w1 W → W.ownsMap Try.prog 50 (plainElem Try.prog 3) mb l.length D) := Lib.hid (fun W hW => hown.kept (grown_below (D0.trans (hW.mono D0.size))) (by simp))
  have HPB : Hid ((Value.slice Ap l.length cp).ownBlock ≠ some w.heap.size) := Lib.hid (fun e => Nat.lt_irrefl _ (OP.lt w.heap.size e).2)
  have HFAR := Lib.hid hfar
  have HXL := Lib.hid hX
  have HHAS := Lib.hid hhas
  have HAT := Lib.hid hat
  have HISM := Lib.hid hown.isMap
  have HRUN : Hid (∀ W, Below w1.heap.size w1 W → (Instr.lookup 63 (.map (some mb)) (.agg (pairA p)) true).run Try.prog W = .ok (.tuple #[.int .i64 cc, .bool (decide (p ∈ l))]) W) := Lib.hid (fun W hW => run_seat (hown.kept (grown_below (D0.trans (hW.mono D0.size))) (by simp)) hp hcc hh)
  have HRG : Hid (∀ W, Below w1.heap.size w1 W → Row W g 66 #[.int .i64 k, .int .i64 st, nv, av, .slice Ap l.length cp, .map (some mb)]) := Lib.hid (fun W hW => RG.stays (D0.trans (hW.mono D0.size)))
  have HRP : Hid (∀ W, Below w1.heap.size w1 W → Row W w.heap.size 50 (pairA p)) := Lib.hid (fun W hW => R0.stays hW)
  have HIN : Hid (∀ i : Nat, l[i]? = some p → cc = (i : Int)) := Lib.hid (fun i hi => by
    have e := hcc.symm.trans (hat i p hp hi)
    injection e with e
    injection e with _ e)
  have HBW : Hid (∀ W, Below w1.heap.size w1 W → Below w.heap.size w W) := Lib.hid (fun W hW => D0.trans (hW.mono D0.size))
  have HBB : Hid (B ≤ w.heap.size) := Lib.hid (Nat.le_of_lt Bw)
  clear hown hhas hat hcc hh hp D0 R0 RG ON OA OP h Bw hAp hcp hfar hX
  go_enter Try.func44, Try.ntmps44
  go_wp2
  rw [← hw1]
  clear hw1
  refine region_quiet (C := fun W => Below w1.heap.size w1 W) (by kernel_rfl) (by kernel_rfl) (Below.refl _ _).drew ?_
  refine q_yields (v := ?_) (Or.inl ⟨by rfl, ?_⟩) ?_
  rotate_left
  · intro _ _; go_simp; with_reducible rfl
  simp only [Act.put, List.setIfInBounds_toArray, List.set_cons_zero, List.set_cons_succ]
  refine q_yields (v := ?_) (Or.inl ⟨by rfl, ?_⟩) ?_
  rotate_left
  · intro _ _; go_simp; with_reducible rfl
  simp only [Act.put, List.setIfInBounds_toArray, List.set_cons_zero, List.set_cons_succ]
  refine q_yields (v := ?_) (Or.inl ⟨by rfl, ?_⟩) ?_
  rotate_left
  · intro _ _; go_simp; with_reducible rfl
  simp only [Act.put, List.setIfInBounds_toArray, List.set_cons_zero, List.set_cons_succ]
  refine q_yields (v := .map (some mb)) (Or.inl ⟨by rfl, fun wq hC => by have hcell := (HRG.out wq hC).cell 5; go_simp; try with_reducible rfl⟩) ?_
  simp only [Act.put, List.setIfInBounds_toArray, List.set_cons_zero, List.set_cons_succ]
  refine q_yields (yields_row (by rfl) _ _ rfl _ rfl HRP.out Try.underlying50 rfl infoPair15) ?_
  simp only [Act.put, List.setIfInBounds_toArray, List.set_cons_zero, List.set_cons_succ]
  refine q_yields (v := .tuple #[.int .i64 cc, .bool (decide (p ∈ l))]) (Or.inl ⟨by rfl, fun wq hC => by have hcell := HRUN.out wq hC; go_simp; try with_reducible rfl⟩) ?_
  simp only [Act.put, List.setIfInBounds_toArray, List.set_cons_zero, List.set_cons_succ]
  refine q_yields (v := ?_) (Or.inl ⟨by rfl, ?_⟩) ?_
  rotate_left
  · intro _ _; go_simp; with_reducible rfl
  simp only [Act.put, List.setIfInBounds_toArray, List.set_cons_zero, List.set_cons_succ]
  refine q_yields (v := ?_) (Or.inl ⟨by rfl, ?_⟩) ?_
  rotate_left
  · intro _ _; go_simp; with_reducible rfl
  simp only [Act.put, List.setIfInBounds_toArray, List.set_cons_zero, List.set_cons_succ]
  refine q_yields (v := ?_) (Or.inl ⟨by rfl, ?_⟩) ?_
  rotate_left
  · intro _ _; go_simp; with_reducible rfl
  simp only [Act.put, List.setIfInBounds_toArray, List.set_cons_zero, List.set_cons_succ]
  refine q_yields (v := ?_) (Or.inl ⟨by rfl, ?_⟩) ?_
  rotate_left
  · intro _ _; go_simp; with_reducible rfl
  simp only [Act.put, List.setIfInBounds_toArray, List.set_cons_zero, List.set_cons_succ]
  refine q_yields (v := ?_) (Or.inl ⟨by rfl, ?_⟩) ?_
  rotate_left
  · intro _ _; go_simp; with_reducible rfl
  simp only [Act.put, List.setIfInBounds_toArray, List.set_cons_zero, List.set_cons_succ]
  refine wpQuiet_nil ?_
  intro w2 C2
  by_cases hm : p ∈ l
  · obtain ⟨i, hi⟩ := List.getElem?_of_mem hm
    have e1 : decide (p ∈ l) = true := decide_eq_true hm
    have HI := Lib.hid hi
    have hcc := HIN.out i hi
    have HMEM := Lib.hid hm
    subst hcc
    clear hi hm
    go_wp2
    go_ret
    exact ⟨i, l, rfl, ⟨HI.out, .inl ⟨HMEM.out, rfl⟩⟩, HM.out.stays (HBW.out _ C2), aside_below HXL.out (HBW.out _ C2), (HBW.out _ C2).mono HBB.out⟩
  · have e1 : decide (p ∈ l) = false := decide_eq_false hm
    have HNM := Lib.hid hm
    have c4 := (HRG.out w2 C2).cell 4
    have HLN : Hid (l.length < 1048576) := Lib.hid hn
    clear hm
    go_wp2
    have C2' := C2.drew
    have QR := Lib.hid (fun W (hW : Below w2.heap.size w2 W) => HRG.out W (C2.trans (hW.mono C2.size)))
    have QP := Lib.hid (fun W (hW : Below w2.heap.size w2 W) => HRP.out W (C2.trans (hW.mono C2.size)))
    refine region_quiet_tail (C := fun W => Below w2.heap.size w2 W) 6 (by kernel_rfl) (by kernel_rfl) (Below.refl _ _).drew ?_
    simp only [List.take_succ_cons, List.take_zero]
    refine q_yields (v := ?_) (Or.inl ⟨by rfl, ?_⟩) ?_
    rotate_left
    · intro _ _; go_simp; with_reducible rfl
    simp only [Act.put, List.setIfInBounds_toArray, List.set_cons_zero, List.set_cons_succ]
    refine q_yields (v := ?_) (Or.inl ⟨by rfl, ?_⟩) ?_
    rotate_left
    · intro _ _; go_simp; with_reducible rfl
    simp only [Act.put, List.setIfInBounds_toArray, List.set_cons_zero, List.set_cons_succ]
    refine q_yields (v := ?_) (Or.inl ⟨by rfl, ?_⟩) ?_
    rotate_left
    · intro _ _; go_simp; with_reducible rfl
    simp only [Act.put, List.setIfInBounds_toArray, List.set_cons_zero, List.set_cons_succ]
    refine q_yields (v := .map (some mb)) (Or.inl ⟨by rfl, fun wq hC => by have hcell := (QR.out wq hC).cell 5; go_simp; try with_reducible rfl⟩) ?_
    simp only [Act.put, List.setIfInBounds_toArray, List.set_cons_zero, List.set_cons_succ]
    refine q_yields (yields_row (by rfl) _ _ rfl _ rfl QP.out Try.underlying50 rfl infoPair15) ?_
    simp only [Act.put, List.setIfInBounds_toArray, List.set_cons_zero, List.set_cons_succ]
    refine q_yields (v := ?_) (Or.inl ⟨by rfl, ?_⟩) ?_
    rotate_left
    · intro _ _; go_simp; with_reducible rfl
    simp only [Act.put, List.setIfInBounds_toArray, List.set_cons_zero, List.set_cons_succ]
    refine wpQuiet_nil ?_
    intro w3 C3
    have D3 := C2.trans (C3.mono C2.size)
    have M3 := HPM.out w3 D3
    have G3 := HRG.out w3 D3
    have P3 := HRP.out w3 D3
    have N3 := HON.out w3 D3
    have A3 := HOA.out w3 D3
    have L3 := HOP.out w3 D3
    have PM3 : PairsAt w3 mb l := ⟨D, M3, HHAS.out, HAT.out⟩
    have n1 := own_pairs_ne N3 PM3
    have n2 := own_pairs_ne A3 PM3
    have n3 := own_pairs_ne L3 PM3
    have n4 := row_pairs_ne G3 PM3
    have n5 := row_pairs_ne P3 PM3
    have BB := (HBW.out _ D3).mono HBB.out
    have K3 := aside_below HXL.out (HBW.out _ D3)
    have hz3 : w.heap.size ≤ w3.heap.size := (HBW.out _ D3).size
    have HM3 := Lib.hid M3
    clear PM3 M3 QR QP C2' c4
    simp only [List.drop_succ_cons, List.drop_zero]
    go_wp2_with (at_mapUpdate; refine wpList_mapUpdate_own _ rfl _ _ _ 63 rfl 50 3 pairLaw Try.underlying63 (plainElem (H := Unit) Try.prog 3) mb l.length D rfl HM3.out (by unfold maxLen; omega) _ _ _ rfl rfl (pair_key p HP.out) (.lit (.int .i64 (l.length : Int))) [] (plainElem_int Try.underlying3 (WalkArith.wf_i64 (by omega))) ?_; intro w4 hown4 hg4)
    have PM4 := Lib.hid (pairs_more HP.out HHAS.out HAT.out HISM.out HNM.out hown4)
    have K4 : Aside X w w4 := fun b hb => (hg4.block b (by have := HXL.out b hb; omega) (fun e => (HFAR.out b hb).2.1 (Option.some.inj e))).trans (K3 b hb)
    have hz4 : w.heap.size ≤ w4.heap.size := Nat.le_trans hz3 hg4.size
    have G4 := G3.kept hg4 (fun e => n4 (Option.some.inj e))
    have P4 := P3.kept hg4 (fun e => n5 (Option.some.inj e))
    have N4 := N3.kept hg4 n1
    have A4 := A3.kept hg4 n2
    have L4 := L3.kept hg4 n3
    have B4 := BB.grown hg4 (by have := BB.size; have := HBB.out; have := P3.lt; omega) (fun j hj => by have hj := Option.some.inj hj; have := HM.out.hmb; omega)
    clear G3 P3 N3 A3 L3 BB K3 hz3 n1 n2 n3 n4 n5 hg4 hown4 HM3 C3 D3 C2 HRUN HPM HON HOA HOP HRG HRP
    simp only [Act.put]
    have G5 := G4.drew
    have P5 := P4.drew
    have N5 := own_below N4 (Below.refl _ _).drew
    have A5 := own_below A4 (Below.refl _ _).drew
    have L5 := own_below L4 (Below.refl _ _).drew
    have PM5 := PM4.out.stays (Below.refl _ _).drew
    have B5 := B4.drew
    have K5 : Aside X w w4.drew := K4
    have hz5 : w.heap.size ≤ w4.drew.heap.size := hz4
    have hB5 : B ≤ w4.drew.heap.size := by have := G5.lt; have := HM.out.hg; omega
    have HIX : Hid ((l ++ [p])[l.length]? = some p) := Lib.hid (by rw [List.getElem?_append_right (Nat.le_refl _), Nat.sub_self]; rfl)
    clear G4 P4 N4 A4 L4 B4 PM4 K4 hz4
    refine wp_region_held_drew (S := fun W => Row W w.heap.size 50 (pairA p)) (by kernel_rfl) P5 (fun hS => ?_)
    clear P5
    generalize w4.drew = w5 at *
    have DD := (Below.refl w5.heap.size w5).alloc (Nat.le_refl _) (.cells (pairA p) 50)
    have G6 := G5.stays DD
    have N6 := own_below N5 DD
    have A6 := own_below A5 DD
    have L6 := own_below L5 DD
    have PM6 := PM5.stays DD
    have B6 := B5.trans (DD.mono hB5)
    have K6 : Aside X w (w5.alloc (.cells (pairA p) 50)) := fun b hb => (DD.block b (by have := HXL.out b hb; omega)).trans (K5 b hb)
    have hz6 : w.heap.size ≤ (w5.alloc (.cells (pairA p) 50)).heap.size := Nat.le_trans hz5 DD.size
    have hB6 : B ≤ (w5.alloc (.cells (pairA p) 50)).heap.size := by simp; omega
    have LI := lies_single (enc := pairA) (x := p) (Row.new w5 50 (pairA p))
    have m1 := own_block_ne N6 L6 (by decide)
    have m2 := own_block_ne A6 L6 (by decide)
    have m3 := own_row_ne L6 G6 (by decide)
    have m4 := own_pairs_ne L6 PM6
    have m5 : (Value.slice Ap l.length cp).ownBlock = none ∨ (Value.slice Ap l.length cp).ownBlock ≠ some w.heap.size := .inr HPB.out
    have HL6 := Lib.hid L6
    have HLI := Lib.hid LI
    have c4 := G5.cell 4
    clear N5 A5 L5 PM5 B5 DD L6 LI K5 hz5
    refine wpAnyH_take (i := 0) (v := ?_) rfl (by kernel_rfl) (by kernel_rfl) (by kernel_rfl) (fun _ _ _ h => h) (Or.inl ⟨by rfl, ?_⟩) (by assumption) ?_
    rotate_left
    · intro _ _; go_simp; with_reducible rfl
    simp only [Act.put, List.setIfInBounds_toArray, List.set_cons_zero, List.set_cons_succ, List.getElem_toArray, List.getElem_cons_zero]
    refine wpAnyH_take (i := 1) (v := ?_) rfl (by kernel_rfl) (by kernel_rfl) (by kernel_rfl) (fun _ _ _ h => h) (Or.inl ⟨by rfl, ?_⟩) (by assumption) ?_
    rotate_left
    · intro _ _; go_simp; with_reducible rfl
    simp only [Act.put, List.setIfInBounds_toArray, List.set_cons_zero, List.set_cons_succ, List.getElem_toArray, List.getElem_cons_zero, List.getElem_cons_succ]
    refine wpAnyH_take (i := 2) (v := ?_) rfl (by kernel_rfl) (by kernel_rfl) (by kernel_rfl) (fun _ _ _ h => h) (Or.inl ⟨by rfl, ?_⟩) (by assumption) ?_
    rotate_left
    · intro _ _; go_simp; with_reducible rfl
    simp only [Act.put, List.setIfInBounds_toArray, List.set_cons_zero, List.set_cons_succ, List.getElem_toArray, List.getElem_cons_zero, List.getElem_cons_succ]
    refine wpAnyH_take (i := 3) (v := ?_) rfl (by kernel_rfl) (by kernel_rfl) (by kernel_rfl) (fun _ _ _ h => h) (Or.inl ⟨by rfl, ?_⟩) (by assumption) ?_
    rotate_left
    · intro _ _; go_simp; with_reducible rfl
    simp only [Act.put, List.setIfInBounds_toArray, List.set_cons_zero, List.set_cons_succ, List.getElem_toArray, List.getElem_cons_zero, List.getElem_cons_succ]
    refine wpAnyH_take (i := 5) rfl (by kernel_rfl) (by kernel_rfl) (by kernel_rfl) (fun _ _ _ h => h) (yields_row (by rfl) _ _ rfl _ rfl (fun _ h => h) Try.underlying50 rfl infoPair15) (by assumption) ?_
    simp only [Act.put, List.setIfInBounds_toArray, List.set_cons_zero, List.set_cons_succ, List.getElem_toArray, List.getElem_cons_zero, List.getElem_cons_succ]
    -- REGION
    refine wpAnyH_ready (rs := [4, 6]) (by kernel_rfl) (by simp) (AllReadyH.cons rfl (fun K hK => ?_) (AllReadyH.cons rfl (fun K hK => ?_) AllReadyH.nil))
    · rw [if_pos (by rfl)]
      go_simp
      refine hK.out _ _ hS (fun _ => ?_)
      clear hK K
      refine wpAnyH_ready (rs := [6]) (by kernel_rfl) (by simp) (AllReadyH.cons rfl (fun K hK => ?_) AllReadyH.nil)
      rw [if_pos (by rfl)]
      refine wp_build_one (z := .agg #[.int .i64 0, .int .i64 0]) _ (by rfl) (pairA p) (by rfl) Try.underlying64 infoPairF rfl (by omega) (by omega) ?_
      refine hK.out _ _ (hS.alloc _) (fun _ => ?_)
      clear hK K
      refine wpAnyH_ready (rs := [7]) (by kernel_rfl) (by simp) (AllReadyH.cons rfl (fun K hK => ?_) AllReadyH.nil)
      rw [if_pos (by rfl)]
      refine wp_append_lies (sv := .slice Ap l.length cp) _ _ (by rfl) Try.underlying64 infoPairF rfl (by omega) (by omega) (by rfl) HL6.out (by rfl) (fun x _ => pairA_size x) (fun x _ => pairA_one x) HLI.out (Nat.succ_le_of_lt HLN.out) hB6 ?_
      intro v7 w7 O7 g7 hv7
      obtain ⟨Av, cv, rfl, _⟩ := own_anyN O7
      have G7 := G6.kept g7 (some_ne m3)
      have S7 := (hS.alloc _).kept g7 (some_ne m5)
      have c4 := G7.cell 4
      have f4 := G7.free 4
      refine hK.out _ _ S7 (fun _ => ?_)
      clear hK K
      refine wpAnyH_take (i := 8) (v := ?_) rfl (by kernel_rfl) (by kernel_rfl) (by kernel_rfl) (fun _ _ _ h => h) (Or.inl ⟨by rfl, ?_⟩) (by assumption) ?_
      rotate_left
      · intro _ _; go_simp; with_reducible rfl
      simp only [Act.put, List.setIfInBounds_toArray, List.set_cons_zero, List.set_cons_succ, List.getElem_toArray, List.getElem_cons_zero, List.getElem_cons_succ]
      refine wpAnyH_take (i := 9) (v := ?_) rfl (by kernel_rfl) (by kernel_rfl) (by kernel_rfl) (fun _ _ _ h => h) (Or.inl ⟨by rfl, ?_⟩) (by assumption) ?_
      rotate_left
      · intro _ _; go_simp; with_reducible rfl
      simp only [Act.put, List.setIfInBounds_toArray, List.set_cons_zero, List.set_cons_succ, List.getElem_toArray, List.getElem_cons_zero, List.getElem_cons_succ]
      refine wpAnyH_ready (rs := [10]) (by kernel_rfl) (by simp) (AllReadyH.cons rfl (fun K hK => ?_) AllReadyH.nil)
      rw [if_pos (by rfl)]
      go_simp
      refine hK.out _ _ (S7.other (p := ⟨g, 4, none⟩) (row_row_ne S7 G7 (by decide)) _) (fun _ => ?_)
      clear hK K
      refine wpAnyH_done (by kernel_rfl) ?_ _
      have N7 := N6.kept g7 m1
      have A7 := A6.kept g7 m2
      have PM7 := PM6.kept g7 (some_ne m4)
      have B7 := B6.grown g7 hB6 (fun j hj => (HL6.out.lt j hj).1)
      have gc := grown_cell w7 g 4 (.slice Av (l.length + 1) cv)
      have O8 := O7.kept gc (own_row_ne O7 G7 (by decide))
      have N8 := N7.kept gc (own_row_ne N7 G7 (by decide))
      have A8 := A7.kept gc (own_row_ne A7 G7 (by decide))
      have PM8 := PM7.kept gc (fun e => row_pairs_ne G7 PM7 (Option.some.inj e).symm)
      have G8 := G7.set 4 (.slice Av (l.length + 1) cv)
      have B8 := B7.setCell (p := ⟨g, 4, none⟩) HM.out.hg (.slice Av (l.length + 1) cv)
      rw [← flat_append] at O8
      have K8 : Aside X w (w7.setCell ⟨g, 4, none⟩ (.slice Av (l.length + 1) cv)) := fun b hb => (heap_setCell_other w7 ⟨g, 4, none⟩ b _ (HFAR.out b hb).1).trans ((g7.block b (by have := HXL.out b hb; omega) (fun e => (HFAR.out b hb).2.2.2.2 e.symm)).trans (K6 b hb))
      have F8 : ∀ b, X b → b ≠ g ∧ b ≠ mb ∧ nv.ownBlock ≠ some b ∧ av.ownBlock ≠ some b ∧ (Value.slice Av (l.length + 1) cv).ownBlock ≠ some b := fun b hb => ⟨(HFAR.out b hb).1, (HFAR.out b hb).2.1, (HFAR.out b hb).2.2.1, (HFAR.out b hb).2.2.2.1, fun e => by
        rcases hv7 with k | k
        · exact (HFAR.out b hb).2.2.2.2 (k.symm.trans e)
        · have e2 := Option.some.inj (k.symm.trans e)
          have := HXL.out b hb
          omega⟩
      clear G6 N6 A6 PM6 B6 K6 hz6 hv7 m1 m2 m3 m4 m5 c4 f4 g7 gc
      go_wp2
      go_ret
      exact ⟨l.length, l ++ [p], rfl, ⟨HIX.out, .inr ⟨HNM.out, rfl⟩⟩, ⟨⟨nv, av, _, G8, N8, A8, by rw [List.length_append]; exact O8, F8⟩, PM8, HM.out.hg, HM.out.hmb, fun q hq => by
        rcases List.mem_append.1 hq with e | e
        · exact HM.out.ok q e
        · rw [List.mem_singleton.1 e]; exact HP.out⟩, K8, B8⟩
    · rw [if_pos (by rfl)]
      refine wp_build_one (z := .agg #[.int .i64 0, .int .i64 0]) _ (by rfl) (pairA p) (by rfl) Try.underlying64 infoPairF rfl (by omega) (by omega) ?_
      refine hK.out _ _ (hS.alloc _) (fun _ => ?_)
      clear hK K
      have c4b := G6.cell 4
      refine wpAnyH_ready (rs := [4]) (by kernel_rfl) (by simp) (AllReadyH.cons rfl (fun K hK => ?_) AllReadyH.nil)
      rw [if_pos (by rfl)]
      go_simp
      refine hK.out _ _ (hS.alloc _) (fun _ => ?_)
      clear hK K
      refine wpAnyH_ready (rs := [7]) (by kernel_rfl) (by simp) (AllReadyH.cons rfl (fun K hK => ?_) AllReadyH.nil)
      rw [if_pos (by rfl)]
      refine wp_append_lies (sv := .slice Ap l.length cp) _ _ (by rfl) Try.underlying64 infoPairF rfl (by omega) (by omega) (by rfl) HL6.out (by rfl) (fun x _ => pairA_size x) (fun x _ => pairA_one x) HLI.out (Nat.succ_le_of_lt HLN.out) hB6 ?_
      intro v7 w7 O7 g7 hv7
      obtain ⟨Av, cv, rfl, _⟩ := own_anyN O7
      have G7 := G6.kept g7 (some_ne m3)
      have S7 := (hS.alloc _).kept g7 (some_ne m5)
      have c4 := G7.cell 4
      have f4 := G7.free 4
      refine hK.out _ _ S7 (fun _ => ?_)
      clear hK K
      refine wpAnyH_take (i := 8) (v := ?_) rfl (by kernel_rfl) (by kernel_rfl) (by kernel_rfl) (fun _ _ _ h => h) (Or.inl ⟨by rfl, ?_⟩) (by assumption) ?_
      rotate_left
      · intro _ _; go_simp; with_reducible rfl
      simp only [Act.put, List.setIfInBounds_toArray, List.set_cons_zero, List.set_cons_succ, List.getElem_toArray, List.getElem_cons_zero, List.getElem_cons_succ]
      refine wpAnyH_take (i := 9) (v := ?_) rfl (by kernel_rfl) (by kernel_rfl) (by kernel_rfl) (fun _ _ _ h => h) (Or.inl ⟨by rfl, ?_⟩) (by assumption) ?_
      rotate_left
      · intro _ _; go_simp; with_reducible rfl
      simp only [Act.put, List.setIfInBounds_toArray, List.set_cons_zero, List.set_cons_succ, List.getElem_toArray, List.getElem_cons_zero, List.getElem_cons_succ]
      refine wpAnyH_ready (rs := [10]) (by kernel_rfl) (by simp) (AllReadyH.cons rfl (fun K hK => ?_) AllReadyH.nil)
      rw [if_pos (by rfl)]
      go_simp
      refine hK.out _ _ (S7.other (p := ⟨g, 4, none⟩) (row_row_ne S7 G7 (by decide)) _) (fun _ => ?_)
      clear hK K
      refine wpAnyH_done (by kernel_rfl) ?_ _
      have N7 := N6.kept g7 m1
      have A7 := A6.kept g7 m2
      have PM7 := PM6.kept g7 (some_ne m4)
      have B7 := B6.grown g7 hB6 (fun j hj => (HL6.out.lt j hj).1)
      have gc := grown_cell w7 g 4 (.slice Av (l.length + 1) cv)
      have O8 := O7.kept gc (own_row_ne O7 G7 (by decide))
      have N8 := N7.kept gc (own_row_ne N7 G7 (by decide))
      have A8 := A7.kept gc (own_row_ne A7 G7 (by decide))
      have PM8 := PM7.kept gc (fun e => row_pairs_ne G7 PM7 (Option.some.inj e).symm)
      have G8 := G7.set 4 (.slice Av (l.length + 1) cv)
      have B8 := B7.setCell (p := ⟨g, 4, none⟩) HM.out.hg (.slice Av (l.length + 1) cv)
      rw [← flat_append] at O8
      have K8 : Aside X w (w7.setCell ⟨g, 4, none⟩ (.slice Av (l.length + 1) cv)) := fun b hb => (heap_setCell_other w7 ⟨g, 4, none⟩ b _ (HFAR.out b hb).1).trans ((g7.block b (by have := HXL.out b hb; omega) (fun e => (HFAR.out b hb).2.2.2.2 e.symm)).trans (K6 b hb))
      have F8 : ∀ b, X b → b ≠ g ∧ b ≠ mb ∧ nv.ownBlock ≠ some b ∧ av.ownBlock ≠ some b ∧ (Value.slice Av (l.length + 1) cv).ownBlock ≠ some b := fun b hb => ⟨(HFAR.out b hb).1, (HFAR.out b hb).2.1, (HFAR.out b hb).2.2.1, (HFAR.out b hb).2.2.2.1, fun e => by
        rcases hv7 with k | k
        · exact (HFAR.out b hb).2.2.2.2 (k.symm.trans e)
        · have e2 := Option.some.inj (k.symm.trans e)
          have := HXL.out b hb
          omega⟩
      clear G6 N6 A6 PM6 B6 K6 hz6 hv7 m1 m2 m3 m4 m5 c4 f4 g7 gc
      go_wp2
      go_ret
      exact ⟨l.length, l ++ [p], rfl, ⟨HIX.out, .inr ⟨HNM.out, rfl⟩⟩, ⟨⟨nv, av, _, G8, N8, A8, by rw [List.length_append]; exact O8, F8⟩, PM8, HM.out.hg, HM.out.hmb, fun q hq => by
        rcases List.mem_append.1 hq with e | e
        · exact HM.out.ok q e
        · rw [List.mem_singleton.1 e]; exact HP.out⟩, K8, B8⟩
    -- BEHIND
end Go.Proofs.Ytdidogcgoghdmaa
