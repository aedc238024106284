/- The walk of the law AddrGroups. -/
import Derived.Test.YtablcpebepcgeaaDoorAddrAlive
import Derived.Test.YtablcpebepcgeaaDoorArrayEq
import Derived.Test.YtablcpebepcgeaaDoorFrom
import Derived.Deep.RegionHeld3
import Derived.Deep.MidRow
namespace Go.Proofs.YtablcpebepcgeaaDoor
open Go.RowKit
/-- The groups and the address lie in their blocks. -/
structure KeptG (n0 n1 : Nat) (g : List UInt16) (A : List UInt8) (w w' : World) : Prop where
  row0 : Row w' n0 29 (wordsA g)
  row1 : Row w' n1 24 (bytesA A)
  below : Below w.heap.size w w'
theorem KeptG.drew {n0 n1 : Nat} {g : List UInt16} {A : List UInt8} {w w' : World} (h : KeptG n0 n1 g A w w') : KeptG n0 n1 g A w w'.drew := ⟨h.row0.drew, h.row1.drew, h.below.drew⟩
theorem KeptG.on {n0 n1 : Nat} {g : List UInt16} {A : List UInt8} {w w' w'' : World} (h : KeptG n0 n1 g A w w') (hb : Below w'.heap.size w' w'') : KeptG n0 n1 g A w w'' :=
  ⟨h.row0.stays hb, h.row1.stays hb, h.below.trans (hb.mono h.below.size)⟩
theorem Row.range {w : World} {g : Nat} {t : TypeId} {l : List UInt8} (h : Row w g t (bytesA l)) : w.rangeAt g 0 (l.map byteV) := by
  intro j v hj
  rw [Nat.zero_add, h.cell, bytesA, List.getElem?_toArray]
  exact hj
theorem KeptG.held {n0 n1 : Nat} {g : List UInt16} {A : List UInt8} {w w' : World} (h : KeptG n0 n1 g A w w') : w'.rangeAt n1 0 (A.map byteV) ∧ KeptG n0 n1 g A w w' := ⟨h.row1.range, h⟩
namespace Adr
theorem zero_both {g : List UInt16} (hg : g.length = 8) : (decide (from_ g = zA) == decide (g = zG)) = true := by
  rw [beq_iff_eq, decide_eq_decide]
  constructor
  · intro h
    have e : from_ g = from_ zG := by rw [h]; rfl
    exact from_inj e
  · rintro rfl; rfl
end Adr

set_option maxRecDepth 100000 in
set_option maxHeartbeats 4000000 in
theorem groups_walk (g : List UInt16) (w : World) (hg : g.length = 8) (hw : Std w) :
    Calls Tryd.prog 6 #[.agg (wordsA g)] w fun e w' => e = .returned (.bool true) ∧ Below w.heap.size w w' := by
  have ha16 : (Adr.from_ g).length = 16 := by rw [Adr.from_length, hg]
  have HZ := Lib.hid (show (wordsA g).size = 8 by rw [wordsA_size, hg])
  have HZ2 := Lib.hid (show (bytesA (Adr.from_ g)).size = 16 by rw [bytesA_size, ha16])
  have HF := Lib.hid (fun W => from_calls g hg W)
  have HG0 := fun W => groups_calls (Adr.from_ g) ha16 W
  rw [Adr.groups_from] at HG0
  have HG := Lib.hid HG0
  have q1 : ∀ W, (Op.equalIn 10000 29 (.agg (wordsA g)) (.agg (wordsA g))).run Tryd.prog W = .ok true W := fun W => by
    rw [eq_groups g g hg hg W]; simp
  have q2 : ∀ W, (Op.equalIn 10000 24 (.agg (bytesA (Adr.from_ g))) (.agg (bytesA (Adr.from_ g)))).run Tryd.prog W = .ok true W := fun W => by
    rw [eq_addr (Adr.from_ g) (Adr.from_ g) ha16 ha16 W]; simp
  have q3 : ∀ W, (Op.equalIn 10000 24 (.agg (bytesA (Adr.from_ g))) (.agg (bytesA zA))).run Tryd.prog W = .ok (decide (Adr.from_ g = zA)) W := fun W => eq_addr (Adr.from_ g) zA ha16 zA_length W
  have q4 : ∀ W, (Op.equalIn 10000 29 (.agg (wordsA g)) (.agg (wordsA zG))).run Tryd.prog W = .ok (decide (g = zG)) W := fun W => eq_groups g zG hg zG_length W
  have hB := Adr.zero_both hg
  generalize decide (Adr.from_ g = zA) = bA at *
  generalize decide (g = zG) = bG at *
  have HB := Lib.hid hB
  clear hB
  have HL := Lib.hid hg
  clear HG0
  have HA := Lib.hid alive_calls
  have z1 := bytesA_zA
  have z2 := wordsA_zG
  have R0 := Row.new w 29 (wordsA g)
  have B0 := (Below.refl w.heap.size w).alloc (Nat.le_refl _) (.cells (wordsA g) 29)
  have S0 := hw.below B0
  go_enter Tryd.func6, Tryd.ntmps6
  clear hg
  go_wp2_with fail
  generalize w.alloc (.cells (wordsA g) 29) = w0 at *
  refine (HA.out _ S0).mono ?_
  rintro e w1 ⟨rfl, b1⟩
  have R1 := R0.stays b1
  have B1 := B0.trans (b1.mono B0.size)
  clear R0 B0 b1 S0
  go_wp2_with (refine at_slot 6 rfl ?_; refine load_row rfl 29 _ rfl w.heap.size rfl R1 Tryd.underlying29 rfl (by rw [HZ.out]; exact infoGroups) ?_)
  refine (HF.out _).mono ?_
  rintro e w2 ⟨rfl, b2⟩
  have R2 := R1.stays b2
  have B2 := B1.trans (b2.mono B1.size)
  have s2 := B2.size
  have T2 := Row.new w2 24 (bytesA zA)
  have T3 := T2.whole (bytesA (Adr.from_ g))
  have ne : w.heap.size ≠ w2.heap.size := by have := R2.lt; omega
  have R3 := (R2.alloc (.cells (bytesA zA) 24)).aside ne (bytesA (Adr.from_ g))
  have B3 := below_setRow (B2.alloc s2 (.cells (bytesA zA) 24)) s2 (bytesA (Adr.from_ g))
  clear R1 R2 B1 B2 b2
  go_wp2_with (refine wpList_store_row rfl 24 _ _ rfl w2.heap.size (bytesA (Adr.from_ g)) rfl rfl 24 _ T2 (by rw [HZ2.out]; exact infoAddr) (by rw [HZ2.out]; rfl) (bytesA_one _) ?_)
  generalize (w2.alloc (.cells (bytesA zA) 24)).setRow w2.heap.size (bytesA (Adr.from_ g)) = w3 at *
  have K : KeptG w.heap.size w2.heap.size g (Adr.from_ g) w w3 := ⟨R3, T3, B3⟩
  clear T2 T3 R3 B3
  have K3 := K.drew
  have i1 : (Tryd.prog.info? 24).map (·.size) = some (bytesA (Adr.from_ g)).size := by rw [HZ2.out]; exact infoAddr
  have i2 : (Tryd.prog.info? 29).map (·.size) = some (wordsA g).size := by rw [HZ.out]; exact infoGroups
  have I1 := Lib.hid i1
  have I2 := Lib.hid i2
  clear i1 i2
  simp only [Act.put]
  clear ha16 ne s2
  refine wp_region_held_drew (S := KeptG w.heap.size w2.heap.size g (Adr.from_ g) w) (by kernel_rfl) K3 (fun _ => ?_)
  clear K K3
  refine wpAnyH_take (i := 0) rfl (by kernel_rfl) (by kernel_rfl) (by kernel_rfl) (fun _ _ _ h => h) (yields_row (by rfl) _ _ rfl _ rfl (fun _ h => h.row1) Tryd.underlying24 rfl I1.out) (by assumption) ?_
  simp only [Act.put, List.setIfInBounds_toArray, List.set_cons_zero, List.set_cons_succ, List.getElem_toArray, List.getElem_cons_zero]
  refine wpAnyH_take (i := 2) rfl (by kernel_rfl) (by kernel_rfl) (by kernel_rfl) (fun _ _ _ h => h) (yields_row (by rfl) _ _ rfl _ rfl (fun _ h => h.row0) Tryd.underlying29 rfl I2.out) (by assumption) ?_
  simp only [Act.put, List.setIfInBounds_toArray, List.set_cons_zero, List.set_cons_succ, List.getElem_toArray, List.getElem_cons_zero, List.getElem_cons_succ]
  refine wpAnyH_ready (rs := [1]) (by kernel_rfl) (by simp) (AllReadyH.cons rfl (fun K hK => ?_) AllReadyH.nil)
  rw [if_pos (by rfl)]
  go_simp
  refine (HG.out _).mono ?_
  rintro e w4 ⟨rfl, b4⟩
  have S4 : KeptG w.heap.size w2.heap.size g (Adr.from_ g) w w4 := KeptG.on (by assumption) b4
  go_wp2_with fail
  refine hK.out _ _ S4 (fun _ => ?_)
  clear hK K
  refine wpAnyH_take (i := 3) (v := ?_) rfl (by kernel_rfl) (by kernel_rfl) (by kernel_rfl) (fun _ _ _ h => h) (Or.inl ⟨by rfl, ?_⟩) (by assumption) ?_
  rotate_left
  · intro _ _; go_simp; with_reducible rfl
  simp only [Act.put, List.setIfInBounds_toArray, List.set_cons_zero, List.set_cons_succ, List.getElem_toArray, List.getElem_cons_zero, List.getElem_cons_succ]
  refine wpAnyH_take (i := 4) (v := ?_) rfl (by kernel_rfl) (by kernel_rfl) (by kernel_rfl) (fun _ _ _ h => h) (Or.inl ⟨by rfl, ?_⟩) (by assumption) ?_
  rotate_left
  · intro _ _; go_simp; with_reducible rfl
  simp only [Act.put, List.setIfInBounds_toArray, List.set_cons_zero, List.set_cons_succ, List.getElem_toArray, List.getElem_cons_zero, List.getElem_cons_succ]
  refine wpAnyH_take (i := 5) rfl (by kernel_rfl) (by kernel_rfl) (by kernel_rfl) (fun _ _ _ h => h) (yields_row (by rfl) _ _ rfl _ rfl (fun _ h => h.row1) Tryd.underlying24 rfl I1.out) (by assumption) ?_
  simp only [Act.put, List.setIfInBounds_toArray, List.set_cons_zero, List.set_cons_succ, List.getElem_toArray, List.getElem_cons_zero, List.getElem_cons_succ]
  refine wpAnyH_take (i := 8) rfl (by kernel_rfl) (by kernel_rfl) (by kernel_rfl) (fun _ _ _ h => h) (yields_row (by rfl) _ _ rfl _ rfl (fun _ h => h.row1) Tryd.underlying24 rfl I1.out) (by assumption) ?_
  simp only [Act.put, List.setIfInBounds_toArray, List.set_cons_zero, List.set_cons_succ, List.getElem_toArray, List.getElem_cons_zero, List.getElem_cons_succ]
  refine wpAnyH_ready (rs := [6]) (by kernel_rfl) (by simp) (AllReadyH.cons rfl (fun K hK => ?_) AllReadyH.nil)
  rw [if_pos (by rfl)]
  go_simp
  refine (HG.out _).mono ?_
  rintro e w4 ⟨rfl, b4⟩
  have S4 : KeptG w.heap.size w2.heap.size g (Adr.from_ g) w w4 := KeptG.on (by assumption) b4
  go_wp2_with fail
  refine hK.out _ _ S4 (fun _ => ?_)
  clear hK K
  refine wpAnyH_ready (rs := [7]) (by kernel_rfl) (by simp) (AllReadyH.cons rfl (fun K hK => ?_) AllReadyH.nil)
  rw [if_pos (by rfl)]
  go_simp
  refine (HF.out _).mono ?_
  rintro e w4 ⟨rfl, b4⟩
  have S4 : KeptG w.heap.size w2.heap.size g (Adr.from_ g) w w4 := KeptG.on (by assumption) b4
  go_wp2_with fail
  refine hK.out _ _ S4 (fun _ => ?_)
  clear hK K
  refine wpAnyH_take (i := 9) (v := ?_) rfl (by kernel_rfl) (by kernel_rfl) (by kernel_rfl) (fun _ _ _ h => h) (Or.inl ⟨by rfl, ?_⟩) (by assumption) ?_
  rotate_left
  · intro _ _; go_simp; with_reducible rfl
  simp only [Act.put, List.setIfInBounds_toArray, List.set_cons_zero, List.set_cons_succ, List.getElem_toArray, List.getElem_cons_zero, List.getElem_cons_succ]
  refine wpAnyH_take (i := 10) (v := ?_) rfl (by kernel_rfl) (by kernel_rfl) (by kernel_rfl) (fun _ _ _ h => h) (Or.inl ⟨by rfl, ?_⟩) (by assumption) ?_
  rotate_left
  · intro _ _; go_simp; with_reducible rfl
  simp only [Act.put, List.setIfInBounds_toArray, List.set_cons_zero, List.set_cons_succ, List.getElem_toArray, List.getElem_cons_zero, List.getElem_cons_succ]
  refine wpAnyH_take (i := 11) (v := ?_) rfl (by kernel_rfl) (by kernel_rfl) (by kernel_rfl) (fun _ _ _ h => h) (Or.inl ⟨by rfl, ?_⟩) (by assumption) ?_
  rotate_left
  · intro _ _; go_simp; with_reducible rfl
  simp only [Act.put, List.setIfInBounds_toArray, List.set_cons_zero, List.set_cons_succ, List.getElem_toArray, List.getElem_cons_zero, List.getElem_cons_succ]
  refine wpAnyH_take (i := 12) rfl (by kernel_rfl) (by kernel_rfl) (by kernel_rfl) (fun _ _ _ h => h) (yields_row (by rfl) _ _ rfl _ rfl (fun _ h => h.row1) Tryd.underlying24 rfl I1.out) (by assumption) ?_
  simp only [Act.put, List.setIfInBounds_toArray, List.set_cons_zero, List.set_cons_succ, List.getElem_toArray, List.getElem_cons_zero, List.getElem_cons_succ]
  refine wpAnyH_take (i := 13) (v := ?_) rfl (by kernel_rfl) (by kernel_rfl) (by kernel_rfl) (fun _ _ _ h => h) (Or.inl ⟨by rfl, ?_⟩) (by assumption) ?_
  rotate_left
  · intro _ _; go_simp; with_reducible rfl
  simp only [Act.put, List.setIfInBounds_toArray, List.set_cons_zero, List.set_cons_succ, List.getElem_toArray, List.getElem_cons_zero, List.getElem_cons_succ]
  refine wpAnyH_take (i := 14) (v := ?_) rfl (by kernel_rfl) (by kernel_rfl) (by kernel_rfl) (fun _ _ _ h => h) (Or.inl ⟨by rfl, ?_⟩) (by assumption) ?_
  rotate_left
  · intro _ _; go_simp; with_reducible rfl
  simp only [Act.put, List.setIfInBounds_toArray, List.set_cons_zero, List.set_cons_succ, List.getElem_toArray, List.getElem_cons_zero, List.getElem_cons_succ]
  refine wpAnyH_take (i := 15) rfl (by kernel_rfl) (by kernel_rfl) (by kernel_rfl) (fun _ _ _ h => h) (yields_row (by rfl) _ _ rfl _ rfl (fun _ h => h.row0) Tryd.underlying29 rfl I2.out) (by assumption) ?_
  simp only [Act.put, List.setIfInBounds_toArray, List.set_cons_zero, List.set_cons_succ, List.getElem_toArray, List.getElem_cons_zero, List.getElem_cons_succ]
  refine wpAnyH_take (i := 16) (v := ?_) rfl (by kernel_rfl) (by kernel_rfl) (by kernel_rfl) (fun _ _ _ h => h) (Or.inl ⟨by rfl, ?_⟩) (by assumption) ?_
  rotate_left
  · intro _ _; go_simp; with_reducible rfl
  simp only [Act.put, List.setIfInBounds_toArray, List.set_cons_zero, List.set_cons_succ, List.getElem_toArray, List.getElem_cons_zero, List.getElem_cons_succ]
  refine wpAnyH_take (i := 17) (v := ?_) rfl (by kernel_rfl) (by kernel_rfl) (by kernel_rfl) (fun _ _ _ h => h) (Or.inl ⟨by rfl, ?_⟩) (by assumption) ?_
  rotate_left
  · intro _ _; go_simp; with_reducible rfl
  simp only [Act.put, List.setIfInBounds_toArray, List.set_cons_zero, List.set_cons_succ, List.getElem_toArray, List.getElem_cons_zero, List.getElem_cons_succ]
  refine wpAnyH_take (i := 18) (v := ?_) rfl (by kernel_rfl) (by kernel_rfl) (by kernel_rfl) (fun _ _ _ h => h) (Or.inl ⟨by rfl, ?_⟩) (by assumption) ?_
  rotate_left
  · intro _ _; go_simp; with_reducible rfl
  simp only [Act.put, List.setIfInBounds_toArray, List.set_cons_zero, List.set_cons_succ, List.getElem_toArray, List.getElem_cons_zero, List.getElem_cons_succ]
  refine wpAnyH_take (i := 19) (v := ?_) rfl (by kernel_rfl) (by kernel_rfl) (by kernel_rfl) (fun _ _ _ h => h) (Or.inl ⟨by rfl, ?_⟩) (by assumption) ?_
  rotate_left
  · intro _ _; go_simp; with_reducible rfl
  simp only [Act.put, List.setIfInBounds_toArray, List.set_cons_zero, List.set_cons_succ, List.getElem_toArray, List.getElem_cons_zero, List.getElem_cons_succ]
  refine wpAnyH_take (i := 20) (v := ?_) rfl (by kernel_rfl) (by kernel_rfl) (by kernel_rfl) (fun _ _ _ h => h) (Or.inl ⟨by rfl, ?_⟩) (by assumption) ?_
  rotate_left
  · intro _ _; go_simp; with_reducible rfl
  simp only [Act.put, List.setIfInBounds_toArray, List.set_cons_zero, List.set_cons_succ, List.getElem_toArray, List.getElem_cons_zero, List.getElem_cons_succ]
  refine wpAnyH_done (by kernel_rfl) ?_ _
  go_wp2
  go_ret
  exact ⟨ret_bool HB.out, S4.below⟩
end Go.Proofs.YtablcpebepcgeaaDoor
