/- The walk of the law AddrTells. -/
import Derived.Test.YtablcpebepcgeaaDoorAddrAlive
import Derived.Test.YtablcpebepcgeaaDoorText4
import Derived.Test.YtablcpebepcgeaaDoorRefText4
import Derived.Test.YtablcpebepcgeaaDoorRefText6
namespace Go.Proofs.YtablcpebepcgeaaDoor
open Go.RowKit
/-- An address and its groups lie in their blocks. -/
structure KeptG (n0 n1 : Nat) (a : List UInt8) (g : List UInt16) (w w' : World) : Prop where
  row0 : Row w' n0 24 (bytesA a)
  row1 : Row w' n1 29 (wordsA g)
  std : Std w'
  below : Below w.heap.size w w'
theorem KeptG.on {n0 n1 : Nat} {a : List UInt8} {g : List UInt16} {w w' w'' : World} (h : KeptG n0 n1 a g w w') (hb : Below w'.heap.size w' w'') : KeptG n0 n1 a g w w'' :=
  ⟨h.row0.stays hb, h.row1.stays hb, h.std.below hb, h.below.trans (hb.mono h.below.size)⟩
theorem KeptG.word {n0 n1 : Nat} {a : List UInt8} {g : List UInt16} {w w' : World} (h : KeptG n0 n1 a g w w') {k : Nat} {x : UInt16} (hx : g[k]? = some x) : w'.cell? ⟨n1, k, none⟩ = some (.int .u16 (x.toNat : Int)) := by
  rw [h.row1.cell, wordsA_at, hx]; rfl
set_option maxRecDepth 100000 in
set_option maxHeartbeats 4000000 in
theorem tells_walk (a : List UInt8) (w : World) (ha : a.length = 16) (hw : Std w) :
    Calls Tryd.prog 4 #[.agg (bytesA a)] w fun e w' => e = .returned (.bool true) ∧ Below w.heap.size w w' := by
  have HA := Lib.hid alive_calls
  have HG := Lib.hid (fun W => groups_calls a ha W)
  have HR := Lib.hid (fun k hk g hg W => refGroup_calls a ha k hk g hg W)
  have HT4 := Lib.hid (fun W h => text4_calls a ha W h)
  have HT6 := Lib.hid (fun W h => text6_calls a ha W h)
  have HU4 := Lib.hid (fun W => refText4_calls a ha W)
  have HU6 := Lib.hid (fun W => refText6_calls a ha W)
  obtain ⟨X, hX⟩ : ∃ X : ByteArray, X = ⟨(Adr.tx4 (a.drop 12)).toArray⟩ := ⟨_, rfl⟩
  obtain ⟨Y, hY⟩ : ∃ Y : ByteArray, Y = ⟨(Adr.tx6 (Adr.groups a)).toArray⟩ := ⟨_, rfl⟩
  rw [← hX] at HT4 HU4
  rw [← hY] at HT6 HU6
  have HZ := Lib.hid (show (bytesA a).size = 16 by rw [bytesA_size, ha])
  have hl := Adr.groups_length 8 a ha
  have HI := Lib.hid (show (Tryd.prog.info? 24).map (·.size) = some (bytesA a).size by rw [HZ.out]; exact infoAddr)
  generalize Adr.groups a = g at *
  have HW := Lib.hid (show (wordsA g).size = 8 by rw [wordsA_size, hl])
  have HL := Lib.hid hl
  clear hX hY hl ha
  have z1 := wordsA_zG
  have R0 := Row.new w 24 (bytesA a)
  have B0 := (Below.refl w.heap.size w).alloc (Nat.le_refl _) (.cells (bytesA a) 24)
  have S0 := hw.below B0
  go_enter Tryd.func4, Tryd.ntmps4
  go_wp2_with fail
  generalize w.alloc (.cells (bytesA a) 24) = w0 at *
  refine (HA.out _ S0).mono ?_
  rintro e w1 ⟨rfl, b1⟩
  have R1 := R0.stays b1
  have B1 := B0.trans (b1.mono B0.size)
  clear R0 B0 b1 S0
  go_wp2_with (refine at_slot 7 rfl ?_; refine load_row rfl 24 _ rfl w.heap.size rfl R1 Tryd.underlying24 rfl HI.out ?_)
  refine (HG.out _).mono ?_
  rintro e w2 ⟨rfl, b2⟩
  have R2 := R1.stays b2
  have B2 := B1.trans (b2.mono B1.size)
  have s2 := B2.size
  have n2 : w.heap.size ≠ w2.heap.size := by have := R2.lt; omega
  have T2 := Row.new w2 29 (wordsA zG)
  have T3 := T2.whole (wordsA g)
  have R3 := (R2.alloc (.cells (wordsA zG) 29)).aside n2 (wordsA g)
  have B3 := below_setRow (B2.alloc s2 (.cells (wordsA zG) 29)) s2 (wordsA g)
  clear R1 B1 b2 R2 B2 n2
  go_wp2_with (refine wpList_store_row rfl 29 _ _ rfl w2.heap.size (wordsA g) rfl rfl 29 _ T2 (by rw [HW.out]; exact infoGroups) (by rw [HW.out]; rfl) (wordsA_one _) ?_)
  have K3 : KeptG w.heap.size w2.heap.size a g w ((w2.alloc (.cells (wordsA zG) 29)).setRow w2.heap.size (wordsA g)) := ⟨R3, T3, hw.below B3, B3⟩
  generalize (w2.alloc (.cells (wordsA zG) 29)).setRow w2.heap.size (wordsA g) = w3 at *
  generalize hn1 : w2.heap.size = n1 at *
  clear hn1 R3 T3 B3 T2 s2
  go_loopw [9] (fun i wr => ∃ k : Nat, k ≤ 8 ∧ i = .int .i64 (k : Int) ∧ KeptG w.heap.size n1 a g w wr) (fun i _ => 8 - (intOf i).toNat)
  case atStart => exact ⟨0, Nat.zero_le _, rfl, K3⟩
  case round =>
    clear K3
    obtain ⟨k, hk, rfl, K⟩ := hrel
    by_cases hlt : k < 8
    · obtain ⟨x, hx⟩ : ∃ x, g[k]? = some x := ⟨_, List.getElem?_eq_getElem (by rw [HL.out]; omega)⟩
      have HC := Lib.hid (HR.out k hlt x hx)
      have HX := Lib.hid hx
      have hx16 := x.toNat_lt
      have wx : IntKind.i64.wrap (x.toNat : Int) = (x.toNat : Int) := by rw [IntKind.wrap_i64]; omega
      have K1 := K.on (Below.refl _ _).drew
      clear hx K
      go_wp2
      refine wp_region_held_drew (S := KeptG w.heap.size n1 a g w) (by kernel_rfl) K1 (fun _ => ?_)
      clear K1
      refine wpAnyH_take (i := 0) (v := ?_) rfl (by kernel_rfl) (by kernel_rfl) (by kernel_rfl) (fun _ _ _ h => h) (Or.inl ⟨by rfl, ?_⟩) (by assumption) ?_
      rotate_left
      · intro _ _; go_simp; with_reducible rfl
      simp only [Act.put, List.setIfInBounds_toArray, List.set_cons_zero, List.set_cons_succ, List.getElem_toArray, List.getElem_cons_zero]
      refine wpAnyH_take (i := 1) (v := ?_) rfl (by kernel_rfl) (by kernel_rfl) (by kernel_rfl) (fun _ _ _ h => h) (Or.inl ⟨by rfl, ?_⟩) (by assumption) ?_
      rotate_left
      · intro _ _; go_simp; with_reducible rfl
      simp only [Act.put, List.setIfInBounds_toArray, List.set_cons_zero, List.set_cons_succ, List.getElem_toArray, List.getElem_cons_zero, List.getElem_cons_succ]
      refine wpAnyH_take (i := 2) (v := ?_) rfl (by kernel_rfl) (by kernel_rfl) (by kernel_rfl) (fun _ _ _ h => h) (Or.inl ⟨by rfl, ?_⟩) (by assumption) ?_
      rotate_left
      · intro _ hS; have hcell := hS.word HX.out; clear hS; go_simp; with_reducible rfl
      simp only [Act.put, List.setIfInBounds_toArray, List.set_cons_zero, List.set_cons_succ, List.getElem_toArray, List.getElem_cons_zero, List.getElem_cons_succ]
      refine wpAnyH_take (i := 3) (v := ?_) rfl (by kernel_rfl) (by kernel_rfl) (by kernel_rfl) (fun _ _ _ h => h) (Or.inl ⟨by rfl, ?_⟩) (by assumption) ?_
      rotate_left
      · intro _ _; go_simp; with_reducible rfl
      simp only [Act.put, List.setIfInBounds_toArray, List.set_cons_zero, List.set_cons_succ, List.getElem_toArray, List.getElem_cons_zero, List.getElem_cons_succ]
      refine wpAnyH_take (i := 4) rfl (by kernel_rfl) (by kernel_rfl) (by kernel_rfl) (fun _ _ _ h => h) (yields_row (by rfl) _ _ rfl _ rfl (fun _ h => h.row0) Tryd.underlying24 rfl HI.out) (by assumption) ?_
      simp only [Act.put, List.setIfInBounds_toArray, List.set_cons_zero, List.set_cons_succ, List.getElem_toArray, List.getElem_cons_zero, List.getElem_cons_succ]
      refine wpAnyH_take (i := 5) (v := ?_) rfl (by kernel_rfl) (by kernel_rfl) (by kernel_rfl) (fun _ _ _ h => h) (Or.inl ⟨by rfl, ?_⟩) (by assumption) ?_
      rotate_left
      · intro _ _; go_simp; with_reducible rfl
      simp only [Act.put, List.setIfInBounds_toArray, List.set_cons_zero, List.set_cons_succ, List.getElem_toArray, List.getElem_cons_zero, List.getElem_cons_succ]
      refine wpAnyH_ready (rs := [6]) (by kernel_rfl) (by simp) (AllReadyH.cons rfl (fun K hK => ?_) AllReadyH.nil)
      rw [if_pos (by rfl)]
      go_simp
      refine (HC.out _).mono ?_
      rintro e w4 ⟨rfl, b4⟩
      have S4 : KeptG w.heap.size n1 a g w w4 := KeptG.on (by assumption) b4
      clear b4
      go_wp2_with fail
      refine hK.out _ _ S4 (fun _ => ?_)
      clear hK K
      refine wpAnyH_take (i := 7) (v := ?_) rfl (by kernel_rfl) (by kernel_rfl) (by kernel_rfl) (fun _ _ _ h => h) (Or.inl ⟨by rfl, ?_⟩) (by assumption) ?_
      rotate_left
      · intro _ _; go_simp; with_reducible rfl
      simp only [Act.put, List.setIfInBounds_toArray, List.set_cons_zero, List.set_cons_succ, List.getElem_toArray, List.getElem_cons_zero, List.getElem_cons_succ]
      refine wpAnyH_done (by kernel_rfl) ?_ _
      go_wp2
      go_roundw
      case rel => exact ⟨k + 1, by omega, by go_num, by assumption⟩
      case measure => simp [intOf]; omega
    · have K1 := K.on (Below.refl _ _).drew
      clear K
      go_wp2
      refine wp_region_held_drew (S := KeptG w.heap.size n1 a g w) (by kernel_rfl) K1 (fun _ => ?_)
      clear K1
      refine wpAnyH_take (i := 0) rfl (by kernel_rfl) (by kernel_rfl) (by kernel_rfl) (fun _ _ _ h => h) (yields_row (by rfl) _ _ rfl _ rfl (fun _ h => h.row0) Tryd.underlying24 rfl HI.out) (by assumption) ?_
      simp only [Act.put, List.setIfInBounds_toArray, List.set_cons_zero, List.set_cons_succ, List.getElem_toArray, List.getElem_cons_zero]
      refine wpAnyH_take (i := 2) rfl (by kernel_rfl) (by kernel_rfl) (by kernel_rfl) (fun _ _ _ h => h) (yields_row (by rfl) _ _ rfl _ rfl (fun _ h => h.row0) Tryd.underlying24 rfl HI.out) (by assumption) ?_
      simp only [Act.put, List.setIfInBounds_toArray, List.set_cons_zero, List.set_cons_succ, List.getElem_toArray, List.getElem_cons_zero, List.getElem_cons_succ]
      refine wpAnyH_ready (rs := [1]) (by kernel_rfl) (by simp) (AllReadyH.cons rfl (fun K hK => ?_) AllReadyH.nil)
      rw [if_pos (by rfl)]
      go_simp
      refine (HT4.out _ (KeptG.std (n0 := w.heap.size) (n1 := n1) (a := a) (g := g) (w := w) (by assumption))).mono ?_
      rintro e w4 ⟨rfl, b4⟩
      have S4 : KeptG w.heap.size n1 a g w w4 := KeptG.on (by assumption) b4
      clear b4
      go_wp2_with fail
      refine hK.out _ _ S4 (fun _ => ?_)
      clear hK K
      refine wpAnyH_ready (rs := [3]) (by kernel_rfl) (by simp) (AllReadyH.cons rfl (fun K hK => ?_) AllReadyH.nil)
      rw [if_pos (by rfl)]
      go_simp
      refine (HU4.out _).mono ?_
      rintro e w4 ⟨rfl, b4⟩
      have S4 : KeptG w.heap.size n1 a g w w4 := KeptG.on (by assumption) b4
      clear b4
      go_wp2_with fail
      refine hK.out _ _ S4 (fun _ => ?_)
      clear hK K
      refine wpAnyH_take (i := 4) (v := ?_) rfl (by kernel_rfl) (by kernel_rfl) (by kernel_rfl) (fun _ _ _ h => h) (Or.inl ⟨by rfl, ?_⟩) (by assumption) ?_
      rotate_left
      · intro _ _; go_simp; with_reducible rfl
      simp only [Act.put, List.setIfInBounds_toArray, List.set_cons_zero, List.set_cons_succ, List.getElem_toArray, List.getElem_cons_zero, List.getElem_cons_succ]
      refine wpAnyH_take (i := 5) (v := ?_) rfl (by kernel_rfl) (by kernel_rfl) (by kernel_rfl) (fun _ _ _ h => h) (Or.inl ⟨by rfl, ?_⟩) (by assumption) ?_
      rotate_left
      · intro _ _; go_simp; with_reducible rfl
      simp only [Act.put, List.setIfInBounds_toArray, List.set_cons_zero, List.set_cons_succ, List.getElem_toArray, List.getElem_cons_zero, List.getElem_cons_succ]
      refine wpAnyH_take (i := 6) rfl (by kernel_rfl) (by kernel_rfl) (by kernel_rfl) (fun _ _ _ h => h) (yields_row (by rfl) _ _ rfl _ rfl (fun _ h => h.row0) Tryd.underlying24 rfl HI.out) (by assumption) ?_
      simp only [Act.put, List.setIfInBounds_toArray, List.set_cons_zero, List.set_cons_succ, List.getElem_toArray, List.getElem_cons_zero, List.getElem_cons_succ]
      refine wpAnyH_take (i := 8) rfl (by kernel_rfl) (by kernel_rfl) (by kernel_rfl) (fun _ _ _ h => h) (yields_row (by rfl) _ _ rfl _ rfl (fun _ h => h.row0) Tryd.underlying24 rfl HI.out) (by assumption) ?_
      simp only [Act.put, List.setIfInBounds_toArray, List.set_cons_zero, List.set_cons_succ, List.getElem_toArray, List.getElem_cons_zero, List.getElem_cons_succ]
      refine wpAnyH_ready (rs := [7]) (by kernel_rfl) (by simp) (AllReadyH.cons rfl (fun K hK => ?_) AllReadyH.nil)
      rw [if_pos (by rfl)]
      go_simp
      refine (HT6.out _ (KeptG.std (n0 := w.heap.size) (n1 := n1) (a := a) (g := g) (w := w) (by assumption))).mono ?_
      rintro e w4 ⟨rfl, b4⟩
      have S4 : KeptG w.heap.size n1 a g w w4 := KeptG.on (by assumption) b4
      clear b4
      go_wp2_with fail
      refine hK.out _ _ S4 (fun _ => ?_)
      clear hK K
      refine wpAnyH_ready (rs := [9]) (by kernel_rfl) (by simp) (AllReadyH.cons rfl (fun K hK => ?_) AllReadyH.nil)
      rw [if_pos (by rfl)]
      go_simp
      refine (HU6.out _).mono ?_
      rintro e w4 ⟨rfl, b4⟩
      have S4 : KeptG w.heap.size n1 a g w w4 := KeptG.on (by assumption) b4
      clear b4
      go_wp2_with fail
      refine hK.out _ _ S4 (fun _ => ?_)
      clear hK K
      refine wpAnyH_take (i := 10) (v := ?_) rfl (by kernel_rfl) (by kernel_rfl) (by kernel_rfl) (fun _ _ _ h => h) (Or.inl ⟨by rfl, ?_⟩) (by assumption) ?_
      rotate_left
      · intro _ _; go_simp; with_reducible rfl
      simp only [Act.put, List.setIfInBounds_toArray, List.set_cons_zero, List.set_cons_succ, List.getElem_toArray, List.getElem_cons_zero, List.getElem_cons_succ]
      refine wpAnyH_take (i := 11) (v := ?_) rfl (by kernel_rfl) (by kernel_rfl) (by kernel_rfl) (fun _ _ _ h => h) (Or.inl ⟨by rfl, ?_⟩) (by assumption) ?_
      rotate_left
      · intro _ _; go_simp; with_reducible rfl
      simp only [Act.put, List.setIfInBounds_toArray, List.set_cons_zero, List.set_cons_succ, List.getElem_toArray, List.getElem_cons_zero, List.getElem_cons_succ]
      refine wpAnyH_take (i := 12) (v := ?_) rfl (by kernel_rfl) (by kernel_rfl) (by kernel_rfl) (fun _ _ _ h => h) (Or.inl ⟨by rfl, ?_⟩) (by assumption) ?_
      rotate_left
      · intro _ _; go_simp; with_reducible rfl
      simp only [Act.put, List.setIfInBounds_toArray, List.set_cons_zero, List.set_cons_succ, List.getElem_toArray, List.getElem_cons_zero, List.getElem_cons_succ]
      refine wpAnyH_done (by kernel_rfl) ?_ _
      go_wp2
      go_ret
      exact ⟨rfl, KeptG.below (n0 := w.heap.size) (n1 := n1) (a := a) (g := g) (by assumption)⟩
end Go.Proofs.YtablcpebepcgeaaDoor
