/- The walk of the closure of write: one more piece is put behind the pieces. -/
import Derived.Test.YtpimaobejjpffaaGreatDoorHeaderRow
import Derived.Test.YtpimaobejjpffaaGreatDoorOctets
import Derived.Deep.AppendLies
import Derived.Deep.RegionHeld3
namespace Go.Proofs.YtpimaobejjpffaaGreatDoor
open Go.RowKit
/-- The variable gp holds the pieces, in memory of their own. -/
def Pieces (gp : Nat) (ps : List (List UInt8)) (w : World) : Prop := ∃ sl, Row w gp 39 #[sl] ∧ w.ownsRow (gp + 1) 9 1 sl ps.length (ps.map strV)
theorem Pieces.stays {gp : Nat} {ps : List (List UInt8)} {w w' : World} (h : Pieces gp ps w) (hb : Below w.heap.size w w') : Pieces gp ps w' := by
  obtain ⟨sl, R, O⟩ := h
  exact ⟨sl, R.stays hb, own_keep O hb⟩
def PutPost (gp : Nat) (ps : List (List UInt8)) (w : World) (e : Ending) (w' : World) : Prop := e = .returned (.tuple #[]) ∧ Pieces gp ps w' ∧ Below gp w w'
theorem put_end {gp g cap : Nat} {ps : List (List UInt8)} {x : List UInt8} {X : ByteArray} {sl : Value} {w w6 : World} (hXv : [Value.string X] = [x].map strV) (_hgp : gp < w.heap.size) (R6 : Row w6 gp 39 #[sl])
    (O6 : w6.ownsRow (gp + 1) 9 1 (.slice (some ⟨g, 0, none⟩) (ps.length + 1) cap) (ps.length + 1) (ps.map strV ++ [Value.string X])) (B6 : Below gp w w6) :
    PutPost gp (ps ++ [x]) w (.returned (.tuple #[])) (w6.setCell ⟨gp, 0, none⟩ (.slice (some ⟨g, 0, none⟩) (ps.length + 1) cap)) := by
  have hg : gp + 1 ≤ g := (O6.lt g rfl).1
  refine ⟨rfl, ⟨_, R6.set 0 _, ?_⟩, B6.setCell (p := ⟨gp, 0, none⟩) (Nat.le_refl _) _⟩
  have O7 := own_far O6 (p := ⟨gp, 0, none⟩) (by show some g ≠ some gp; intro e; have := Option.some.inj e; omega) (.slice (some ⟨g, 0, none⟩) (ps.length + 1) cap)
  rw [hXv, ← List.map_append] at O7
  rw [List.length_append]
  exact O7
set_option maxRecDepth 100000 in
set_option maxHeartbeats 8000000 in
theorem put_calls (b : Bool) (xs ps : List (List UInt8)) (bp gp : Nat) (w : World) (hP : Pieces gp ps w) (hx : Row w bp 9 (textsA xs)) (hn : xs.length ≤ 1000) (hj : (Lib.join xs [61]).length ≤ 1048576) (hps : ps.length ≤ 1000) :
    Calls Tryz.prog 41 #[.bool b, .slice (some ⟨bp, 0, none⟩) xs.length xs.length, .pointer (some ⟨gp, 0, none⟩)] w (PutPost gp (if b = true then ps ++ [Lib.join xs [61]] else ps) w) := by
  cases b with
  | false =>
    rw [if_neg (by simp)]
    go_enter Tryz.func41, Tryz.ntmps41
    go_wp2
    go_end0
    exact ⟨rfl, hP, Below.refl _ _⟩
  | true =>
    rw [if_pos rfl]
    obtain ⟨sl, R, O⟩ := hP
    have hlt := R.lt
    obtain ⟨i0, hi, hz0, hz1, hz2⟩ := info_parts infoText
    have HJ : Hid (∀ W, Below w.heap.size w W → Calls Tryz.prog 42 #[.slice (some ⟨bp, 0, none⟩) xs.length xs.length, .string ⟨#[61]⟩] W fun e w' => e = .returned (.string ⟨(Lib.join xs [61]).toArray⟩) ∧ Below W.heap.size W w') := Lib.hid (fun W hb => by
      have R2 := hx.stays hb
      have e1 : ((xs.map fun p => (⟨p.toArray⟩ : ByteArray)).map (·.data.toList)) = xs := by rw [List.map_map]; exact List.map_id xs
      have e2 : (⟨#[61]⟩ : ByteArray).data.toList = [61] := rfl
      have h := Tryz.strings_Join bp 0 xs.length (xs.map fun p => ⟨p.toArray⟩) ⟨#[61]⟩ W (fun j x hxx => by
        rw [Nat.zero_add, R2.cell, textsA_at]
        rw [List.getElem?_map] at hxx
        cases hp : xs[j]? with
        | none => rw [hp] at hxx; cases hxx
        | some p => rw [hp] at hxx; rw [← Option.some.inj hxx]; rfl) R2.lt (by rw [List.length_map]; omega) (by rw [List.length_map]; exact Nat.le_refl _) (by rw [e1, e2]; omega)
      rw [List.length_map, e1, e2] at h
      exact h)
    clear hx
    generalize Lib.join xs [61] = x at *
    have HJ1 : Hid (Calls Tryz.prog 42 #[.slice (some ⟨bp, 0, none⟩) xs.length xs.length, .string ⟨#[61]⟩] w.drew fun e w' => e = .returned (.string ⟨x.toArray⟩) ∧ Below w.heap.size w w') := Lib.hid ((HJ.out w.drew (Below.refl _ _).drew).mono fun e w' ⟨h1, h2⟩ => ⟨h1, (Below.refl _ w).drew.trans h2⟩)
    clear HJ
    have q0 : w.cell? ⟨gp, 0, none⟩ = some sl := R.cell 0
    obtain ⟨X, hX⟩ : ∃ X : ByteArray, (⟨x.toArray⟩ : ByteArray) = X := ⟨_, rfl⟩
    have HXv : Hid ([Value.string X] = [x].map strV) := Lib.hid (by rw [← hX]; rfl)
    rw [hX] at HJ1
    clear hX
    go_enter Tryz.func41, Tryz.ntmps41
    go_wp2_with fail
    have hgp : gp < w.heap.size := hlt
    refine wp_region_held_drew (S := fun _ => True) (by kernel_rfl) trivial (fun _ => ?_)
    refine wpAnyH_take (i := 1) (v := ?_) rfl (by kernel_rfl) (by kernel_rfl) (by kernel_rfl) (fun _ _ _ h => h) (Or.inl ⟨by rfl, ?_⟩) (by assumption) ?_
    rotate_left
    · intro _ _; go_simp; with_reducible rfl
    simp only [Act.put, List.setIfInBounds_toArray, List.set_cons_zero, List.set_cons_succ, List.getElem_toArray, List.getElem_cons_zero, List.getElem_cons_succ]
    refine wpAnyH_ready (rs := [0, 2]) (by kernel_rfl) (by simp) (AllReadyH.cons rfl (fun K hK => ?_) (AllReadyH.cons rfl (fun K hK => ?_) AllReadyH.nil))
    · rw [if_pos (by rfl)]
      go_simp
      refine hK.out _ _ trivial (fun _ => ?_)
      clear hK K
      refine wpAnyH_ready (rs := [2]) (by kernel_rfl) (by simp) (AllReadyH.cons rfl (fun K hK => ?_) AllReadyH.nil)
      rw [if_pos (by rfl)]
      go_simp
      refine HJ1.out.mono ?_
      rintro e w4 ⟨rfl, b4w⟩
      have R4 := R.stays b4w
      have O4 := own_keep O b4w
      have q4 : w4.cell? ⟨gp, 0, none⟩ = some sl := R4.cell 0
      have R5 := R4.alloc (.cells #[Value.string X] 9)
      have O5 := O4.alloc (.cells #[Value.string X] 9)
      have q5 : (w4.alloc (.cells #[Value.string X] 9)).cell? ⟨gp, 0, none⟩ = some sl := R5.cell 0
      have B5 := b4w.alloc b4w.size (.cells #[Value.string X] 9)
      go_wp2_with fail
      refine hK.out _ _ trivial (fun _ => ?_)
      clear hK K
      refine wpAnyH_ready (rs := [3]) (by kernel_rfl) (by simp) (AllReadyH.cons rfl (fun K hK => ?_) AllReadyH.nil)
      rw [if_pos (by rfl)]
      go_simp
      refine hK.out _ _ trivial (fun _ => ?_)
      clear hK K
      refine wpAnyH_ready (rs := [4]) (by kernel_rfl) (by simp) (AllReadyH.cons rfl (fun K hK => ?_) AllReadyH.nil)
      refine step_append_lies _ (by rfl) _ _ _ (by rfl) (gp + 1) 9 i0 _ 1 16 Tryz.underlying39 hi hz0 hz1 hz2 rfl (by omega) _ _ _ (by rfl) O5 ⟨w4.heap.size, 0, none⟩ 1 1 [Value.string X] (by rfl) (by rfl) (World.news_of_block (t := 9) (fr := (0, 0)) (heap_alloc_new w4 _)) (by simp [Value.oneCell']) (by omega) (by simp only [maxLen]; omega) (by omega) (by have := R5.lt; omega) (w4.heap.size + 1) (by simp) ?_
      intro g cap w6 O6 hgrow hat hlt6
      have hne : some gp ≠ sl.ownBlock := fun e => by have := (O5.lt gp e.symm).1; omega
      have R6 : Row w6 gp 39 #[sl] := (hgrow.block gp R5.lt hne).trans R5
      have B6 : Below gp w w6 := (B5.mono (Nat.le_of_lt hlt)).grown hgrow (by have := R5.lt; omega) (fun k hk => by have := (O5.lt k hk).1; omega)
      have q6 : w6.cell? ⟨gp, 0, none⟩ = some sl := R6.cell 0
      have f6 : w6.frozen? ⟨gp, 0, none⟩ = false := R6.free 0
      refine hK.out _ _ trivial (fun _ => ?_)
      clear hK K
      refine wpAnyH_ready (rs := [5]) (by kernel_rfl) (by simp) (AllReadyH.cons rfl (fun K hK => ?_) AllReadyH.nil)
      rw [if_pos (by rfl)]
      go_simp
      refine hK.out _ _ trivial (fun _ => ?_)
      clear hK K
      refine wpAnyH_done (by kernel_rfl) ?_ _
      have hF := put_end HXv.out hgp R6 O6 B6
      clear O6 hgrow R6 B6 O5 R5 B5 R4 O4 q4 q5 q6 f6
      go_wp2
      go_end0
      exact hF
    · rw [if_pos (by rfl)]
      go_simp
      refine HJ1.out.mono ?_
      rintro e w4 ⟨rfl, b4w⟩
      have R4 := R.stays b4w
      have O4 := own_keep O b4w
      have q4 : w4.cell? ⟨gp, 0, none⟩ = some sl := R4.cell 0
      have R5 := R4.alloc (.cells #[Value.string X] 9)
      have O5 := O4.alloc (.cells #[Value.string X] 9)
      have q5 : (w4.alloc (.cells #[Value.string X] 9)).cell? ⟨gp, 0, none⟩ = some sl := R5.cell 0
      have B5 := b4w.alloc b4w.size (.cells #[Value.string X] 9)
      go_wp2_with fail
      refine hK.out _ _ trivial (fun _ => ?_)
      clear hK K
      refine wpAnyH_ready (rs := [0, 3]) (by kernel_rfl) (by simp) (AllReadyH.cons rfl (fun K hK => ?_) (AllReadyH.cons rfl (fun K hK => ?_) AllReadyH.nil))
      · rw [if_pos (by rfl)]
        go_simp
        refine hK.out _ _ trivial (fun _ => ?_)
        clear hK K
        refine wpAnyH_ready (rs := [3]) (by kernel_rfl) (by simp) (AllReadyH.cons rfl (fun K hK => ?_) AllReadyH.nil)
        rw [if_pos (by rfl)]
        go_simp
        refine hK.out _ _ trivial (fun _ => ?_)
        clear hK K
        refine wpAnyH_ready (rs := [4]) (by kernel_rfl) (by simp) (AllReadyH.cons rfl (fun K hK => ?_) AllReadyH.nil)
        refine step_append_lies _ (by rfl) _ _ _ (by rfl) (gp + 1) 9 i0 _ 1 16 Tryz.underlying39 hi hz0 hz1 hz2 rfl (by omega) _ _ _ (by rfl) O5 ⟨w4.heap.size, 0, none⟩ 1 1 [Value.string X] (by rfl) (by rfl) (World.news_of_block (t := 9) (fr := (0, 0)) (heap_alloc_new w4 _)) (by simp [Value.oneCell']) (by omega) (by simp only [maxLen]; omega) (by omega) (by have := R5.lt; omega) (w4.heap.size + 1) (by simp) ?_
        intro g cap w6 O6 hgrow hat hlt6
        have hne : some gp ≠ sl.ownBlock := fun e => by have := (O5.lt gp e.symm).1; omega
        have R6 : Row w6 gp 39 #[sl] := (hgrow.block gp R5.lt hne).trans R5
        have B6 : Below gp w w6 := (B5.mono (Nat.le_of_lt hlt)).grown hgrow (by have := R5.lt; omega) (fun k hk => by have := (O5.lt k hk).1; omega)
        have q6 : w6.cell? ⟨gp, 0, none⟩ = some sl := R6.cell 0
        have f6 : w6.frozen? ⟨gp, 0, none⟩ = false := R6.free 0
        refine hK.out _ _ trivial (fun _ => ?_)
        clear hK K
        refine wpAnyH_ready (rs := [5]) (by kernel_rfl) (by simp) (AllReadyH.cons rfl (fun K hK => ?_) AllReadyH.nil)
        rw [if_pos (by rfl)]
        go_simp
        refine hK.out _ _ trivial (fun _ => ?_)
        clear hK K
        refine wpAnyH_done (by kernel_rfl) ?_ _
        have hF := put_end HXv.out hgp R6 O6 B6
        clear O6 hgrow R6 B6 O5 R5 B5 R4 O4 q4 q5 q6 f6
        go_wp2
        go_end0
        exact hF
      · rw [if_pos (by rfl)]
        go_simp
        refine hK.out _ _ trivial (fun _ => ?_)
        clear hK K
        refine wpAnyH_ready (rs := [0]) (by kernel_rfl) (by simp) (AllReadyH.cons rfl (fun K hK => ?_) AllReadyH.nil)
        rw [if_pos (by rfl)]
        go_simp
        refine hK.out _ _ trivial (fun _ => ?_)
        clear hK K
        refine wpAnyH_ready (rs := [4]) (by kernel_rfl) (by simp) (AllReadyH.cons rfl (fun K hK => ?_) AllReadyH.nil)
        refine step_append_lies _ (by rfl) _ _ _ (by rfl) (gp + 1) 9 i0 _ 1 16 Tryz.underlying39 hi hz0 hz1 hz2 rfl (by omega) _ _ _ (by rfl) O5 ⟨w4.heap.size, 0, none⟩ 1 1 [Value.string X] (by rfl) (by rfl) (World.news_of_block (t := 9) (fr := (0, 0)) (heap_alloc_new w4 _)) (by simp [Value.oneCell']) (by omega) (by simp only [maxLen]; omega) (by omega) (by have := R5.lt; omega) (w4.heap.size + 1) (by simp) ?_
        intro g cap w6 O6 hgrow hat hlt6
        have hne : some gp ≠ sl.ownBlock := fun e => by have := (O5.lt gp e.symm).1; omega
        have R6 : Row w6 gp 39 #[sl] := (hgrow.block gp R5.lt hne).trans R5
        have B6 : Below gp w w6 := (B5.mono (Nat.le_of_lt hlt)).grown hgrow (by have := R5.lt; omega) (fun k hk => by have := (O5.lt k hk).1; omega)
        have q6 : w6.cell? ⟨gp, 0, none⟩ = some sl := R6.cell 0
        have f6 : w6.frozen? ⟨gp, 0, none⟩ = false := R6.free 0
        refine hK.out _ _ trivial (fun _ => ?_)
        clear hK K
        refine wpAnyH_ready (rs := [5]) (by kernel_rfl) (by simp) (AllReadyH.cons rfl (fun K hK => ?_) AllReadyH.nil)
        rw [if_pos (by rfl)]
        go_simp
        refine hK.out _ _ trivial (fun _ => ?_)
        clear hK K
        refine wpAnyH_done (by kernel_rfl) ?_ _
        have hF := put_end HXv.out hgp R6 O6 B6
        clear O6 hgrow R6 B6 O5 R5 B5 R4 O4 q4 q5 q6 f6
        go_wp2
        go_end0
        exact hF
end Go.Proofs.YtpimaobejjpffaaGreatDoor
