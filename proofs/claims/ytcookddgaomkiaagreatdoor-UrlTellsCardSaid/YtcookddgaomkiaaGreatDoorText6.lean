/- The walk of Text6. -/
import Derived.Test.YtcookddgaomkiaaGreatDoorRowText
import Derived.Test.YtcookddgaomkiaaGreatDoorNoughts
import Derived.Test.YtcookddgaomkiaaGreatDoorV6
import Derived.Deep.RegionHeld3
import Derived.Laws.Concat
namespace Go.Proofs.YtcookddgaomkiaaGreatDoor
open Go.RowKit
/-- The groups lie in their block, and all that lay in w lies as it did. -/
structure Kept6 (b : Nat) (g : List UInt16) (w w' : World) : Prop where
  row : Row w' b 69 (wordsA g)
  std : Std w'
  below : Below w.heap.size w w'
theorem Kept6.drew {b : Nat} {g : List UInt16} {w w' : World} (h : Kept6 b g w w') : Kept6 b g w w'.drew :=
  ⟨h.row.drew, h.std.below (Below.refl _ _).drew, h.below.drew⟩
theorem Kept6.on {b : Nat} {g : List UInt16} {w w' w'' : World} (h : Kept6 b g w w') (hb : Below w'.heap.size w' w'') : Kept6 b g w w'' :=
  ⟨h.row.stays hb, h.std.below hb, h.below.trans (hb.mono h.below.size)⟩
theorem rowText_kept (b : Nat) (g0 : List UInt16) (w0 : World) (o n cap : Nat) (A : Addr) (hn : o + n ≤ g0.length) (hA : 0 < n → A = ⟨b, o, none⟩) (hg : g0.length ≤ 1024) (w : World) (h : Kept6 b g0 w0 w) :
    Calls Tryz.prog 54 #[.slice (some A) n cap] w fun e w' => e = .returned (.string ⟨(Adr.rowT ((g0.drop o).take n)).toArray⟩) ∧ Kept6 b g0 w0 w' := by
  have hl : ((g0.drop o).take n).length = n := by simp; omega
  have hR : Row w b 69 (wordsA (g0.take o ++ (g0.drop o).take n ++ (g0.drop o).drop n)) := by
    rw [List.append_assoc, List.take_append_drop, List.take_append_drop]; exact h.row
  have := rowText_calls ((g0.drop o).take n) b o cap (g0.take o) ((g0.drop o).drop n) 69 w h.std (by omega) hR (by simp; omega) A (by rw [hl]; exact hA)
  rw [hl] at this
  exact this.mono fun e w' ⟨he, hb⟩ => ⟨he, h.on hb⟩
theorem slice_front (g m : Nat) (hm : m ≤ 8) (W : World) :
    (Instr.sliceAt 69 (.pointer (some ⟨g, 0, none⟩)) none (some (.int .i64 (m : Int))) none).run Tryz.prog W = .ok (.slice (some ⟨g, 0, none⟩) m 8) W := by
  have ht : Tryz.prog.underlying 69 = some (.array (Tryz.prog.arrayLen 69) (Tryz.prog.elem 69)) := by rw [lenGroups, elemGroups]; exact Tryz.underlying69
  rw [run_sliceAt_array_h W 69 ⟨g, 0, none⟩ ht .i64 (m : Int) (by omega) (by rw [lenGroups]; omega), elemGroups]
  have hs : (sizeOf 68).run Tryz.prog W = .ok 1 W := by kernel_rfl
  rw [hs, Result.andThen_ok, lenGroups, slicedAt, if_neg (by omega), Addr.add_mid]
  rfl
theorem slice_back (g l : Nat) (hl : l ≤ 8) : ∃ A : Addr, (0 < 8 - l → A = ⟨g, l, none⟩) ∧
    ∀ W, (Instr.sliceAt 69 (.pointer (some ⟨g, 0, none⟩)) (some (.int .i64 (l : Int))) none none).run Tryz.prog W = .ok (.slice (some A) (8 - l) (8 - l)) W := by
  obtain ⟨A, h1, h2⟩ := slice_tail g (8 - l) (by omega)
  refine ⟨A, fun h => ?_, fun W => ?_⟩
  · rw [h1 h]; congr 1; omega
  · have := h2 W
    rw [show 8 - ((8 - l : Nat) : Int) = (l : Int) by omega] at this
    exact this

set_option maxHeartbeats 2000000 in
theorem text6_calls (a : List UInt8) (ha : a.length = 16) (w : World) (hw : Std w) :
    Calls Tryz.prog 29 #[.agg (bytesA a)] w fun e w' => e = .returned (.string ⟨(Adr.tx6 (Adr.groups a)).toArray⟩) ∧ Below w.heap.size w w' := by
  have hgl := Adr.groups_length 8 a ha
  have HG := Lib.hid (fun W => groups_calls a ha W)
  have HA := Lib.hid (show (bytesA a).size = 16 by rw [bytesA_size, ha])
  clear ha
  have HTX := Lib.hid (show Adr.tx6 (Adr.groups a) = if Adr.nf (Adr.groups a) = Adr.nt (Adr.groups a) then Adr.rowT (Adr.groups a) else Adr.rowT ((Adr.groups a).take (Adr.nf (Adr.groups a))) ++ 58 :: 58 :: Adr.rowT ((Adr.groups a).drop (Adr.nt (Adr.groups a))) from rfl)
  generalize Adr.groups a = g at *
  have HL := Lib.hid hgl
  have HN := Lib.hid (fun W => noughts_calls g hgl W)
  obtain ⟨hn1, hn2, hn3, _⟩ := Adr.nought_facts hgl
  have hsz : (wordsA g).size = 8 := by rw [wordsA_size, hgl]
  have HZ := Lib.hid hsz
  clear hgl hsz
  have z2 := wordsA_zG
  go_enter Tryz.func29, Tryz.ntmps29
  have R0 := Row.new w 23 (bytesA a)
  have B0 := (Below.refl w.heap.size w).alloc (Nat.le_refl _) (.cells (bytesA a) 23)
  go_wp2_with (refine at_slot 6 rfl ?_; refine wpList_load_row rfl 23 _ rfl w.heap.size rfl 23 _ (0, 0) _ R0 Tryz.underlying23 rfl (by rw [HA.out]; exact infoAddr) ?_)
  generalize w.alloc (.cells (bytesA a) 23) = w0 at *
  refine (HG.out _).mono ?_
  rintro e w1 ⟨rfl, b1⟩
  have B1 := B0.trans (b1.mono B0.size)
  clear B0 R0 b1
  have s1 := B1.size
  have R1 := Row.new w1 69 (wordsA zG)
  have R2 := R1.whole (wordsA g)
  have B2 := below_setRow (B1.alloc s1 (.cells (wordsA zG) 69)) s1 (wordsA g)
  go_wp2_with (first
    | (refine wpList_store_row rfl 69 _ _ rfl w1.heap.size (wordsA g) rfl rfl 69 _ R1 (by rw [HZ.out]; exact infoGroups) (by rw [HZ.out]; rfl) (wordsA_one _) ?_)
    | (refine at_slot 9 rfl ?_; refine wpList_load_row rfl 69 _ rfl w1.heap.size rfl 69 _ (0, 0) _ R2 Tryz.underlying69 rfl (by rw [HZ.out]; exact infoGroups) ?_))
  generalize (w1.alloc (.cells (wordsA zG) 69)).setRow w1.heap.size (wordsA g) = w2 at *
  refine (HN.out _).mono ?_
  rintro e w3 ⟨rfl, b3⟩
  have K : Kept6 w1.heap.size g w w3 := by
    have R3 := R2.stays b3
    have B3 := B2.trans (b3.mono B2.size)
    exact ⟨R3, hw.below B3, B3⟩
  clear R1 R2 B1 B2 b3
  by_cases heq : Adr.nf g = Adr.nt g
  · have he : ((Adr.nf g : Int) == (Adr.nt g : Int)) = true := by rw [heq]; simp
    have HE := Lib.hid (show Adr.rowT ((g.drop 0).take 8) = Adr.tx6 g by unfold Adr.tx6; rw [if_pos heq, List.drop_zero, List.take_of_length_le (by have := HL.out; omega)])
    have HC := Lib.hid (rowText_kept w1.heap.size g w 0 8 8 ⟨w1.heap.size, 0, none⟩ (by have := HL.out; omega) (fun _ => rfl) (by have := HL.out; omega) _ K)
    rw [HE.out] at HC
    clear heq HTX
    go_wp2_with (go_at_call 54; refine HC.out.mono ?_; rintro e w4 ⟨rfl, K4⟩)
    go_ret
    exact ⟨rfl, K4.below⟩
  · have he : ((Adr.nf g : Int) == (Adr.nt g : Int)) = false := by rw [beq_eq_false_iff_ne]; omega
    have hnt : Adr.nf g + 2 ≤ Adr.nt g := by omega
    have HE := Lib.hid (show Adr.rowT ((g.drop 0).take (Adr.nf g)) ++ 58 :: 58 :: Adr.rowT ((g.drop (Adr.nt g)).take (8 - Adr.nt g)) = Adr.tx6 g by
      unfold Adr.tx6; rw [if_neg heq, List.drop_zero, List.take_of_length_le (l := g.drop (Adr.nt g)) (by rw [List.length_drop, HL.out]; exact Nat.le_refl _)])
    have hs1 := slice_front w1.heap.size (Adr.nf g) (by omega)
    obtain ⟨A, hA, hs2⟩ := slice_back w1.heap.size (Adr.nt g) hn3
    have HC1 := Lib.hid (rowText_kept w1.heap.size g w 0 (Adr.nf g) 8 ⟨w1.heap.size, 0, none⟩ (by have := HL.out; omega) (fun _ => rfl) (by have := HL.out; omega))
    have HC2 := Lib.hid (rowText_kept w1.heap.size g w (Adr.nt g) (8 - Adr.nt g) (8 - Adr.nt g) A (by have := HL.out; omega) hA (by have := HL.out; omega))
    have l1 := Adr.rowT_length ((g.drop 0).take (Adr.nf g))
    have l2 := Adr.rowT_length ((g.drop (Adr.nt g)).take (8 - Adr.nt g))
    rw [List.length_take, List.length_drop, HL.out] at l1 l2
    obtain ⟨X, hX⟩ : ∃ X : ByteArray, X = ⟨(Adr.rowT ((g.drop 0).take (Adr.nf g))).toArray⟩ := ⟨_, rfl⟩
    obtain ⟨Y, hY⟩ : ∃ Y : ByteArray, Y = ⟨(Adr.rowT ((g.drop (Adr.nt g)).take (8 - Adr.nt g))).toArray⟩ := ⟨_, rfl⟩
    have x1 : X.size ≤ 40 := by rw [hX]; show (List.toArray _).size ≤ 40; rw [List.size_toArray]; omega
    have y1 : Y.size ≤ 40 := by rw [hY]; show (List.toArray _).size ≤ 40; rw [List.size_toArray]; omega
    have xs : (X ++ ⟨#[58, 58]⟩ : ByteArray).size ≤ 42 := by rw [ByteArray.size_append]; show X.size + 2 ≤ 42; omega
    have cs : (⟨#[58, 58]⟩ : ByteArray).size = 2 := rfl
    have q1 : ¬ 9223372036854775807 < X.size + 2 := by omega
    have q2 : ¬ 9223372036854775807 < X.size + 2 + Y.size := by omega
    have HXY := Lib.hid (show X ++ ⟨#[58, 58]⟩ ++ Y = ⟨(Adr.tx6 g).toArray⟩ by rw [hX, hY, ← HE.out]; apply ByteArray.ext; simp [ByteArray.data_append])
    rw [← hX] at HC1
    rw [← hY] at HC2
    have K3 := K.drew
    clear heq HTX hX hY l1 l2 HE hn1 hn2 hn3 hnt hA
    go_wp2
    go_region_held3 (fun w' => Kept6 w1.heap.size g w w') (assumption) ((first
      | (go_at_call_of 54 (Value.slice (some ⟨w1.heap.size, 0, none⟩) (Adr.nf g) 8); refine (HC1.out _ (by assumption)).mono ?_; rintro e w4 ⟨rfl, K4⟩)
      | (go_at_call 54; refine (HC2.out _ (by assumption)).mono ?_; rintro e w4 ⟨rfl, K4⟩)))
    all_goals
      go_wp2
      go_ret
      exact ⟨ret_str HXY.out, Kept6.below (g := g) (b := w1.heap.size) (by assumption)⟩
end Go.Proofs.YtcookddgaomkiaaGreatDoor
