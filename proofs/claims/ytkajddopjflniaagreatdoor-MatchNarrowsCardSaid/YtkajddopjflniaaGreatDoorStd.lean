/- What the library's own variables hold, and what of the library's functions is called here, as plain contracts. -/
import Derived.Test.YtkajddopjflniaaGreatDoorOctets
import Derived.Test.YtkajddopjflniaaGreatDoorShelf
import Derived.Lib.SmallJoins
namespace Go.Proofs.YtkajddopjflniaaGreatDoor
open Go.RowKit Go.Lib
/-- The variables of the library that are read hold what they are laid with; one of them holds some number. -/
structure Std (w : World) : Prop where
  max : ∃ m, w.cell? ⟨0, 0, none⟩ = some (.int .i64 m)
  ten : Lib.TabIs Tryz.prog w "internal/strconv.uint64pow10" .u64 Lib.pow10Tab
  bits : w.cell? ⟨3, 15, none⟩ = some (.int .u8 4)
theorem gTen : Tryz.prog.globalNamed "internal/strconv.uint64pow10" = some 1 := by kernel_rfl
theorem Std.below {w w' : World} (h : Std w) (hb : Below w.heap.size w w') : Std w' := by
  obtain ⟨⟨m, hm⟩, ht, hb4⟩ := h
  exact ⟨⟨m, (hb.cell (block_lt_of_cell hm)).trans hm⟩, Go.Joins.tab_stays gTen ht hb (Nat.le_refl _), (hb.cell (block_lt_of_cell hb4)).trans hb4⟩
theorem below_drawn (B : Nat) (w : World) (n : Nat) : Below B w (w.drewN n) := by
  induction n with
  | zero => exact Below.refl _ _
  | succ n ih => exact ih.drew
theorem below_grow {B : Nat} {a w : World} (h : Below B a w) (hB : B ≤ w.heap.size) (os : Array Obj) : Below B a (Sort.grow w os) := by
  refine ⟨h.os, h.tape, h.output, Nat.le_trans h.size ?_, fun i hi => ?_⟩
  · simp [Sort.grow]
  · rw [← h.block i hi]
    simp only [Sort.grow]
    rw [Array.getElem?_append_left (by omega)]
theorem cut_calls (s sep : ByteArray) (w : World) (h : Std w) (hs : s.size ≤ 4294967280) :
    Calls Tryz.prog 82 #[.string s, .string sep] w fun e w' => e = .returned (.tuple #[.string ⟨(Lib.cut s.data.toList sep.data.toList).1.toArray⟩, .string ⟨(Lib.cut s.data.toList sep.data.toList).2.1.toArray⟩, .bool (Lib.cut s.data.toList sep.data.toList).2.2]) ∧ Below w.heap.size w w' := by
  obtain ⟨m, hm⟩ := h.max
  exact (Tryz.strings_Cut s sep m w (by omega) hm).mono fun e w' ⟨he, n, hn⟩ => ⟨he, by rw [hn]; exact below_drawn _ _ _⟩
theorem itoa_calls (n : Nat) (w : World) (h : Std w) (hn : n ≤ 9223372036854775807) :
    Calls Tryz.prog 75 #[.int .i64 (n : Int)] w fun e w' => e = .returned (.string ⟨(Lib.decDigits n).toArray⟩) ∧ Below w.heap.size w w' := by
  refine (Tryz.strconv_Itoa (n : Int) (by omega) (by omega) w h.ten).mono fun e w' ⟨he, k, os, hw⟩ => ⟨?_, ?_⟩
  · rw [he, Lib.itoa_nonneg]
  · rw [hw]; exact below_grow (below_drawn _ _ _) (by have := (below_drawn w.heap.size w k).size; exact this) _
end Go.Proofs.YtkajddopjflniaaGreatDoor
