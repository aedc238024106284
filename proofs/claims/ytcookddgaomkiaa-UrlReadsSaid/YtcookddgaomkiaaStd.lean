/- What the library's own variable holds that is read here, and what of the library's functions is called, as plain contracts. -/
import Derived.Test.YtcookddgaomkiaaOctets
import Derived.Test.YtcookddgaomkiaaShelf
import Derived.Shelf.Vars
import Derived.HandedShaped
import Derived.Lib.IndexMore
namespace Go.Proofs.Ytcookddgaomkiaa
open Go.RowKit Go.Lib
/-- The variable of the library that is read holds some number. -/
structure Std (w : World) : Prop where
  max : ∃ m, w.cell? ⟨0, 0, none⟩ = some (.int .i64 m)
theorem Std.below {w w' : World} (h : Std w) (hb : Below w.heap.size w w') : Std w' := by
  obtain ⟨m, hm⟩ := h.max
  exact ⟨⟨m, (hb.cell (block_lt_of_cell hm)).trans hm⟩⟩
theorem below_drawn (B : Nat) (w : World) (n : Nat) : Below B w (w.drewN n) := by
  induction n with
  | zero => exact Below.refl _ _
  | succ n ih => exact ih.drew
theorem cut_calls (s sep : ByteArray) (w : World) (h : Std w) (hs : s.size ≤ 4294967280) :
    Calls Try.prog 26 #[.string s, .string sep] w fun e w' => e = .returned (.tuple #[.string ⟨(Lib.cut s.data.toList sep.data.toList).1.toArray⟩, .string ⟨(Lib.cut s.data.toList sep.data.toList).2.1.toArray⟩, .bool (Lib.cut s.data.toList sep.data.toList).2.2]) ∧ Below w.heap.size w w' := by
  obtain ⟨m, hm⟩ := h.max
  exact (Try.strings_Cut s sep m w (by omega) hm).mono fun e w' ⟨he, n, hn⟩ => ⟨he, by rw [hn]; exact below_drawn _ _ _⟩
theorem std_of {W : World} (hS : W.ShapedOpen Try.prog) : Std W :=
  ⟨cell_of_shapedOpen_int (zero := #[.int .i64 0]) (t := 3) hS (of_decide_eq_true (by kernel_rfl)) (by kernel_rfl) rfl (by kernel_rfl) (by kernel_rfl) Try.underlying3⟩
end Go.Proofs.Ytcookddgaomkiaa
