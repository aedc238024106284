/- What a law has to start from whose row lists five variables of the library, the last one of them pinned. -/
import Derived.Test.YtjfipedcjahbkaaGreatDoorArrays
import Derived.Lay
namespace Go.Proofs.YtjfipedcjahbkaaGreatDoor
open Go.ChangeShapes Go.WideShapes Go.ChangeAt Go.WideMaps Go.WideElems Go.RowKit
/-- What the rows list that come to runes too. -/
def laidFive : List (String × DataW Unit) := [("math/bits.deBruijn32tab", Rows.laid_math_bits_deBruijn32tab), ("math/bits.deBruijn64tab", Rows.laid_math_bits_deBruijn64tab), ("internal/strconv.uint64pow10", Rows.laid_internal_strconv_uint64pow10), ("unicode/utf8.acceptRanges", Rows.laid_unicode_utf8_acceptRanges), ("unicode/utf8.first", Rows.laid_unicode_utf8_first)]
theorem std_of5 {W : World} (hL : laidMetH Tryz.prog laidFive W) (hS : W.ShapedOpen Tryz.prog) : Std W := by
  rw [MakeChecks.laidMetH_plain _ _ _ (by kernel_rfl)] at hL
  have h2 : laidMet Tryz.prog (("math/bits.deBruijn64tab", Rows.laid_math_bits_deBruijn64tab) :: [("internal/strconv.uint64pow10", Rows.laid_internal_strconv_uint64pow10), ("unicode/utf8.acceptRanges", Rows.laid_unicode_utf8_acceptRanges), ("unicode/utf8.first", Rows.laid_unicode_utf8_first)]) W := laidMet.tail hL
  have h3 := laidMet.tail h2
  rw [bits64] at h2
  rw [pow10] at h3
  refine ⟨cell_of_shapedOpen_int (zero := #[.int .i64 0]) (t := 3) hS (of_decide_eq_true (by kernel_rfl)) (by kernel_rfl) rfl (by kernel_rfl) (by kernel_rfl) Tryz.underlying3, ?_, ?_⟩
  · exact Lib.tabIs_of_head gTen (by kernel_rfl) Tryz.underlying146 Tryz.underlying127 (by kernel_rfl) (by kernel_rfl) h3
  · have := Lib.tabIs_of_head gBits (by kernel_rfl) Tryz.underlying151 Tryz.underlying5 (by kernel_rfl) (by kernel_rfl) h2
    exact this.cell gBits 15 (by decide)
end Go.Proofs.YtjfipedcjahbkaaGreatDoor
