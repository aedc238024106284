/- What a law has to start from whose row lists nine variables: three of the library, package date's three tables, header's one, two of runes, the last one pinned. -/
import Derived.Test.YtpimaobejjpffaaGreatDoorEight
import Derived.Test.YtpimaobejjpffaaGreatDoorHeaderRow
namespace Go.Proofs.YtpimaobejjpffaaGreatDoor
open Go.ChangeShapes Go.WideShapes Go.ChangeAt Go.WideMaps Go.WideElems Go.RowKit
/-- What the rows list. -/
def laidNine : List (String × DataW Unit) := [("math/bits.deBruijn32tab", Rows.laid_math_bits_deBruijn32tab), ("math/bits.deBruijn64tab", Rows.laid_math_bits_deBruijn64tab), ("internal/strconv.uint64pow10", Rows.laid_internal_strconv_uint64pow10), ("unicode/utf8.acceptRanges", Rows.laid_unicode_utf8_acceptRanges), ("cracknel/date.monthLengths", Rows.laid_cracknel_date_monthLengths), ("cracknel/date.monthNames", Rows.laid_cracknel_date_monthNames), ("cracknel/date.weekDays", Rows.laid_cracknel_date_weekDays), ("cracknel/header.sameNames", Rows.laid_cracknel_header_sameNames), ("unicode/utf8.first", Rows.laid_unicode_utf8_first)]
theorem laidFour : Rows.laid_cracknel_header_sameNames (H := Unit) = .agg (Hd.words4.map fun s => .lit (.string s)) := by rfl
theorem hal_of {W : World} (hL : laidMetH Tryz.prog laidNine W) (hS : W.ShapedOpen Tryz.prog) : Hal W := by
  rw [MakeChecks.laidMetH_plain _ _ _ (by kernel_rfl)] at hL
  have h2 : laidMet Tryz.prog (("math/bits.deBruijn64tab", Rows.laid_math_bits_deBruijn64tab) :: [("internal/strconv.uint64pow10", Rows.laid_internal_strconv_uint64pow10), ("unicode/utf8.acceptRanges", Rows.laid_unicode_utf8_acceptRanges), ("cracknel/date.monthLengths", Rows.laid_cracknel_date_monthLengths), ("cracknel/date.monthNames", Rows.laid_cracknel_date_monthNames), ("cracknel/date.weekDays", Rows.laid_cracknel_date_weekDays), ("cracknel/header.sameNames", Rows.laid_cracknel_header_sameNames), ("unicode/utf8.first", Rows.laid_unicode_utf8_first)]) W := laidMet.tail hL
  have h3 := laidMet.tail h2
  have h5 := laidMet.tail (laidMet.tail h3)
  have h6 := laidMet.tail h5
  have h7 := laidMet.tail h6
  have h8 := laidMet.tail h7
  rw [bits64] at h2
  rw [pow10] at h3
  rw [lens12] at h5
  rw [laidNames] at h6
  rw [laidWeek] at h7
  rw [laidFour] at h8
  refine ⟨⟨⟨cell_of_shapedOpen_int (zero := #[.int .i64 0]) (t := 3) hS (of_decide_eq_true (by kernel_rfl)) (by kernel_rfl) rfl (by kernel_rfl) (by kernel_rfl) Tryz.underlying3, ?_, ?_⟩, ?_, ?_, ?_⟩, ?_⟩
  · exact Lib.tabIs_of_head gTen (by kernel_rfl) Tryz.underlying120 Tryz.underlying100 (by kernel_rfl) (by kernel_rfl) h3
  · have := Lib.tabIs_of_head gBits (by kernel_rfl) Tryz.underlying129 Tryz.underlying5 (by kernel_rfl) (by kernel_rfl) h2
    exact this.cell gBits 15 (by decide)
  · exact Lib.tabIs_of_head gLens (by kernel_rfl) Tryz.underlying118 Tryz.underlying3 (by kernel_rfl) (by kernel_rfl) h5
  · exact var_of_strs gNames (by kernel_rfl) Tryz.underlying85 Tryz.underlying9 (by kernel_rfl) (by kernel_rfl) h6
  · exact var_of_strs gWeek (by kernel_rfl) Tryz.underlying84 Tryz.underlying9 (by kernel_rfl) (by kernel_rfl) h7
  · exact var_of_strs gSame (by kernel_rfl) Tryz.underlying70 Tryz.underlying9 (by kernel_rfl) (by kernel_rfl) h8
end Go.Proofs.YtpimaobejjpffaaGreatDoor
