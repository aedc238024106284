/- What a law has to start from whose row lists eight variables: three of the library, the package's own three tables, two of runes, the last one pinned. -/
import Derived.Test.YtpimaobejjpffaaGreatDoorArrays
import Derived.Test.YtpimaobejjpffaaGreatDoorCal
import Derived.Lay
namespace Go.Proofs.YtpimaobejjpffaaGreatDoor
open Go.ChangeShapes Go.WideShapes Go.ChangeAt Go.WideMaps Go.WideElems Go.RowKit
/-- An array of texts that reads as these holds these. -/
theorem cells_of_strs {H : Type} {enc : TypeId × Value → H} {P : Program} {w : World} {base : Nat} {sp : Nat → Bool} {held : Bool} {fuel : Nat} {t e : TypeId} {n : Nat} {cs : List Value} {ss : List (List UInt8)} {p : List MemPlace}
    (ht : P.underlying t = some (.array n e)) (he : P.underlying e = some .string) (hce : P.cellsOf e = 1) (hct : P.cellsOf t = n)
    (h : DataW.trod enc P w base sp held fuel t cs = some (.agg (ss.map fun s => .lit (.string s)), p)) : cs = ss.map strV := by
  cases fuel with
  | zero => simp [DataW.trod] at h
  | succ fuel =>
    simp only [DataW.trod, ht, hce, hct, Nat.mul_one] at h
    split at h
    · rename_i hl
      obtain ⟨xs, hm, hx⟩ := Option.map_eq_some_iff.1 h
      have hxs : xs.map (·.1) = ss.map fun s => (DataW.lit (.string s) : DataW H) := by
        have := congrArg Prod.fst hx
        simpa using this
      have hxl : xs.length = n := by simpa using Lib.mapM_length hm
      have hzl : ss.length = n := by
        have := congrArg List.length hxs
        simp at this
        omega
      apply List.ext_getElem?
      intro i
      by_cases hi : i < n
      · obtain ⟨b, hb, hf⟩ := Lib.mapM_at hm i i (by simp [hi])
        obtain ⟨s, hc, rfl, _⟩ := DataW.trod_string he hf
        have h1 : cs[i]? = some (.string s) := by
          have := congrArg (·[0]?) hc
          simpa [List.getElem?_take, List.getElem?_drop] using this
        have h2 : (xs.map (·.1))[i]? = some (DataW.lit (.string s.data.toList) : DataW H) := by simp [hb]
        rw [hxs] at h2
        simp only [List.getElem?_map, Option.map_eq_some_iff, DataW.lit.injEq, Lit.string.injEq] at h2
        obtain ⟨s', hs', e1⟩ := h2
        rw [h1, List.getElem?_map, hs', e1]
        rfl
      · rw [List.getElem?_eq_none (by omega), List.getElem?_eq_none (by simp; omega)]
    · cases h
theorem var_of_strs {P : Program} {W : World} {name : String} {ss : List (List UInt8)} {rest : List (String × DataW Unit)} {g : Nat} {t e : TypeId} {n : Nat}
    (hg : P.globalNamed name = some g) (hty : (P.globals[g]?).map (·.type) = some t) (ht : P.underlying t = some (.array n e)) (he : P.underlying e = some .string) (hce : P.cellsOf e = 1) (hct : P.cellsOf t = n)
    (h : laidMet P ((name, .agg (ss.map fun s => .lit (.string s))) :: rest) W) : W.var? P name = some (textsA ss) := by
  obtain ⟨ps, ⟨g', t', cs, fuel, p, q, hg', ht', hvar, hd, _, _⟩, _⟩ := h
  obtain rfl := Option.some.inj (hg.symm.trans hg')
  obtain rfl := Option.some.inj (hty.symm.trans ht')
  have hc := cells_of_strs ht he hce hct hd
  rw [hvar]
  unfold textsA
  rw [← hc]
/-- What the rows list. -/
def laidEight : List (String × DataW Unit) := [("math/bits.deBruijn32tab", Rows.laid_math_bits_deBruijn32tab), ("math/bits.deBruijn64tab", Rows.laid_math_bits_deBruijn64tab), ("internal/strconv.uint64pow10", Rows.laid_internal_strconv_uint64pow10), ("unicode/utf8.acceptRanges", Rows.laid_unicode_utf8_acceptRanges), ("cracknel/date.monthLengths", Rows.laid_cracknel_date_monthLengths), ("cracknel/date.monthNames", Rows.laid_cracknel_date_monthNames), ("cracknel/date.weekDays", Rows.laid_cracknel_date_weekDays), ("unicode/utf8.first", Rows.laid_unicode_utf8_first)]
theorem lens12 : Rows.laid_cracknel_date_monthLengths = Lib.tabData (H := Unit) .i64 monthTab := by rfl
theorem laidNames : Rows.laid_cracknel_date_monthNames (H := Unit) = .agg (Dt.mnames.map fun s => .lit (.string s)) := by rfl
theorem laidWeek : Rows.laid_cracknel_date_weekDays (H := Unit) = .agg (Dt.wdays.map fun s => .lit (.string s)) := by rfl
theorem cal_of {W : World} (hL : laidMetH Tryz.prog laidEight W) (hS : W.ShapedOpen Tryz.prog) : Cal W := by
  rw [MakeChecks.laidMetH_plain _ _ _ (by kernel_rfl)] at hL
  have h2 : laidMet Tryz.prog (("math/bits.deBruijn64tab", Rows.laid_math_bits_deBruijn64tab) :: [("internal/strconv.uint64pow10", Rows.laid_internal_strconv_uint64pow10), ("unicode/utf8.acceptRanges", Rows.laid_unicode_utf8_acceptRanges), ("cracknel/date.monthLengths", Rows.laid_cracknel_date_monthLengths), ("cracknel/date.monthNames", Rows.laid_cracknel_date_monthNames), ("cracknel/date.weekDays", Rows.laid_cracknel_date_weekDays), ("unicode/utf8.first", Rows.laid_unicode_utf8_first)]) W := laidMet.tail hL
  have h3 := laidMet.tail h2
  have h5 := laidMet.tail (laidMet.tail h3)
  have h6 := laidMet.tail h5
  have h7 := laidMet.tail h6
  rw [bits64] at h2
  rw [pow10] at h3
  rw [lens12] at h5
  rw [laidNames] at h6
  rw [laidWeek] at h7
  refine ⟨⟨cell_of_shapedOpen_int (zero := #[.int .i64 0]) (t := 3) hS (of_decide_eq_true (by kernel_rfl)) (by kernel_rfl) rfl (by kernel_rfl) (by kernel_rfl) Tryz.underlying3, ?_, ?_⟩, ?_, ?_, ?_⟩
  · exact Lib.tabIs_of_head gTen (by kernel_rfl) Tryz.underlying120 Tryz.underlying100 (by kernel_rfl) (by kernel_rfl) h3
  · have := Lib.tabIs_of_head gBits (by kernel_rfl) Tryz.underlying129 Tryz.underlying5 (by kernel_rfl) (by kernel_rfl) h2
    exact this.cell gBits 15 (by decide)
  · exact Lib.tabIs_of_head gLens (by kernel_rfl) Tryz.underlying118 Tryz.underlying3 (by kernel_rfl) (by kernel_rfl) h5
  · exact var_of_strs gNames (by kernel_rfl) Tryz.underlying85 Tryz.underlying9 (by kernel_rfl) (by kernel_rfl) h6
  · exact var_of_strs gWeek (by kernel_rfl) Tryz.underlying84 Tryz.underlying9 (by kernel_rfl) (by kernel_rfl) h7
end Go.Proofs.YtpimaobejjpffaaGreatDoor
