/- Plain lemmas on where the calls of package url cut a text. No program is named here. -/
import Derived.Test.YtcookddgaomkiaaUrlPlain
import Derived.Lib.IndexAny
import Derived.Lib.IndexMore
import Derived.Lib.IndexBytes
namespace Go.Proofs.Ytcookddgaomkiaa
namespace Ur
theorem indexAny_find : ∀ (s any : List UInt8), Lib.indexAny s any = if find s any < s.length then (find s any : Int) else -1
  | [], any => by unfold find; simp [Lib.indexAny]
  | c :: r, any => by
    have ih := indexAny_find r any
    have hf : find (c :: r) any = if any.contains c then 0 else find r any + 1 := by
      unfold find
      rw [List.findIdx_cons]
      cases any.contains c <;> rfl
    unfold Lib.indexAny
    rw [hf, ih]
    cases any.contains c with
    | true => simp
    | false =>
      have hle := find_le r any
      by_cases h : find r any < r.length
      · simp [h]
        try omega
      · simp [h]
/-- Where one of them is found, or none. -/
theorem indexAny_at {s some : List UInt8} (h : Lib.indexAny s some < 0) : s.take (find s some) = s ∧ s.drop (find s some) = [] := by
  have hle := find_le s some
  rw [indexAny_find] at h
  split at h
  · omega
  · have e : find s some = s.length := by omega
    rw [e, List.take_length, List.drop_length]
    exact ⟨rfl, rfl⟩
theorem indexAny_hits {s some : List UInt8} (h : ¬ Lib.indexAny s some < 0) : Lib.indexAny s some = (find s some : Int) ∧ find s some < s.length := by
  rw [indexAny_find] at h ⊢
  split
  · rename_i k; exact ⟨rfl, k⟩
  · rename_i k; rw [if_neg k] at h; omega
/-! ### The scheme -/
def folded (s b : List UInt8) : Bool := decide (b.length ≤ s.length) && Oct.sameB (s.take b.length) b
theorem folded_http (s : List UInt8) : folded s http = decide ((s.take 7).map Oct.low = http) := by
  unfold folded Oct.sameB
  have e : http.map Oct.low = http := by decide
  have el : http.length = 7 := rfl
  rw [e, el, Bool.eq_iff_iff]
  simp only [Bool.and_eq_true, decide_eq_true_eq]
  refine ⟨fun h => h.2, fun h => ⟨?_, h⟩⟩
  have := congrArg List.length h
  rw [List.length_map, List.length_take, el] at this
  omega
theorem folded_https (s : List UInt8) : folded s https = decide ((s.take 8).map Oct.low = https) := by
  unfold folded Oct.sameB
  have e : https.map Oct.low = https := by decide
  have el : https.length = 8 := rfl
  rw [e, el, Bool.eq_iff_iff]
  simp only [Bool.and_eq_true, decide_eq_true_eq]
  refine ⟨fun h => h.2, fun h => ⟨?_, h⟩⟩
  have := congrArg List.length h
  rw [List.length_map, List.length_take, el] at this
  omega
theorem scheme_is (s : List UInt8) : scheme s = if folded s http = true then some (false, s.drop 7) else if folded s https = true then some (true, s.drop 8) else none := by
  unfold scheme
  rw [folded_http, folded_https]
  simp only [decide_eq_true_eq]
/-- What cutScheme answers. -/
def secure? (s : List UInt8) : Bool := match scheme s with | some (b, _) => b | none => false
def rest? (s : List UInt8) : List UInt8 := match scheme s with | some (_, r) => r | none => []
/-! ### The host -/
theorem endOf_plain {pl : List UInt8} (h : pl.head? ≠ some 91) : endOf pl = find pl [58] := by unfold endOf; rw [if_neg h]
theorem cut_find (l : List UInt8) (c : UInt8) : Lib.cut l [c] = if find l [c] < l.length then (l.take (find l [c]), l.drop (find l [c] + 1), true) else (l, [], false) := by
  unfold Lib.cut
  rw [Lib.index_one, ← Lib.indexAny_one, indexAny_find]
  by_cases h : find l [c] < l.length
  · rw [if_pos h, if_pos h, if_pos (by omega), Int.toNat_natCast]; rfl
  · rw [if_neg h, if_neg h, if_neg (by omega)]
theorem bracket_none {pl : List UInt8} (h : pl.head? = some 91) (hc : (Lib.cut pl [93]).2.2 = false) : pl.take (endOf pl) = pl ∧ pl.drop (endOf pl) = [] := by
  rw [cut_find] at hc
  split at hc
  · cases hc
  · have hle := find_le pl [93]
    have e : endOf pl = pl.length := by unfold endOf; rw [if_pos h]; omega
    rw [e, List.take_length, List.drop_length]
    exact ⟨rfl, rfl⟩
theorem bracket_some {pl : List UInt8} (h : pl.head? = some 91) (hc : (Lib.cut pl [93]).2.2 = true) : pl.take (endOf pl) = (Lib.cut pl [93]).1 ++ [93] ∧ pl.drop (endOf pl) = (Lib.cut pl [93]).2.1 := by
  rw [cut_find] at hc ⊢
  split at hc
  · rename_i hl
    have e : endOf pl = find pl [93] + 1 := by unfold endOf; rw [if_pos h]; omega
    rw [if_pos hl, e]
    refine ⟨?_, rfl⟩
    have hg : pl[find pl [93]]? = some 93 := by
      unfold find at hl ⊢
      rw [List.getElem?_eq_getElem hl]
      have := List.findIdx_getElem (w := hl)
      have h2 : ([93] : List UInt8).contains (pl[List.findIdx (fun c => ([93] : List UInt8).contains c) pl]'hl) = true := this
      rw [List.contains_iff_mem, List.mem_singleton] at h2
      rw [h2]
    rw [List.take_add_one, hg]; rfl
  · cases hc
/-! ### The port -/
theorem port_named {b : List UInt8} (secure : Bool) (h : b.head? = some 58) : portOf secure b = if Oct.isNum b.tail = true ∧ 1 ≤ Oct.number b.tail ∧ Oct.number b.tail ≤ 65535 then some (Oct.number b.tail : Int) else none := by
  unfold portOf
  rw [if_neg (by rintro rfl; cases h)]
theorem port_none {b : List UInt8} (secure : Bool) (h : b = []) : portOf secure b = some (usual secure) := by
  unfold portOf; rw [if_pos h]
end Ur
end Go.Proofs.Ytcookddgaomkiaa
