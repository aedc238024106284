/- Plain lemmas on cutting a list of bytes at a byte. No program is named here. -/
import Derived.Test.YtcookddgaomkiaaPlain
namespace Go.Proofs.Ytcookddgaomkiaa
namespace Oct
/-- The pieces between the bytes 'at'. -/
def split (at_ : UInt8) : List UInt8 → List (List UInt8)
  | [] => [[]]
  | c :: r => if c = at_ then [] :: split at_ r else match split at_ r with
    | [] => [[c]]
    | p :: ps => (c :: p) :: ps
theorem split_step (at_ c : UInt8) (r : List UInt8) : split at_ (c :: r) = if c = at_ then [] :: split at_ r else match split at_ r with
    | [] => [[c]]
    | p :: ps => (c :: p) :: ps := rfl
theorem split_ne (at_ : UInt8) : ∀ l, split at_ l ≠ []
  | [] => by simp [split]
  | c :: r => by
    unfold split
    split
    · simp
    · split <;> simp
theorem split_none (at_ : UInt8) : ∀ l : List UInt8, (∀ c ∈ l, c ≠ at_) → split at_ l = [l]
  | [], _ => rfl
  | c :: r, h => by
    unfold split
    rw [if_neg (h c (by simp)), split_none at_ r (fun d hd => h d (by simp [hd]))]
theorem split_cons (at_ : UInt8) (r : List UInt8) : ∀ p : List UInt8, (∀ c ∈ p, c ≠ at_) → split at_ (p ++ at_ :: r) = p :: split at_ r
  | [], _ => by simp [split]
  | c :: p, h => by
    rw [List.cons_append, split_step, if_neg (h c (by simp)), split_cons at_ r p (fun d hd => h d (by simp [hd]))]
theorem split_length (at_ : UInt8) : ∀ l : List UInt8, (split at_ l).length ≤ l.length + 1
  | [] => by simp [split]
  | c :: r => by
    have ih := split_length at_ r
    unfold split
    split
    · simp; omega
    · split
      · simp
      · rename_i h; rw [h] at ih; simp at ih ⊢; omega
/-- Behind k bytes: what has been cut, and where the open piece began. -/
structure Cut (at_ : UInt8) (l : List UInt8) (k : Nat) (done : List (List UInt8)) (from_ : Nat) : Prop where
  le : from_ ≤ k
  few : done.length ≤ k
  all : split at_ l = done ++ split at_ (l.drop from_)
  none : ∀ c ∈ (l.drop from_).take (k - from_), c ≠ at_
theorem Cut.start (at_ : UInt8) (l : List UInt8) : Cut at_ l 0 [] 0 := ⟨Nat.le_refl _, by simp, by simp, by simp⟩
theorem Cut.miss {at_ : UInt8} {l : List UInt8} {k : Nat} {done : List (List UInt8)} {f : Nat} (h : Cut at_ l k done f) (hk : k < l.length) (hne : l[k] ≠ at_) : Cut at_ l (k + 1) done f := by
  refine ⟨by have := h.le; omega, by have := h.few; omega, h.all, ?_⟩
  intro c hc
  have hf := h.le
  rw [show k + 1 - f = (k - f) + 1 by omega, List.take_succ_eq_append_getElem (by rw [List.length_drop]; omega)] at hc
  rcases List.mem_append.1 hc with hc | hc
  · exact h.none c hc
  · rw [List.mem_singleton] at hc
    rw [hc, List.getElem_drop]
    have : f + (k - f) = k := by omega
    simp only [this]
    exact hne
theorem Cut.hit {at_ : UInt8} {l : List UInt8} {k : Nat} {done : List (List UInt8)} {f : Nat} (h : Cut at_ l k done f) (hk : k < l.length) (he : l[k] = at_) : Cut at_ l (k + 1) (done ++ [(l.drop f).take (k - f)]) (k + 1) := by
  have hf := h.le
  refine ⟨Nat.le_refl _, by have := h.few; simp; omega, ?_, by simp⟩
  have e : l.drop f = (l.drop f).take (k - f) ++ at_ :: l.drop (k + 1) := by
    have e1 : (l.drop f).drop (k - f) = l.drop k := by rw [List.drop_drop]; congr 1; omega
    have e2 : l.drop k = at_ :: l.drop (k + 1) := by rw [List.drop_eq_getElem_cons hk, he]
    rw [← e2, ← e1, List.take_append_drop]
  rw [h.all, List.append_assoc]
  congr 1
  have := split_cons at_ (l.drop (k + 1)) _ h.none
  rw [← e] at this
  rw [this]; rfl
theorem Cut.done {at_ : UInt8} {l : List UInt8} {k : Nat} {done : List (List UInt8)} {f : Nat} (h : Cut at_ l k done f) (hk : l.length ≤ k) : split at_ l = done ++ [l.drop f] := by
  rw [h.all, split_none at_ (l.drop f)]
  have := h.none
  rw [List.take_of_length_le (by rw [List.length_drop]; omega)] at this
  exact this
/-- The words of a line: none, if one were empty. -/
def words (l : List UInt8) : List (List UInt8) := if [] ∈ split 32 l then [] else split 32 l
def areWords (l : List UInt8) : Bool := decide ([] ∉ split 32 l)
theorem words_no {l : List UInt8} {k : Nat} {p : List UInt8} (h : (split 32 l)[k]? = some p) (he : p = []) : words l = [] ∧ areWords l = false := by
  have hm : [] ∈ split 32 l := by rw [← he]; exact List.mem_of_getElem? h
  exact ⟨by unfold words; rw [if_pos hm], by unfold areWords; exact decide_eq_false (fun k => k hm)⟩
theorem words_yes {l : List UInt8} (h : ∀ p ∈ split 32 l, p ≠ []) : words l = split 32 l ∧ areWords l = true := by
  have hm : [] ∉ split 32 l := fun k => h [] k rfl
  exact ⟨by unfold words; rw [if_neg hm], by unfold areWords; exact decide_eq_true hm⟩
theorem split_pos (at_ : UInt8) (l : List UInt8) : 0 < (split at_ l).length := List.length_pos_iff.2 (split_ne at_ l)
theorem take_more {α : Type} {l : List α} {k : Nat} {p : α} {Q : α → Prop} (h : ∀ x ∈ l.take k, Q x) (hp : l[k]? = some p) (hq : Q p) : ∀ x ∈ l.take (k + 1), Q x := by
  intro x hx
  obtain ⟨hk, e⟩ := List.getElem?_eq_some_iff.1 hp
  rw [List.take_succ_eq_append_getElem hk] at hx
  rcases List.mem_append.1 hx with hx | hx
  · exact h x hx
  · rw [List.mem_singleton] at hx; rw [hx, e]; exact hq
/-- Without one byte 13 at its end. -/
def chop (p : List UInt8) : List UInt8 := if p.getLast? = some 13 then p.dropLast else p
/-- A text's lines. -/
def pieces (l : List UInt8) : List (List UInt8) := if (split 10 l).getLast? = some [] then (split 10 l).dropLast else split 10 l
def lines (l : List UInt8) : List (List UInt8) := (pieces l).map chop
theorem last_bytes (s : ByteArray) (h : s.size - 1 < s.size) : s.data.toList.getLast? = some s[s.size - 1] := by
  rw [List.getLast?_eq_getElem?, Array.length_toList, List.getElem?_eq_getElem (by rw [Array.length_toList]; exact h)]
  rfl
theorem chop_yes (s : ByteArray) (h : s.size - 1 < s.size) (hc : (s[s.size - 1].toNat : Int) = 13) : (⟨(chop s.data.toList).toArray⟩ : ByteArray) = s.extract 0 (s.size - 1) := by
  have e : s[s.size - 1] = 13 := eq_of_toNat (by show _ = 13; omega)
  unfold chop
  rw [last_bytes s h, e, if_pos rfl, Lib.extract_eq, List.dropLast_eq_take, Array.length_toList]
  rfl
theorem chop_no (s : ByteArray) (h : s.size - 1 < s.size) (hc : (s[s.size - 1].toNat : Int) ≠ 13) : (⟨(chop s.data.toList).toArray⟩ : ByteArray) = s := by
  unfold chop
  rw [last_bytes s h, if_neg (by intro e; apply hc; rw [Option.some.inj e]; rfl), Lib.mk_data]
theorem chop_nil (s : ByteArray) (h : s.size = 0) : (⟨(chop s.data.toList).toArray⟩ : ByteArray) = s := by
  have e := (nil_size s).2 h
  rw [e]
  show (⟨#[]⟩ : ByteArray) = s
  rw [← Lib.mk_data s, e]
theorem split_small (at_ : UInt8) : ∀ l : List UInt8, ∀ p ∈ split at_ l, p.length ≤ l.length
  | [], p, h => by simp [split] at h; simp [h]
  | c :: r, p, h => by
    have ih := split_small at_ r
    rw [split_step] at h
    split at h
    · rcases List.mem_cons.1 h with rfl | h
      · simp
      · have := ih p h; simp; omega
    · split at h
      · simp at h; simp [h]
      · rename_i q qs e
        rw [e] at ih
        rcases List.mem_cons.1 h with rfl | h
        · have := ih q (by simp); simp; omega
        · have := ih p (by simp [h]); simp; omega
/-- The first k of a list's texts chopped. -/
def half (qs : List (List UInt8)) (k : Nat) : List (List UInt8) := (qs.take k).map chop ++ qs.drop k
theorem half_zero (qs : List (List UInt8)) : half qs 0 = qs := by simp [half]
theorem half_end {qs : List (List UInt8)} {k : Nat} (h : qs.length ≤ k) : half qs k = qs.map chop := by
  unfold half; rw [List.take_of_length_le h, List.drop_eq_nil_of_le h, List.append_nil]
theorem half_at {qs : List (List UInt8)} {k : Nat} {p : List UInt8} (h : qs[k]? = some p) : (half qs k)[k]? = some p := by
  have hk := (List.getElem?_eq_some_iff.1 h).1
  unfold half
  rw [List.getElem?_append_right (by simp; omega)]
  simp only [List.length_map, List.length_take]
  rw [List.getElem?_drop, ← h]
  congr 1; omega
theorem half_set {qs : List (List UInt8)} {k : Nat} {p : List UInt8} (h : qs[k]? = some p) : (half qs k).set k (chop p) = half qs (k + 1) := by
  obtain ⟨hk, e⟩ := List.getElem?_eq_some_iff.1 h
  unfold half
  rw [List.set_append_right _ _ (by simp; omega), List.take_succ_eq_append_getElem hk, List.map_append, List.append_assoc, List.drop_eq_getElem_cons hk]
  have : k - ((qs.take k).map chop).length = 0 := by simp; omega
  rw [this, e]; rfl
theorem pieces_cut {ps : List (List UInt8)} {p : List UInt8} (hp : ps[ps.length - 1]? = some p) (he : p.isEmpty = true) : (if ps.getLast? = some [] then ps.dropLast else ps) = ps.take (ps.length - 1) := by
  rw [List.getLast?_eq_getElem?, hp, List.isEmpty_iff.1 he, if_pos rfl, List.dropLast_eq_take]
theorem pieces_all {ps : List (List UInt8)} {p : List UInt8} (hp : ps[ps.length - 1]? = some p) (he : p.isEmpty = false) : (if ps.getLast? = some [] then ps.dropLast else ps) = ps := by
  rw [List.getLast?_eq_getElem?, hp, if_neg (by intro e; rw [Option.some.inj e] at he; cases he)]
/-- The lines of the first k pieces. -/
def linesTo (ps : List (List UInt8)) (k : Nat) : List (List UInt8) := (ps.take k).map chop
theorem linesTo_zero (ps : List (List UInt8)) : linesTo ps 0 = [] := by simp [linesTo]
theorem linesTo_step {ps : List (List UInt8)} {k : Nat} {p : List UInt8} (h : ps[k]? = some p) : linesTo ps (k + 1) = linesTo ps k ++ [chop p] := by
  obtain ⟨hk, e⟩ := List.getElem?_eq_some_iff.1 h
  unfold linesTo; rw [List.take_succ_eq_append_getElem hk, List.map_append, e]; rfl
theorem linesTo_length {ps : List (List UInt8)} {k : Nat} (h : k ≤ ps.length) : (linesTo ps k).length = k := by simp [linesTo]; omega
theorem linesTo_cut {l : List UInt8} {k : Nat} (hk : k = (split 10 l).length - 1) (h : (split 10 l)[k]? = some []) : linesTo (split 10 l) k = lines l := by
  subst hk
  unfold lines pieces
  rw [pieces_cut h rfl]; rfl
theorem linesTo_all {l : List UInt8} {k : Nat} {p : List UInt8} (hk : (split 10 l).length ≤ k) (h : (split 10 l)[(split 10 l).length - 1]? = some p) (hp : p.isEmpty = false) : linesTo (split 10 l) k = lines l := by
  unfold lines pieces linesTo
  rw [pieces_all h hp, List.take_of_length_le hk]
end Oct
/-- A text's value. -/
def strV (p : List UInt8) : Value := .string ⟨p.toArray⟩
theorem strV_extract (s : ByteArray) (a b : Nat) : Value.string (s.extract a b) = strV ((s.data.toList.drop a).take (b - a)) := by
  unfold strV; rw [Lib.extract_eq]
theorem strV_end (s : ByteArray) (a b : Nat) (h : s.size ≤ b) : Value.string (s.extract a b) = strV (s.data.toList.drop a) := by
  rw [strV_extract, List.take_of_length_le]
  rw [List.length_drop, Array.length_toList]
  show s.size - a ≤ b - a
  omega
theorem strV_one (p : List UInt8) : (strV p).oneCell' = true := rfl
/-- A text of the list: its value, whether it is empty. -/
theorem text_at {ps : List (List UInt8)} {k : Nat} (hk : k < ps.length) : ∃ (p : List UInt8) (s : ByteArray), ps[k]? = some p ∧ strV p = .string s ∧ s.data.toList = p ∧ s.toList.isEmpty = p.isEmpty ∧ s.size = p.length := by
  refine ⟨ps[k], ⟨ps[k].toArray⟩, List.getElem?_eq_getElem hk, rfl, rfl, by rw [Oct.bytes_data], by show (List.toArray _).size = _; simp⟩
end Go.Proofs.Ytcookddgaomkiaa
