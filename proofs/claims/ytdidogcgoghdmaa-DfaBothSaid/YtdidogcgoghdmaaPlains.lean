/- Plain functions on lists of bytes, and plain lemmas on them: what the calls of package octet answer. No program is named here. -/
import Derived.WalkKit
import Derived.Lib.Strings
import Derived.Lib.IndexMore
import Derived.Lib.Join
import Derived.Lib.ItoaNum
import Derived.Laws.BitsAllLaws
import Derived.Lib.IndexAny
import Derived.Lib.IndexBytes
import Derived.Laws.RangeAny
import Derived.Lib.SlTrimSet
namespace Go.Proofs.Ytdidogcgoghdmaa
namespace Oct

/-- A small letter in the place of a great one. -/
def low (c : UInt8) : UInt8 := if 65 ≤ c.toNat ∧ c.toNat ≤ 90 then c + 32 else c
def blankB (c : UInt8) : Bool := decide (c.toNat = 32 ∨ c.toNat = 9)
def plainB (c : UInt8) : Bool := decide (33 ≤ c.toNat ∧ c.toNat ≤ 126 ∧ c.toNat ≠ 37)
def digitB (c : UInt8) : Bool := decide (48 ≤ c.toNat ∧ c.toNat ≤ 57)
/-- One of sixteen digits. -/
def hexd (n : Nat) : UInt8 := if n < 10 then UInt8.ofNat (48 + n) else UInt8.ofNat (55 + n)
/-- What one byte is in a word. -/
def wordOf (c : UInt8) : List UInt8 := if plainB c then [c] else [37, hexd (c.toNat / 16), hexd (c.toNat % 16)]
def word (l : List UInt8) : List UInt8 := if l = [] then [37] else l.flatMap wordOf
/-- What a hex digit counts, and whether it is one. -/
def hexV (c : UInt8) : UInt8 := if 48 ≤ c.toNat ∧ c.toNat ≤ 57 then c - 48 else if 65 ≤ c.toNat ∧ c.toNat ≤ 70 then c - 55 else 0
def hexB (c : UInt8) : Bool := decide ((48 ≤ c.toNat ∧ c.toNat ≤ 57) ∨ (65 ≤ c.toNat ∧ c.toNat ≤ 70))

/-- Not empty, and digits alone? -/
def digits (l : List UInt8) : Bool := decide (l ≠ []) && l.all digitB
/-- The number that digits are. -/
def numOf (l : List UInt8) : Nat := l.foldl (fun n c => n * 10 + (c.toNat - 48)) 0
def isNum (l : List UInt8) : Bool := digits l && decide (l.length ≤ 18) && decide (l.head? = some 48 → l.length = 1)
def number (l : List UInt8) : Nat := if isNum l then numOf l else 0

theorem eq_of_toNat {a b : UInt8} (h : a.toNat = b.toNat) : a = b := UInt8.toNat_inj.1 h
/-- The same, but for great and small letters? -/
def sameB (a b : List UInt8) : Bool := decide (a.map low = b.map low)
theorem same_len {a b : ByteArray} (h : a.size ≠ b.size) : sameB a.data.toList b.data.toList = false := by
  unfold sameB
  refine decide_eq_false fun e => h ?_
  have := congrArg List.length e
  simpa using this
theorem map_take {a b : ByteArray} {k : Nat} (ha : k < a.size) (hb : k < b.size) (h : (a.data.toList.take k).map low = (b.data.toList.take k).map low) (hc : low a[k] = low b[k]) :
    (a.data.toList.take (k + 1)).map low = (b.data.toList.take (k + 1)).map low := by
  rw [List.take_succ_eq_append_getElem (by rw [Array.length_toList]; exact ha), List.take_succ_eq_append_getElem (by rw [Array.length_toList]; exact hb), List.map_append, List.map_append, h]
  show _ ++ [low a[k]] = _ ++ [low b[k]]
  rw [hc]
theorem same_no {a b : ByteArray} {k : Nat} (ha : k < a.size) (hb : k < b.size) (hc : low a[k] ≠ low b[k]) : sameB a.data.toList b.data.toList = false := by
  unfold sameB
  refine decide_eq_false fun e => hc ?_
  have h := congrArg (fun l => l[k]?) e
  simp only [List.getElem?_map] at h
  rw [List.getElem?_eq_getElem (by rw [Array.length_toList]; exact ha), List.getElem?_eq_getElem (by rw [Array.length_toList]; exact hb)] at h
  exact Option.some.inj h
theorem same_yes {a b : ByteArray} {k : Nat} (ha : a.size ≤ k) (hb : b.size ≤ k) (h : (a.data.toList.take k).map low = (b.data.toList.take k).map low) : sameB a.data.toList b.data.toList = true := by
  unfold sameB
  rw [List.take_of_length_le (by rw [Array.length_toList]; exact ha), List.take_of_length_le (by rw [Array.length_toList]; exact hb)] at h
  exact decide_eq_true h
theorem getElem_bytes (s : ByteArray) (k : Nat) (h : k < s.size) : s.data.toList[k]'(by simpa using h) = s[k] := rfl
theorem take_snoc (s : ByteArray) (k : Nat) (h : k < s.size) : s.data.toList.take (k + 1) = s.data.toList.take k ++ [s[k]] := by
  rw [List.take_succ_eq_append_getElem (by simpa using h)]; rfl
theorem take_all (s : ByteArray) (k : Nat) (h : s.size ≤ k) : s.data.toList.take k = s.data.toList := List.take_of_length_le (by simpa using h)
theorem bytes_data (s : ByteArray) : s.toList = s.data.toList := Lib.toList_data s
theorem nil_bytes (s : ByteArray) : s.toList = [] ↔ s.data.toList = [] := by rw [bytes_data]
theorem nil_size (s : ByteArray) : s.data.toList = [] ↔ s.size = 0 := by
  rw [← List.length_eq_zero_iff, Array.length_toList]; rfl
theorem data_nil (s : ByteArray) : s.data = #[] ↔ s.size = 0 := ⟨fun h => by show s.data.size = 0; rw [h]; rfl, fun h => Array.size_eq_zero_iff.1 h⟩
theorem length_bytes (s : ByteArray) : s.data.toList.length = s.size := by rw [Array.length_toList]; rfl
theorem all_snoc {p : UInt8 → Bool} (s : ByteArray) (k : Nat) (h : k < s.size) (ha : (s.data.toList.take k).all p = true) (hp : p s[k] = true) : (s.data.toList.take (k + 1)).all p = true := by
  rw [take_snoc s k h, List.all_append, ha]; simp [hp]
theorem all_not {p : UInt8 → Bool} (s : ByteArray) (k : Nat) (h : k < s.size) (hp : p s[k] = false) : s.data.toList.all p = false := by
  rw [List.all_eq_false]
  exact ⟨s[k], by rw [← getElem_bytes s k h]; exact List.getElem_mem _, by simp [hp]⟩
theorem digits_no (s : ByteArray) (k : Nat) (h : k < s.size) (hp : digitB s[k] = false) : digits s.data.toList = false := by
  unfold digits; rw [all_not s k h hp]; simp
theorem digits_end (s : ByteArray) (k : Nat) (h : s.size ≤ k) (ha : (s.data.toList.take k).all digitB = true) : digits s.data.toList = decide (s.data.toList ≠ []) := by
  unfold digits; rw [take_all s k h] at ha; rw [ha]; simp
theorem digits_at {s : ByteArray} (h : digits s.data.toList = true) (k : Nat) (hk : k < s.size) : 48 ≤ s[k].toNat ∧ s[k].toNat ≤ 57 := by
  unfold digits at h
  rw [Bool.and_eq_true] at h
  have := (List.all_eq_true.1 h.2) s[k] (by rw [← getElem_bytes s k hk]; exact List.getElem_mem _)
  simpa [digitB] using this
theorem digits_pos {s : ByteArray} (h : digits s.data.toList = true) : 0 < s.size := by
  unfold digits at h
  rw [Bool.and_eq_true] at h
  have h1 : s.data.toList ≠ [] := by simpa using h.1
  exact Nat.pos_of_ne_zero fun e => h1 ((nil_size s).2 e)
theorem numOf_snoc (l : List UInt8) (c : UInt8) : numOf (l ++ [c]) = numOf l * 10 + (c.toNat - 48) := by simp [numOf]
theorem numOf_take (s : ByteArray) (k : Nat) (h : k < s.size) : numOf (s.data.toList.take (k + 1)) = numOf (s.data.toList.take k) * 10 + (s[k].toNat - 48) := by
  rw [take_snoc s k h, numOf_snoc]
theorem numOf_lt {s : ByteArray} (h : digits s.data.toList = true) : ∀ k, k ≤ s.size → numOf (s.data.toList.take k) < 10 ^ k
  | 0, _ => by simp [numOf]
  | k + 1, hk => by
    have ih := numOf_lt h k (by omega)
    have hd := digits_at h k (by omega)
    rw [numOf_take s k (by omega), Nat.pow_succ]
    omega
theorem numOf_small {s : ByteArray} (h : digits s.data.toList = true) (h18 : s.size ≤ 18) (k : Nat) (hk : k < s.size) : numOf (s.data.toList.take k) ≤ 99999999999999999 := by
  have h1 := numOf_lt h k (by omega)
  have h2 : 10 ^ k ≤ 10 ^ 17 := Nat.pow_le_pow_right (by omega) (by omega)
  omega
theorem head_bytes (s : ByteArray) (h : 0 < s.size) : s.data.toList.head? = some s[0] := by
  rw [List.head?_eq_getElem?, List.getElem?_eq_getElem (by rw [Array.length_toList]; exact h)]; rfl
theorem one_bytes (s : ByteArray) (h : 0 < s.size) (c : UInt8) : s.data.toList = [c] ↔ s[0] = c ∧ s.size = 1 := by
  constructor
  · intro e
    refine ⟨?_, ?_⟩
    · have := head_bytes s h
      rw [e] at this
      simpa using this.symm
    · have : s.data.toList.length = 1 := by rw [e]; rfl
      rw [Array.length_toList] at this
      exact this
  · rintro ⟨e, h1⟩
    have hl : s.data.toList.length = 1 := by rw [Array.length_toList]; exact h1
    obtain ⟨d, hd⟩ := List.length_eq_one_iff.1 hl
    have := head_bytes s h
    rw [hd] at this ⊢
    simp at this
    rw [this, e]
theorem num_long (s : ByteArray) (h : 18 < s.size) : isNum s.data.toList = false := by
  have : ¬ s.data.toList.length ≤ 18 := by rw [Array.length_toList]; show ¬ s.size ≤ 18; omega
  unfold isNum; rw [decide_eq_false this]; simp
theorem num_no (s : ByteArray) (h : digits s.data.toList = false) : isNum s.data.toList = false := by unfold isNum; rw [h]; rfl
theorem num_nought (s : ByteArray) (h : 1 < s.size) (h0 : (s[0].toNat : Int) = 48) : isNum s.data.toList = false := by
  have e : s[0] = 48 := eq_of_toNat (by show _ = 48; omega)
  have h1 := head_bytes s (by omega)
  rw [e] at h1
  have h2 : ¬ (s.data.toList.head? = some 48 → s.data.toList.length = 1) := fun k => by
    have := k h1
    rw [Array.length_toList] at this
    have : s.size = 1 := this
    omega
  unfold isNum; rw [decide_eq_false h2]; simp
theorem num_yes (s : ByteArray) (h : digits s.data.toList = true) (h18 : s.size ≤ 18) (h0 : (s[0]'(digits_pos h)).toNat = 48 → s.size = 1) : isNum s.data.toList = true := by
  have h1 := head_bytes s (digits_pos h)
  unfold isNum
  rw [h, decide_eq_true (by rw [Array.length_toList]; exact h18), decide_eq_true (by
    rw [h1, Array.length_toList]
    intro k
    have : s[0]'(digits_pos h) = 48 := by simpa using k
    exact h0 (by rw [this]; rfl))]
  rfl
theorem number_no {l : List UInt8} (h : isNum l = false) : number l = 0 := by unfold number; rw [h]; rfl
theorem number_yes {l : List UInt8} (h : isNum l = true) : number l = numOf l := by unfold number; rw [h]; rfl
theorem low_toNat (c : UInt8) : (low c).toNat = if 65 ≤ c.toNat ∧ c.toNat ≤ 90 then c.toNat + 32 else c.toNat := by
  unfold low
  split
  · rw [UInt8.toNat_add]; simp; omega
  · rfl
theorem hexd_toNat (n : Nat) (h : n < 16) : (hexd n).toNat = if n < 10 then 48 + n else 55 + n := by
  unfold hexd
  split <;> (rw [UInt8.toNat_ofNat']; omega)
theorem hexV_toNat (c : UInt8) : (hexV c).toNat = if 48 ≤ c.toNat ∧ c.toNat ≤ 57 then c.toNat - 48 else if 65 ≤ c.toNat ∧ c.toNat ≤ 70 then c.toNat - 55 else 0 := by
  unfold hexV
  have := c.toNat_lt
  split
  · rw [UInt8.toNat_sub]; simp; omega
  · split
    · rw [UInt8.toNat_sub]; simp; omega
    · rfl
/-- What the first k bytes come to. -/
def out (l : List UInt8) (k : Nat) : List UInt8 := (l.take k).flatMap wordOf
theorem out_zero (l : List UInt8) : out l 0 = [] := by simp [out]
theorem out_step (s : ByteArray) (k : Nat) (h : k < s.size) : out s.data.toList (k + 1) = out s.data.toList k ++ wordOf s[k] := by
  unfold out; rw [take_snoc s k h, List.flatMap_append]; simp
theorem out_plain (s : ByteArray) (k : Nat) (h : k < s.size) (hp : plainB s[k] = true) : out s.data.toList (k + 1) = out s.data.toList k ++ [s[k]] := by
  rw [out_step s k h]; unfold wordOf; rw [if_pos hp]
theorem out_hex (s : ByteArray) (k : Nat) (h : k < s.size) (hp : plainB s[k] = false) : out s.data.toList (k + 1) = out s.data.toList k ++ [37, hexd (s[k].toNat / 16), hexd (s[k].toNat % 16)] := by
  rw [out_step s k h]; unfold wordOf; rw [hp]; rfl
theorem wordOf_length (c : UInt8) : 1 ≤ (wordOf c).length ∧ (wordOf c).length ≤ 3 := by unfold wordOf; split <;> simp
theorem out_length (s : ByteArray) : ∀ k, k ≤ s.size → k ≤ (out s.data.toList k).length ∧ (out s.data.toList k).length ≤ 3 * k
  | 0, _ => by simp [out_zero]
  | k + 1, h => by
    have ih := out_length s k (by omega)
    have := wordOf_length s[k]
    rw [out_step s k (by omega), List.length_append]
    omega
theorem out_all (s : ByteArray) (k : Nat) (h : s.size ≤ k) (h0 : 0 < s.size) : out s.data.toList k = word s.data.toList := by
  unfold out word
  rw [take_all s k h, if_neg (fun e => by have := (nil_size s).1 e; omega)]
/-- The sixteen digits as the program's constant has them. -/
theorem digit_at : ∀ (n : Nat) (h : n < 16), (((⟨#[48, 49, 50, 51, 52, 53, 54, 55, 56, 57, 65, 66, 67, 68, 69, 70]⟩ : ByteArray)[n]'h).toNat : Int) = ((hexd n).toNat : Int) := by decide
end Oct
/-- A byte's value. -/
def byteV (c : UInt8) : Value := .int .u8 (c.toNat : Int)
theorem ret_int {k : IntKind} {a b : Int} (h : a = b) : Ending.returned (.int k a) = .returned (.int k b) := by rw [h]
theorem ret_str {a b : ByteArray} (h : a = b) : Ending.returned (.string a) = .returned (.string b) := by rw [h]
theorem ret_two {a b c d : Value} (h : a = b) (k : c = d) : Ending.returned (.tuple #[a, c]) = .returned (.tuple #[b, d]) := by rw [h, k]
theorem val_int {k : IntKind} {a b : Int} (h : a = b) : Value.int k a = .int k b := by rw [h]
theorem val_bool {a b : Bool} (h : a = b) : Value.bool a = .bool b := by rw [h]
theorem val_str {a b : ByteArray} (h : a = b) : Value.string a = .string b := by rw [h]
theorem ret_bool {a b : Bool} (h : a = b) : Ending.returned (.bool a) = .returned (.bool b) := by rw [h]
end Go.Proofs.Ytdidogcgoghdmaa
/- Plain lemmas on cutting a list of bytes at a byte. No program is named here. -/
namespace Go.Proofs.Ytdidogcgoghdmaa
namespace Oct
/-- The pieces between the bytes 'at'. -/
def split (at_ : UInt8) : List UInt8 → List (List UInt8)
  | [] => [[]]
  | c :: r => if c = at_ then [] :: split at_ r else match split at_ r with
    | [] => [[c]]
    | p :: ps => (c :: p) :: ps
theorem split_step (at_ c : UInt8) (r : List UInt8) : split at_ (c :: r) = if c = at_ then [] :: split at_ r else match split at_ r with
    | [] => [[c]]
    | p :: ps => (c :: p) :: ps := rfl
theorem split_ne (at_ : UInt8) : ∀ l, split at_ l ≠ []
  | [] => by simp [split]
  | c :: r => by
    unfold split
    split
    · simp
    · split <;> simp
theorem split_none (at_ : UInt8) : ∀ l : List UInt8, (∀ c ∈ l, c ≠ at_) → split at_ l = [l]
  | [], _ => rfl
  | c :: r, h => by
    unfold split
    rw [if_neg (h c (by simp)), split_none at_ r (fun d hd => h d (by simp [hd]))]
theorem split_cons (at_ : UInt8) (r : List UInt8) : ∀ p : List UInt8, (∀ c ∈ p, c ≠ at_) → split at_ (p ++ at_ :: r) = p :: split at_ r
  | [], _ => by simp [split]
  | c :: p, h => by
    rw [List.cons_append, split_step, if_neg (h c (by simp)), split_cons at_ r p (fun d hd => h d (by simp [hd]))]
theorem split_length (at_ : UInt8) : ∀ l : List UInt8, (split at_ l).length ≤ l.length + 1
  | [] => by simp [split]
  | c :: r => by
    have ih := split_length at_ r
    unfold split
    split
    · simp; omega
    · split
      · simp
      · rename_i h; rw [h] at ih; simp at ih ⊢; omega
/-- Behind k bytes: what has been cut, and where the open piece began. -/
structure Cut (at_ : UInt8) (l : List UInt8) (k : Nat) (done : List (List UInt8)) (from_ : Nat) : Prop where
  le : from_ ≤ k
  few : done.length ≤ k
  all : split at_ l = done ++ split at_ (l.drop from_)
  none : ∀ c ∈ (l.drop from_).take (k - from_), c ≠ at_
theorem Cut.start (at_ : UInt8) (l : List UInt8) : Cut at_ l 0 [] 0 := ⟨Nat.le_refl _, by simp, by simp, by simp⟩
theorem Cut.miss {at_ : UInt8} {l : List UInt8} {k : Nat} {done : List (List UInt8)} {f : Nat} (h : Cut at_ l k done f) (hk : k < l.length) (hne : l[k] ≠ at_) : Cut at_ l (k + 1) done f := by
  refine ⟨by have := h.le; omega, by have := h.few; omega, h.all, ?_⟩
  intro c hc
  have hf := h.le
  rw [show k + 1 - f = (k - f) + 1 by omega, List.take_succ_eq_append_getElem (by rw [List.length_drop]; omega)] at hc
  rcases List.mem_append.1 hc with hc | hc
  · exact h.none c hc
  · rw [List.mem_singleton] at hc
    rw [hc, List.getElem_drop]
    have : f + (k - f) = k := by omega
    simp only [this]
    exact hne
theorem Cut.hit {at_ : UInt8} {l : List UInt8} {k : Nat} {done : List (List UInt8)} {f : Nat} (h : Cut at_ l k done f) (hk : k < l.length) (he : l[k] = at_) : Cut at_ l (k + 1) (done ++ [(l.drop f).take (k - f)]) (k + 1) := by
  have hf := h.le
  refine ⟨Nat.le_refl _, by have := h.few; simp; omega, ?_, by simp⟩
  have e : l.drop f = (l.drop f).take (k - f) ++ at_ :: l.drop (k + 1) := by
    have e1 : (l.drop f).drop (k - f) = l.drop k := by rw [List.drop_drop]; congr 1; omega
    have e2 : l.drop k = at_ :: l.drop (k + 1) := by rw [List.drop_eq_getElem_cons hk, he]
    rw [← e2, ← e1, List.take_append_drop]
  rw [h.all, List.append_assoc]
  congr 1
  have := split_cons at_ (l.drop (k + 1)) _ h.none
  rw [← e] at this
  rw [this]; rfl
theorem Cut.done {at_ : UInt8} {l : List UInt8} {k : Nat} {done : List (List UInt8)} {f : Nat} (h : Cut at_ l k done f) (hk : l.length ≤ k) : split at_ l = done ++ [l.drop f] := by
  rw [h.all, split_none at_ (l.drop f)]
  have := h.none
  rw [List.take_of_length_le (by rw [List.length_drop]; omega)] at this
  exact this
/-- The words of a line: none, if one were empty. -/
def words (l : List UInt8) : List (List UInt8) := if [] ∈ split 32 l then [] else split 32 l
def areWords (l : List UInt8) : Bool := decide ([] ∉ split 32 l)
theorem words_no {l : List UInt8} {k : Nat} {p : List UInt8} (h : (split 32 l)[k]? = some p) (he : p = []) : words l = [] ∧ areWords l = false := by
  have hm : [] ∈ split 32 l := by rw [← he]; exact List.mem_of_getElem? h
  exact ⟨by unfold words; rw [if_pos hm], by unfold areWords; exact decide_eq_false (fun k => k hm)⟩
theorem words_yes {l : List UInt8} (h : ∀ p ∈ split 32 l, p ≠ []) : words l = split 32 l ∧ areWords l = true := by
  have hm : [] ∉ split 32 l := fun k => h [] k rfl
  exact ⟨by unfold words; rw [if_neg hm], by unfold areWords; exact decide_eq_true hm⟩
theorem split_pos (at_ : UInt8) (l : List UInt8) : 0 < (split at_ l).length := List.length_pos_iff.2 (split_ne at_ l)
theorem take_more {α : Type} {l : List α} {k : Nat} {p : α} {Q : α → Prop} (h : ∀ x ∈ l.take k, Q x) (hp : l[k]? = some p) (hq : Q p) : ∀ x ∈ l.take (k + 1), Q x := by
  intro x hx
  obtain ⟨hk, e⟩ := List.getElem?_eq_some_iff.1 hp
  rw [List.take_succ_eq_append_getElem hk] at hx
  rcases List.mem_append.1 hx with hx | hx
  · exact h x hx
  · rw [List.mem_singleton] at hx; rw [hx, e]; exact hq
/-- Without one byte 13 at its end. -/
def chop (p : List UInt8) : List UInt8 := if p.getLast? = some 13 then p.dropLast else p
/-- A text's lines. -/
def pieces (l : List UInt8) : List (List UInt8) := if (split 10 l).getLast? = some [] then (split 10 l).dropLast else split 10 l
def lines (l : List UInt8) : List (List UInt8) := (pieces l).map chop
theorem last_bytes (s : ByteArray) (h : s.size - 1 < s.size) : s.data.toList.getLast? = some s[s.size - 1] := by
  rw [List.getLast?_eq_getElem?, Array.length_toList, List.getElem?_eq_getElem (by rw [Array.length_toList]; exact h)]
  rfl
theorem chop_yes (s : ByteArray) (h : s.size - 1 < s.size) (hc : (s[s.size - 1].toNat : Int) = 13) : (⟨(chop s.data.toList).toArray⟩ : ByteArray) = s.extract 0 (s.size - 1) := by
  have e : s[s.size - 1] = 13 := eq_of_toNat (by show _ = 13; omega)
  unfold chop
  rw [last_bytes s h, e, if_pos rfl, Lib.extract_eq, List.dropLast_eq_take, Array.length_toList]
  rfl
theorem chop_no (s : ByteArray) (h : s.size - 1 < s.size) (hc : (s[s.size - 1].toNat : Int) ≠ 13) : (⟨(chop s.data.toList).toArray⟩ : ByteArray) = s := by
  unfold chop
  rw [last_bytes s h, if_neg (by intro e; apply hc; rw [Option.some.inj e]; rfl), Lib.mk_data]
theorem chop_nil (s : ByteArray) (h : s.size = 0) : (⟨(chop s.data.toList).toArray⟩ : ByteArray) = s := by
  have e := (nil_size s).2 h
  rw [e]
  show (⟨#[]⟩ : ByteArray) = s
  rw [← Lib.mk_data s, e]
theorem split_small (at_ : UInt8) : ∀ l : List UInt8, ∀ p ∈ split at_ l, p.length ≤ l.length
  | [], p, h => by simp [split] at h; simp [h]
  | c :: r, p, h => by
    have ih := split_small at_ r
    rw [split_step] at h
    split at h
    · rcases List.mem_cons.1 h with rfl | h
      · simp
      · have := ih p h; simp; omega
    · split at h
      · simp at h; simp [h]
      · rename_i q qs e
        rw [e] at ih
        rcases List.mem_cons.1 h with rfl | h
        · have := ih q (by simp); simp; omega
        · have := ih p (by simp [h]); simp; omega
/-- The first k of a list's texts chopped. -/
def half (qs : List (List UInt8)) (k : Nat) : List (List UInt8) := (qs.take k).map chop ++ qs.drop k
theorem half_zero (qs : List (List UInt8)) : half qs 0 = qs := by simp [half]
theorem half_end {qs : List (List UInt8)} {k : Nat} (h : qs.length ≤ k) : half qs k = qs.map chop := by
  unfold half; rw [List.take_of_length_le h, List.drop_eq_nil_of_le h, List.append_nil]
theorem half_at {qs : List (List UInt8)} {k : Nat} {p : List UInt8} (h : qs[k]? = some p) : (half qs k)[k]? = some p := by
  have hk := (List.getElem?_eq_some_iff.1 h).1
  unfold half
  rw [List.getElem?_append_right (by simp; omega)]
  simp only [List.length_map, List.length_take]
  rw [List.getElem?_drop, ← h]
  congr 1; omega
theorem half_set {qs : List (List UInt8)} {k : Nat} {p : List UInt8} (h : qs[k]? = some p) : (half qs k).set k (chop p) = half qs (k + 1) := by
  obtain ⟨hk, e⟩ := List.getElem?_eq_some_iff.1 h
  unfold half
  rw [List.set_append_right _ _ (by simp; omega), List.take_succ_eq_append_getElem hk, List.map_append, List.append_assoc, List.drop_eq_getElem_cons hk]
  have : k - ((qs.take k).map chop).length = 0 := by simp; omega
  rw [this, e]; rfl
theorem pieces_cut {ps : List (List UInt8)} {p : List UInt8} (hp : ps[ps.length - 1]? = some p) (he : p.isEmpty = true) : (if ps.getLast? = some [] then ps.dropLast else ps) = ps.take (ps.length - 1) := by
  rw [List.getLast?_eq_getElem?, hp, List.isEmpty_iff.1 he, if_pos rfl, List.dropLast_eq_take]
theorem pieces_all {ps : List (List UInt8)} {p : List UInt8} (hp : ps[ps.length - 1]? = some p) (he : p.isEmpty = false) : (if ps.getLast? = some [] then ps.dropLast else ps) = ps := by
  rw [List.getLast?_eq_getElem?, hp, if_neg (by intro e; rw [Option.some.inj e] at he; cases he)]
/-- The lines of the first k pieces. -/
def linesTo (ps : List (List UInt8)) (k : Nat) : List (List UInt8) := (ps.take k).map chop
theorem linesTo_zero (ps : List (List UInt8)) : linesTo ps 0 = [] := by simp [linesTo]
theorem linesTo_step {ps : List (List UInt8)} {k : Nat} {p : List UInt8} (h : ps[k]? = some p) : linesTo ps (k + 1) = linesTo ps k ++ [chop p] := by
  obtain ⟨hk, e⟩ := List.getElem?_eq_some_iff.1 h
  unfold linesTo; rw [List.take_succ_eq_append_getElem hk, List.map_append, e]; rfl
theorem linesTo_length {ps : List (List UInt8)} {k : Nat} (h : k ≤ ps.length) : (linesTo ps k).length = k := by simp [linesTo]; omega
theorem linesTo_cut {l : List UInt8} {k : Nat} (hk : k = (split 10 l).length - 1) (h : (split 10 l)[k]? = some []) : linesTo (split 10 l) k = lines l := by
  subst hk
  unfold lines pieces
  rw [pieces_cut h rfl]; rfl
theorem linesTo_all {l : List UInt8} {k : Nat} {p : List UInt8} (hk : (split 10 l).length ≤ k) (h : (split 10 l)[(split 10 l).length - 1]? = some p) (hp : p.isEmpty = false) : linesTo (split 10 l) k = lines l := by
  unfold lines pieces linesTo
  rw [pieces_all h hp, List.take_of_length_le hk]
end Oct
/-- A text's value. -/
def strV (p : List UInt8) : Value := .string ⟨p.toArray⟩
theorem strV_extract (s : ByteArray) (a b : Nat) : Value.string (s.extract a b) = strV ((s.data.toList.drop a).take (b - a)) := by
  unfold strV; rw [Lib.extract_eq]
theorem strV_end (s : ByteArray) (a b : Nat) (h : s.size ≤ b) : Value.string (s.extract a b) = strV (s.data.toList.drop a) := by
  rw [strV_extract, List.take_of_length_le]
  rw [List.length_drop, Array.length_toList]
  show s.size - a ≤ b - a
  omega
theorem strV_one (p : List UInt8) : (strV p).oneCell' = true := rfl
/-- A text of the list: its value, whether it is empty. -/
theorem text_at {ps : List (List UInt8)} {k : Nat} (hk : k < ps.length) : ∃ (p : List UInt8) (s : ByteArray), ps[k]? = some p ∧ strV p = .string s ∧ s.data.toList = p ∧ s.toList.isEmpty = p.isEmpty ∧ s.size = p.length := by
  refine ⟨ps[k], ⟨ps[k].toArray⟩, List.getElem?_eq_getElem hk, rfl, rfl, by rw [Oct.bytes_data], by show (List.toArray _).size = _; simp⟩
end Go.Proofs.Ytdidogcgoghdmaa
/- Plain functions on addresses: groups of sixteen bits, texts of four numbers and of eight groups. No program is named here. -/
namespace Go.Proofs.Ytdidogcgoghdmaa
namespace Adr
/-! ### Lists that are filled from the front -/
def fill {α : Type} (l : List α) (z : α) (n k : Nat) : List α := l.take k ++ List.replicate (n - k) z
theorem fill_zero {α : Type} (l : List α) (z : α) (n : Nat) : fill l z n 0 = List.replicate n z := by simp [fill]
theorem fill_end {α : Type} {l : List α} {z : α} {n : Nat} (h : l.length = n) : fill l z n n = l := by
  unfold fill; rw [List.take_of_length_le (by omega), Nat.sub_self]; simp
theorem fill_length {α : Type} {l : List α} {z : α} {n k : Nat} (h : l.length = n) (hk : k ≤ n) : (fill l z n k).length = n := by
  unfold fill; simp; omega
theorem fill_set {α : Type} {l : List α} {z v : α} {n k : Nat} (h : l.length = n) (hk : k < n) (hv : l[k]? = some v) : (fill l z n k).set k v = fill l z n (k + 1) := by
  have hv' : l[k]'(by omega) = v := by rw [List.getElem?_eq_getElem (by omega)] at hv; exact Option.some.inj hv
  unfold fill
  rw [List.set_append_right _ _ (by simp; omega), List.take_succ_eq_append_getElem (by omega), hv', List.append_assoc]
  have e1 : k - (l.take k).length = 0 := by simp; omega
  have e2 : n - k = (n - (k + 1)) + 1 := by omega
  rw [e1, e2, List.replicate_succ]; rfl
/-! ### Groups and bytes -/
def hi (x : UInt16) : UInt8 := UInt8.ofNat (x.toNat / 256)
def lo (x : UInt16) : UInt8 := UInt8.ofNat (x.toNat % 256)
def mk (a b : UInt8) : UInt16 := UInt16.ofNat (a.toNat * 256 + b.toNat)
theorem u16_lt (x : UInt16) : x.toNat < 65536 := x.toNat_lt
theorem hi_toNat (x : UInt16) : (hi x).toNat = x.toNat / 256 := by
  have := u16_lt x; unfold hi; rw [UInt8.toNat_ofNat']; omega
theorem lo_toNat (x : UInt16) : (lo x).toNat = x.toNat % 256 := by
  unfold lo; rw [UInt8.toNat_ofNat']; omega
theorem mk_toNat (a b : UInt8) : (mk a b).toNat = a.toNat * 256 + b.toNat := by
  have h1 := a.toNat_lt; have h2 := b.toNat_lt
  unfold mk; rw [UInt16.toNat_ofNat']; omega
theorem eq_of_toNat16 {a b : UInt16} (h : a.toNat = b.toNat) : a = b := UInt16.toNat_inj.1 h
theorem mk_hi_lo (x : UInt16) : mk (hi x) (lo x) = x := eq_of_toNat16 (by rw [mk_toNat, hi_toNat, lo_toNat]; omega)
theorem hi_mk (a b : UInt8) : hi (mk a b) = a := Oct.eq_of_toNat (by have := b.toNat_lt; rw [hi_toNat, mk_toNat]; omega)
theorem lo_mk (a b : UInt8) : lo (mk a b) = b := Oct.eq_of_toNat (by have := b.toNat_lt; rw [lo_toNat, mk_toNat]; omega)
/-- The groups of bytes. -/
def groups : List UInt8 → List UInt16
  | a :: b :: r => mk a b :: groups r
  | _ => []
/-- The bytes of groups. -/
def from_ : List UInt16 → List UInt8
  | [] => []
  | x :: r => hi x :: lo x :: from_ r
theorem groups_from : ∀ g, groups (from_ g) = g
  | [] => rfl
  | x :: r => by unfold from_ groups; rw [mk_hi_lo, groups_from r]
theorem from_groups : ∀ (n : Nat) (a : List UInt8), a.length = 2 * n → from_ (groups a) = a
  | 0, [], _ => rfl
  | n + 1, x :: y :: r, h => by
    simp at h
    unfold groups from_; rw [hi_mk, lo_mk, from_groups n r (by omega)]
theorem from_length : ∀ g : List UInt16, (from_ g).length = 2 * g.length
  | [] => rfl
  | x :: r => by unfold from_; simp [from_length r]; omega
theorem groups_length : ∀ (n : Nat) (a : List UInt8), a.length = 2 * n → (groups a).length = n
  | 0, [], _ => rfl
  | n + 1, x :: y :: r, h => by
    simp at h
    unfold groups; simp [groups_length n r (by omega)]
theorem from_at : ∀ (g : List UInt16) (k : Nat) (x : UInt16), g[k]? = some x → (from_ g)[2 * k]? = some (hi x) ∧ (from_ g)[2 * k + 1]? = some (lo x)
  | [], k, x, h => by simp at h
  | y :: r, 0, x, h => by simp at h; subst h; exact ⟨rfl, rfl⟩
  | y :: r, k + 1, x, h => by
    have := from_at r k x (by simpa using h)
    have e : 2 * (k + 1) = 2 * k + 1 + 1 := by omega
    unfold from_
    rw [e]
    exact this
theorem groups_at : ∀ (a : List UInt8) (k : Nat) (x y : UInt8), a[2 * k]? = some x → a[2 * k + 1]? = some y → (groups a)[k]? = some (mk x y)
  | [], k, x, y, h, _ => by simp at h
  | [c], k, x, y, _, h => by
    have : 2 * k + 1 < 1 := by simpa using (List.getElem?_eq_some_iff.1 h).1
    omega
  | c :: d :: r, 0, x, y, h1, h2 => by simp at h1 h2; subst h1; subst h2; rfl
  | c :: d :: r, k + 1, x, y, h1, h2 => by
    have e : 2 * (k + 1) = 2 * k + 1 + 1 := by omega
    rw [e] at h1 h2
    have := groups_at r k x y (by simpa using h1) (by simpa using h2)
    unfold groups
    simpa using this
theorem from_inj {g h : List UInt16} (e : from_ g = from_ h) : g = h := by rw [← groups_from g, e, groups_from]
theorem groups_inj {n : Nat} {a b : List UInt8} (ha : a.length = 2 * n) (hb : b.length = 2 * n) (e : groups a = groups b) : a = b := by
  rw [← from_groups n a ha, e, from_groups n b hb]
theorem from_zeros (n : Nat) : from_ (List.replicate n 0) = List.replicate (2 * n) 0 := by
  induction n with
  | zero => rfl
  | succ n ih =>
    rw [List.replicate_succ]
    unfold from_
    rw [ih, show 2 * (n + 1) = (2 * n + 1) + 1 by omega, List.replicate_succ, List.replicate_succ]
    rfl
/-! ### Hexadecimal digits -/
def hexB (c : UInt8) : Bool := decide ((48 ≤ c.toNat ∧ c.toNat ≤ 57) ∨ (97 ≤ c.toNat ∧ c.toNat ≤ 102) ∨ (65 ≤ c.toNat ∧ c.toNat ≤ 70))
def hexN (c : UInt8) : Nat := if 48 ≤ c.toNat ∧ c.toNat ≤ 57 then c.toNat - 48 else if 97 ≤ c.toNat ∧ c.toNat ≤ 102 then c.toNat - 87 else if 65 ≤ c.toNat ∧ c.toNat ≤ 70 then c.toNat - 55 else 0
theorem hexN_lt (c : UInt8) : hexN c < 16 := by unfold hexN; split <;> (try split) <;> (try split) <;> omega
def grpN (l : List UInt8) : Nat := l.foldl (fun n c => n * 16 + hexN c) 0
def isGrp (l : List UInt8) : Bool := decide (1 ≤ l.length ∧ l.length ≤ 4) && l.all hexB
def grp (l : List UInt8) : UInt16 := UInt16.ofNat (grpN l)
theorem grpN_snoc (l : List UInt8) (c : UInt8) : grpN (l ++ [c]) = grpN l * 16 + hexN c := by simp [grpN]
theorem grpN_from : ∀ (l : List UInt8) (n : Nat), l.foldl (fun n c => n * 16 + hexN c) n < (n + 1) * 16 ^ l.length
  | [], n => by simp
  | c :: r, n => by
    have ih := grpN_from r (n * 16 + hexN c)
    have hc := hexN_lt c
    have h2 : (n * 16 + hexN c + 1) * 16 ^ r.length ≤ (n + 1) * 16 * 16 ^ r.length := Nat.mul_le_mul_right _ (by omega)
    rw [List.foldl_cons, List.length_cons, Nat.pow_succ, Nat.mul_comm (16 ^ r.length), ← Nat.mul_assoc]
    omega
theorem grpN_lt (l : List UInt8) : grpN l < 16 ^ l.length := by
  have := grpN_from l 0
  unfold grpN; omega
theorem grp_toNat {l : List UInt8} (h : l.length ≤ 4) : (grp l).toNat = grpN l := by
  have h1 := grpN_lt l
  have h2 : 16 ^ l.length ≤ 16 ^ 4 := Nat.pow_le_pow_right (by omega) h
  unfold grp; rw [UInt16.toNat_ofNat']; omega
/-! ### Rows of groups -/
def isRow (s : List UInt8) : Bool := decide (s = []) || (Oct.split 58 s).all isGrp
def row (s : List UInt8) : List UInt16 := if s = [] then [] else (Oct.split 58 s).map grp
def fits (n : Nat) (gap : Bool) : Bool := if gap then decide (n < 8) else decide (n = 8)
/-- The groups of a text. -/
def v6 (s : List UInt8) : Option (List UInt16) :=
  if isRow (Lib.cut s [58, 58]).1 = true ∧ isRow (Lib.cut s [58, 58]).2.1 = true ∧ fits ((row (Lib.cut s [58, 58]).1).length + (row (Lib.cut s [58, 58]).2.1).length) (Lib.cut s [58, 58]).2.2 = true then
    some (row (Lib.cut s [58, 58]).1 ++ List.replicate (8 - ((row (Lib.cut s [58, 58]).1).length + (row (Lib.cut s [58, 58]).2.1).length)) 0 ++ row (Lib.cut s [58, 58]).2.1)
  else none
/-- The address of groups, or noughts. -/
def addrOf : Option (List UInt16) → List UInt8
  | some g => from_ g
  | none => List.replicate 16 0
/-! ### Four numbers -/
def okNum (p : List UInt8) : Bool := Oct.isNum p && decide (Oct.number p ≤ 255)
def v4 (s : List UInt8) : Option (List UInt8) :=
  if (Oct.split 46 s).length = 4 ∧ (Oct.split 46 s).all okNum = true then some ((Oct.split 46 s).map fun p => UInt8.ofNat (Oct.number p)) else none
def addr4 : Option (List UInt8) → List UInt8
  | some l => List.replicate 12 0 ++ l
  | none => List.replicate 16 0
end Adr
end Go.Proofs.Ytdidogcgoghdmaa
/- Numbers below 65536 as hexadecimal digits. No program is named here. -/
namespace Go.Proofs.Ytdidogcgoghdmaa
namespace Adr
/-- One of sixteen digits, as a small letter. -/
def dig (k : Nat) : UInt8 := if k < 10 then UInt8.ofNat (48 + k) else UInt8.ofNat (87 + k)
/-- The last k digits. -/
def lowD (n : Nat) : Nat → List UInt8
  | 0 => []
  | k + 1 => dig (n / 16 ^ k % 16) :: lowD n k
/-- The digits of a number below 65536. -/
def hexT (n : Nat) : List UInt8 :=
  if n < 16 then [dig n] else if n < 256 then [dig (n / 16), dig (n % 16)] else if n < 4096 then [dig (n / 256), dig (n / 16 % 16), dig (n % 16)] else [dig (n / 4096), dig (n / 256 % 16), dig (n / 16 % 16), dig (n % 16)]
theorem lowD_length (n : Nat) : ∀ k, (lowD n k).length = k
  | 0 => rfl
  | k + 1 => by unfold lowD; simp [lowD_length n k]
theorem hexT_eq {n k : Nat} (hn : n < 65536) (hk : k ≤ 3) (hu : n / 16 ^ k < 16) (hl : 0 < k → 16 ≤ n / 16 ^ (k - 1)) : hexT n = dig (n / 16 ^ k) :: lowD n k := by
  match k, hk with
  | 0, _ => simp [lowD] at *; unfold hexT; rw [if_pos hu]
  | 1, _ =>
    simp at hu hl
    unfold hexT; rw [if_neg (by omega), if_pos (by omega)]
    simp [lowD]
  | 2, _ =>
    simp at hu hl
    unfold hexT; rw [if_neg (by omega), if_neg (by omega), if_pos (by omega)]
    simp [lowD]
  | 3, _ =>
    simp at hu hl
    unfold hexT; rw [if_neg (by omega), if_neg (by omega), if_neg (by omega)]
    simp [lowD]
theorem hexT_length (n : Nat) : 1 ≤ (hexT n).length ∧ (hexT n).length ≤ 4 := by
  unfold hexT; split <;> (try split) <;> (try split) <;> simp
theorem dig_toNat (k : Nat) (h : k < 16) : (dig k).toNat = if k < 10 then 48 + k else 87 + k := by
  unfold dig; split <;> (rw [UInt8.toNat_ofNat']; omega)
theorem digit36 : ∀ (n : Nat) (h : n < 16), ((((⟨#[48, 49, 50, 51, 52, 53, 54, 55, 56, 57, 97, 98, 99, 100, 101, 102, 103, 104, 105, 106, 107, 108, 109, 110, 111, 112, 113, 114, 115, 116, 117, 118, 119, 120, 121, 122]⟩ : ByteArray)[n]'(by show n < 36; omega))).toNat : Int) = ((dig n).toNat : Int) := by decide
theorem set_front (m : Nat) (c : UInt8) (l : List UInt8) : (List.replicate (m + 1) (0 : UInt8) ++ l).set m c = List.replicate m 0 ++ c :: l := by
  rw [List.set_append_left _ _ (by simp), List.replicate_succ', List.set_append_right _ _ (by simp)]
  simp
theorem and15 (x : Nat) (hx : x < 65536) : bits .and .u64 (x : Int) 15 = ((x % 16 : Nat) : Int) := by
  have := u64_and_nat x 15 (by omega) (by omega)
  rw [show ((15 : Nat) : Int) = 15 from rfl] at this
  rw [this]
  have h : x &&& 15 = x % 16 := Nat.and_two_pow_sub_one_eq_mod x 4
  rw [h]
end Adr
end Go.Proofs.Ytdidogcgoghdmaa
/- The longest row of groups that are 0. No program is named here. -/
namespace Go.Proofs.Ytdidogcgoghdmaa
namespace Adr
/-- From, to and start, behind one group more. -/
def nstep (i : Nat) (zero : Bool) (st : Nat × Nat × Nat) : Nat × Nat × Nat :=
  if zero = false then (st.1, st.2.1, i + 1)
  else if 2 ≤ i + 1 - st.2.2 ∧ st.2.1 - st.1 < i + 1 - st.2.2 then (st.2.2, i + 1, st.2.2) else st
def nst (z : List Bool) : Nat → Nat × Nat × Nat
  | 0 => (0, 0, 0)
  | k + 1 => nstep k (z.getD k false) (nst z k)
theorem nst_le (z : List Bool) : ∀ k, (nst z k).1 ≤ (nst z k).2.1 ∧ (nst z k).2.1 ≤ k ∧ (nst z k).2.2 ≤ k
  | 0 => by simp [nst]
  | k + 1 => by
    have ih := nst_le z k
    unfold nst nstep
    split
    · simp; omega
    · split
      · simp; omega
      · omega
theorem nst_other {z : List Bool} {k : Nat} (h : z.getD k false = false) : nst z (k + 1) = ((nst z k).1, (nst z k).2.1, k + 1) := by
  show nstep k _ _ = _
  unfold nstep; rw [if_pos h]
theorem nst_longer {z : List Bool} {k : Nat} (h : z.getD k false = true) (h2 : 2 ≤ k + 1 - (nst z k).2.2 ∧ (nst z k).2.1 - (nst z k).1 < k + 1 - (nst z k).2.2) : nst z (k + 1) = ((nst z k).2.2, k + 1, (nst z k).2.2) := by
  show nstep k _ _ = _
  unfold nstep; rw [h, if_neg (by simp), if_pos h2]
theorem nst_same {z : List Bool} {k : Nat} (h : z.getD k false = true) (h2 : ¬ (2 ≤ k + 1 - (nst z k).2.2 ∧ (nst z k).2.1 - (nst z k).1 < k + 1 - (nst z k).2.2)) : nst z (k + 1) = nst z k := by
  show nstep k _ _ = _
  unfold nstep; rw [h, if_neg (by simp), if_neg h2]
/-- Which groups are 0. -/
def zeros (g : List UInt16) : List Bool := g.map fun x => decide (x = 0)
def nf (g : List UInt16) : Nat := (nst (zeros g) 8).1
def nt (g : List UInt16) : Nat := (nst (zeros g) 8).2.1
theorem zeros_at {g : List UInt16} {k : Nat} {x : UInt16} (h : g[k]? = some x) : (zeros g).getD k false = decide (x = 0) := by
  unfold zeros
  rw [List.getD_eq_getElem?_getD, List.getElem?_map, h]; rfl
/-- What the pattern of an address's noughts tells: whatever eight groups. -/
theorem pattern_facts : ∀ b0 b1 b2 b3 b4 b5 b6 b7 : Bool,
    let z := [b0, b1, b2, b3, b4, b5, b6, b7]
    let f := (nst z 8).1; let t := (nst z 8).2.1
    (f = t ∨ f + 2 ≤ t) ∧ t ≤ 8 ∧ ((List.range 8).all fun i => !(decide (f ≤ i) && decide (i < t)) || z.getD i false) = true := by decide
theorem eight {α : Type} {l : List α} (h : l.length = 8) : ∃ a b c d e f g i, l = [a, b, c, d, e, f, g, i] := by
  match l, h with
  | [a, b, c, d, e, f, g, i], _ => exact ⟨a, b, c, d, e, f, g, i, rfl⟩
theorem nought_facts {g : List UInt16} (hg : g.length = 8) : (nf g = nt g ∨ nf g + 2 ≤ nt g) ∧ nf g ≤ nt g ∧ nt g ≤ 8 ∧ ∀ i, nf g ≤ i → i < nt g → g[i]? = some 0 := by
  have hz : (zeros g).length = 8 := by unfold zeros; rw [List.length_map, hg]
  obtain ⟨a, b, c, d, e, f, k, i, hzz⟩ := eight hz
  have h := pattern_facts a b c d e f k i
  simp only at h
  rw [← hzz] at h
  refine ⟨h.1, (nst_le _ 8).1, h.2.1, fun j h1 h2 => ?_⟩
  have hj : j < 8 := by have := h.2.1; unfold nt at h2; omega
  have := List.all_eq_true.1 h.2.2 j (List.mem_range.2 hj)
  have e1 : decide ((nst (zeros g) 8).1 ≤ j) = true := decide_eq_true h1
  have e2 : decide (j < (nst (zeros g) 8).2.1) = true := decide_eq_true h2
  rw [e1, e2] at this
  simp only [Bool.and_self, Bool.not_true, Bool.false_or] at this
  obtain ⟨x, hx⟩ : ∃ x, g[j]? = some x := ⟨_, List.getElem?_eq_getElem (by omega)⟩
  rw [zeros_at hx] at this
  rw [hx, of_decide_eq_true this]
end Adr
end Go.Proofs.Ytdidogcgoghdmaa
/- What addresses are written as. No program is named here. -/
namespace Go.Proofs.Ytdidogcgoghdmaa
namespace Adr
/-- Groups with a colon between each two. -/
def rowT (g : List UInt16) : List UInt8 := Lib.join (g.map fun x => hexT x.toNat) [58]
theorem joinTail_length (sep : List UInt8) (hs : sep.length = 1) (m : Nat) : ∀ r : List (List UInt8), (∀ p ∈ r, p.length ≤ m) → (Lib.joinTail sep r).length ≤ (m + 1) * r.length
  | [], _ => by simp [Lib.joinTail]
  | p :: r, h => by
    have ih := joinTail_length sep hs m r (fun q hq => h q (by simp [hq]))
    have hp := h p (by simp)
    unfold Lib.joinTail at ih ⊢
    simp only [List.map_cons, List.flatten_cons, List.length_append, List.length_cons]
    rw [Nat.mul_add]
    omega
theorem join_length (sep : List UInt8) (hs : sep.length = 1) (m : Nat) (r : List (List UInt8)) (h : ∀ p ∈ r, p.length ≤ m) : (Lib.join r sep).length ≤ (m + 1) * r.length := by
  cases r with
  | nil => simp [Lib.join_nil]
  | cons p r =>
    rw [Lib.join_cons, List.length_append, List.length_cons]
    have h1 := joinTail_length sep hs m r (fun q hq => h q (by simp [hq]))
    have h2 := h p (by simp)
    rw [Nat.mul_add]
    omega
theorem hexes_small (g : List UInt16) : ∀ p ∈ g.map fun x => hexT x.toNat, p.length ≤ 4 := by
  intro p hp
  obtain ⟨x, _, rfl⟩ := List.mem_map.1 hp
  exact (hexT_length _).2
theorem rowT_length (g : List UInt16) : (rowT g).length ≤ 5 * g.length := by
  have := join_length [58] rfl 4 (g.map fun x => hexT x.toNat) (hexes_small g)
  rw [List.length_map] at this
  exact this
end Adr
namespace Adr
/-- What an address's groups are written as. -/
def tx6 (g : List UInt16) : List UInt8 := if nf g = nt g then rowT g else rowT (g.take (nf g)) ++ 58 :: 58 :: rowT (g.drop (nt g))
end Adr
namespace Adr
/-- Four numbers with points between. -/
def tx4 (l : List UInt8) : List UInt8 := Lib.join (l.map fun c => Lib.decDigits c.toNat) [46]
theorem decT_length (n : Nat) (h : n < 256) : (Lib.decDigits n).length ≤ 3 := by
  unfold Lib.decDigits
  split
  · simp
  · unfold Lib.decDigits
    split
    · simp
    · unfold Lib.decDigits
      split
      · simp
      · omega
theorem decs_small (l : List UInt8) : ∀ p ∈ l.map fun c => Lib.decDigits c.toNat, p.length ≤ 3 := by
  intro p hp
  obtain ⟨c, _, rfl⟩ := List.mem_map.1 hp
  exact decT_length _ c.toNat_lt
end Adr
end Go.Proofs.Ytdidogcgoghdmaa
/- What an address is written as is read as that address. No program is named here. -/
namespace Go.Proofs.Ytdidogcgoghdmaa
namespace Adr
/-! ### Pieces that are joined come apart again -/
theorem join_step (x y : List UInt8) (r : List (List UInt8)) (c : UInt8) : Lib.join (x :: y :: r) [c] = x ++ c :: Lib.join (y :: r) [c] := by
  rw [Lib.join_cons, Lib.join_cons]
  simp [Lib.joinTail]
theorem split_join (c : UInt8) : ∀ (ps : List (List UInt8)), ps ≠ [] → (∀ p ∈ ps, ∀ d ∈ p, d ≠ c) → Oct.split c (Lib.join ps [c]) = ps
  | [], h, _ => absurd rfl h
  | [x], _, h => by rw [Lib.join_one]; exact Oct.split_none c x (h x (by simp))
  | x :: y :: r, _, h => by
    rw [join_step, Oct.split_cons c _ x (h x (by simp)), split_join c (y :: r) (by simp) (fun p hp => h p (by simp [List.mem_cons.1 hp]))]
/-- A colon is followed by something that is none. -/
def Tidy (l : List UInt8) : Prop := ∀ j : Nat, l[j]? = some 58 → ∃ d, l[j + 1]? = some d ∧ d ≠ 58
theorem tidy_join : ∀ (ps : List (List UInt8)), (∀ p ∈ ps, p ≠ [] ∧ ∀ d ∈ p, d ≠ 58) → Tidy (Lib.join ps [58])
  | [], _ => fun j h => by simp [Lib.join_nil] at h
  | [x], h => fun j hj => by
    rw [Lib.join_one] at hj
    exact absurd rfl ((h x (by simp)).2 58 (List.mem_of_getElem? hj))
  | x :: y :: r, h => fun j hj => by
    have ih := tidy_join (y :: r) (fun p hp => h p (by simp [List.mem_cons.1 hp]))
    rw [join_step] at hj ⊢
    rcases Nat.lt_trichotomy j x.length with hlt | heq | hgt
    · rw [List.getElem?_append_left hlt] at hj
      exact absurd rfl ((h x (by simp)).2 58 (List.mem_of_getElem? hj))
    · subst heq
      obtain ⟨hy, hyc⟩ := h y (by simp)
      obtain ⟨d, y', rfl⟩ : ∃ d y', y = d :: y' := by
        cases y with
        | nil => exact absurd rfl hy
        | cons d y' => exact ⟨d, y', rfl⟩
      refine ⟨d, ?_, hyc d (by simp)⟩
      rw [List.getElem?_append_right (by omega), Lib.join_cons]
      simp
    · rw [List.getElem?_append_right (by omega)] at hj ⊢
      have e : j - x.length = (j - x.length - 1) + 1 := by omega
      rw [e, List.getElem?_cons_succ] at hj
      obtain ⟨d, h1, h2⟩ := ih _ hj
      refine ⟨d, ?_, h2⟩
      have e2 : j + 1 - x.length = (j - x.length - 1) + 1 + 1 := by omega
      rw [e2, List.getElem?_cons_succ]
      exact h1
/-! ### Where two colons stand -/
theorem occ_iff (s : List UInt8) (j : Nat) : Lib.occAt s [58, 58] j = true ↔ s[j]? = some 58 ∧ s[j + 1]? = some 58 := by
  unfold Lib.occAt
  rw [List.isPrefixOf_iff_prefix]
  constructor
  · rintro ⟨t, ht⟩
    have h0 := congrArg (fun l => l[0]?) ht
    have h1 := congrArg (fun l => l[1]?) ht
    simp only [List.getElem?_drop, Nat.add_zero] at h0 h1
    exact ⟨h0.symm, h1.symm⟩
  · rintro ⟨h0, h1⟩
    obtain ⟨l0, e0⟩ := List.getElem?_eq_some_iff.1 h0
    obtain ⟨l1, e1⟩ := List.getElem?_eq_some_iff.1 h1
    refine ⟨s.drop (j + 2), ?_⟩
    rw [List.drop_eq_getElem_cons l0, List.drop_eq_getElem_cons l1, e0, e1]
    rfl
theorem occ_false {s : List UInt8} {j : Nat} (h : ¬ (s[j]? = some 58 ∧ s[j + 1]? = some 58)) : Lib.occAt s [58, 58] j = false := by
  cases hb : Lib.occAt s [58, 58] j with
  | false => rfl
  | true => exact absurd ((occ_iff s j).1 hb) h
theorem cut_none {s : List UInt8} (h : ∀ j : Nat, ¬ (s[j]? = some 58 ∧ s[j + 1]? = some 58)) : Lib.cut s [58, 58] = (s, [], false) := by
  unfold Lib.cut
  rw [Lib.index_none (fun j _ => occ_false (h j))]
  rfl
theorem cut_at {b h : List UInt8} (hb : ∀ j : Nat, j < b.length → ¬ ((b ++ 58 :: 58 :: h)[j]? = some 58 ∧ (b ++ 58 :: 58 :: h)[j + 1]? = some 58)) : Lib.cut (b ++ 58 :: 58 :: h) [58, 58] = (b, h, true) := by
  unfold Lib.cut
  rw [Lib.index_first (i := b.length) (by simp) ((occ_iff _ _).2 ⟨by simp, by rw [List.getElem?_append_right (by omega)]; simp⟩) (fun j hj => occ_false (hb j hj))]
  rw [if_pos (by omega)]
  simp
/-! ### Hexadecimal digits -/
theorem hexN_dig (k : Nat) (h : k < 16) : hexN (dig k) = k := by
  unfold hexN
  rw [dig_toNat k h]
  split <;> (split <;> (try split) <;> (try split) <;> omega)
theorem hexB_dig (k : Nat) (h : k < 16) : hexB (dig k) = true := by
  unfold hexB
  rw [dig_toNat k h, decide_eq_true_eq]
  split <;> omega
theorem hexT_digs (n : Nat) (hn : n < 65536) : ∀ c ∈ hexT n, ∃ k, k < 16 ∧ c = dig k := by
  intro c hc
  unfold hexT at hc
  split at hc
  · simp at hc; exact ⟨n, by omega, hc⟩
  · split at hc
    · simp at hc
      rcases hc with rfl | rfl
      · exact ⟨_, by omega, rfl⟩
      · exact ⟨_, by omega, rfl⟩
    · split at hc
      · simp at hc
        rcases hc with rfl | rfl | rfl <;> exact ⟨_, by omega, rfl⟩
      · simp at hc
        rcases hc with rfl | rfl | rfl | rfl <;> exact ⟨_, by omega, rfl⟩
theorem grpN_hexT (n : Nat) (hn : n < 65536) : grpN (hexT n) = n := by
  unfold hexT grpN
  split
  · simp only [List.foldl]; rw [hexN_dig _ (by omega)]; omega
  · split
    · simp only [List.foldl]; rw [hexN_dig _ (by omega), hexN_dig _ (by omega)]; omega
    · split
      · simp only [List.foldl]; rw [hexN_dig _ (by omega), hexN_dig _ (by omega), hexN_dig _ (by omega)]; omega
      · simp only [List.foldl]; rw [hexN_dig _ (by omega), hexN_dig _ (by omega), hexN_dig _ (by omega), hexN_dig _ (by omega)]; omega
theorem isGrp_hexT (n : Nat) (hn : n < 65536) : isGrp (hexT n) = true := by
  unfold isGrp
  rw [decide_eq_true (hexT_length n), Bool.true_and, List.all_eq_true]
  intro c hc
  obtain ⟨k, hk, rfl⟩ := hexT_digs n hn c hc
  exact hexB_dig k hk
theorem grp_hexT (x : UInt16) : grp (hexT x.toNat) = x := by
  refine eq_of_toNat16 ?_
  rw [grp_toNat (hexT_length _).2, grpN_hexT _ (u16_lt x)]
theorem dig_colon (k : Nat) (h : k < 16) : dig k ≠ 58 := by
  intro e
  have := dig_toNat k h
  rw [e] at this
  have h58 : (58 : UInt8).toNat = 58 := rfl
  rw [h58] at this
  split at this <;> omega
theorem hexes_free (g : List UInt16) : ∀ p ∈ g.map fun x => hexT x.toNat, p ≠ [] ∧ ∀ d ∈ p, d ≠ 58 := by
  intro p hp
  obtain ⟨x, _, rfl⟩ := List.mem_map.1 hp
  refine ⟨fun e => by have := (hexT_length x.toNat).1; rw [e] at this; simp at this, fun d hd => ?_⟩
  obtain ⟨k, hk, rfl⟩ := hexT_digs _ (u16_lt x) d hd
  exact dig_colon k hk
theorem rowT_tidy (g : List UInt16) : Tidy (rowT g) := tidy_join _ (hexes_free g)
theorem rowT_nil {g : List UInt16} : rowT g = [] ↔ g = [] := by
  constructor
  · intro h
    cases g with
    | nil => rfl
    | cons x r =>
      unfold rowT at h
      rw [List.map_cons, Lib.join_cons] at h
      have := (hexT_length x.toNat).1
      have h2 := congrArg List.length h
      rw [List.length_append, List.length_nil] at h2
      omega
  · rintro rfl; rfl
theorem row_rowT (g : List UInt16) : isRow (rowT g) = true ∧ row (rowT g) = g := by
  by_cases h0 : g = []
  · subst h0; exact ⟨rfl, rfl⟩
  · have hne : rowT g ≠ [] := fun e => h0 (rowT_nil.1 e)
    have hs : Oct.split 58 (rowT g) = g.map fun x => hexT x.toNat := split_join 58 _ (by simpa using h0) (fun p hp => (hexes_free g p hp).2)
    unfold isRow row
    rw [hs, if_neg hne]
    refine ⟨?_, ?_⟩
    · rw [Bool.or_eq_true]
      right
      rw [List.all_eq_true]
      intro p hp
      obtain ⟨x, _, rfl⟩ := List.mem_map.1 hp
      exact isGrp_hexT _ (u16_lt x)
    · rw [List.map_map]
      have : (grp ∘ fun x : UInt16 => hexT x.toNat) = id := by funext x; exact grp_hexT x
      rw [this, List.map_id]
/-! ### Eight groups come back -/
theorem v6_tx6 {g : List UInt16} (hg : g.length = 8) : v6 (tx6 g) = some g := by
  obtain ⟨h1, h2, h3, hz⟩ := nought_facts hg
  unfold tx6
  split
  · have hc : Lib.cut (rowT g) [58, 58] = (rowT g, [], false) := cut_none fun j ⟨a, b⟩ => by
      obtain ⟨d, hd, hne⟩ := rowT_tidy g j a
      rw [hd] at b
      exact hne (Option.some.inj b)
    have hr := row_rowT g
    unfold v6
    rw [hc]
    simp only
    rw [hr.1, hr.2]
    have e1 : isRow [] = true := rfl
    have e2 : row [] = [] := rfl
    rw [e1, e2, if_pos ⟨rfl, rfl, by rw [hg]; rfl⟩, hg]
    simp
  · rename_i hne
    have h4 : nf g + 2 ≤ nt g := by omega
    have hc : Lib.cut (rowT (g.take (nf g)) ++ 58 :: 58 :: rowT (g.drop (nt g))) [58, 58] = (rowT (g.take (nf g)), rowT (g.drop (nt g)), true) := cut_at fun j hj ⟨a, b⟩ => by
      rw [List.getElem?_append_left hj] at a
      obtain ⟨d, hd, hnd⟩ := rowT_tidy _ j a
      have hj1 := (List.getElem?_eq_some_iff.1 hd).1
      rw [List.getElem?_append_left hj1, hd] at b
      exact hnd (Option.some.inj b)
    have hf := row_rowT (g.take (nf g))
    have hb := row_rowT (g.drop (nt g))
    unfold v6
    rw [hc]
    simp only
    rw [hf.1, hf.2, hb.1, hb.2]
    have hl : (g.take (nf g)).length + (g.drop (nt g)).length = nf g + (8 - nt g) := by rw [List.length_take, List.length_drop, hg]; omega
    rw [hl, if_pos ⟨rfl, rfl, by unfold fits; rw [if_pos rfl]; exact decide_eq_true (by omega)⟩]
    congr 1
    have hm : (g.drop (nf g)).take (nt g - nf g) = List.replicate (8 - (nf g + (8 - nt g))) 0 := by
      apply List.ext_getElem?
      intro i
      by_cases hi : i < nt g - nf g
      · rw [List.getElem?_take_of_lt hi, List.getElem?_drop, hz _ (by omega) (by omega), List.getElem?_replicate, if_pos (by omega)]
      · rw [List.getElem?_eq_none (by simp; omega), List.getElem?_eq_none (by simp; omega)]
    rw [← hm]
    have hd : g.drop (nt g) = (g.drop (nf g)).drop (nt g - nf g) := by rw [List.drop_drop]; congr 1; omega
    rw [hd, List.append_assoc, List.take_append_drop, List.take_append_drop]
/-! ### Four numbers come back -/
def decE (n : Nat) : List UInt8 :=
  if n < 10 then [UInt8.ofNat (48 + n)] else if n < 100 then [UInt8.ofNat (48 + n / 10), UInt8.ofNat (48 + n % 10)] else [UInt8.ofNat (48 + n / 100), UInt8.ofNat (48 + n / 10 % 10), UInt8.ofNat (48 + n % 10)]
theorem decE_eq (n : Nat) (h : n < 256) : Lib.decDigits n = decE n := by
  unfold decE
  split
  · rename_i h1; unfold Lib.decDigits; rw [dif_pos h1]
  · rename_i h1
    split
    · rename_i h2
      unfold Lib.decDigits; rw [dif_neg h1]; unfold Lib.decDigits; rw [dif_pos (by omega)]; rfl
    · rename_i h2
      unfold Lib.decDigits; rw [dif_neg h1]; unfold Lib.decDigits; rw [dif_neg (by omega)]; unfold Lib.decDigits; rw [dif_pos (by omega), Nat.div_div_eq_div_mul]; rfl
theorem decE_facts : ∀ n, n < 256 → okNum (decE n) = true ∧ Oct.number (decE n) = n ∧ (decE n).all (fun c => decide (c ≠ 46)) = true := by decide +kernel
theorem v4_tx4 {l : List UInt8} (hl : l.length = 4) : v4 (tx4 l) = some l := by
  have hm : (l.map fun c => Lib.decDigits c.toNat) = l.map fun c => decE c.toNat := List.map_congr_left fun c _ => decE_eq _ c.toNat_lt
  have hs : Oct.split 46 (tx4 l) = l.map fun c => decE c.toNat := by
    unfold tx4
    rw [hm]
    refine split_join 46 _ (by intro e; have := congrArg List.length e; simp [hl] at this) ?_
    intro p hp d hd
    obtain ⟨c, _, rfl⟩ := List.mem_map.1 hp
    have := List.all_eq_true.1 (decE_facts c.toNat c.toNat_lt).2.2 d hd
    exact of_decide_eq_true this
  unfold v4
  rw [hs, if_pos ⟨by rw [List.length_map, hl], by
    rw [List.all_eq_true]
    intro p hp
    obtain ⟨c, _, rfl⟩ := List.mem_map.1 hp
    exact (decE_facts c.toNat c.toNat_lt).1⟩, List.map_map]
  congr 1
  have : ((fun p => UInt8.ofNat (Oct.number p)) ∘ fun c : UInt8 => decE c.toNat) = id := by
    funext c
    show UInt8.ofNat (Oct.number (decE c.toNat)) = c
    rw [(decE_facts c.toNat c.toNat_lt).2.1]
    refine Oct.eq_of_toNat ?_
    rw [UInt8.toNat_ofNat']
    have := c.toNat_lt
    omega
  rw [this, List.map_id]
end Adr
end Go.Proofs.Ytdidogcgoghdmaa
/- Rows of groups, and the longest row of noughts that a search from the longest on meets first. No program is named here. -/
namespace Go.Proofs.Ytdidogcgoghdmaa
namespace Adr
theorem join_snoc (c : UInt8) : ∀ (ps : List (List UInt8)) (p : List UInt8), ps ≠ [] → Lib.join (ps ++ [p]) [c] = Lib.join ps [c] ++ c :: p
  | [], _, h => absurd rfl h
  | [x], p, _ => by rw [List.singleton_append, join_step, Lib.join_one, Lib.join_one]
  | x :: y :: r, p, _ => by
    have ih := join_snoc c (y :: r) p (by simp)
    rw [List.cons_append, List.cons_append, join_step, ← List.cons_append, ih, join_step, List.append_assoc]; rfl
/-- The groups from f to k, with colons between. -/
def pt (g : List UInt16) (f k : Nat) : List UInt8 := rowT ((g.drop f).take (k - f))
theorem pt_start (g : List UInt16) (f : Nat) : pt g f f = [] := by unfold pt rowT; rw [Nat.sub_self, List.take_zero]; rfl
theorem pt_take {g : List UInt16} {f k : Nat} {x : UInt16} (hf : f ≤ k) (h : g[k]? = some x) : (g.drop f).take (k + 1 - f) = (g.drop f).take (k - f) ++ [x] := by
  have e : k + 1 - f = (k - f) + 1 := by omega
  have h2 : (g.drop f)[k - f]? = some x := by rw [List.getElem?_drop]; rw [show f + (k - f) = k by omega]; exact h
  rw [e, List.take_add_one, h2]; rfl
theorem pt_first {g : List UInt16} {f : Nat} {x : UInt16} (h : g[f]? = some x) : pt g f (f + 1) = hexT x.toNat := by
  unfold pt
  rw [pt_take (Nat.le_refl f) h, Nat.sub_self, List.take_zero]
  unfold rowT
  rw [List.nil_append, List.map_singleton, Lib.join_one]
theorem pt_next {g : List UInt16} {f k : Nat} {x : UInt16} (hf : f < k) (h : g[k]? = some x) : pt g f (k + 1) = pt g f k ++ 58 :: hexT x.toNat := by
  unfold pt
  rw [pt_take (by omega) h]
  unfold rowT
  rw [List.map_append, List.map_singleton]
  refine join_snoc 58 _ _ ?_
  intro e
  have hk := (List.getElem?_eq_some_iff.1 h).1
  have := congrArg List.length e
  simp at this
  omega
theorem pt_length (g : List UInt16) (f k : Nat) (hk : k ≤ 8) : (pt g f k).length ≤ 40 := by
  have := rowT_length ((g.drop f).take (k - f))
  rw [List.length_take] at this
  unfold pt
  omega
/-- Are all from i to j noughts? -/
def allZ (z : List Bool) (i : Nat) : Nat → Bool
  | 0 => true
  | n + 1 => allZ z i n && z.getD (i + n) false
theorem row_facts : ∀ b0 b1 b2 b3 b4 b5 b6 b7 : Bool,
    ((nst [b0, b1, b2, b3, b4, b5, b6, b7] 8).1 ≠ (nst [b0, b1, b2, b3, b4, b5, b6, b7] 8).2.1 → allZ [b0, b1, b2, b3, b4, b5, b6, b7] (nst [b0, b1, b2, b3, b4, b5, b6, b7] 8).1 ((nst [b0, b1, b2, b3, b4, b5, b6, b7] 8).2.1 - (nst [b0, b1, b2, b3, b4, b5, b6, b7] 8).1) = true)
    ∧ ∀ long ∈ [2, 3, 4, 5, 6, 7, 8], ∀ at_ ∈ [0, 1, 2, 3, 4, 5, 6], at_ + long ≤ 8 → allZ [b0, b1, b2, b3, b4, b5, b6, b7] at_ long = true →
      long < (nst [b0, b1, b2, b3, b4, b5, b6, b7] 8).2.1 - (nst [b0, b1, b2, b3, b4, b5, b6, b7] 8).1 ∨ (long = (nst [b0, b1, b2, b3, b4, b5, b6, b7] 8).2.1 - (nst [b0, b1, b2, b3, b4, b5, b6, b7] 8).1 ∧ (nst [b0, b1, b2, b3, b4, b5, b6, b7] 8).1 ≤ at_) := by decide +kernel
theorem row_of {g : List UInt16} (hg : g.length = 8) :
    (nf g ≠ nt g → allZ (zeros g) (nf g) (nt g - nf g) = true) ∧
    ∀ long at_, 2 ≤ long → at_ + long ≤ 8 → allZ (zeros g) at_ long = true → long < nt g - nf g ∨ (long = nt g - nf g ∧ nf g ≤ at_) := by
  obtain ⟨a, b, c, d, e, f, h, i, rfl⟩ := eight hg
  have H := row_facts (decide (a = 0)) (decide (b = 0)) (decide (c = 0)) (decide (d = 0)) (decide (e = 0)) (decide (f = 0)) (decide (h = 0)) (decide (i = 0))
  refine ⟨H.1, fun long at_ h1 h2 => H.2 long ?_ at_ ?_ h2⟩
  · simp; omega
  · simp; omega
end Adr
end Go.Proofs.Ytdidogcgoghdmaa
/- A text with its small letters a to f made great is the same address. No program is named here. -/
namespace Go.Proofs.Ytdidogcgoghdmaa
namespace Adr
def up (c : UInt8) : UInt8 := if 97 ≤ c.toNat ∧ c.toNat ≤ 102 then UInt8.ofNat (c.toNat - 32) else c
theorem up_yes {c : UInt8} (h : 97 ≤ c.toNat ∧ c.toNat ≤ 102) : (up c).toNat = c.toNat - 32 := by
  have := c.toNat_lt
  unfold up; rw [if_pos h, UInt8.toNat_ofNat']; omega
theorem up_no {c : UInt8} (h : ¬ (97 ≤ c.toNat ∧ c.toNat ≤ 102)) : up c = c := by unfold up; rw [if_neg h]
theorem up_hex (c : UInt8) : hexB (up c) = hexB c ∧ hexN (up c) = hexN c := by
  by_cases h : 97 ≤ c.toNat ∧ c.toNat ≤ 102
  · have e := up_yes h
    unfold hexB hexN
    rw [e]
    constructor
    · rw [Bool.eq_iff_iff]; simp; omega
    · split <;> (try split) <;> (try split) <;> (try split) <;> (try split) <;> (try split) <;> omega
  · rw [up_no h]; exact ⟨rfl, rfl⟩
theorem up_colon (c : UInt8) : up c = 58 ↔ c = 58 := by
  by_cases h : 97 ≤ c.toNat ∧ c.toNat ≤ 102
  · have e := up_yes h
    constructor
    · intro k; rw [k] at e; have : (58 : UInt8).toNat = 58 := rfl; omega
    · rintro rfl; have : (58 : UInt8).toNat = 58 := rfl; omega
  · rw [up_no h]
theorem split_up : ∀ s : List UInt8, Oct.split 58 (s.map up) = (Oct.split 58 s).map (·.map up)
  | [] => rfl
  | c :: r => by
    rw [List.map_cons, Oct.split_step, Oct.split_step, split_up r]
    by_cases h : c = 58
    · rw [if_pos h, if_pos ((up_colon c).2 h)]; rfl
    · rw [if_neg h, if_neg (fun k => h ((up_colon c).1 k))]
      cases Oct.split 58 r with
      | nil => rfl
      | cons p ps => rfl
theorem prefix_up (s : List UInt8) : ([58, 58] : List UInt8).isPrefixOf (s.map up) = ([58, 58] : List UInt8).isPrefixOf s := by
  have e : ∀ c, ((58 : UInt8) == up c) = ((58 : UInt8) == c) := fun c => by
    rw [Bool.eq_iff_iff, beq_iff_eq, beq_iff_eq]
    exact ⟨fun k => ((up_colon c).1 k.symm).symm, fun k => ((up_colon c).2 k.symm).symm⟩
  match s with
  | [] => rfl
  | [c] => simp [List.isPrefixOf]
  | c :: d :: r => simp [List.isPrefixOf, e]
theorem index_up : ∀ s : List UInt8, Lib.index (s.map up) [58, 58] = Lib.index s [58, 58]
  | [] => rfl
  | c :: r => by
    have h := prefix_up (c :: r)
    rw [List.map_cons] at h ⊢
    unfold Lib.index
    rw [h, index_up r]
theorem cut_up (s : List UInt8) : Lib.cut (s.map up) [58, 58] = ((Lib.cut s [58, 58]).1.map up, (Lib.cut s [58, 58]).2.1.map up, (Lib.cut s [58, 58]).2.2) := by
  unfold Lib.cut
  rw [index_up]
  split
  · simp [List.map_take, List.map_drop]
  · rfl
theorem isGrp_up (p : List UInt8) : isGrp (p.map up) = isGrp p := by
  unfold isGrp
  rw [List.length_map, List.all_map]
  congr 2
  funext c
  exact (up_hex c).1
theorem grpN_up (p : List UInt8) : grpN (p.map up) = grpN p := by
  unfold grpN
  rw [List.foldl_map]
  congr 1
  funext n c
  rw [(up_hex c).2]
theorem isRow_up (s : List UInt8) : isRow (s.map up) = isRow s := by
  unfold isRow
  rw [split_up, List.all_map]
  congr 1
  · simp
  · congr 1
    funext p
    exact isGrp_up p
theorem row_up (s : List UInt8) : row (s.map up) = row s := by
  unfold row
  rw [split_up, List.map_map]
  by_cases h : s = []
  · subst h; rfl
  · rw [if_neg h, if_neg (by simpa using h)]
    congr 1
    funext p
    show grp (p.map up) = grp p
    unfold grp
    rw [grpN_up]
theorem v6_up (s : List UInt8) : v6 (s.map up) = v6 s := by
  unfold v6
  rw [cut_up]
  simp only [isRow_up, row_up]
theorem fits_le8 {n : Nat} {g : Bool} (h : fits n g = true) : n ≤ 8 := by
  unfold fits at h
  cases g <;> simp at h <;> omega
theorem v6_length {s : List UInt8} {g : List UInt16} (h : v6 s = some g) : g.length = 8 := by
  unfold v6 at h
  split at h
  · next hc =>
    have h8 := fits_le8 hc.2.2
    rw [← Option.some.inj h, List.length_append, List.length_append, List.length_replicate]
    omega
  · exact absurd h (by simp)
theorem addrOf_length (s : List UInt8) : (addrOf (v6 s)).length = 16 := by
  cases h : v6 s with
  | none => rfl
  | some g => show (from_ g).length = 16; rw [from_length, v6_length h]
/-- The first k bytes of a text folded. -/
def halfUp (l : List UInt8) (k : Nat) : List UInt8 := (l.take k).map up ++ l.drop k
theorem halfUp_zero (l : List UInt8) : halfUp l 0 = l := by simp [halfUp]
theorem halfUp_length (l : List UInt8) (k : Nat) : (halfUp l k).length = l.length := by simp [halfUp]; omega
theorem halfUp_end {l : List UInt8} {k : Nat} (h : l.length ≤ k) : halfUp l k = l.map up := by
  unfold halfUp; rw [List.take_of_length_le h, List.drop_eq_nil_of_le h, List.append_nil]
theorem halfUp_at {l : List UInt8} {k : Nat} (h : k < l.length) : (halfUp l k)[k]? = some l[k] := by
  unfold halfUp
  rw [List.getElem?_append_right (by simp; omega)]
  simp only [List.length_map, List.length_take]
  rw [List.getElem?_drop, List.getElem?_eq_getElem (by omega)]
  congr 1
  have : k + (k - min k l.length) = k := by omega
  simp only [this]
theorem halfUp_set {l : List UInt8} {k : Nat} (h : k < l.length) : (halfUp l k).set k (up l[k]) = halfUp l (k + 1) := by
  unfold halfUp
  rw [List.set_append_right _ _ (by simp; omega), List.take_succ_eq_append_getElem h, List.map_append, List.append_assoc, List.drop_eq_getElem_cons h]
  have : k - ((l.take k).map up).length = 0 := by simp; omega
  rw [this]; rfl
theorem halfUp_keep {l : List UInt8} {k : Nat} (h : k < l.length) (hn : up l[k] = l[k]) : halfUp l (k + 1) = halfUp l k := by
  rw [← halfUp_set h, hn]
  apply List.ext_getElem?
  intro i
  rw [List.getElem?_set]
  split
  · next e =>
    subst e
    rw [halfUp_at h]
    rw [if_pos (by rw [halfUp_length]; exact h)]
  · rfl
end Adr
end Go.Proofs.Ytdidogcgoghdmaa
/- What the reference's V6 tries is what V6 reads. No program is named here. -/
namespace Go.Proofs.Ytdidogcgoghdmaa
namespace Adr
/-- The eight groups that all stand in a text. -/
def e8 (s : List UInt8) : Option (List UInt16) := if (Oct.split 58 s).length = 8 ∧ (Oct.split 58 s).all isGrp = true then some ((Oct.split 58 s).map grp) else none
theorem split_mid (c : UInt8) (r : List UInt8) : ∀ b : List UInt8, Oct.split c (b ++ c :: r) = Oct.split c b ++ Oct.split c r
  | [] => by rw [List.nil_append, Oct.split_step, if_pos rfl]; rfl
  | d :: b => by
    rw [List.cons_append, Oct.split_step, Oct.split_step, split_mid c r b]
    by_cases h : d = c
    · rw [if_pos h, if_pos h]; rfl
    · rw [if_neg h, if_neg h]
      cases hb : Oct.split c b with
      | nil => exact absurd hb (Oct.split_ne c b)
      | cons p ps => rfl
/-- The pieces of a row: none of the empty text. -/
def P (s : List UInt8) : List (List UInt8) := if s = [] then [] else Oct.split 58 s
theorem isRow_P (s : List UInt8) : isRow s = (P s).all isGrp := by
  unfold isRow P
  by_cases h : s = []
  · rw [if_pos h, h]; rfl
  · rw [if_neg h, decide_eq_false h]; rfl
theorem row_P (s : List UInt8) : row s = (P s).map grp := by
  unfold row P
  split <;> rfl
def F (b : List UInt8) : List UInt8 := if b = [] then [] else b ++ [58]
def H (h : List UInt8) : List UInt8 := if h = [] then [] else 58 :: h
def Z : Nat → List UInt8
  | 0 => [48]
  | k + 1 => Z k ++ [58, 48]
theorem Z_length (k : Nat) : (Z k).length = 2 * k + 1 := by
  induction k with
  | zero => rfl
  | succ k ih => unfold Z; rw [List.length_append, ih]; simp; omega
theorem split_Z (k : Nat) : Oct.split 58 (Z k) = List.replicate (k + 1) [48] := by
  induction k with
  | zero => decide
  | succ k ih =>
    unfold Z
    rw [split_mid, ih, show Oct.split 58 [48] = [[48]] by decide, List.replicate_succ' (n := k + 1)]
theorem split_ZH (k : Nat) (h : List UInt8) : Oct.split 58 (Z k ++ H h) = List.replicate (k + 1) [48] ++ P h := by
  unfold H P
  by_cases e : h = []
  · rw [if_pos e, if_pos e, List.append_nil, List.append_nil, split_Z]
  · rw [if_neg e, if_neg e, split_mid, split_Z]
theorem split_FZH (b h : List UInt8) (k : Nat) : Oct.split 58 (F b ++ Z k ++ H h) = P b ++ List.replicate (k + 1) [48] ++ P h := by
  have e1 := split_ZH k h
  unfold F
  by_cases e : b = []
  · rw [if_pos e, List.nil_append, e1]
    unfold P
    rw [if_pos e, List.nil_append]
  · rw [if_neg e, List.append_assoc, List.append_assoc]
    show Oct.split 58 (b ++ 58 :: (Z k ++ H h)) = _
    rw [split_mid, e1, ← List.append_assoc]
    congr 2
    unfold P
    rw [if_neg e]
theorem e8_try (b h : List UInt8) (k : Nat) : e8 (F b ++ Z k ++ H h) = if isRow b = true ∧ isRow h = true ∧ (row b).length + (row h).length + (k + 1) = 8 then some (row b ++ List.replicate (k + 1) 0 ++ row h) else none := by
  unfold e8
  rw [split_FZH, isRow_P, isRow_P, row_P, row_P]
  have e0 : isGrp [48] = true := by decide
  have e1 : grp [48] = 0 := by decide
  have hl : (P b ++ List.replicate (k + 1) [48] ++ P h).length = 8 ↔ ((P b).map grp).length + ((P h).map grp).length + (k + 1) = 8 := by
    simp only [List.length_append, List.length_replicate, List.length_map]; omega
  have ha : (P b ++ List.replicate (k + 1) [48] ++ P h).all isGrp = true ↔ (P b).all isGrp = true ∧ (P h).all isGrp = true := by
    rw [List.all_append, List.all_append, Bool.and_eq_true, Bool.and_eq_true]
    have : (List.replicate (k + 1) [(48 : UInt8)]).all isGrp = true := by
      rw [List.all_eq_true]
      intro x hx
      rw [List.eq_of_mem_replicate hx]; exact e0
    rw [this]; simp
  have hm : (P b ++ List.replicate (k + 1) [48] ++ P h).map grp = (P b).map grp ++ List.replicate (k + 1) 0 ++ (P h).map grp := by
    rw [List.map_append, List.map_append, List.map_replicate, e1]
  rw [hm]
  by_cases c : (P b).all isGrp = true ∧ (P h).all isGrp = true ∧ ((P b).map grp).length + ((P h).map grp).length + (k + 1) = 8
  · rw [if_pos c, if_pos ⟨hl.2 c.2.2, ha.2 ⟨c.1, c.2.1⟩⟩]
  · rw [if_neg c, if_neg fun h => c ⟨(ha.1 h.2).1, (ha.1 h.2).2, hl.1 h.1⟩]
/-- What a gap between b and h reads as. -/
def cand (b h : List UInt8) : Option (List UInt16) :=
  if isRow b = true ∧ isRow h = true ∧ fits ((row b).length + (row h).length) true = true then some (row b ++ List.replicate (8 - ((row b).length + (row h).length)) 0 ++ row h) else none
theorem cand_some {b h : List UInt8} {k : Nat} {g : List UInt16} (e : e8 (F b ++ Z k ++ H h) = some g) : cand b h = some g := by
  rw [e8_try] at e
  unfold cand
  split at e
  · next c =>
    have hf : fits ((row b).length + (row h).length) true = true := by unfold fits; simp; omega
    rw [if_pos ⟨c.1, c.2.1, hf⟩, ← e]
    have : 8 - ((row b).length + (row h).length) = k + 1 := by omega
    rw [this]
  · cases e
theorem cand_none {b h : List UInt8} (e : ∀ k, k < 8 → e8 (F b ++ Z k ++ H h) = none) : cand b h = none := by
  unfold cand
  rw [if_neg]
  rintro ⟨h1, h2, h3⟩
  have hf : (row b).length + (row h).length < 8 := by unfold fits at h3; simpa using h3
  have := e (7 - ((row b).length + (row h).length)) (by omega)
  rw [e8_try, if_pos ⟨h1, h2, by omega⟩] at this
  cases this
/-- Two colons at a place. -/
def Two (s : List UInt8) (j : Nat) : Prop := s[j]? = some 58 ∧ s[j + 1]? = some 58
theorem Two.split {s : List UInt8} {j : Nat} (h : Two s j) : s = s.take j ++ 58 :: 58 :: s.drop (j + 2) := by
  obtain ⟨h1, h2⟩ := h
  obtain ⟨l1, e1⟩ := List.getElem?_eq_some_iff.1 h1
  obtain ⟨l2, e2⟩ := List.getElem?_eq_some_iff.1 h2
  conv => lhs; rw [← List.take_append_drop j s, List.drop_eq_getElem_cons l1, List.drop_eq_getElem_cons l2, e1, e2]
theorem not_row {s x y : List UInt8} (h : s = x ++ 58 :: y) (hy : y = [] ∨ ∃ z, y = 58 :: z) : isRow s = false := by
  have hm : [] ∈ Oct.split 58 s := by
    rw [h, split_mid]
    refine List.mem_append_right _ ?_
    rcases hy with rfl | ⟨z, rfl⟩
    · decide
    · rw [Oct.split_step, if_pos rfl]; exact List.mem_cons_self
  have hn : s ≠ [] := by rw [h]; simp
  unfold isRow
  rw [decide_eq_false hn, Bool.false_or]
  cases ha : (Oct.split 58 s).all isGrp with
  | false => rfl
  | true =>
    have := List.all_eq_true.1 ha [] hm
    exact absurd this (by decide)
theorem later_no {s : List UInt8} {i j : Nat} (hi : Two s i) (hij : i < j) (h : List UInt8) : cand (s.take j) h = none := by
  have e := hi.split
  have hl : (s.take i).length = i := by
    have := (List.getElem?_eq_some_iff.1 hi.1).1
    rw [List.length_take]; omega
  have ht : s.take j = s.take i ++ 58 :: (58 :: s.drop (i + 2)).take (j - (i + 1)) := by
    conv => lhs; rw [e, List.take_append, hl]
    rw [List.take_of_length_le (by omega), show j - i = (j - (i + 1)) + 1 by omega, List.take_succ_cons]
  have hr : isRow (s.take j) = false := by
    refine not_row ht ?_
    cases hk : j - (i + 1) with
    | zero => left; rfl
    | succ k => right; exact ⟨_, List.take_succ_cons⟩
  unfold cand
  rw [if_neg]
  rintro ⟨h1, _⟩
  rw [hr] at h1; cases h1
theorem first_of {s : List UInt8} {j : Nat} (h : Two s j) : ∃ i, i ≤ j ∧ Two s i ∧ ∀ k, k < i → ¬ Two s k := by
  induction j using Nat.strongRecOn with
  | _ j ih =>
    by_cases hk : ∃ k, k < j ∧ Two s k
    · obtain ⟨k, hk1, hk2⟩ := hk
      obtain ⟨i, h1, h2, h3⟩ := ih k hk1 hk2
      exact ⟨i, by omega, h2, h3⟩
    · exact ⟨j, Nat.le_refl _, h, fun k hkj hk2 => hk ⟨k, hkj, hk2⟩⟩
theorem v6_first {s : List UInt8} {i : Nat} (h : Two s i) (hn : ∀ k, k < i → ¬ Two s k) : v6 s = cand (s.take i) (s.drop (i + 2)) := by
  have hl : (s.take i).length = i := by
    have := (List.getElem?_eq_some_iff.1 h.1).1
    rw [List.length_take]; omega
  have hc : Lib.cut s [58, 58] = (s.take i, s.drop (i + 2), true) := by
    have e := h.split
    conv => lhs; rw [e]
    refine cut_at fun k hk => ?_
    rw [hl] at hk
    rw [← e]
    exact hn k hk
  unfold v6
  rw [hc]
  rfl
theorem v6_none_two {s : List UInt8} (hn : ∀ j, ¬ Two s j) : v6 s = e8 s := by
  have hc : Lib.cut s [58, 58] = (s, [], false) := cut_none hn
  unfold v6 e8
  rw [hc]
  simp only
  by_cases h : s = []
  · subst h; decide
  · have e1 : isRow s = (Oct.split 58 s).all isGrp := by rw [isRow_P]; unfold P; rw [if_neg h]
    have e2 : row s = (Oct.split 58 s).map grp := by rw [row_P]; unfold P; rw [if_neg h]
    have e3 : isRow [] = true := rfl
    have e4 : row [] = [] := rfl
    rw [e1, e2, e3, e4]
    by_cases c : (Oct.split 58 s).length = 8 ∧ (Oct.split 58 s).all isGrp = true
    · rw [if_pos c, if_pos ⟨c.2, rfl, by unfold fits; simp [c.1]⟩]
      simp [c.1]
    · rw [if_neg c, if_neg]
      rintro ⟨h1, _, h3⟩
      unfold fits at h3
      simp at h3
      exact c ⟨h3, h1⟩
theorem e8_two {s : List UInt8} {j : Nat} (h : Two s j) : e8 s = none := by
  have e := h.split
  unfold e8
  rw [if_neg]
  rintro ⟨_, ha⟩
  have hr := not_row e (.inr ⟨_, rfl⟩)
  have hne : s ≠ [] := by rw [e]; simp
  rw [isRow_P] at hr
  unfold P at hr
  rw [if_neg hne, ha] at hr
  cases hr
theorem v6_e8 {s : List UInt8} {g : List UInt16} (h : e8 s = some g) : v6 s = some g := by
  rw [v6_none_two, h]
  intro j hj
  rw [e8_two hj] at h; cases h
theorem v6_at {s : List UInt8} {j : Nat} {g : List UInt16} (h : Two s j) (hc : cand (s.take j) (s.drop (j + 2)) = some g) : v6 s = some g := by
  obtain ⟨i, h1, h2, h3⟩ := first_of h
  have e : i = j := by
    rcases Nat.lt_or_ge i j with hlt | hge
    · have := later_no h2 hlt (s.drop (j + 2))
      rw [this] at hc; cases hc
    · omega
  subst e
  rw [v6_first h2 h3, hc]
theorem v6_end {s : List UInt8} (h8 : e8 s = none) (h : ∀ j, Two s j → cand (s.take j) (s.drop (j + 2)) = none) : v6 s = none := by
  by_cases hk : ∃ k, Two s k
  · obtain ⟨k, hk⟩ := hk
    obtain ⟨i, _, h2, h3⟩ := first_of hk
    rw [v6_first h2 h3, h i h2]
  · rw [v6_none_two fun j hj => hk ⟨j, hj⟩, h8]
end Adr
end Go.Proofs.Ytdidogcgoghdmaa
/- Plain functions on hosts, and plain lemmas on them: what the calls of package host answer. No program is named here. -/
namespace Go.Proofs.Ytdidogcgoghdmaa
namespace Hst
/-- A host: its kind, its name, its address. -/
structure Host where
  kind : Int
  name : List UInt8
  addr : List UInt8
instance : DecidableEq Host := fun a b =>
  if h : a.kind = b.kind ∧ a.name = b.name ∧ a.addr = b.addr then isTrue (by
    cases a; cases b
    obtain ⟨h1, h2, h3⟩ := h
    simp only at h1 h2 h3
    rw [h1, h2, h3])
  else isFalse (by rintro rfl; exact h ⟨rfl, rfl, rfl⟩)
def nil16 : List UInt8 := List.replicate 16 0
def zero : Host := ⟨0, [], nil16⟩
/-- May a name have this byte? -/
def okB (c : UInt8) : Bool := decide ((97 ≤ c.toNat ∧ c.toNat ≤ 122) ∨ (65 ≤ c.toNat ∧ c.toNat ≤ 90) ∨ (48 ≤ c.toNat ∧ c.toNat ≤ 57) ∨ c.toNat = 45 ∨ c.toNat = 95)
def lab (p : List UInt8) : Bool := decide (1 ≤ p.length ∧ p.length ≤ 63) && p.all okB
def refB (c : UInt8) : Bool := decide ((97 ≤ c.toNat ∧ c.toNat ≤ 122) ∨ (48 ≤ c.toNat ∧ c.toNat ≤ 57) ∨ c.toNat = 45 ∨ c.toNat = 95)
def refLab (p : List UInt8) : Bool := decide (1 ≤ p.length ∧ p.length ≤ 63) && p.all refB
def last (s : List UInt8) : List UInt8 := ((Oct.split 46 s)[(Oct.split 46 s).length - 1]?).getD []
/-- The host of what stands behind the opening bracket. -/
def v6part (r : List UInt8) : Option Host := if r.getLast? = some 93 then (Adr.v6 r.dropLast).map fun g => ⟨3, [], Adr.from_ g⟩ else none
def v4part (s : List UInt8) : Option Host := (Adr.v4 s).map fun l => ⟨2, [], Adr.addr4 (some l)⟩
def parse (s : List UInt8) : Option Host :=
  if 253 < s.length then none
  else if s.head? = some 91 then v6part s.tail
  else if Oct.digits (last s) = true then v4part s
  else if (Oct.split 46 s).all lab = true then some ⟨1, s.map Oct.low, nil16⟩ else none
def refParse (s : List UInt8) : Option Host :=
  if s.head? = some 91 then v6part s.tail
  else if Oct.digits (last (s.map Oct.low)) = true then v4part s
  else if (Oct.split 46 (s.map Oct.low)).all refLab = true ∧ s.length ≤ 253 then some ⟨1, s.map Oct.low, nil16⟩ else none
def right (h : Host) : Bool := decide (parse h.name = some h)
def labels (h : Host) : List (List UInt8) := if h.kind = 1 ∧ right h = true then Oct.split 46 h.name else []
def tailOf (h : Host) (n : Int) : Option Host :=
  if 1 ≤ n ∧ n ≤ ((labels h).length : Int) then some ⟨1, Lib.join ((labels h).drop ((labels h).length - n.toNat)) [46], nil16⟩ else none
def under (h d : Host) : Bool :=
  match tailOf h ((labels d).length : Int) with
  | some t => decide (t = d) && !decide (t = h)
  | none => false
def refUnder (h d : Host) : Bool :=
  decide (labels h ≠ [] ∧ labels d ≠ []) && (decide (d.name.length + 1 < h.name.length) && decide (h.name.drop (h.name.length - (d.name.length + 1)) = 46 :: d.name))
/-! ### Great and small letters -/
theorem low_46 (c : UInt8) : Oct.low c = 46 ↔ c = 46 := by
  constructor
  · intro h
    have e := congrArg UInt8.toNat h
    rw [Oct.low_toNat] at e
    have h46 : (46 : UInt8).toNat = 46 := rfl
    rw [h46] at e
    apply Oct.eq_of_toNat
    rw [h46]
    split at e <;> omega
  · rintro rfl; decide
theorem split_low : ∀ s : List UInt8, Oct.split 46 (s.map Oct.low) = (Oct.split 46 s).map (List.map Oct.low)
  | [] => rfl
  | c :: r => by
    have ih := split_low r
    rw [List.map_cons, Oct.split_step, Oct.split_step, ih]
    by_cases h : c = 46
    · rw [if_pos ((low_46 c).2 h), if_pos h]; rfl
    · rw [if_neg (fun e => h ((low_46 c).1 e)), if_neg h]
      cases Oct.split 46 r <;> rfl
theorem digit_low (c : UInt8) : Oct.digitB (Oct.low c) = Oct.digitB c := by
  unfold Oct.digitB
  rw [Oct.low_toNat, decide_eq_decide]
  split <;> omega
theorem digits_low (p : List UInt8) : Oct.digits (p.map Oct.low) = Oct.digits p := by
  unfold Oct.digits
  rw [List.all_map]
  congr 1
  · simp
  · congr 1
    funext c
    exact digit_low c
theorem last_low (s : List UInt8) : last (s.map Oct.low) = (last s).map Oct.low := by
  unfold last
  rw [split_low, List.length_map, List.getElem?_map]
  cases (Oct.split 46 s)[(Oct.split 46 s).length - 1]? <;> rfl
theorem refB_low (c : UInt8) : refB (Oct.low c) = okB c := by
  unfold refB okB
  rw [Oct.low_toNat, decide_eq_decide]
  split <;> omega
theorem refLab_low (p : List UInt8) : refLab (p.map Oct.low) = lab p := by
  unfold refLab lab
  rw [List.length_map, List.all_map]
  congr 1
  congr 1
  funext c
  exact refB_low c
/-! ### Long texts are no addresses -/
theorem join_split (c : UInt8) : ∀ l : List UInt8, Lib.join (Oct.split c l) [c] = l
  | [] => rfl
  | d :: r => by
    have ih := join_split c r
    rw [Oct.split_step]
    by_cases h : d = c
    · rw [if_pos h]
      cases e : Oct.split c r with
      | nil => exact absurd e (Oct.split_ne c r)
      | cons p ps => rw [Adr.join_step, ← e, ih, h]; rfl
    · rw [if_neg h]
      cases e : Oct.split c r with
      | nil => exact absurd e (Oct.split_ne c r)
      | cons p ps =>
        rw [e] at ih
        show Lib.join ((d :: p) :: ps) [c] = d :: r
        cases ps with
        | nil => rw [Lib.join_one] at ih ⊢; rw [ih]
        | cons q qs => rw [Adr.join_step] at ih ⊢; rw [List.cons_append, ih]
theorem v4_long {s : List UInt8} (h : 253 < s.length) : Adr.v4 s = none := by
  unfold Adr.v4
  rw [if_neg]
  rintro ⟨h4, hok⟩
  have hs : ∀ p ∈ Oct.split 46 s, p.length ≤ 18 := by
    intro p hp
    have := List.all_eq_true.1 hok p hp
    unfold Adr.okNum Oct.isNum at this
    simp only [Bool.and_eq_true, decide_eq_true_eq] at this
    exact this.1.1.2
  have := Adr.join_length [46] rfl 18 _ hs
  rw [join_split, h4] at this
  omega
theorem row_small {b : List UInt8} (h : Adr.isRow b = true) : b.length ≤ 5 * (Adr.row b).length := by
  unfold Adr.isRow at h
  by_cases hb : b = []
  · subst hb; simp
  · rw [decide_eq_false hb, Bool.false_or] at h
    unfold Adr.row
    rw [if_neg hb, List.length_map]
    have hs : ∀ p ∈ Oct.split 58 b, p.length ≤ 4 := by
      intro p hp
      have := List.all_eq_true.1 h p hp
      unfold Adr.isGrp at this
      simp only [Bool.and_eq_true, decide_eq_true_eq] at this
      exact this.1.2
    have := Adr.join_length [58] rfl 4 _ hs
    rw [join_split] at this
    exact this
theorem cut_first {s : List UInt8} {i : Nat} (h : Adr.Two s i) (hn : ∀ k, k < i → ¬ Adr.Two s k) : Lib.cut s [58, 58] = (s.take i, s.drop (i + 2), true) := by
  have hl : (s.take i).length = i := by
    have := (List.getElem?_eq_some_iff.1 h.1).1
    rw [List.length_take]; omega
  have e := h.split
  conv => lhs; rw [e]
  refine Adr.cut_at fun k hk => ?_
  rw [hl] at hk
  rw [← e]
  exact hn k hk
theorem cut_length (s : List UInt8) : s.length ≤ (Lib.cut s [58, 58]).1.length + (Lib.cut s [58, 58]).2.1.length + 2 := by
  by_cases h : ∃ j, Adr.Two s j
  · obtain ⟨j, hj⟩ := h
    obtain ⟨i, _, hi, hn⟩ := Adr.first_of hj
    rw [cut_first hi hn]
    have hl := (List.getElem?_eq_some_iff.1 hi.2).1
    simp only [List.length_take, List.length_drop]
    omega
  · have hc : Lib.cut s [58, 58] = (s, [], false) := Adr.cut_none fun j hj => h ⟨j, hj⟩
    rw [hc]
    simp
theorem v6_long {s : List UInt8} (h : 200 < s.length) : Adr.v6 s = none := by
  unfold Adr.v6
  rw [if_neg]
  rintro ⟨h1, h2, h3⟩
  have a := row_small h1
  have b := row_small h2
  have c := cut_length s
  have d : (Adr.row (Lib.cut s [58, 58]).1).length + (Adr.row (Lib.cut s [58, 58]).2.1).length ≤ 8 := by
    unfold Adr.fits at h3
    split at h3
    · have := of_decide_eq_true h3; omega
    · have := of_decide_eq_true h3; omega
  omega
theorem v6part_long {r : List UInt8} (h : 201 < r.length) : v6part r = none := by
  unfold v6part
  split
  · rw [v6_long (by rw [List.length_dropLast]; omega)]; rfl
  · rfl
theorem refParse_eq (s : List UInt8) : refParse s = parse s := by
  unfold refParse parse
  rw [last_low, digits_low, split_low, List.all_map]
  have e : ((refLab ∘ List.map Oct.low) : List UInt8 → Bool) = lab := by funext p; exact refLab_low p
  rw [e]
  by_cases hl : 253 < s.length
  · rw [if_pos hl]
    split
    · exact v6part_long (by rw [List.length_tail]; omega)
    · split
      · unfold v4part; rw [v4_long hl]; rfl
      · rw [if_neg (fun k => by have := k.2; omega)]
  · rw [if_neg hl]
    split
    · rfl
    · split
      · rfl
      · by_cases ha : (Oct.split 46 s).all lab = true
        · rw [if_pos ⟨ha, by omega⟩, if_pos ha]
        · rw [if_neg (fun k => ha k.1), if_neg ha]
/-! ### Names that can be -/
structure Good (n : List UInt8) : Prop where
  few : n.length ≤ 253
  all : (Oct.split 46 n).all lab = true
  num : Oct.digits (last n) = false
  low : n.map Oct.low = n
theorem Good.head {n : List UInt8} (h : (Oct.split 46 n).all lab = true) : n.head? ≠ some 91 := by
  intro e
  cases n with
  | nil => cases e
  | cons c r =>
    simp at e
    subst e
    rw [Oct.split_step, if_neg (by decide)] at h
    split at h
    · exact absurd h (by decide)
    · rename_i p ps _
      rw [List.all_cons, Bool.and_eq_true] at h
      have := h.1
      unfold lab at this
      rw [List.all_cons] at this
      have e : okB 91 = false := by decide
      rw [e] at this
      simp at this
theorem Good.parse {n : List UInt8} (h : Good n) : Hst.parse n = some ⟨1, n, nil16⟩ := by
  unfold Hst.parse
  rw [if_neg (by have := h.few; omega), if_neg (Good.head h.all), if_neg (by rw [h.num]; simp), if_pos h.all, h.low]
theorem right_good {h : Host} (hk : h.kind = 1) (hr : right h = true) : Good h.name ∧ h.addr = nil16 := by
  have hp := of_decide_eq_true hr
  unfold Hst.parse at hp
  split at hp
  · cases hp
  · rename_i h1
    split at hp
    · unfold v6part at hp
      split at hp
      · cases hv : Adr.v6 h.name.tail.dropLast with
        | none => rw [hv] at hp; cases hp
        | some g =>
          rw [hv] at hp
          have := congrArg (fun o => o.map Host.kind) hp
          simp [hk] at this
      · cases hp
    · split at hp
      · unfold v4part at hp
        cases hv : Adr.v4 h.name with
        | none => rw [hv] at hp; cases hp
        | some l =>
          rw [hv] at hp
          have := congrArg (fun o => o.map Host.kind) hp
          simp [hk] at this
      · rename_i hd
        split at hp
        · rename_i ha
          have e := Option.some.inj hp
          have e1 := congrArg Host.name e
          have e2 := congrArg Host.addr e
          exact ⟨⟨by omega, ha, by simpa using hd, e1⟩, e2.symm⟩
        · cases hp
theorem good_right {n : List UInt8} (h : Good n) : right ⟨1, n, nil16⟩ = true := decide_eq_true h.parse
theorem good_labels {n : List UInt8} (h : Good n) : labels ⟨1, n, nil16⟩ = Oct.split 46 n := by
  unfold labels; rw [if_pos ⟨rfl, good_right h⟩]
/-- What has labels is a name that can be. -/
theorem labels_good {h : Host} (hl : labels h ≠ []) : h.kind = 1 ∧ Good h.name ∧ h = ⟨1, h.name, nil16⟩ ∧ labels h = Oct.split 46 h.name := by
  unfold labels at hl ⊢
  split at hl
  · rename_i hh
    obtain ⟨g, ha⟩ := right_good hh.1 hh.2
    refine ⟨hh.1, g, ?_, by rw [if_pos hh]⟩
    cases h
    simp at hh ha ⊢
    exact ⟨hh.1, ha⟩
  · exact absurd rfl hl
/-! ### Ends of a name -/
theorem join_app (c : UInt8) : ∀ (A B : List (List UInt8)), A ≠ [] → B ≠ [] → Lib.join (A ++ B) [c] = Lib.join A [c] ++ c :: Lib.join B [c]
  | [], _, h, _ => absurd rfl h
  | [x], B, _, hB => by
    cases B with
    | nil => exact absurd rfl hB
    | cons y r => rw [List.singleton_append, Adr.join_step, Lib.join_one]
  | x :: y :: A, B, _, hB => by
    have ih := join_app c (y :: A) B (by simp) hB
    rw [List.cons_append, List.cons_append, Adr.join_step, ← List.cons_append, ih, Adr.join_step, List.append_assoc, List.cons_append]
theorem lab_facts {p : List UInt8} (h : lab p = true) : 1 ≤ p.length ∧ p.length ≤ 63 ∧ ∀ d ∈ p, okB d = true := by
  unfold lab at h
  simp only [Bool.and_eq_true, decide_eq_true_eq] at h
  exact ⟨h.1.1, h.1.2, List.all_eq_true.1 h.2⟩
theorem lab_no46 {p : List UInt8} (h : lab p = true) : ∀ d ∈ p, d ≠ 46 := by
  intro d hd e
  have := (lab_facts h).2.2 d hd
  rw [e] at this
  exact absurd this (by decide)
/-- The last k labels of a good name: their name. -/
def ending (n : List UInt8) (k : Nat) : List UInt8 := Lib.join ((Oct.split 46 n).drop ((Oct.split 46 n).length - k)) [46]
theorem ending_split {n : List UInt8} (h : Good n) {k : Nat} (h1 : 1 ≤ k) (h2 : k ≤ (Oct.split 46 n).length) : Oct.split 46 (ending n k) = (Oct.split 46 n).drop ((Oct.split 46 n).length - k) := by
  unfold ending
  refine Adr.split_join 46 _ ?_ ?_
  · intro e
    have := congrArg List.length e
    rw [List.length_drop, List.length_nil] at this
    omega
  · intro p hp
    exact lab_no46 (List.all_eq_true.1 h.all p (List.mem_of_mem_drop hp))
theorem ending_whole {n : List UInt8} {k : Nat} (h : k = (Oct.split 46 n).length) : ending n k = n := by
  unfold ending
  rw [h, Nat.sub_self, List.drop_zero, join_split]
theorem ending_parts {n : List UInt8} {k : Nat} (h1 : 1 ≤ k) (h2 : k < (Oct.split 46 n).length) : n = Lib.join ((Oct.split 46 n).take ((Oct.split 46 n).length - k)) [46] ++ 46 :: ending n k := by
  have e := join_split 46 n
  have e2 := List.take_append_drop ((Oct.split 46 n).length - k) (Oct.split 46 n)
  unfold ending
  rw [← join_app 46 _ _ ?_ ?_, e2, e]
  · intro e
    have := congrArg List.length e
    rw [List.length_take, List.length_nil] at this
    omega
  · intro e
    have := congrArg List.length e
    rw [List.length_drop, List.length_nil] at this
    omega
theorem ending_length {n : List UInt8} {k : Nat} (h1 : 1 ≤ k) (h2 : k < (Oct.split 46 n).length) : (ending n k).length < n.length := by
  have := congrArg List.length (ending_parts h1 h2)
  rw [List.length_append, List.length_cons] at this
  omega
theorem map_join (f : UInt8 → UInt8) (c : UInt8) (hc : f c = c) : ∀ ps : List (List UInt8), (Lib.join ps [c]).map f = Lib.join (ps.map (List.map f)) [c]
  | [] => rfl
  | [x] => by rw [List.map_singleton, Lib.join_one, Lib.join_one]
  | x :: y :: r => by
    have ih := map_join f c hc (y :: r)
    rw [Adr.join_step, List.map_append, List.map_cons, ih, hc]
    show _ = Lib.join (x.map f :: y.map f :: r.map (List.map f)) [c]
    rw [Adr.join_step]; rfl
theorem map_fix {f : List UInt8 → List UInt8} : ∀ {l : List (List UInt8)}, l.map f = l → ∀ k, (l.drop k).map f = l.drop k := by
  intro l h k
  rw [List.map_drop, h]
theorem good_ending {n : List UInt8} (h : Good n) {k : Nat} (h1 : 1 ≤ k) (h2 : k ≤ (Oct.split 46 n).length) : Good (ending n k) := by
  have hs := ending_split h h1 h2
  refine ⟨?_, ?_, ?_, ?_⟩
  · rcases Nat.lt_or_eq_of_le h2 with hl | he
    · have := ending_length h1 hl; have := h.few; omega
    · rw [ending_whole he]; exact h.few
  · rw [hs, List.all_eq_true]
    intro p hp
    exact List.all_eq_true.1 h.all p (List.mem_of_mem_drop hp)
  · have : last (ending n k) = last n := by
      unfold last
      rw [hs, List.length_drop, List.getElem?_drop]
      congr 2
      omega
    rw [this]; exact h.num
  · unfold ending
    rw [map_join Oct.low 46 (by decide)]
    congr 1
    refine map_fix ?_ _
    rw [← split_low, h.low]
theorem tail_ending {h : Host} {k : Nat} (h1 : 1 ≤ k) (h2 : k ≤ (labels h).length) : tailOf h (k : Int) = some ⟨1, ending h.name k, nil16⟩ := by
  have hl : labels h ≠ [] := by intro e; rw [e] at h2; simp at h2; omega
  obtain ⟨_, _, _, e⟩ := labels_good hl
  unfold tailOf ending
  rw [if_pos ⟨by omega, by omega⟩, e]; rfl
theorem tail_none {h : Host} {n : Int} (hn : ¬ (1 ≤ n ∧ n ≤ ((labels h).length : Int))) : tailOf h n = none := by
  unfold tailOf; rw [if_neg hn]
theorem host_name {m n : List UInt8} (h : (⟨1, m, nil16⟩ : Host) = ⟨1, n, nil16⟩) : m = n := congrArg Host.name h
theorem under_of {h d : Host} (hd : labels d ≠ []) (hle : (labels d).length ≤ (labels h).length) : under h d = (decide (ending h.name (labels d).length = d.name) && !decide (ending h.name (labels d).length = h.name)) := by
  have h1 : 1 ≤ (labels d).length := List.length_pos_iff.2 hd
  have hh : labels h ≠ [] := by intro e; rw [e] at hle; simp at hle; exact hd hle
  obtain ⟨_, _, ed, _⟩ := labels_good hd
  obtain ⟨_, _, eh, _⟩ := labels_good hh
  unfold under
  rw [tail_ending h1 hle]
  have a : decide ((⟨1, ending h.name (labels d).length, nil16⟩ : Host) = d) = decide (ending h.name (labels d).length = d.name) := by
    rw [decide_eq_decide]
    constructor
    · intro e; exact congrArg Host.name e
    · intro e; rw [e, ← ed]
  have b : decide ((⟨1, ending h.name (labels d).length, nil16⟩ : Host) = h) = decide (ending h.name (labels d).length = h.name) := by
    rw [decide_eq_decide]
    constructor
    · intro e; exact congrArg Host.name e
    · intro e; rw [e, ← eh]
  show (decide _ && !decide _) = _
  rw [a, b]
theorem under_none {h d : Host} (hn : labels d = [] ∨ (labels h).length < (labels d).length) : under h d = false := by
  unfold under
  rw [tail_none]
  rcases hn with e | e
  · rw [e]; simp
  · omega
theorem split_app (c : UInt8) : ∀ x y : List UInt8, Oct.split c (x ++ c :: y) = Oct.split c x ++ Oct.split c y
  | [], y => by rw [List.nil_append, Oct.split_step, if_pos rfl]; rfl
  | d :: x, y => by
    have ih := split_app c x y
    rw [List.cons_append, Oct.split_step, Oct.split_step, ih]
    split
    · rfl
    · cases e : Oct.split c x with
      | nil => exact absurd e (Oct.split_ne c x)
      | cons p ps => rfl
theorem under_ref (h d : Host) : under h d = refUnder h d := by
  unfold refUnder
  by_cases hd : labels d = []
  · rw [under_none (.inl hd), hd]; simp
  by_cases hh : labels h = []
  · rw [under_none (.inr (by rw [hh]; exact List.length_pos_iff.2 hd)), hh]; simp
  obtain ⟨_, gd, ed, ld⟩ := labels_good hd
  obtain ⟨_, gh, eh, lh⟩ := labels_good hh
  rw [decide_eq_true (show labels h ≠ [] ∧ labels d ≠ [] from ⟨hh, hd⟩), Bool.true_and]
  have hd1 : 1 ≤ (labels d).length := List.length_pos_iff.2 hd
  rw [Bool.eq_iff_iff]
  constructor
  · intro hu
    have hle : (labels d).length ≤ (labels h).length := by
      rcases Nat.lt_or_ge (labels h).length (labels d).length with k | k
      · rw [under_none (.inr k)] at hu; cases hu
      · exact k
    rw [under_of hd hle, Bool.and_eq_true, decide_eq_true_eq, Bool.not_eq_true', decide_eq_false_iff_not] at hu
    obtain ⟨e1, e2⟩ := hu
    have hlt : (labels d).length < (Oct.split 46 h.name).length := by
      rcases Nat.lt_or_eq_of_le hle with k | k
      · rw [← lh]; exact k
      · exact absurd (ending_whole (by rw [k, lh])) e2
    have ep := ending_parts hd1 hlt
    rw [e1] at ep
    have hx : 1 ≤ (Lib.join ((Oct.split 46 h.name).take ((Oct.split 46 h.name).length - (labels d).length)) [46]).length := by
      cases e : (Oct.split 46 h.name).take ((Oct.split 46 h.name).length - (labels d).length) with
      | nil =>
        have := congrArg List.length e
        rw [List.length_take, List.length_nil] at this
        omega
      | cons p ps =>
        have hp : p ∈ Oct.split 46 h.name := List.mem_of_mem_take (by rw [e]; simp)
        have := (lab_facts (List.all_eq_true.1 gh.all p hp)).1
        rw [Lib.join_cons, List.length_append]
        omega
    generalize Lib.join ((Oct.split 46 h.name).take ((Oct.split 46 h.name).length - (labels d).length)) [46] = X at *
    have el := congrArg List.length ep
    rw [List.length_append, List.length_cons] at el
    rw [Bool.and_eq_true, decide_eq_true_eq, decide_eq_true_eq]
    refine ⟨by omega, ?_⟩
    have : h.name.length - (d.name.length + 1) = X.length := by omega
    rw [this, ep, List.drop_left]
  · intro hr
    rw [Bool.and_eq_true, decide_eq_true_eq, decide_eq_true_eq] at hr
    obtain ⟨h1, h2⟩ := hr
    have ep : h.name = h.name.take (h.name.length - (d.name.length + 1)) ++ 46 :: d.name := by rw [← h2, List.take_append_drop]
    have es : labels h = Oct.split 46 (h.name.take (h.name.length - (d.name.length + 1))) ++ labels d := by
      rw [lh, ld, ← split_app, ← ep]
    have hp := Oct.split_pos 46 (h.name.take (h.name.length - (d.name.length + 1)))
    generalize Oct.split 46 (h.name.take (h.name.length - (d.name.length + 1))) = X at *
    have hlen := congrArg List.length es
    rw [List.length_append] at hlen
    rw [under_of hd (by omega)]
    have e1 : ending h.name (labels d).length = d.name := by
      unfold ending
      rw [← lh, es, List.length_append, Nat.add_sub_cancel, List.drop_left, ld, join_split]
    rw [e1, decide_eq_true rfl, Bool.true_and, Bool.not_eq_true', decide_eq_false_iff_not]
    intro e
    have := congrArg List.length e
    omega
/-! ### What is below something is below all above it -/
theorem under_self (h : Host) : under h h = false := by
  by_cases hh : labels h = []
  · exact under_none (.inl hh)
  · rw [under_of hh (Nat.le_refl _)]
    cases decide (ending h.name (labels h).length = h.name) <;> rfl
theorem end_labels {h : Host} (hl : labels h ≠ []) {k : Nat} (h1 : 1 ≤ k) (h2 : k ≤ (labels h).length) : labels ⟨1, ending h.name k, nil16⟩ = (labels h).drop ((labels h).length - k) := by
  obtain ⟨_, g, _, e⟩ := labels_good hl
  rw [e] at h2 ⊢
  rw [good_labels (good_ending g h1 h2), ending_split g h1 h2]
theorem under_end {h : Host} (hl : labels h ≠ []) {a b : Nat} (ha : 1 ≤ a) (ha2 : a ≤ (labels h).length) (hb : 1 ≤ b) (hb2 : b ≤ (labels h).length) :
    under ⟨1, ending h.name a, nil16⟩ ⟨1, ending h.name b, nil16⟩ = decide (b < a) := by
  have la := end_labels hl ha ha2
  have lb := end_labels hl hb hb2
  obtain ⟨_, g, _, e⟩ := labels_good hl
  have na : (labels ⟨1, ending h.name a, nil16⟩).length = a := by rw [la, List.length_drop]; omega
  have nb : (labels ⟨1, ending h.name b, nil16⟩).length = b := by rw [lb, List.length_drop]; omega
  have db : labels ⟨1, ending h.name b, nil16⟩ ≠ [] := by intro e; rw [e] at nb; simp at nb; omega
  by_cases hlt : a < b
  · rw [under_none (.inr (by omega)), decide_eq_false (by omega)]
  · rw [under_of db (by omega), nb]
    have ga := good_ending g ha (by rw [← e]; exact ha2)
    have sa := ending_split g ha (by rw [← e]; exact ha2)
    have e1 : ending (ending h.name a) b = ending h.name b := by
      unfold ending at sa ⊢
      rw [sa, List.length_drop, List.drop_drop]
      congr 2
      rw [e] at ha2 hb2
      omega
    show (decide (ending (ending h.name a) b = ending h.name b) && !decide (ending (ending h.name a) b = ending h.name a)) = _
    rw [e1, decide_eq_true rfl, Bool.true_and]
    by_cases hba : b < a
    · rw [decide_eq_true hba, Bool.not_eq_true', decide_eq_false_iff_not]
      intro e2
      have := congrArg (fun n => (Oct.split 46 n).length) e2
      simp only [sa, ending_split g hb (by rw [← e]; exact hb2), List.length_drop] at this
      rw [e] at ha2 hb2
      omega
    · have : a = b := by omega
      subst this
      rw [decide_eq_true rfl, decide_eq_false (by omega)]; rfl
theorem end_same {h : Host} (hl : labels h ≠ []) {a b : Nat} (ha : 1 ≤ a) (ha2 : a ≤ (labels h).length) (hb : 1 ≤ b) (hb2 : b ≤ (labels h).length) :
    decide ((⟨1, ending h.name a, nil16⟩ : Host) = ⟨1, ending h.name b, nil16⟩) = decide (a = b) := by
  rw [decide_eq_decide]
  constructor
  · intro e
    have := congrArg (fun x => (labels x).length) e
    simp only [end_labels hl ha ha2, end_labels hl hb hb2, List.length_drop] at this
    omega
  · rintro rfl; rfl
theorem end_all {h : Host} (hl : labels h ≠ []) : (⟨1, ending h.name (labels h).length, nil16⟩ : Host) = h := by
  obtain ⟨_, g, eh, e⟩ := labels_good hl
  rw [e, ending_whole rfl, ← eh]
theorem under_top {h : Host} (hl : labels h ≠ []) {a : Nat} (ha : 1 ≤ a) (ha2 : a ≤ (labels h).length) : under h ⟨1, ending h.name a, nil16⟩ = decide (a < (labels h).length) := by
  have := under_end hl (a := (labels h).length) (b := a) (List.length_pos_iff.2 hl) (Nat.le_refl _) ha ha2
  rw [end_all hl] at this
  exact this
end Hst
end Go.Proofs.Ytdidogcgoghdmaa
/- Plain functions on URLs, and plain lemmas on them. No program is named here. -/
namespace Go.Proofs.Ytdidogcgoghdmaa
namespace Hst
/-- A host's text, of whatever kind. -/
def text (h : Host) : List UInt8 := if h.kind = 1 then h.name else if h.kind = 2 then Adr.tx4 (h.addr.drop 12) else if h.kind = 3 then 91 :: (Adr.tx6 (Adr.groups h.addr) ++ [93]) else []
/-- Can it be? -/
def can (h : Host) : Bool := decide (parse (text h) = some h)
theorem can_right {h : Host} (hk : h.kind = 1) : can h = right h := by unfold can right text; rw [if_pos hk]
/-! ### The bytes of a text that is a host -/
theorem mem_join {at_ c : UInt8} : ∀ {ps : List (List UInt8)}, c ∈ Lib.join ps [at_] → c = at_ ∨ ∃ p ∈ ps, c ∈ p
  | [], h => by rw [Lib.join_nil] at h; cases h
  | [x], h => by rw [Lib.join_one] at h; exact .inr ⟨x, by simp, h⟩
  | x :: y :: r, h => by
    rw [Adr.join_step] at h
    rcases List.mem_append.1 h with h | h
    · exact .inr ⟨x, by simp, h⟩
    · rcases List.mem_cons.1 h with h | h
      · exact .inl h
      · rcases mem_join h with h | ⟨p, hp, hc⟩
        · exact .inl h
        · exact .inr ⟨p, by simp [List.mem_cons.1 hp], hc⟩
theorem mem_split {at_ c : UInt8} {l : List UInt8} (h : c ∈ l) : c = at_ ∨ ∃ p ∈ Oct.split at_ l, c ∈ p := by
  rw [← join_split at_ l] at h
  exact mem_join h
def v6B (c : UInt8) : Bool := Adr.hexB c || decide (c = 58)
theorem isRow_bytes {b : List UInt8} (h : Adr.isRow b = true) : ∀ c ∈ b, v6B c = true := by
  intro c hc
  unfold Adr.isRow at h
  by_cases hb : b = []
  · subst hb; cases hc
  · rw [decide_eq_false hb, Bool.false_or] at h
    rcases mem_split (at_ := 58) hc with rfl | ⟨p, hp, hcp⟩
    · rfl
    · have := List.all_eq_true.1 h p hp
      unfold Adr.isGrp at this
      rw [Bool.and_eq_true] at this
      unfold v6B
      rw [List.all_eq_true.1 this.2 c hcp]; rfl
theorem v6_bytes {s : List UInt8} {g : List UInt16} (h : Adr.v6 s = some g) : ∀ c ∈ s, v6B c = true := by
  unfold Adr.v6 at h
  split at h
  · rename_i hh
    obtain ⟨h1, h2, _⟩ := hh
    have b1 := isRow_bytes h1
    have b2 := isRow_bytes h2
    intro c hc
    by_cases hk : ∃ j, Adr.Two s j
    · obtain ⟨j, hj⟩ := hk
      obtain ⟨i, _, hi, hn⟩ := Adr.first_of hj
      rw [cut_first hi hn] at b1 b2
      rw [hi.split] at hc
      rcases List.mem_append.1 hc with hc | hc
      · exact b1 c hc
      · rcases List.mem_cons.1 hc with rfl | hc
        · rfl
        · rcases List.mem_cons.1 hc with rfl | hc
          · rfl
          · exact b2 c hc
    · have e : Lib.cut s [58, 58] = (s, [], false) := Adr.cut_none fun j hj => hk ⟨j, hj⟩
      rw [e] at b1
      exact b1 c hc
  · cases h
theorem v4_bytes {s l : List UInt8} (h : Adr.v4 s = some l) : s ≠ [] ∧ ∀ c ∈ s, okB c = true ∨ c = 46 := by
  unfold Adr.v4 at h
  split at h
  · rename_i hh
    obtain ⟨h1, h2⟩ := hh
    refine ⟨by rintro rfl; exact absurd h1 (by decide), fun c hc => ?_⟩
    rcases mem_split (at_ := 46) hc with rfl | ⟨p, hp, hcp⟩
    · exact .inr rfl
    · have := List.all_eq_true.1 h2 p hp
      unfold Adr.okNum Oct.isNum Oct.digits at this
      simp only [Bool.and_eq_true] at this
      have hd := List.all_eq_true.1 this.1.1.1.2 c hcp
      unfold Oct.digitB at hd
      have := of_decide_eq_true hd
      exact .inl (decide_eq_true (by omega))
  · cases h
theorem name_bytes {s : List UInt8} (h : (Oct.split 46 s).all lab = true) : s ≠ [] ∧ ∀ c ∈ s, okB c = true ∨ c = 46 := by
  refine ⟨by rintro rfl; exact absurd h (by decide), fun c hc => ?_⟩
  rcases mem_split (at_ := 46) hc with rfl | ⟨p, hp, hcp⟩
  · exact .inr rfl
  · exact .inl ((lab_facts (List.all_eq_true.1 h p hp)).2.2 c hcp)
theorem parse_bytes {x : List UInt8} {h : Host} (hp : parse x = some h) : (∃ r, x = 91 :: (r ++ [93]) ∧ ∀ c ∈ r, v6B c = true) ∨ (x.head? ≠ some 91 ∧ x ≠ [] ∧ ∀ c ∈ x, okB c = true ∨ c = 46) := by
  unfold parse at hp
  split at hp
  · cases hp
  · split at hp
    · rename_i hh
      unfold v6part at hp
      split at hp
      · rename_i hl
        cases hv : Adr.v6 x.tail.dropLast with
        | none => rw [hv] at hp; cases hp
        | some g =>
          refine .inl ⟨x.tail.dropLast, ?_, v6_bytes hv⟩
          cases x with
          | nil => cases hh
          | cons c r =>
            simp at hh
            subst hh
            show 91 :: r = 91 :: (r.dropLast ++ [93])
            rcases List.eq_nil_or_concat r with rfl | ⟨q, d, rfl⟩
            · cases hl
            · rw [List.concat_eq_append] at hl ⊢
              simp at hl
              rw [hl, List.dropLast_concat]
      · cases hp
    · rename_i hh
      split at hp
      · unfold v4part at hp
        cases hv : Adr.v4 x with
        | none => rw [hv] at hp; cases hp
        | some l => exact .inr ⟨hh, v4_bytes hv⟩
      · split at hp
        · rename_i ha
          exact .inr ⟨hh, name_bytes ha⟩
        · cases hp
end Hst
namespace Ur
structure URL where
  secure : Bool
  host : Hst.Host
  port : Int
  path : List UInt8
instance : DecidableEq URL := fun a b =>
  if h : a.secure = b.secure ∧ a.host = b.host ∧ a.port = b.port ∧ a.path = b.path then isTrue (by
    cases a; cases b
    obtain ⟨h1, h2, h3, h4⟩ := h
    simp only at h1 h2 h3 h4
    rw [h1, h2, h3, h4])
  else isFalse (by rintro rfl; exact h ⟨rfl, rfl, rfl, rfl⟩)
def zero : URL := ⟨false, Hst.zero, 0, []⟩
/-- May a path have this byte? -/
def okP (c : UInt8) : Bool := decide (33 ≤ c.toNat ∧ c.toNat ≤ 126 ∧ c.toNat ≠ 63 ∧ c.toNat ≠ 35)
def isPath (s : List UInt8) : Bool := s.all okP && (decide (1 ≤ s.length ∧ s.length ≤ 2048) && decide (s.head? = some 47))
def right (u : URL) : Bool := Hst.can u.host && (decide (1 ≤ u.port ∧ u.port ≤ 65535) && isPath u.path)
def http : List UInt8 := [104, 116, 116, 112, 58, 47, 47]
def https : List UInt8 := [104, 116, 116, 112, 115, 58, 47, 47]
/-- The first place of one of some bytes; the length, if there is none. -/
def find (s some : List UInt8) : Nat := s.findIdx fun c => some.contains c
def scheme (s : List UInt8) : Option (Bool × List UInt8) :=
  if (s.take 7).map Oct.low = http then some (false, s.drop 7) else if (s.take 8).map Oct.low = https then some (true, s.drop 8) else none
def usual (secure : Bool) : Int := if secure then 443 else 80
def place (rest : List UInt8) : List UInt8 := rest.take (find rest [47, 63, 35])
def behind (rest : List UInt8) : List UInt8 := rest.drop (find rest [47, 63, 35])
def raw (rest : List UInt8) : List UInt8 := (behind rest).take (find (behind rest) [63, 35])
def pathOf (rest : List UInt8) : List UInt8 := if raw rest = [] then [47] else raw rest
def endOf (pl : List UInt8) : Nat := if pl.head? = some 91 then min (find pl [93] + 1) pl.length else find pl [58]
def portOf (secure : Bool) (b : List UInt8) : Option Int :=
  if b = [] then some (usual secure) else if Oct.isNum b.tail = true ∧ 1 ≤ Oct.number b.tail ∧ Oct.number b.tail ≤ 65535 then some (Oct.number b.tail : Int) else none
/-- What host and port, and path, come to: the error's number, and the URL. -/
def go (secure : Bool) (pl p : List UInt8) : Int × URL :=
  match Hst.parse (pl.take (endOf pl)) with
  | none => (31, zero)
  | some h =>
    if pl.drop (endOf pl) ≠ [] ∧ (pl.drop (endOf pl)).head? ≠ some 58 then (31, zero)
    else match portOf secure (pl.drop (endOf pl)) with
      | none => (42, zero)
      | some n => if isPath p = true then (0, ⟨secure, h, n, p⟩) else (43, zero)
def parse (s : List UInt8) : Int × URL :=
  match scheme s with
  | none => (41, zero)
  | some (secure, rest) => go secure (place rest) (pathOf rest)
def portText (u : URL) : List UInt8 := if u.port = usual u.secure then [] else 58 :: Lib.decDigits u.port.toNat
def text (u : URL) : List UInt8 :=
  if right u = true then (if u.secure then https else http) ++ (Hst.text u.host ++ (portText u ++ u.path)) else []
/-! ### Where a text is cut -/
theorem find_le (s some : List UInt8) : find s some ≤ s.length := List.findIdx_le_length
theorem find_append {s m some : List UInt8} (hm : m = [] ∨ ∃ c r, m = c :: r ∧ some.contains c = true) : find (s ++ m) some = find s some := by
  unfold find
  rw [List.findIdx_append]
  split
  · rfl
  · have hle := List.findIdx_le_length (p := fun c => some.contains c) (xs := s)
    have h0 : m.findIdx (fun c => some.contains c) = 0 := by
      rcases hm with rfl | ⟨c, r, rfl, hc⟩
      · rfl
      · rw [List.findIdx_cons, hc]; rfl
    omega
theorem find_none {s some : List UInt8} (h : ∀ c ∈ s, some.contains c = false) : find s some = s.length := by
  unfold find
  rw [List.findIdx_eq_length]
  exact h
/-- Where nothing of them stands, then one of them, or the end. -/
theorem find_at {s m some : List UInt8} (h : ∀ c ∈ s, some.contains c = false) (hm : m = [] ∨ ∃ c r, m = c :: r ∧ some.contains c = true) : find (s ++ m) some = s.length := by
  rw [find_append hm, find_none h]
theorem scheme_append {s rest m : List UInt8} {b : Bool} (h : scheme s = some (b, rest)) : scheme (s ++ m) = some (b, rest ++ m) := by
  unfold scheme at h ⊢
  split at h
  · rename_i h7
    have hl : 7 ≤ s.length := by
      have := congrArg List.length h7
      rw [List.length_map, List.length_take] at this
      have e : http.length = 7 := rfl
      omega
    obtain ⟨rfl, rfl⟩ := Prod.mk.inj (Option.some.inj h)
    rw [List.take_append_of_le_length hl, if_pos h7, List.drop_append_of_le_length hl]
  · rename_i h7
    split at h
    · rename_i h8
      have hl : 8 ≤ s.length := by
        have := congrArg List.length h8
        rw [List.length_map, List.length_take] at this
        have e : https.length = 8 := rfl
        omega
      obtain ⟨rfl, rfl⟩ := Prod.mk.inj (Option.some.inj h)
      rw [List.take_append_of_le_length (show 7 ≤ s.length by omega), if_neg h7, List.take_append_of_le_length hl, if_pos h8, List.drop_append_of_le_length hl]
    · cases h
theorem cut_append {rest m : List UInt8} {c : UInt8} {r : List UInt8} (hm : m = c :: r) (hc : c = 63 ∨ c = 35) : place (rest ++ m) = place rest ∧ pathOf (rest ++ m) = pathOf rest := by
  have e1 : find (rest ++ m) [47, 63, 35] = find rest [47, 63, 35] := find_append (.inr ⟨c, r, hm, by rcases hc with rfl | rfl <;> rfl⟩)
  have hle := find_le rest [47, 63, 35]
  have e2 : behind (rest ++ m) = behind rest ++ m := by
    unfold behind
    rw [e1, List.drop_append_of_le_length hle]
  have e3 : raw (rest ++ m) = raw rest := by
    unfold raw
    rw [e2, find_append (.inr ⟨c, r, hm, by rcases hc with rfl | rfl <;> rfl⟩), List.take_append_of_le_length (find_le _ _)]
  refine ⟨?_, ?_⟩
  · unfold place
    rw [e1, List.take_append_of_le_length hle]
  · unfold pathOf
    rw [e3]
/-- What stands behind the path changes nothing. -/
theorem parse_drops {s m : List UInt8} {c : UInt8} {r : List UInt8} (h : (parse s).1 = 0) (hm : m = c :: r) (hc : c = 63 ∨ c = 35) : parse (s ++ m) = parse s := by
  unfold parse at h ⊢
  cases hs : scheme s with
  | none => rw [hs] at h; exact absurd h (by show ¬ (41 : Int) = 0; omega)
  | some br =>
    obtain ⟨b, rest⟩ := br
    rw [scheme_append hs]
    obtain ⟨e1, e2⟩ := cut_append (rest := rest) hm hc
    show go b (place (rest ++ m)) (pathOf (rest ++ m)) = go b (place rest) (pathOf rest)
    rw [e1, e2]
theorem go_cases (b : Bool) (pl p : List UInt8) : go b pl p = (31, zero) ∨ go b pl p = (42, zero) ∨ go b pl p = (43, zero) ∨ (isPath p = true ∧ ∃ h n, go b pl p = (0, ⟨b, h, n, p⟩)) := by
  unfold go
  split
  · exact .inl rfl
  · split
    · exact .inl rfl
    · split
      · exact .inr (.inl rfl)
      · split
        · rename_i hp
          exact .inr (.inr (.inr ⟨hp, _, _, rfl⟩))
        · exact .inr (.inr (.inl rfl))
theorem go_zero {b : Bool} {pl p : List UInt8} (h : (go b pl p).1 ≠ 0) : (go b pl p).2 = zero := by
  rcases go_cases b pl p with e | e | e | ⟨_, x, n, e⟩ <;> rw [e] at h ⊢
  exact absurd rfl h
theorem go_path {b : Bool} {pl p : List UInt8} (h : (go b pl p).1 = 0) : isPath (go b pl p).2.path = true := by
  rcases go_cases b pl p with e | e | e | ⟨hp, x, n, e⟩ <;> rw [e] at h ⊢
  · exact absurd h (by show ¬ (31 : Int) = 0; omega)
  · exact absurd h (by show ¬ (42 : Int) = 0; omega)
  · exact absurd h (by show ¬ (43 : Int) = 0; omega)
  · exact hp
theorem parse_zero {s : List UInt8} (h : (parse s).1 ≠ 0) : (parse s).2 = zero := by
  unfold parse at h ⊢
  split
  · rfl
  · rename_i b rest hs
    rw [hs] at h
    exact go_zero h
theorem parse_path {s : List UInt8} (h : (parse s).1 = 0) : isPath (parse s).2.path = true := by
  unfold parse at h ⊢
  cases hs : scheme s with
  | none => rw [hs] at h; exact absurd h (by show ¬ (41 : Int) = 0; omega)
  | some br => rw [hs] at h; exact go_path h
/-! ### What is a path is one behind any host -/
theorem isPath_facts {s : List UInt8} (h : isPath s = true) : (∀ c ∈ s, okP c = true) ∧ 1 ≤ s.length ∧ s.length ≤ 2048 ∧ ∃ r, s = 47 :: r := by
  unfold isPath at h
  simp only [Bool.and_eq_true, decide_eq_true_eq] at h
  refine ⟨List.all_eq_true.1 h.1, h.2.1.1, h.2.1.2, ?_⟩
  cases s with
  | nil => exact absurd h.2.2 (by simp)
  | cons c r =>
    have := h.2.2
    simp at this
    exact ⟨r, by rw [this]⟩
theorem okP_free {c : UInt8} (h : okP c = true) : ([63, 35] : List UInt8).contains c = false := by
  unfold okP at h
  have := of_decide_eq_true h
  cases e : ([63, 35] : List UInt8).contains c with
  | false => rfl
  | true =>
    simp at e
    rcases e with rfl | rfl
    · exact absurd rfl this.2.2.1
    · exact absurd rfl this.2.2.2
/-- Host and port, then a path: cut there. -/
theorem cut_path {pl p : List UInt8} (hpl : ∀ c ∈ pl, ([47, 63, 35] : List UInt8).contains c = false) (hp : isPath p = true) : place (pl ++ p) = pl ∧ pathOf (pl ++ p) = p := by
  obtain ⟨hb, h1, _, r, hr⟩ := isPath_facts hp
  have e1 : find (pl ++ p) [47, 63, 35] = pl.length := find_at hpl (.inr ⟨47, r, hr, rfl⟩)
  have e2 : behind (pl ++ p) = p := by unfold behind; rw [e1, List.drop_left]
  have e3 : raw (pl ++ p) = p := by
    unfold raw
    rw [e2, find_none (fun c hc => okP_free (hb c hc)), List.take_length]
  refine ⟨by unfold place; rw [e1, List.take_left], ?_⟩
  unfold pathOf
  rw [e3, if_neg (by intro e; rw [e] at h1; simp at h1)]
theorem path_behind {s : List UInt8} (h : isPath s = true) : parse ([104, 116, 116, 112, 58, 47, 47, 97] ++ s) = (0, ⟨false, ⟨1, [97], Hst.nil16⟩, 80, s⟩) := by
  have hs : scheme ([104, 116, 116, 112, 58, 47, 47, 97] ++ s) = some (false, [97] ++ s) := by
    unfold scheme
    rw [if_pos (by show ([104, 116, 116, 112, 58, 47, 47] : List UInt8).map Oct.low = http; decide)]
    rfl
  obtain ⟨e1, e2⟩ := cut_path (pl := [97]) (by decide) h
  unfold parse
  rw [hs]
  show go false (place ([97] ++ s)) (pathOf ([97] ++ s)) = _
  rw [e1, e2]
  have e3 : Hst.parse (([97] : List UInt8).take (endOf [97])) = some ⟨1, [97], Hst.nil16⟩ := by decide +kernel
  have e4 : ([97] : List UInt8).drop (endOf [97]) = [] := by decide
  unfold go
  rw [e3, e4]
  dsimp only
  rw [if_neg (by simp), show portOf false [] = some 80 from rfl]
  dsimp only
  rw [if_pos h]
/-! ### What can be is read from its text -/
theorem dec_digits : ∀ n : Nat, (Lib.decDigits n).all Oct.digitB = true ∧ Oct.numOf (Lib.decDigits n) = n ∧ Lib.decDigits n ≠ [] := by
  intro n
  induction n using Nat.strongRecOn with
  | _ n ih =>
    unfold Lib.decDigits
    split
    · rename_i h
      have e : (UInt8.ofNat (48 + n)).toNat = 48 + n := by rw [UInt8.toNat_ofNat']; omega
      refine ⟨?_, ?_, by simp⟩
      · show (Oct.digitB (UInt8.ofNat (48 + n)) && true) = true
        unfold Oct.digitB
        rw [e, decide_eq_true (by omega)]; rfl
      · show 0 * 10 + ((UInt8.ofNat (48 + n)).toNat - 48) = n
        omega
    · rename_i h
      obtain ⟨h1, h2, h3⟩ := ih (n / 10) (by omega)
      have e : (UInt8.ofNat (48 + n % 10)).toNat = 48 + n % 10 := by rw [UInt8.toNat_ofNat']; omega
      refine ⟨?_, ?_, by simp⟩
      · rw [List.all_append, h1]
        show (true && (Oct.digitB (UInt8.ofNat (48 + n % 10)) && true)) = true
        unfold Oct.digitB
        rw [e, decide_eq_true (by omega)]; rfl
      · rw [Oct.numOf_snoc, h2, e]; omega
theorem dec_length : ∀ (k n : Nat), 1 ≤ k → n < 10 ^ k → (Lib.decDigits n).length ≤ k
  | 0, _, h, _ => by omega
  | 1, n, _, h => by unfold Lib.decDigits; rw [dif_pos (by omega)]; simp
  | k + 2, n, _, h => by
    unfold Lib.decDigits
    split
    · simp
    · have := dec_length (k + 1) (n / 10) (by omega) (by rw [Nat.pow_succ] at h; omega)
      rw [List.length_append, List.length_singleton]
      omega
theorem dec_head : ∀ n : Nat, 1 ≤ n → (Lib.decDigits n).head? ≠ some 48 := by
  intro n
  induction n using Nat.strongRecOn with
  | _ n ih =>
    intro h1
    unfold Lib.decDigits
    split
    · rename_i h
      intro e
      have := congrArg UInt8.toNat (Option.some.inj (show some (UInt8.ofNat (48 + n)) = some 48 from e))
      rw [UInt8.toNat_ofNat'] at this
      have e48 : (48 : UInt8).toNat = 48 := rfl
      omega
    · rename_i h
      have h2 := ih (n / 10) (by omega) (by omega)
      cases e : Lib.decDigits (n / 10) with
      | nil => exact absurd e (dec_digits (n / 10)).2.2
      | cons c r =>
        rw [e] at h2
        exact h2
theorem dec_number {n : Nat} (h1 : 1 ≤ n) (h2 : n ≤ 65535) : Oct.isNum (Lib.decDigits n) = true ∧ Oct.number (Lib.decDigits n) = n := by
  obtain ⟨a, b, c⟩ := dec_digits n
  have hl := dec_length 5 n (by omega) (by omega)
  have hh := dec_head n h1
  have e : Oct.isNum (Lib.decDigits n) = true := by
    unfold Oct.isNum Oct.digits
    rw [a, decide_eq_true c, decide_eq_true (show (Lib.decDigits n).length ≤ 18 by omega), decide_eq_true (fun k => absurd k hh)]
    rfl
  exact ⟨e, by unfold Oct.number; rw [if_pos e, b]⟩
theorem okB_free {c : UInt8} (h : Hst.okB c = true ∨ c = 46) : ([47, 63, 35] : List UInt8).contains c = false ∧ ([58] : List UInt8).contains c = false := by
  have hc : c ≠ 47 ∧ c ≠ 63 ∧ c ≠ 35 ∧ c ≠ 58 := by
    rcases h with h | rfl
    · unfold Hst.okB at h
      have := of_decide_eq_true h
      refine ⟨?_, ?_, ?_, ?_⟩ <;> (rintro rfl; revert this; decide)
    · decide
  constructor
  · simp [hc.1, hc.2.1, hc.2.2.1]
  · simp [hc.2.2.2]
theorem v6B_free {c : UInt8} (h : Hst.v6B c = true) : ([47, 63, 35] : List UInt8).contains c = false ∧ ([93] : List UInt8).contains c = false := by
  have hc : c ≠ 47 ∧ c ≠ 63 ∧ c ≠ 35 ∧ c ≠ 93 := by
    unfold Hst.v6B at h
    rw [Bool.or_eq_true] at h
    rcases h with h | h
    · unfold Adr.hexB at h
      have := of_decide_eq_true h
      refine ⟨?_, ?_, ?_, ?_⟩ <;> (rintro rfl; revert this; decide)
    · have := of_decide_eq_true h
      subst this
      decide
  constructor
  · simp [hc.1, hc.2.1, hc.2.2.1]
  · simp [hc.2.2.2]
/-- The host of a place, and what is behind it. -/
theorem end_host {x m : List UInt8} {h : Hst.Host} (hx : Hst.parse x = some h) (hm : m = [] ∨ ∃ r, m = 58 :: r) : endOf (x ++ m) = x.length := by
  unfold endOf
  rcases Hst.parse_bytes hx with ⟨r, rfl, hr⟩ | ⟨hh, hn, hb⟩
  · rw [if_pos (show (91 :: (r ++ [93]) ++ m : List UInt8).head? = some 91 from rfl)]
    have e : find (91 :: (r ++ [93]) ++ m) [93] = r.length + 1 := by
      have := find_at (s := 91 :: r) (m := 93 :: m) (some := [93]) (by
        intro c hc
        rcases List.mem_cons.1 hc with rfl | hc
        · rfl
        · exact (v6B_free (hr c hc)).2) (.inr ⟨93, m, rfl, rfl⟩)
      have e2 : (91 :: (r ++ [93]) ++ m : List UInt8) = (91 :: r) ++ 93 :: m := by simp
      rw [e2, this]; rfl
    rw [e]
    simp
  · have e0 : (x ++ m).head? = x.head? := by
      cases x with
      | nil => exact absurd rfl hn
      | cons c r => rfl
    rw [e0, if_neg hh]
    refine find_at (fun c hc => (okB_free (hb c hc)).2) ?_
    rcases hm with rfl | ⟨r, rfl⟩
    · exact .inl rfl
    · exact .inr ⟨58, r, rfl, rfl⟩
theorem host_free {x : List UInt8} {h : Hst.Host} (hx : Hst.parse x = some h) : ∀ c ∈ x, ([47, 63, 35] : List UInt8).contains c = false := by
  intro c hc
  rcases Hst.parse_bytes hx with ⟨r, rfl, hr⟩ | ⟨hh, hn, hb⟩
  · rcases List.mem_cons.1 hc with rfl | hc
    · rfl
    · rcases List.mem_append.1 hc with hc | hc
      · exact (v6B_free (hr c hc)).1
      · rw [List.mem_singleton.1 hc]; rfl
  · exact (okB_free (hb c hc)).1
theorem scheme_text (b : Bool) (r : List UInt8) : scheme ((if b then https else http) ++ r) = some (b, r) := by
  unfold scheme
  cases b
  · rw [if_pos (by show ([104, 116, 116, 112, 58, 47, 47] : List UInt8).map Oct.low = http; decide)]; rfl
  · rw [if_neg (by show ¬ ([104, 116, 116, 112, 115, 58, 47] : List UInt8).map Oct.low = http; decide), if_pos (by show ([104, 116, 116, 112, 115, 58, 47, 47] : List UInt8).map Oct.low = https; decide)]; rfl
theorem parse_text {u : URL} (h : right u = true) : parse (text u) = (0, u) := by
  have hr := h
  unfold right at hr
  simp only [Bool.and_eq_true, decide_eq_true_eq] at hr
  obtain ⟨hc, ⟨hp1, hp2⟩, hpath⟩ := hr
  have hx : Hst.parse (Hst.text u.host) = some u.host := of_decide_eq_true hc
  have hm : portText u = [] ∨ ∃ r, portText u = 58 :: r := by
    unfold portText
    split
    · exact .inl rfl
    · exact .inr ⟨_, rfl⟩
  have hfree : ∀ c ∈ Hst.text u.host ++ portText u, ([47, 63, 35] : List UInt8).contains c = false := by
    intro c hc
    rcases List.mem_append.1 hc with hc | hc
    · exact host_free hx c hc
    · unfold portText at hc
      split at hc
      · cases hc
      · rcases List.mem_cons.1 hc with rfl | hc
        · rfl
        · have hd := List.all_eq_true.1 (dec_digits u.port.toNat).1 c hc
          unfold Oct.digitB at hd
          have := of_decide_eq_true hd
          exact (okB_free (.inl (decide_eq_true (by omega)))).1
  obtain ⟨e1, e2⟩ := cut_path hfree hpath
  have e3 := end_host hx hm
  have e4 : portOf u.secure (portText u) = some u.port := by
    unfold portOf portText
    by_cases hk : u.port = usual u.secure
    · rw [if_pos hk, if_pos rfl, hk]
    · rw [if_neg hk, if_neg (by simp)]
      obtain ⟨d1, d2⟩ := dec_number (n := u.port.toNat) (by omega) (by omega)
      show (if Oct.isNum (Lib.decDigits u.port.toNat) = true ∧ 1 ≤ Oct.number (Lib.decDigits u.port.toNat) ∧ Oct.number (Lib.decDigits u.port.toNat) ≤ 65535 then some ((Oct.number (Lib.decDigits u.port.toNat) : Nat) : Int) else none) = _
      rw [d2, if_pos ⟨d1, by omega, by omega⟩]
      exact congrArg some (by omega)
  unfold parse text
  rw [if_pos h, scheme_text, ← List.append_assoc]
  show go u.secure (place ((Hst.text u.host ++ portText u) ++ u.path)) (pathOf ((Hst.text u.host ++ portText u) ++ u.path)) = _
  rw [e1, e2]
  unfold go
  rw [e3, List.take_left, List.drop_left, hx]
  dsimp only
  rw [if_neg (by
    rintro ⟨k1, k2⟩
    rcases hm with k | ⟨r, k⟩
    · exact k1 k
    · rw [k] at k2; exact k2 rfl), e4]
  dsimp only
  rw [if_pos hpath]
theorem text_wrong {u : URL} (h : right u = false) : text u = [] ∧ parse (text u) = (41, zero) := by
  have e : text u = [] := by unfold text; rw [if_neg (by rw [h]; simp)]
  exact ⟨e, by rw [e]; decide +kernel⟩
end Ur
end Go.Proofs.Ytdidogcgoghdmaa
/- Plain lemmas on where the calls of package url cut a text. No program is named here. -/
namespace Go.Proofs.Ytdidogcgoghdmaa
namespace Ur
theorem indexAny_find : ∀ (s any : List UInt8), Lib.indexAny s any = if find s any < s.length then (find s any : Int) else -1
  | [], any => by unfold find; simp [Lib.indexAny]
  | c :: r, any => by
    have ih := indexAny_find r any
    have hf : find (c :: r) any = if any.contains c then 0 else find r any + 1 := by
      unfold find
      rw [List.findIdx_cons]
      cases any.contains c <;> rfl
    unfold Lib.indexAny
    rw [hf, ih]
    cases any.contains c with
    | true => simp
    | false =>
      have hle := find_le r any
      by_cases h : find r any < r.length
      · simp [h]
        try omega
      · simp [h]
/-- Where one of them is found, or none. -/
theorem indexAny_at {s some : List UInt8} (h : Lib.indexAny s some < 0) : s.take (find s some) = s ∧ s.drop (find s some) = [] := by
  have hle := find_le s some
  rw [indexAny_find] at h
  split at h
  · omega
  · have e : find s some = s.length := by omega
    rw [e, List.take_length, List.drop_length]
    exact ⟨rfl, rfl⟩
theorem indexAny_hits {s some : List UInt8} (h : ¬ Lib.indexAny s some < 0) : Lib.indexAny s some = (find s some : Int) ∧ find s some < s.length := by
  rw [indexAny_find] at h ⊢
  split
  · rename_i k; exact ⟨rfl, k⟩
  · rename_i k; rw [if_neg k] at h; omega
/-! ### The scheme -/
def folded (s b : List UInt8) : Bool := decide (b.length ≤ s.length) && Oct.sameB (s.take b.length) b
theorem folded_http (s : List UInt8) : folded s http = decide ((s.take 7).map Oct.low = http) := by
  unfold folded Oct.sameB
  have e : http.map Oct.low = http := by decide
  have el : http.length = 7 := rfl
  rw [e, el, Bool.eq_iff_iff]
  simp only [Bool.and_eq_true, decide_eq_true_eq]
  refine ⟨fun h => h.2, fun h => ⟨?_, h⟩⟩
  have := congrArg List.length h
  rw [List.length_map, List.length_take, el] at this
  omega
theorem folded_https (s : List UInt8) : folded s https = decide ((s.take 8).map Oct.low = https) := by
  unfold folded Oct.sameB
  have e : https.map Oct.low = https := by decide
  have el : https.length = 8 := rfl
  rw [e, el, Bool.eq_iff_iff]
  simp only [Bool.and_eq_true, decide_eq_true_eq]
  refine ⟨fun h => h.2, fun h => ⟨?_, h⟩⟩
  have := congrArg List.length h
  rw [List.length_map, List.length_take, el] at this
  omega
theorem scheme_is (s : List UInt8) : scheme s = if folded s http = true then some (false, s.drop 7) else if folded s https = true then some (true, s.drop 8) else none := by
  unfold scheme
  rw [folded_http, folded_https]
  simp only [decide_eq_true_eq]
/-- What cutScheme answers. -/
def secure? (s : List UInt8) : Bool := match scheme s with | some (b, _) => b | none => false
def rest? (s : List UInt8) : List UInt8 := match scheme s with | some (_, r) => r | none => []
/-! ### The host -/
theorem endOf_plain {pl : List UInt8} (h : pl.head? ≠ some 91) : endOf pl = find pl [58] := by unfold endOf; rw [if_neg h]
theorem cut_find (l : List UInt8) (c : UInt8) : Lib.cut l [c] = if find l [c] < l.length then (l.take (find l [c]), l.drop (find l [c] + 1), true) else (l, [], false) := by
  unfold Lib.cut
  rw [Lib.index_one, ← Lib.indexAny_one, indexAny_find]
  by_cases h : find l [c] < l.length
  · rw [if_pos h, if_pos h, if_pos (by omega), Int.toNat_natCast]; rfl
  · rw [if_neg h, if_neg h, if_neg (by omega)]
theorem bracket_none {pl : List UInt8} (h : pl.head? = some 91) (hc : (Lib.cut pl [93]).2.2 = false) : pl.take (endOf pl) = pl ∧ pl.drop (endOf pl) = [] := by
  rw [cut_find] at hc
  split at hc
  · cases hc
  · have hle := find_le pl [93]
    have e : endOf pl = pl.length := by unfold endOf; rw [if_pos h]; omega
    rw [e, List.take_length, List.drop_length]
    exact ⟨rfl, rfl⟩
theorem bracket_some {pl : List UInt8} (h : pl.head? = some 91) (hc : (Lib.cut pl [93]).2.2 = true) : pl.take (endOf pl) = (Lib.cut pl [93]).1 ++ [93] ∧ pl.drop (endOf pl) = (Lib.cut pl [93]).2.1 := by
  rw [cut_find] at hc ⊢
  split at hc
  · rename_i hl
    have e : endOf pl = find pl [93] + 1 := by unfold endOf; rw [if_pos h]; omega
    rw [if_pos hl, e]
    refine ⟨?_, rfl⟩
    have hg : pl[find pl [93]]? = some 93 := by
      unfold find at hl ⊢
      rw [List.getElem?_eq_getElem hl]
      have := List.findIdx_getElem (w := hl)
      have h2 : ([93] : List UInt8).contains (pl[List.findIdx (fun c => ([93] : List UInt8).contains c) pl]'hl) = true := this
      rw [List.contains_iff_mem, List.mem_singleton] at h2
      rw [h2]
    rw [List.take_add_one, hg]; rfl
  · cases hc
/-! ### The port -/
theorem port_named {b : List UInt8} (secure : Bool) (h : b.head? = some 58) : portOf secure b = if Oct.isNum b.tail = true ∧ 1 ≤ Oct.number b.tail ∧ Oct.number b.tail ≤ 65535 then some (Oct.number b.tail : Int) else none := by
  unfold portOf
  rw [if_neg (by rintro rfl; cases h)]
theorem port_none {b : List UInt8} (secure : Bool) (h : b = []) : portOf secure b = some (usual secure) := by
  unfold portOf; rw [if_pos h]
end Ur
end Go.Proofs.Ytdidogcgoghdmaa
/- Plain lemmas on runes: what is read of bytes beyond the first 128 holds such bytes alone, and what is written of such a rune ends with one. No program is named here. -/
namespace Go.Proofs.Ytdidogcgoghdmaa
namespace Rune
theorem get_byte (s : ByteArray) (k : Nat) (h : k < s.size) : s.get! k = s[k]'h := by
  simp [ByteArray.get!, getElem!_pos, h]
  rfl
theorem cont_high {n : Nat} (h : n / 64 = 2) : 128 ≤ n := by omega
/-- Where a byte beyond 127 stands, all bytes of the rune are such. -/
theorem decode_skip (s : ByteArray) (pos : Nat) (h : pos < s.size) (ha : 128 ≤ (s[pos]'h).toNat) :
    ∀ k, pos ≤ k → k < pos + (Utf8.decode s pos).2 → ∃ hk : k < s.size, 128 ≤ (s[k]'hk).toNat := by
  have hn : ¬ (s[pos]'h).toNat < 128 := by omega
  have one : ∀ k, pos ≤ k → k < pos + 1 → ∃ hk : k < s.size, 128 ≤ (s[k]'hk).toNat := by
    intro k h1 h2
    obtain rfl : k = pos := by omega
    exact ⟨h, ha⟩
  have more : ∀ j, (decide (pos + j < s.size) && ((s.get! (pos + j)).toNat / 64 == 2)) = true → ∃ hk : pos + j < s.size, 128 ≤ (s[pos + j]'hk).toNat := by
    intro j hj
    rw [Bool.and_eq_true, decide_eq_true_eq, beq_iff_eq] at hj
    refine ⟨hj.1, ?_⟩
    rw [get_byte s _ hj.1] at hj
    exact cont_high hj.2
  simp only [Utf8.decode, get_at s pos h, hn, if_false]
  split
  · rename_i hc
    rw [Bool.and_eq_true] at hc
    have m1 := more 1 hc.2
    split
    · intro k h1 h2
      rcases Nat.lt_or_ge k (pos + 1) with hk | hk
      · exact one k h1 hk
      · obtain rfl : k = pos + 1 := by simp at h2; omega
        exact m1
    · exact one
  · split
    · rename_i hc
      rw [Bool.and_eq_true, Bool.and_eq_true] at hc
      have m1 := more 1 hc.1.2
      have m2 := more 2 hc.2
      split
      · intro k h1 h2
        rcases Nat.lt_or_ge k (pos + 1) with hk | hk
        · exact one k h1 hk
        · rcases Nat.lt_or_ge k (pos + 2) with hk2 | hk2
          · obtain rfl : k = pos + 1 := by omega
            exact m1
          · obtain rfl : k = pos + 2 := by simp at h2; omega
            exact m2
      · exact one
    · split
      · rename_i hc
        rw [Bool.and_eq_true, Bool.and_eq_true, Bool.and_eq_true] at hc
        have m1 := more 1 hc.1.1.2
        have m2 := more 2 hc.1.2
        have m3 := more 3 hc.2
        split
        · intro k h1 h2
          rcases Nat.lt_or_ge k (pos + 1) with hk | hk
          · exact one k h1 hk
          · rcases Nat.lt_or_ge k (pos + 2) with hk2 | hk2
            · obtain rfl : k = pos + 1 := by omega
              exact m1
            · rcases Nat.lt_or_ge k (pos + 3) with hk3 | hk3
              · obtain rfl : k = pos + 2 := by omega
                exact m2
              · obtain rfl : k = pos + 3 := by simp at h2; omega
                exact m3
        · exact one
      · exact one
theorem high_byte (n : Nat) : 128 ≤ (UInt8.ofNat (128 + n % 64)).toNat := by rw [UInt8.toNat_ofNat']; omega
/-- What is written of a rune beyond 127: two bytes or more, the last one beyond 127. -/
theorem encode_high (r : Int) (h : 128 ≤ r) : ∃ n c, (Utf8.encode r).size = n + 2 ∧ n ≤ 2 ∧ (Utf8.encode r).data.toList[n + 1]? = some c ∧ 128 ≤ c.toNat := by
  unfold Utf8.encode
  have hc : ¬ (if Utf8.valid r then r.toNat else Utf8.runeError) < 128 := by
    split
    · omega
    · decide
  generalize (if Utf8.valid r then r.toNat else Utf8.runeError) = c at hc
  simp only [hc, if_false]
  split
  · exact ⟨0, _, rfl, by omega, rfl, high_byte _⟩
  · split
    · exact ⟨1, _, rfl, by omega, rfl, high_byte _⟩
    · exact ⟨2, _, rfl, by omega, rfl, high_byte _⟩
theorem any_skip {s chars : List UInt8} {i j : Nat} (hi : Lib.NoAny s chars i) (hm : ∀ (k : Nat) b, i ≤ k → k < j → s[k]? = some b → chars.contains b = false) : Lib.NoAny s chars j := by
  intro k b hk hb
  rcases Nat.lt_or_ge k i with h | h
  · exact hi k b h hb
  · exact hm k b h hk hb
theorem low_free {chars : List UInt8} {b : UInt8} (hch : ∀ c ∈ chars, c.toNat < 128) (hb : 128 ≤ b.toNat) : chars.contains b = false := by
  cases e : chars.contains b with
  | false => rfl
  | true =>
    have := hch b (List.contains_iff_mem.1 e)
    omega
/-- Bytes below 128 hold none beyond. -/
theorem no_byte {c : UInt8} (hc : 128 ≤ c.toNat) : ∀ {l : List UInt8}, (∀ b ∈ l, b.toNat < 128) → Lib.indexByte l c = -1
  | [], _ => rfl
  | x :: r, h => by
    have hne : x ≠ c := fun e => by have := h x (by simp); rw [e] at this; omega
    have ih := no_byte hc (l := r) fun b hb => h b (by simp [hb])
    show (if x == c then 0 else if Lib.indexByte r c == -1 then -1 else Lib.indexByte r c + 1) = -1
    rw [ih, beq_eq_false_iff_ne.2 hne]; rfl
end Rune
end Go.Proofs.Ytdidogcgoghdmaa
/- How long hosts' texts are. No program is named here. -/
namespace Go.Proofs.Ytdidogcgoghdmaa
namespace Hst
theorem tx6_short {g : List UInt16} (hg : g.length = 8) : (Adr.tx6 g).length ≤ 82 := by
  have h1 := Adr.rowT_length g
  have h2 := Adr.rowT_length (g.take (Adr.nf g))
  have h3 := Adr.rowT_length (g.drop (Adr.nt g))
  rw [List.length_take] at h2
  rw [List.length_drop] at h3
  unfold Adr.tx6
  split
  · omega
  · rw [List.length_append, List.length_cons, List.length_cons]
    omega
theorem tx4_short {l : List UInt8} (hl : l.length = 4) : (Adr.tx4 l).length ≤ 16 := by
  have := Adr.join_length [46] rfl 3 (l.map fun c => Lib.decDigits c.toNat) (fun p hp => by
    obtain ⟨c, _, rfl⟩ := List.mem_map.1 hp
    have := c.toNat_lt
    exact Ur.dec_length 3 _ (by omega) (by omega))
  rw [List.length_map, hl] at this
  exact this
theorem text_length (h : Host) (ha : h.addr.length = 16) : (text h).length ≤ h.name.length + 84 := by
  unfold text
  split
  · omega
  · split
    · have := tx4_short (l := h.addr.drop 12) (by rw [List.length_drop, ha])
      omega
    · split
      · have := tx6_short (Adr.groups_length 8 h.addr ha)
        rw [List.length_cons, List.length_append, List.length_singleton]
        omega
      · exact Nat.zero_le _
end Hst
end Go.Proofs.Ytdidogcgoghdmaa
/- Plain lemmas on texts without the blanks at their ends. No program is named here. -/
namespace Go.Proofs.Ytdidogcgoghdmaa
theorem extract_take (s : ByteArray) (n : Nat) : s.extract 0 n = ⟨(s.data.toList.take n).toArray⟩ := by
  apply ByteArray.ext
  rw [ByteArray.data_extract]
  apply Array.ext'
  rw [Array.toList_extract]
  simp [List.extract]
theorem extract_drop (s : ByteArray) (n : Nat) : s.extract n s.size = ⟨(s.data.toList.drop n).toArray⟩ := by
  apply ByteArray.ext
  rw [ByteArray.data_extract]
  apply Array.ext'
  rw [Array.toList_extract]
  have h : s.size = s.data.toList.length := (Oct.length_bytes s).symm
  rw [List.extract_eq_drop_take', List.drop_take, h, List.take_of_length_le (by rw [List.length_drop]; exact Nat.le_refl _)]
theorem mk_bytes (s : ByteArray) : (⟨s.data.toList.toArray⟩ : ByteArray) = s := by
  apply ByteArray.ext
  simp
namespace Oct
/-- Without the blanks at its end. -/
def chopEnd (l : List UInt8) : List UInt8 := (l.reverse.dropWhile blankB).reverse
/-- Without the blanks at both ends. -/
def trim (l : List UInt8) : List UInt8 := chopEnd (l.dropWhile blankB)
theorem chopEnd_nil : chopEnd [] = [] := rfl
theorem chopEnd_yes (u : List UInt8) (c : UInt8) (h : blankB c = true) : chopEnd (u ++ [c]) = chopEnd u := by
  unfold chopEnd; rw [List.reverse_append, List.reverse_singleton, List.singleton_append, List.dropWhile_cons_of_pos h]
theorem chopEnd_no (u : List UInt8) (c : UInt8) (h : blankB c = false) : chopEnd (u ++ [c]) = u ++ [c] := by
  unfold chopEnd; rw [List.reverse_append, List.reverse_singleton, List.singleton_append, List.dropWhile_cons_of_neg (by simp [h])]; simp
theorem drop_yes {l : List UInt8} {k : Nat} (h : k < l.length) (hb : blankB l[k] = true) : (l.drop k).dropWhile blankB = (l.drop (k + 1)).dropWhile blankB := by
  rw [List.drop_eq_getElem_cons h, List.dropWhile_cons_of_pos hb]
theorem drop_no {l : List UInt8} {k : Nat} (h : k < l.length) (hb : blankB l[k] = false) : (l.drop k).dropWhile blankB = l.drop k := by
  rw [List.drop_eq_getElem_cons h, List.dropWhile_cons_of_neg (by simp [hb])]
theorem drop_end {l : List UInt8} {k : Nat} (h : l.length ≤ k) : (l.drop k).dropWhile blankB = l.drop k := by
  rw [List.drop_eq_nil_of_le h]; rfl
/-- The piece from k to m. -/
def mid (l : List UInt8) (k m : Nat) : List UInt8 := (l.drop k).take (m - k)
theorem mid_succ {l : List UInt8} {k m : Nat} (hk : k < m) (hm : m ≤ l.length) : mid l k m = mid l k (m - 1) ++ [l[m - 1]] := by
  unfold mid
  rw [show m - k = (m - 1 - k) + 1 by omega, List.take_succ_eq_append_getElem (by rw [List.length_drop]; omega), List.getElem_drop]
  have : k + (m - 1 - k) = m - 1 := by omega
  simp only [this]
theorem mid_all {l : List UInt8} {k m : Nat} (hm : l.length ≤ m) : mid l k m = l.drop k := by unfold mid; rw [List.take_of_length_le (by rw [List.length_drop]; omega)]
theorem mid_none {l : List UInt8} {k m : Nat} (hm : m ≤ k) : mid l k m = [] := by unfold mid; rw [Nat.sub_eq_zero_of_le hm]; rfl
end Oct
namespace Oct
theorem text_mid (s : ByteArray) (t : ByteArray) (a b : Nat) (h : t = s.extract a b) : t.data.toList = mid s.data.toList a b := by rw [h, Lib.extract_data]; rfl
theorem tail_yes {u : ByteArray} (h : 0 < u.size) (hb : blankB u[0] = true) : u.data.toList.dropWhile blankB = (u.data.toList.drop 1).dropWhile blankB := by
  have := drop_yes (l := u.data.toList) (k := 0) (by rw [length_bytes]; exact h) hb
  simpa using this
theorem tail_no {u : ByteArray} (h : 0 < u.size) (hb : blankB u[0] = false) : u.data.toList.dropWhile blankB = u.data.toList := by
  have := drop_no (l := u.data.toList) (k := 0) (by rw [length_bytes]; exact h) hb
  simpa using this
theorem tail_end {u : ByteArray} (h : u.size = 0) : u.data.toList.dropWhile blankB = u.data.toList := by rw [(nil_size u).2 h]; rfl
theorem last_split {u : ByteArray} (h : u.size - 1 < u.size) : u.data.toList = u.data.toList.take (u.size - 1) ++ [u[u.size - 1]] := by
  have e := take_snoc u (u.size - 1) h
  rw [show u.size - 1 + 1 = u.size by omega, take_all u _ (Nat.le_refl _)] at e
  exact e
end Oct
end Go.Proofs.Ytdidogcgoghdmaa
/- Plain functions on the rules of a file, and plain lemmas on them: what the calls of package rule answer. No program is named here. -/
namespace Go.Proofs.Ytdidogcgoghdmaa
namespace Hst
theorem low_low (c : UInt8) : Oct.low (Oct.low c) = Oct.low c := by
  apply Oct.eq_of_toNat
  rw [Oct.low_toNat (Oct.low c), Oct.low_toNat]
  by_cases h : 65 ≤ c.toNat ∧ c.toNat ≤ 90
  · simp only [if_pos h]; rw [if_neg (by omega)]
  · simp only [if_neg h]
theorem okB_low (c : UInt8) : okB (Oct.low c) = okB c := by
  unfold okB
  rw [Oct.low_toNat, decide_eq_decide]
  split <;> omega
theorem lab_low (p : List UInt8) : lab (p.map Oct.low) = lab p := by
  unfold lab
  rw [List.length_map, List.all_map]
  congr 1
  congr 1
  funext c
  exact okB_low c
theorem map_low_low (s : List UInt8) : (s.map Oct.low).map Oct.low = s.map Oct.low := by
  rw [List.map_map]
  congr 1
  funext c
  exact low_low c
/-- What is read as a name is a name that can be. -/
theorem parse_good {s : List UInt8} {h : Host} (hp : parse s = some h) (hk : h.kind = 1) : Good h.name ∧ h = ⟨1, h.name, nil16⟩ ∧ h.name.length = s.length := by
  unfold parse at hp
  split at hp
  · cases hp
  · rename_i h1
    split at hp
    · unfold v6part at hp
      split at hp
      · cases hv : Adr.v6 s.tail.dropLast with
        | none => rw [hv] at hp; cases hp
        | some g =>
          rw [hv] at hp
          have := congrArg (fun o => o.map Host.kind) hp
          simp [hk] at this
      · cases hp
    · split at hp
      · unfold v4part at hp
        cases hv : Adr.v4 s with
        | none => rw [hv] at hp; cases hp
        | some l =>
          rw [hv] at hp
          have := congrArg (fun o => o.map Host.kind) hp
          simp [hk] at this
      · rename_i hd
        split at hp
        · rename_i ha
          have e := (Option.some.inj hp).symm
          subst e
          refine ⟨⟨?_, ?_, ?_, map_low_low s⟩, rfl, List.length_map _⟩
          · show (s.map Oct.low).length ≤ 253
            rw [List.length_map]; omega
          · show (Oct.split 46 (s.map Oct.low)).all lab = true
            rw [split_low, List.all_map]
            have e : (lab ∘ List.map Oct.low) = lab := by funext p; exact lab_low p
            rw [e]; exact ha
          · show Oct.digits (last (s.map Oct.low)) = false
            rw [last_low, digits_low]; simpa using hd
        · cases hp
end Hst
namespace Ru
/-- A rule: its kind, its name. -/
structure Rule where
  kind : Int
  name : List UInt8
instance : DecidableEq Rule := fun a b =>
  if h : a.kind = b.kind ∧ a.name = b.name then isTrue (by
    cases a; cases b
    obtain ⟨h1, h2⟩ := h
    simp only at h1 h2
    rw [h1, h2])
  else isFalse (by rintro rfl; exact h ⟨rfl, rfl⟩)
def zero : Rule := ⟨0, []⟩
/-- What stands ahead of the first blank. -/
def first (l : List UInt8) : List UInt8 := l.take (Ur.find l [32, 9])
def kind (t : List UInt8) : Int := if Lib.hasPrefix t [33] = true then 3 else if Lib.hasPrefix t [42, 46] = true then 2 else 1
def rest (t : List UInt8) : List UInt8 := if Lib.hasPrefix t [33] = true then Lib.trimPrefix t [33] else if Lib.hasPrefix t [42, 46] = true then Lib.trimPrefix t [42, 46] else t
/-- The rule of a kind and a name's text. -/
def named (k : Int) (n : List UInt8) : Option Rule :=
  match Hst.parse n with
  | some h => if h.kind = 1 ∧ (k = 3 → 2 ≤ (Hst.labels h).length) then some ⟨k, h.name⟩ else none
  | none => none
/-- Does a trimmed line say nothing? -/
def mute (t : List UInt8) : Bool := decide (t = []) || Lib.hasPrefix t [47, 47]
def rule (t : List UInt8) : Option Rule := named (kind (first t)) (rest (first t))
def said (o : Option Rule) : Int × Bool × Rule := match o with | some r => (0, true, r) | none => (51, false, zero)
/-- Of a line: the error's number, whether it says a rule, the rule. -/
def line (l : List UInt8) : Int × Bool × Rule := if mute (Oct.trim l) = true then (0, false, zero) else said (rule (Oct.trim l))
/-- A rule's text. -/
def text (r : Rule) : List UInt8 := if r.kind = 3 then 33 :: r.name else if r.kind = 2 then 42 :: 46 :: r.name else r.name
/-- A fault: the error's number, the line, the column. -/
structure Fault where
  code : Int
  line : Int
  col : Int
instance : DecidableEq Fault := fun a b =>
  if h : a.code = b.code ∧ a.line = b.line ∧ a.col = b.col then isTrue (by
    cases a; cases b
    obtain ⟨h1, h2, h3⟩ := h
    simp only at h1 h2 h3
    rw [h1, h2, h3])
  else isFalse (by rintro rfl; exact h ⟨rfl, rfl, rfl⟩)
def fine : Fault := ⟨0, 0, 0⟩
/-- Where a line's first byte stands that is no blank. -/
def col (l : List UInt8) : Int := ((l.takeWhile Oct.blankB).length : Int) + 1
/-- What keeps a rule from standing behind those that stand already. -/
def whyNot (acc : List Rule) (r : Rule) : Int := if r ∈ acc then 52 else if 200 ≤ acc.length then 53 else 0
def why (acc : List Rule) (l : List UInt8) : Int := if (line l).2.1 = true then whyNot acc (line l).2.2 else (line l).1
def more (acc : List Rule) (l : List UInt8) : List Rule := if (line l).2.1 = true then acc ++ [(line l).2.2] else acc
def go : List (List UInt8) → Nat → List Rule → Fault × List Rule
  | [], _, acc => (fine, acc)
  | l :: r, n, acc => if why acc l = 0 then go r (n + 1) (more acc l) else (⟨why acc l, ((n + 1 : Nat) : Int), col l⟩, [])
/-- Of a text: the fault, and the rules. -/
def file (s : List UInt8) : Fault × List Rule := if 20000 < s.length then (⟨54, 1, 1⟩, []) else go (Oct.lines s) 0 []
theorem go_nil (n : Nat) (acc : List Rule) : go [] n acc = (fine, acc) := rfl
theorem go_step (l : List UInt8) (r : List (List UInt8)) (n : Nat) (acc : List Rule) : go (l :: r) n acc = if why acc l = 0 then go r (n + 1) (more acc l) else (⟨why acc l, ((n + 1 : Nat) : Int), col l⟩, []) := rfl
theorem go_on {ls : List (List UInt8)} {k : Nat} {acc : List Rule} {l : List UInt8} {R : Fault × List Rule} (h : go (ls.drop k) k acc = R) (hl : ls[k]? = some l) (hw : why acc l = 0) : go (ls.drop (k + 1)) (k + 1) (more acc l) = R := by
  obtain ⟨hk, e⟩ := List.getElem?_eq_some_iff.1 hl
  rw [List.drop_eq_getElem_cons hk, e, go_step, if_pos hw] at h
  exact h
theorem go_off {ls : List (List UInt8)} {k : Nat} {acc : List Rule} {l : List UInt8} {R : Fault × List Rule} (h : go (ls.drop k) k acc = R) (hl : ls[k]? = some l) (hw : why acc l ≠ 0) : R = (⟨why acc l, ((k + 1 : Nat) : Int), col l⟩, []) := by
  obtain ⟨hk, e⟩ := List.getElem?_eq_some_iff.1 hl
  rw [List.drop_eq_getElem_cons hk, e, go_step, if_neg hw] at h
  exact h.symm
theorem go_end {ls : List (List UInt8)} {k : Nat} {acc : List Rule} {R : Fault × List Rule} (h : go (ls.drop k) k acc = R) (hk : ls.length ≤ k) : R = (fine, acc) := by
  rw [List.drop_eq_nil_of_le hk, go_nil] at h
  exact h.symm
/-! ### One line -/
theorem line_mute {l : List UInt8} (h : mute (Oct.trim l) = true) : line l = (0, false, zero) := by unfold line; rw [if_pos h]
theorem line_said {l : List UInt8} (h : mute (Oct.trim l) = false) : line l = said (rule (Oct.trim l)) := by unfold line; rw [if_neg (by rw [h]; simp)]
theorem said_some (r : Rule) : said (some r) = (0, true, r) := rfl
theorem said_none : said none = (51, false, zero) := rfl
/-- A line says a rule and no fault, or a fault or nothing and no rule. -/
theorem line_cases (l : List UInt8) : (∃ r, line l = (0, true, r) ∧ rule (Oct.trim l) = some r) ∨ line l = (0, false, zero) ∨ line l = (51, false, zero) := by
  unfold line
  split
  · exact .inr (.inl rfl)
  · cases h : rule (Oct.trim l) with
    | none => exact .inr (.inr rfl)
    | some r => exact .inl ⟨r, rfl, rfl⟩
theorem kind_cases (t : List UInt8) : kind t = 1 ∨ kind t = 2 ∨ kind t = 3 := by
  unfold kind
  split
  · exact .inr (.inr rfl)
  · split
    · exact .inr (.inl rfl)
    · exact .inl rfl
theorem named_facts {k : Int} {n : List UInt8} {r : Rule} (h : named k n = some r) : r.kind = k ∧ Hst.Good r.name ∧ (k = 3 → 2 ≤ (Oct.split 46 r.name).length) ∧ r.name.length = n.length := by
  unfold named at h
  cases hp : Hst.parse n with
  | none => rw [hp] at h; cases h
  | some x =>
    rw [hp] at h
    dsimp only at h
    split at h
    · rename_i hk
      have e := (Option.some.inj h).symm
      subst e
      have g := Hst.parse_good hp hk.1
      refine ⟨rfl, g.1, fun h3 => ?_, g.2.2⟩
      have := hk.2 h3
      rw [show x = ⟨1, x.name, Hst.nil16⟩ from g.2.1, Hst.good_labels g.1] at this
      exact this
    · cases h
/-- A rule that can stand. -/
structure Can (r : Rule) : Prop where
  kind : r.kind = 1 ∨ r.kind = 2 ∨ r.kind = 3
  good : Hst.Good r.name
  two : r.kind = 3 → 2 ≤ (Oct.split 46 r.name).length
theorem rule_can {t : List UInt8} {r : Rule} (h : rule t = some r) : Can r := by
  obtain ⟨h1, h2, h3, _⟩ := named_facts h
  exact ⟨by rw [h1]; exact kind_cases _, h2, fun k => h3 (by rw [← h1]; exact k)⟩
theorem line_can {l : List UInt8} {r : Rule} (h : line l = (0, true, r)) : Can r := by
  rcases line_cases l with ⟨x, h1, h2⟩ | h1 | h1
  · rw [h1] at h
    simp only [Prod.mk.injEq, true_and] at h
    subst h
    exact rule_can h2
  · rw [h1] at h; simp at h
  · rw [h1] at h; simp at h
/-! ### A rule's text says the rule -/
/-- A byte of a rule's text. -/
def okT (c : UInt8) : Bool := Hst.okB c || decide (c.toNat = 46 ∨ c.toNat = 33 ∨ c.toNat = 42)
theorem okT_facts {c : UInt8} (h : okT c = true) : Oct.blankB c = false ∧ ([32, 9] : List UInt8).contains c = false ∧ c ≠ 10 ∧ c ≠ 13 ∧ c ≠ 47 := by
  have hn : ∀ d : UInt8, d.toNat = 32 ∨ d.toNat = 9 ∨ d.toNat = 10 ∨ d.toNat = 13 ∨ d.toNat = 47 → c ≠ d := by
    intro d hd e
    subst e
    unfold okT Hst.okB at h
    simp only [Bool.or_eq_true, decide_eq_true_eq] at h
    omega
  have h1 := hn 32 (by decide)
  have h2 := hn 9 (by decide)
  refine ⟨?_, ?_, hn 10 (by decide), hn 13 (by decide), hn 47 (by decide)⟩
  · unfold Oct.blankB
    rw [decide_eq_false_iff_not]
    rintro (e | e)
    · exact h1 (Oct.eq_of_toNat e)
    · exact h2 (Oct.eq_of_toNat e)
  · simp [h1, h2]
theorem good_bytes {n : List UInt8} (h : Hst.Good n) : n ≠ [] ∧ ∀ c ∈ n, Hst.okB c = true ∨ c = 46 := Hst.name_bytes h.all
theorem okT_of {c : UInt8} (h : Hst.okB c = true ∨ c = 46) : okT c = true := by
  unfold okT
  rcases h with h | h
  · rw [h]; rfl
  · subst h; decide
theorem text_bytes {r : Rule} (h : Can r) : text r ≠ [] ∧ ∀ c ∈ text r, okT c = true := by
  obtain ⟨h1, h2⟩ := good_bytes h.good
  unfold text
  split
  · refine ⟨by simp, fun c hc => ?_⟩
    rcases List.mem_cons.1 hc with rfl | hc
    · decide
    · exact okT_of (h2 c hc)
  · split
    · refine ⟨by simp, fun c hc => ?_⟩
      rcases List.mem_cons.1 hc with rfl | hc
      · decide
      · rcases List.mem_cons.1 hc with rfl | hc
        · decide
        · exact okT_of (h2 c hc)
    · exact ⟨h1, fun c hc => okT_of (h2 c hc)⟩
theorem prefix_head {t : List UInt8} {c : UInt8} {r : List UInt8} (h : t.head? ≠ some c) : Lib.hasPrefix t (c :: r) = false := by
  cases t with
  | nil => rfl
  | cons d u =>
    have hn : c ≠ d := fun e => h (by rw [← e]; rfl)
    show ((c == d) && _) = false
    rw [beq_eq_false_iff_ne.2 hn]; rfl
theorem good_head {n : List UInt8} (h : Hst.Good n) {c : UInt8} (hc : Hst.okB c = false) (hd : c ≠ 46) : n.head? ≠ some c := by
  intro e
  have hm : c ∈ n := List.mem_of_mem_head? e
  rcases (good_bytes h).2 c hm with k | k
  · rw [hc] at k; cases k
  · exact hd k
theorem text_parts {r : Rule} (h : Can r) : kind (text r) = r.kind ∧ rest (text r) = r.name := by
  rcases h.kind with k | k | k
  · have e : text r = r.name := by unfold text; rw [if_neg (by omega), if_neg (by omega)]
    have p1 := prefix_head (r := []) (good_head h.good (c := 33) (by decide) (by decide))
    have p2 := prefix_head (r := [46]) (good_head h.good (c := 42) (by decide) (by decide))
    rw [e]
    unfold kind rest
    rw [p1, p2, k]; exact ⟨rfl, rfl⟩
  · have e : text r = 42 :: 46 :: r.name := by unfold text; rw [if_neg (by omega), if_pos k]
    rw [e, k]; exact ⟨rfl, rfl⟩
  · have e : text r = 33 :: r.name := by unfold text; rw [if_pos k]
    rw [e, k]; exact ⟨rfl, rfl⟩
theorem named_can {r : Rule} (h : Can r) : named r.kind r.name = some r := by
  unfold named
  rw [h.good.parse]
  dsimp only
  rw [if_pos ⟨rfl, fun k => by rw [Hst.good_labels h.good]; exact h.two k⟩]
theorem find_free {t m : List UInt8} (h : ∀ c ∈ t, okT c = true) (hm : m = [] ∨ ∃ c r, m = c :: r ∧ ([32, 9] : List UInt8).contains c = true) : first (t ++ m) = t := by
  unfold first
  rw [Ur.find_at (fun c hc => (okT_facts (h c hc)).2.1) hm, List.take_left]
theorem rule_text {r : Rule} (h : Can r) {m : List UInt8} (hm : m = [] ∨ ∃ c r, m = c :: r ∧ ([32, 9] : List UInt8).contains c = true) : rule (text r ++ m) = some r := by
  unfold rule
  rw [find_free (text_bytes h).2 hm, (text_parts h).1, (text_parts h).2, named_can h]
theorem dropWhile_free {t : List UInt8} (ht : t ≠ []) (h : ∀ c ∈ t, okT c = true) (m : List UInt8) : (t ++ m).dropWhile Oct.blankB = t ++ m := by
  cases t with
  | nil => exact absurd rfl ht
  | cons c r => rw [List.cons_append, List.dropWhile_cons_of_neg (by rw [(okT_facts (h c (by simp))).1]; simp)]
theorem chopEnd_free {t : List UInt8} (m : List UInt8) {c : UInt8} (hc : Oct.blankB c = false) : t = m ++ [c] → Oct.chopEnd t = t := by
  rintro rfl
  exact Oct.chopEnd_no m c hc
theorem trim_free {t m : List UInt8} (ht : t ≠ []) (h : ∀ c ∈ t, okT c = true) {c : UInt8} {u : List UInt8} (hu : t ++ m = u ++ [c]) (hc : Oct.blankB c = false) : Oct.trim (t ++ m) = t ++ m := by
  unfold Oct.trim
  rw [dropWhile_free ht h m, chopEnd_free u hc hu]
theorem mute_free {t : List UInt8} (ht : t ≠ []) (h : ∀ c ∈ t, okT c = true) (m : List UInt8) : mute (t ++ m) = false := by
  cases t with
  | nil => exact absurd rfl ht
  | cons c r =>
    unfold mute
    have hn : (c :: r ++ m).head? ≠ some 47 := by
      intro e
      exact (okT_facts (h c (by simp))).2.2.2.2 (Option.some.inj e)
    rw [prefix_head hn]; simp
theorem snoc_of {t : List UInt8} (ht : t ≠ []) : ∃ u c, t = u ++ [c] ∧ c ∈ t := ⟨t.dropLast, t.getLast ht, (List.dropLast_concat_getLast ht).symm, List.getLast_mem ht⟩
theorem line_text {r : Rule} (h : Can r) : line (text r) = (0, true, r) := by
  obtain ⟨h1, h2⟩ := text_bytes h
  obtain ⟨u, c, hu, hc⟩ := snoc_of h1
  have e := trim_free (m := []) h1 h2 (by rw [List.append_nil]; exact hu) (okT_facts (h2 c hc)).1
  have hm := mute_free h1 h2 []
  have hr := rule_text h (m := []) (.inl rfl)
  rw [List.append_nil] at e hm hr
  rw [line_said (by rw [e]; exact hm), e, hr]; rfl
theorem line_about {r : Rule} (h : Can r) : line (9 :: 32 :: (text r ++ [32, 120])) = (0, true, r) := by
  obtain ⟨h1, h2⟩ := text_bytes h
  have e : Oct.trim (9 :: 32 :: (text r ++ [32, 120])) = text r ++ [32, 120] := by
    have e1 : (9 :: 32 :: (text r ++ [32, 120])).dropWhile Oct.blankB = (text r ++ [32, 120]).dropWhile Oct.blankB := rfl
    unfold Oct.trim
    rw [e1]
    have := trim_free (m := [32, 120]) h1 h2 (u := text r ++ [32]) (c := 120) (by simp) (by decide)
    unfold Oct.trim at this
    exact this
  rw [line_said (by rw [e]; exact mute_free h1 h2 _), e, rule_text h (.inr ⟨32, [120], rfl, by decide⟩)]; rfl
theorem col_text {r : Rule} (h : Can r) : col (text r) = 1 := by
  obtain ⟨h1, h2⟩ := text_bytes h
  unfold col
  cases e : text r with
  | nil => exact absurd e h1
  | cons c u =>
    rw [List.takeWhile_cons_of_neg (by rw [(okT_facts (h2 c (by rw [e]; simp))).1]; simp)]; rfl
/-! ### A file of a rule's text a line -/
/-- Each rule's text as a line. -/
def texts (rs : List Rule) : List UInt8 := rs.flatMap fun r => text r ++ [10]
theorem texts_cons (r : Rule) (rs : List Rule) : texts (r :: rs) = text r ++ 10 :: texts rs := by simp [texts]
theorem texts_snoc (rs : List Rule) (r : Rule) : texts (rs ++ [r]) = texts rs ++ (text r ++ [10]) := by simp [texts]
theorem split_texts {m : List UInt8} (hm : ∀ c ∈ m, c ≠ 10) : ∀ rs : List Rule, (∀ r ∈ rs, Can r) → Oct.split 10 (texts rs ++ m) = rs.map text ++ [m]
  | [], _ => by
    show Oct.split 10 m = [m]
    exact Oct.split_none 10 m hm
  | r :: rs, h => by
    have ih := split_texts hm rs (fun x hx => h x (by simp [hx]))
    rw [texts_cons, List.append_assoc, List.cons_append, Oct.split_cons 10 _ _ (fun c hc => (okT_facts ((text_bytes (h r (by simp))).2 c hc)).2.2.1), ih]; rfl
theorem chop_free {t : List UInt8} (h : ∀ c ∈ t, okT c = true) : Oct.chop t = t := by
  unfold Oct.chop
  rw [if_neg]
  intro e
  exact (okT_facts (h 13 (List.mem_of_getLast? e))).2.2.2.1 rfl
theorem map_chop {rs : List Rule} (h : ∀ r ∈ rs, Can r) : (rs.map text).map Oct.chop = rs.map text := by
  rw [List.map_map]
  exact List.map_congr_left fun r hr => chop_free (text_bytes (h r hr)).2
theorem lines_texts {rs : List Rule} (h : ∀ r ∈ rs, Can r) : Oct.lines (texts rs) = rs.map text := by
  have e := split_texts (m := []) (by simp) rs h
  rw [List.append_nil] at e
  unfold Oct.lines Oct.pieces
  rw [e, if_pos (by simp), List.dropLast_concat, map_chop h]
theorem lines_more {rs : List Rule} (h : ∀ r ∈ rs, Can r) {x : Rule} (hx : Can x) : Oct.lines (texts rs ++ text x) = rs.map text ++ [text x] := by
  obtain ⟨h1, h2⟩ := text_bytes hx
  have e := split_texts (m := text x) (fun c hc => (okT_facts (h2 c hc)).2.2.1) rs h
  unfold Oct.lines Oct.pieces
  rw [e, if_neg (by simpa using h1), List.map_append, map_chop h, List.map_singleton, chop_free h2]
theorem why_text {r : Rule} (h : Can r) (acc : List Rule) : why acc (text r) = whyNot acc r ∧ more acc (text r) = acc ++ [r] := by
  unfold why more
  rw [line_text h]; exact ⟨rfl, rfl⟩
theorem go_texts (ys : List (List UInt8)) : ∀ (rs : List Rule) (n : Nat) (acc : List Rule), (∀ r ∈ rs, Can r) → (acc ++ rs).Nodup → acc.length + rs.length ≤ 200 → go (rs.map text ++ ys) n acc = go ys (n + rs.length) (acc ++ rs)
  | [], n, acc, _, _, _ => by simp
  | r :: rs, n, acc, h, hd, hl => by
    have ih := go_texts ys rs (n + 1) (acc ++ [r]) (fun x hx => h x (by simp [hx])) (by simpa using hd) (by simp at hl ⊢; omega)
    have hw := why_text (h r (by simp)) acc
    have hn : r ∉ acc := by
      intro hm
      rw [List.nodup_append] at hd
      exact hd.2.2 r hm r (by simp) rfl
    rw [List.map_cons, List.cons_append, go_step, hw.1, hw.2]
    rw [if_pos (by unfold whyNot; rw [if_neg hn, if_neg (by simp at hl; omega)]), ih]
    simp only [List.length_cons, List.append_assoc, List.singleton_append]
    congr 1; omega
/-- What a file's rules are. -/
structure Rules (rs : List Rule) : Prop where
  can : ∀ r ∈ rs, Can r
  once : rs.Nodup
  few : rs.length ≤ 200
theorem Rules.nil : Rules [] := ⟨by simp, by simp, by simp⟩
theorem why_zero {acc : List Rule} {l : List UInt8} (h : why acc l = 0) : (∃ r, line l = (0, true, r) ∧ rule (Oct.trim l) = some r ∧ r ∉ acc ∧ acc.length < 200 ∧ more acc l = acc ++ [r]) ∨ (line l = (0, false, zero) ∧ more acc l = acc) := by
  rcases line_cases l with ⟨r, h1, h2⟩ | h1 | h1
  · refine .inl ⟨r, h1, h2, ?_⟩
    unfold why at h
    unfold more
    rw [h1] at h ⊢
    dsimp only at h ⊢
    rw [if_pos rfl] at h ⊢
    unfold whyNot at h
    split at h
    · cases h
    · split at h
      · cases h
      · exact ⟨by assumption, by omega, rfl⟩
  · refine .inr ⟨h1, ?_⟩
    unfold more
    rw [h1]; rfl
  · unfold why at h
    rw [h1] at h
    cases h
theorem more_rules {acc : List Rule} {l : List UInt8} (h : why acc l = 0) (hr : Rules acc) : Rules (more acc l) := by
  rcases why_zero h with ⟨r, h1, h2, h3, h4, h5⟩ | ⟨_, h5⟩
  · rw [h5]
    refine ⟨fun x hx => ?_, ?_, by simp; omega⟩
    · rcases List.mem_append.1 hx with hx | hx
      · exact hr.can x hx
      · rw [List.mem_singleton] at hx; rw [hx]; exact rule_can h2
    · rw [List.nodup_append]
      refine ⟨hr.once, by simp, fun a ha b hb e => ?_⟩
      rw [List.mem_singleton] at hb
      rw [e, hb] at ha
      exact h3 ha
  · rw [h5]; exact hr
theorem go_rules : ∀ (ls : List (List UInt8)) (n : Nat) (acc : List Rule), Rules acc → (go ls n acc).1 = fine → Rules (go ls n acc).2
  | [], _, _, h, _ => h
  | l :: r, n, acc, h, he => by
    rw [go_step] at he ⊢
    split at he
    · rename_i hw
      rw [if_pos hw]
      exact go_rules r (n + 1) _ (more_rules hw h) he
    · rename_i hw
      exact absurd (congrArg Fault.code he) hw
theorem go_none : ∀ (ls : List (List UInt8)) (n : Nat) (acc : List Rule), (go ls n acc).1 ≠ fine → (go ls n acc).2 = []
  | [], _, _, h => absurd rfl h
  | l :: r, n, acc, h => by
    rw [go_step] at h ⊢
    split
    · rename_i hw
      rw [if_pos hw] at h
      exact go_none r (n + 1) _ h
    · rfl
theorem file_rules {s : List UInt8} (h : (file s).1 = fine) : Rules (file s).2 := by
  unfold file at h ⊢
  split
  · exact Rules.nil
  · rename_i k
    rw [if_neg k] at h
    exact go_rules _ _ _ Rules.nil h
theorem file_none {s : List UInt8} (h : (file s).1 ≠ fine) : (file s).2 = [] := by
  unfold file at h ⊢
  split
  · rfl
  · rename_i k
    rw [if_neg k] at h
    exact go_none _ _ _ h
theorem file_texts {rs : List Rule} (h : Rules rs) (hl : (texts rs).length ≤ 20000) : file (texts rs) = (fine, rs) := by
  have hg := go_texts [] rs 0 [] h.can (by simpa using h.once) (by simpa using h.few)
  rw [List.append_nil] at hg
  unfold file
  rw [if_neg (by omega), lines_texts h.can, hg]; rfl
theorem file_twice {rs : List Rule} (h : Rules rs) {x : Rule} (hx : x ∈ rs) (hl : (texts rs ++ text x).length ≤ 20000) : file (texts rs ++ text x) = (⟨52, ((rs.length + 1 : Nat) : Int), 1⟩, []) := by
  have hc := h.can x hx
  have hw := (why_text hc rs).1
  have e : whyNot rs x = 52 := by unfold whyNot; rw [if_pos hx]
  unfold file
  rw [if_neg (by omega), lines_more h.can hc, go_texts [text x] rs 0 [] h.can (by simpa using h.once) (by simpa using h.few)]
  rw [List.nil_append, go_step, hw, e, if_neg (by decide), col_text hc, Nat.zero_add]
/-! ### How long a file's rules' texts are -/
theorem trimPrefix_length {t p : List UInt8} (h : Lib.hasPrefix t p = true) : (Lib.trimPrefix t p).length + p.length = t.length := by
  obtain ⟨r, rfl⟩ := List.isPrefixOf_iff_prefix.1 (show p.isPrefixOf t = true from h)
  unfold Lib.trimPrefix
  rw [if_pos h]
  simp
  try omega
theorem rule_length {t : List UInt8} {r : Rule} (h : rule t = some r) : (text r).length = (first t).length := by
  obtain ⟨h1, _, _, h4⟩ := named_facts h
  unfold text
  unfold kind at h1
  unfold rest at h4
  by_cases p1 : Lib.hasPrefix (first t) [33] = true
  · rw [if_pos p1] at h1 h4
    have := trimPrefix_length p1
    rw [if_pos h1]
    simp at this ⊢
    omega
  · rw [if_neg p1] at h1 h4
    by_cases p2 : Lib.hasPrefix (first t) [42, 46] = true
    · rw [if_pos p2] at h1 h4
      have := trimPrefix_length p2
      rw [if_neg (by omega), if_pos h1]
      simp at this ⊢
      omega
    · rw [if_neg p2] at h1 h4
      rw [if_neg (by omega), if_neg (by omega), h4]
theorem trim_length (l : List UInt8) : (Oct.trim l).length ≤ l.length := by
  unfold Oct.trim Oct.chopEnd
  have h1 := (List.dropWhile_sublist Oct.blankB (l := (l.dropWhile Oct.blankB).reverse)).length_le
  have h2 := (List.dropWhile_sublist Oct.blankB (l := l)).length_le
  rw [List.length_reverse] at h1 ⊢
  omega
theorem first_length (l : List UInt8) : (first l).length ≤ l.length := by
  unfold first
  rw [List.length_take]; omega
/-- How long lines are together, each with its end. -/
def total : List (List UInt8) → Nat
  | [] => 0
  | l :: r => l.length + 1 + total r
theorem total_app : ∀ a b : List (List UInt8), total (a ++ b) = total a + total b
  | [], b => by simp [total]
  | l :: r, b => by rw [List.cons_append, total, total, total_app r b]; omega
theorem total_split (c : UInt8) : ∀ l : List UInt8, total (Oct.split c l) = l.length + 1
  | [] => rfl
  | d :: r => by
    have ih := total_split c r
    rw [Oct.split_step]
    split
    · rw [total, ih, List.length_nil, List.length_cons]; omega
    · cases e : Oct.split c r with
      | nil => exact absurd e (Oct.split_ne c r)
      | cons p ps =>
        rw [e] at ih
        simp only [total, List.length_cons] at ih ⊢
        omega
theorem chop_length (p : List UInt8) : (Oct.chop p).length ≤ p.length := by
  unfold Oct.chop
  split
  · rw [List.length_dropLast]; omega
  · exact Nat.le_refl _
theorem total_chop : ∀ ps : List (List UInt8), total (ps.map Oct.chop) ≤ total ps
  | [] => Nat.le_refl _
  | p :: r => by
    have ih := total_chop r
    have := chop_length p
    rw [List.map_cons, total, total]; omega
theorem total_dropLast (ps : List (List UInt8)) : total ps.dropLast ≤ total ps := by
  rcases List.eq_nil_or_concat ps with rfl | ⟨r, c, rfl⟩
  · exact Nat.le_refl _
  · rw [List.concat_eq_append, List.dropLast_concat, total_app]; omega
theorem total_lines (s : List UInt8) : total (Oct.lines s) ≤ s.length + 1 := by
  have h1 := total_split 10 s
  unfold Oct.lines Oct.pieces
  split
  · have := total_chop (Oct.split 10 s).dropLast
    have := total_dropLast (Oct.split 10 s)
    omega
  · have := total_chop (Oct.split 10 s)
    omega
theorem go_length : ∀ (ls : List (List UInt8)) (n : Nat) (acc : List Rule), (texts (go ls n acc).2).length ≤ (texts acc).length + total ls
  | [], _, _ => by rw [go_nil]; simp [total]
  | l :: r, n, acc => by
    rw [go_step]
    split
    · rename_i hw
      have ih := go_length r (n + 1) (more acc l)
      rw [total]
      rcases why_zero hw with ⟨x, h1, h2, _, _, h5⟩ | ⟨_, h5⟩
      · rw [h5] at ih ⊢
        rw [texts_snoc] at ih
        have a := rule_length h2
        have b := first_length (Oct.trim l)
        have c := trim_length l
        simp at ih ⊢
        omega
      · rw [h5] at ih ⊢; omega
    · simp [texts]
theorem file_length (s : List UInt8) : (texts (file s).2).length ≤ s.length + 1 := by
  unfold file
  split
  · simp [texts]
  · have := go_length (Oct.lines s) 0 []
    have := total_lines s
    simp [texts] at *
    omega
theorem text_length {rs : List Rule} {x : Rule} (h : x ∈ rs) : (text x).length ≤ (texts rs).length := by
  unfold texts
  induction rs with
  | nil => cases h
  | cons r rs ih =>
    rw [List.flatMap_cons, List.length_append, List.length_append]
    rcases List.mem_cons.1 h with rfl | h
    · omega
    · have := ih h; omega
/-! ### The column -/
theorem blank_contains (c : UInt8) : ([32, 9] : List UInt8).contains c = Oct.blankB c := by
  rw [Bool.eq_iff_iff]
  simp [Oct.blankB]
  constructor
  · rintro (rfl | rfl)
    · exact .inl rfl
    · exact .inr rfl
  · rintro (e | e)
    · exact .inl (Oct.eq_of_toNat e)
    · exact .inr (Oct.eq_of_toNat e)
theorem trimLeft_blank (l : List UInt8) : Lib.trimLeftS l [32, 9] = l.dropWhile Oct.blankB := by
  unfold Lib.trimLeftS
  congr 1
  funext c
  exact blank_contains c
theorem col_drop (l : List UInt8) : (l.dropWhile Oct.blankB).length ≤ l.length ∧ col l = (l.length : Int) - ((l.dropWhile Oct.blankB).length : Int) + 1 := by
  have e := congrArg List.length (List.takeWhile_append_dropWhile (p := Oct.blankB) (l := l))
  rw [List.length_append] at e
  unfold col
  constructor <;> omega
end Ru
end Go.Proofs.Ytdidogcgoghdmaa
