/- A text with its small letters a to f made great is the same address. No program is named here. -/
import Derived.Test.YtcookddgaomkiaaAdrPlain
namespace Go.Proofs.Ytcookddgaomkiaa
namespace Adr
def up (c : UInt8) : UInt8 := if 97 ≤ c.toNat ∧ c.toNat ≤ 102 then UInt8.ofNat (c.toNat - 32) else c
theorem up_yes {c : UInt8} (h : 97 ≤ c.toNat ∧ c.toNat ≤ 102) : (up c).toNat = c.toNat - 32 := by
  have := c.toNat_lt
  unfold up; rw [if_pos h, UInt8.toNat_ofNat']; omega
theorem up_no {c : UInt8} (h : ¬ (97 ≤ c.toNat ∧ c.toNat ≤ 102)) : up c = c := by unfold up; rw [if_neg h]
theorem up_hex (c : UInt8) : hexB (up c) = hexB c ∧ hexN (up c) = hexN c := by
  by_cases h : 97 ≤ c.toNat ∧ c.toNat ≤ 102
  · have e := up_yes h
    unfold hexB hexN
    rw [e]
    constructor
    · rw [Bool.eq_iff_iff]; simp; omega
    · split <;> (try split) <;> (try split) <;> (try split) <;> (try split) <;> (try split) <;> omega
  · rw [up_no h]; exact ⟨rfl, rfl⟩
theorem up_colon (c : UInt8) : up c = 58 ↔ c = 58 := by
  by_cases h : 97 ≤ c.toNat ∧ c.toNat ≤ 102
  · have e := up_yes h
    constructor
    · intro k; rw [k] at e; have : (58 : UInt8).toNat = 58 := rfl; omega
    · rintro rfl; have : (58 : UInt8).toNat = 58 := rfl; omega
  · rw [up_no h]
theorem split_up : ∀ s : List UInt8, Oct.split 58 (s.map up) = (Oct.split 58 s).map (·.map up)
  | [] => rfl
  | c :: r => by
    rw [List.map_cons, Oct.split_step, Oct.split_step, split_up r]
    by_cases h : c = 58
    · rw [if_pos h, if_pos ((up_colon c).2 h)]; rfl
    · rw [if_neg h, if_neg (fun k => h ((up_colon c).1 k))]
      cases Oct.split 58 r with
      | nil => rfl
      | cons p ps => rfl
theorem prefix_up (s : List UInt8) : ([58, 58] : List UInt8).isPrefixOf (s.map up) = ([58, 58] : List UInt8).isPrefixOf s := by
  have e : ∀ c, ((58 : UInt8) == up c) = ((58 : UInt8) == c) := fun c => by
    rw [Bool.eq_iff_iff, beq_iff_eq, beq_iff_eq]
    exact ⟨fun k => ((up_colon c).1 k.symm).symm, fun k => ((up_colon c).2 k.symm).symm⟩
  match s with
  | [] => rfl
  | [c] => simp [List.isPrefixOf]
  | c :: d :: r => simp [List.isPrefixOf, e]
theorem index_up : ∀ s : List UInt8, Lib.index (s.map up) [58, 58] = Lib.index s [58, 58]
  | [] => rfl
  | c :: r => by
    have h := prefix_up (c :: r)
    rw [List.map_cons] at h ⊢
    unfold Lib.index
    rw [h, index_up r]
theorem cut_up (s : List UInt8) : Lib.cut (s.map up) [58, 58] = ((Lib.cut s [58, 58]).1.map up, (Lib.cut s [58, 58]).2.1.map up, (Lib.cut s [58, 58]).2.2) := by
  unfold Lib.cut
  rw [index_up]
  split
  · simp [List.map_take, List.map_drop]
  · rfl
theorem isGrp_up (p : List UInt8) : isGrp (p.map up) = isGrp p := by
  unfold isGrp
  rw [List.length_map, List.all_map]
  congr 2
  funext c
  exact (up_hex c).1
theorem grpN_up (p : List UInt8) : grpN (p.map up) = grpN p := by
  unfold grpN
  rw [List.foldl_map]
  congr 1
  funext n c
  rw [(up_hex c).2]
theorem isRow_up (s : List UInt8) : isRow (s.map up) = isRow s := by
  unfold isRow
  rw [split_up, List.all_map]
  congr 1
  · simp
  · congr 1
    funext p
    exact isGrp_up p
theorem row_up (s : List UInt8) : row (s.map up) = row s := by
  unfold row
  rw [split_up, List.map_map]
  by_cases h : s = []
  · subst h; rfl
  · rw [if_neg h, if_neg (by simpa using h)]
    congr 1
    funext p
    show grp (p.map up) = grp p
    unfold grp
    rw [grpN_up]
theorem v6_up (s : List UInt8) : v6 (s.map up) = v6 s := by
  unfold v6
  rw [cut_up]
  simp only [isRow_up, row_up]
theorem fits_le8 {n : Nat} {g : Bool} (h : fits n g = true) : n ≤ 8 := by
  unfold fits at h
  cases g <;> simp at h <;> omega
theorem v6_length {s : List UInt8} {g : List UInt16} (h : v6 s = some g) : g.length = 8 := by
  unfold v6 at h
  split at h
  · next hc =>
    have h8 := fits_le8 hc.2.2
    rw [← Option.some.inj h, List.length_append, List.length_append, List.length_replicate]
    omega
  · exact absurd h (by simp)
theorem addrOf_length (s : List UInt8) : (addrOf (v6 s)).length = 16 := by
  cases h : v6 s with
  | none => rfl
  | some g => show (from_ g).length = 16; rw [from_length, v6_length h]
/-- The first k bytes of a text folded. -/
def halfUp (l : List UInt8) (k : Nat) : List UInt8 := (l.take k).map up ++ l.drop k
theorem halfUp_zero (l : List UInt8) : halfUp l 0 = l := by simp [halfUp]
theorem halfUp_length (l : List UInt8) (k : Nat) : (halfUp l k).length = l.length := by simp [halfUp]; omega
theorem halfUp_end {l : List UInt8} {k : Nat} (h : l.length ≤ k) : halfUp l k = l.map up := by
  unfold halfUp; rw [List.take_of_length_le h, List.drop_eq_nil_of_le h, List.append_nil]
theorem halfUp_at {l : List UInt8} {k : Nat} (h : k < l.length) : (halfUp l k)[k]? = some l[k] := by
  unfold halfUp
  rw [List.getElem?_append_right (by simp; omega)]
  simp only [List.length_map, List.length_take]
  rw [List.getElem?_drop, List.getElem?_eq_getElem (by omega)]
  congr 1
  have : k + (k - min k l.length) = k := by omega
  simp only [this]
theorem halfUp_set {l : List UInt8} {k : Nat} (h : k < l.length) : (halfUp l k).set k (up l[k]) = halfUp l (k + 1) := by
  unfold halfUp
  rw [List.set_append_right _ _ (by simp; omega), List.take_succ_eq_append_getElem h, List.map_append, List.append_assoc, List.drop_eq_getElem_cons h]
  have : k - ((l.take k).map up).length = 0 := by simp; omega
  rw [this]; rfl
theorem halfUp_keep {l : List UInt8} {k : Nat} (h : k < l.length) (hn : up l[k] = l[k]) : halfUp l (k + 1) = halfUp l k := by
  rw [← halfUp_set h, hn]
  apply List.ext_getElem?
  intro i
  rw [List.getElem?_set]
  split
  · next e =>
    subst e
    rw [halfUp_at h]
    rw [if_pos (by rw [halfUp_length]; exact h)]
  · rfl
end Adr
end Go.Proofs.Ytcookddgaomkiaa
