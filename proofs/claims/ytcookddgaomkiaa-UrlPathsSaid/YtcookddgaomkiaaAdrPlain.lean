/- Plain functions on addresses: groups of sixteen bits, texts of four numbers and of eight groups. No program is named here. -/
import Derived.Test.YtcookddgaomkiaaSplitPlain
import Derived.Lib.IndexMore
import Derived.Lib.Join
import Derived.Lib.ItoaNum
namespace Go.Proofs.Ytcookddgaomkiaa
namespace Adr
/-! ### Lists that are filled from the front -/
def fill {α : Type} (l : List α) (z : α) (n k : Nat) : List α := l.take k ++ List.replicate (n - k) z
theorem fill_zero {α : Type} (l : List α) (z : α) (n : Nat) : fill l z n 0 = List.replicate n z := by simp [fill]
theorem fill_end {α : Type} {l : List α} {z : α} {n : Nat} (h : l.length = n) : fill l z n n = l := by
  unfold fill; rw [List.take_of_length_le (by omega), Nat.sub_self]; simp
theorem fill_length {α : Type} {l : List α} {z : α} {n k : Nat} (h : l.length = n) (hk : k ≤ n) : (fill l z n k).length = n := by
  unfold fill; simp; omega
theorem fill_set {α : Type} {l : List α} {z v : α} {n k : Nat} (h : l.length = n) (hk : k < n) (hv : l[k]? = some v) : (fill l z n k).set k v = fill l z n (k + 1) := by
  have hv' : l[k]'(by omega) = v := by rw [List.getElem?_eq_getElem (by omega)] at hv; exact Option.some.inj hv
  unfold fill
  rw [List.set_append_right _ _ (by simp; omega), List.take_succ_eq_append_getElem (by omega), hv', List.append_assoc]
  have e1 : k - (l.take k).length = 0 := by simp; omega
  have e2 : n - k = (n - (k + 1)) + 1 := by omega
  rw [e1, e2, List.replicate_succ]; rfl
/-! ### Groups and bytes -/
def hi (x : UInt16) : UInt8 := UInt8.ofNat (x.toNat / 256)
def lo (x : UInt16) : UInt8 := UInt8.ofNat (x.toNat % 256)
def mk (a b : UInt8) : UInt16 := UInt16.ofNat (a.toNat * 256 + b.toNat)
theorem u16_lt (x : UInt16) : x.toNat < 65536 := x.toNat_lt
theorem hi_toNat (x : UInt16) : (hi x).toNat = x.toNat / 256 := by
  have := u16_lt x; unfold hi; rw [UInt8.toNat_ofNat']; omega
theorem lo_toNat (x : UInt16) : (lo x).toNat = x.toNat % 256 := by
  unfold lo; rw [UInt8.toNat_ofNat']; omega
theorem mk_toNat (a b : UInt8) : (mk a b).toNat = a.toNat * 256 + b.toNat := by
  have h1 := a.toNat_lt; have h2 := b.toNat_lt
  unfold mk; rw [UInt16.toNat_ofNat']; omega
theorem eq_of_toNat16 {a b : UInt16} (h : a.toNat = b.toNat) : a = b := UInt16.toNat_inj.1 h
theorem mk_hi_lo (x : UInt16) : mk (hi x) (lo x) = x := eq_of_toNat16 (by rw [mk_toNat, hi_toNat, lo_toNat]; omega)
theorem hi_mk (a b : UInt8) : hi (mk a b) = a := Oct.eq_of_toNat (by have := b.toNat_lt; rw [hi_toNat, mk_toNat]; omega)
theorem lo_mk (a b : UInt8) : lo (mk a b) = b := Oct.eq_of_toNat (by have := b.toNat_lt; rw [lo_toNat, mk_toNat]; omega)
/-- The groups of bytes. -/
def groups : List UInt8 → List UInt16
  | a :: b :: r => mk a b :: groups r
  | _ => []
/-- The bytes of groups. -/
def from_ : List UInt16 → List UInt8
  | [] => []
  | x :: r => hi x :: lo x :: from_ r
theorem groups_from : ∀ g, groups (from_ g) = g
  | [] => rfl
  | x :: r => by unfold from_ groups; rw [mk_hi_lo, groups_from r]
theorem from_groups : ∀ (n : Nat) (a : List UInt8), a.length = 2 * n → from_ (groups a) = a
  | 0, [], _ => rfl
  | n + 1, x :: y :: r, h => by
    simp at h
    unfold groups from_; rw [hi_mk, lo_mk, from_groups n r (by omega)]
theorem from_length : ∀ g : List UInt16, (from_ g).length = 2 * g.length
  | [] => rfl
  | x :: r => by unfold from_; simp [from_length r]; omega
theorem groups_length : ∀ (n : Nat) (a : List UInt8), a.length = 2 * n → (groups a).length = n
  | 0, [], _ => rfl
  | n + 1, x :: y :: r, h => by
    simp at h
    unfold groups; simp [groups_length n r (by omega)]
theorem from_at : ∀ (g : List UInt16) (k : Nat) (x : UInt16), g[k]? = some x → (from_ g)[2 * k]? = some (hi x) ∧ (from_ g)[2 * k + 1]? = some (lo x)
  | [], k, x, h => by simp at h
  | y :: r, 0, x, h => by simp at h; subst h; exact ⟨rfl, rfl⟩
  | y :: r, k + 1, x, h => by
    have := from_at r k x (by simpa using h)
    have e : 2 * (k + 1) = 2 * k + 1 + 1 := by omega
    unfold from_
    rw [e]
    exact this
theorem groups_at : ∀ (a : List UInt8) (k : Nat) (x y : UInt8), a[2 * k]? = some x → a[2 * k + 1]? = some y → (groups a)[k]? = some (mk x y)
  | [], k, x, y, h, _ => by simp at h
  | [c], k, x, y, _, h => by
    have : 2 * k + 1 < 1 := by simpa using (List.getElem?_eq_some_iff.1 h).1
    omega
  | c :: d :: r, 0, x, y, h1, h2 => by simp at h1 h2; subst h1; subst h2; rfl
  | c :: d :: r, k + 1, x, y, h1, h2 => by
    have e : 2 * (k + 1) = 2 * k + 1 + 1 := by omega
    rw [e] at h1 h2
    have := groups_at r k x y (by simpa using h1) (by simpa using h2)
    unfold groups
    simpa using this
theorem from_inj {g h : List UInt16} (e : from_ g = from_ h) : g = h := by rw [← groups_from g, e, groups_from]
theorem groups_inj {n : Nat} {a b : List UInt8} (ha : a.length = 2 * n) (hb : b.length = 2 * n) (e : groups a = groups b) : a = b := by
  rw [← from_groups n a ha, e, from_groups n b hb]
theorem from_zeros (n : Nat) : from_ (List.replicate n 0) = List.replicate (2 * n) 0 := by
  induction n with
  | zero => rfl
  | succ n ih =>
    rw [List.replicate_succ]
    unfold from_
    rw [ih, show 2 * (n + 1) = (2 * n + 1) + 1 by omega, List.replicate_succ, List.replicate_succ]
    rfl
/-! ### Hexadecimal digits -/
def hexB (c : UInt8) : Bool := decide ((48 ≤ c.toNat ∧ c.toNat ≤ 57) ∨ (97 ≤ c.toNat ∧ c.toNat ≤ 102) ∨ (65 ≤ c.toNat ∧ c.toNat ≤ 70))
def hexN (c : UInt8) : Nat := if 48 ≤ c.toNat ∧ c.toNat ≤ 57 then c.toNat - 48 else if 97 ≤ c.toNat ∧ c.toNat ≤ 102 then c.toNat - 87 else if 65 ≤ c.toNat ∧ c.toNat ≤ 70 then c.toNat - 55 else 0
theorem hexN_lt (c : UInt8) : hexN c < 16 := by unfold hexN; split <;> (try split) <;> (try split) <;> omega
def grpN (l : List UInt8) : Nat := l.foldl (fun n c => n * 16 + hexN c) 0
def isGrp (l : List UInt8) : Bool := decide (1 ≤ l.length ∧ l.length ≤ 4) && l.all hexB
def grp (l : List UInt8) : UInt16 := UInt16.ofNat (grpN l)
theorem grpN_snoc (l : List UInt8) (c : UInt8) : grpN (l ++ [c]) = grpN l * 16 + hexN c := by simp [grpN]
theorem grpN_from : ∀ (l : List UInt8) (n : Nat), l.foldl (fun n c => n * 16 + hexN c) n < (n + 1) * 16 ^ l.length
  | [], n => by simp
  | c :: r, n => by
    have ih := grpN_from r (n * 16 + hexN c)
    have hc := hexN_lt c
    have h2 : (n * 16 + hexN c + 1) * 16 ^ r.length ≤ (n + 1) * 16 * 16 ^ r.length := Nat.mul_le_mul_right _ (by omega)
    rw [List.foldl_cons, List.length_cons, Nat.pow_succ, Nat.mul_comm (16 ^ r.length), ← Nat.mul_assoc]
    omega
theorem grpN_lt (l : List UInt8) : grpN l < 16 ^ l.length := by
  have := grpN_from l 0
  unfold grpN; omega
theorem grp_toNat {l : List UInt8} (h : l.length ≤ 4) : (grp l).toNat = grpN l := by
  have h1 := grpN_lt l
  have h2 : 16 ^ l.length ≤ 16 ^ 4 := Nat.pow_le_pow_right (by omega) h
  unfold grp; rw [UInt16.toNat_ofNat']; omega
/-! ### Rows of groups -/
def isRow (s : List UInt8) : Bool := decide (s = []) || (Oct.split 58 s).all isGrp
def row (s : List UInt8) : List UInt16 := if s = [] then [] else (Oct.split 58 s).map grp
def fits (n : Nat) (gap : Bool) : Bool := if gap then decide (n < 8) else decide (n = 8)
/-- The groups of a text. -/
def v6 (s : List UInt8) : Option (List UInt16) :=
  if isRow (Lib.cut s [58, 58]).1 = true ∧ isRow (Lib.cut s [58, 58]).2.1 = true ∧ fits ((row (Lib.cut s [58, 58]).1).length + (row (Lib.cut s [58, 58]).2.1).length) (Lib.cut s [58, 58]).2.2 = true then
    some (row (Lib.cut s [58, 58]).1 ++ List.replicate (8 - ((row (Lib.cut s [58, 58]).1).length + (row (Lib.cut s [58, 58]).2.1).length)) 0 ++ row (Lib.cut s [58, 58]).2.1)
  else none
/-- The address of groups, or noughts. -/
def addrOf : Option (List UInt16) → List UInt8
  | some g => from_ g
  | none => List.replicate 16 0
/-! ### Four numbers -/
def okNum (p : List UInt8) : Bool := Oct.isNum p && decide (Oct.number p ≤ 255)
def v4 (s : List UInt8) : Option (List UInt8) :=
  if (Oct.split 46 s).length = 4 ∧ (Oct.split 46 s).all okNum = true then some ((Oct.split 46 s).map fun p => UInt8.ofNat (Oct.number p)) else none
def addr4 : Option (List UInt8) → List UInt8
  | some l => List.replicate 12 0 ++ l
  | none => List.replicate 16 0
end Adr
end Go.Proofs.Ytcookddgaomkiaa
