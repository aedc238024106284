/- What the law DfaWords asks of words, in plain words; a list of numbers as things of one cell. -/
import Derived.Test.YtdidogcgoghdmaaRefDfaTells
import Derived.Test.YtdidogcgoghdmaaSpanMore
namespace Go.Proofs.Ytdidogcgoghdmaa
open Go.RowKit
def oneI (n : Int) : Array Value := #[intV n]
theorem oneI_one (n : Int) : (oneI n).all (·.oneCell') = true := by simp [oneI, intV, Value.oneCell']
theorem oneI_size (n : Int) : (oneI n).size = 1 := rfl
theorem flat_ints (l : List Int) : flat oneI l = intVs l := by
  unfold flat oneI intVs
  induction l with
  | nil => rfl
  | cons a l ih => rw [List.flatMap_cons, List.map_cons, ih]; rfl
theorem nums_lies {w : World} {v : Value} {l : List Int} (h : Nums w v l) : Lies oneI w v l := by
  obtain ⟨A, c, rfl, h1, h2⟩ := h.row
  refine ⟨A, c, by rw [intVs_length], by rw [intVs_length] at h1; exact h1, fun h0 => ?_⟩
  obtain ⟨g, off, e, hg, hc⟩ := h2 (by rw [intVs_length]; exact h0)
  exact ⟨g, off, e, hg, fun j u hu => hc j u (by rw [flat_ints] at hu; exact hu)⟩
theorem infoI15 : (Try.prog.info? 3).map (·.size) = some 1 := by kernel_rfl
theorem grown_new {v W : World} {o : Obj} {row : Option Nat} (g : (v.alloc o).grownBy W row) (h : row = some v.heap.size) : Below v.heap.size v W :=
  ((Below.refl v.heap.size v).alloc (Nat.le_refl _) o).grown g (by simp) (fun k hk => by rw [h] at hk; have := Option.some.inj hk; omega)
theorem grown_own {v x W : World} {B m n : Nat} {t : TypeId} {z : Value} {xs : List Value} (b : Below B v x) (hB : B ≤ x.heap.size) (O : x.ownsRow B t m z n xs) (g : x.grownBy W z.ownBlock) : Below B v W :=
  b.grown g hB (fun k hk => (O.lt k hk).1)
theorem both_nums {W : World} {B n : Nat} {z : Value} {x y : List Int} (O : W.ownsRow B 3 1 z n (([] ++ flat oneI x) ++ flat oneI y)) : Nums W z (x ++ y) := by
  refine nums_own (B := B) (n := n) ?_
  rw [flat_ints, flat_ints, List.nil_append] at O
  unfold intVs at O ⊢
  rw [List.map_append]
  exact O
namespace Au
theorem nat_prefix {k : Int} {x y : List Int} (hx : syms k x = true) (hy : syms k y = true) : toN x <+: toN y ↔ x <+: y := by
  constructor
  · intro h
    have := ofN_prefix.2 h
    unfold syms at hx hy
    rw [List.all_eq_true] at hx hy
    rw [ofN_toN hx, ofN_toN hy] at this
    exact this
  · intro h
    exact h.map _
theorem word_self {k : Nat} {x : List Int} {c : Fa} (h : WordOf k (toN x) c) (hx : syms k x = true) : (Dv.of c).tells x = true := by
  rw [h.tells, hx, decide_eq_true rfl]; rfl
theorem begins_more {k : Nat} {x y : List Int} {c : Fa} (h : BeginsOf k (toN x) c) (hx : syms k x = true) : (Dv.of c).tells (x ++ y) = syms k y := by
  rw [h.tells, syms_app, hx]
  have : toN x <+: toN (x ++ y) := by
    unfold toN
    rw [List.map_append]
    exact List.prefix_append _ _
  rw [decide_eq_true this]
  cases syms k y <;> rfl
theorem begins_is {k : Nat} {x y : List Int} {c : Fa} (h : BeginsOf k (toN x) c) (hx : syms k x = true) (hy : syms k y = true) : (Dv.of c).tells y = decide (x <+: y) := by
  rw [h.tells, hy, Bool.true_and]
  rw [Bool.eq_iff_iff, decide_eq_true_eq, decide_eq_true_eq]
  exact nat_prefix hx hy
theorem word_no {k : Nat} {x y : List Int} {c : Fa} (h : WordOf k (toN x) c) (hx : syms k x = true) (hy : syms k y = true) (hp : ¬ (x <+: y ∧ y.length = x.length)) : (Dv.of c).tells y = false := by
  rw [h.tells, hy, Bool.true_and]
  refine decide_eq_false fun e => hp ?_
  have e1 : y = x := by
    unfold syms at hx hy
    rw [List.all_eq_true] at hx hy
    rw [← ofN_toN hx, ← ofN_toN hy, e]
  rw [e1]
  exact ⟨List.prefix_refl _, rfl⟩
theorem word_yes {k : Nat} {x y : List Int} {c : Fa} (h : WordOf k (toN x) c) (hx : syms k x = true) (hp : x <+: y) (hl : y.length = x.length) : (Dv.of c).tells y = true := by
  have e : x = y := hp.eq_of_length hl.symm
  rw [← e]
  exact word_self h hx
theorem words_other {k : Nat} {x y : List Int} {c d : Fa} (h : WordOf k (toN x) c) (h' : BeginsOf k (toN x) d) (hy : syms k y = false) : (Dv.of c).tells y = false ∧ (Dv.of d).tells y = false := by
  rw [h.tells, h'.tells, hy]
  exact ⟨rfl, rfl⟩
end Au
theorem tells_as {d : Au.Dv} {l : List Int} {b : Bool} (hb : d.tells l = b) (hl : l.length ≤ maxLen) (V U : Value) (W : World) (h : Auto W V d) (hx : Nums W U l) :
    Calls Try.prog 18 #[V, U] W fun e w' => e = .returned (.bool b) ∧ Below W.heap.size W w' := by
  have := refDTells_calls V U d l W h hx hl
  rw [hb] at this
  exact this
theorem right_as {f : Au.Fa} (hf : Au.Sound f) (V : Value) (W : World) (h : Auto W V (Au.Dv.of f)) :
    Calls Try.prog 17 #[V] W fun e w' => e = .returned (.bool true) ∧ Below W.heap.size W w' := by
  have := refDRight_calls V (Au.Dv.of f) W h
  rw [Au.right_sound hf] at this
  exact this
end Go.Proofs.Ytdidogcgoghdmaa
