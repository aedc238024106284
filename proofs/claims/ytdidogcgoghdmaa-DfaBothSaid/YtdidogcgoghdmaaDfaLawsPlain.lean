/- What of two automata is made, where there are few pairs; what is told of what is made of both, in plain words. -/
import Derived.Test.YtdidogcgoghdmaaDfaTwo
import Derived.Test.YtdidogcgoghdmaaDfaNot
namespace Go.Proofs.Ytdidogcgoghdmaa
open Go.RowKit
namespace Au
theorem come_few {a b : Fa} (ha : Right a) (hb : Right b) (hk : a.k = b.k) {l : List (Nat × Nat)} (hl : l.Nodup) (hc : ∀ p ∈ l, Come a b p) : l.length ≤ a.n * b.n := by
  have hs : l.map (fun p => p.1 * b.n + p.2) ⊆ List.range (a.n * b.n) := by
    intro v hv
    obtain ⟨p, hp, rfl⟩ := List.mem_map.1 hv
    obtain ⟨h1, h2⟩ := come_lt ha hb hk (hc p hp)
    exact List.mem_range.2 (place h1 h2)
  have hn : (l.map (fun p => p.1 * b.n + p.2)).Nodup := by
    rw [List.nodup_iff_pairwise_ne, List.pairwise_map]
    refine List.Pairwise.imp_of_mem ?_ (List.nodup_iff_pairwise_ne.1 hl)
    intro p q hp hq hpq e
    obtain ⟨_, p2⟩ := come_lt ha hb hk (hc p hp)
    obtain ⟨_, q2⟩ := come_lt ha hb hk (hc q hq)
    refine hpq ?_
    have e1 : (p.1 * b.n + p.2) / b.n = p.1 := by rw [Nat.mul_comm, Nat.mul_add_div (by omega), Nat.div_eq_of_lt p2]; rfl
    have e2 : (q.1 * b.n + q.2) / b.n = q.1 := by rw [Nat.mul_comm, Nat.mul_add_div (by omega), Nat.div_eq_of_lt q2]; rfl
    have e3 : p.1 = q.1 := by rw [← e1, ← e2, e]
    have e4 : p.2 = q.2 := by rw [e3] at e; omega
    exact Prod.ext e3 e4
  have := hn.length_le_of_subset hs
  rw [List.length_map, List.length_range] at this
  exact this
theorem mul_few {a b m n : Nat} (ha : a ≤ m) (hb : b ≤ n) : a * b ≤ m * n := Nat.mul_le_mul ha hb
theorem told_syms {f : Fa} (h : Sound f) {w : List Int} (ht : (Dv.of f).tells w = true) : syms f.k w = true := by
  cases e : syms f.k w with
  | true => rfl
  | false => rw [tells_syms h e] at ht; exact absurd ht (by decide)
theorem laws_in {a b o x : Fa} {l l' : List (Nat × Nat)} (ha : Sound a) (hb : Sound b) (hk : a.k = b.k) (ho : Prod (fun p q => p || q) (notFa a) (notFa b) o l) (hx : Prod (fun p q => p && q) b a x l') (w : List Int) : (Dv.of (notFa o)).tells w = (Dv.of x).tells w := by
  rw [not_tells ho.toSound, ho.tells (not_sound ha) (not_sound hb) hk, hx.tells hb ha hk.symm, not_tells ha, not_tells hb]
  have e1 : o.k = a.k := ho.kk
  have e2 : (notFa a).k = a.k := rfl
  rw [e1, e2, ← hk]
  cases syms a.k w <;> cases (Dv.of a).tells w <;> cases (Dv.of b).tells w <;> rfl
theorem laws_all {a b o x y : Fa} {l l' l2 : List (Nat × Nat)} (ha : Sound a) (hb : Sound b) (hk : a.k = b.k) (hy : Prod (fun p q => p && !q) a b y l2) (hx : Prod (fun p q => p && q) b a x l') (ho : Prod (fun p q => p || q) y x o l) (w : List Int) : (Dv.of o).tells w = (Dv.of a).tells w := by
  have e1 : y.k = a.k := hy.kk
  have e2 : x.k = b.k := hx.kk
  rw [ho.tells hy.toSound hx.toSound (by rw [e1, e2, hk]), hy.tells ha hb hk, hx.tells hb ha hk.symm, e1, ← hk]
  have hs := told_syms ha (w := w)
  cases e : (Dv.of a).tells w with
  | true =>
    rw [hs e]
    cases (Dv.of b).tells w <;> rfl
  | false => cases syms a.k w <;> cases (Dv.of b).tells w <;> rfl
end Au
def MadePost (op : Bool → Bool → Bool) (a b : Au.Fa) (w : World) (e : Ending) (w' : World) : Prop := ∃ g l, (Au.Prod op a b g l ∧ g.n ≤ a.n * b.n) ∧ NewAuto w (Au.Dv.of g) 0 e w'
theorem made_new {op : Bool → Bool → Bool} {a b : Au.Fa} {w w' : World} {e : Ending} (ha : Au.Sound a) (hb : Au.Sound b) (hk : a.k = b.k) (hn : a.n * b.n ≤ 65536) (h : PairsPost op a b w e w') : MadePost op a b w e w' := by
  obtain ⟨l, ⟨_, c, hc, ho⟩ | ⟨h1, h2, h3, _⟩⟩ := h
  · exact ⟨c, l, ⟨hc, by rw [hc.nn]; exact hc.known.few ha.toRight hb.toRight hk⟩, ho.new hc.toSound⟩
  · have := Au.come_few ha.toRight hb.toRight hk h2 h3
    omega
theorem not_as {f : Au.Fa} (hf : Au.Sound f) (V : Value) (W : World) (h : Auto W V (Au.Dv.of f)) : Calls Try.prog 12 #[V] W (NewAuto W (Au.Dv.of (Au.notFa f)) 0) :=
  (not_calls V _ W h).mono fun _ _ h => h.2 f rfl hf
theorem either_as {fa fb : Au.Fa} (hfa : Au.Sound fa) (hfb : Au.Sound fb) (hk : fa.k = fb.k) (hn : fa.n * fb.n ≤ 65536) (VA VB : Value) (W : World) (ha : Auto W VA (Au.Dv.of fa)) (hb : Auto W VB (Au.Dv.of fb)) :
    Calls Try.prog 23 #[VA, VB] W (MadePost (fun x y => x || y) fa fb W) :=
  (either_calls VA VB fa fb W ha hb hfa hfb hk).mono fun _ _ h => made_new hfa hfb hk hn h
theorem both_as {fa fb : Au.Fa} (hfa : Au.Sound fa) (hfb : Au.Sound fb) (hk : fa.k = fb.k) (hn : fa.n * fb.n ≤ 65536) (VA VB : Value) (W : World) (ha : Auto W VA (Au.Dv.of fa)) (hb : Auto W VB (Au.Dv.of fb)) :
    Calls Try.prog 22 #[VA, VB] W (MadePost (fun x y => x && y) fa fb W) :=
  (both_calls VA VB fa fb W ha hb hfa hfb hk).mono fun _ _ h => made_new hfa hfb hk hn h
theorem less_as {fa fb : Au.Fa} (hfa : Au.Sound fa) (hfb : Au.Sound fb) (hk : fa.k = fb.k) (hn : fa.n * fb.n ≤ 65536) (VA VB : Value) (W : World) (ha : Auto W VA (Au.Dv.of fa)) (hb : Auto W VB (Au.Dv.of fb)) :
    Calls Try.prog 24 #[VA, VB] W (MadePost (fun x y => x && !y) fa fb W) :=
  (less_calls VA VB fa fb W ha hb hfa hfb hk).mono fun _ _ h => made_new hfa hfb hk hn h
theorem told_as {d : Au.Dv} {l : List Int} {b : Bool} (hb : d.tells l = b) (hl : l.length ≤ maxLen) (V U : Value) (W : World) (h : Auto W V d) (hx : Nums W U l) :
    Calls Try.prog 14 #[V, U] W fun e w' => e = .returned (.bool b) ∧ Below W.heap.size W w' := by
  have := dtells_calls V U d l W h hx hl
  rw [hb] at this
  exact this
end Go.Proofs.Ytdidogcgoghdmaa
