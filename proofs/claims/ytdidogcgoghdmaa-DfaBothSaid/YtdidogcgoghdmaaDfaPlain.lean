/- Plain: automata as memory holds them, of any numbers; how one is made of a word, and of two. No program is named here. -/
import Derived.Test.YtdidogcgoghdmaaAutoMore
namespace Go.Proofs.Ytdidogcgoghdmaa
namespace Au
/-- An automaton of any numbers. -/
structure Dv where
  k : Int
  start : Int
  next : List Int
  acc : List Bool
def ofN (l : List Nat) : List Int := l.map fun n : Nat => (n : Int)
def toN (l : List Int) : List Nat := l.map Int.toNat
def Dv.of (f : Fa) : Dv := ⟨f.k, f.start, ofN f.next, f.acc⟩
def Dv.fa (d : Dv) : Fa := ⟨d.k.toNat, d.start.toNat, toN d.next, d.acc⟩
def Dv.zero : Dv := ⟨0, 0, [], []⟩
def inK (k x : Int) : Bool := decide (0 ≤ x) && decide (x < k)
def syms (k : Int) (w : List Int) : Bool := w.all (inK k)
structure Ok (d : Dv) : Prop where
  k1 : 1 ≤ d.k
  k2 : d.k ≤ 512
  n1 : 1 ≤ d.acc.length
  n2 : d.acc.length ≤ 65536
  len : (d.next.length : Int) = d.k * d.acc.length
  all : ∀ s ∈ d.next, inK d.acc.length s = true
  st : inK d.acc.length d.start = true
open Classical in
noncomputable def Dv.right (d : Dv) : Bool := decide (Ok d)
theorem right_no {d : Dv} (h : ¬ Ok d) : d.right = false := @decide_eq_false _ (Classical.propDecidable _) h
theorem right_yes {d : Dv} (h : Ok d) : d.right = true := @decide_eq_true _ (Classical.propDecidable _) h
theorem ok_of {d : Dv} (h : d.right = true) : Ok d := @of_decide_eq_true _ (Classical.propDecidable _) h
structure Sound (f : Fa) : Prop extends Right f where
  k2 : f.k ≤ 512
  n2 : f.n ≤ 65536
theorem ofN_length (l : List Nat) : (ofN l).length = l.length := List.length_map _
theorem toN_length (l : List Int) : (toN l).length = l.length := List.length_map _
theorem ofN_at {l : List Nat} {i n : Nat} (h : l[i]? = some n) : (ofN l)[i]? = some (n : Int) := by unfold ofN; rw [List.getElem?_map, h]; rfl
theorem toN_ofN (l : List Nat) : toN (ofN l) = l := by
  unfold toN ofN
  rw [List.map_map]
  have : (Int.toNat ∘ fun n : Nat => (n : Int)) = id := by funext n; simp
  rw [this, List.map_id]
theorem ofN_toN {k : Int} : ∀ {l : List Int}, (∀ x ∈ l, inK k x = true) → ofN (toN l) = l
  | [], _ => rfl
  | x :: l, h => by
    have h1 := h x (by simp)
    have ih := ofN_toN (l := l) (fun y hy => h y (by simp [hy]))
    unfold inK at h1
    simp only [Bool.and_eq_true, decide_eq_true_eq] at h1
    unfold ofN toN at *
    simp only [List.map_cons, ih]
    rw [Int.toNat_of_nonneg h1.1]
theorem inK_nat {k : Nat} {x : Int} (h : inK k x = true) : x.toNat < k ∧ (x.toNat : Int) = x := by
  unfold inK at h
  simp only [Bool.and_eq_true, decide_eq_true_eq] at h
  omega
theorem inK_of {k n : Nat} (h : n < k) : inK k n = true := by
  unfold inK
  simp only [Bool.and_eq_true, decide_eq_true_eq]
  omega
theorem inK_iff {k x : Int} : inK k x = true ↔ 0 ≤ x ∧ x < k := by unfold inK; simp
theorem inK_no {k x : Int} (h : x < 0 ∨ k ≤ x) : inK k x = false := by
  cases e : inK k x with
  | false => rfl
  | true => have := inK_iff.1 e; omega
theorem fa_of (f : Fa) : (Dv.of f).fa = f := by
  unfold Dv.of Dv.fa
  simp only [toN_ofN, Int.toNat_natCast]
theorem of_fa {d : Dv} (h : Ok d) : Dv.of d.fa = d := by
  have h1 := h.k1
  have h2 := (inK_nat h.st).2
  unfold Dv.of Dv.fa
  simp only [ofN_toN h.all, h2]
  rw [Int.toNat_of_nonneg (by omega)]
theorem sound_fa {d : Dv} (h : Ok d) : Sound d.fa := by
  have h1 := h.k1
  refine ⟨⟨?_, ?_, ?_, ?_⟩, ?_, ?_⟩
  · show 1 ≤ d.k.toNat; omega
  · show (toN d.next).length = d.acc.length * d.k.toNat
    rw [toN_length]
    have := h.len
    have e : ((d.k.toNat : Nat) : Int) = d.k := Int.toNat_of_nonneg (by omega)
    rw [← e, ← Int.natCast_mul] at this
    rw [Nat.mul_comm]
    omega
  · intro s hs
    obtain ⟨x, hx, rfl⟩ := List.mem_map.1 hs
    exact (inK_nat (h.all x hx)).1
  · exact (inK_nat h.st).1
  · show d.k.toNat ≤ 512
    have := h.k2; omega
  · exact h.n2
theorem ok_sound {f : Fa} (h : Sound f) : Ok (Dv.of f) := by
  have h0 := h.start
  refine ⟨?_, ?_, ?_, h.n2, ?_, ?_, inK_of h0⟩
  · have := h.k1; show (1 : Int) ≤ (f.k : Int); omega
  · have := h.k2; show (f.k : Int) ≤ 512; omega
  · show 1 ≤ f.acc.length
    unfold Fa.n at h0; omega
  · show ((ofN f.next).length : Int) = (f.k : Int) * (f.acc.length : Int)
    rw [ofN_length, h.len, ← Int.natCast_mul, Nat.mul_comm]; rfl
  · intro s hs
    obtain ⟨x, hx, rfl⟩ := List.mem_map.1 hs
    exact inK_of (h.all x hx)
theorem right_sound {f : Fa} (h : Sound f) : (Dv.of f).right = true := right_yes (ok_sound h)
theorem ok_cases (d : Dv) : (d.right = false ∧ ¬ Ok d) ∨ ∃ f, d = Dv.of f ∧ Sound f := by
  by_cases h : Ok d
  · exact .inr ⟨d.fa, (of_fa h).symm, sound_fa h⟩
  · exact .inl ⟨right_no h, h⟩
/-! ### Words -/
theorem syms_cons (k x : Int) (w : List Int) : syms k (x :: w) = (inK k x && syms k w) := List.all_cons
theorem syms_wd {k : Nat} {w : List Int} (h : syms k w = true) : w = ofN (toN w) ∧ Wd k (toN w) := by
  unfold syms at h
  rw [List.all_eq_true] at h
  refine ⟨(ofN_toN h).symm, fun x hx => ?_⟩
  obtain ⟨y, hy, rfl⟩ := List.mem_map.1 hx
  exact (inK_nat (h y hy)).1
theorem wd_syms {k : Nat} {w : List Nat} (h : Wd k w) : syms k (ofN w) = true := by
  unfold syms
  rw [List.all_eq_true]
  intro x hx
  obtain ⟨y, hy, rfl⟩ := List.mem_map.1 hx
  exact inK_of (h y hy)
theorem syms_no {k : Int} {w : List Int} {x : Int} (hx : x ∈ w) (h : inK k x = false) : syms k w = false := by
  unfold syms
  rw [List.all_eq_false]
  exact ⟨x, hx, by rw [h]; simp⟩
theorem syms_app (k : Int) (a b : List Int) : syms k (a ++ b) = (syms k a && syms k b) := List.all_append
/-- Does it tell a word? -/
noncomputable def Dv.tells (d : Dv) (w : List Int) : Bool := d.right && (syms d.k w && accB d.fa (run d.fa d.fa.start (toN w)))
theorem tells_no {d : Dv} (h : ¬ Ok d) (w : List Int) : d.tells w = false := by unfold Dv.tells; rw [right_no h]; rfl
theorem tells_of {f : Fa} (h : Sound f) (w : List Int) : (Dv.of f).tells w = (syms f.k w && accB f (run f f.start (toN w))) := by
  unfold Dv.tells
  rw [right_sound h, fa_of, Bool.true_and]; rfl
theorem tells_ofN {f : Fa} (h : Sound f) (w : List Nat) : (Dv.of f).tells (ofN w) = tells f w := by
  rw [tells_of h, toN_ofN]
  unfold tells
  congr 1
  by_cases hw : Wd f.k w
  · rw [wd_syms hw, decide_eq_true hw]
  · rw [decide_eq_false hw]
    cases e : syms f.k (ofN w) with
    | false => rfl
    | true =>
      have := (syms_wd e).2
      rw [toN_ofN] at this
      exact absurd this hw
theorem tells_syms {f : Fa} (h : Sound f) {w : List Int} (hw : syms f.k w = false) : (Dv.of f).tells w = false := by rw [tells_of h, hw]; rfl
theorem toN_take (l : List Int) (i : Nat) : toN (l.take i) = (toN l).take i := by unfold toN; rw [List.map_take]
theorem toN_at {l : List Int} {i : Nat} {x : Int} (h : l[i]? = some x) : (toN l)[i]? = some x.toNat := by unfold toN; rw [List.getElem?_map, h]; rfl
theorem run_more {f : Fa} {w : List Nat} {i x : Nat} (s : Nat) (h : w[i]? = some x) : run f s (w.take (i + 1)) = step f (run f s (w.take i)) x := by
  rw [List.take_add_one, h, run_app]; rfl
theorem accB_at {f : Fa} {s : Nat} (hs : s < f.n) : f.acc[s]? = some (accB f s) := by
  unfold accB
  rw [List.getElem?_eq_getElem hs]; rfl
/-! ### Nothing, and all others -/
def noneFa (k : Nat) : Fa := ⟨k, 0, List.replicate k 0, [false]⟩
theorem none_sound {k : Nat} (h1 : 1 ≤ k) (h2 : k ≤ 512) : Sound (noneFa k) :=
  ⟨⟨h1, by show (List.replicate k 0).length = 1 * k; simp, fun s hs => by rw [(List.mem_replicate.1 hs).2]; show 0 < 1; omega, by show 0 < 1; omega⟩, h2, by show 1 ≤ 65536; omega⟩
theorem none_step (k s x : Nat) : step (noneFa k) s x = 0 := by
  unfold step noneFa
  simp only [List.getElem?_replicate]
  split <;> rfl
theorem none_run (k : Nat) : ∀ w : List Nat, run (noneFa k) 0 w = 0
  | [] => rfl
  | x :: w => by rw [run_cons, none_step]; exact none_run k w
theorem none_tells {k : Nat} (h1 : 1 ≤ k) (h2 : k ≤ 512) (w : List Int) : (Dv.of (noneFa k)).tells w = false := by
  rw [tells_of (none_sound h1 h2), show (noneFa k).start = 0 from rfl, none_run]
  simp [accB, noneFa]
def notFa (f : Fa) : Fa := ⟨f.k, f.start, f.next, f.acc.map not⟩
theorem not_n (f : Fa) : (notFa f).n = f.n := by unfold Fa.n notFa; rw [List.length_map]
theorem not_sound {f : Fa} (h : Sound f) : Sound (notFa f) := by
  refine ⟨⟨h.k1, ?_, ?_, ?_⟩, h.k2, ?_⟩
  · rw [not_n]; exact h.len
  · rw [not_n]; exact h.all
  · rw [not_n]; exact h.start
  · rw [not_n]; exact h.n2
theorem not_not (f : Fa) : notFa (notFa f) = f := by
  have e : (f.acc.map not).map not = f.acc := by
    rw [List.map_map]
    have : (not ∘ not) = id := by funext b; simp
    rw [this, List.map_id]
  show (⟨f.k, f.start, f.next, (f.acc.map not).map not⟩ : Fa) = f
  rw [e]
theorem not_run (f : Fa) : ∀ (w : List Nat) (s : Nat), run (notFa f) s w = run f s w
  | [], _ => rfl
  | x :: w, s => by rw [run_cons, run_cons]; exact not_run f w _
theorem not_acc {f : Fa} {s : Nat} (hs : s < f.n) : accB (notFa f) s = !accB f s := by
  have := accB_at hs
  show ((f.acc.map not)[s]?).getD false = _
  rw [List.getElem?_map, this]; rfl
theorem not_tells {f : Fa} (h : Sound f) (w : List Int) : (Dv.of (notFa f)).tells w = (syms f.k w && !(Dv.of f).tells w) := by
  rw [tells_of (not_sound h), tells_of h]
  show (syms f.k w && accB (notFa f) (run (notFa f) f.start (toN w))) = _
  cases e : syms f.k w with
  | false => rfl
  | true => rw [not_run, not_acc (run_lt h.toRight h.start (syms_wd e).2)]; simp
/-! ### A word, and what begins with it -/
structure WordOf (k : Nat) (v : List Nat) (c : Fa) : Prop extends Sound c where
  kk : c.k = k
  nn : c.n = v.length + 2
  zero : c.start = 0
  ends : ∀ s, accB c s = decide (s = v.length)
  go : ∀ s x, s < c.n → x < k → step c s x = if v[s]? = some x then s + 1 else v.length + 1
structure BeginsOf (k : Nat) (v : List Nat) (c : Fa) : Prop extends Sound c where
  kk : c.k = k
  nn : c.n = v.length + 2
  zero : c.start = 0
  ends : ∀ s, accB c s = decide (s = v.length)
  go : ∀ s x, s < c.n → x < k → step c s x = if s = v.length then v.length else if v[s]? = some x then s + 1 else v.length + 1
theorem WordOf.lost {k : Nat} {v : List Nat} {c : Fa} (h : WordOf k v c) : ∀ {u : List Nat}, Wd k u → run c (v.length + 1) u = v.length + 1
  | [], _ => rfl
  | x :: u, hu => by
    obtain ⟨h1, h2⟩ := wd_cons.1 hu
    have := h.go (v.length + 1) x (by rw [h.nn]; omega) h1
    rw [List.getElem?_eq_none (by omega), if_neg (by simp)] at this
    rw [run_cons, this]
    exact h.lost h2
theorem BeginsOf.lost {k : Nat} {v : List Nat} {c : Fa} (h : BeginsOf k v c) : ∀ {u : List Nat}, Wd k u → run c (v.length + 1) u = v.length + 1
  | [], _ => rfl
  | x :: u, hu => by
    obtain ⟨h1, h2⟩ := wd_cons.1 hu
    have := h.go (v.length + 1) x (by rw [h.nn]; omega) h1
    rw [if_neg (by omega), List.getElem?_eq_none (by omega), if_neg (by simp)] at this
    rw [run_cons, this]
    exact h.lost h2
theorem BeginsOf.there {k : Nat} {v : List Nat} {c : Fa} (h : BeginsOf k v c) : ∀ {u : List Nat}, Wd k u → run c v.length u = v.length
  | [], _ => rfl
  | x :: u, hu => by
    obtain ⟨h1, h2⟩ := wd_cons.1 hu
    have := h.go v.length x (by rw [h.nn]; omega) h1
    rw [if_pos rfl] at this
    rw [run_cons, this]
    exact h.there h2
theorem drop_at {v : List Nat} {s y : Nat} (h : v[s]? = some y) : v.drop s = y :: v.drop (s + 1) := by
  obtain ⟨h1, h2⟩ := List.getElem?_eq_some_iff.1 h
  rw [List.drop_eq_getElem_cons h1, h2]
theorem WordOf.from_ {k : Nat} {v : List Nat} {c : Fa} (h : WordOf k v c) : ∀ {u : List Nat} {s : Nat}, s ≤ v.length → Wd k u → accB c (run c s u) = decide (u = v.drop s)
  | [], s, hs, _ => by
    rw [run_nil, h.ends, Bool.eq_iff_iff, decide_eq_true_eq, decide_eq_true_eq]
    constructor
    · intro e; rw [List.drop_eq_nil_iff.2 (by omega)]
    · intro e
      have := List.drop_eq_nil_iff.1 e.symm
      omega
  | x :: u, s, hs, hu => by
    obtain ⟨h1, h2⟩ := wd_cons.1 hu
    rw [run_cons, h.go s x (by rw [h.nn]; omega) h1]
    by_cases e : v[s]? = some x
    · rw [if_pos e, h.from_ (by have := (List.getElem?_eq_some_iff.1 e).1; omega) h2, drop_at e]
      simp
    · rw [if_neg e, h.lost h2, h.ends, decide_eq_false (by omega)]
      symm
      refine decide_eq_false fun k => e ?_
      have := congrArg (fun l : List Nat => l[0]?) k
      simpa using this.symm
theorem BeginsOf.from_ {k : Nat} {v : List Nat} {c : Fa} (h : BeginsOf k v c) : ∀ {u : List Nat} {s : Nat}, s ≤ v.length → Wd k u → accB c (run c s u) = decide (v.drop s <+: u)
  | [], s, hs, _ => by
    rw [run_nil, h.ends, Bool.eq_iff_iff, decide_eq_true_eq, decide_eq_true_eq, List.prefix_nil, List.drop_eq_nil_iff]
    omega
  | x :: u, s, hs, hu => by
    obtain ⟨h1, h2⟩ := wd_cons.1 hu
    rw [run_cons, h.go s x (by rw [h.nn]; omega) h1]
    by_cases e0 : s = v.length
    · rw [if_pos e0, h.there h2, h.ends, decide_eq_true rfl]
      symm
      refine decide_eq_true ?_
      rw [List.drop_eq_nil_iff.2 (by omega)]
      exact List.nil_prefix
    · rw [if_neg e0]
      by_cases e : v[s]? = some x
      · rw [if_pos e, h.from_ (by omega) h2, drop_at e]
        rw [Bool.eq_iff_iff, decide_eq_true_eq, decide_eq_true_eq, List.cons_prefix_cons]
        simp
      · rw [if_neg e, h.lost h2, h.ends, decide_eq_false (by omega)]
        symm
        refine decide_eq_false fun k => e ?_
        obtain ⟨y, hy⟩ : ∃ y, v[s]? = some y := ⟨_, List.getElem?_eq_getElem (by omega)⟩
        rw [drop_at hy, List.cons_prefix_cons] at k
        rw [hy, k.1]
theorem WordOf.tells {k : Nat} {v : List Nat} {c : Fa} (h : WordOf k v c) (w : List Int) : (Dv.of c).tells w = (syms k w && decide (toN w = v)) := by
  rw [tells_of h.toSound, h.kk, h.zero]
  cases e : syms k w with
  | false => rfl
  | true => rw [h.from_ (Nat.zero_le _) (syms_wd e).2]; rfl
theorem BeginsOf.tells {k : Nat} {v : List Nat} {c : Fa} (h : BeginsOf k v c) (w : List Int) : (Dv.of c).tells w = (syms k w && decide (v <+: toN w)) := by
  rw [tells_of h.toSound, h.kk, h.zero]
  cases e : syms k w with
  | false => rfl
  | true => rw [h.from_ (Nat.zero_le _) (syms_wd e).2]; rfl
/-- The goings of a word's automaton, when those of the first j symbols are laid. -/
def wordRow (k : Nat) (v : List Nat) : Nat → List Nat
  | 0 => List.replicate (k * (v.length + 2)) (v.length + 1)
  | j + 1 => (wordRow k v j).set (j * k + (v[j]?).getD 0) (j + 1)
theorem wordRow_length (k : Nat) (v : List Nat) : ∀ j, (wordRow k v j).length = k * (v.length + 2)
  | 0 => List.length_replicate
  | j + 1 => by unfold wordRow; rw [List.length_set]; exact wordRow_length k v j
theorem place_inj {k s t x y : Nat} (hx : x < k) (hy : y < k) (h : s * k + x = t * k + y) : s = t ∧ x = y := by
  have e1 : (s * k + x) / k = s := by rw [Nat.mul_comm, Nat.mul_add_div (by omega), Nat.div_eq_of_lt hx]; rfl
  have e2 : (t * k + y) / k = t := by rw [Nat.mul_comm, Nat.mul_add_div (by omega), Nat.div_eq_of_lt hy]; rfl
  have e3 : s = t := by rw [← e1, ← e2, h]
  subst e3
  exact ⟨rfl, by omega⟩
theorem wordRow_at {k : Nat} {v : List Nat} (hv : Wd k v) : ∀ {j : Nat}, j ≤ v.length → ∀ {s x : Nat}, s < v.length + 2 → x < k → (wordRow k v j)[s * k + x]? = some (if s < j ∧ v[s]? = some x then s + 1 else v.length + 1)
  | 0, _, s, x, hs, hx => by
    have := place hs hx
    unfold wordRow
    rw [Nat.mul_comm (v.length + 2)] at this
    rw [if_neg (by omega), List.getElem?_replicate, if_pos this]
  | j + 1, hj, s, x, hs, hx => by
    have ih := wordRow_at hv (j := j) (by omega) hs hx
    obtain ⟨y, hy⟩ : ∃ y, v[j]? = some y := ⟨_, List.getElem?_eq_getElem (by omega)⟩
    have hyk : y < k := hv y (List.mem_of_getElem? hy)
    have hp := place hs hx
    rw [Nat.mul_comm (v.length + 2)] at hp
    have hpj := place (s := j) (n := v.length + 2) (by omega) hyk
    unfold wordRow
    rw [hy, List.getElem?_set]
    show (if j * k + y = s * k + x then _ else _) = _
    by_cases e : j * k + y = s * k + x
    · obtain ⟨rfl, rfl⟩ := place_inj hyk hx e
      rw [if_pos rfl, if_pos (by rw [wordRow_length]; exact hp), if_pos ⟨by omega, hy⟩]
    · rw [if_neg e, ih]
      congr 1
      by_cases hc : s < j + 1 ∧ v[s]? = some x
      · have hsj : s ≠ j := by
          rintro rfl
          rw [hy] at hc
          have := Option.some.inj hc.2
          exact e (by rw [this])
        rw [if_pos hc, if_pos ⟨by omega, hc.2⟩]
      · rw [if_neg hc, if_neg (fun h => hc ⟨by omega, h.2⟩)]
theorem wordRow_all {k : Nat} {v : List Nat} (hv : Wd k v) : ∀ {j : Nat}, j ≤ v.length → ∀ a ∈ wordRow k v j, a < v.length + 2
  | 0, _, a, ha => by
    unfold wordRow at ha
    rw [(List.mem_replicate.1 ha).2]; omega
  | j + 1, hj, a, ha => by
    unfold wordRow at ha
    rcases List.mem_or_eq_of_mem_set ha with h | h
    · exact wordRow_all hv (by omega) a h
    · omega
def endAcc (n : Nat) : List Bool := (List.replicate (n + 2) false).set n true
theorem endAcc_at (n s : Nat) : ((endAcc n)[s]?).getD false = decide (s = n) := by
  unfold endAcc
  rw [List.getElem?_set, List.length_replicate, List.getElem?_replicate]
  by_cases h : n = s
  · subst h; rw [if_pos rfl, if_pos (by omega)]; simp
  · rw [if_neg h]
    have : decide (s = n) = false := decide_eq_false (fun e => h e.symm)
    rw [this]
    split <;> rfl
theorem word_of {k : Nat} {v : List Nat} (hv : Wd k v) (h1 : 1 ≤ k) (h2 : k ≤ 512) (h3 : v.length ≤ 65534) : WordOf k v ⟨k, 0, wordRow k v v.length, endAcc v.length⟩ := by
  have hn : (endAcc v.length).length = v.length + 2 := by unfold endAcc; simp
  refine { k1 := h1, len := ?_, all := ?_, start := ?_, k2 := h2, n2 := ?_, kk := rfl, nn := hn, zero := rfl, ends := fun s => endAcc_at _ s, go := ?_ }
  · show (wordRow k v v.length).length = (endAcc v.length).length * k
    rw [wordRow_length, hn, Nat.mul_comm]
  · intro s hs
    show s < (endAcc v.length).length
    rw [hn]
    exact wordRow_all hv (Nat.le_refl _) s hs
  · show 0 < (endAcc v.length).length
    omega
  · show (endAcc v.length).length ≤ 65536
    omega
  · intro s x hs hx
    have hs : s < (endAcc v.length).length := hs
    rw [hn] at hs
    show ((wordRow k v v.length)[s * k + x]?).getD 0 = _
    rw [wordRow_at hv (Nat.le_refl _) hs hx]
    show (if s < v.length ∧ v[s]? = some x then s + 1 else v.length + 1) = _
    by_cases e : v[s]? = some x
    · rw [if_pos ⟨(List.getElem?_eq_some_iff.1 e).1, e⟩, if_pos e]
    · rw [if_neg (fun h => e h.2), if_neg e]
/-! ### Of two -/
/-- The pairs' automaton: what it is made of. -/
structure Prod (op : Bool → Bool → Bool) (a b c : Fa) (l : List (Nat × Nat)) : Prop extends Sound c where
  kk : c.k = a.k
  zero : c.start = 0
  nn : c.n = l.length
  known : Known a b l l.length
  ends : ∀ i p, l[i]? = some p → accB c i = op (accB a p.1) (accB b p.2)
  go : ∀ i p x, l[i]? = some p → x < c.k → l[step c i x]? = some (goPair a b p x)
theorem Prod.tel {op : Bool → Bool → Bool} {a b c : Fa} {l : List (Nat × Nat)} (h : Prod op a b c l) : Tel op c a b c.start a.start b.start := by
  rw [h.zero]
  exact tel_of (op := op) (c := c) l h.ends h.go (p := (a.start, b.start)) h.known.first
theorem Prod.tells {op : Bool → Bool → Bool} {a b c : Fa} {l : List (Nat × Nat)} (h : Prod op a b c l) (ha : Sound a) (hb : Sound b) (hk : a.k = b.k) (w : List Int) : (Dv.of c).tells w = (syms a.k w && op ((Dv.of a).tells w) ((Dv.of b).tells w)) := by
  rw [tells_of h.toSound, tells_of ha, tells_of hb, h.kk, ← hk]
  cases e : syms a.k w with
  | false => rfl
  | true =>
    rw [h.tel _ (by rw [h.kk]; exact (syms_wd e).2)]
    simp
/-- What the maker of pairs has, when the first i of them are gone through. -/
structure Mk (op : Bool → Bool → Bool) (a b : Fa) (l : List (Nat × Nat)) (nx : List Nat) (ac : List Bool) (i : Nat) : Prop where
  known : Known a b l i
  nlen : nx.length = i * a.k
  alen : i ≤ l.length
  go : ∀ (j : Nat) (p : Nat × Nat) (x : Nat), j < i → l[j]? = some p → x < a.k → ∃ t, nx[j * a.k + x]? = some t ∧ l[t]? = some (goPair a b p x)
  ends : ac = (l.take i).map fun p => op (accB a p.1) (accB b p.2)
theorem mk_start (op : Bool → Bool → Bool) (a b : Fa) : Mk op a b [(a.start, b.start)] [] [] 0 :=
  ⟨known_start a b, by simp, Nat.zero_le _, fun j p x hj => by omega, rfl⟩
/-- A pair has its place. -/
def Seat (l : List (Nat × Nat)) (p : Nat × Nat) (l' : List (Nat × Nat)) (i : Nat) : Prop := l'[i]? = some p ∧ ((p ∈ l ∧ l' = l) ∨ (p ∉ l ∧ l' = l ++ [p]))
theorem Seat.pre {l l' : List (Nat × Nat)} {p : Nat × Nat} {i : Nat} (h : Seat l p l' i) : l <+: l' := by
  rcases h.2 with ⟨_, e⟩ | ⟨_, e⟩
  · rw [e]; exact List.prefix_refl _
  · rw [e]; exact List.prefix_append _ _
theorem Seat.once {l l' : List (Nat × Nat)} {p : Nat × Nat} {i : Nat} (h : Seat l p l' i) (hl : l.Nodup) : l'.Nodup := by
  rcases h.2 with ⟨_, e⟩ | ⟨hn, e⟩
  · rw [e]; exact hl
  · rw [e, List.nodup_append]
    refine ⟨hl, by simp, ?_⟩
    intro x hx y hy
    rw [List.mem_singleton.1 hy]
    rintro rfl
    exact hn hx
theorem Seat.mem {l l' : List (Nat × Nat)} {p : Nat × Nat} {i : Nat} (h : Seat l p l' i) {q : Nat × Nat} (hq : q ∈ l') : q ∈ l ∨ q = p := by
  rcases h.2 with ⟨_, e⟩ | ⟨_, e⟩
  · rw [e] at hq; exact .inl hq
  · rw [e] at hq
    rcases List.mem_append.1 hq with k | k
    · exact .inl k
    · exact .inr (List.mem_singleton.1 k)
theorem Seat.few {l l' : List (Nat × Nat)} {p : Nat × Nat} {i : Nat} (h : Seat l p l' i) : l'.length ≤ l.length + 1 := by
  rcases h.2 with ⟨_, e⟩ | ⟨_, e⟩
  · rw [e]; omega
  · rw [e, List.length_append, List.length_singleton]; omega
theorem at_pre {α : Type} {l l' : List α} (h : l <+: l') {i : Nat} {x : α} (hx : l[i]? = some x) : l'[i]? = some x := by
  obtain ⟨t, rfl⟩ := h
  rw [List.getElem?_append_left (List.getElem?_eq_some_iff.1 hx).1]
  exact hx
/-- The first y of a pair's goings have their places. -/
structure Left (l0 ps l : List (Nat × Nat)) (tos : List Nat) (y : Nat) : Prop where
  pre : l0 <+: l
  once : l.Nodup
  mem : ∀ q ∈ l, q ∈ l0 ∨ q ∈ ps
  len : tos.length = y
  to : ∀ (x : Nat) (q : Nat × Nat), x < y → ps[x]? = some q → ∃ t, tos[x]? = some t ∧ l[t]? = some q
  few : l.length ≤ l0.length + y + 1
theorem left_start {l0 ps l : List (Nat × Nat)} {p : Nat × Nat} {i : Nat} (h0 : l0.Nodup) (hp : p ∈ ps) (h : Seat l0 p l i) : Left l0 ps l [] 0 :=
  ⟨h.pre, h.once h0, fun q hq => by
    rcases h.mem hq with k | k
    · exact .inl k
    · exact .inr (by rw [k]; exact hp), rfl, fun x q hx => by omega, by have := h.few; omega⟩
/-- One going more: its pair has a place already. -/
theorem Left.same {l0 ps l : List (Nat × Nat)} {tos : List Nat} {y t : Nat} (h : Left l0 ps l tos y) {q : Nat × Nat} (hq : ps[y]? = some q) (ht : l[t]? = some q) : Left l0 ps l (tos ++ [t]) (y + 1) := by
  refine ⟨h.pre, h.once, h.mem, by rw [List.length_append, h.len]; rfl, fun x q' hx hq' => ?_, by have := h.few; omega⟩
  by_cases e : x = y
  · subst e
    refine ⟨t, ?_, ?_⟩
    · rw [List.getElem?_append_right (by rw [h.len]; omega), h.len, Nat.sub_self]; rfl
    · rw [hq] at hq'; rw [← Option.some.inj hq']; exact ht
  · obtain ⟨u, e1, e2⟩ := h.to x q' (by omega) hq'
    exact ⟨u, by rw [List.getElem?_append_left (by rw [h.len]; omega)]; exact e1, e2⟩
/-- One going more: its pair gets a place. -/
theorem Left.more {l0 ps l l' : List (Nat × Nat)} {tos : List Nat} {y t : Nat} (h : Left l0 ps l tos y) {q : Nat × Nat} (hq : ps[y]? = some q) (hs : Seat l q l' t) : Left l0 ps l' (tos ++ [t]) (y + 1) := by
  refine ⟨h.pre.trans hs.pre, hs.once h.once, fun p hp => ?_, by rw [List.length_append, h.len]; rfl, fun x q' hx hq' => ?_, by have := h.few; have := hs.few; omega⟩
  · rcases hs.mem hp with k | k
    · exact h.mem p k
    · exact .inr (by rw [k]; exact List.mem_of_getElem? hq)
  by_cases e : x = y
  · subst e
    refine ⟨t, ?_, ?_⟩
    · rw [List.getElem?_append_right (by rw [h.len]; omega), h.len, Nat.sub_self]; rfl
    · rw [hq] at hq'; rw [← Option.some.inj hq']; exact hs.1
  · obtain ⟨u, e1, e2⟩ := h.to x q' (by omega) hq'
    exact ⟨u, by rw [List.getElem?_append_left (by rw [h.len]; omega)]; exact e1, at_pre hs.pre e2⟩
def goings (a b : Fa) (p : Nat × Nat) : List (Nat × Nat) := (List.range a.k).map (goPair a b p)
theorem goings_at {a b : Fa} {p : Nat × Nat} {x : Nat} (hx : x < a.k) : (goings a b p)[x]? = some (goPair a b p x) := by
  unfold goings
  rw [List.getElem?_map, List.getElem?_range hx]; rfl
theorem goings_length (a b : Fa) (p : Nat × Nat) : (goings a b p).length = a.k := by unfold goings; rw [List.length_map, List.length_range]
/-- One pair more is gone through. -/
theorem Mk.more {op : Bool → Bool → Bool} {a b : Fa} {l l' : List (Nat × Nat)} {nx tos : List Nat} {ac : List Bool} {i : Nat} {p : Nat × Nat} (h : Mk op a b l nx ac i) (hp : l[i]? = some p) (hl : Left l (goings a b p) l' tos a.k) :
    Mk op a b l' (nx ++ tos) (ac ++ [op (accB a p.1) (accB b p.2)]) (i + 1) := by
  have hpl := (List.getElem?_eq_some_iff.1 hp).1
  have hpm := List.mem_of_getElem? hp
  have htake : l'.take i = l.take i := by
    obtain ⟨t, rfl⟩ := hl.pre
    rw [List.take_append, show i - l.length = 0 by omega]; simp
  refine ⟨⟨at_pre hl.pre h.known.first, hl.once, fun q hq => ?_, fun j q x hj hq hx => ?_⟩, ?_, ?_, fun j q x hj hq hx => ?_, ?_⟩
  · rcases hl.mem q hq with k | k
    · exact h.known.come q k
    · obtain ⟨x, hx, rfl⟩ := List.mem_map.1 k
      exact come_step (h.known.come p hpm) (List.mem_range.1 hx)
  · by_cases e : j = i
    · subst e
      rw [at_pre hl.pre hp] at hq
      rw [← Option.some.inj hq]
      obtain ⟨t, _, e2⟩ := hl.to x _ hx (goings_at hx)
      exact List.mem_of_getElem? e2
    · have hj' : j < i := by omega
      obtain ⟨q', hq'⟩ : ∃ q', l[j]? = some q' := ⟨_, List.getElem?_eq_getElem (by omega)⟩
      rw [at_pre hl.pre hq'] at hq
      rw [← Option.some.inj hq]
      exact hl.pre.subset (h.known.done j q' x hj' hq' hx)
  · rw [List.length_append, h.nlen, hl.len, Nat.add_mul, Nat.one_mul]
  · have := hl.pre.length_le; omega
  · by_cases e : j = i
    · subst e
      rw [at_pre hl.pre hp] at hq
      rw [← Option.some.inj hq]
      obtain ⟨t, e1, e2⟩ := hl.to x _ hx (goings_at hx)
      refine ⟨t, ?_, e2⟩
      rw [List.getElem?_append_right (by rw [h.nlen]; omega), h.nlen, Nat.add_sub_cancel_left]
      exact e1
    · have hj' : j < i := by omega
      obtain ⟨q', hq'⟩ : ∃ q', l[j]? = some q' := ⟨_, List.getElem?_eq_getElem (by omega)⟩
      rw [at_pre hl.pre hq'] at hq
      rw [← Option.some.inj hq]
      obtain ⟨t, e1, e2⟩ := h.go j q' x hj' hq' hx
      exact ⟨t, by rw [List.getElem?_append_left (List.getElem?_eq_some_iff.1 e1).1]; exact e1, at_pre hl.pre e2⟩
  · rw [List.take_add_one, at_pre hl.pre hp, List.map_append, htake, ← h.ends]; rfl
theorem Mk.all {op : Bool → Bool → Bool} {a b : Fa} {l : List (Nat × Nat)} {nx : List Nat} {ac : List Bool} {i : Nat} (h : Mk op a b l nx ac i) (ha : Sound a) (hi : l.length ≤ i) (hn : l.length ≤ 65536) : Prod op a b ⟨a.k, 0, nx, ac⟩ l := by
  obtain rfl : i = l.length := by have := h.alen; omega
  have hac : ac.length = l.length := by rw [h.ends, List.length_map, List.take_of_length_le (Nat.le_refl _)]
  have h0 : 0 < l.length := (List.getElem?_eq_some_iff.1 h.known.first).1
  have hk1 := ha.k1
  refine { k1 := ha.k1, len := ?_, all := ?_, start := ?_, k2 := ha.k2, n2 := ?_, kk := rfl, zero := rfl, nn := hac, known := h.known, ends := ?_, go := ?_ }
  · show nx.length = ac.length * a.k
    rw [hac]; exact h.nlen
  · intro s hs
    show s < ac.length
    rw [hac]
    obtain ⟨j, hj⟩ := List.getElem?_of_mem hs
    have hjl : j < l.length * a.k := by rw [← h.nlen]; exact (List.getElem?_eq_some_iff.1 hj).1
    obtain ⟨p1, p2, p3⟩ := place_of hk1 hjl
    obtain ⟨t, e1, e2⟩ := h.go (j / a.k) l[j / a.k] (j % a.k) p1 (List.getElem?_eq_getElem p1) p2
    rw [p3] at e1
    rw [show nx[j]? = some s from hj] at e1
    rw [Option.some.inj e1]
    exact (List.getElem?_eq_some_iff.1 e2).1
  · show 0 < ac.length
    rw [hac]; exact h0
  · show ac.length ≤ 65536
    rw [hac]; exact hn
  · intro i p hp
    show (ac[i]?).getD false = _
    rw [h.ends, List.take_of_length_le (Nat.le_refl _), List.getElem?_map, hp]; rfl
  · intro i p x hp hx
    obtain ⟨t, e1, e2⟩ := h.go i p x (List.getElem?_eq_some_iff.1 hp).1 hp hx
    have : step ⟨a.k, 0, nx, ac⟩ i x = t := by
      show (nx[i * a.k + x]?).getD 0 = t
      rw [e1]; rfl
    rw [this]; exact e2
/-- As many pairs, whoever counts them. -/
theorem Known.same {a b : Fa} {l l' : List (Nat × Nat)} (h : Known a b l l.length) (h' : Known a b l' l'.length) : l.length ≤ l'.length :=
  h.once.length_le_of_subset fun p hp => (h'.all (Nat.le_refl _) p).2 (h.come p hp)
end Au
end Go.Proofs.Ytdidogcgoghdmaa
