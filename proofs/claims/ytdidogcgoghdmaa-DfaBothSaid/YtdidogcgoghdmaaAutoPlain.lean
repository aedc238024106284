/- Plain functions on automata, and plain lemmas on them: what they tell, when two tell the same, the one with the fewest states. No program is named here. -/
import Derived.Test.YtdidogcgoghdmaaPlains
namespace Go.Proofs.Ytdidogcgoghdmaa
namespace Au
/-- An automaton whose numbers are no less than 0. -/
structure Fa where
  k : Nat
  start : Nat
  next : List Nat
  acc : List Bool
  deriving DecidableEq
def Fa.n (d : Fa) : Nat := d.acc.length
structure Right (d : Fa) : Prop where
  k1 : 1 ≤ d.k
  len : d.next.length = d.n * d.k
  all : ∀ s ∈ d.next, s < d.n
  start : d.start < d.n
/-- Symbol by symbol. -/
def step (d : Fa) (s x : Nat) : Nat := (d.next[s * d.k + x]?).getD 0
def run (d : Fa) (s : Nat) (w : List Nat) : Nat := w.foldl (step d) s
def accB (d : Fa) (s : Nat) : Bool := (d.acc[s]?).getD false
def Wd (k : Nat) (w : List Nat) : Prop := ∀ x ∈ w, x < k
instance (k : Nat) (w : List Nat) : Decidable (Wd k w) := by unfold Wd; infer_instance
def tells (d : Fa) (w : List Nat) : Bool := decide (Wd d.k w) && accB d (run d d.start w)
theorem wd_nil (k : Nat) : Wd k [] := by intro x hx; cases hx
theorem wd_cons {k x : Nat} {w : List Nat} : Wd k (x :: w) ↔ x < k ∧ Wd k w := by
  unfold Wd
  constructor
  · intro h; exact ⟨h x (by simp), fun y hy => h y (by simp [hy])⟩
  · rintro ⟨h1, h2⟩ y hy
    rcases List.mem_cons.1 hy with e | e
    · rw [e]; exact h1
    · exact h2 y e
theorem wd_app {k : Nat} {a b : List Nat} : Wd k (a ++ b) ↔ Wd k a ∧ Wd k b := by
  unfold Wd
  constructor
  · intro h; exact ⟨fun y hy => h y (by simp [hy]), fun y hy => h y (by simp [hy])⟩
  · rintro ⟨h1, h2⟩ y hy
    rcases List.mem_append.1 hy with e | e
    · exact h1 y e
    · exact h2 y e
theorem place {s x n k : Nat} (hs : s < n) (hx : x < k) : s * k + x < n * k := by
  have h : (s + 1) * k ≤ n * k := Nat.mul_le_mul_right k hs
  rw [Nat.add_mul, Nat.one_mul] at h
  omega
theorem place_of {j n k : Nat} (hk : 1 ≤ k) (hj : j < n * k) : j / k < n ∧ j % k < k ∧ j / k * k + j % k = j := by
  refine ⟨Nat.div_lt_of_lt_mul (by rw [Nat.mul_comm]; exact hj), Nat.mod_lt _ (by omega), ?_⟩
  rw [Nat.mul_comm]; exact Nat.div_add_mod j k
theorem step_at {d : Fa} (hd : Right d) {s x : Nat} (hs : s < d.n) (hx : x < d.k) : d.next[s * d.k + x]? = some (step d s x) := by
  have h : s * d.k + x < d.next.length := by rw [hd.len]; exact place hs hx
  unfold step
  rw [List.getElem?_eq_getElem h]; rfl
theorem step_lt {d : Fa} (hd : Right d) {s x : Nat} (hs : s < d.n) (hx : x < d.k) : step d s x < d.n :=
  hd.all _ (List.mem_of_getElem? (step_at hd hs hx))
theorem run_nil (d : Fa) (s : Nat) : run d s [] = s := rfl
theorem run_cons (d : Fa) (s x : Nat) (w : List Nat) : run d s (x :: w) = run d (step d s x) w := rfl
theorem run_app (d : Fa) (s : Nat) (a b : List Nat) : run d s (a ++ b) = run d (run d s a) b := List.foldl_append
theorem run_lt {d : Fa} (hd : Right d) : ∀ {w : List Nat} {s : Nat}, s < d.n → Wd d.k w → run d s w < d.n
  | [], _, hs, _ => hs
  | x :: w, s, hs, hw => by
    obtain ⟨h1, h2⟩ := wd_cons.1 hw
    rw [run_cons]
    exact run_lt hd (step_lt hd hs h1) h2
/-! ### Which states tell the same -/
/-- From both states on the same words are told. -/
def Eqv (d : Fa) (s : Nat) (e : Fa) (t : Nat) : Prop := ∀ w, Wd d.k w → accB d (run d s w) = accB e (run e t w)
theorem Eqv.refl (d : Fa) (s : Nat) : Eqv d s d s := fun _ _ => rfl
theorem Eqv.symm {d e : Fa} (hk : d.k = e.k) {s t : Nat} (h : Eqv d s e t) : Eqv e t d s := fun w hw => (h w (by rw [hk]; exact hw)).symm
theorem Eqv.trans {a b c : Fa} (hk : a.k = b.k) {s t u : Nat} (h1 : Eqv a s b t) (h2 : Eqv b t c u) : Eqv a s c u := fun w hw => (h1 w hw).trans (h2 w (by rw [← hk]; exact hw))
theorem Eqv.acc {d e : Fa} {s t : Nat} (h : Eqv d s e t) : accB d s = accB e t := h [] (wd_nil _)
theorem Eqv.step {d e : Fa} {s t : Nat} (h : Eqv d s e t) {x : Nat} (hx : x < d.k) : Eqv d (step d s x) e (step e t x) := fun w hw => h (x :: w) (wd_cons.2 ⟨hx, hw⟩)
theorem Eqv.run {d e : Fa} : ∀ {w : List Nat} {s t : Nat}, Eqv d s e t → Wd d.k w → Eqv d (run d s w) e (run e t w)
  | [], _, _, h, _ => h
  | x :: w, s, t, h, hw => by
    obtain ⟨h1, h2⟩ := wd_cons.1 hw
    rw [run_cons, run_cons]
    exact (h.step h1).run h2
/-- A relation that goes along with the symbols. -/
theorem eqv_of {d e : Fa} (R : Nat → Nat → Prop) (h1 : ∀ s t, R s t → accB d s = accB e t) (h2 : ∀ s t x, R s t → x < d.k → R (step d s x) (step e t x)) : ∀ {s t : Nat}, R s t → Eqv d s e t := by
  intro s t h w
  induction w generalizing s t with
  | nil => intro _; exact h1 s t h
  | cons x w ih =>
    intro hw
    obtain ⟨k1, k2⟩ := wd_cons.1 hw
    exact ih (h2 s t x h k1) k2
theorem eqv_step {d e : Fa} {s t : Nat} (ha : accB d s = accB e t) (h : ∀ x, x < d.k → Eqv d (step d s x) e (step e t x)) : Eqv d s e t := by
  intro w hw
  cases w with
  | nil => exact ha
  | cons x w =>
    obtain ⟨k1, k2⟩ := wd_cons.1 hw
    exact h x k1 w k2
theorem tells_eqv {d e : Fa} (hk : d.k = e.k) : Eqv d d.start e e.start ↔ ∀ w, tells d w = tells e w := by
  unfold tells
  constructor
  · intro h w
    by_cases hw : Wd d.k w
    · rw [h w hw, hk]
    · rw [decide_eq_false hw, decide_eq_false (by rw [← hk]; exact hw)]; rfl
  · intro h w hw
    have := h w
    rw [decide_eq_true hw, decide_eq_true (by rw [← hk]; exact hw)] at this
    simpa using this
/-- What is marked, when pairs are marked again and again until nothing is new: those that some word tells apart. -/
theorem unlike_iff {d : Fa} (hd : Right d) (U : Nat → Nat → Prop) (sound : ∀ s t, s < d.n → t < d.n → U s t → accB d s ≠ accB d t ∨ ∃ x, x < d.k ∧ ¬ Eqv d (step d s x) d (step d t x))
    (closed1 : ∀ s t, s < d.n → t < d.n → accB d s ≠ accB d t → U s t) (closed2 : ∀ s t x, s < d.n → t < d.n → x < d.k → U (step d s x) (step d t x) → U s t) {s t : Nat} (hs : s < d.n) (ht : t < d.n) : U s t ↔ ¬ Eqv d s d t := by
  constructor
  · intro h he
    rcases sound s t hs ht h with k | ⟨x, hx, k⟩
    · exact k he.acc
    · exact k (he.step hx)
  · intro h
    refine Classical.byContradiction fun hn => h ?_
    refine eqv_of (fun a b => a < d.n ∧ b < d.n ∧ ¬ U a b) ?_ ?_ ⟨hs, ht, hn⟩
    · rintro a b ⟨h1, h2, h3⟩
      exact Classical.byContradiction fun k => h3 (closed1 a b h1 h2 k)
    · rintro a b x ⟨h1, h2, h3⟩ hx
      exact ⟨step_lt hd h1 hx, step_lt hd h2 hx, fun k => h3 (closed2 a b x h1 h2 hx k)⟩
/-! ### The automaton with the fewest states -/
/-- Its states are numbered in the order in which they are come to; no two tell the same. -/
structure Canon (c : Fa) : Prop extends Right c where
  zero : c.start = 0
  order : ∀ s, 1 ≤ s → s < c.n → ∃ j, j < s * c.k ∧ c.next[j]? = some s ∧ ∀ i y, i < j → c.next[i]? = some y → y < s
  apart : ∀ s t, s < c.n → t < c.n → Eqv c s c t → s = t
theorem Canon.eqv_of_agree {a b : Fa} (ha : Canon a) (hb : Right b) (hk : a.k = b.k) (h0 : Eqv a 0 b 0) (hn0 : 0 < b.n) {m : Nat} (agree : ∀ i, i < m → a.next[i]? = b.next[i]?) :
    ∀ s, s < a.n → s * a.k ≤ m → s < b.n ∧ Eqv a s b s := by
  intro s
  induction s using Nat.strongRecOn with
  | _ s ih =>
    intro hs hm
    by_cases h1 : 1 ≤ s
    · obtain ⟨j, hj, hjs, _⟩ := ha.order s h1 hs
      have hk1 := ha.k1
      obtain ⟨p1, p2, p3⟩ := place_of hk1 hj
      have hle : j / a.k * a.k ≤ m := by omega
      obtain ⟨i1, i2⟩ := ih (j / a.k) p1 (by omega) hle
      have e1 := step_at ha.toRight (s := j / a.k) (x := j % a.k) (by omega) p2
      rw [p3, hjs] at e1
      have e2 := step_at hb (s := j / a.k) (x := j % a.k) i1 (by rw [← hk]; exact p2)
      rw [← hk, p3, ← agree j (by omega), hjs] at e2
      have f1 := Option.some.inj e1
      have f2 := Option.some.inj e2
      have l := step_lt hb (s := j / a.k) (x := j % a.k) i1 (by rw [← hk]; exact p2)
      rw [← f2] at l
      refine ⟨l, ?_⟩
      have := i2.step p2
      rw [← f1, ← f2] at this
      exact this
    · have : s = 0 := by omega
      subst this
      exact ⟨hn0, h0⟩
/-- What stands at a place for the first time comes behind all that is less. -/
theorem Canon.first {c : Fa} (hc : Canon c) {j v : Nat} (hj : c.next[j]? = some v) (h1 : 1 ≤ v) (hv : v < c.n) (hnew : ∀ i, i < j → c.next[i]? ≠ some v) :
    (∀ i y, i < j → c.next[i]? = some y → y < v) ∧ ∀ s, 1 ≤ s → s < v → ∃ i, i < j ∧ c.next[i]? = some s := by
  obtain ⟨jv, _, q2, q3⟩ := hc.order v h1 hv
  have e : jv = j := by
    rcases Nat.lt_trichotomy jv j with k | k | k
    · exact absurd q2 (hnew jv k)
    · exact k
    · exact absurd (q3 j v k hj) (Nat.lt_irrefl v)
  subst e
  refine ⟨q3, fun s hs1 hs2 => ?_⟩
  obtain ⟨js, _, r2, r3⟩ := hc.order s hs1 (by omega)
  refine ⟨js, ?_, r2⟩
  rcases Nat.lt_trichotomy js jv with k | k | k
  · exact k
  · rw [k, q2] at r2
    have := Option.some.inj r2
    omega
  · have := r3 jv v k q2
    omega
theorem canon_next {a b : Fa} (ha : Canon a) (hb : Canon b) (hk : a.k = b.k) (h0 : Eqv a 0 b 0) : ∀ j, j < a.next.length → j < b.next.length → a.next[j]? = b.next[j]? := by
  intro j
  induction j using Nat.strongRecOn with
  | _ j ih =>
    intro hja hjb
    have hk1 := ha.k1
    have ha0 : 0 < a.n := by have := ha.start; omega
    have hb0 : 0 < b.n := by have := hb.start; omega
    have agree : ∀ i, i < j → a.next[i]? = b.next[i]? := fun i hi => ih i hi (by omega) (by omega)
    have agreeS : ∀ i, i < j → b.next[i]? = a.next[i]? := fun i hi => (agree i hi).symm
    have SA := fun s => ha.eqv_of_agree hb.toRight hk h0 hb0 agree s
    have SB := fun s => hb.eqv_of_agree ha.toRight hk.symm (h0.symm hk) ha0 agreeS s
    rw [ha.len] at hja
    rw [hb.len] at hjb
    obtain ⟨p1, p2, p3⟩ := place_of hk1 hja
    obtain ⟨p1', _, _⟩ := place_of hb.k1 hjb
    rw [← hk] at p1'
    have hle : j / a.k * a.k ≤ j := by omega
    obtain ⟨_, ht⟩ := SA (j / a.k) p1 hle
    have ea := step_at ha.toRight p1 p2
    have eb := step_at hb.toRight (s := j / a.k) (x := j % a.k) p1' (by rw [← hk]; exact p2)
    rw [p3] at ea
    rw [← hk, p3] at eb
    have hE := ht.step p2
    have la := step_lt ha.toRight p1 p2
    have lb := step_lt hb.toRight (s := j / a.k) (x := j % a.k) p1' (by rw [← hk]; exact p2)
    generalize step a (j / a.k) (j % a.k) = u at *
    generalize step b (j / a.k) (j % a.k) = v at *
    rw [ea, eb]
    congr 1
    -- a state that was come to before is the same in both
    have old : ∀ s, (s = 0 ∨ ∃ i, i < j ∧ a.next[i]? = some s) → s < a.n ∧ s < b.n ∧ Eqv a s b s := by
      rintro s (rfl | ⟨i, hi, e⟩)
      · exact ⟨ha0, hb0, h0⟩
      · have e2 := (agree i hi).symm.trans e
        have hi2 : i < a.n * a.k := by omega
        obtain ⟨q1, q2, q3⟩ := place_of hk1 hi2
        have hle2 : i / a.k * a.k ≤ j := by omega
        obtain ⟨l2, l3⟩ := SA (i / a.k) q1 hle2
        have f1 := step_at ha.toRight q1 q2
        have f2 := step_at hb.toRight (s := i / a.k) (x := i % a.k) l2 (by rw [← hk]; exact q2)
        rw [q3, e] at f1
        rw [← hk, q3, e2] at f2
        have g1 := Option.some.inj f1
        have g2 := Option.some.inj f2
        have hh := l3.step q2
        rw [← g1, ← g2] at hh
        exact ⟨by rw [g1]; exact step_lt ha.toRight q1 q2, by rw [g2]; exact step_lt hb.toRight l2 (by rw [← hk]; exact q2), hh⟩
    by_cases hu : u = 0 ∨ ∃ i, i < j ∧ a.next[i]? = some u
    · obtain ⟨_, l2, l3⟩ := old u hu
      exact hb.apart u v l2 lb ((l3.symm hk).trans hk.symm hE)
    · by_cases hv : v = 0 ∨ ∃ i, i < j ∧ a.next[i]? = some v
      · obtain ⟨l1, _, l3⟩ := old v hv
        exact ha.apart u v la l1 (hE.trans hk (l3.symm hk))
      · have u1 : 1 ≤ u := by
          rcases Nat.eq_zero_or_pos u with k | k
          · exact absurd (.inl k) hu
          · exact k
        have v1 : 1 ≤ v := by
          rcases Nat.eq_zero_or_pos v with k | k
          · exact absurd (.inl k) hv
          · exact k
        obtain ⟨x1, x2⟩ := ha.first ea u1 la (fun i hi k => hu (.inr ⟨i, hi, k⟩))
        obtain ⟨y1, y2⟩ := hb.first eb v1 lb (fun i hi k => hv (.inr ⟨i, hi, (agree i hi).trans k⟩))
        rcases Nat.lt_trichotomy u v with k | k | k
        · obtain ⟨i, hi, e⟩ := y2 u u1 k
          exact absurd (.inr ⟨i, hi, (agree i hi).trans e⟩) hu
        · exact k
        · obtain ⟨i, hi, e⟩ := x2 v v1 k
          exact absurd (.inr ⟨i, hi, e⟩) hv
theorem canon_le {a b : Fa} (ha : Canon a) (hb : Canon b) (hk : a.k = b.k) (h0 : Eqv a 0 b 0) : b.n ≤ a.n := by
  refine Nat.le_of_not_lt fun hlt => ?_
  have ha0 : 1 ≤ a.n := by have := ha.start; omega
  obtain ⟨j, hj, hjs, _⟩ := hb.order a.n ha0 hlt
  have l1 : j < a.next.length := by rw [ha.len, hk]; exact hj
  have l2 : j < b.next.length := (List.getElem?_eq_some_iff.1 hjs).1
  have e := canon_next ha hb hk h0 j l1 l2
  rw [hjs] at e
  exact absurd (ha.all _ (List.mem_of_getElem? e)) (Nat.lt_irrefl _)
/-- There is just one. -/
theorem canon_one {a b : Fa} (ha : Canon a) (hb : Canon b) (hk : a.k = b.k) (h : Eqv a a.start b b.start) : a = b := by
  rw [ha.zero, hb.zero] at h
  have hn : a.n = b.n := Nat.le_antisymm (canon_le hb ha hk.symm (h.symm hk)) (canon_le ha hb hk h)
  have hl : a.next.length = b.next.length := by rw [ha.len, hb.len, hn, hk]
  have hnext : a.next = b.next := by
    apply List.ext_getElem? 
    intro j
    by_cases hj : j < a.next.length
    · exact canon_next ha hb hk h j hj (by omega)
    · rw [List.getElem?_eq_none (by omega), List.getElem?_eq_none (by omega)]
  have hb0 : 0 < b.n := by have := hb.start; omega
  have hacc : a.acc = b.acc := by
    apply List.ext_getElem?
    intro s
    by_cases hs : s < a.n
    · have := (ha.eqv_of_agree (m := s * a.k) hb.toRight hk h hb0 (fun i _ => by rw [hnext]) s hs (Nat.le_refl _)).2.acc
      unfold accB at this
      have l1 : s < a.acc.length := hs
      have l2 : s < b.acc.length := by have : s < b.n := by omega
                                       exact this
      rw [List.getElem?_eq_getElem l1, List.getElem?_eq_getElem l2] at this ⊢
      exact congrArg some this
    · have l1 : a.acc.length ≤ s := by unfold Fa.n at hs; omega
      have l2 : b.acc.length ≤ s := by unfold Fa.n at hs hn; omega
      rw [List.getElem?_eq_none l1, List.getElem?_eq_none l2]
  have hz : a.start = b.start := by rw [ha.zero, hb.zero]
  obtain ⟨a1, a2, a3, a4⟩ := a
  obtain ⟨b1, b2, b3, b4⟩ := b
  simp only at hk hz hnext hacc
  rw [hk, hz, hnext, hacc]
/-- Each of its states is come to by a word. -/
theorem Canon.reach {c : Fa} (hc : Canon c) : ∀ s, s < c.n → ∃ w, Wd c.k w ∧ run c 0 w = s := by
  intro s
  induction s using Nat.strongRecOn with
  | _ s ih =>
    intro hs
    by_cases h1 : 1 ≤ s
    · obtain ⟨j, hj, hjs, _⟩ := hc.order s h1 hs
      obtain ⟨p1, p2, p3⟩ := place_of hc.k1 hj
      obtain ⟨w, hw, hr⟩ := ih (j / c.k) p1 (by omega)
      refine ⟨w ++ [j % c.k], wd_app.2 ⟨hw, wd_cons.2 ⟨p2, wd_nil _⟩⟩, ?_⟩
      rw [run_app, hr]
      have e := step_at hc.toRight (s := j / c.k) (x := j % c.k) (by omega) p2
      rw [p3, hjs] at e
      exact (Option.some.inj e).symm
    · exact ⟨[], wd_nil _, by rw [run_nil]; omega⟩
/-- It has as few states as any that tells the same. -/
theorem canon_least {c d : Fa} (hc : Canon c) (hd : Right d) (hk : c.k = d.k) (h : Eqv c c.start d d.start) : c.n ≤ d.n := by
  rw [hc.zero] at h
  have hf : ∀ s, ∃ t, s < c.n → t < d.n ∧ Eqv c s d t := by
    intro s
    by_cases hs : s < c.n
    · obtain ⟨w, hw, hr⟩ := hc.reach s hs
      refine ⟨run d d.start w, fun _ => ⟨run_lt hd hd.start (by rw [← hk]; exact hw), ?_⟩⟩
      have := h.run hw
      rw [hr] at this
      exact this
    · exact ⟨0, fun k => absurd k hs⟩
  let f := fun s => (hf s).choose
  have hf2 : ∀ s, s < c.n → f s < d.n ∧ Eqv c s d (f s) := fun s hs => (hf s).choose_spec hs
  have hinj : ∀ s t, s < c.n → t < c.n → f s = f t → s = t := by
    intro s t hs ht e
    refine hc.apart s t hs ht ?_
    have h1 := (hf2 s hs).2
    have h2 := (hf2 t ht).2
    rw [← e] at h2
    exact h1.trans hk (h2.symm hk)
  have hnd : ((List.range c.n).map f).Nodup := by
    rw [List.nodup_iff_pairwise_ne, List.pairwise_map]
    refine List.Pairwise.imp_of_mem ?_ (List.nodup_iff_pairwise_ne.1 List.nodup_range)
    intro a b ha hb hab e
    exact hab (hinj a b (List.mem_range.1 ha) (List.mem_range.1 hb) e)
  have hsub : (List.range c.n).map f ⊆ List.range d.n := by
    intro x hx
    obtain ⟨s, hs, rfl⟩ := List.mem_map.1 hx
    exact List.mem_range.2 (hf2 s (List.mem_range.1 hs)).1
  have := hnd.length_le_of_subset hsub
  rw [List.length_map, List.length_range, List.length_range] at this
  exact this
end Au
end Go.Proofs.Ytdidogcgoghdmaa
