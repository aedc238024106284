/- Plain: how automata are made out of others, and what they tell. No program is named here. -/
import Derived.Test.YtdidogcgoghdmaaAutoPlain
namespace Go.Proofs.Ytdidogcgoghdmaa
namespace Au
theorem accB_map {d : Fa} {l : List Nat} {k z : Nat} {nx : List Nat} {i s : Nat} (h : l[i]? = some s) : accB ⟨k, z, nx, l.map (accB d)⟩ i = accB d s := by
  unfold accB
  rw [List.getElem?_map, h]; rfl
/-! ### One state for all that tell the same -/
structure Tightly (d : Fa) (l nx : List Nat) : Prop where
  first : l[0]? = some d.start
  all : ∀ s ∈ l, s < d.n
  len : nx.length = l.length * d.k
  goes : ∀ (i s x : Nat), l[i]? = some s → x < d.k → ∃ a t, nx[i * d.k + x]? = some a ∧ l[a]? = some t ∧ Eqv d (step d s x) d t
  apart : ∀ (i j s t : Nat), l[i]? = some s → l[j]? = some t → Eqv d s d t → i = j
  order : ∀ s : Nat, 1 ≤ s → s < l.length → ∃ j : Nat, j < s * d.k ∧ nx[j]? = some s ∧ ∀ i y : Nat, i < j → nx[i]? = some y → y < s
def tight (d : Fa) (l nx : List Nat) : Fa := ⟨d.k, 0, nx, l.map (accB d)⟩
theorem Tightly.n (d : Fa) (l nx : List Nat) : (tight d l nx).n = l.length := by unfold Fa.n tight; rw [List.length_map]
theorem Tightly.right {d : Fa} (hd : Right d) {l nx : List Nat} (h : Tightly d l nx) : Right (tight d l nx) := by
  have hl : 0 < l.length := (List.getElem?_eq_some_iff.1 h.first).1
  refine ⟨hd.k1, ?_, ?_, ?_⟩
  · rw [Tightly.n]; exact h.len
  · intro a ha
    rw [Tightly.n]
    obtain ⟨j, hj⟩ := List.getElem?_of_mem ha
    have hjl : j < l.length * d.k := by rw [← h.len]; exact (List.getElem?_eq_some_iff.1 hj).1
    obtain ⟨p1, p2, p3⟩ := place_of hd.k1 hjl
    obtain ⟨b, t, e1, e2, _⟩ := h.goes (j / d.k) l[j / d.k] (j % d.k) (List.getElem?_eq_getElem p1) p2
    rw [p3] at e1
    have e1 : nx[j]? = some b := e1
    have hj : nx[j]? = some a := hj
    rw [hj] at e1
    rw [Option.some.inj e1]
    exact (List.getElem?_eq_some_iff.1 e2).1
  · rw [Tightly.n]; exact hl
theorem Tightly.step {d : Fa} {l nx : List Nat} (h : Tightly d l nx) {i s x : Nat} (hi : l[i]? = some s) (hx : x < d.k) : ∃ t, l[step (tight d l nx) i x]? = some t ∧ Eqv d (step d s x) d t := by
  obtain ⟨a, t, e1, e2, e3⟩ := h.goes i s x hi hx
  have : Au.step (tight d l nx) i x = a := by
    show (nx[i * d.k + x]?).getD 0 = a
    rw [e1]; rfl
  rw [this]
  exact ⟨t, e2, e3⟩
theorem Tightly.eqv {d : Fa} {l nx : List Nat} (h : Tightly d l nx) {i s : Nat} (hi : l[i]? = some s) : Eqv (tight d l nx) i d s := by
  refine eqv_of (d := tight d l nx) (e := d) (fun i u => ∃ s, l[i]? = some s ∧ Eqv d u d s) ?_ ?_ ⟨s, hi, Eqv.refl _ _⟩
  · rintro i u ⟨s, h1, h2⟩
    rw [h2.acc]
    exact accB_map h1
  · rintro i u x ⟨s, h1, h2⟩ hx
    obtain ⟨t, h3, h4⟩ := h.step h1 hx
    exact ⟨t, h3, (h2.step hx).trans rfl h4⟩
theorem Tightly.canon {d : Fa} (hd : Right d) {l nx : List Nat} (h : Tightly d l nx) : Canon (tight d l nx) := by
  refine { h.right hd with zero := rfl, order := ?_, apart := ?_ }
  · intro s h1 h2
    rw [Tightly.n] at h2
    exact h.order s h1 h2
  · intro s t hs ht he
    rw [Tightly.n] at hs ht
    have e1 := h.eqv (List.getElem?_eq_getElem hs)
    have e2 := h.eqv (List.getElem?_eq_getElem ht)
    have e3 : Eqv d l[s] (tight d l nx) s := Eqv.symm (d := tight d l nx) (e := d) rfl e1
    have e4 : Eqv (tight d l nx) s d l[t] := Eqv.trans (a := tight d l nx) (b := tight d l nx) (c := d) rfl he e2
    have e5 : Eqv d l[s] d l[t] := Eqv.trans (a := d) (b := tight d l nx) (c := d) rfl e3 e4
    exact h.apart s t _ _ (List.getElem?_eq_getElem hs) (List.getElem?_eq_getElem ht) e5
theorem Tightly.tells {d : Fa} {l nx : List Nat} (h : Tightly d l nx) : Eqv (tight d l nx) (tight d l nx).start d d.start := h.eqv h.first
/-- Whatever is Canon and tells the same is that. -/
theorem Tightly.one {d : Fa} (hd : Right d) {l nx : List Nat} (h : Tightly d l nx) {c : Fa} (hc : Canon c) (hk : c.k = d.k) (he : Eqv c c.start d d.start) : c = tight d l nx :=
  canon_one hc (h.canon hd) hk (he.trans hk (Eqv.symm (d := tight d l nx) (e := d) rfl h.tells))
/-! ### Other numbers for the states -/
theorem turn_eqv {d e : Fa} (hd : Right d) (f : Nat → Nat) (ha : ∀ s, s < d.n → accB e (f s) = accB d s) (hs : ∀ s x, s < d.n → x < d.k → step e (f s) x = f (step d s x)) {s : Nat} (h : s < d.n) : Eqv d s e (f s) := by
  refine eqv_of (fun s u => s < d.n ∧ u = f s) ?_ ?_ ⟨h, rfl⟩
  · rintro s u ⟨h1, rfl⟩; exact (ha s h1).symm
  · rintro s u x ⟨h1, rfl⟩ hx
    exact ⟨step_lt hd h1 hx, hs s x h1 hx⟩
/-! ### Pairs of states -/
def Come (a b : Fa) (p : Nat × Nat) : Prop := ∃ w, Wd a.k w ∧ p = (run a a.start w, run b b.start w)
def goPair (a b : Fa) (p : Nat × Nat) (x : Nat) : Nat × Nat := (step a p.1 x, step b p.2 x)
theorem come_start (a b : Fa) : Come a b (a.start, b.start) := ⟨[], wd_nil _, rfl⟩
theorem come_step {a b : Fa} {p : Nat × Nat} (h : Come a b p) {x : Nat} (hx : x < a.k) : Come a b (goPair a b p x) := by
  obtain ⟨w, hw, rfl⟩ := h
  exact ⟨w ++ [x], wd_app.2 ⟨hw, wd_cons.2 ⟨hx, wd_nil _⟩⟩, by rw [run_app, run_app]; rfl⟩
theorem come_lt {a b : Fa} (ha : Right a) (hb : Right b) (hk : a.k = b.k) {p : Nat × Nat} (h : Come a b p) : p.1 < a.n ∧ p.2 < b.n := by
  obtain ⟨w, hw, rfl⟩ := h
  exact ⟨run_lt ha ha.start hw, run_lt hb hb.start (by rw [← hk]; exact hw)⟩
/-- Behind the i-th of the pairs: which are known. -/
structure Known (a b : Fa) (l : List (Nat × Nat)) (i : Nat) : Prop where
  first : l[0]? = some (a.start, b.start)
  once : l.Nodup
  come : ∀ p ∈ l, Come a b p
  done : ∀ j p x, j < i → l[j]? = some p → x < a.k → goPair a b p x ∈ l
theorem known_start (a b : Fa) : Known a b [(a.start, b.start)] 0 := by
  refine ⟨rfl, by simp, ?_, fun j p x hj => by omega⟩
  intro p hp
  rw [List.mem_singleton.1 hp]; exact come_start a b
theorem Known.all {a b : Fa} {l : List (Nat × Nat)} {i : Nat} (h : Known a b l i) (hi : l.length ≤ i) : ∀ p, p ∈ l ↔ Come a b p := by
  intro p
  refine ⟨h.come p, ?_⟩
  rintro ⟨w, hw, rfl⟩
  have key : ∀ (w : List Nat) (q : Nat × Nat), q ∈ l → Wd a.k w → (run a q.1 w, run b q.2 w) ∈ l := by
    intro w
    induction w with
    | nil => intro q hq _; exact hq
    | cons x w ih =>
      intro q hq hw
      obtain ⟨k1, k2⟩ := wd_cons.1 hw
      obtain ⟨j, hj⟩ := List.getElem?_of_mem hq
      have hjl := (List.getElem?_eq_some_iff.1 hj).1
      exact ih _ (h.done j q x (by omega) hj k1) k2
  exact key w (a.start, b.start) (List.mem_of_getElem? h.first) hw
theorem Known.few {a b : Fa} (ha : Right a) (hb : Right b) (hk : a.k = b.k) {l : List (Nat × Nat)} {i : Nat} (h : Known a b l i) : l.length ≤ a.n * b.n := by
  have hs : l.map (fun p => p.1 * b.n + p.2) ⊆ List.range (a.n * b.n) := by
    intro v hv
    obtain ⟨p, hp, rfl⟩ := List.mem_map.1 hv
    obtain ⟨h1, h2⟩ := come_lt ha hb hk (h.come p hp)
    exact List.mem_range.2 (place h1 h2)
  have hn : (l.map (fun p => p.1 * b.n + p.2)).Nodup := by
    rw [List.nodup_iff_pairwise_ne, List.pairwise_map]
    refine List.Pairwise.imp_of_mem ?_ (List.nodup_iff_pairwise_ne.1 h.once)
    intro p q hp hq hpq e
    obtain ⟨_, p2⟩ := come_lt ha hb hk (h.come p hp)
    obtain ⟨_, q2⟩ := come_lt ha hb hk (h.come q hq)
    refine hpq ?_
    have e1 : (p.1 * b.n + p.2) / b.n = p.1 := by rw [Nat.mul_comm, Nat.mul_add_div (by omega), Nat.div_eq_of_lt p2]; rfl
    have e2 : (q.1 * b.n + q.2) / b.n = q.1 := by rw [Nat.mul_comm, Nat.mul_add_div (by omega), Nat.div_eq_of_lt q2]; rfl
    have e3 : p.1 = q.1 := by rw [← e1, ← e2, e]
    rw [e3] at e
    exact Prod.ext e3 (by omega)
  have := hn.length_le_of_subset hs
  rw [List.length_map, List.length_range] at this
  exact this
/-- Do both tell the same? All pairs that are come to agree. -/
theorem like_iff {a b : Fa} {l : List (Nat × Nat)} (hl : ∀ p, p ∈ l ↔ Come a b p) : (∀ p ∈ l, accB a p.1 = accB b p.2) ↔ Eqv a a.start b b.start := by
  constructor
  · intro h w hw
    exact h _ ((hl _).2 ⟨w, hw, rfl⟩)
  · rintro h p hp
    obtain ⟨w, hw, rfl⟩ := (hl p).1 hp
    exact h w hw
/-- Does the second one tell all that the first one tells? -/
def In (a b : Fa) : Prop := ∀ w, Wd a.k w → accB a (run a a.start w) = true → accB b (run b b.start w) = true
theorem in_iff {a b : Fa} {l : List (Nat × Nat)} (hl : ∀ p, p ∈ l ↔ Come a b p) : (∀ p ∈ l, accB a p.1 = true → accB b p.2 = true) ↔ In a b := by
  constructor
  · intro h w hw
    exact h _ ((hl _).2 ⟨w, hw, rfl⟩)
  · rintro h p hp
    obtain ⟨w, hw, rfl⟩ := (hl p).1 hp
    exact h w hw
theorem in_both {a b : Fa} (hk : a.k = b.k) : Eqv a a.start b b.start ↔ In a b ∧ In b a := by
  constructor
  · intro h
    exact ⟨fun w hw k => by rw [← h w hw]; exact k, fun w hw k => by rw [h w (by rw [hk]; exact hw)]; exact k⟩
  · rintro ⟨h1, h2⟩ w hw
    rw [Bool.eq_iff_iff]
    exact ⟨h1 w hw, h2 w (by rw [← hk]; exact hw)⟩
/-! ### Made of two -/
/-- From its state i on it tells what the operation makes of both. -/
def Tel (op : Bool → Bool → Bool) (c a b : Fa) (i s t : Nat) : Prop := ∀ w, Wd c.k w → accB c (run c i w) = op (accB a (run a s w)) (accB b (run b t w))
theorem tel_of {op : Bool → Bool → Bool} {c a b : Fa} (l : List (Nat × Nat)) (hacc : ∀ i p, l[i]? = some p → accB c i = op (accB a p.1) (accB b p.2)) (hstep : ∀ i p x, l[i]? = some p → x < c.k → l[step c i x]? = some (goPair a b p x)) :
    ∀ {i : Nat} {p : Nat × Nat}, l[i]? = some p → Tel op c a b i p.1 p.2 := by
  intro i p hi w
  induction w generalizing i p with
  | nil => intro _; exact hacc i p hi
  | cons x w ih =>
    intro hw
    obtain ⟨k1, k2⟩ := wd_cons.1 hw
    exact ih (hstep i p x hi k1) k2
theorem Tel.acc {op : Bool → Bool → Bool} {c a b : Fa} {i s t : Nat} (h : Tel op c a b i s t) : accB c i = op (accB a s) (accB b t) := h [] (wd_nil _)
theorem Tel.step {op : Bool → Bool → Bool} {c a b : Fa} {i s t : Nat} (h : Tel op c a b i s t) {x : Nat} (hx : x < c.k) : Tel op c a b (step c i x) (step a s x) (step b t x) := fun w hw => h (x :: w) (wd_cons.2 ⟨hx, hw⟩)
/-- Two that are made alike of the same tell the same. -/
theorem Tel.same {op : Bool → Bool → Bool} {c e a b : Fa} (hk : c.k = e.k) {i j s t : Nat} (h1 : Tel op c a b i s t) (h2 : Tel op e a b j s t) : Eqv c i e j := fun w hw => (h1 w hw).trans (h2 w (by rw [← hk]; exact hw)).symm
/-! ### How many words -/
def cnt (d : Fa) : Nat → Nat → Nat
  | 0, s => if accB d s = true then 1 else 0
  | n + 1, s => ((List.range d.k).map fun x => cnt d n (step d s x)).sum
theorem sum_add (f g : Nat → Nat) : ∀ l : List Nat, (l.map fun x => f x + g x).sum = (l.map f).sum + (l.map g).sum
  | [] => rfl
  | x :: l => by
    simp only [List.map_cons, List.sum_cons]
    rw [sum_add f g l]; omega
theorem sum_le (f : Nat → Nat) (m : Nat) : ∀ l : List Nat, (∀ x ∈ l, f x ≤ m) → (l.map f).sum ≤ l.length * m
  | [], _ => by simp
  | x :: l, h => by
    have h1 := h x (by simp)
    have h2 := sum_le f m l (fun y hy => h y (by simp [hy]))
    simp only [List.map_cons, List.sum_cons, List.length_cons]
    rw [Nat.add_mul]; omega
theorem cnt_le (d : Fa) : ∀ n s, cnt d n s ≤ d.k ^ n
  | 0, s => by unfold cnt; split <;> simp
  | n + 1, s => by
    unfold cnt
    have := sum_le (fun x => cnt d n (step d s x)) (d.k ^ n) (List.range d.k) (fun x _ => cnt_le d n _)
    rw [List.length_range] at this
    rw [Nat.pow_succ, Nat.mul_comm]; exact this
theorem cnt_eqv {d e : Fa} (hk : d.k = e.k) : ∀ n {s t : Nat}, Eqv d s e t → cnt d n s = cnt e n t
  | 0, s, t, h => by unfold cnt; rw [h.acc]
  | n + 1, s, t, h => by
    unfold cnt
    rw [← hk]
    congr 1
    exact List.map_congr_left fun x hx => cnt_eqv hk n (h.step (List.mem_range.1 hx))
/-- What two operations make, of which each word counts as often as in two others. -/
theorem cnt_sum {f g : Bool → Bool → Bool} {F : Bool → Bool → Nat} (hop : ∀ p q, (if f p q = true then 1 else 0) + (if g p q = true then 1 else 0) = F p q) {c e a b u v : Fa} (h1 : c.k = e.k) (h2 : c.k = a.k) (h3 : c.k = b.k) (h4 : c.k = u.k) (h5 : c.k = v.k)
    {f' g' : Bool → Bool → Bool} (hop' : ∀ p q, (if f' p q = true then 1 else 0) + (if g' p q = true then 1 else 0) = F p q) : ∀ n {i j s t i' j' : Nat}, Tel f c a b i s t → Tel g e a b j s t → Tel f' u a b i' s t → Tel g' v a b j' s t →
    cnt c n i + cnt e n j = cnt u n i' + cnt v n j'
  | 0, i, j, s, t, i', j', k1, k2, k3, k4 => by
    unfold cnt
    rw [k1.acc, k2.acc, k3.acc, k4.acc, hop, hop']
  | n + 1, i, j, s, t, i', j', k1, k2, k3, k4 => by
    unfold cnt
    rw [← h1, ← h4, ← h5, ← sum_add, ← sum_add]
    congr 1
    refine List.map_congr_left fun x hx => ?_
    have hx := List.mem_range.1 hx
    exact cnt_sum hop h1 h2 h3 h4 h5 hop' n (k1.step hx) (k2.step (by rw [← h1]; exact hx)) (k3.step (by rw [← h4]; exact hx)) (k4.step (by rw [← h5]; exact hx))
theorem tel_first {a b : Fa} (s t : Nat) : Tel (fun p _ => p) a a b s s t := fun _ _ => rfl
theorem tel_second {a b : Fa} (s t : Nat) : Tel (fun _ q => q) b a b t s t := fun _ _ => rfl
end Au
end Go.Proofs.Ytdidogcgoghdmaa
