/- Plain functions on cookies in their places, and plain lemmas on them. No program is named here. -/
import Derived.Test.YtdfcnodlddeccaaMatchPlain
namespace Go.Proofs.Ytdfcnodlddeccaa
namespace Sh
open Ma
/-- A cookie, and the site to which it counts. -/
structure Kept where
  c : Cookie
  site : List UInt8
  deriving DecidableEq
structure Shelf where
  l : List Kept
  last : Int
  deriving DecidableEq
def empty : Shelf := ⟨[], 0⟩
def hit (c : Cookie) (k : Kept) : Bool := key k.c c
def place (s : Shelf) (c : Cookie) : Option Nat := s.l.findIdx? (hit c)
def get (s : Shelf) (c : Cookie) : Option Cookie := (s.l.find? (hit c)).map (·.c)
def old (c : Cookie) (site : List UInt8) (k : Kept) : Kept := ⟨{ c with born := k.c.born, seq := k.c.seq }, site⟩
def put (s : Shelf) (c : Cookie) (site : List UInt8) : Shelf × Bool :=
  match place s c with
  | some i => (⟨s.l.modify i (old c site), s.last⟩, true)
  | none => (⟨s.l ++ [⟨{ c with seq := s.last + 1 }, site⟩], s.last + 1⟩, false)
def drop (s : Shelf) (c : Cookie) : Shelf × Bool := match place s c with | some i => (⟨s.l.eraseIdx i, s.last⟩, true) | none => (s, false)
def used (now : Int) (k : Kept) : Kept := ⟨{ k.c with used := now }, k.site⟩
def use (s : Shelf) (c : Cookie) (now : Int) : Shelf × Bool := match place s c with | some i => (⟨s.l.modify i (used now), s.last⟩, true) | none => (s, false)
def expire (s : Shelf) (now : Int) : Shelf × Nat :=
  let l := s.l.filter fun k => decide (now < k.c.expires)
  (⟨l, s.last⟩, s.l.length - l.length)
def all (s : Shelf) : List Cookie := s.l.map (·.c)
def count (s : Shelf) (site : List UInt8) : Nat := s.l.countP fun k => decide (k.site = site)
/-- The one that was used first, of those that are asked for; of like ones the first of the list. -/
def older (b : Option Cookie) (k : Kept) : Option Cookie := match b with | none => some k.c | some c => if k.c.used < c.used then some k.c else some c
def oldest (p : Kept → Bool) (s : Shelf) : Option Cookie := (s.l.filter p).foldl older none
/-! ### Places -/
theorem key_symm (a b : Cookie) : key a b = key b a := by
  unfold key
  rw [decide_eq_decide.2 (eq_comm (a := a.name)), decide_eq_decide.2 (eq_comm (a := a.host)), decide_eq_decide.2 (eq_comm (a := a.only)), decide_eq_decide.2 (eq_comm (a := a.path))]
theorem key_iff {a b : Cookie} : key a b = true ↔ a.name = b.name ∧ a.host = b.host ∧ a.only = b.only ∧ a.path = b.path := by
  unfold key
  simp only [Bool.and_eq_true, decide_eq_true_eq]
  constructor
  · rintro ⟨⟨⟨h1, h2⟩, h3⟩, h4⟩; exact ⟨h1, h2, h3, h4⟩
  · rintro ⟨h1, h2, h3, h4⟩; exact ⟨⟨⟨h1, h2⟩, h3⟩, h4⟩
/-- What stands in one place stands in the places of the other. -/
theorem key_congr {a b : Cookie} (h : key a b = true) (c : Cookie) : key a c = key b c := by
  obtain ⟨h1, h2, h3, h4⟩ := key_iff.1 h
  unfold key
  rw [h1, h2, h3, h4]
theorem key_congr' {a b : Cookie} (h : key a b = true) (c : Cookie) : key c a = key c b := by rw [key_symm c a, key_symm c b, key_congr h]
structure Well (s : Shelf) : Prop where
  apart : s.l.Pairwise fun a b => key a.c b.c = false ∧ a.c.seq < b.c.seq
  num : ∀ k ∈ s.l, 1 ≤ k.c.seq ∧ k.c.seq ≤ s.last
  last : 0 ≤ s.last
theorem well_empty : Well empty := ⟨List.Pairwise.nil, (fun k hk => by cases hk), Int.le_refl 0⟩
theorem place_some {s : Shelf} {c : Cookie} {i : Nat} (h : place s c = some i) : ∃ k, s.l[i]? = some k ∧ key k.c c = true ∧ get s c = some k.c := by
  unfold place at h
  have h2 := h
  rw [List.findIdx?_eq_some_iff_getElem] at h
  obtain ⟨hl, hp, hq⟩ := h
  refine ⟨s.l[i], List.getElem?_eq_getElem hl, hp, ?_⟩
  unfold get
  have : s.l.find? (hit c) = some s.l[i] := by
    rw [List.find?_eq_some_iff_getElem]
    exact ⟨hp, i, hl, rfl, fun j hj => by
      have := hq j hj
      simpa using this⟩
  rw [this]; rfl
theorem place_none {s : Shelf} {c : Cookie} (h : place s c = none) : (∀ k ∈ s.l, key k.c c = false) ∧ get s c = none := by
  unfold place at h
  rw [List.findIdx?_eq_none_iff] at h
  refine ⟨fun k hk => by have := h k hk; simpa [hit] using this, ?_⟩
  unfold get
  rw [List.find?_eq_none.2 (fun k hk => by rw [h k hk]; simp)]; rfl
theorem pairwise_modify {R : Kept → Kept → Prop} {f : Kept → Kept} : ∀ {l : List Kept} {i : Nat}, l.Pairwise R → (∀ k, l[i]? = some k → (∀ b, R k b → R (f k) b) ∧ (∀ b, R b k → R b (f k))) → (l.modify i f).Pairwise R
  | [], i, _, _ => by rw [List.modify_nil]; exact List.Pairwise.nil
  | a :: l, 0, h, hf => by
    obtain ⟨h1, h2⟩ := List.pairwise_cons.1 h
    rw [List.modify_zero_cons]
    exact List.pairwise_cons.2 ⟨fun b hb => (hf a rfl).1 b (h1 b hb), h2⟩
  | a :: l, i + 1, h, hf => by
    obtain ⟨h1, h2⟩ := List.pairwise_cons.1 h
    rw [List.modify_succ_cons]
    refine List.pairwise_cons.2 ⟨fun b hb => ?_, pairwise_modify h2 (fun k hk => hf k hk)⟩
    obtain ⟨j, hj⟩ := List.getElem?_of_mem hb
    rw [List.getElem?_modify] at hj
    cases e : l[j]? with
    | none => rw [e] at hj; cases hj
    | some k =>
      rw [e] at hj
      have hk := h1 k (List.mem_of_getElem? e)
      split at hj
      · rename_i ij
        have hj2 : f k = b := Option.some.inj hj
        rw [← hj2]
        exact (hf k (by rw [List.getElem?_cons_succ, ij]; exact e)).2 a hk
      · have hj2 : k = b := Option.some.inj hj
        rw [← hj2]; exact hk
theorem mem_modify {f : Kept → Kept} {l : List Kept} {i : Nat} {b : Kept} (h : b ∈ l.modify i f) : b ∈ l ∨ ∃ k, l[i]? = some k ∧ b = f k := by
  obtain ⟨j, hj⟩ := List.getElem?_of_mem h
  rw [List.getElem?_modify] at hj
  cases e : l[j]? with
  | none => rw [e] at hj; cases hj
  | some k =>
    rw [e] at hj
    split at hj
    · rename_i ij
      exact .inr ⟨k, by rw [ij]; exact e, (Option.some.inj hj).symm⟩
    · have : k = b := Option.some.inj hj
      rw [← this]; exact .inl (List.mem_of_getElem? e)
theorem well_modify {s : Shelf} (h : Well s) {i : Nat} {f : Kept → Kept} (hf : ∀ k, s.l[i]? = some k → key (f k).c k.c = true ∧ (f k).c.seq = k.c.seq) : Well ⟨s.l.modify i f, s.last⟩ := by
  refine ⟨pairwise_modify h.apart fun k hk => ?_, ?_, h.last⟩
  · obtain ⟨h1, h2⟩ := hf k hk
    refine ⟨?_, ?_⟩
    · rintro b ⟨r1, r2⟩
      exact ⟨by rw [key_congr h1]; exact r1, by rw [h2]; exact r2⟩
    · rintro b ⟨r1, r2⟩
      exact ⟨by rw [key_congr' h1]; exact r1, by rw [h2]; exact r2⟩
  · intro b hb
    rcases mem_modify hb with e | ⟨k, hk, rfl⟩
    · exact h.num b e
    · rw [(hf k hk).2]; exact h.num k (List.mem_of_getElem? hk)
theorem old_key {c : Cookie} {site : List UInt8} {k : Kept} (h : key k.c c = true) : key (old c site k).c k.c = true := by
  rw [key_symm, key_iff] at *
  exact ⟨h.1.symm, h.2.1.symm, h.2.2.1.symm, h.2.2.2.symm⟩
theorem well_put {s : Shelf} (h : Well s) (c : Cookie) (site : List UInt8) : Well (put s c site).1 := by
  unfold put
  cases e : place s c with
  | some i =>
    obtain ⟨k, h1, h2, _⟩ := place_some e
    refine well_modify h fun x hx => ?_
    rw [h1] at hx
    have : k = x := Option.some.inj hx
    subst this
    exact ⟨old_key h2, rfl⟩
  | none =>
    obtain ⟨h1, _⟩ := place_none e
    refine ⟨?_, ?_, ?_⟩
    · refine List.pairwise_append.2 ⟨h.apart, List.pairwise_singleton _ _, ?_⟩
      intro a ha b hb
      rw [List.mem_singleton.1 hb]
      refine ⟨h1 a ha, ?_⟩
      have := (h.num a ha).2
      show a.c.seq < s.last + 1
      omega
    · intro k hk
      rcases List.mem_append.1 hk with e | e
      · have := h.num k e
        exact ⟨this.1, by show k.c.seq ≤ s.last + 1; omega⟩
      · rw [List.mem_singleton.1 e]
        have := h.last
        exact ⟨by show 1 ≤ s.last + 1; omega, by show s.last + 1 ≤ s.last + 1; omega⟩
    · have := h.last
      show 0 ≤ s.last + 1
      omega
theorem well_sub {s : Shelf} (h : Well s) {l : List Kept} (hl : l.Sublist s.l) : Well ⟨l, s.last⟩ := ⟨h.apart.sublist hl, fun k hk => h.num k (hl.subset hk), h.last⟩
theorem well_drop {s : Shelf} (h : Well s) (c : Cookie) : Well (drop s c).1 := by
  unfold drop
  cases place s c with
  | some i => exact well_sub h (List.eraseIdx_sublist _ _)
  | none => exact h
theorem well_use {s : Shelf} (h : Well s) (c : Cookie) (now : Int) : Well (use s c now).1 := by
  unfold use
  cases place s c with
  | some i => exact well_modify h fun k _ => ⟨key_self k.c, rfl⟩
  | none => exact h
theorem well_expire {s : Shelf} (h : Well s) (now : Int) : Well (expire s now).1 := well_sub h List.filter_sublist
/-! ### What stands there -/
theorem get_hit {s : Shelf} (h : Well s) {k : Kept} (hk : k ∈ s.l) {c : Cookie} (hc : key k.c c = true) : get s c = some k.c := by
  unfold get
  have hp := h.apart
  generalize s.l = l at *
  induction l with
  | nil => cases hk
  | cons a l ih =>
    obtain ⟨p1, p2⟩ := List.pairwise_cons.1 hp
    rcases List.mem_cons.1 hk with e | e
    · subst e
      rw [List.find?_cons_of_pos (by exact hc)]; rfl
    · have : key a.c c = false := by
        rw [← key_congr' hc]; exact (p1 k e).1
      rw [List.find?_cons_of_neg (by unfold hit; rw [this]; simp)]
      exact ih e p2
theorem get_none {s : Shelf} {c : Cookie} (h : ∀ k ∈ s.l, key k.c c = false) : get s c = none := by
  unfold get
  rw [List.find?_eq_none.2 (fun k hk => by unfold hit; rw [h k hk]; simp)]; rfl
/-- One place changes nothing of another one. -/
theorem get_modify {s : Shelf} {i : Nat} {f : Kept → Kept} {a : Cookie} (hf : ∀ k, s.l[i]? = some k → key (f k).c a = false ∧ key k.c a = false) : get ⟨s.l.modify i f, s.last⟩ a = get s a := by
  unfold get
  dsimp only
  generalize s.l = l at *
  induction l generalizing i with
  | nil => rw [List.modify_nil]
  | cons x l ih =>
    cases i with
    | zero =>
      obtain ⟨h1, h2⟩ := hf x rfl
      rw [List.modify_zero_cons, List.find?_cons_of_neg (by unfold hit; rw [h1]; simp), List.find?_cons_of_neg (by unfold hit; rw [h2]; simp)]
    | succ i =>
      rw [List.modify_succ_cons]
      by_cases k : hit a x = true
      · rw [List.find?_cons_of_pos k, List.find?_cons_of_pos k]
      · rw [List.find?_cons_of_neg k, List.find?_cons_of_neg k]
        exact ih (fun y hy => hf y (by rw [List.getElem?_cons_succ]; exact hy))
theorem get_put_other {s : Shelf} {a b : Cookie} (h : key a b = false) (site : List UInt8) : get (put s b site).1 a = get s a := by
  have hba : key b a = false := by rw [key_symm]; exact h
  unfold put
  cases e : place s b with
  | some i =>
    obtain ⟨k, h1, h2, _⟩ := place_some e
    refine get_modify fun x hx => ?_
    rw [h1] at hx
    have : k = x := Option.some.inj hx
    subst this
    have hk : key k.c a = false := by rw [key_congr h2]; exact hba
    exact ⟨by rw [key_congr (old_key h2)]; exact hk, hk⟩
  | none =>
    have hneg : ¬ hit a ⟨{ b with seq := s.last + 1 }, site⟩ = true := by
      show ¬ key b a = true
      rw [hba]; simp
    unfold get
    dsimp only
    rw [List.find?_append, List.find?_cons_of_neg hneg]
    simp
theorem get_use_other {s : Shelf} {a b : Cookie} (h : key a b = false) (now : Int) : get (use s b now).1 a = get s a := by
  unfold use
  cases e : place s b with
  | some i =>
    obtain ⟨k, h1, h2, _⟩ := place_some e
    refine get_modify fun x hx => ?_
    rw [h1] at hx
    have : k = x := Option.some.inj hx
    subst this
    have hk : key k.c a = false := by rw [key_congr h2, key_symm]; exact h
    exact ⟨hk, hk⟩
  | none => rfl
theorem get_put_self {s : Shelf} (h : Well s) (b : Cookie) (site : List UInt8) : ∃ c, get (put s b site).1 b = some c ∧ key c b = true ∧ c.value = b.value ∧ c.used = b.used := by
  have hw := well_put h b site
  unfold put at hw ⊢
  cases e : place s b with
  | some i =>
    rw [e] at hw
    obtain ⟨k, h1, h2, _⟩ := place_some e
    have hm : old b site k ∈ s.l.modify i (old b site) := by
      refine List.mem_of_getElem? (i := i) ?_
      rw [List.getElem?_modify, h1]; simp
    have hk : key (old b site k).c b = true := by rw [key_congr (old_key h2)]; exact h2
    exact ⟨_, get_hit hw hm hk, hk, rfl, rfl⟩
  | none =>
    rw [e] at hw
    have hk : key { b with seq := s.last + 1 } b = true := key_self b
    exact ⟨_, get_hit hw (List.mem_append.2 (.inr (List.mem_singleton.2 rfl))) hk, hk, rfl, rfl⟩
theorem get_drop_self {s : Shelf} (h : Well s) (c : Cookie) : get (drop s c).1 c = none := by
  unfold drop
  cases e : place s c with
  | none => exact (place_none e).2
  | some i =>
    obtain ⟨k, h1, h2, _⟩ := place_some e
    refine get_none fun x hx => ?_
    have hi := (List.getElem?_eq_some_iff.1 h1).1
    have hk : s.l[i] = k := (List.getElem?_eq_some_iff.1 h1).2
    obtain ⟨j, hji, hj⟩ := List.mem_eraseIdx_iff_getElem?.1 hx
    have hjl := (List.getElem?_eq_some_iff.1 hj).1
    have hjx : s.l[j] = x := (List.getElem?_eq_some_iff.1 hj).2
    have hp := List.pairwise_iff_getElem.1 h.apart
    rw [← key_congr' h2]
    rcases Nat.lt_trichotomy i j with r | r | r
    · have := (hp i j hi hjl r).1
      rw [hk, hjx] at this
      rw [key_symm]; exact this
    · exact absurd r.symm hji
    · have := (hp j i hjl hi r).1
      rw [hk, hjx] at this
      exact this
/-- Numbers rise; no place is taken twice. -/
theorem all_apart {s : Shelf} (h : Well s) : (all s).Pairwise fun a b => key a b = false ∧ a.seq < b.seq := by
  unfold all
  rw [List.pairwise_map]
  exact h.apart
/-! ### The oldest one -/
theorem fold_older : ∀ (l : List Kept) (b : Option Cookie), (l.foldl older b = none ↔ b = none ∧ l = []) ∧
    ∀ c, l.foldl older b = some c → (b = some c ∨ ∃ k ∈ l, k.c = c) ∧ (∀ k ∈ l, c.used ≤ k.c.used) ∧ (∀ a, b = some a → c.used ≤ a.used)
  | [], b => by
    refine ⟨by simp, fun c hc => ⟨.inl hc, (fun k hk => by cases hk), fun a ha => ?_⟩⟩
    have e : b = some c := hc
    rw [e] at ha
    rw [Option.some.inj ha]
    exact Int.le_refl _
  | x :: l, b => by
    obtain ⟨i1, i2⟩ := fold_older l (older b x)
    rw [List.foldl_cons]
    have hne : older b x ≠ none := by
      unfold older
      split
      · simp
      · split <;> simp
    refine ⟨⟨fun h => absurd (i1.1 h).1 hne, fun h => by cases h.2⟩, fun c hc => ?_⟩
    obtain ⟨j1, j2, j3⟩ := i2 c hc
    have hold : ∃ a, older b x = some a ∧ a.used ≤ x.c.used ∧ (∀ y, b = some y → a.used ≤ y.used) ∧ (b = some a ∨ x.c = a) := by
      unfold older
      split
      · exact ⟨x.c, rfl, Int.le_refl _, (fun y hy => by cases hy), .inr rfl⟩
      · rename_i y
        split
        · rename_i hlt
          refine ⟨x.c, rfl, Int.le_refl _, (fun z hz => ?_), .inr rfl⟩
          rw [← Option.some.inj hz]; omega
        · rename_i hlt
          refine ⟨y, rfl, by omega, (fun z hz => ?_), .inl rfl⟩
          rw [← Option.some.inj hz]; exact Int.le_refl _
    obtain ⟨a, a1, a2, a3, a4⟩ := hold
    have ca := j3 a a1
    refine ⟨?_, ?_, ?_⟩
    · rcases j1 with e | ⟨k, hk, e⟩
      · rw [a1] at e
        have e := Option.some.inj e
        subst e
        rcases a4 with r | r
        · exact .inl r
        · exact .inr ⟨x, by simp, r⟩
      · exact .inr ⟨k, by simp [hk], e⟩
    · intro k hk
      rcases List.mem_cons.1 hk with e | e
      · rw [e]; omega
      · exact j2 k e
    · intro y hy
      have := a3 y hy
      omega
theorem oldest_none {p : Kept → Bool} {s : Shelf} : oldest p s = none ↔ s.l.filter p = [] := by
  unfold oldest
  rw [(fold_older _ none).1]
  exact ⟨fun h => h.2, fun h => ⟨rfl, h⟩⟩
theorem oldest_some {p : Kept → Bool} {s : Shelf} {c : Cookie} (h : oldest p s = some c) : (∃ k ∈ s.l, p k = true ∧ k.c = c) ∧ ∀ k ∈ s.l, p k = true → c.used ≤ k.c.used := by
  obtain ⟨h1, h2, _⟩ := (fold_older (s.l.filter p) none).2 c h
  refine ⟨?_, fun k hk hp => h2 k (List.mem_filter.2 ⟨hk, hp⟩)⟩
  rcases h1 with e | ⟨k, hk, e⟩
  · cases e
  · obtain ⟨m1, m2⟩ := List.mem_filter.1 hk
    exact ⟨k, m1, m2, e⟩
/-! ### Together -/
/-- What counts to each of the sites is together what there is. -/
theorem count_sum {s : Shelf} : ∀ {sites : List (List UInt8)}, sites.Nodup → (∀ k ∈ s.l, k.site ∈ sites) → (sites.map (count s)).sum = s.l.length := by
  unfold count
  generalize s.l = l
  induction l with
  | nil =>
    intro sites _ _
    simp only [List.countP_nil, List.length_nil]
    have z : ∀ r : List (List UInt8), (r.map fun _ => 0).sum = 0 := by
      intro r
      induction r with
      | nil => rfl
      | cons a r ih => rw [List.map_cons, List.sum_cons, ih]
    exact z sites
  | cons k l ih =>
    intro sites hn hm
    have e := ih hn (fun x hx => hm x (by simp [hx]))
    have hk := hm k (by simp)
    have step : ∀ r : List (List UInt8), r.Nodup → (r.map fun site => (k :: l).countP fun x => decide (x.site = site)).sum = (r.map fun site => l.countP fun x => decide (x.site = site)).sum + (if k.site ∈ r then 1 else 0) := by
      intro r
      induction r with
      | nil => intro _; rfl
      | cons a r ih2 =>
        intro hr
        obtain ⟨r1, r2⟩ := List.nodup_cons.1 hr
        simp only [List.map_cons, List.sum_cons]
        rw [ih2 r2, List.countP_cons]
        by_cases q : k.site = a
        · subst q
          rw [if_neg r1, if_pos (by simp), if_pos (by simp)]
          omega
        · rw [if_neg (by simp [q])]
          by_cases q2 : k.site ∈ r
          · rw [if_pos q2, if_pos (by simp [q2])]; omega
          · rw [if_neg q2, if_neg (by simp [q, q2])]; omega
    rw [step sites hn, e, if_pos hk, List.length_cons]
end Sh
end Go.Proofs.Ytdfcnodlddeccaa
