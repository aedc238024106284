/- Plain lemmas on cookies in their places: what stands there as a set, whatever its order; the oldest one; by rising numbers. No program is named here. -/
import Derived.Test.YtdfcnodlddeccaaShelfPlain
namespace Go.Proofs.Ytdfcnodlddeccaa
namespace Sh
open Ma
theorem find_some {s : Shelf} {c : Cookie} {k : Kept} (h : s.l.find? (hit c) = some k) : ∃ i, place s c = some i ∧ s.l[i]? = some k ∧ key k.c c = true := by
  rw [List.find?_eq_some_iff_getElem] at h
  obtain ⟨h1, i, hi, h2, h3⟩ := h
  refine ⟨i, ?_, by rw [List.getElem?_eq_getElem hi, h2], h1⟩
  unfold place
  rw [List.findIdx?_eq_some_iff_getElem]
  exact ⟨hi, by rw [h2]; exact h1, fun j hj => by have := h3 j hj; simpa using this⟩
theorem find_none {s : Shelf} {c : Cookie} (h : s.l.find? (hit c) = none) : place s c = none := by
  unfold place
  rw [List.findIdx?_eq_none_iff]
  intro k hk
  have := List.find?_eq_none.1 h k hk
  simpa using this
theorem find_get (s : Shelf) (c : Cookie) : (s.l.find? (hit c)).map (·.c) = get s c := rfl
theorem modify_perm {f : Kept → Kept} : ∀ {l : List Kept} {i : Nat} {k : Kept}, l[i]? = some k → (l.modify i f).Perm (f k :: l.eraseIdx i)
  | [], i, k, h => by simp at h
  | a :: l, 0, k, h => by
    have e : a = k := by simpa using h
    subst e
    rw [List.modify_zero_cons, List.eraseIdx_zero, List.tail_cons]
  | a :: l, i + 1, k, h => by
    have ih := modify_perm (f := f) (l := l) (i := i) (k := k) (by simpa using h)
    rw [List.modify_succ_cons, List.eraseIdx_cons_succ]
    exact (ih.cons a).trans (List.Perm.swap _ _ _)
theorem filter_erase : ∀ {l : List Kept} {i : Nat} {k : Kept} {c : Cookie}, l.Pairwise (fun a b => key a.c b.c = false) → l[i]? = some k → key k.c c = true → l.filter (fun x => !hit c x) = l.eraseIdx i
  | [], i, k, c, _, h, _ => by simp at h
  | a :: l, 0, k, c, hp, h, hk => by
    have e : a = k := by simpa using h
    subst e
    obtain ⟨p1, p2⟩ := List.pairwise_cons.1 hp
    have e1 : (!hit c a) = false := by unfold hit; rw [hk]; rfl
    rw [List.filter_cons_of_neg (by rw [e1]; simp), List.eraseIdx_zero, List.tail_cons, List.filter_eq_self]
    intro x hx
    show (!key x.c c) = true
    rw [← key_congr' hk, key_symm, p1 x hx]
    rfl
  | a :: l, i + 1, k, c, hp, h, hk => by
    obtain ⟨p1, p2⟩ := List.pairwise_cons.1 hp
    have h2 : l[i]? = some k := by simpa using h
    have hm := List.mem_of_getElem? h2
    have e1 : (!hit c a) = true := by
      show (!key a.c c) = true
      rw [← key_congr' hk, p1 k hm]
      rfl
    rw [List.filter_cons_of_pos (p := fun x => !hit c x) e1, List.eraseIdx_cons_succ, filter_erase p2 h2 hk]
theorem Well.keys {s : Shelf} (h : Well s) : s.l.Pairwise fun a b => key a.c b.c = false := h.apart.imp fun h => h.1
theorem filter_none {s : Shelf} {c : Cookie} (h : s.l.find? (hit c) = none) : s.l.filter (fun x => !hit c x) = s.l := by
  rw [List.filter_eq_self]
  intro x hx
  have := List.find?_eq_none.1 h x hx
  simpa using this
/-- A cookie is put where there was one. -/
theorem put_there {s : Shelf} (h : Well s) {c : Cookie} {k : Kept} (hf : s.l.find? (hit c) = some k) (site : List UInt8) :
    (put s c site).2 = true ∧ (put s c site).1.last = s.last ∧ (put s c site).1.l.Perm (old c site k :: s.l.filter fun x => !hit c x) ∧ key (old c site k).c c = true := by
  obtain ⟨i, h1, h2, h3⟩ := find_some hf
  unfold put
  rw [h1]
  refine ⟨rfl, rfl, ?_, ?_⟩
  · rw [filter_erase h.keys h2 h3]
    exact modify_perm h2
  · rw [key_congr (old_key h3)]; exact h3
theorem put_new {s : Shelf} {c : Cookie} (hf : s.l.find? (hit c) = none) (site : List UInt8) :
    (put s c site).2 = false ∧ (put s c site).1.last = s.last + 1 ∧ (put s c site).1.l.Perm (⟨{ c with seq := s.last + 1 }, site⟩ :: s.l.filter fun x => !hit c x) ∧ key { c with seq := s.last + 1 } c = true := by
  unfold put
  rw [find_none hf]
  refine ⟨rfl, rfl, ?_, key_self c⟩
  rw [filter_none hf]
  exact List.perm_append_comm
theorem put_bit (s : Shelf) (c : Cookie) (site : List UInt8) : (put s c site).2 = (s.l.find? (hit c)).isSome := by
  unfold put
  cases e : s.l.find? (hit c) with
  | none => rw [find_none e]; rfl
  | some k => obtain ⟨i, h1, _⟩ := find_some e; rw [h1]; rfl
theorem drop_perm {s : Shelf} (h : Well s) (c : Cookie) : (drop s c).1.l.Perm (s.l.filter fun x => !hit c x) ∧ (drop s c).1.last = s.last ∧ (drop s c).2 = (s.l.find? (hit c)).isSome := by
  unfold drop
  cases e : s.l.find? (hit c) with
  | none => rw [find_none e, filter_none e]; exact ⟨List.Perm.refl _, rfl, rfl⟩
  | some k =>
    obtain ⟨i, h1, h2, h3⟩ := find_some e
    rw [h1, filter_erase h.keys h2 h3]
    exact ⟨List.Perm.refl _, rfl, rfl⟩
theorem use_there {s : Shelf} (h : Well s) {c : Cookie} {k : Kept} (hf : s.l.find? (hit c) = some k) (now : Int) :
    (use s c now).2 = true ∧ (use s c now).1.last = s.last ∧ (use s c now).1.l.Perm (used now k :: s.l.filter fun x => !hit c x) ∧ key (used now k).c c = true := by
  obtain ⟨i, h1, h2, h3⟩ := find_some hf
  unfold use
  rw [h1]
  refine ⟨rfl, rfl, ?_, h3⟩
  rw [filter_erase h.keys h2 h3]
  exact modify_perm h2
theorem use_none {s : Shelf} {c : Cookie} (hf : s.l.find? (hit c) = none) (now : Int) : use s c now = (s, false) := by
  unfold use
  rw [find_none hf]
/-! ### How many -/
theorem rise_length : ∀ {l : List Kept} {b n : Int}, l.Pairwise (fun a b => a.c.seq < b.c.seq) → (∀ k ∈ l, b < k.c.seq ∧ k.c.seq ≤ n) → b ≤ n → (l.length : Int) ≤ n - b
  | [], b, n, _, _, h => by simp; omega
  | a :: l, b, n, hp, hb, h => by
    obtain ⟨p1, p2⟩ := List.pairwise_cons.1 hp
    have ha := hb a (by simp)
    have ih := rise_length (l := l) (b := a.c.seq) (n := n) p2 (fun k hk => ⟨p1 k hk, (hb k (by simp [hk])).2⟩) ha.2
    rw [List.length_cons]
    omega
theorem few {s : Shelf} (h : Well s) : (s.l.length : Int) ≤ s.last := by
  have := rise_length (l := s.l) (b := 0) (n := s.last) (h.apart.imp fun h => h.2) (fun k hk => by have := h.num k hk; omega) h.last
  omega
/-! ### The oldest one -/
/-- Is one used ahead of the other? -/
def less (a b : Kept) : Bool := decide (a.c.used < b.c.used ∨ (a.c.used = b.c.used ∧ a.c.seq < b.c.seq))
/-- Of some things, in whatever order they came, this one is the oldest of those that are asked for. -/
def Least (p : Kept → Bool) (S : List Kept) (first : Kept) (found : Bool) : Prop :=
  (found = false ∧ ∀ k ∈ S, p k = false) ∨ (found = true ∧ first ∈ S ∧ p first = true ∧ ∀ k ∈ S, p k = true → k = first ∨ less first k = true)
theorem least_start (p : Kept → Bool) (k : Kept) : Least p [] k false := .inl ⟨rfl, (fun k hk => by cases hk)⟩
theorem less_iff {a b : Kept} : less a b = true ↔ a.c.used < b.c.used ∨ (a.c.used = b.c.used ∧ a.c.seq < b.c.seq) := by unfold less; rw [decide_eq_true_eq]
theorem least_step {p : Kept → Bool} {S : List Kept} {first k : Kept} {found : Bool} (h : Least p S first found) (hk : found = true → k.c.seq ≠ first.c.seq) :
    Least p (S ++ [k]) (if p k && (!found || less k first) then k else first) (found || (p k && (!found || less k first))) := by
  have split : ∀ {x : Kept}, x ∈ S ++ [k] → x ∈ S ∨ x = k := fun hx => by
    rcases List.mem_append.1 hx with e | e
    · exact .inl e
    · exact .inr (List.mem_singleton.1 e)
  cases hp : p k with
  | false =>
    rw [Bool.false_and, if_neg (by simp), Bool.or_false]
    rcases h with ⟨rfl, h1⟩ | ⟨rfl, h1, h2, h3⟩
    · refine .inl ⟨rfl, fun x hx => ?_⟩
      rcases split hx with e | rfl
      · exact h1 x e
      · exact hp
    · refine .inr ⟨rfl, List.mem_append.2 (.inl h1), h2, fun x hx hpx => ?_⟩
      rcases split hx with e | rfl
      · exact h3 x e hpx
      · rw [hp] at hpx; cases hpx
  | true =>
    rw [Bool.true_and]
    rcases h with ⟨rfl, h1⟩ | ⟨rfl, h1, h2, h3⟩
    · rw [Bool.not_false, Bool.true_or, if_pos rfl, Bool.or_true]
      refine .inr ⟨rfl, by simp, hp, fun x hx hpx => ?_⟩
      rcases split hx with e | rfl
      · rw [h1 x e] at hpx; cases hpx
      · exact .inl rfl
    · rw [Bool.not_true, Bool.false_or, Bool.true_or]
      have hne := hk rfl
      cases hl : less k first with
      | true =>
        rw [if_pos rfl]
        refine .inr ⟨rfl, by simp, hp, fun x hx hpx => ?_⟩
        rcases split hx with e | rfl
        · refine .inr ?_
          rw [less_iff] at hl ⊢
          rcases h3 x e hpx with rfl | h4
          · exact hl
          · rw [less_iff] at h4
            omega
        · exact .inl rfl
      | false =>
        rw [if_neg (by simp)]
        refine .inr ⟨rfl, List.mem_append.2 (.inl h1), h2, fun x hx hpx => ?_⟩
        rcases split hx with e | rfl
        · exact h3 x e hpx
        · refine .inr ?_
          rw [less_iff]
          have hl2 : ¬ (x.c.used < first.c.used ∨ (x.c.used = first.c.used ∧ x.c.seq < first.c.seq)) := fun h => by
            rw [less_iff.2 h] at hl; cases hl
          omega
theorem fold_early : ∀ {l : List Kept} {b : Option Cookie} {c : Cookie}, l.Pairwise (fun a b => a.c.seq < b.c.seq) → (∀ a, b = some a → ∀ k ∈ l, a.seq < k.c.seq) → l.foldl older b = some c →
    (∀ x ∈ l, x.c.used = c.used → c.seq ≤ x.c.seq) ∧ ∀ a, b = some a → a.used = c.used → c.seq ≤ a.seq
  | [], b, c, _, _, h => by
    refine ⟨(fun x hx => by cases hx), fun a ha _ => ?_⟩
    have h : b = some c := h
    rw [h] at ha
    rw [Option.some.inj ha]
    exact Int.le_refl _
  | x :: l, b, c, hp, hb, h => by
    obtain ⟨p1, p2⟩ := List.pairwise_cons.1 hp
    rw [List.foldl_cons] at h
    have hmin := (fold_older l (older b x)).2 c h
    cases b with
    | none =>
      have e : older none x = some x.c := rfl
      rw [e] at h hmin
      obtain ⟨i1, i2⟩ := fold_early p2 (fun a ha k hk => by rw [← Option.some.inj ha]; exact p1 k hk) h
      refine ⟨fun y hy hu => ?_, fun a ha => by cases ha⟩
      rcases List.mem_cons.1 hy with rfl | hy
      · exact i2 _ rfl hu
      · exact i1 y hy hu
    | some a0 =>
      have hb0 := hb a0 rfl
      by_cases hlt : x.c.used < a0.used
      · have e : older (some a0) x = some x.c := by unfold older; simp only; rw [if_pos hlt]
        rw [e] at h hmin
        obtain ⟨i1, i2⟩ := fold_early p2 (fun a ha k hk => by rw [← Option.some.inj ha]; exact p1 k hk) h
        have h3 := hmin.2.2 x.c rfl
        refine ⟨fun y hy hu => ?_, fun a ha hu => ?_⟩
        · rcases List.mem_cons.1 hy with rfl | hy
          · exact i2 _ rfl hu
          · exact i1 y hy hu
        · obtain rfl := Option.some.inj ha
          omega
      · have e : older (some a0) x = some a0 := by unfold older; simp only; rw [if_neg hlt]
        rw [e] at h hmin
        obtain ⟨i1, i2⟩ := fold_early p2 (fun a ha k hk => by rw [← Option.some.inj ha]; exact hb0 k (by simp [hk])) h
        have h3 := hmin.2.2 a0 rfl
        refine ⟨fun y hy hu => ?_, fun a ha hu => ?_⟩
        · rcases List.mem_cons.1 hy with rfl | hy
          · have h4 := i2 a0 rfl (by omega)
            have h5 := hb0 y (by simp)
            omega
          · exact i1 y hy hu
        · exact i2 a ha hu
theorem Least.perm {p : Kept → Bool} {S S' : List Kept} {first : Kept} {found : Bool} (h : Least p S first found) (hp : S.Perm S') : Least p S' first found := by
  rcases h with ⟨h0, h1⟩ | ⟨h0, h1, h2, h3⟩
  · exact .inl ⟨h0, fun k hk => h1 k (hp.mem_iff.2 hk)⟩
  · exact .inr ⟨h0, hp.mem_iff.1 h1, h2, fun k hk => h3 k (hp.mem_iff.2 hk)⟩
theorem Well.one {s : Shelf} (h : Well s) {a b : Kept} (ha : a ∈ s.l) (hb : b ∈ s.l) (he : a.c.seq = b.c.seq) : a = b := by
  obtain ⟨i, hi⟩ := List.getElem?_of_mem ha
  obtain ⟨j, hj⟩ := List.getElem?_of_mem hb
  obtain ⟨i1, i2⟩ := List.getElem?_eq_some_iff.1 hi
  obtain ⟨j1, j2⟩ := List.getElem?_eq_some_iff.1 hj
  have hp := List.pairwise_iff_getElem.1 h.apart
  rcases Nat.lt_trichotomy i j with r | r | r
  · have := (hp i j i1 j1 r).2; rw [i2, j2] at this; omega
  · subst r; rw [← i2, ← j2]
  · have := (hp j i j1 i1 r).2; rw [i2, j2] at this; omega
theorem oldest_least {p : Kept → Bool} {s : Shelf} (hw : Well s) {first : Kept} {found : Bool} (h : Least p s.l first found) : oldest p s = if found then some first.c else none := by
  rcases h with ⟨rfl, h1⟩ | ⟨rfl, h1, h2, h3⟩
  · rw [if_neg (by simp), oldest_none, List.filter_eq_nil_iff]
    intro k hk
    rw [h1 k hk]; simp
  · rw [if_pos rfl]
    cases e : oldest p s with
    | none =>
      rw [oldest_none, List.filter_eq_nil_iff] at e
      exact absurd h2 (e first h1)
    | some c =>
      obtain ⟨⟨k, hk, hpk, rfl⟩, hmin⟩ := oldest_some e
      have e2 := fold_early (l := s.l.filter p) (b := none) ((hw.apart.imp fun h => h.2).sublist List.filter_sublist) (fun a ha => by cases ha) e
      have m1 := hmin first h1 h2
      rcases h3 k hk hpk with rfl | h4
      · rfl
      · rw [less_iff] at h4
        have m2 := e2.1 first (List.mem_filter.2 ⟨h1, h2⟩) (by omega)
        omega
/-! ### By rising numbers -/
theorem rise_eq : ∀ {l m : List Cookie}, l.Perm m → l.Pairwise (fun a b => a.seq < b.seq) → m.Pairwise (fun a b => a.seq < b.seq) → l = m
  | [], m, hp, _, _ => hp.nil_eq
  | a :: l, [], hp, _, _ => by have := hp.length_eq; simp at this
  | a :: l, b :: m, hp, h1, h2 => by
    obtain ⟨p1, p2⟩ := List.pairwise_cons.1 h1
    obtain ⟨q1, q2⟩ := List.pairwise_cons.1 h2
    have e : a = b := by
      have ha := hp.mem_iff.1 (show a ∈ a :: l by simp)
      have hb := hp.mem_iff.2 (show b ∈ b :: m by simp)
      rcases List.mem_cons.1 ha with e | ha
      · exact e
      · rcases List.mem_cons.1 hb with e | hb
        · exact e.symm
        · have := q1 a ha
          have := p1 b hb
          omega
    subst e
    rw [rise_eq (List.Perm.cons_inv hp) p2 q2]
theorem all_rise {s : Shelf} (h : Well s) : (all s).Pairwise fun a b => a.seq < b.seq := (all_apart h).imp fun h => h.2
/-! ### What has ended -/
def alive (now : Int) (k : Kept) : Bool := decide (now < k.c.expires)
theorem expire_is (s : Shelf) (now : Int) : (expire s now).1.l = s.l.filter (alive now) ∧ (expire s now).1.last = s.last ∧ (expire s now).2 = s.l.countP fun k => !alive now k := by
  refine ⟨rfl, rfl, ?_⟩
  show s.l.length - (s.l.filter (alive now)).length = _
  rw [← List.countP_eq_length_filter]
  have := List.length_eq_countP_add_countP (p := alive now) (l := s.l)
  have e : (s.l.countP fun k => decide ¬ alive now k = true) = s.l.countP fun k => !alive now k := by
    congr 1; funext k; cases alive now k <;> rfl
  omega
end Sh
end Go.Proofs.Ytdfcnodlddeccaa
