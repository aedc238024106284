/- Plain functions on public suffixes, and plain lemmas on them: what the calls of package suffix answer. No program is named here. -/
import Derived.Test.YtnlhniaoaciopaaGreatDoorPlains
namespace Go.Proofs.YtnlhniaoaciopaaGreatDoor
namespace Sx
/-- A node, and a label behind it. -/
abbrev Way := Nat × List UInt8
/-- Where a way leads to. -/
def find (es : List Way) (k : Way) : Option Nat := if k ∈ es then some (es.idxOf k + 1) else none
/-- Where labels lead to, from a node on. -/
def walk (es : List Way) : Nat → List (List UInt8) → Option Nat
  | j, [] => some j
  | j, l :: r => match find es (j, l) with | some i => walk es i r | none => none
/-- Of which kinds rules end at a node. -/
structure Kinds where
  name : Bool
  wild : Bool
  spare : Bool
def no : Kinds := ⟨false, false, false⟩
def Kinds.mark (K : Kinds) (k : Int) : Kinds := if k = 1 then { K with name := true } else if k = 2 then { K with wild := true } else { K with spare := true }
def Kinds.of (K : Kinds) (k : Int) : Bool := if k = 1 then K.name else if k = 2 then K.wild else K.spare
/-- A table: its ways, and of which kinds rules end at each node. -/
structure Tab where
  es : List Way
  ends : List Kinds
def Tab.bare : Tab := ⟨[], [no]⟩
def step (t : Tab) (j : Nat) (l : List UInt8) : Tab × Nat := match find t.es (j, l) with | some i => (t, i) | none => (⟨t.es ++ [(j, l)], t.ends ++ [no]⟩, t.ends.length)
def lay (t : Tab) (ls : List (List UInt8)) : Tab × Nat := ls.foldl (fun s l => step s.1 s.2 l) (t, 0)
def mark (t : Tab) (j : Nat) (k : Int) : Tab := ⟨t.es, t.ends.modify j (fun K => K.mark k)⟩
/-- A rule's labels, the last one first. -/
def path (r : Ru.Rule) : List (List UInt8) := (Hst.labels ⟨1, r.name, Hst.nil16⟩).reverse
def right (r : Ru.Rule) : Bool := decide (Ru.line (Ru.text r) = (0, true, r))
def add (t : Tab) (r : Ru.Rule) : Tab := mark (lay t (path r)).1 (lay t (path r)).2 r.kind
def put (t : Tab) (r : Ru.Rule) : Tab := if right r = true then add t r else t
def new (rs : List Ru.Rule) : Tab := rs.foldl put Tab.bare
/-- What ends at the node of the first label, of the first two, and so on. -/
def along (t : Tab) : Nat → List (List UInt8) → List Kinds
  | _, [] => []
  | j, l :: r => match find t.es (j, l) with | some i => (t.ends[i]?).getD no :: along t i r | none => []
def next (n : Nat) (K : Kinds) (c : Nat) (s : Nat × Nat) : Nat × Nat :=
  (if K.wild = true ∧ c < n then max (if K.name = true then max s.1 c else s.1) (c + 1) else if K.name = true then max s.1 c else s.1, if K.spare = true then c - 1 else s.2)
def tally (n : Nat) : List Kinds → Nat → Nat × Nat → Nat × Nat
  | [], _, s => s
  | K :: r, i, s => tally n r (i + 1) (next n K (i + 1) s)
def pick (s : Nat × Nat) : Nat := if 0 < s.2 then s.2 else s.1
def suffix (t : Tab) (h : Hst.Host) : Nat := if Hst.labels h = [] then 0 else pick (tally (Hst.labels h).length (along t 0 (Hst.labels h).reverse) 0 (1, 0))
def isPublic (n : Nat) (h : Hst.Host) : Bool := decide (0 < (Hst.labels h).length) && decide ((Hst.labels h).length = n)
def site (n : Nat) (h : Hst.Host) : List UInt8 :=
  if h.kind = 1 then (match Hst.tailOf h ((n : Int) + 1) with | some d => d.name | none => []) else if Hst.can h = true then Hst.text h else []
/-! ### Rules that can be -/
theorem right_can {r : Ru.Rule} : right r = true ↔ Ru.Can r := by
  unfold right
  rw [decide_eq_true_eq]
  exact ⟨fun h => Ru.line_can h, fun h => Ru.line_text h⟩
theorem right_says (r : Ru.Rule) : right r = ((Ru.line (Ru.text r)).2.1 && decide ((Ru.line (Ru.text r)).2.2 = r)) := by
  unfold right
  rcases Ru.line_cases (Ru.text r) with ⟨x, h1, _⟩ | h1 | h1
  · rw [h1, Bool.true_and, decide_eq_decide]; simp
  · rw [h1, Bool.false_and, decide_eq_false_iff_not]; simp
  · rw [h1, Bool.false_and, decide_eq_false_iff_not]; simp
theorem path_can {r : Ru.Rule} (h : Ru.Can r) : path r = (Oct.split 46 r.name).reverse := by unfold path; rw [Hst.good_labels h.good]
theorem split_few : ∀ s : List UInt8, (Oct.split 46 s).length ≤ s.length + 1
  | [] => Nat.le_refl _
  | c :: r => by
    have ih := split_few r
    rw [Oct.split_step]
    split
    · rw [List.length_cons, List.length_cons]; omega
    · cases e : Oct.split 46 r with
      | nil => exact absurd e (Oct.split_ne 46 r)
      | cons p ps => rw [e, List.length_cons] at ih; simp; omega
theorem path_few {r : Ru.Rule} (h : Ru.Can r) : (path r).length ≤ 254 := by
  have := split_few r.name
  have := h.good.few
  rw [path_can h, List.length_reverse]; omega
theorem labels_few (h : Hst.Host) : (Hst.labels h).length ≤ 254 := by
  by_cases hl : Hst.labels h = []
  · rw [hl]; simp
  · obtain ⟨_, g, _, e⟩ := Hst.labels_good hl
    have := split_few h.name
    have := g.few
    rw [e]; omega
/-! ### The tree -/
structure Tree (es : List Way) : Prop where
  once : es.Nodup
  back : ∀ (i : Nat) (e : Way), es[i]? = some e → e.1 ≤ i
theorem find_at {es : List Way} {k : Way} {i : Nat} (h : find es k = some i) : 1 ≤ i ∧ i ≤ es.length ∧ es[i - 1]? = some k := by
  unfold find at h
  split at h
  · rename_i hm
    have e := Option.some.inj h
    have hl := List.idxOf_lt_length_of_mem hm
    subst e
    refine ⟨by omega, by omega, ?_⟩
    rw [Nat.add_sub_cancel, List.getElem?_eq_getElem hl, List.getElem_idxOf]
  · cases h
theorem find_mono {es m : List Way} {k : Way} {i : Nat} (h : find es k = some i) : find (es ++ m) k = some i := by
  unfold find at h ⊢
  split at h
  · rename_i hm
    rw [if_pos (List.mem_append.2 (.inl hm)), List.idxOf_append, if_pos hm]; exact h
  · cases h
theorem find_none {es : List Way} {k : Way} : find es k = none ↔ k ∉ es := by
  unfold find
  split
  · simp_all
  · simp_all
theorem find_new {es : List Way} {k : Way} (h : find es k = none) : find (es ++ [k]) k = some (es.length + 1) := by
  unfold find
  rw [if_pos (by simp), List.idxOf_append, if_neg (find_none.1 h)]
  simp
theorem find_other {es : List Way} {k q : Way} (h : k ≠ q) : find (es ++ [q]) k = find es k := by
  unfold find
  by_cases hm : k ∈ es
  · rw [if_pos hm, if_pos (List.mem_append.2 (.inl hm)), List.idxOf_append, if_pos hm]
  · rw [if_neg hm, if_neg]
    intro e
    rcases List.mem_append.1 e with e | e
    · exact hm e
    · exact h (List.mem_singleton.1 e)
theorem walk_mono {es m : List Way} : ∀ {p : List (List UInt8)} {j i : Nat}, walk es j p = some i → walk (es ++ m) j p = some i
  | [], _, _, h => h
  | l :: r, j, i, h => by
    unfold walk at h ⊢
    cases e : find es (j, l) with
    | none => rw [e] at h; cases h
    | some x =>
      rw [e] at h
      rw [find_mono e]
      exact walk_mono h
theorem walk_cons (es : List Way) (j : Nat) (l : List UInt8) (r : List (List UInt8)) : walk es j (l :: r) = (find es (j, l)).bind fun i => walk es i r := by
  rw [walk]
  cases find es (j, l) <;> rfl
theorem walk_snoc (es : List Way) : ∀ (p : List (List UInt8)) (j : Nat) (l : List UInt8), walk es j (p ++ [l]) = (walk es j p).bind fun i => find es (i, l)
  | [], j, l => by
    rw [List.nil_append, walk_cons]
    show (find es (j, l)).bind some = find es (j, l)
    cases find es (j, l) <;> rfl
  | q :: p, j, l => by
    rw [List.cons_append, walk_cons, walk_cons]
    cases find es (j, q) with
    | none => rfl
    | some i => exact walk_snoc es p i l
theorem snoc_cases {α : Type} : ∀ (p : List α), p = [] ∨ ∃ q x, p = q ++ [x]
  | [] => .inl rfl
  | x :: r => by
    rcases snoc_cases r with rfl | ⟨q, y, rfl⟩
    · exact .inr ⟨[], x, rfl⟩
    · exact .inr ⟨x :: q, y, rfl⟩
theorem walk_last {es : List Way} {p : List (List UInt8)} {l : List UInt8} {j : Nat} (h : walk es 0 (p ++ [l]) = some j) : ∃ i, walk es 0 p = some i ∧ find es (i, l) = some j := by
  rw [walk_snoc] at h
  cases e : walk es 0 p with
  | none => rw [e] at h; cases h
  | some i => rw [e] at h; exact ⟨i, rfl, h⟩
theorem walk_inj {es : List Way} (ht : Tree es) : ∀ (n j : Nat) (p q : List (List UInt8)), j ≤ n → walk es 0 p = some j → walk es 0 q = some j → p = q
  | n, j, p, q, hn, hp, hq => by
    rcases snoc_cases p with rfl | ⟨p, l, rfl⟩
    · have e : j = 0 := (Option.some.inj hp).symm
      subst e
      rcases snoc_cases q with rfl | ⟨q, m, rfl⟩
      · rfl
      · obtain ⟨i, _, hf⟩ := walk_last hq
        exact absurd (find_at hf).1 (by omega)
    · obtain ⟨i, hi, hf⟩ := walk_last hp
      obtain ⟨h1, h2, h3⟩ := find_at hf
      rcases snoc_cases q with rfl | ⟨q, m, rfl⟩
      · have e : j = 0 := (Option.some.inj hq).symm
        omega
      · obtain ⟨k, hk, hg⟩ := walk_last hq
        obtain ⟨_, _, g3⟩ := find_at hg
        rw [h3] at g3
        have e := Option.some.inj g3
        have e1 : i = k := congrArg Prod.fst e
        have e2 : l = m := congrArg Prod.snd e
        subst e1 e2
        have hb := ht.back _ _ h3
        match n, hn with
        | 0, hn => omega
        | n + 1, hn =>
          rw [walk_inj ht n i p q (by dsimp only at hb; omega) hi hk]
theorem walk_le {es : List Way} {p : List (List UInt8)} {j : Nat} (h : walk es 0 p = some j) : j ≤ es.length := by
  rcases snoc_cases p with rfl | ⟨p, l, rfl⟩
  · have e : j = 0 := (Option.some.inj h).symm
    omega
  · obtain ⟨i, _, hf⟩ := walk_last h
    exact (find_at hf).2.1
/-! ### Rules are laid -/
structure Well (t : Tab) : Prop where
  tree : Tree t.es
  size : t.ends.length = t.es.length + 1
theorem bare_well : Well Tab.bare := ⟨⟨List.nodup_nil, fun i e h => by simp [Tab.bare] at h⟩, rfl⟩
theorem step_well {t : Tab} {j : Nat} {l : List UInt8} (ht : Well t) (hj : j ≤ t.es.length) : Well (step t j l).1 ∧ (step t j l).2 ≤ (step t j l).1.es.length ∧ (∃ m, (step t j l).1.es = t.es ++ m) ∧ find (step t j l).1.es (j, l) = some (step t j l).2 ∧ (step t j l).1.es.length ≤ t.es.length + 1 ∧ (∀ i : Nat, ((step t j l).1.ends[i]?).getD no = (t.ends[i]?).getD no) := by
  unfold step
  cases e : find t.es (j, l) with
  | some i => exact ⟨ht, (find_at e).2.1, ⟨[], by simp⟩, e, by dsimp only; omega, fun _ => rfl⟩
  | none =>
    dsimp only
    refine ⟨⟨⟨?_, ?_⟩, ?_⟩, ?_, ⟨_, rfl⟩, ?_, ?_, ?_⟩
    · rw [List.nodup_append]
      refine ⟨ht.tree.once, by simp, fun a ha b hb hab => ?_⟩
      rw [List.mem_singleton] at hb
      rw [hab, hb] at ha
      exact find_none.1 e ha
    · intro i x hx
      dsimp only at hx
      rcases Nat.lt_or_ge i t.es.length with hi | hi
      · rw [List.getElem?_append_left hi] at hx
        exact ht.tree.back i x hx
      · rw [List.getElem?_append_right hi] at hx
        obtain ⟨hz, hx⟩ := List.getElem?_eq_some_iff.1 hx
        rw [List.length_singleton] at hz
        have : x = (j, l) := by rw [← hx]; simp
        rw [this]; dsimp only; omega
    · rw [List.length_append, List.length_append, ht.size]; rfl
    · rw [List.length_append, ht.size]; simp
    · rw [find_new e, ht.size]
    · rw [List.length_append]; simp
    · intro i
      rcases Nat.lt_or_ge i t.ends.length with hi | hi
      · rw [List.getElem?_append_left hi]
      · rw [List.getElem?_append_right hi, List.getElem?_eq_none_iff.2 hi]
        match i - t.ends.length with
        | 0 => rfl
        | k + 1 => rfl
theorem lay_snoc (t : Tab) (p : List (List UInt8)) (l : List UInt8) : lay t (p ++ [l]) = step (lay t p).1 (lay t p).2 l := by
  unfold lay
  rw [List.foldl_append]; rfl
theorem lay_facts {t : Tab} (ht : Well t) : ∀ (n : Nat) (p : List (List UInt8)), p.length = n →
    Well (lay t p).1 ∧ (lay t p).2 ≤ (lay t p).1.es.length ∧ (∃ m, (lay t p).1.es = t.es ++ m) ∧ walk (lay t p).1.es 0 p = some (lay t p).2 ∧ (lay t p).1.es.length ≤ t.es.length + p.length ∧ (∀ i : Nat, ((lay t p).1.ends[i]?).getD no = (t.ends[i]?).getD no)
  | 0, p, hp => by
    have e : p = [] := List.eq_nil_of_length_eq_zero hp
    subst e
    exact ⟨ht, Nat.zero_le _, ⟨[], by simp [lay]⟩, rfl, Nat.le_refl _, fun _ => rfl⟩
  | n + 1, p, hp => by
    rcases snoc_cases p with rfl | ⟨p, l, rfl⟩
    · cases hp
    · have hpn : p.length = n := by simpa using hp
      obtain ⟨h1, h2, ⟨m, h3⟩, h4, h5, h6⟩ := lay_facts ht n p hpn
      rw [lay_snoc]
      obtain ⟨g1, g2, ⟨m2, g3⟩, g4, g5, g6⟩ := step_well (l := l) h1 h2
      refine ⟨g1, g2, ⟨m ++ m2, by rw [g3, h3, List.append_assoc]⟩, ?_, by rw [List.length_append, List.length_singleton]; omega, fun i => (g6 i).trans (h6 i)⟩
      rw [walk_snoc]
      have : walk (step (lay t p).1 (lay t p).2 l).1.es 0 p = some (lay t p).2 := by rw [g3]; exact walk_mono h4
      rw [this]; exact g4
theorem mark_of (K : Kinds) {k q : Int} (hk : k = 1 ∨ k = 2 ∨ k = 3) (hq : q = 1 ∨ q = 2 ∨ q = 3) : (K.mark k).of q = (decide (k = q) || K.of q) := by
  obtain ⟨a, b, c⟩ := K
  rcases hk with rfl | rfl | rfl <;> rcases hq with rfl | rfl | rfl <;> rfl
/-- What a table of rules tells of each node. -/
structure Told (t : Tab) (rs : List Ru.Rule) : Prop where
  well : Well t
  laid : ∀ r ∈ rs, Ru.Can r → ∃ j, walk t.es 0 (path r) = some j
  told : ∀ (j : Nat) (k : Int), k = 1 ∨ k = 2 ∨ k = 3 → (((t.ends[j]?).getD no).of k = true ↔ ∃ r ∈ rs, Ru.Can r ∧ r.kind = k ∧ walk t.es 0 (path r) = some j)
theorem no_of (k : Int) : no.of k = false := by unfold Kinds.of; split <;> (try split) <;> rfl
theorem told_bare : Told Tab.bare [] := by
  refine ⟨bare_well, by simp, fun j k hk => ?_⟩
  have e : (Tab.bare.ends[j]?).getD no = no := by
    match j with
    | 0 => rfl
    | j + 1 => rfl
  rw [e, no_of]; simp
theorem told_add {t : Tab} {rs : List Ru.Rule} {r : Ru.Rule} (h : Told t rs) (hr : Ru.Can r) : Told (add t r) (rs ++ [r]) := by
  obtain ⟨h1, h2, ⟨m, h3⟩, h4, h5, h6⟩ := lay_facts h.well _ (path r) rfl
  unfold add mark
  generalize hs : lay t (path r) = s at *
  have hes : ∀ x ∈ rs, Ru.Can x → ∀ j, walk s.1.es 0 (path x) = some j ↔ walk t.es 0 (path x) = some j := by
    intro x hx hc j
    obtain ⟨i, hi⟩ := h.laid x hx hc
    have hi2 : walk s.1.es 0 (path x) = some i := by rw [h3]; exact walk_mono hi
    rw [hi, hi2]
  refine ⟨⟨h1.tree, by dsimp only; rw [List.length_modify]; exact h1.size⟩, ?_, ?_⟩
  · intro x hx hc
    rcases List.mem_append.1 hx with hx | hx
    · obtain ⟨i, hi⟩ := h.laid x hx hc
      exact ⟨i, (hes x hx hc i).2 hi⟩
    · rw [List.mem_singleton] at hx
      subst hx
      exact ⟨_, h4⟩
  · intro j k hk
    dsimp only
    have hlt : s.2 < s.1.ends.length := by rw [h1.size]; omega
    have e : ((s.1.ends.modify s.2 (fun K => K.mark r.kind))[j]?).getD no = if s.2 = j then ((t.ends[j]?).getD no).mark r.kind else (t.ends[j]?).getD no := by
      rw [List.getElem?_modify, ← h6 j]
      split
      · rename_i he
        subst he
        rw [List.getElem?_eq_getElem hlt]; rfl
      · cases s.1.ends[j]? <;> rfl
    have ex : (∃ x ∈ rs ++ [r], Ru.Can x ∧ x.kind = k ∧ walk s.1.es 0 (path x) = some j) ↔ ((s.2 = j ∧ r.kind = k) ∨ ∃ x ∈ rs, Ru.Can x ∧ x.kind = k ∧ walk t.es 0 (path x) = some j) := by
      constructor
      · rintro ⟨x, hx, hc, hk2, hw⟩
        rcases List.mem_append.1 hx with hx | hx
        · exact .inr ⟨x, hx, hc, hk2, (hes x hx hc j).1 hw⟩
        · rw [List.mem_singleton] at hx
          subst hx
          rw [h4] at hw
          exact .inl ⟨Option.some.inj hw, hk2⟩
      · rintro (⟨e1, e2⟩ | ⟨x, hx, hc, hk2, hw⟩)
        · exact ⟨r, by simp, hr, e2, by rw [h4, e1]⟩
        · exact ⟨x, by simp [hx], hc, hk2, (hes x hx hc j).2 hw⟩
    rw [e, ex, ← h.told j k hk]
    by_cases hj : s.2 = j
    · rw [if_pos hj, mark_of _ hr.kind hk]
      simp [hj]
    · rw [if_neg hj]
      simp [hj]
theorem told_put {t : Tab} {rs : List Ru.Rule} (h : Told t rs) (r : Ru.Rule) : Told (put t r) (rs ++ [r]) := by
  unfold put
  split
  · rename_i hr
    exact told_add h (right_can.1 hr)
  · rename_i hr
    have hn : ¬ Ru.Can r := fun e => hr (right_can.2 e)
    refine ⟨h.well, fun x hx hc => ?_, fun j k hk => ?_⟩
    · rcases List.mem_append.1 hx with hx | hx
      · exact h.laid x hx hc
      · rw [List.mem_singleton] at hx
        exact absurd (hx ▸ hc) hn
    · rw [h.told j k hk]
      constructor
      · rintro ⟨x, hx, hh⟩; exact ⟨x, by simp [hx], hh⟩
      · rintro ⟨x, hx, hc, hh⟩
        rcases List.mem_append.1 hx with hx | hx
        · exact ⟨x, hx, hc, hh⟩
        · rw [List.mem_singleton] at hx
          exact absurd (hx ▸ hc) hn
theorem new_snoc (rs : List Ru.Rule) (r : Ru.Rule) : new (rs ++ [r]) = put (new rs) r := by
  unfold new
  rw [List.foldl_append]; rfl
theorem told_new : ∀ (n : Nat) (rs : List Ru.Rule), rs.length = n → Told (new rs) rs
  | 0, rs, h => by
    have e : rs = [] := List.eq_nil_of_length_eq_zero h
    subst e
    exact told_bare
  | n + 1, rs, h => by
    rcases snoc_cases rs with rfl | ⟨q, x, rfl⟩
    · cases h
    · rw [new_snoc]
      exact told_put (told_new n q (by simpa using h)) x
theorem put_few {t : Tab} (ht : Well t) (r : Ru.Rule) : (put t r).es.length ≤ t.es.length + 254 := by
  unfold put
  split
  · rename_i hr
    have h5 := (lay_facts ht _ (path r) rfl).2.2.2.2.1
    have := path_few (right_can.1 hr)
    unfold add mark
    dsimp only
    omega
  · omega
theorem new_few : ∀ (n : Nat) (rs : List Ru.Rule), rs.length = n → (new rs).es.length ≤ n * 254
  | 0, rs, h => by
    have e : rs = [] := List.eq_nil_of_length_eq_zero h
    subst e
    exact Nat.zero_le _
  | n + 1, rs, h => by
    rcases snoc_cases rs with rfl | ⟨q, x, rfl⟩
    · cases h
    · rw [new_snoc]
      have := new_few n q (by simpa using h)
      have := put_few (told_new _ q rfl).well x
      omega
end Sx
end Go.Proofs.YtnlhniaoaciopaaGreatDoor
/- How many labels are public, told of the rules and not of a table; plain lemmas. No program is named here. -/
namespace Go.Proofs.YtnlhniaoaciopaaGreatDoor
namespace Sx
/-- A rule of kind k meets labels: it has c of them. -/
def Meets (rs : List Ru.Rule) (L : List (List UInt8)) (k : Int) (c : Nat) : Prop := 1 ≤ c ∧ c ≤ L.length ∧ ∃ r ∈ rs, Ru.Can r ∧ r.kind = k ∧ path r = L.reverse.take c
/-- The most of names' labels, of wild ends' and one more, and of 1. -/
structure Top (N W : Nat → Prop) (n p : Nat) : Prop where
  one : 1 ≤ p
  is : p = 1 ∨ N p ∨ ∃ c, W c ∧ c < n ∧ p = c + 1
  name : ∀ c, N c → c ≤ p
  wild : ∀ c, W c → c < n → c + 1 ≤ p
/-- The most of exceptions' labels, less one. -/
structure Spare (X : Nat → Prop) (s : Nat) : Prop where
  is : s = 0 ∨ X (s + 1)
  all : ∀ c, X c → c - 1 ≤ s
theorem Top.le {N W N' W' : Nat → Prop} {n p q : Nat} (h : Top N W n p) (g : Top N' W' n q) (hN : ∀ c, N c → N' c) (hW : ∀ c, W c → W' c) : p ≤ q := by
  rcases h.is with e | e | ⟨c, hc, hn, e⟩
  · rw [e]; exact g.one
  · exact g.name _ (hN _ e)
  · rw [e]; exact g.wild _ (hW _ hc) hn
theorem Top.same {N W : Nat → Prop} {n p q : Nat} (h : Top N W n p) (g : Top N W n q) : p = q := Nat.le_antisymm (h.le g (fun _ k => k) (fun _ k => k)) (g.le h (fun _ k => k) (fun _ k => k))
theorem Spare.le {X X' : Nat → Prop} {s q : Nat} (h : Spare X s) (g : Spare X' q) (hX : ∀ c, X c → X' c) : s ≤ q := by
  rcases h.is with e | e
  · omega
  · have := g.all _ (hX _ e); omega
theorem Spare.same {X : Nat → Prop} {s q : Nat} (h : Spare X s) (g : Spare X q) : s = q := Nat.le_antisymm (h.le g fun _ k => k) (g.le h fun _ k => k)
/-! ### Along a tree -/
theorem tally_snoc (n : Nat) (K : Kinds) : ∀ (Ks : List Kinds) (i : Nat) (s : Nat × Nat), tally n (Ks ++ [K]) i s = next n K (i + Ks.length + 1) (tally n Ks i s)
  | [], i, s => rfl
  | Q :: Ks, i, s => by
    have ih := tally_snoc n K Ks (i + 1) (next n Q (i + 1) s)
    rw [List.cons_append, tally, ih, tally, List.length_cons]
    congr 1; omega
def N (Ks : List Kinds) (c : Nat) : Prop := 1 ≤ c ∧ ((Ks[c - 1]?).getD no).name = true
def W (Ks : List Kinds) (c : Nat) : Prop := 1 ≤ c ∧ ((Ks[c - 1]?).getD no).wild = true
def X (Ks : List Kinds) (c : Nat) : Prop := 1 ≤ c ∧ ((Ks[c - 1]?).getD no).spare = true
theorem at_snoc (Ks : List Kinds) (K : Kinds) {c : Nat} (hc : 1 ≤ c) : (((Ks ++ [K])[c - 1]?).getD no) = if c = Ks.length + 1 then K else (Ks[c - 1]?).getD no := by
  split
  · rename_i e
    subst e
    rw [Nat.add_sub_cancel, List.getElem?_append_right (Nat.le_refl _), Nat.sub_self]; rfl
  · rcases Nat.lt_or_ge (c - 1) Ks.length with h | h
    · rw [List.getElem?_append_left h]
    · rw [List.getElem?_append_right h, List.getElem?_eq_none_iff.2 h, List.getElem?_eq_none_iff.2 (by simp; omega)]
theorem at_lt {Ks : List Kinds} {c : Nat} {f : Kinds → Bool} (hf : f no = false) (hc : 1 ≤ c) (h : f ((Ks[c - 1]?).getD no) = true) : c ≤ Ks.length := by
  rcases Nat.lt_or_ge (c - 1) Ks.length with k | k
  · omega
  · rw [List.getElem?_eq_none_iff.2 k] at h
    exact absurd (hf.symm.trans h) (by decide)
theorem tally_top (n : Nat) : ∀ (m : Nat) (Ks : List Kinds), Ks.length = m → Top (N Ks) (W Ks) n (tally n Ks 0 (1, 0)).1 ∧ Spare (X Ks) (tally n Ks 0 (1, 0)).2
  | 0, Ks, h => by
    have e : Ks = [] := List.eq_nil_of_length_eq_zero h
    subst e
    have hn : ∀ c : Nat, (([] : List Kinds)[c - 1]?).getD no = no := fun c => by simp
    refine ⟨⟨Nat.le_refl _, .inl rfl, fun c hc => ?_, fun c hc => ?_⟩, ⟨.inl rfl, fun c hc => ?_⟩⟩
    · have := hc.2; rw [hn] at this; cases this
    · have := hc.2; rw [hn] at this; cases this
    · have := hc.2; rw [hn] at this; cases this
  | m + 1, Ks, h => by
    rcases snoc_cases Ks with rfl | ⟨Ks, K, rfl⟩
    · cases h
    · obtain ⟨ht, hs⟩ := tally_top n m Ks (by simpa using h)
      rw [tally_snoc, Nat.zero_add]
      generalize tally n Ks 0 (1, 0) = s at *
      obtain ⟨p, s⟩ := s
      dsimp only at ht hs
      have eN : ∀ c, N (Ks ++ [K]) c ↔ (c = Ks.length + 1 ∧ K.name = true) ∨ N Ks c := by
        intro c
        unfold N
        constructor
        · rintro ⟨h1, h2⟩
          rw [at_snoc Ks K h1] at h2
          split at h2
          · exact .inl ⟨by assumption, h2⟩
          · exact .inr ⟨h1, h2⟩
        · rintro (⟨h1, h2⟩ | ⟨h1, h2⟩)
          · exact ⟨by omega, by rw [at_snoc Ks K (by omega), if_pos h1]; exact h2⟩
          · have := at_lt (f := Kinds.name) rfl h1 h2
            exact ⟨h1, by rw [at_snoc Ks K h1, if_neg (by omega)]; exact h2⟩
      have eW : ∀ c, W (Ks ++ [K]) c ↔ (c = Ks.length + 1 ∧ K.wild = true) ∨ W Ks c := by
        intro c
        unfold W
        constructor
        · rintro ⟨h1, h2⟩
          rw [at_snoc Ks K h1] at h2
          split at h2
          · exact .inl ⟨by assumption, h2⟩
          · exact .inr ⟨h1, h2⟩
        · rintro (⟨h1, h2⟩ | ⟨h1, h2⟩)
          · exact ⟨by omega, by rw [at_snoc Ks K (by omega), if_pos h1]; exact h2⟩
          · have := at_lt (f := Kinds.wild) rfl h1 h2
            exact ⟨h1, by rw [at_snoc Ks K h1, if_neg (by omega)]; exact h2⟩
      have eX : ∀ c, X (Ks ++ [K]) c ↔ (c = Ks.length + 1 ∧ K.spare = true) ∨ (X Ks c ∧ c ≤ Ks.length) := by
        intro c
        unfold X
        constructor
        · rintro ⟨h1, h2⟩
          rw [at_snoc Ks K h1] at h2
          split at h2
          · exact .inl ⟨by assumption, h2⟩
          · exact .inr ⟨⟨h1, h2⟩, at_lt (f := Kinds.spare) rfl h1 h2⟩
        · rintro (⟨h1, h2⟩ | ⟨⟨h1, h2⟩, h3⟩)
          · exact ⟨by omega, by rw [at_snoc Ks K (by omega), if_pos h1]; exact h2⟩
          · exact ⟨h1, by rw [at_snoc Ks K h1, if_neg (by omega)]; exact h2⟩
      have one := ht.one
      unfold next
      dsimp only
      refine ⟨⟨?_, ?_, ?_, ?_⟩, ⟨?_, ?_⟩⟩
      · split <;> split <;> omega
      · have old : p = 1 ∨ N (Ks ++ [K]) p ∨ ∃ c, W (Ks ++ [K]) c ∧ c < n ∧ p = c + 1 := by
          rcases ht.is with e | e | ⟨c, hc, e⟩
          · exact .inl e
          · exact .inr (.inl ((eN p).2 (.inr e)))
          · exact .inr (.inr ⟨c, (eW c).2 (.inr hc), e⟩)
        have nm : ∀ q, q = (if K.name = true then max p (Ks.length + 1) else p) → (q = 1 ∨ N (Ks ++ [K]) q ∨ ∃ c, W (Ks ++ [K]) c ∧ c < n ∧ q = c + 1) := by
          intro q hq
          split at hq
          · rename_i hk
            rcases Nat.le_total p (Ks.length + 1) with hle | hle
            · rw [Nat.max_eq_right hle] at hq
              exact .inr (.inl ((eN q).2 (.inl ⟨hq, hk⟩)))
            · rw [Nat.max_eq_left hle] at hq
              rw [hq]; exact old
          · rw [hq]; exact old
        have nm1 := nm _ rfl
        generalize (if K.name = true then max p (Ks.length + 1) else p) = q at *
        split
        · rename_i hk
          rcases Nat.le_total q (Ks.length + 1 + 1) with hle | hle
          · rw [Nat.max_eq_right hle]
            exact .inr (.inr ⟨Ks.length + 1, (eW _).2 (.inl ⟨rfl, hk.1⟩), hk.2, rfl⟩)
          · rw [Nat.max_eq_left hle]; exact nm1
        · exact nm1
      · intro c hc
        rcases (eN c).1 hc with ⟨e, hk⟩ | hc
        · rw [if_pos hk]; split <;> omega
        · have := ht.name c hc
          split <;> split <;> omega
      · intro c hc hn
        rcases (eW c).1 hc with ⟨e, hk⟩ | hc
        · rw [if_pos ⟨hk, by omega⟩]; omega
        · have := ht.wild c hc hn
          split <;> split <;> omega
      · split
        · rename_i hk
          exact .inr ((eX _).2 (.inl ⟨by omega, hk⟩))
        · rcases hs.is with e | e
          · exact .inl e
          · exact .inr ((eX _).2 (.inr ⟨e, at_lt (f := Kinds.spare) rfl e.1 e.2⟩))
      · intro c hc
        rcases (eX c).1 hc with ⟨e, hk⟩ | ⟨hc, hl⟩
        · rw [if_pos hk]; omega
        · have := hs.all c hc
          split <;> omega
theorem along_at (t : Tab) : ∀ (ls : List (List UInt8)) (j i : Nat), (along t j ls)[i]? = if i < ls.length then (walk t.es j (ls.take (i + 1))).map (fun x => (t.ends[x]?).getD no) else none
  | [], j, i => by simp [along]
  | l :: r, j, i => by
    rw [along]
    cases e : find t.es (j, l) with
    | none =>
      dsimp only
      rw [List.take_succ_cons, walk_cons, e]
      simp
    | some x =>
      dsimp only
      rw [List.take_succ_cons, walk_cons, e]
      match i with
      | 0 => simp [walk]
      | i + 1 =>
        rw [List.getElem?_cons_succ, along_at t r x i, List.length_cons]
        by_cases h : i < r.length
        · rw [if_pos h, if_pos (by omega)]; rfl
        · rw [if_neg h, if_neg (by omega)]
theorem along_meets {t : Tab} {rs : List Ru.Rule} (h : Told t rs) (L : List (List UInt8)) {k : Int} (hk : k = 1 ∨ k = 2 ∨ k = 3) (c : Nat) :
    (1 ≤ c ∧ (((along t 0 L.reverse)[c - 1]?).getD no).of k = true) ↔ Meets rs L k c := by
  unfold Meets
  rw [along_at]
  constructor
  · rintro ⟨h1, h2⟩
    rw [Nat.sub_add_cancel h1, List.length_reverse] at h2
    split at h2
    · rename_i hl
      cases e : walk t.es 0 (L.reverse.take c) with
      | none => rw [e] at h2; exact absurd ((no_of k).symm.trans h2) (by decide)
      | some j =>
        rw [e] at h2
        obtain ⟨r, hr, hc, hk2, hw⟩ := (h.told j k hk).1 h2
        exact ⟨h1, by omega, r, hr, hc, hk2, walk_inj h.well.tree j j _ _ (Nat.le_refl _) hw e⟩
    · exact absurd ((no_of k).symm.trans h2) (by decide)
  · rintro ⟨h1, h2, r, hr, hc, hk2, hp⟩
    refine ⟨h1, ?_⟩
    rw [Nat.sub_add_cancel h1, List.length_reverse, if_pos (by omega)]
    obtain ⟨j, hj⟩ := h.laid r hr hc
    rw [← hp, hj]
    exact (h.told j k hk).2 ⟨r, hr, hc, hk2, hj⟩
theorem suffix_top {rs : List Ru.Rule} {h : Hst.Host} (hl : Hst.labels h ≠ []) :
    ∃ p s, Top (Meets rs (Hst.labels h) 1) (Meets rs (Hst.labels h) 2) (Hst.labels h).length p ∧ Spare (Meets rs (Hst.labels h) 3) s ∧ suffix (new rs) h = pick (p, s) := by
  have ht := told_new _ rs rfl
  obtain ⟨h1, h2⟩ := tally_top (Hst.labels h).length _ (along (new rs) 0 (Hst.labels h).reverse) rfl
  have e1 : N (along (new rs) 0 (Hst.labels h).reverse) = Meets rs (Hst.labels h) 1 := by funext c; exact propext (along_meets ht _ (.inl rfl) c)
  have e2 : W (along (new rs) 0 (Hst.labels h).reverse) = Meets rs (Hst.labels h) 2 := by funext c; exact propext (along_meets ht _ (.inr (.inl rfl)) c)
  have e3 : X (along (new rs) 0 (Hst.labels h).reverse) = Meets rs (Hst.labels h) 3 := by funext c; exact propext (along_meets ht _ (.inr (.inr rfl)) c)
  rw [e1, e2] at h1
  rw [e3] at h2
  refine ⟨_, _, h1, h2, ?_⟩
  unfold suffix
  rw [if_neg hl]
theorem suffix_is {rs : List Ru.Rule} {h : Hst.Host} (hl : Hst.labels h ≠ []) {p s : Nat} (hp : Top (Meets rs (Hst.labels h) 1) (Meets rs (Hst.labels h) 2) (Hst.labels h).length p) (hs : Spare (Meets rs (Hst.labels h) 3) s) : suffix (new rs) h = pick (p, s) := by
  obtain ⟨q, x, h1, h2, e⟩ := suffix_top (rs := rs) hl
  rw [e, h1.same hp, h2.same hs]
theorem suffix_none {t : Tab} {h : Hst.Host} (hl : Hst.labels h = []) : suffix t h = 0 := by unfold suffix; rw [if_pos hl]
/-- Neither the order of the rules matters, nor how often they stand. -/
theorem suffix_same {rs qs : List Ru.Rule} (h : Hst.Host) (he : ∀ r, r ∈ rs ↔ r ∈ qs) : suffix (new rs) h = suffix (new qs) h := by
  by_cases hl : Hst.labels h = []
  · rw [suffix_none hl, suffix_none hl]
  · obtain ⟨p, s, h1, h2, e⟩ := suffix_top (rs := rs) hl
    have em : ∀ k, Meets rs (Hst.labels h) k = Meets qs (Hst.labels h) k := by
      intro k
      funext c
      unfold Meets
      simp only [he]
    rw [em, em] at h1
    rw [em] at h2
    rw [e, suffix_is hl h1 h2]
theorem suffix_few {rs : List Ru.Rule} {h : Hst.Host} (hl : Hst.labels h ≠ []) : 1 ≤ suffix (new rs) h ∧ suffix (new rs) h ≤ (Hst.labels h).length := by
  obtain ⟨p, s, h1, h2, e⟩ := suffix_top (rs := rs) hl
  have := List.length_pos_iff.2 hl
  have hp : p ≤ (Hst.labels h).length := by
    rcases h1.is with e | e | ⟨c, hc, hn, e⟩
    · omega
    · exact e.2.1
    · omega
  have one := h1.one
  rw [e]
  unfold pick
  dsimp only
  split
  · rcases h2.is with e | e
    · omega
    · have := e.2.1; omega
  · omega
theorem suffix_le (rs : List Ru.Rule) (h : Hst.Host) : suffix (new rs) h ≤ 254 := by
  by_cases hl : Hst.labels h = []
  · rw [suffix_none hl]; omega
  · have := (suffix_few (rs := rs) hl).2
    have := labels_few h
    omega
/-- A name more leaves what is public, or makes it as much as that name has labels, which is more. -/
theorem suffix_grows {rs : List Ru.Rule} {n : List UInt8} (h : Hst.Host) : suffix (new (rs ++ [⟨1, n⟩])) h = suffix (new rs) h ∨ (suffix (new rs) h < suffix (new (rs ++ [⟨1, n⟩])) h ∧ suffix (new (rs ++ [⟨1, n⟩])) h = (Hst.labels ⟨1, n, Hst.nil16⟩).length) := by
  by_cases hl : Hst.labels h = []
  · exact .inl (by rw [suffix_none hl, suffix_none hl])
  · obtain ⟨p, s, h1, h2, e⟩ := suffix_top (rs := rs) hl
    obtain ⟨q, x, g1, g2, f⟩ := suffix_top (rs := rs ++ [⟨1, n⟩]) hl
    have up : ∀ k c, Meets rs (Hst.labels h) k c → Meets (rs ++ [⟨1, n⟩]) (Hst.labels h) k c := by
      rintro k c ⟨a, b, r, hr, k⟩
      exact ⟨a, b, r, by simp [hr], k⟩
    have down : ∀ k c, Meets (rs ++ [⟨1, n⟩]) (Hst.labels h) k c → Meets rs (Hst.labels h) k c ∨ (k = 1 ∧ c = (Hst.labels ⟨1, n, Hst.nil16⟩).length) := by
      rintro k c ⟨a, b, r, hr, hc, hk, hp⟩
      rcases List.mem_append.1 hr with hr | hr
      · exact .inl ⟨a, b, r, hr, hc, hk, hp⟩
      · rw [List.mem_singleton] at hr
        subst hr
        refine .inr ⟨hk.symm, ?_⟩
        have := congrArg List.length hp
        rw [List.length_take, List.length_reverse] at this
        unfold path at this
        rw [List.length_reverse] at this
        dsimp only at this
        omega
    have e3 : s = x := Nat.le_antisymm (h2.le g2 (up 3)) (g2.le h2 fun c hc => by
      rcases down 3 c hc with k | k
      · exact k
      · exact absurd k.1 (by decide))
    subst e3
    have hpq := h1.le g1 (up 1) (up 2)
    rw [e, f]
    unfold pick
    dsimp only
    split
    · exact .inl rfl
    · rcases Nat.lt_or_eq_of_le hpq with hlt | heq
      · right
        refine ⟨hlt, ?_⟩
        have one := h1.one
        rcases g1.is with k | k | ⟨c, hc, hn, k⟩
        · omega
        · rcases down 1 q k with k | k
          · have := h1.name _ k; omega
          · exact k.2
        · rcases down 2 c hc with hc | hc
          · have := h1.wild _ hc hn; omega
          · exact absurd hc.1 (by decide)
      · exact .inl heq.symm
/-! ### What a rule meets -/
theorem rule_meets {h : Hst.Host} {r : Ru.Rule} (hl : Hst.labels h ≠ []) (hr : Ru.Can r) :
    (Hst.under h ⟨1, r.name, Hst.nil16⟩ = true ↔ (Oct.split 46 r.name).length < (Hst.labels h).length ∧ path r = (Hst.labels h).reverse.take (Oct.split 46 r.name).length) ∧
    (h = ⟨1, r.name, Hst.nil16⟩ ↔ (Oct.split 46 r.name).length = (Hst.labels h).length ∧ path r = (Hst.labels h).reverse.take (Oct.split 46 r.name).length) := by
  have hd := Hst.good_labels hr.good
  have hd0 : Hst.labels ⟨1, r.name, Hst.nil16⟩ ≠ [] := by rw [hd]; exact Oct.split_ne 46 r.name
  obtain ⟨_, gh, eh, lh⟩ := Hst.labels_good hl
  have hc1 : 1 ≤ (Oct.split 46 r.name).length := List.length_pos_iff.2 (Oct.split_ne 46 r.name)
  have key : ∀ {c : Nat}, c = (Oct.split 46 r.name).length → c ≤ (Hst.labels h).length → (Hst.ending h.name c = r.name ↔ path r = (Hst.labels h).reverse.take c) := by
    intro c hc hle
    rw [path_can hr]
    have e1 : (Hst.labels h).reverse.take c = ((Hst.labels h).drop ((Hst.labels h).length - c)).reverse := by
      rw [List.reverse_drop]
      congr 1; omega
    rw [e1, List.reverse_inj]
    constructor
    · intro e
      have := Hst.ending_split gh (k := c) (by omega) (by rw [← lh]; exact hle)
      rw [e, ← lh] at this
      exact this
    · intro e
      unfold Hst.ending
      rw [← lh, ← e, Hst.join_split]
  refine ⟨?_, ?_⟩
  · constructor
    · intro hu
      have hle : (Hst.labels ⟨1, r.name, Hst.nil16⟩).length ≤ (Hst.labels h).length := by
        rcases Nat.lt_or_ge (Hst.labels h).length (Hst.labels ⟨1, r.name, Hst.nil16⟩).length with k | k
        · rw [Hst.under_none (.inr k)] at hu; cases hu
        · exact k
      rw [Hst.under_of hd0 hle, Bool.and_eq_true, decide_eq_true_eq, Bool.not_eq_true', decide_eq_false_iff_not, hd] at hu
      rw [hd] at hle
      refine ⟨?_, (key rfl hle).1 hu.1⟩
      rcases Nat.lt_or_eq_of_le hle with k | k
      · exact k
      · exact absurd (Hst.ending_whole (by rw [k, lh])) hu.2
    · rintro ⟨hlt, hp⟩
      rw [Hst.under_of hd0 (by rw [hd]; omega), Bool.and_eq_true, decide_eq_true_eq, Bool.not_eq_true', decide_eq_false_iff_not, hd]
      refine ⟨(key rfl (by omega)).2 hp, fun e => ?_⟩
      have := Hst.ending_length (n := h.name) hc1 (by rw [← lh]; exact hlt)
      rw [e] at this
      omega
  · constructor
    · intro e
      have el : Hst.labels h = Oct.split 46 r.name := by rw [e, hd]
      refine ⟨by rw [el], ?_⟩
      rw [path_can hr, el, ← List.length_reverse, List.take_length]
    · rintro ⟨he, hp⟩
      have := (key rfl (by omega)).2 hp
      rw [Hst.ending_whole (by rw [he, lh])] at this
      rw [eh, this]
/-! ### By definition: all rules are gone through -/
def refNext (h : Hst.Host) (s : Nat × Nat) (r : Ru.Rule) : Nat × Nat :=
  if right r = true then
    (if r.kind = 2 ∧ Hst.under h ⟨1, r.name, Hst.nil16⟩ = true then max (if r.kind = 1 ∧ (Hst.under h ⟨1, r.name, Hst.nil16⟩ = true ∨ h = ⟨1, r.name, Hst.nil16⟩) then max s.1 (Oct.split 46 r.name).length else s.1) ((Oct.split 46 r.name).length + 1)
      else if r.kind = 1 ∧ (Hst.under h ⟨1, r.name, Hst.nil16⟩ = true ∨ h = ⟨1, r.name, Hst.nil16⟩) then max s.1 (Oct.split 46 r.name).length else s.1,
     if r.kind = 3 ∧ (Hst.under h ⟨1, r.name, Hst.nil16⟩ = true ∨ h = ⟨1, r.name, Hst.nil16⟩) then max s.2 ((Oct.split 46 r.name).length - 1) else s.2)
  else s
def refSuffix (rs : List Ru.Rule) (h : Hst.Host) : Nat := if Hst.labels h = [] then 0 else pick (rs.foldl (refNext h) (1, 0))
theorem ref_top {h : Hst.Host} (hl : Hst.labels h ≠ []) : ∀ (m : Nat) (rs : List Ru.Rule), rs.length = m →
    Top (Meets rs (Hst.labels h) 1) (Meets rs (Hst.labels h) 2) (Hst.labels h).length (rs.foldl (refNext h) (1, 0)).1 ∧ Spare (Meets rs (Hst.labels h) 3) (rs.foldl (refNext h) (1, 0)).2
  | 0, rs, hm => by
    have e : rs = [] := List.eq_nil_of_length_eq_zero hm
    subst e
    have hn : ∀ k c, ¬ Meets [] (Hst.labels h) k c := by
      rintro k c ⟨_, _, r, hr, _⟩
      cases hr
    exact ⟨⟨Nat.le_refl _, .inl rfl, fun c hc => absurd hc (hn _ _), fun c hc => absurd hc (hn _ _)⟩, ⟨.inl rfl, fun c hc => absurd hc (hn _ _)⟩⟩
  | m + 1, rs, hm => by
    rcases snoc_cases rs with rfl | ⟨rs, r, rfl⟩
    · cases hm
    · obtain ⟨ht, hs⟩ := ref_top hl m rs (by simpa using hm)
      rw [List.foldl_append]
      show Top _ _ _ (refNext h (rs.foldl (refNext h) (1, 0)) r).1 ∧ Spare _ (refNext h (rs.foldl (refNext h) (1, 0)) r).2
      generalize rs.foldl (refNext h) (1, 0) = s at *
      obtain ⟨p, s⟩ := s
      dsimp only at ht hs
      by_cases hr : Ru.Can r
      · obtain ⟨mu, me⟩ := rule_meets hl hr
        have hc1 : 1 ≤ (Oct.split 46 r.name).length := List.length_pos_iff.2 (Oct.split_ne 46 r.name)
        have plen : (path r).length = (Oct.split 46 r.name).length := by rw [path_can hr, List.length_reverse]
        have both : (Hst.under h ⟨1, r.name, Hst.nil16⟩ = true ∨ h = ⟨1, r.name, Hst.nil16⟩) ↔ ((Oct.split 46 r.name).length ≤ (Hst.labels h).length ∧ path r = (Hst.labels h).reverse.take (Oct.split 46 r.name).length) := by
          rw [mu, me]
          constructor
          · rintro (⟨a, b⟩ | ⟨a, b⟩)
            · exact ⟨by omega, b⟩
            · exact ⟨by omega, b⟩
          · rintro ⟨a, b⟩
            rcases Nat.lt_or_eq_of_le a with k | k
            · exact .inl ⟨k, b⟩
            · exact .inr ⟨k, b⟩
        have em : ∀ k c, Meets (rs ++ [r]) (Hst.labels h) k c ↔ (r.kind = k ∧ c = (Oct.split 46 r.name).length ∧ c ≤ (Hst.labels h).length ∧ path r = (Hst.labels h).reverse.take c) ∨ Meets rs (Hst.labels h) k c := by
          intro k c
          constructor
          · rintro ⟨a, b, x, hx, hc, hk, hp⟩
            rcases List.mem_append.1 hx with hx | hx
            · exact .inr ⟨a, b, x, hx, hc, hk, hp⟩
            · rw [List.mem_singleton] at hx
              subst hx
              refine .inl ⟨hk, ?_, b, hp⟩
              have := congrArg List.length hp
              rw [plen, List.length_take, List.length_reverse] at this
              omega
          · rintro (⟨hk, hc, b, hp⟩ | ⟨a, b, x, hx, hh⟩)
            · exact ⟨by omega, b, r, by simp, hr, hk, hp⟩
            · exact ⟨a, b, x, by simp [hx], hh⟩
        unfold refNext
        simp only [right_can.2 hr, if_true, both]
        simp only [mu]
        generalize (Oct.split 46 r.name).length = c at *
        have one := ht.one
        have kc := hr.kind
        refine ⟨⟨?_, ?_, ?_, ?_⟩, ⟨?_, ?_⟩⟩
        · split <;> split <;> omega
        · have old : p = 1 ∨ Meets (rs ++ [r]) (Hst.labels h) 1 p ∨ ∃ c, Meets (rs ++ [r]) (Hst.labels h) 2 c ∧ c < (Hst.labels h).length ∧ p = c + 1 := by
            rcases ht.is with e | e | ⟨c, hc, e⟩
            · exact .inl e
            · exact .inr (.inl ((em _ _).2 (.inr e)))
            · exact .inr (.inr ⟨c, (em _ _).2 (.inr hc), e⟩)
          have nm : ∀ q, q = (if r.kind = 1 ∧ c ≤ (Hst.labels h).length ∧ path r = (Hst.labels h).reverse.take c then max p c else p) → (q = 1 ∨ Meets (rs ++ [r]) (Hst.labels h) 1 q ∨ ∃ c, Meets (rs ++ [r]) (Hst.labels h) 2 c ∧ c < (Hst.labels h).length ∧ q = c + 1) := by
            intro q hq
            split at hq
            · rename_i hk
              rcases Nat.le_total p c with hle | hle
              · rw [Nat.max_eq_right hle] at hq
                subst hq
                exact .inr (.inl ((em _ _).2 (.inl ⟨hk.1, rfl, hk.2⟩)))
              · rw [Nat.max_eq_left hle] at hq
                rw [hq]; exact old
            · rw [hq]; exact old
          have nm1 := nm _ rfl
          generalize (if r.kind = 1 ∧ c ≤ (Hst.labels h).length ∧ path r = (Hst.labels h).reverse.take c then max p c else p) = q at *
          split
          · rename_i hk
            rcases Nat.le_total q (c + 1) with hle | hle
            · rw [Nat.max_eq_right hle]
              exact .inr (.inr ⟨c, (em _ _).2 (.inl ⟨hk.1, rfl, by omega, hk.2.2⟩), hk.2.1, rfl⟩)
            · rw [Nat.max_eq_left hle]; exact nm1
          · exact nm1
        · intro x hx
          rcases (em _ _).1 hx with ⟨hk, hc, hb⟩ | hx
          · subst hc
            rw [if_pos (c := r.kind = 1 ∧ _) ⟨hk, hb⟩]; split <;> omega
          · have := ht.name x hx
            split <;> split <;> omega
        · intro x hx hn
          rcases (em _ _).1 hx with ⟨hk, hc, hb⟩ | hx
          · subst hc
            rw [if_pos ⟨hk, hn, hb.2⟩]; omega
          · have := ht.wild x hx hn
            split <;> split <;> omega
        · split
          · rename_i hk
            rcases Nat.le_total s (c - 1) with hle | hle
            · rw [Nat.max_eq_right hle]
              exact .inr ((em _ _).2 (.inl ⟨hk.1, by omega, by rw [Nat.sub_add_cancel hc1]; exact hk.2⟩))
            · rw [Nat.max_eq_left hle]
              rcases hs.is with e | e
              · exact .inl e
              · exact .inr ((em _ _).2 (.inr e))
          · rcases hs.is with e | e
            · exact .inl e
            · exact .inr ((em _ _).2 (.inr e))
        · intro x hx
          rcases (em _ _).1 hx with ⟨hk, hc, hb⟩ | hx
          · subst hc
            rw [if_pos ⟨hk, hb⟩]; omega
          · have := hs.all x hx
            split <;> omega
      · have em : ∀ k, Meets (rs ++ [r]) (Hst.labels h) k = Meets rs (Hst.labels h) k := by
          intro k
          funext c
          refine propext ⟨?_, ?_⟩
          · rintro ⟨a, b, x, hx, hc, hh⟩
            rcases List.mem_append.1 hx with hx | hx
            · exact ⟨a, b, x, hx, hc, hh⟩
            · rw [List.mem_singleton] at hx
              exact absurd (hx ▸ hc) hr
          · rintro ⟨a, b, x, hx, hh⟩
            exact ⟨a, b, x, by simp [hx], hh⟩
        unfold refNext
        rw [if_neg (fun e => hr (right_can.1 e)), em, em, em]
        exact ⟨ht, hs⟩
theorem ref_suffix (rs : List Ru.Rule) (h : Hst.Host) : refSuffix rs h = suffix (new rs) h := by
  unfold refSuffix
  by_cases hl : Hst.labels h = []
  · rw [if_pos hl, suffix_none hl]
  · obtain ⟨h1, h2⟩ := ref_top hl _ rs rfl
    rw [if_neg hl, suffix_is hl h1 h2]
/-! ### Sites -/
theorem site_name {n : Nat} {h : Hst.Host} (hk : h.kind = 1) (hn : n < (Hst.labels h).length) : site n h = Hst.ending h.name (n + 1) ∧ (Hst.labels ⟨1, site n h, Hst.nil16⟩).length = n + 1 ∧ ((⟨1, site n h, Hst.nil16⟩ : Hst.Host) = h ∨ Hst.under h ⟨1, site n h, Hst.nil16⟩ = true) := by
  have hl : Hst.labels h ≠ [] := by intro e; rw [e] at hn; simp at hn
  have e : site n h = Hst.ending h.name (n + 1) := by
    unfold site
    rw [if_pos hk]
    have := Hst.tail_ending (h := h) (k := n + 1) (by omega) (by omega)
    rw [show ((n + 1 : Nat) : Int) = (n : Int) + 1 by omega] at this
    rw [this]
  refine ⟨e, ?_, ?_⟩
  · rw [e, Hst.end_labels hl (by omega) (by omega), List.length_drop]; omega
  · rw [e, Hst.under_top hl (by omega) (by omega)]
    rcases Nat.lt_or_eq_of_le (Nat.succ_le_of_lt hn) with k | k
    · exact .inr (decide_eq_true k)
    · left
      rw [show n + 1 = (Hst.labels h).length from k]
      exact Hst.end_all hl
theorem site_public {n : Nat} {h : Hst.Host} (hk : h.kind = 1) (hn : (Hst.labels h).length ≤ n) : site n h = [] := by
  unfold site
  rw [if_pos hk, Hst.tail_none (by omega)]
end Sx
end Go.Proofs.YtnlhniaoaciopaaGreatDoor
