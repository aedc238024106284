/- Plain functions on cookies and requests, and plain lemmas on them. No program is named here. -/
import Derived.Test.YtdfcnodlddeccaaPlains
namespace Go.Proofs.Ytdfcnodlddeccaa
namespace Ma
structure Cookie where
  name : List UInt8
  value : List UInt8
  host : Hst.Host
  only : Bool
  path : List UInt8
  secure : Bool
  http : Bool
  same : Int
  expires : Int
  born : Int
  used : Int
  seq : Int
  deriving DecidableEq
structure Request where
  secure : Bool
  host : Hst.Host
  path : List UInt8
  cross : Int
  deriving DecidableEq
def domain (h d : Hst.Host) : Bool := Hst.can h && Hst.can d && (decide (h = d) || Hst.under h d)
/-- Is what stands behind the piece a slash, or what stands ahead? -/
def edge (p f : List UInt8) : Bool := decide (p[f.length]? = some 47) || decide (f.getLast? = some 47)
def path (p f : List UInt8) : Bool := decide (p = f) || (decide (f.length < p.length) && decide (p.take f.length = f) && edge p f)
theorem path_iff (p f : List UInt8) : path p f = true ↔ p = f ∨ ∃ c r, p = f ++ c :: r ∧ (c = 47 ∨ f.getLast? = some 47) := by
  unfold path edge
  simp only [Bool.or_eq_true, Bool.and_eq_true, decide_eq_true_eq]
  constructor
  · rintro (h | ⟨⟨h1, h2⟩, h3⟩)
    · exact .inl h
    · right
      have e : p = f ++ p.drop f.length := by
        have := List.take_append_drop f.length p
        rw [h2] at this; exact this.symm
      cases ed : p.drop f.length with
      | nil =>
        have := congrArg List.length ed
        rw [List.length_drop, List.length_nil] at this
        omega
      | cons c r =>
        rw [ed] at e
        refine ⟨c, r, e, h3.imp (fun k => ?_) id⟩
        rw [e, List.getElem?_append_right (Nat.le_refl _), Nat.sub_self] at k
        exact Option.some.inj k
  · rintro (h | ⟨c, r, rfl, h3⟩)
    · exact .inl h
    · right
      refine ⟨⟨by rw [List.length_append, List.length_cons]; omega, List.take_left⟩, h3.imp (fun k => ?_) id⟩
      rw [List.getElem?_append_right (Nat.le_refl _), Nat.sub_self, k]; rfl
theorem path_self (p : List UInt8) : path p p = true := (path_iff p p).2 (.inl rfl)
/-- What belongs to that which belongs to something belongs to it. -/
theorem path_trans {a b c : List UInt8} (h1 : path a b = true) (h2 : path b c = true) : path a c = true := by
  rw [path_iff] at *
  rcases h1 with rfl | ⟨x, r, rfl, h1⟩
  · exact h2
  · rcases h2 with rfl | ⟨y, q, rfl, h2⟩
    · exact .inr ⟨x, r, rfl, h1⟩
    · exact .inr ⟨y, q ++ x :: r, by rw [List.append_assoc, List.cons_append], h2⟩
/-! ### The default -/
/-- What stands ahead of the last slash. -/
def cutLast (p : List UInt8) : List UInt8 := ((p.reverse.dropWhile (fun c => decide (c ≠ 47))).drop 1).reverse
def default (p : List UInt8) : List UInt8 := if p.head? = some 47 ∧ cutLast p ≠ [] then cutLast p else [47]
theorem drop_slash : ∀ {l : List UInt8}, (47 : UInt8) ∈ l → ∃ a r, l = a ++ 47 :: r ∧ (∀ c ∈ a, c ≠ 47) ∧ l.dropWhile (fun c => decide (c ≠ 47)) = 47 :: r
  | [], h => by cases h
  | x :: l, h => by
    by_cases k : x = 47
    · subst k
      exact ⟨[], l, rfl, (by intro c hc; cases hc), by rw [List.dropWhile_cons_of_neg (by simp)]⟩
    · obtain ⟨a, r, h1, h2, h3⟩ := drop_slash (l := l) ((List.mem_cons.1 h).resolve_left (fun e => k e.symm))
      refine ⟨x :: a, r, by rw [h1]; rfl, ?_, by rw [List.dropWhile_cons_of_pos (by simp [k])]; exact h3⟩
      intro c hc
      rcases List.mem_cons.1 hc with e | e
      · rw [e]; exact k
      · exact h2 c e
/-- Around the last slash. -/
theorem cutLast_spec {p : List UInt8} (h : (47 : UInt8) ∈ p) : ∃ r, p = cutLast p ++ 47 :: r ∧ ∀ c ∈ r, c ≠ 47 := by
  obtain ⟨a, r, h1, h2, h3⟩ := drop_slash (l := p.reverse) (List.mem_reverse.2 h)
  refine ⟨a.reverse, ?_, fun c hc => h2 c (List.mem_reverse.1 hc)⟩
  unfold cutLast
  rw [h3, List.drop_one, List.tail_cons]
  have e := congrArg List.reverse h1
  rw [List.reverse_reverse] at e
  rw [e]; simp
theorem cutLast_of {a r : List UInt8} (h : ∀ c ∈ r, c ≠ 47) : cutLast (a ++ 47 :: r) = a := by
  unfold cutLast
  rw [List.reverse_append, List.reverse_cons, List.append_assoc, List.dropWhile_append_of_pos (fun c hc => by simp [h c (List.mem_reverse.1 hc)])]
  simp
theorem default_head (p : List UInt8) : (default p).head? = some 47 := by
  unfold default
  split
  · rename_i h
    obtain ⟨h1, h2⟩ := h
    obtain ⟨r, e, _⟩ := cutLast_spec (p := p) (List.mem_of_mem_head? h1)
    cases ec : cutLast p with
    | nil => exact absurd ec h2
    | cons x q => rw [e, ec, List.cons_append] at h1; exact h1
  · rfl
theorem default_le {p : List UInt8} (h : p.head? = some 47) : (default p).length ≤ p.length := by
  unfold default
  split
  · obtain ⟨r, e, _⟩ := cutLast_spec (p := p) (List.mem_of_mem_head? h)
    have := congrArg List.length e
    rw [List.length_append, List.length_cons] at this
    omega
  · cases p with
    | nil => cases h
    | cons x q => simp
/-- A path belongs to its own default. -/
theorem path_default {p : List UInt8} (h : p.head? = some 47) : path p (default p) = true := by
  rw [path_iff]
  unfold default
  split
  · obtain ⟨r, e, _⟩ := cutLast_spec (p := p) (List.mem_of_mem_head? h)
    exact .inr ⟨47, r, e, .inl rfl⟩
  · cases p with
    | nil => cases h
    | cons x q =>
      have ex : x = 47 := Option.some.inj h
      subst ex
      cases q with
      | nil => exact .inl rfl
      | cons c r => exact .inr ⟨c, r, rfl, .inr rfl⟩
/-! ### Which requests -/
def crossed (same cross : Int) : Bool := decide (cross = 0) || (decide (cross = 1) && !decide (same = 3)) || (decide (cross = 2) && decide (same = 1))
def sends (c : Cookie) (r : Request) (now : Int) : Bool :=
  ((decide (r.host = c.host) && Hst.can r.host) || (!c.only && domain r.host c.host)) && path r.path c.path && (!c.secure || r.secure) && crossed c.same r.cross && decide (now < c.expires)
theorem domain_self (h : Hst.Host) : domain h h = Hst.can h := by
  unfold domain
  rw [decide_eq_true (show h = h from rfl)]
  cases Hst.can h <;> rfl
theorem domain_can {h d : Hst.Host} (k : domain h d = true) : Hst.can h = true := by
  unfold domain at k
  simp only [Bool.and_eq_true] at k
  exact k.1.1
/-- As the plain answer asks it. -/
theorem sends_iff (c : Cookie) (r : Request) (now : Int) : sends c r now = true ↔
    (c.only = true → c.host = r.host) ∧ domain r.host c.host = true ∧ path r.path c.path = true ∧ (c.secure = true → r.secure = true) ∧ now < c.expires ∧ crossed c.same r.cross = true := by
  unfold sends
  simp only [Bool.and_eq_true, Bool.or_eq_true, decide_eq_true_eq, Bool.not_eq_true']
  constructor
  · rintro ⟨⟨⟨⟨h1, h2⟩, h3⟩, h4⟩, h5⟩
    refine ⟨?_, ?_, h2, ?_, h5, h4⟩
    · intro ho
      rcases h1 with ⟨e, _⟩ | ⟨e, _⟩
      · exact e.symm
      · rw [ho] at e; cases e
    · rcases h1 with ⟨e, k⟩ | ⟨_, k⟩
      · rw [e, domain_self, ← e]; exact k
      · exact k
    · intro hs
      rcases h3 with e | e
      · rw [hs] at e; cases e
      · exact e
  · rintro ⟨h1, h2, h3, h4, h5, h6⟩
    refine ⟨⟨⟨⟨?_, h3⟩, ?_⟩, h6⟩, h5⟩
    · cases ho : c.only with
      | true => exact .inl ⟨(h1 ho).symm, domain_can h2⟩
      | false => exact .inr ⟨rfl, h2⟩
    · cases hs : c.secure with
      | true => exact .inr (h4 hs)
      | false => exact .inl rfl
/-- A request that is safer, nearer and earlier. -/
theorem sends_near {c : Cookie} {r : Request} {now early : Int} (h : sends c r now = true) (he : early ≤ now) : sends c { r with secure := true, cross := 0 } early = true := by
  rw [sends_iff] at *
  obtain ⟨h1, h2, h3, h4, h5, h6⟩ := h
  exact ⟨h1, h2, h3, fun _ => rfl, by omega, rfl⟩
/-- A cookie that is wider. -/
theorem sends_wide {c : Cookie} {r : Request} {now : Int} (h : sends c r now = true) : sends { c with only := false, secure := false, same := 1 } r now = true := by
  rw [sends_iff] at *
  obtain ⟨h1, h2, h3, h4, h5, h6⟩ := h
  refine ⟨fun k => (by cases k), h2, h3, fun k => (by cases k), h5, ?_⟩
  unfold crossed at h6 ⊢
  simp only [Bool.or_eq_true, Bool.and_eq_true, decide_eq_true_eq, Bool.not_eq_true'] at h6 ⊢
  rcases h6 with (k | k) | k
  · exact .inl (.inl k)
  · exact .inl (.inr ⟨k.1, decide_eq_false (by decide)⟩)
  · exact .inr ⟨k.1, by trivial⟩
theorem sends_host {c : Cookie} {r : Request} {now : Int} (h : sends c r now = true) : (c.only = true → c.host = r.host) ∧ Hst.can r.host = true := by
  rw [sends_iff] at h
  exact ⟨h.1, domain_can h.2.1⟩
/-! ### Places, and who goes ahead -/
def key (a b : Cookie) : Bool := decide (a.name = b.name) && decide (a.host = b.host) && decide (a.only = b.only) && decide (a.path = b.path)
def goes (a b : Cookie) : Bool := decide (b.path.length < a.path.length) || (decide (a.path.length = b.path.length) && decide (a.seq < b.seq))
theorem key_self (a : Cookie) : key a a = true := by unfold key; simp
theorem goes_once (a b : Cookie) : ¬ (goes a b = true ∧ goes b a = true) := by
  unfold goes
  simp only [Bool.or_eq_true, Bool.and_eq_true, decide_eq_true_eq]
  omega
theorem goes_self (a : Cookie) : goes a a = false := by
  cases k : goes a a with
  | false => rfl
  | true => exact absurd ⟨k, k⟩ (goes_once a a)
end Ma
end Go.Proofs.Ytdfcnodlddeccaa
