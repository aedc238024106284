/- Plain functions on what a Set-Cookie header says, and plain lemmas on them. No program is named here. -/
import Derived.Test.YtpimaobejjpffaaGreatDoorPlains
import Derived.Test.YtpimaobejjpffaaGreatDoorDates
import Derived.Lib.SlTrimSet
namespace Go.Proofs.YtpimaobejjpffaaGreatDoor
namespace Hd
open Oct
/-- May a byte not stand in a header? -/
def badB (c : UInt8) : Bool := decide (c.toNat ≤ 8 ∨ (10 ≤ c.toNat ∧ c.toNat ≤ 31) ∨ c.toNat = 127)
def otherB (c : UInt8) : Bool := decide (c ≠ 61)
structure Head where
  name : List UInt8
  value : List UInt8
  domain : List UInt8
  path : List UInt8
  exp : Option Int
  age : Option Nat
  secure : Bool
  only : Bool
  same : Nat
def zero : Head := ⟨[], [], [], [], none, none, false, false, 0⟩
/-- What stands ahead of the first sign, and what stands behind it. -/
def ahead (l : List UInt8) : List UInt8 := trim (l.takeWhile otherB)
def behind (l : List UInt8) : List UInt8 := trim ((l.dropWhile otherB).drop 1)
def pair (l : List UInt8) : List UInt8 × List UInt8 := if 61 ∈ l then (ahead l, behind l) else ([], trim l)
def ageOf (v : List UInt8) : Option Nat := if v.head? = some 45 then (if digits (v.drop 1) = true then some 0 else none) else if digits v = true then some (min (numOf v) 34560000) else none
def undot (v : List UInt8) : List UInt8 := if v.head? = some 46 then v.drop 1 else v
def sNone : List UInt8 := [110, 111, 110, 101]
def sLax : List UInt8 := [108, 97, 120]
def sStrict : List UInt8 := [115, 116, 114, 105, 99, 116]
def sameOf (v : List UInt8) : Nat := if v = sNone then 1 else if v = sLax then 2 else if v = sStrict then 3 else 0
def kExp : List UInt8 := [101, 120, 112, 105, 114, 101, 115]
def kAge : List UInt8 := [109, 97, 120, 45, 97, 103, 101]
def kDom : List UInt8 := [100, 111, 109, 97, 105, 110]
def kPath : List UInt8 := [112, 97, 116, 104]
def kSec : List UInt8 := [115, 101, 99, 117, 114, 101]
def kOnly : List UInt8 := [104, 116, 116, 112, 111, 110, 108, 121]
def kSite : List UInt8 := [115, 97, 109, 101, 115, 105, 116, 101]
/-- A key in small letters with its value. -/
def put (h : Head) (k v : List UInt8) : Head :=
  if 1024 < v.length then h
  else if k = kExp then (if (Dt.cookie v).2 = true then { h with exp := some (Dt.cookie v).1 } else h)
  else if k = kAge then (match ageOf v with | some n => { h with age := some n } | none => h)
  else if k = kDom then { h with domain := undot (v.map low) }
  else if k = kPath then { h with path := if v.head? = some 47 then v else [] }
  else if k = kSec then { h with secure := true }
  else if k = kOnly then { h with only := true }
  else if k = kSite then { h with same := sameOf (v.map low) }
  else h
def attr (h : Head) (l : List UInt8) : Head := put h ((ahead l).map low) (behind l)
def start (p : List UInt8) : Head := { zero with name := (pair p).1, value := (pair p).2 }
/-- What the pieces of a header say: the error's number, and the header. -/
def said (ps : List (List UInt8)) : Int × Head :=
  match ps with
  | p :: r => if (pair p).1 = [] ∧ (pair p).2 = [] then (82, zero) else if 4096 < (pair p).1.length + (pair p).2.length then (83, zero) else (0, r.foldl attr (start p))
  | [] => (82, zero)
def parse (s : List UInt8) : Int × Head := if s.any badB = true then (81, zero) else said (split 59 s)
/-! ### Texts without blanks at their ends -/
structure Trimmed (l : List UInt8) : Prop where
  left : ∀ c, l.head? = some c → blankB c = false
  right : ∀ c, l.getLast? = some c → blankB c = false
theorem dropWhile_same {l : List UInt8} (h : ∀ c, l.head? = some c → blankB c = false) : l.dropWhile blankB = l := by
  cases l with
  | nil => rfl
  | cons c r => rw [List.dropWhile_cons_of_neg (by rw [h c rfl]; simp)]
theorem dropWhile_head : ∀ (l : List UInt8) (c : UInt8), (l.dropWhile blankB).head? = some c → blankB c = false
  | [], c, h => by cases h
  | x :: r, c, h => by
    cases hx : blankB x with
    | true => rw [List.dropWhile_cons_of_pos hx] at h; exact dropWhile_head r c h
    | false =>
      rw [List.dropWhile_cons_of_neg (by rw [hx]; simp)] at h
      have e : x = c := Option.some.inj h
      rw [← e]; exact hx
theorem chopEnd_same {l : List UInt8} (h : ∀ c, l.getLast? = some c → blankB c = false) : chopEnd l = l := by
  unfold chopEnd
  rw [dropWhile_same (fun c hc => h c (by rw [List.head?_reverse] at hc; exact hc)), List.reverse_reverse]
theorem chopEnd_last (l : List UInt8) (c : UInt8) (h : (chopEnd l).getLast? = some c) : blankB c = false := by
  unfold chopEnd at h
  rw [List.getLast?_reverse] at h
  exact dropWhile_head _ c h
theorem chopEnd_prefix (l : List UInt8) : chopEnd l <+: l := by
  unfold chopEnd
  have := (List.dropWhile_suffix blankB (l := l.reverse))
  rw [← List.reverse_prefix] at this
  rw [List.reverse_reverse] at this
  exact this
theorem trim_trimmed (l : List UInt8) : Trimmed (trim l) := by
  refine ⟨?_, fun c h => chopEnd_last _ c h⟩
  intro c h
  unfold trim at h
  obtain ⟨m, hm⟩ := chopEnd_prefix (l.dropWhile blankB)
  refine dropWhile_head l c ?_
  rw [← hm]
  cases e : chopEnd (l.dropWhile blankB) with
  | nil => rw [e] at h; cases h
  | cons x r => rw [e] at h; rw [List.cons_append]; exact h
theorem trim_same {l : List UInt8} (h : Trimmed l) : trim l = l := by
  unfold trim
  rw [dropWhile_same h.left, chopEnd_same h.right]
theorem trim_mem {l : List UInt8} {c : UInt8} (h : c ∈ trim l) : c ∈ l := by
  unfold trim at h
  exact (List.dropWhile_suffix _).mem ((chopEnd_prefix _).mem h)
theorem trimmed_nil : Trimmed [] := ⟨fun _ h => (by cases h), fun _ h => (by cases h)⟩
theorem trim_blank {c : UInt8} (h : blankB c = true) (l : List UInt8) : trim (c :: l) = trim l := by
  unfold trim
  rw [List.dropWhile_cons_of_pos h]
/-! ### What stands ahead of the sign, and behind -/
theorem otherB_eq (c : UInt8) : otherB c = true ↔ c ≠ 61 := decide_eq_true_iff
theorem takeWhile_sign : ∀ {a : List UInt8}, (∀ c ∈ a, c ≠ 61) → ∀ v, (a ++ 61 :: v).takeWhile otherB = a ∧ (a ++ 61 :: v).dropWhile otherB = 61 :: v
  | [], _, v => ⟨by rw [List.nil_append, List.takeWhile_cons_of_neg (by decide)], by rw [List.nil_append, List.dropWhile_cons_of_neg (by decide)]⟩
  | x :: a, h, v => by
    have hx : otherB x = true := (otherB_eq x).2 (h x (by simp))
    obtain ⟨h1, h2⟩ := takeWhile_sign (a := a) (fun c hc => h c (by simp [hc])) v
    rw [List.cons_append, List.takeWhile_cons_of_pos hx, List.dropWhile_cons_of_pos hx, h1, h2]
    exact ⟨rfl, rfl⟩
theorem takeWhile_none : ∀ {a : List UInt8}, (∀ c ∈ a, c ≠ 61) → a.takeWhile otherB = a ∧ a.dropWhile otherB = []
  | [], _ => ⟨rfl, rfl⟩
  | x :: a, h => by
    have hx : otherB x = true := (otherB_eq x).2 (h x (by simp))
    obtain ⟨h1, h2⟩ := takeWhile_none (a := a) (fun c hc => h c (by simp [hc]))
    rw [List.takeWhile_cons_of_pos hx, List.dropWhile_cons_of_pos hx, h1, h2]
    exact ⟨rfl, rfl⟩
theorem takeWhile_no : ∀ (l : List UInt8), ∀ c ∈ l.takeWhile otherB, c ≠ 61
  | [], c, h => by cases h
  | x :: r, c, h => by
    cases hx : otherB x with
    | true =>
      rw [List.takeWhile_cons_of_pos hx] at h
      rcases List.mem_cons.1 h with e | e
      · rw [e]; exact (otherB_eq x).1 hx
      · exact takeWhile_no r c e
    | false => rw [List.takeWhile_cons_of_neg (by rw [hx]; simp)] at h; cases h
theorem ahead_sign {a : List UInt8} (h : ∀ c ∈ a, c ≠ 61) (v : List UInt8) : ahead (a ++ 61 :: v) = trim a ∧ behind (a ++ 61 :: v) = trim v := by
  obtain ⟨h1, h2⟩ := takeWhile_sign h v
  unfold ahead behind
  rw [h1, h2]
  exact ⟨rfl, rfl⟩
theorem ahead_none {a : List UInt8} (h : ∀ c ∈ a, c ≠ 61) : ahead a = trim a ∧ behind a = [] := by
  obtain ⟨h1, h2⟩ := takeWhile_none h
  unfold ahead behind
  rw [h1, h2]
  exact ⟨rfl, rfl⟩
theorem ahead_mem {l : List UInt8} {c : UInt8} (h : c ∈ ahead l) : c ∈ l ∧ c ≠ 61 := by
  unfold ahead at h
  have := trim_mem h
  exact ⟨(List.takeWhile_prefix _).mem this, takeWhile_no l c this⟩
theorem behind_mem {l : List UInt8} {c : UInt8} (h : c ∈ behind l) : c ∈ l := by
  unfold behind at h
  exact (List.dropWhile_suffix _).mem (List.mem_of_mem_drop (trim_mem h))
/-! ### Pieces -/
theorem split_mem (a : UInt8) : ∀ (l : List UInt8) (p : List UInt8), p ∈ split a l → ∀ c ∈ p, c ∈ l ∧ c ≠ a
  | [], p, hp, c, hc => by
    rw [show split a [] = [[]] from rfl, List.mem_singleton] at hp
    subst hp; cases hc
  | x :: r, p, hp, c, hc => by
    have ih := split_mem a r
    rw [split_step] at hp
    split at hp
    · rcases List.mem_cons.1 hp with e | e
      · subst e; cases hc
      · exact ⟨List.mem_cons_of_mem _ (ih p e c hc).1, (ih p e c hc).2⟩
    · rename_i hx
      split at hp
      · rename_i e
        exact absurd e (split_ne a r)
      · rename_i q qs e
        rcases List.mem_cons.1 hp with e2 | e2
        · subst e2
          rcases List.mem_cons.1 hc with e3 | e3
          · subst e3; exact ⟨List.mem_cons_self, hx⟩
          · have := ih q (by rw [e]; exact List.mem_cons_self) c e3
            exact ⟨List.mem_cons_of_mem _ this.1, this.2⟩
        · have := ih p (by rw [e]; exact List.mem_cons_of_mem _ e2) c hc
          exact ⟨List.mem_cons_of_mem _ this.1, this.2⟩
theorem split_app (a : UInt8) (r : List UInt8) : ∀ l : List UInt8, split a (l ++ a :: r) = split a l ++ split a r
  | [] => by rw [List.nil_append, split_step, if_pos rfl]; rfl
  | x :: l => by
    have ih := split_app a r l
    rw [List.cons_append, split_step, split_step, ih]
    split
    · rfl
    · cases e : split a l with
      | nil => exact absurd e (split_ne a l)
      | cons q qs => rfl
theorem said_more {ps qs : List (List UInt8)} {h : Head} (hp : said ps = (0, h)) : said (ps ++ qs) = (0, qs.foldl attr h) := by
  cases ps with
  | nil => cases congrArg Prod.fst hp
  | cons p r =>
    unfold said at hp ⊢
    rw [List.cons_append]
    dsimp only at hp ⊢
    split at hp
    · cases congrArg Prod.fst hp
    · rename_i h1
      split at hp
      · cases congrArg Prod.fst hp
      · rename_i h2
        rw [if_neg h1, if_neg h2, List.foldl_append]
        have e : r.foldl attr (start p) = h := congrArg Prod.snd hp
        rw [e]
theorem parse_zero {s : List UInt8} {h : Head} : parse s = (0, h) ↔ s.any badB = false ∧ said (split 59 s) = (0, h) := by
  unfold parse
  constructor
  · intro hp
    split at hp
    · cases congrArg Prod.fst hp
    · rename_i k
      exact ⟨by simpa using k, hp⟩
  · intro ⟨h1, h2⟩
    rw [if_neg (by rw [h1]; simp), h2]
/-- More behind a header. -/
theorem parse_more {s r : List UInt8} {h : Head} (hp : parse s = (0, h)) (hr : r.any badB = false) : parse (s ++ 59 :: r) = (0, (split 59 r).foldl attr h) := by
  obtain ⟨h1, h2⟩ := parse_zero.1 hp
  refine parse_zero.2 ⟨?_, ?_⟩
  · rw [List.any_append, List.any_cons, h1, hr]; rfl
  · rw [split_app]; exact said_more h2
theorem said_error {ps : List (List UInt8)} (h : (said ps).1 ≠ 0) : (said ps).2 = zero := by
  unfold said at h ⊢
  split
  · dsimp only at h ⊢
    split
    · rfl
    · rename_i k
      rw [if_neg k] at h
      split
      · rfl
      · rename_i k2; rw [if_neg k2] at h; exact absurd rfl h
  · rfl
theorem parse_error {s : List UInt8} (h : (parse s).1 ≠ 0) : (parse s).2 = zero := by
  unfold parse at h ⊢
  split
  · rfl
  · rename_i k
    rw [if_neg k] at h
    exact said_error h
/-! ### What a header that was read is -/
def fineB (c : UInt8) : Bool := !badB c && decide (c ≠ 59)
theorem fineB_eq {c : UInt8} : fineB c = true ↔ badB c = false ∧ c ≠ 59 := by
  unfold fineB
  rw [Bool.and_eq_true, Bool.not_eq_true', decide_eq_true_iff]
theorem low_facts : ∀ c : UInt8, fineB c = true → fineB (low c) = true := by
  intro c
  by_cases k : 65 ≤ c.toNat ∧ c.toNat ≤ 90
  · intro _
    have e : (low c).toNat = c.toNat + 32 := by rw [low_toNat, if_pos k]
    refine fineB_eq.2 ⟨?_, ?_⟩
    · unfold badB; exact decide_eq_false (by omega)
    · intro h
      rw [h] at e
      have : (59 : UInt8).toNat = 59 := rfl
      omega
  · intro h
    have e : low c = c := by unfold low; rw [if_neg k]
    rw [e]; exact h
theorem low_blank (c : UInt8) : blankB (low c) = blankB c := by
  by_cases k : 65 ≤ c.toNat ∧ c.toNat ≤ 90
  · have e : (low c).toNat = c.toNat + 32 := by rw [low_toNat, if_pos k]
    unfold blankB
    rw [decide_eq_decide]
    omega
  · have e : low c = c := by unfold low; rw [if_neg k]
    rw [e]
/-- Would the first byte of a domain be lost? -/
def dotB (l : List UInt8) : Bool := decide (l.head? = some 46 ∨ l.head? = some 32 ∨ l.head? = some 9)
structure Good (h : Head) : Prop where
  name : Trimmed h.name
  nameB : ∀ c ∈ h.name, fineB c = true
  sign : ∀ c ∈ h.name, c ≠ 61
  value : Trimmed h.value
  valueB : ∀ c ∈ h.value, fineB c = true
  some_ : ¬ (h.name = [] ∧ h.value = [])
  few : h.name.length + h.value.length ≤ 4096
  domB : ∀ c ∈ h.domain, fineB c = true
  domL : h.domain.map low = h.domain
  domR : ∀ c, h.domain.getLast? = some c → blankB c = false
  domN : h.domain.length + (if dotB h.domain = true then 1 else 0) ≤ 1024
  pathB : ∀ c ∈ h.path, fineB c = true
  pathH : h.path = [] ∨ h.path.head? = some 47
  pathR : ∀ c, h.path.getLast? = some c → blankB c = false
  pathN : h.path.length ≤ 1024
  exp : ∀ n, h.exp = some n → ∃ t, Dt.civil (n / 86400) = some t
  age : ∀ n, h.age = some n → n ≤ 34560000
  same : h.same ≤ 3
theorem cookie_civil {v : List UInt8} (h : (Dt.cookie v).2 = true) : ∃ t, Dt.civil ((Dt.cookie v).1 / 86400) = some t := by
  unfold Dt.cookie at h ⊢
  unfold Dt.moment at h ⊢
  split at h
  · rename_i a b c d m y e1 e2 e3 e4
    split at h
    · rename_i k
      rw [if_pos k]
      refine ⟨_, Dt.civil_some.2 ⟨k.1, ?_⟩⟩
      obtain ⟨_, k1, k2, k3⟩ := k
      have : ((a * 3600 + (b * 60 + c) : Nat) : Int) < 86400 := by omega
      simp only
      omega
    · cases h
  · cases h
theorem undot_cases (v : List UInt8) : (∃ r, v = 46 :: r ∧ undot v = r) ∨ (v.head? ≠ some 46 ∧ undot v = v) := by
  unfold undot
  split
  · rename_i h
    cases v with
    | nil => cases h
    | cons x r =>
      left
      have e : x = 46 := Option.some.inj h
      exact ⟨r, by rw [e], rfl⟩
  · rename_i h; exact .inr ⟨h, rfl⟩
theorem map_low_trimmed {v : List UInt8} (h : Trimmed v) : Trimmed (v.map low) := by
  refine ⟨?_, ?_⟩
  · intro c hc
    rw [List.head?_map] at hc
    obtain ⟨x, hx, rfl⟩ := Option.map_eq_some_iff.1 hc
    rw [low_blank]; exact h.left x hx
  · intro c hc
    rw [List.getLast?_map] at hc
    obtain ⟨x, hx, rfl⟩ := Option.map_eq_some_iff.1 hc
    rw [low_blank]; exact h.right x hx
theorem low_low' (v : List UInt8) : (v.map low).map low = v.map low := Hst.map_low_low v
theorem ageOf_le {v : List UInt8} {n : Nat} (h : ageOf v = some n) : n ≤ 34560000 := by
  unfold ageOf at h
  split at h
  · split at h
    · cases h; omega
    · cases h
  · split at h
    · have e := Option.some.inj h
      omega
    · cases h
theorem sameOf_le (v : List UInt8) : sameOf v ≤ 3 := by unfold sameOf; split <;> (try split) <;> (try split) <;> omega
/-- An attribute keeps it. -/
theorem good_put {h : Head} (hg : Good h) {k v : List UInt8} (hv : Trimmed v) (hb : ∀ c ∈ v, fineB c = true) : Good (put h k v) := by
  unfold put
  split
  · exact hg
  rename_i hl
  split
  · split
    · rename_i hc
      exact { hg with
        exp := fun n hn => by
          have e := Option.some.inj hn
          rw [← e]; exact cookie_civil hc }
    · exact hg
  split
  · split
    · rename_i n hn
      exact { hg with
        age := fun m hm => by
          have e := Option.some.inj hm
          rw [← e]; exact ageOf_le hn }
    · exact hg
  split
  · have ht := map_low_trimmed hv
    have hbl : ∀ c ∈ v.map low, fineB c = true := by
      intro c hc
      obtain ⟨x, hx, rfl⟩ := List.mem_map.1 hc
      exact low_facts x (hb x hx)
    have hlow := low_low' v
    have hlen : (v.map low).length ≤ 1024 := by rw [List.length_map]; omega
    generalize v.map low = u at *
    rcases undot_cases u with ⟨r, e1, e2⟩ | ⟨e1, e2⟩
    · rw [e2]
      subst e1
      exact { hg with
        domB := fun c hc => hbl c (by simp [hc])
        domL := by rw [List.map_cons] at hlow; exact (List.cons.inj hlow).2
        domR := fun c hc => ht.right c (by
          cases r with
          | nil => cases hc
          | cons x q => rw [List.getLast?_cons_cons]; exact hc)
        domN := by
          show r.length + _ ≤ 1024
          rw [List.length_cons] at hlen
          split <;> omega }
    · rw [e2]
      exact { hg with
        domB := hbl
        domL := hlow
        domR := ht.right
        domN := by
          show u.length + _ ≤ 1024
          rw [if_neg ?_]
          · omega
          · intro hd
            unfold dotB at hd
            rcases of_decide_eq_true hd with a | a | a
            · exact e1 a
            · exact absurd (ht.left _ a) (by decide)
            · exact absurd (ht.left _ a) (by decide) }
  split
  · split
    · rename_i hp
      exact { hg with pathB := hb, pathH := .inr hp, pathR := hv.right, pathN := by show v.length ≤ 1024; omega }
    · exact { hg with pathB := (fun _ hc => by cases hc), pathH := .inl rfl, pathR := (fun _ hc => by cases hc), pathN := (by show (0 : Nat) ≤ 1024; omega) }
  split
  · exact { hg with }
  split
  · exact { hg with }
  split
  · exact { hg with same := sameOf_le _ }
  · exact hg
theorem good_attr {h : Head} (hg : Good h) {p : List UInt8} (hp : ∀ c ∈ p, fineB c = true) : Good (attr h p) :=
  good_put hg (trim_trimmed _) (fun c hc => hp c (behind_mem hc))
theorem good_fold : ∀ {r : List (List UInt8)} {h : Head}, Good h → (∀ p ∈ r, ∀ c ∈ p, fineB c = true) → Good (r.foldl attr h)
  | [], h, hg, _ => hg
  | p :: r, h, hg, hp => good_fold (r := r) (good_attr hg (hp p (by simp))) (fun q hq => hp q (by simp [hq]))
theorem pair_facts (p : List UInt8) : Trimmed (pair p).1 ∧ Trimmed (pair p).2 ∧ (∀ c ∈ (pair p).1, c ∈ p ∧ c ≠ 61) ∧ (∀ c ∈ (pair p).2, c ∈ p) := by
  unfold pair
  split
  · exact ⟨trim_trimmed _, trim_trimmed _, fun c hc => ahead_mem hc, fun c hc => behind_mem hc⟩
  · exact ⟨trimmed_nil, trim_trimmed _, fun c hc => (by cases hc), fun c hc => trim_mem hc⟩
theorem good_start {p : List UInt8} (hb : ∀ c ∈ p, fineB c = true) (h1 : ¬ ((pair p).1 = [] ∧ (pair p).2 = [])) (h2 : ¬ 4096 < (pair p).1.length + (pair p).2.length) : Good (start p) := by
  obtain ⟨p1, p2, p3, p4⟩ := pair_facts p
  exact {
    name := p1, nameB := fun c hc => hb c (p3 c hc).1, sign := fun c hc => (p3 c hc).2, value := p2, valueB := fun c hc => hb c (p4 c hc), some_ := h1
    few := by show (pair p).1.length + (pair p).2.length ≤ 4096; omega
    domB := fun _ hc => by cases hc
    domL := rfl
    domR := fun _ hc => by cases hc
    domN := by show 0 + _ ≤ 1024; split <;> omega
    pathB := fun _ hc => by cases hc
    pathH := .inl rfl
    pathR := fun _ hc => by cases hc
    pathN := by show (0 : Nat) ≤ 1024; omega
    exp := fun _ hc => by cases hc
    age := fun _ hc => by cases hc
    same := by show (0 : Nat) ≤ 3; omega }
/-- What is read is good. -/
theorem parse_good {s : List UInt8} {h : Head} (hp : parse s = (0, h)) : Good h := by
  obtain ⟨h1, h2⟩ := parse_zero.1 hp
  have hb : ∀ p ∈ split 59 s, ∀ c ∈ p, fineB c = true := by
    intro p hp c hc
    obtain ⟨m1, m2⟩ := split_mem 59 s p hp c hc
    refine fineB_eq.2 ⟨?_, m2⟩
    rw [List.any_eq_false] at h1
    have := h1 c m1
    simpa using this
  cases e : split 59 s with
  | nil => exact absurd e (split_ne 59 s)
  | cons p r =>
    rw [e] at h2 hb
    unfold said at h2
    dsimp only at h2
    split at h2
    · cases congrArg Prod.fst h2
    rename_i k1
    split at h2
    · cases congrArg Prod.fst h2
    rename_i k2
    have eh : r.foldl attr (start p) = h := congrArg Prod.snd h2
    rw [← eh]
    exact good_fold (good_start (hb p (by simp)) k1 k2) (fun q hq => hb q (by simp [hq]))
end Hd
end Go.Proofs.YtpimaobejjpffaaGreatDoor
/- Plain: what a header is written as; it reads back. No program is named here. -/
namespace Go.Proofs.YtpimaobejjpffaaGreatDoor
namespace Hd
open Oct
def wExp : List UInt8 := [69, 120, 112, 105, 114, 101, 115]
def wAge : List UInt8 := [77, 97, 120, 45, 65, 103, 101]
def wDom : List UInt8 := [68, 111, 109, 97, 105, 110]
def wPath : List UInt8 := [80, 97, 116, 104]
def wSec : List UInt8 := [83, 101, 99, 117, 114, 101]
def wOnly : List UInt8 := [72, 116, 116, 112, 79, 110, 108, 121]
def wSite : List UInt8 := [83, 97, 109, 101, 83, 105, 116, 101]
def wNone : List UInt8 := [78, 111, 110, 101]
def wLax : List UInt8 := [76, 97, 120]
def wStrict : List UInt8 := [83, 116, 114, 105, 99, 116]
def domT (d : List UInt8) : List UInt8 := if dotB d = true then 46 :: d else d
def siteT (n : Nat) : List UInt8 := if n = 1 then wNone else if n = 2 then wLax else wStrict
noncomputable def partExp (o : Option Int) : List (List UInt8) := match o with | some n => [wExp ++ 61 :: Dt.text n] | none => []
def partAge (o : Option Nat) : List (List UInt8) := match o with | some n => [wAge ++ 61 :: Lib.decDigits n] | none => []
def partDom (d : List UInt8) : List (List UInt8) := if d = [] then [] else [wDom ++ 61 :: domT d]
def partPath (d : List UInt8) : List (List UInt8) := if d = [] then [] else [wPath ++ 61 :: d]
def partSec (b : Bool) : List (List UInt8) := if b = true then [wSec] else []
def partOnly (b : Bool) : List (List UInt8) := if b = true then [wOnly] else []
def partSite (n : Nat) : List (List UInt8) := if n = 0 then [] else [wSite ++ 61 :: siteT n]
noncomputable def parts (h : Head) : List (List UInt8) := partExp h.exp ++ (partAge h.age ++ (partDom h.domain ++ (partPath h.path ++ (partSec h.secure ++ (partOnly h.only ++ partSite h.same)))))
def joined (ps : List (List UInt8)) : List UInt8 := ps.flatMap fun p => 59 :: 32 :: p
/-- A header's text. -/
noncomputable def text (h : Head) : List UInt8 := (h.name ++ 61 :: h.value) ++ joined (parts h)
theorem split_joined : ∀ (ps : List (List UInt8)) (a : List UInt8), (∀ c ∈ a, c ≠ 59) → (∀ p ∈ ps, ∀ c ∈ p, c ≠ 59) → split 59 (a ++ joined ps) = a :: ps.map (32 :: ·)
  | [], a, h, _ => by
    rw [show joined [] = [] from rfl, List.append_nil, split_none 59 a h]; rfl
  | p :: ps, a, h, hp => by
    have ih := split_joined ps (32 :: p) (fun c hc => by
      rcases List.mem_cons.1 hc with e | e
      · rw [e]; decide
      · exact hp p (by simp) c e) (fun q hq => hp q (by simp [hq]))
    rw [show joined (p :: ps) = 59 :: ((32 :: p) ++ joined ps) from rfl, split_cons 59 _ a h, ih]
    rfl
/-! ### One attribute -/
theorem trimmed_all {l : List UInt8} (h : ∀ c ∈ l, blankB c = false) : Trimmed l :=
  ⟨fun c hc => h c (List.mem_of_mem_head? hc), fun c hc => h c (List.mem_of_getLast? hc)⟩
theorem attr_key (h : Head) {k v : List UInt8} (hk : ∀ c ∈ k, c ≠ 61) (kt : Trimmed k) (vt : Trimmed v) : attr h (32 :: (k ++ 61 :: v)) = put h (k.map low) v := by
  obtain ⟨e1, e2⟩ := ahead_sign (a := 32 :: k) (fun c hc => by
    rcases List.mem_cons.1 hc with e | e
    · rw [e]; decide
    · exact hk c e) v
  unfold attr
  rw [List.cons_append] at e1 e2
  rw [e1, e2, trim_blank (by decide), trim_same kt, trim_same vt]
theorem attr_bare (h : Head) {k : List UInt8} (hk : ∀ c ∈ k, c ≠ 61) (kt : Trimmed k) : attr h (32 :: k) = put h (k.map low) [] := by
  obtain ⟨e1, e2⟩ := ahead_none (a := 32 :: k) (fun c hc => by
    rcases List.mem_cons.1 hc with e | e
    · rw [e]; decide
    · exact hk c e)
  unfold attr
  rw [e1, e2, trim_blank (by decide), trim_same kt]
theorem put_exp (h : Head) {v : List UInt8} (hv : v.length ≤ 1024) : put h kExp v = if (Dt.cookie v).2 = true then { h with exp := some (Dt.cookie v).1 } else h := by
  unfold put; rw [if_neg (by omega), if_pos rfl]
theorem put_age (h : Head) {v : List UInt8} (hv : v.length ≤ 1024) : put h kAge v = match ageOf v with | some n => { h with age := some n } | none => h := by
  unfold put; rw [if_neg (by omega), if_neg (by decide), if_pos rfl]; try (cases ageOf v <;> rfl)
theorem put_dom (h : Head) {v : List UInt8} (hv : v.length ≤ 1024) : put h kDom v = { h with domain := undot (v.map low) } := by
  unfold put; rw [if_neg (by omega), if_neg (by decide), if_neg (by decide), if_pos rfl]
theorem put_path (h : Head) {v : List UInt8} (hv : v.length ≤ 1024) : put h kPath v = { h with path := if v.head? = some 47 then v else [] } := by
  unfold put; rw [if_neg (by omega), if_neg (by decide), if_neg (by decide), if_neg (by decide), if_pos rfl]
theorem put_sec (h : Head) {v : List UInt8} (hv : v.length ≤ 1024) : put h kSec v = { h with secure := true } := by
  unfold put; rw [if_neg (by omega), if_neg (by decide), if_neg (by decide), if_neg (by decide), if_neg (by decide), if_pos rfl]
theorem put_only (h : Head) {v : List UInt8} (hv : v.length ≤ 1024) : put h kOnly v = { h with only := true } := by
  unfold put; rw [if_neg (by omega), if_neg (by decide), if_neg (by decide), if_neg (by decide), if_neg (by decide), if_neg (by decide), if_pos rfl]
theorem put_site (h : Head) {v : List UInt8} (hv : v.length ≤ 1024) : put h kSite v = { h with same := sameOf (v.map low) } := by
  unfold put; rw [if_neg (by omega), if_neg (by decide), if_neg (by decide), if_neg (by decide), if_neg (by decide), if_neg (by decide), if_neg (by decide), if_pos rfl]
theorem put_none (h : Head) {k v : List UInt8} (hk : k ≠ kExp ∧ k ≠ kAge ∧ k ≠ kDom ∧ k ≠ kPath ∧ k ≠ kSec ∧ k ≠ kOnly ∧ k ≠ kSite) : put h k v = h := by
  obtain ⟨k1, k2, k3, k4, k5, k6, k7⟩ := hk
  unfold put
  rw [if_neg k1, if_neg k2, if_neg k3, if_neg k4, if_neg k5, if_neg k6, if_neg k7]
  split <;> rfl
theorem put_long (h : Head) {k v : List UInt8} (hv : 1024 < v.length) : put h k v = h := by
  unfold put; rw [if_pos hv]
/-! ### The text of a moment -/
theorem week_fine : ∀ j, j < 7 → (((Dt.week[j]?).getD []).all fun c => fineB c && !blankB c) = true ∧ (Dt.week[j]?).getD [] ≠ [] := by decide +kernel
theorem mnames_fine : ∀ j, j < 12 → (((Dt.mnames[j]?).getD []).all fun c => fineB c && !blankB c) = true := by decide +kernel
theorem dg_fine : ∀ k, k < 10 → fineB (Dt.dg k) = true ∧ blankB (Dt.dg k) = false := by decide +kernel
theorem two_fine (n : Nat) : ∀ c ∈ Dt.two n, fineB c = true := by
  intro c hc
  rw [Dt.two_dg] at hc
  rcases List.mem_cons.1 hc with e | e
  · rw [e]; exact (dg_fine _ (by omega)).1
  · rw [List.mem_singleton.1 e]; exact (dg_fine _ (by omega)).1
theorem wname_fine (k : Int) : (∀ c ∈ Dt.wname k, fineB c = true ∧ blankB c = false) ∧ Dt.wname k ≠ [] := by
  obtain ⟨h1, h2⟩ := week_fine (k % 7).toNat (by omega)
  refine ⟨fun c hc => ?_, h2⟩
  have := List.all_eq_true.1 h1 c hc
  rw [Bool.and_eq_true, Bool.not_eq_true'] at this
  exact this
theorem mname_fine {m : Int} (h1 : 1 ≤ m) (h2 : m ≤ 12) : ∀ c ∈ Dt.mname m, fineB c = true := by
  intro c hc
  have := List.all_eq_true.1 (mnames_fine (m - 1).toNat (by omega)) c hc
  rw [Bool.and_eq_true] at this
  exact this.1
theorem date_fine {y m d : Int} (h : Dt.Is y m d) (k : Int) (n : Nat) : ∀ c ∈ Dt.dateT y m d k n, fineB c = true := by
  intro c hc
  unfold Dt.dateT Dt.clock at hc
  simp only [List.mem_append, List.mem_cons, List.not_mem_nil, or_false] at hc
  obtain ⟨_, _, m1, m2, _, _⟩ := h
  rcases hc with e | e | e | e | e | e | e | (e | e) | e | (e | e | e | e | e) | e | e | e | e
  · exact ((wname_fine k).1 c e).1
  · rw [e]; decide
  · rw [e]; decide
  · exact two_fine _ c e
  · rw [e]; decide
  · exact mname_fine m1 m2 c e
  · rw [e]; decide
  · exact two_fine _ c e
  · exact two_fine _ c e
  · rw [e]; decide
  · exact two_fine _ c e
  · rw [e]; decide
  · exact two_fine _ c e
  · rw [e]; decide
  · exact two_fine _ c e
  · rw [e]; decide
  · rw [e]; decide
  · rw [e]; decide
  · rw [e]; decide
theorem date_trimmed (y m d k : Int) (n : Nat) : Trimmed (Dt.dateT y m d k n) := by
  refine ⟨?_, ?_⟩
  · intro c hc
    obtain ⟨h1, h2⟩ := wname_fine k
    unfold Dt.dateT at hc
    cases e : Dt.wname k with
    | nil => exact absurd e h2
    | cons x r =>
      rw [e, List.cons_append] at hc
      have ex : x = c := Option.some.inj hc
      rw [← ex]
      exact (h1 x (by rw [e]; exact List.mem_cons_self)).2
  · intro c hc
    have e : ∃ u, Dt.dateT y m d k n = u ++ [84] := by
      unfold Dt.dateT
      refine ⟨Dt.wname k ++ 44 :: 32 :: (Dt.two d.toNat ++ 32 :: (Dt.mname m ++ 32 :: ((Dt.two (y.toNat / 100) ++ Dt.two (y.toNat % 100)) ++ 32 :: (Dt.clock n ++ 32 :: [71, 77])))), ?_⟩
      simp only [List.append_assoc, List.cons_append, List.nil_append]
    obtain ⟨u, e⟩ := e
    rw [e, List.getLast?_append] at hc
    have ex : (84 : UInt8) = c := Option.some.inj hc
    rw [← ex]; decide
theorem text_facts {n : Int} (h : ∃ t, Dt.civil (n / 86400) = some t) : (∀ c ∈ Dt.text n, fineB c = true) ∧ Trimmed (Dt.text n) ∧ (Dt.text n).length = 29 ∧ Dt.cookie (Dt.text n) = (n, true) := by
  obtain ⟨⟨y, m, d⟩, h⟩ := h
  have hI := (Dt.civil_some.1 h).1
  have hk := Dt.cookie_text h
  have e : Dt.text n = Dt.dateT y m d (n / 86400) (n % 86400).toNat := by unfold Dt.text; rw [h]
  refine ⟨?_, ?_, ?_, hk⟩ <;> rw [e]
  · exact date_fine hI _ _
  · exact date_trimmed _ _ _ _ _
  · exact Dt.date_length hI _ _
/-! ### Digits -/
theorem digit_fine {c : UInt8} (h : digitB c = true) : fineB c = true ∧ blankB c = false ∧ c ≠ 45 := by
  have k := of_decide_eq_true h
  refine ⟨fineB_eq.2 ⟨decide_eq_false (by omega), ?_⟩, decide_eq_false (by omega), ?_⟩
  · intro e; rw [e] at k; have : (59 : UInt8).toNat = 59 := rfl; omega
  · intro e; rw [e] at k; have : (45 : UInt8).toNat = 45 := rfl; omega
theorem dec_facts {n : Nat} (h : n ≤ 34560000) : (∀ c ∈ Lib.decDigits n, fineB c = true ∧ blankB c = false) ∧ (Lib.decDigits n).length ≤ 8 ∧ ageOf (Lib.decDigits n) = some n := by
  obtain ⟨h1, h2, h3⟩ := Ur.dec_digits n
  have hd : ∀ c ∈ Lib.decDigits n, digitB c = true := fun c hc => List.all_eq_true.1 h1 c hc
  refine ⟨fun c hc => ⟨(digit_fine (hd c hc)).1, (digit_fine (hd c hc)).2.1⟩, Ur.dec_length 8 n (by omega) (by omega), ?_⟩
  unfold ageOf
  rw [if_neg ?_, if_pos ?_, h2]
  · congr 1; omega
  · unfold digits; rw [h1, decide_eq_true h3]; rfl
  · intro e
    exact (digit_fine (hd 45 (List.mem_of_mem_head? e))).2.2 rfl
/-! ### The parts -/
theorem domT_facts {h : Head} (hg : Good h) (hne : h.domain ≠ []) : (∀ c ∈ domT h.domain, fineB c = true) ∧ Trimmed (domT h.domain) ∧ (domT h.domain).length ≤ 1024 ∧ undot ((domT h.domain).map low) = h.domain := by
  have n1 := hg.domN
  have hl := hg.domL
  have hr := hg.domR
  have hb := hg.domB
  generalize h.domain = d at *
  unfold domT
  by_cases k : dotB d = true
  · rw [if_pos k] at n1 ⊢
    refine ⟨?_, ⟨?_, ?_⟩, ?_, ?_⟩
    · intro c hc
      rcases List.mem_cons.1 hc with e | e
      · rw [e]; decide
      · exact hb c e
    · intro c hc
      have e : (46 : UInt8) = c := Option.some.inj hc
      rw [← e]; decide
    · intro c hc
      cases d with
      | nil => exact absurd rfl hne
      | cons x r => rw [List.getLast?_cons_cons] at hc; exact hr c hc
    · rw [List.length_cons]; exact n1
    · rw [List.map_cons, hl]; rfl
  · rw [if_neg k] at n1 ⊢
    have k2 : ¬ (d.head? = some 46 ∨ d.head? = some 32 ∨ d.head? = some 9) := fun hh => k (decide_eq_true hh)
    refine ⟨hb, ⟨?_, hr⟩, by omega, ?_⟩
    · intro c hc
      unfold blankB
      refine decide_eq_false ?_
      intro hh
      rcases hh with hh | hh
      · exact k2 (.inr (.inl (by rw [hc]; congr 1; exact eq_of_toNat (by rw [hh]; rfl))))
      · exact k2 (.inr (.inr (by rw [hc]; congr 1; exact eq_of_toNat (by rw [hh]; rfl))))
    · rw [hl]
      unfold undot
      rw [if_neg (fun hh => k2 (.inl hh))]
theorem fold_exp {g : Head} {o : Option Int} (ho : ∀ n, o = some n → ∃ t, Dt.civil (n / 86400) = some t) (hg : g.exp = none) : ((partExp o).map (32 :: ·)).foldl attr g = { g with exp := o } := by
  cases o with
  | none =>
    obtain ⟨a, b, c, d, e, f, i, j, k⟩ := g
    have : e = none := hg
    subst this
    rfl
  | some n =>
    obtain ⟨_, h2, h3, h4⟩ := text_facts (ho n rfl)
    show attr g (32 :: (wExp ++ 61 :: Dt.text n)) = _
    rw [attr_key g (by decide) (trimmed_all (by decide)) h2, show wExp.map low = kExp from by decide, put_exp g (by omega), h4]
    rfl
theorem fold_age {g : Head} {o : Option Nat} (ho : ∀ n, o = some n → n ≤ 34560000) (hg : g.age = none) : ((partAge o).map (32 :: ·)).foldl attr g = { g with age := o } := by
  cases o with
  | none =>
    obtain ⟨a, b, c, d, e, f, i, j, k⟩ := g
    have : f = none := hg
    subst this
    rfl
  | some n =>
    obtain ⟨h1, h2, h3⟩ := dec_facts (ho n rfl)
    show attr g (32 :: (wAge ++ 61 :: Lib.decDigits n)) = _
    rw [attr_key g (by decide) (trimmed_all (by decide)) (trimmed_all fun c hc => (h1 c hc).2), show wAge.map low = kAge from by decide, put_age g (by omega), h3]
theorem fold_dom {g h : Head} (hh : Good h) (hg : g.domain = []) : ((partDom h.domain).map (32 :: ·)).foldl attr g = { g with domain := h.domain } := by
  unfold partDom
  split
  · rename_i e
    rw [e]
    obtain ⟨a, b, c, d, e, f, i, j, k⟩ := g
    have : c = [] := hg
    subst this
    rfl
  · rename_i hne
    obtain ⟨_, h2, h3, h4⟩ := domT_facts hh hne
    show attr g (32 :: (wDom ++ 61 :: domT h.domain)) = _
    rw [attr_key g (by decide) (trimmed_all (by decide)) h2, show wDom.map low = kDom from by decide, put_dom g h3, h4]
theorem path_trimmed {h : Head} (hh : Good h) (hne : h.path ≠ []) : h.path.head? = some 47 ∧ Trimmed h.path := by
  have e := hh.pathH.resolve_left hne
  refine ⟨e, ⟨?_, hh.pathR⟩⟩
  intro c hc
  rw [e] at hc
  have : (47 : UInt8) = c := Option.some.inj hc
  rw [← this]; decide
theorem fold_path {g h : Head} (hh : Good h) (hg : g.path = []) : ((partPath h.path).map (32 :: ·)).foldl attr g = { g with path := h.path } := by
  unfold partPath
  split
  · rename_i e
    rw [e]
    obtain ⟨a, b, c, d, e, f, i, j, k⟩ := g
    have : d = [] := hg
    subst this
    rfl
  · rename_i hne
    obtain ⟨h1, h2⟩ := path_trimmed hh hne
    show attr g (32 :: (wPath ++ 61 :: h.path)) = _
    rw [attr_key g (by decide) (trimmed_all (by decide)) h2, show wPath.map low = kPath from by decide, put_path g hh.pathN, if_pos h1]
theorem fold_sec {g : Head} {b : Bool} (hg : g.secure = false) : ((partSec b).map (32 :: ·)).foldl attr g = { g with secure := b } := by
  cases b with
  | false =>
    obtain ⟨a, b, c, d, e, f, i, j, k⟩ := g
    have : i = false := hg
    subst this
    rfl
  | true =>
    show attr g (32 :: wSec) = _
    rw [attr_bare g (by decide) (trimmed_all (by decide)), show wSec.map low = kSec from by decide, put_sec g (by decide)]
theorem fold_only {g : Head} {b : Bool} (hg : g.only = false) : ((partOnly b).map (32 :: ·)).foldl attr g = { g with only := b } := by
  cases b with
  | false =>
    obtain ⟨a, b, c, d, e, f, i, j, k⟩ := g
    have : j = false := hg
    subst this
    rfl
  | true =>
    show attr g (32 :: wOnly) = _
    rw [attr_bare g (by decide) (trimmed_all (by decide)), show wOnly.map low = kOnly from by decide, put_only g (by decide)]
theorem siteT_facts : ∀ n, n ≤ 3 → n ≠ 0 → sameOf ((siteT n).map low) = n ∧ (siteT n).length ≤ 1024 ∧ ((siteT n).all fun c => fineB c && !blankB c) = true := by decide +kernel
theorem siteT_fine {n : Nat} (h : n ≤ 3) (h0 : n ≠ 0) : ∀ c ∈ siteT n, fineB c = true ∧ blankB c = false := by
  intro c hc
  have := List.all_eq_true.1 (siteT_facts n h h0).2.2 c hc
  rw [Bool.and_eq_true, Bool.not_eq_true'] at this
  exact this
theorem fold_site {g : Head} {n : Nat} (hn : n ≤ 3) (hg : g.same = 0) : ((partSite n).map (32 :: ·)).foldl attr g = { g with same := n } := by
  unfold partSite
  split
  · rename_i e
    subst e
    obtain ⟨a, b, c, d, e, f, i, j, k⟩ := g
    have : k = 0 := hg
    subst this
    rfl
  · rename_i h0
    obtain ⟨h1, h2, _⟩ := siteT_facts n hn h0
    show attr g (32 :: (wSite ++ 61 :: siteT n)) = _
    rw [attr_key g (by decide) (trimmed_all (by decide)) (trimmed_all fun c hc => (siteT_fine hn h0 c hc).2), show wSite.map low = kSite from by decide, put_site g h2, h1]
theorem key_fine {k v : List UInt8} (hk : (k.all fineB) = true) (hv : ∀ c ∈ v, fineB c = true) : ∀ c ∈ k ++ 61 :: v, fineB c = true := by
  intro c hc
  rcases List.mem_append.1 hc with e | e
  · exact List.all_eq_true.1 hk c e
  · rcases List.mem_cons.1 e with e | e
    · rw [e]; decide
    · exact hv c e
theorem parts_fine {h : Head} (hg : Good h) : ∀ p ∈ parts h, ∀ c ∈ p, fineB c = true := by
  intro p hp
  unfold parts at hp
  simp only [List.mem_append] at hp
  rcases hp with e | e | e | e | e | e | e
  · unfold partExp at e
    split at e
    · rename_i n hn
      rw [List.mem_singleton.1 e]
      exact key_fine (by decide) (text_facts (hg.exp n hn)).1
    · cases e
  · unfold partAge at e
    split at e
    · rename_i n hn
      rw [List.mem_singleton.1 e]
      exact key_fine (by decide) (fun c hc => ((dec_facts (hg.age n hn)).1 c hc).1)
    · cases e
  · unfold partDom at e
    split at e
    · cases e
    · rename_i hne
      rw [List.mem_singleton.1 e]
      exact key_fine (by decide) (domT_facts hg hne).1
  · unfold partPath at e
    split at e
    · cases e
    · rw [List.mem_singleton.1 e]
      exact key_fine (by decide) hg.pathB
  · unfold partSec at e
    split at e
    · rw [List.mem_singleton.1 e]
      exact fun c hc => List.all_eq_true.1 (show (wSec.all fineB) = true by decide) c hc
    · cases e
  · unfold partOnly at e
    split at e
    · rw [List.mem_singleton.1 e]
      exact fun c hc => List.all_eq_true.1 (show (wOnly.all fineB) = true by decide) c hc
    · cases e
  · unfold partSite at e
    split at e
    · cases e
    · rename_i h0
      rw [List.mem_singleton.1 e]
      exact key_fine (by decide) (fun c hc => (siteT_fine hg.same h0 c hc).1)
/-- Written and read again: P8.3. -/
theorem parse_text {h : Head} (hg : Good h) : parse (text h) = (0, h) := by
  have hpf := parts_fine hg
  have hname : ∀ c ∈ h.name ++ 61 :: h.value, fineB c = true := by
    intro c hc
    rcases List.mem_append.1 hc with e | e
    · exact hg.nameB c e
    · rcases List.mem_cons.1 e with e | e
      · rw [e]; decide
      · exact hg.valueB c e
  refine parse_zero.2 ⟨?_, ?_⟩
  · rw [List.any_eq_false]
    intro c hc
    have : badB c = false := by
      unfold text joined at hc
      rcases List.mem_append.1 hc with e | e
      · exact (fineB_eq.1 (hname c e)).1
      · obtain ⟨p, hp, hcp⟩ := List.mem_flatMap.1 e
        rcases List.mem_cons.1 hcp with e | e
        · rw [e]; decide
        rcases List.mem_cons.1 e with e | e
        · rw [e]; decide
        · exact (fineB_eq.1 (hpf p hp c e)).1
    rw [this]; simp
  · have hs : split 59 (text h) = (h.name ++ 61 :: h.value) :: (parts h).map (32 :: ·) :=
      split_joined (parts h) _ (fun c hc => (fineB_eq.1 (hname c hc)).2) (fun p hp c hc => (fineB_eq.1 (hpf p hp c hc)).2)
    have hpair : pair (h.name ++ 61 :: h.value) = (h.name, h.value) := by
      obtain ⟨e1, e2⟩ := ahead_sign hg.sign h.value
      unfold pair
      rw [if_pos (by simp), e1, e2, trim_same hg.name, trim_same hg.value]
    rw [hs]
    unfold said
    dsimp only
    rw [hpair, if_neg hg.some_, if_neg (by have := hg.few; dsimp only; omega)]
    congr 1
    have hst : start (h.name ++ 61 :: h.value) = { zero with name := h.name, value := h.value } := by unfold start; rw [hpair]
    rw [hst]
    unfold parts
    simp only [List.map_append, List.foldl_append]
    rw [fold_exp hg.exp rfl, fold_age hg.age rfl, fold_dom hg rfl, fold_path hg rfl, fold_sec rfl, fold_only rfl, fold_site hg.same rfl]
/-- What can be is what is good. -/
theorem right_iff (h : Head) : (∃ s, parse s = (0, h)) ↔ Good h := ⟨fun ⟨_, hs⟩ => parse_good hs, fun hg => ⟨_, parse_text hg⟩⟩
end Hd
end Go.Proofs.YtpimaobejjpffaaGreatDoor
/- Plain: what stands behind a header's other attributes counts; small headers. No program is named here. -/
namespace Go.Proofs.YtpimaobejjpffaaGreatDoor
namespace Hd
open Oct
theorem attr_eq (h : Head) {l k v : List UInt8} (h1 : (ahead l).map low = k) (h2 : behind l = v) : attr h l = put h k v := by unfold attr; rw [h1, h2]
theorem fold_one (h : Head) {r : List UInt8} (hr : ∀ c ∈ r, c ≠ 59) : (split 59 r).foldl attr h = attr h r := by rw [split_none 59 r hr]; rfl
/-! ### One more attribute -/
/-- ` max-age = ` and a number, and a blank. -/
def moreAge (d : List UInt8) : List UInt8 := [32, 109, 97, 120, 45, 97, 103, 101, 32, 61, 32] ++ (d ++ [32])
theorem trim_snoc {d : List UInt8} (hd : Trimmed d) (hne : d ≠ []) {b : UInt8} (hb : blankB b = true) : trim (d ++ [b]) = d := by
  unfold trim
  rw [dropWhile_same ?_, chopEnd_yes _ _ hb, chopEnd_same hd.right]
  intro c hc
  cases d with
  | nil => exact absurd rfl hne
  | cons x r => exact hd.left c hc
theorem last_age {s : List UInt8} {h : Head} (hp : parse s = (0, h)) {n : Nat} (hn : n ≤ 34560000) : parse (s ++ 59 :: moreAge (Lib.decDigits n)) = (0, { h with age := some n }) := by
  obtain ⟨h1, h2, h3⟩ := dec_facts hn
  have hne : Lib.decDigits n ≠ [] := (Ur.dec_digits n).2.2
  have hf : ∀ c ∈ moreAge (Lib.decDigits n), fineB c = true := by
    intro c hc
    unfold moreAge at hc
    rcases List.mem_append.1 hc with e | e
    · exact List.all_eq_true.1 (show (([32, 109, 97, 120, 45, 97, 103, 101, 32, 61, 32] : List UInt8).all fineB) = true by decide) c e
    · rcases List.mem_append.1 e with e | e
      · exact (h1 c e).1
      · rw [List.mem_singleton.1 e]; decide
  rw [parse_more hp (by rw [List.any_eq_false]; intro c hc; rw [(fineB_eq.1 (hf c hc)).1]; simp), fold_one _ fun c hc => (fineB_eq.1 (hf c hc)).2]
  obtain ⟨e1, e2⟩ := ahead_sign (a := [32, 109, 97, 120, 45, 97, 103, 101, 32]) (by decide) (32 :: (Lib.decDigits n ++ [32]))
  rw [attr_eq h (l := moreAge (Lib.decDigits n)) (k := kAge) (v := Lib.decDigits n) ?_ ?_, put_age h (by omega), h3]
  · show (ahead ([32, 109, 97, 120, 45, 97, 103, 101, 32] ++ 61 :: (32 :: (Lib.decDigits n ++ [32])))).map low = kAge
    rw [e1]; decide
  · show behind ([32, 109, 97, 120, 45, 97, 103, 101, 32] ++ 61 :: (32 :: (Lib.decDigits n ++ [32]))) = Lib.decDigits n
    rw [e2, trim_blank (by decide), trim_snoc (trimmed_all fun c hc => (h1 c hc).2) hne (by decide)]
/-- ` Max-Ages=1; Path2=/; =x;;`. -/
def moreNone : List UInt8 := [32, 77, 97, 120, 45, 65, 103, 101, 115, 61, 49, 59, 32, 80, 97, 116, 104, 50, 61, 47, 59, 32, 61, 120, 59, 59]
theorem last_none {s : List UInt8} {h : Head} (hp : parse s = (0, h)) : parse (s ++ 59 :: moreNone) = (0, h) := by
  rw [parse_more hp (by decide), show split 59 moreNone = [[32, 77, 97, 120, 45, 65, 103, 101, 115, 61, 49], [32, 80, 97, 116, 104, 50, 61, 47], [32, 61, 120], [], []] from by decide]
  simp only [List.foldl_cons, List.foldl_nil]
  rw [attr_eq h (l := [32, 77, 97, 120, 45, 65, 103, 101, 115, 61, 49]) rfl rfl, put_none h (by decide)]
  rw [attr_eq h (l := [32, 80, 97, 116, 104, 50, 61, 47]) rfl rfl, put_none h (by decide)]
  rw [attr_eq h (l := [32, 61, 120]) rfl rfl, put_none h (by decide)]
  rw [attr_eq h (l := []) rfl rfl, put_none h (by decide)]
  rw [attr_eq h (l := []) rfl rfl, put_none h (by decide)]
/-- `SAMESITE=strict;secure=no`. -/
def moreSite : List UInt8 := [83, 65, 77, 69, 83, 73, 84, 69, 61, 115, 116, 114, 105, 99, 116, 59, 115, 101, 99, 117, 114, 101, 61, 110, 111]
theorem last_site {s : List UInt8} {h : Head} (hp : parse s = (0, h)) : parse (s ++ 59 :: moreSite) = (0, { h with same := 3, secure := true }) := by
  rw [parse_more hp (by decide), show split 59 moreSite = [[83, 65, 77, 69, 83, 73, 84, 69, 61, 115, 116, 114, 105, 99, 116], [115, 101, 99, 117, 114, 101, 61, 110, 111]] from by decide]
  simp only [List.foldl_cons, List.foldl_nil]
  rw [attr_eq h (l := [83, 65, 77, 69, 83, 73, 84, 69, 61, 115, 116, 114, 105, 99, 116]) (k := kSite) (v := [115, 116, 114, 105, 99, 116]) (by decide) (by decide), put_site h (by decide)]
  rw [attr_eq _ (l := [115, 101, 99, 117, 114, 101, 61, 110, 111]) (k := kSec) (v := [110, 111]) (by decide) (by decide), put_sec _ (by decide)]
  rfl
/-! ### Small headers -/
theorem parse_one {s : List UInt8} (h : ∀ c ∈ s, fineB c = true) : parse s = said [s] := by
  unfold parse
  rw [if_neg ?_, split_none 59 s fun c hc => (fineB_eq.1 (h c hc)).2]
  rw [Bool.not_eq_true, List.any_eq_false]
  intro c hc
  rw [(fineB_eq.1 (h c hc)).1]; simp
/-- `a=b; path=/x; MAX-AGE=5; Secure` and its text. -/
def eg : List UInt8 := [97, 61, 98, 59, 32, 112, 97, 116, 104, 61, 47, 120, 59, 32, 77, 65, 88, 45, 65, 71, 69, 61, 53, 59, 32, 83, 101, 99, 117, 114, 101]
def egT : List UInt8 := [97, 61, 98, 59, 32, 77, 97, 120, 45, 65, 103, 101, 61, 53, 59, 32, 80, 97, 116, 104, 61, 47, 120, 59, 32, 83, 101, 99, 117, 114, 101]
def egH : Head := ⟨[97], [98], [], [47, 120], none, some 5, true, false, 0⟩
theorem parse_eg : parse eg = (0, egH) := by
  unfold parse
  rw [if_neg (by decide), show split 59 eg = [[97, 61, 98], [32, 112, 97, 116, 104, 61, 47, 120], [32, 77, 65, 88, 45, 65, 71, 69, 61, 53], [32, 83, 101, 99, 117, 114, 101]] from by decide]
  unfold said
  dsimp only
  rw [if_neg (by decide), if_neg (by decide)]
  simp only [List.foldl_cons, List.foldl_nil]
  rw [attr_eq _ (l := [32, 112, 97, 116, 104, 61, 47, 120]) (k := kPath) (v := [47, 120]) (by decide) (by decide), put_path _ (by decide)]
  rw [attr_eq _ (l := [32, 77, 65, 88, 45, 65, 71, 69, 61, 53]) (k := kAge) (v := [53]) (by decide) (by decide), put_age _ (by decide), show ageOf [53] = some 5 from by decide]
  rw [attr_eq _ (l := [32, 83, 101, 99, 117, 114, 101]) (k := kSec) (v := []) (by decide) (by decide), put_sec _ (by decide)]
  rfl
theorem text_eg : text egH = egT := by
  have h5 : Lib.decDigits 5 = [53] := by rw [Lib.decDigits, dif_pos (by omega)]; rfl
  unfold text parts partExp partAge egH
  dsimp only
  rw [h5]
  rfl
/-- A byte that may not stand there; nothing in the pair; too long a pair, and one that is just not. -/
theorem parse_control : parse [97, 61, 98, 10] = (81, zero) := by unfold parse; rw [if_pos (by decide)]
theorem parse_empty : parse [32, 61, 32, 59, 32, 80, 97, 116, 104, 61, 47] = (82, zero) := by
  unfold parse
  rw [if_neg (by decide), show split 59 [32, 61, 32, 59, 32, 80, 97, 116, 104, 61, 47] = [[32, 61, 32], [32, 80, 97, 116, 104, 61, 47]] from by decide]
  unfold said
  dsimp only
  rw [if_pos (by decide)]
theorem long_fine {l : List UInt8} (h : ∀ c ∈ l, c = 120) : (∀ c ∈ l, fineB c = true) ∧ Trimmed l := ⟨fun c hc => by rw [h c hc]; decide, trimmed_all fun c hc => by rw [h c hc]; decide⟩
theorem parse_long {l : List UInt8} (h : ∀ c ∈ l, c = 120) (hl : l.length = 4096) : parse (97 :: 61 :: l) = (83, zero) ∧ parse (61 :: l) = (0, { zero with value := l }) := by
  obtain ⟨hf, ht⟩ := long_fine h
  have p1 : pair (97 :: 61 :: l) = ([97], l) := by
    obtain ⟨e1, e2⟩ := ahead_sign (a := [97]) (by decide) l
    unfold pair
    rw [if_pos (by simp), show (97 :: 61 :: l) = [97] ++ 61 :: l from rfl, e1, e2, trim_same ht]; rfl
  have p2 : pair (61 :: l) = ([], l) := by
    obtain ⟨e1, e2⟩ := ahead_sign (a := []) (by decide) l
    unfold pair
    rw [if_pos (by simp), show (61 :: l) = [] ++ 61 :: l from rfl, e1, e2, trim_same ht]; rfl
  have hne : l ≠ [] := by intro e; rw [e] at hl; cases hl
  constructor
  · rw [parse_one fun c hc => ?_]
    · unfold said
      dsimp only
      rw [p1, if_neg (by simp), if_pos (by dsimp only [List.length_cons, List.length_nil]; omega)]
    · rcases List.mem_cons.1 hc with e | e
      · rw [e]; decide
      rcases List.mem_cons.1 e with e | e
      · rw [e]; decide
      · exact hf c e
  · rw [parse_one fun c hc => ?_]
    · unfold said
      dsimp only
      rw [p2, if_neg (by simp [hne]), if_neg (by dsimp only [List.length_nil]; omega)]
      unfold start
      rw [p2]; rfl
    · rcases List.mem_cons.1 hc with e | e
      · rw [e]; decide
      · exact hf c e
end Hd
end Go.Proofs.YtpimaobejjpffaaGreatDoor
/- Plain: what a Set-Cookie header says, as the program's loops take it apart and put it together. No program is named here. -/
namespace Go.Proofs.YtpimaobejjpffaaGreatDoor
namespace Hd
open Oct
/-! ### Cutting at a byte -/
def notB (a c : UInt8) : Bool := decide (c ≠ a)
def pieceOf (l : List UInt8) : List UInt8 := l.takeWhile (notB 59)
def restOf (l : List UInt8) : List UInt8 := (l.dropWhile (notB 59)).drop 1
theorem find_cons (a c : UInt8) (l : List UInt8) : Ur.find (c :: l) [a] = if c = a then 0 else Ur.find l [a] + 1 := by
  unfold Ur.find
  rw [List.findIdx_cons]
  by_cases h : c = a
  · subst h; simp
  · have e : ([a] : List UInt8).contains c = false := by simp [h]
    rw [e, if_neg h]; rfl
theorem find_cut (a : UInt8) : ∀ l : List UInt8, l.take (Ur.find l [a]) = l.takeWhile (notB a) ∧ l.drop (Ur.find l [a]) = l.dropWhile (notB a) ∧ (Ur.find l [a] < l.length ↔ a ∈ l)
  | [] => by simp [Ur.find]
  | c :: l => by
    obtain ⟨h1, h2, h3⟩ := find_cut a l
    rw [find_cons]
    by_cases h : c = a
    · subst h
      rw [if_pos rfl, List.takeWhile_cons_of_neg (by simp [notB]), List.dropWhile_cons_of_neg (by simp [notB])]
      simp
    · rw [if_neg h, List.takeWhile_cons_of_pos (by simp [notB, h]), List.dropWhile_cons_of_pos (by simp [notB, h]), List.take_succ_cons, List.drop_succ_cons, h1, h2]
      refine ⟨rfl, rfl, ?_⟩
      rw [List.length_cons, List.mem_cons]
      constructor
      · intro k; exact .inr (h3.1 (by omega))
      · rintro (k | k)
        · exact absurd k.symm h
        · have := h3.2 k; omega
theorem takeWhile_free {a : UInt8} : ∀ {l : List UInt8}, a ∉ l → l.takeWhile (notB a) = l ∧ l.dropWhile (notB a) = []
  | [], _ => ⟨rfl, rfl⟩
  | c :: l, h => by
    have hc : c ≠ a := fun e => h (by rw [e]; exact List.mem_cons_self)
    obtain ⟨h1, h2⟩ := takeWhile_free (a := a) (l := l) (fun k => h (List.mem_cons_of_mem _ k))
    rw [List.takeWhile_cons_of_pos (by simp [notB, hc]), List.dropWhile_cons_of_pos (by simp [notB, hc]), h1, h2]
    exact ⟨rfl, rfl⟩
theorem cut_while (a : UInt8) (l : List UInt8) : Lib.cut l [a] = (l.takeWhile (notB a), (l.dropWhile (notB a)).drop 1, decide (a ∈ l)) := by
  obtain ⟨h1, h2, h3⟩ := find_cut a l
  rw [Ur.cut_find]
  by_cases h : a ∈ l
  · rw [if_pos (h3.2 h), ← h1, ← h2, List.drop_drop, decide_eq_true h]
  · obtain ⟨e1, e2⟩ := takeWhile_free h
    rw [if_neg (fun k => h (h3.1 k)), e1, e2, decide_eq_false h]; rfl
theorem notB_sign : notB 61 = otherB := by funext c; rfl
theorem cut_sign (l : List UInt8) : trim (Lib.cut l [61]).1 = ahead l ∧ trim (Lib.cut l [61]).2.1 = behind l ∧ (Lib.cut l [61]).2.2 = decide (61 ∈ l) := by
  rw [cut_while, notB_sign]
  exact ⟨rfl, rfl, rfl⟩
theorem cut_piece (l : List UInt8) : (Lib.cut l [59]).1 = pieceOf l ∧ (Lib.cut l [59]).2.1 = restOf l := by
  rw [cut_while]
  exact ⟨rfl, rfl⟩
theorem piece_le (l : List UInt8) : (pieceOf l).length ≤ l.length := (List.takeWhile_prefix _).length_le
theorem rest_le : ∀ l : List UInt8, (restOf l).length ≤ l.length - 1
  | [] => by simp [restOf]
  | c :: l => by
    have := (List.dropWhile_suffix (notB 59) (l := c :: l)).length_le
    unfold restOf
    rw [List.length_drop]; omega
theorem split_piece : ∀ l : List UInt8, split 59 l = pieceOf l :: (if 59 ∈ l then split 59 (restOf l) else [])
  | [] => rfl
  | c :: l => by
    rw [split_step]
    by_cases h : c = 59
    · subst h
      rw [if_pos rfl, if_pos List.mem_cons_self]
      unfold pieceOf restOf
      rw [List.takeWhile_cons_of_neg (by simp [notB]), List.dropWhile_cons_of_neg (by simp [notB])]
      rfl
    · rw [if_neg h, split_piece l]
      unfold pieceOf restOf
      rw [List.takeWhile_cons_of_pos (by simp [notB, h]), List.dropWhile_cons_of_pos (by simp [notB, h])]
      by_cases k : 59 ∈ l
      · rw [if_pos k, if_pos (List.mem_cons_of_mem _ k)]
      · rw [if_neg k, if_neg (fun q => by
          rcases List.mem_cons.1 q with e | e
          · exact h e.symm
          · exact k e)]
theorem rest_none {l : List UInt8} (h : 59 ∉ l) : restOf l = [] := by
  unfold restOf
  rw [(takeWhile_free h).2]; rfl
theorem attr_nil (h : Head) : attr h [] = h := by
  unfold attr
  exact put_none h (by decide)
theorem fold_nil (h : Head) : (split 59 []).foldl attr h = h := attr_nil h
/-- One piece, and what stands behind it. -/
theorem fold_piece (h : Head) (l : List UInt8) : (split 59 l).foldl attr h = (split 59 (restOf l)).foldl attr (attr h (pieceOf l)) := by
  rw [split_piece l, List.foldl_cons]
  split
  · rfl
  · rename_i k
    rw [rest_none k, fold_nil]; rfl
theorem said_cut (s : List UInt8) : said (split 59 s) = if (pair (pieceOf s)).1 = [] ∧ (pair (pieceOf s)).2 = [] then (82, zero) else if 4096 < (pair (pieceOf s)).1.length + (pair (pieceOf s)).2.length then (83, zero) else (0, (split 59 (restOf s)).foldl attr (start (pieceOf s))) := by
  rw [split_piece s]
  unfold said
  dsimp only
  by_cases k : 59 ∈ s
  · rw [if_pos k]
  · rw [if_neg k, rest_none k, fold_nil]; rfl
theorem attr_long (h : Head) {p : List UInt8} (hv : 1024 < (behind p).length) : attr h p = h := by unfold attr; exact put_long h hv
theorem attr_put (h : Head) (p : List UInt8) : attr h p = put h ((ahead p).map low) (behind p) := rfl
theorem trim_le (l : List UInt8) : (trim l).length ≤ l.length := by
  unfold trim
  have h1 := (chopEnd_prefix (l.dropWhile blankB)).length_le
  have h2 := (List.dropWhile_suffix blankB (l := l)).length_le
  omega
theorem ahead_le (l : List UInt8) : (ahead l).length ≤ l.length := by
  unfold ahead
  have h1 := trim_le (l.takeWhile otherB)
  have h2 := (List.takeWhile_prefix otherB (l := l)).length_le
  omega
theorem behind_le (l : List UInt8) : (behind l).length ≤ l.length := by
  unfold behind
  have h1 := trim_le ((l.dropWhile otherB).drop 1)
  have h2 := (List.dropWhile_suffix otherB (l := l)).length_le
  rw [List.length_drop] at h1
  omega
theorem both_le (l : List UInt8) : (ahead l).length + (behind l).length ≤ l.length := by
  unfold ahead behind
  have h1 := trim_le (l.takeWhile otherB)
  have h2 := trim_le ((l.dropWhile otherB).drop 1)
  have h3 := congrArg List.length (List.takeWhile_append_dropWhile (p := otherB) (l := l))
  rw [List.length_append] at h3
  rw [List.length_drop] at h2
  omega
theorem pair_le (l : List UInt8) : (pair l).1.length + (pair l).2.length ≤ l.length := by
  unfold pair
  split
  · exact both_le l
  · have := trim_le l
    dsimp only [List.length_nil]; omega
theorem pair_sign {l : List UInt8} (h : 61 ∈ l) : pair l = (ahead l, behind l) := by unfold pair; rw [if_pos h]
theorem pair_bare {l : List UInt8} (h : 61 ∉ l) : pair l = ([], ahead l) := by
  unfold pair
  rw [if_neg h]
  obtain ⟨h1, _⟩ := takeWhile_free h
  unfold ahead
  rw [← notB_sign, h1]
/-! ### What an attribute says -/
theorem low_dot (c : UInt8) : low c = 46 ↔ c = 46 := by
  constructor
  · intro h
    have e := congrArg UInt8.toNat h
    rw [low_toNat] at e
    have k : (46 : UInt8).toNat = 46 := rfl
    rw [k] at e
    apply eq_of_toNat
    rw [k]
    split at e <;> omega
  · intro h; rw [h]; decide
theorem undot_low (v : List UInt8) : undot (v.map low) = (undot v).map low := by
  unfold undot
  cases v with
  | nil => rfl
  | cons c r =>
    rw [List.map_cons, List.head?_cons, List.head?_cons]
    by_cases h : c = 46
    · rw [if_pos (by rw [h]; rfl), if_pos (by rw [h])]; rfl
    · rw [if_neg (fun k => h ((low_dot c).1 (Option.some.inj k))), if_neg (fun k => h (Option.some.inj k))]; rfl
theorem has_one (c : UInt8) (v : List UInt8) : Lib.hasPrefix v [c] = decide (v.head? = some c) := by
  cases v with
  | nil => rfl
  | cons x r =>
    unfold Lib.hasPrefix
    rw [List.isPrefixOf_cons_cons, List.isPrefixOf_nil_left, Bool.and_true, List.head?_cons]
    by_cases h : c = x
    · subst h; rw [beq_self_eq_true, decide_eq_true rfl]
    · rw [beq_false_of_ne h, decide_eq_false (fun k => h (Option.some.inj k).symm)]
theorem trim_one (c : UInt8) (v : List UInt8) : Lib.trimPrefix v [c] = if v.head? = some c then v.drop 1 else v := by
  unfold Lib.trimPrefix
  rw [has_one]
  by_cases h : v.head? = some c
  · rw [decide_eq_true h, if_pos rfl, if_pos h]; rfl
  · rw [decide_eq_false h, if_neg (by simp), if_neg h]
theorem undot_trim (v : List UInt8) : Lib.trimPrefix v [46] = undot v := trim_one 46 v
theorem undot_le (v : List UInt8) : (undot v).length ≤ v.length := by
  unfold undot
  split
  · rw [List.length_drop]; omega
  · exact Nat.le_refl _
def ageN (v : List UInt8) : Nat := (ageOf v).getD 0
theorem age_minus {v : List UInt8} (h : v.head? = some 45) : ageOf v = if digits (v.drop 1) = true then some 0 else none := by unfold ageOf; rw [if_pos h]
theorem age_plain {v : List UInt8} (h : v.head? ≠ some 45) : ageOf v = if digits v = true then some (min (numOf v) 34560000) else none := by unfold ageOf; rw [if_neg h]
/-- The first k digits' number, held down. -/
def held (l : List UInt8) (k : Nat) : Nat := min (numOf (l.take k)) 34560000
theorem held_zero (l : List UInt8) : held l 0 = 0 := by simp [held, numOf]
theorem held_le (l : List UInt8) (k : Nat) : held l k ≤ 34560000 := by unfold held; omega
theorem held_step (s : ByteArray) (k : Nat) (h : k < s.size) : held s.data.toList (k + 1) = min (held s.data.toList k * 10 + (s[k].toNat - 48)) 34560000 := by
  unfold held
  rw [numOf_take s k h]
  omega
theorem held_end (s : ByteArray) (k : Nat) (h : s.size ≤ k) : held s.data.toList k = min (numOf s.data.toList) 34560000 := by unfold held; rw [take_all s k h]
/-- Which of the four words it is. -/
def words4 : List (List UInt8) := [[], wNone, wLax, wStrict]
theorem sameOf_low (v : List UInt8) : sameOf (v.map low) = if sameB v [] = true then 0 else if sameB v wNone = true then 1 else if sameB v wLax = true then 2 else if sameB v wStrict = true then 3 else 0 := by
  unfold sameB
  simp only [decide_eq_true_eq]
  rw [show wNone.map low = sNone from by decide, show wLax.map low = sLax from by decide, show wStrict.map low = sStrict from by decide, show ([] : List UInt8).map low = [] from rfl]
  generalize v.map low = u
  by_cases h : u = []
  · subst h; decide
  · rw [if_neg h]; rfl
theorem key_same (k : List UInt8) {w x : List UInt8} (h : w.map low = x) : sameB k w = decide (k.map low = x) := by unfold sameB; rw [h]
/-! ### Writing -/
theorem join_two (a b : List UInt8) : Lib.join [a, b] [61] = a ++ 61 :: b := by simp [Lib.join, List.intercalate, List.intersperse]
theorem join_one (a : List UInt8) : Lib.join [a] [61] = a := by simp [Lib.join, List.intercalate, List.intersperse]
theorem join_cons (a : List UInt8) : ∀ ps : List (List UInt8), Lib.join (a :: ps) [59, 32] = a ++ joined ps
  | [] => by simp [Lib.join, List.intercalate, List.intersperse, joined]
  | p :: ps => by
    have ih := join_cons p ps
    unfold Lib.join List.intercalate at ih ⊢
    simp only [List.intersperse, List.flatten_cons] at ih ⊢
    rw [ih]
    simp [joined]
theorem text_join (h : Head) : Lib.join ((h.name ++ 61 :: h.value) :: parts h) [59, 32] = text h := join_cons _ _
theorem lost_drop (d : List UInt8) : (Lib.trimLeftS d [46, 32, 9] = d ↔ dotB d = false) := by
  unfold Lib.trimLeftS dotB
  rw [decide_eq_false_iff_not]
  cases d with
  | nil => simp
  | cons c r =>
    by_cases h : c = 46 ∨ c = 32 ∨ c = 9
    · rw [List.dropWhile_cons_of_pos (by simpa using h)]
      constructor
      · intro k
        have l1 := (List.dropWhile_suffix (fun x => ([46, 32, 9] : List UInt8).contains x) (l := r)).length_le
        have l2 := congrArg List.length k
        rw [List.length_cons] at l2
        omega
      · intro k
        exact absurd (by simpa using h) k
    · rw [List.dropWhile_cons_of_neg (by simpa using h)]
      simpa using h
/-! ### A header that was read, in its parts -/
structure Small (h : Head) : Prop where
  name : h.name.length ≤ 4096
  value : h.value.length ≤ 4096
  domain : h.domain.length ≤ 1024
  path : h.path.length ≤ 1024
  same : h.same ≤ 3
theorem good_small {h : Head} (g : Good h) : Small h := by
  have h1 := g.few
  have h2 := g.domN
  have h3 := g.pathN
  exact ⟨by omega, by omega, by split at h2 <;> omega, h3, g.same⟩
theorem text_length {n : Int} (h : ∃ t, Dt.civil (n / 86400) = some t) : (Dt.text n).length = 29 := (text_facts h).2.2.1
end Hd
end Go.Proofs.YtpimaobejjpffaaGreatDoor
