/- Plain functions on dates, and plain lemmas on them. No program is named here. -/
import Derived.Test.YtpimaobejjpffaaGreatDoorPlains
namespace Go.Proofs.YtpimaobejjpffaaGreatDoor
namespace Dt
/-- Has a year a day more? -/
def leap (y : Int) : Bool := decide (y % 4 = 0 ∧ (y % 100 ≠ 0 ∨ y % 400 = 0))
/-- How many days a month has, by its number and whether the year has a day more. -/
def len (b : Bool) (m : Int) : Int := if m = 4 ∨ m = 6 ∨ m = 9 ∨ m = 11 then 30 else if m = 2 then (if b = true then 29 else 28) else 31
def yday (y : Int) : Int := if leap y = true then 366 else 365
/-- The days of the years from 1601 on, ahead of a year. -/
def before (y : Int) : Int := 365 * (y - 1601) + ((y - 1) / 4 - (y - 1) / 100 + (y - 1) / 400) - 388
/-- The days of the months ahead of a month. -/
def mon (b : Bool) (m : Int) : Int :=
  (if m ≤ 1 then 0 else if m = 2 then 31 else if m = 3 then 59 else if m = 4 then 90 else if m = 5 then 120 else if m = 6 then 151 else if m = 7 then 181 else if m = 8 then 212 else if m = 9 then 243 else if m = 10 then 273 else if m = 11 then 304 else 334) + (if b = true ∧ 3 ≤ m then 1 else 0)
/-- Is it a date? -/
def Is (y m d : Int) : Prop := 1601 ≤ y ∧ y ≤ 9999 ∧ 1 ≤ m ∧ m ≤ 12 ∧ 1 ≤ d ∧ d ≤ len (leap y) m
instance (y m d : Int) : Decidable (Is y m d) := by unfold Is; infer_instance
/-- How many days a date is behind 1970-01-01. -/
def days (y m d : Int) : Int := before y - 134774 + mon (leap y) m + d - 1
theorem before_first : before 1601 = 0 := by decide
theorem before_1970 : before 1970 = 134774 := by decide
theorem leap_true {y : Int} : leap y = true ↔ y % 4 = 0 ∧ (y % 100 ≠ 0 ∨ y % 400 = 0) := decide_eq_true_iff
theorem before_step (y : Int) : before (y + 1) = before y + yday y := by
  unfold before yday
  by_cases h : leap y = true
  · rw [if_pos h]
    rw [leap_true] at h
    omega
  · rw [if_neg h]
    rw [leap_true] at h
    omega
theorem yday_bounds (y : Int) : 365 ≤ yday y ∧ yday y ≤ 366 := by unfold yday; split <;> omega
theorem len_bounds (b : Bool) (m : Int) : 28 ≤ len b m ∧ len b m ≤ 31 := by unfold len; split <;> (try split) <;> (try split) <;> omega
theorem mon_step (b : Bool) {m : Int} (h1 : 1 ≤ m) (h2 : m ≤ 11) : mon b (m + 1) = mon b m + len b m := by
  have : m = 1 ∨ m = 2 ∨ m = 3 ∨ m = 4 ∨ m = 5 ∨ m = 6 ∨ m = 7 ∨ m = 8 ∨ m = 9 ∨ m = 10 ∨ m = 11 := by omega
  rcases this with rfl | rfl | rfl | rfl | rfl | rfl | rfl | rfl | rfl | rfl | rfl <;> cases b <;> decide
theorem mon_first (b : Bool) : mon b 1 = 0 := by cases b <;> decide
theorem mon_last (y : Int) : mon (leap y) 12 + len (leap y) 12 = yday y := by
  unfold yday
  cases leap y <;> decide
theorem mon_le (b : Bool) {m k : Int} (h1 : 1 ≤ m) (h2 : m < k) (h3 : k ≤ 12) : mon b m + len b m ≤ mon b k := by
  obtain ⟨n, hn⟩ : ∃ n : Nat, k = m + 1 + n := ⟨(k - (m + 1)).toNat, by omega⟩
  subst hn
  clear h2
  induction n with
  | zero => rw [← mon_step b h1 (by omega)]; simp
  | succ n ih =>
    have := ih (by omega)
    have e := mon_step b (m := m + 1 + (n : Int)) (by omega) (by omega)
    have := len_bounds b (m + 1 + (n : Int))
    have e2 : m + 1 + ((n + 1 : Nat) : Int) = m + 1 + (n : Int) + 1 := by omega
    rw [e2, e]
    omega
theorem before_le {y z : Int} (h : y < z) : before y + yday y ≤ before z := by
  obtain ⟨n, hn⟩ : ∃ n : Nat, z = y + 1 + n := ⟨(z - (y + 1)).toNat, by omega⟩
  subst hn
  clear h
  induction n with
  | zero => rw [← before_step]; simp
  | succ n ih =>
    have e := before_step (y + 1 + (n : Int))
    have := yday_bounds (y + 1 + (n : Int))
    have e2 : y + 1 + ((n + 1 : Nat) : Int) = y + 1 + (n : Int) + 1 := by omega
    rw [e2, e]
    omega
/-- A day's number in its year. -/
theorem in_year {y m d : Int} (h : Is y m d) : 0 ≤ mon (leap y) m + d - 1 ∧ mon (leap y) m + d - 1 < yday y := by
  obtain ⟨_, _, h1, h2, h3, h4⟩ := h
  have hl := mon_last y
  rcases Int.lt_or_eq_of_le h2 with k | k
  · have := mon_le (leap y) h1 k (by omega)
    have h0 : 0 ≤ mon (leap y) m := by
      rcases Int.lt_or_eq_of_le h1 with j | j
      · have := mon_le (leap y) (m := 1) (by omega) j h2
        have := mon_first (leap y)
        have := len_bounds (leap y) 1
        omega
      · rw [← j, mon_first]; omega
    have := len_bounds (leap y) 12
    omega
  · subst k
    have := mon_le (leap y) (m := 1) (k := 12) (by omega) (by omega) (by omega)
    have := mon_first (leap y)
    have := len_bounds (leap y) 1
    omega
/-- Two dates of one number are one. -/
theorem days_inj {y m d z k e : Int} (h : Is y m d) (g : Is z k e) (hd : days y m d = days z k e) : y = z ∧ m = k ∧ d = e := by
  have i1 := in_year h
  have i2 := in_year g
  unfold days at hd
  have hy : y = z := by
    rcases Int.lt_trichotomy y z with j | j | j
    · have := before_le j; omega
    · exact j
    · have := before_le j; omega
  subst hy
  obtain ⟨_, _, h1, h2, h3, h4⟩ := h
  obtain ⟨_, _, g1, g2, g3, g4⟩ := g
  have hm : m = k := by
    rcases Int.lt_trichotomy m k with j | j | j
    · have := mon_le (leap y) h1 j g2; omega
    · exact j
    · have := mon_le (leap y) g1 j h2; omega
  subst hm
  exact ⟨rfl, rfl, by omega⟩
theorem days_bounds {y m d : Int} (h : Is y m d) : -134774 ≤ days y m d ∧ days y m d ≤ 2932896 := by
  have i1 := in_year h
  have f := before_first
  have l : before 10000 = 3067671 := by decide
  obtain ⟨h1, h2, _⟩ := h
  have a : 0 ≤ before y := by
    rcases Int.lt_or_eq_of_le h1 with j | j
    · have := before_le j; have := yday_bounds 1601; omega
    · rw [← j, f]; omega
  have b : before y + yday y ≤ before 10000 := before_le (by omega)
  unfold days
  omega
theorem first_is : Is 1601 1 1 := by decide
theorem days_first : days 1601 1 1 = -134774 := by decide
/-- The day behind a day. -/
theorem next {y m d : Int} (h : Is y m d) : (d < len (leap y) m ∧ Is y m (d + 1) ∧ days y m (d + 1) = days y m d + 1) ∨
    (d = len (leap y) m ∧ m < 12 ∧ Is y (m + 1) 1 ∧ days y (m + 1) 1 = days y m d + 1) ∨
    (d = 31 ∧ m = 12 ∧ y < 9999 ∧ Is (y + 1) 1 1 ∧ days (y + 1) 1 1 = days y m d + 1) ∨ (d = 31 ∧ m = 12 ∧ y = 9999) := by
  have hh := h
  obtain ⟨h1, h2, h3, h4, h5, h6⟩ := h
  rcases Int.lt_or_eq_of_le h6 with k | k
  · exact .inl ⟨k, ⟨h1, h2, h3, h4, by omega, by omega⟩, by unfold days; omega⟩
  · rcases Int.lt_or_eq_of_le h4 with j | j
    · refine .inr (.inl ⟨k, j, ⟨h1, h2, by omega, by omega, by omega, by have := len_bounds (leap y) (m + 1); omega⟩, ?_⟩)
      unfold days
      rw [mon_step _ h3 (by omega)]
      omega
    · subst j
      have e31 : len (leap y) 12 = 31 := by cases leap y <;> decide
      rcases Int.lt_or_eq_of_le h2 with i | i
      · refine .inr (.inr (.inl ⟨by omega, rfl, i, ⟨by omega, by omega, by omega, by omega, by omega, by have := len_bounds (leap (y + 1)) 1; omega⟩, ?_⟩))
        have l := mon_last y
        have s := before_step y
        unfold days
        rw [mon_first, s]
        omega
      · exact .inr (.inr (.inr ⟨by omega, rfl, i⟩))
/-- Every day of those years has a date. -/
theorem some_date {n : Int} (h1 : -134774 ≤ n) (h2 : n ≤ 2932896) : ∃ y m d, Is y m d ∧ days y m d = n := by
  obtain ⟨k, hk⟩ : ∃ k : Nat, n = -134774 + k := ⟨(n + 134774).toNat, by omega⟩
  subst hk
  clear h1
  induction k with
  | zero => exact ⟨1601, 1, 1, first_is, by rw [days_first]; rfl⟩
  | succ k ih =>
    obtain ⟨y, m, d, hI, hd⟩ := ih (by omega)
    rcases next hI with ⟨_, i, e⟩ | ⟨_, _, i, e⟩ | ⟨_, _, _, i, e⟩ | ⟨a, b, c⟩
    · exact ⟨_, _, _, i, by omega⟩
    · exact ⟨_, _, _, i, by omega⟩
    · exact ⟨_, _, _, i, by omega⟩
    · exfalso
      subst a b c
      have : days 9999 12 31 = 2932896 := by decide
      omega
theorem date_iff (n : Int) : (∃ y m d, Is y m d ∧ days y m d = n) ↔ -134774 ≤ n ∧ n ≤ 2932896 :=
  ⟨fun ⟨_, _, _, h, e⟩ => by have := days_bounds h; omega, fun ⟨h1, h2⟩ => some_date h1 h2⟩
end Dt
end Go.Proofs.YtpimaobejjpffaaGreatDoor
/- Plain functions on the dates of cookies and the texts of moments, and plain lemmas on them. No program is named here. -/
namespace Go.Proofs.YtpimaobejjpffaaGreatDoor
namespace Dt
/-! ### The date of a day -/
open Classical in
/-- The date of a day, if there is one. -/
noncomputable def civil (n : Int) : Option (Int × Int × Int) := if h : ∃ t : Int × Int × Int, Is t.1 t.2.1 t.2.2 ∧ days t.1 t.2.1 t.2.2 = n then some h.choose else none
theorem civil_some {n y m d : Int} : civil n = some (y, m, d) ↔ Is y m d ∧ days y m d = n := by
  unfold civil
  constructor
  · intro h
    split at h
    · rename_i k
      have e := Option.some.inj h
      have s := k.choose_spec
      rw [e] at s
      exact s
    · cases h
  · intro ⟨h, e⟩
    have k : ∃ t : Int × Int × Int, Is t.1 t.2.1 t.2.2 ∧ days t.1 t.2.1 t.2.2 = n := ⟨(y, m, d), h, e⟩
    rw [dif_pos k]
    obtain ⟨s1, s2⟩ := k.choose_spec
    obtain ⟨e1, e2, e3⟩ := days_inj h s1 (e.trans s2.symm)
    congr 1
    exact Prod.ext e1.symm (Prod.ext e2.symm e3.symm)
theorem civil_none {n : Int} : civil n = none ↔ n < -134774 ∨ 2932896 < n := by
  have hd := date_iff n
  constructor
  · intro h
    by_cases k : -134774 ≤ n ∧ n ≤ 2932896
    · obtain ⟨y, m, d, hI, e⟩ := hd.2 k
      rw [civil_some.2 ⟨hI, e⟩] at h
      cases h
    · omega
  · intro h
    cases e : civil n with
    | none => rfl
    | some t =>
      obtain ⟨y, m, d⟩ := t
      obtain ⟨hI, e⟩ := civil_some.1 e
      have := days_bounds hI
      omega
/-! ### Tokens -/
/-- Does a byte part tokens? -/
def sepB (c : UInt8) : Bool := decide (c.toNat = 9 ∨ (32 ≤ c.toNat ∧ c.toNat ≤ 47) ∨ (59 ≤ c.toNat ∧ c.toNat ≤ 64) ∨ (91 ≤ c.toNat ∧ c.toNat ≤ 96) ∨ (123 ≤ c.toNat ∧ c.toNat ≤ 126))
/-- What stands between bytes that part, empty pieces among it. -/
def toks : List UInt8 → List (List UInt8)
  | [] => [[]]
  | c :: r => if sepB c = true then [] :: toks r else match toks r with | p :: ps => (c :: p) :: ps | [] => [[c]]
theorem toks_ne : ∀ s, toks s ≠ []
  | [] => by simp [toks]
  | c :: r => by
    rw [toks]
    split
    · simp
    · split <;> simp
theorem toks_app : ∀ {a : List UInt8}, (∀ c ∈ a, sepB c = false) → ∀ {c : UInt8}, sepB c = true → ∀ r, toks (a ++ c :: r) = a :: toks r
  | [], _, c, hc, r => by rw [List.nil_append, toks, if_pos hc]
  | x :: a, h, c, hc, r => by
    rw [List.cons_append, toks, if_neg (by rw [h x (by simp)]; simp), toks_app (fun c hc => h c (by simp [hc])) hc r]
theorem toks_one : ∀ {a : List UInt8}, (∀ c ∈ a, sepB c = false) → toks a = [a]
  | [], _ => rfl
  | x :: a, h => by rw [toks, if_neg (by rw [h x (by simp)]; simp), toks_one (fun c hc => h c (by simp [hc]))]
theorem toks_sep {c : UInt8} (hc : sepB c = true) (r : List UInt8) : toks (c :: r) = [] :: toks r := by rw [toks, if_pos hc]
theorem toks_non {c : UInt8} (hc : sepB c = false) (r : List UInt8) : toks (c :: r) = match toks r with | p :: ps => (c :: p) :: ps | [] => [[c]] := by rw [toks, if_neg (by rw [hc]; simp)]
theorem toks_snoc_sep : ∀ (s : List UInt8) {c : UInt8}, sepB c = true → toks (s ++ [c]) = toks s ++ [[]]
  | [], c, hc => toks_sep hc []
  | x :: r, c, hc => by
    have ih := toks_snoc_sep r hc
    rw [List.cons_append]
    cases hx : sepB x with
    | true => rw [toks_sep hx, toks_sep hx, ih]; rfl
    | false =>
      rw [toks_non hx, toks_non hx, ih]
      cases e : toks r with
      | nil => exact absurd e (toks_ne r)
      | cons p ps => rfl
theorem toks_snoc : ∀ (s : List UInt8) {c : UInt8}, sepB c = false → ∃ ps p, toks s = ps ++ [p] ∧ toks (s ++ [c]) = ps ++ [p ++ [c]]
  | [], c, hc => ⟨[], [], rfl, by rw [List.nil_append, toks_non hc]; rfl⟩
  | x :: r, c, hc => by
    obtain ⟨ps, p, e1, e2⟩ := toks_snoc r hc
    rw [List.cons_append]
    cases hx : sepB x with
    | true => rw [toks_sep hx, toks_sep hx, e1, e2]; exact ⟨[] :: ps, p, rfl, rfl⟩
    | false =>
      rw [toks_non hx, toks_non hx, e1, e2]
      cases ps with
      | nil => exact ⟨[], x :: p, rfl, rfl⟩
      | cons q qs => exact ⟨(x :: q) :: qs, p, rfl, rfl⟩
/-! ### What a token tells -/
/-- How many digits stand ahead. -/
def lead (s : List UInt8) : Nat := (s.takeWhile Oct.digitB).length
def tnum (s : List UInt8) : Option (Nat × List UInt8) := if 1 ≤ lead s ∧ lead s ≤ 2 then some (Oct.numOf (s.take (lead s)), s.drop (lead s)) else none
def tcol : List UInt8 → Option (List UInt8)
  | c :: r => if c = 58 then some r else none
  | [] => none
/-- A time: three numbers. -/
def time3 (s : List UInt8) : Option (Nat × Nat × Nat) := do
  let (a, r) ← tnum s
  let r ← tcol r
  let (b, r) ← tnum r
  let r ← tcol r
  let (c, _) ← tnum r
  pure (a, b, c)
def names : List (List UInt8) := [[106, 97, 110], [102, 101, 98], [109, 97, 114], [97, 112, 114], [109, 97, 121], [106, 117, 110], [106, 117, 108], [97, 117, 103], [115, 101, 112], [111, 99, 116], [110, 111, 118], [100, 101, 99]]
/-- The number of a month's name; 0: there is none. -/
def month (s : List UInt8) : Nat := if 3 ≤ s.length then (match names.idxOf? ((s.take 3).map Oct.low) with | some i => i + 1 | none => 0) else 0
structure Told where
  time : Option (Nat × Nat × Nat)
  day : Option Nat
  month : Option Nat
  year : Option Nat
def tell (t : Told) (x : List UInt8) : Told :=
  if t.time = none ∧ time3 x ≠ none then { t with time := time3 x }
  else if t.day = none ∧ 1 ≤ lead x ∧ lead x ≤ 2 then { t with day := some (Oct.numOf (x.take (lead x))) }
  else if t.month = none ∧ 0 < month x then { t with month := some (month x) }
  else if t.year = none ∧ 2 ≤ lead x ∧ lead x ≤ 4 then { t with year := some (Oct.numOf (x.take (lead x))) }
  else t
def untold : Told := ⟨none, none, none, none⟩
def told (s : List UInt8) : Told := (toks s).foldl tell untold
def year2 (y : Nat) : Int := if 70 ≤ y ∧ y ≤ 99 then (y : Int) + 1900 else if y ≤ 69 then (y : Int) + 2000 else y
def moment (t : Told) : Int × Bool :=
  match t.time, t.day, t.month, t.year with
  | some (h, mi, s), some d, some m, some y => if Is (year2 y) m d ∧ h ≤ 23 ∧ mi ≤ 59 ∧ s ≤ 59 then (days (year2 y) m d * 86400 + (h * 3600 + mi * 60 + s : Nat), true) else (0, false)
  | _, _, _, _ => (0, false)
/-- The moment of a cookie's date. -/
def cookie (s : List UInt8) : Int × Bool := moment (told s)
theorem tell_nil (t : Told) : tell t [] = t := by
  unfold tell
  rw [if_neg (by intro h; exact h.2 rfl), if_neg (by intro h; exact absurd h.2.1 (by decide)), if_neg (by intro h; exact absurd h.2 (by decide)), if_neg (by intro h; exact absurd h.2.1 (by decide))]
/-- Empty pieces tell nothing. -/
theorem tell_full (l : List (List UInt8)) (t : Told) : l.foldl tell t = (l.filter (fun x => x ≠ [])).foldl tell t := by
  induction l generalizing t with
  | nil => rfl
  | cons x r ih =>
    by_cases h : x = []
    · subst h
      rw [List.foldl_cons, tell_nil, ih]
      simp
    · rw [List.filter_cons, if_pos (by simpa using h), List.foldl_cons, List.foldl_cons, ih]
/-! ### The text of a moment -/
def two (n : Nat) : List UInt8 := [UInt8.ofNat (48 + n / 10 % 10), UInt8.ofNat (48 + n % 10)]
def week : List (List UInt8) := [[84, 104, 117], [70, 114, 105], [83, 97, 116], [83, 117, 110], [77, 111, 110], [84, 117, 101], [87, 101, 100]]
def mnames : List (List UInt8) := [[74, 97, 110], [70, 101, 98], [77, 97, 114], [65, 112, 114], [77, 97, 121], [74, 117, 110], [74, 117, 108], [65, 117, 103], [83, 101, 112], [79, 99, 116], [78, 111, 118], [68, 101, 99]]
def wname (n : Int) : List UInt8 := (week[(n % 7).toNat]?).getD []
def mname (m : Int) : List UInt8 := (mnames[(m - 1).toNat]?).getD []
def clock (n : Nat) : List UInt8 := two (n / 3600) ++ 58 :: (two (n / 60 % 60) ++ 58 :: two (n % 60))
def dateT (y m d : Int) (k : Int) (n : Nat) : List UInt8 :=
  wname k ++ 44 :: 32 :: (two d.toNat ++ 32 :: (mname m ++ 32 :: ((two (y.toNat / 100) ++ two (y.toNat % 100)) ++ 32 :: (clock n ++ 32 :: [71, 77, 84]))))
/-- A moment's text. -/
noncomputable def text (mo : Int) : List UInt8 := match civil (mo / 86400) with | some (y, m, d) => dateT y m d (mo / 86400) (mo % 86400).toNat | none => []
end Dt
end Go.Proofs.YtpimaobejjpffaaGreatDoor
/- A moment's text tells that moment: plain. No program is named here. -/
namespace Go.Proofs.YtpimaobejjpffaaGreatDoor
namespace Dt
def dg (k : Nat) : UInt8 := UInt8.ofNat (48 + k)
theorem dg_facts : ∀ k, k < 10 → (dg k).toNat = 48 + k ∧ Oct.digitB (dg k) = true ∧ sepB (dg k) = false := by decide +kernel
theorem two_dg (n : Nat) : two n = [dg (n / 10 % 10), dg (n % 10)] := rfl
theorem two_sep (n : Nat) : ∀ c ∈ two n, sepB c = false := by
  intro c hc
  rw [two_dg] at hc
  rcases List.mem_cons.1 hc with rfl | hc
  · exact (dg_facts _ (by omega)).2.2
  · obtain rfl := List.mem_singleton.1 hc
    exact (dg_facts _ (by omega)).2.2
theorem lead_app {a : List UInt8} (ha : ∀ c ∈ a, Oct.digitB c = true) {c : UInt8} (hc : Oct.digitB c = false) (r : List UInt8) : lead (a ++ c :: r) = a.length := by
  unfold lead
  induction a with
  | nil => rw [List.nil_append, List.takeWhile_cons, hc]; rfl
  | cons x a ih =>
    rw [List.cons_append, List.takeWhile_cons, ha x (by simp), if_pos rfl, List.length_cons, ih (fun c hc => ha c (by simp [hc])), List.length_cons]
theorem lead_all {a : List UInt8} (ha : ∀ c ∈ a, Oct.digitB c = true) : lead a = a.length := by
  unfold lead
  induction a with
  | nil => rfl
  | cons x a ih => rw [List.takeWhile_cons, ha x (by simp), if_pos rfl, List.length_cons, ih (fun c hc => ha c (by simp [hc])), List.length_cons]
theorem two_digits (n : Nat) : ∀ c ∈ two n, Oct.digitB c = true := by
  intro c hc
  rw [two_dg] at hc
  rcases List.mem_cons.1 hc with rfl | hc
  · exact (dg_facts _ (by omega)).2.1
  · obtain rfl := List.mem_singleton.1 hc
    exact (dg_facts _ (by omega)).2.1
theorem num_two {n : Nat} (h : n < 100) : Oct.numOf (two n) = n := by
  rw [two_dg]
  unfold Oct.numOf
  simp only [List.foldl_cons, List.foldl_nil, (dg_facts (n / 10 % 10) (by omega)).1, (dg_facts (n % 10) (by omega)).1]
  omega
theorem num_four {a b : Nat} (ha : a < 100) (hb : b < 100) : Oct.numOf (two a ++ two b) = a * 100 + b := by
  rw [two_dg, two_dg]
  unfold Oct.numOf
  simp only [List.cons_append, List.nil_append, List.foldl_cons, List.foldl_nil, (dg_facts (a / 10 % 10) (by omega)).1, (dg_facts (a % 10) (by omega)).1, (dg_facts (b / 10 % 10) (by omega)).1, (dg_facts (b % 10) (by omega)).1]
  omega
theorem tnum_two {n : Nat} (h : n < 100) {c : UInt8} (hc : Oct.digitB c = false) (r : List UInt8) : tnum (two n ++ c :: r) = some (n, c :: r) := by
  have hl : lead (two n ++ c :: r) = 2 := lead_app (two_digits n) hc r
  unfold tnum
  rw [hl, if_pos (by decide)]
  have e1 : (two n ++ c :: r).take 2 = two n := rfl
  have e2 : (two n ++ c :: r).drop 2 = c :: r := rfl
  rw [e1, e2, num_two h]
theorem tnum_two_end {n : Nat} (h : n < 100) : tnum (two n) = some (n, []) := by
  have hl : lead (two n) = 2 := lead_all (two_digits n)
  unfold tnum
  rw [hl, if_pos (by decide)]
  have e1 : (two n).take 2 = two n := rfl
  have e2 : (two n).drop 2 = [] := rfl
  rw [e1, e2, num_two h]
theorem time_clock {a b c : Nat} (ha : a < 100) (hb : b < 100) (hc : c < 100) : time3 (two a ++ 58 :: (two b ++ 58 :: two c)) = some (a, b, c) := by
  unfold time3
  rw [tnum_two ha (by decide)]
  simp only [Option.bind_eq_bind, Option.bind_some, tcol, if_true]
  rw [tnum_two hb (by decide)]
  simp only [Option.bind_some, if_true]
  rw [tnum_two_end hc]
  rfl
theorem time_two {n : Nat} (h : n < 100) : time3 (two n) = none := by
  unfold time3
  rw [tnum_two_end h]
  rfl
theorem lead_four (a b : Nat) : lead (two a ++ two b) = 4 := lead_all (fun c hc => (List.mem_append.1 hc).elim (two_digits a c) (two_digits b c))
theorem time_four (a b : Nat) : time3 (two a ++ two b) = none := by
  unfold time3 tnum
  rw [lead_four, if_neg (by decide)]
  rfl
theorem week_tell : ∀ j, j < 7 → tell untold ((week[j]?).getD []) = untold ∧ ∀ c ∈ (week[j]?).getD [], sepB c = false := by
  intro j hj
  have : j = 0 ∨ j = 1 ∨ j = 2 ∨ j = 3 ∨ j = 4 ∨ j = 5 ∨ j = 6 := by omega
  rcases this with rfl | rfl | rfl | rfl | rfl | rfl | rfl <;> exact ⟨by rfl, by decide⟩
theorem month_facts : ∀ j, j < 12 → month ((mnames[j]?).getD []) = j + 1 ∧ time3 ((mnames[j]?).getD []) = none ∧ ∀ c ∈ (mnames[j]?).getD [], sepB c = false := by
  intro j hj
  have : j = 0 ∨ j = 1 ∨ j = 2 ∨ j = 3 ∨ j = 4 ∨ j = 5 ∨ j = 6 ∨ j = 7 ∨ j = 8 ∨ j = 9 ∨ j = 10 ∨ j = 11 := by omega
  rcases this with rfl | rfl | rfl | rfl | rfl | rfl | rfl | rfl | rfl | rfl | rfl | rfl <;> exact ⟨by decide, by rfl, by decide⟩
/-- The five tokens that tell. -/
def five (y m d : Int) (n : Nat) : List (List UInt8) := [two d.toNat, mname m, two (y.toNat / 100) ++ two (y.toNat % 100), clock n, [71, 77, 84]]
def full (y m d : Int) (n : Nat) : Told := ⟨some (n / 3600, n / 60 % 60, n % 60), some d.toNat, some m.toNat, some y.toNat⟩
theorem tell_full_any (y m d : Int) (n : Nat) (x : List UInt8) : tell (full y m d n) x = full y m d n := by
  unfold tell full
  simp
theorem five_told {y m d : Int} (h : Is y m d) {n : Nat} (hn : n < 86400) : (five y m d n).foldl tell untold = full y m d n := by
  obtain ⟨h1, h2, h3, h4, h5, h6⟩ := h
  have hl := len_bounds (leap y) m
  obtain ⟨m1, m2, _⟩ := month_facts (m - 1).toNat (by omega)
  have hd : d.toNat < 100 := by omega
  unfold five
  rw [List.foldl_cons, List.foldl_cons, List.foldl_cons, List.foldl_cons, List.foldl_cons, List.foldl_nil]
  have t1 : tell untold (two d.toNat) = ⟨none, some d.toNat, none, none⟩ := by
    unfold tell
    rw [if_neg (by rw [time_two hd]; simp), if_pos ⟨rfl, by rw [lead_all (two_digits _)]; exact ⟨by show 1 ≤ 2; omega, Nat.le_refl 2⟩⟩, lead_all (two_digits _)]
    have e1 : (two d.toNat).take (two d.toNat).length = two d.toNat := List.take_length
    rw [e1, num_two hd]
    rfl
  have t2 : tell ⟨none, some d.toNat, none, none⟩ (mname m) = ⟨none, some d.toNat, some m.toNat, none⟩ := by
    unfold tell mname
    rw [if_neg (by rw [m2]; simp), if_neg (by simp), if_pos ⟨rfl, by rw [m1]; omega⟩, m1]
    have e : (m - 1).toNat + 1 = m.toNat := by omega
    rw [e]
  have t3 : tell ⟨none, some d.toNat, some m.toNat, none⟩ (two (y.toNat / 100) ++ two (y.toNat % 100)) = ⟨none, some d.toNat, some m.toNat, some y.toNat⟩ := by
    unfold tell
    rw [if_neg (by rw [time_four]; simp), if_neg (by simp), if_neg (by simp), if_pos ⟨rfl, by rw [lead_four]; decide⟩, lead_four]
    have e1 : (two (y.toNat / 100) ++ two (y.toNat % 100)).take 4 = two (y.toNat / 100) ++ two (y.toNat % 100) := rfl
    rw [e1, num_four (by omega) (by omega)]
    have e : y.toNat / 100 * 100 + y.toNat % 100 = y.toNat := by omega
    rw [e]
  have t4 : tell ⟨none, some d.toNat, some m.toNat, some y.toNat⟩ (clock n) = full y m d n := by
    unfold tell clock
    rw [time_clock (by omega) (by omega) (by omega), if_pos (by simp)]
    rfl
  rw [t1, t2, t3, t4, tell_full_any]
theorem moment_full {y m d : Int} (h : Is y m d) {n : Nat} (hn : n < 86400) : moment (full y m d n) = (days y m d * 86400 + n, true) := by
  have hh := h
  obtain ⟨h1, h2, h3, h4, h5, h6⟩ := h
  have hy : year2 y.toNat = y := by unfold year2; rw [if_neg (by omega), if_neg (by omega)]; omega
  have hm : ((m.toNat : Nat) : Int) = m := by omega
  have hd : ((d.toNat : Nat) : Int) = d := by omega
  unfold moment full
  dsimp only
  rw [hy, hm, hd, if_pos ⟨hh, by omega, by omega, by omega⟩]
  congr 2
  congr 1
  omega
theorem clock_sep (n : Nat) : ∀ c ∈ clock n, sepB c = false := by
  intro c hc
  unfold clock at hc
  rcases List.mem_append.1 hc with hc | hc
  · exact two_sep _ c hc
  · rcases List.mem_cons.1 hc with rfl | hc
    · decide
    · rcases List.mem_append.1 hc with hc | hc
      · exact two_sep _ c hc
      · rcases List.mem_cons.1 hc with rfl | hc
        · decide
        · exact two_sep _ c hc
/-- The tokens of a text without the day of the week, whatever parts them. -/
theorem toks_tail {y m d : Int} (h : Is y m d) (n : Nat) {c : UInt8} (hc : sepB c = true) (r : List UInt8) :
    toks (two d.toNat ++ c :: (mname m ++ c :: ((two (y.toNat / 100) ++ two (y.toNat % 100)) ++ c :: (clock n ++ c :: ([71, 77, 84] ++ r))))) =
      two d.toNat :: mname m :: (two (y.toNat / 100) ++ two (y.toNat % 100)) :: clock n :: toks ([71, 77, 84] ++ r) := by
  obtain ⟨h1, h2, h3, h4, h5, h6⟩ := h
  rw [toks_app (two_sep _) hc, toks_app (a := mname m) (month_facts (m - 1).toNat (by omega)).2.2 hc, toks_app (fun x hx => (List.mem_append.1 hx).elim (two_sep _ x) (two_sep _ x)) hc, toks_app (clock_sep n) hc]
/-- A moment's text tells that moment. -/
theorem cookie_text {mo y m d : Int} (h : civil (mo / 86400) = some (y, m, d)) : cookie (text mo) = (mo, true) := by
  obtain ⟨hI, hd⟩ := civil_some.1 h
  have hn : (mo % 86400).toNat < 86400 := by omega
  have ht : text mo = dateT y m d (mo / 86400) (mo % 86400).toNat := by unfold text; rw [h]
  obtain ⟨w1, w2⟩ := week_tell (mo / 86400 % 7).toNat (by omega)
  rw [ht]
  unfold cookie told dateT wname
  rw [toks_app w2 (by decide), toks_sep (by decide)]
  have e := toks_tail hI (mo % 86400).toNat (c := 32) (by decide) []
  rw [List.append_nil] at e
  rw [e, List.foldl_cons, w1, List.foldl_cons, tell_nil]
  have e2 : toks [71, 77, 84] = [[71, 77, 84]] := toks_one (by decide)
  rw [e2]
  have e3 := five_told hI hn
  unfold five at e3
  rw [e3, moment_full hI hn, hd]
  congr 1
  omega
theorem text_none {mo : Int} (h : civil (mo / 86400) = none) : text mo = [] := by unfold text; rw [h]
end Dt
end Go.Proofs.YtpimaobejjpffaaGreatDoor
/- What parts the tokens of a moment's text doesn't matter: plain. No program is named here. -/
namespace Go.Proofs.YtpimaobejjpffaaGreatDoor
namespace Dt
theorem wname_length (k : Int) : (wname k).length = 3 := by
  unfold wname
  have hj : (k % 7).toNat < 7 := by omega
  generalize (k % 7).toNat = j at *
  have : j = 0 ∨ j = 1 ∨ j = 2 ∨ j = 3 ∨ j = 4 ∨ j = 5 ∨ j = 6 := by omega
  rcases this with rfl | rfl | rfl | rfl | rfl | rfl | rfl <;> rfl
theorem mname_length {m : Int} (h1 : 1 ≤ m) (h2 : m ≤ 12) : (mname m).length = 3 := by
  unfold mname
  have hj : (m - 1).toNat < 12 := by omega
  generalize (m - 1).toNat = j at *
  have : j = 0 ∨ j = 1 ∨ j = 2 ∨ j = 3 ∨ j = 4 ∨ j = 5 ∨ j = 6 ∨ j = 7 ∨ j = 8 ∨ j = 9 ∨ j = 10 ∨ j = 11 := by omega
  rcases this with rfl | rfl | rfl | rfl | rfl | rfl | rfl | rfl | rfl | rfl | rfl | rfl <;> rfl
theorem two_length (n : Nat) : (two n).length = 2 := rfl
theorem clock_length (n : Nat) : (clock n).length = 8 := rfl
/-- What stands behind the day of the week, parted by some byte. -/
def tailT (y m d : Int) (n : Nat) (c : UInt8) (r : List UInt8) : List UInt8 := two d.toNat ++ c :: (mname m ++ c :: ((two (y.toNat / 100) ++ two (y.toNat % 100)) ++ c :: (clock n ++ c :: ([71, 77, 84] ++ r))))
theorem date_tail (y m d k : Int) (n : Nat) : dateT y m d k n = (wname k ++ [44, 32]) ++ tailT y m d n 32 [] := by
  unfold dateT tailT
  simp
theorem date_length {y m d : Int} (h : Is y m d) (k : Int) (n : Nat) : (dateT y m d k n).length = 29 := by
  obtain ⟨_, _, h1, h2, _⟩ := h
  rw [date_tail]
  unfold tailT
  simp only [List.length_append, List.length_cons, List.length_nil, wname_length, mname_length h1 h2, two_length, clock_length]
theorem date_drop (y m d k : Int) (n : Nat) : (dateT y m d k n).drop 5 = tailT y m d n 32 [] := by
  rw [date_tail]
  exact List.drop_left' (by rw [List.length_append, wname_length]; rfl)
/-- Each blank made another byte. -/
def blanks (c : UInt8) (l : List UInt8) : List UInt8 := l.map fun x => if x = 32 then c else x
theorem blanks_none {c : UInt8} {a : List UInt8} (h : ∀ x ∈ a, sepB x = false) : blanks c a = a := by
  unfold blanks
  conv => rhs; rw [← List.map_id a]
  refine List.map_congr_left fun x hx => ?_
  rw [if_neg (fun e => by have := h x hx; rw [e] at this; exact absurd this (by decide))]; rfl
theorem blanks_app (c : UInt8) (a b : List UInt8) : blanks c (a ++ b) = blanks c a ++ blanks c b := List.map_append
theorem blanks_cons (c : UInt8) (b : List UInt8) : blanks c (32 :: b) = c :: blanks c b := by unfold blanks; rw [List.map_cons, if_pos rfl]
theorem tail_blanks {y m d : Int} (h : Is y m d) (n : Nat) (c : UInt8) : blanks c (tailT y m d n 32 []) = tailT y m d n c [] := by
  obtain ⟨_, _, h1, h2, _⟩ := h
  unfold tailT
  rw [blanks_app, blanks_none (two_sep _), blanks_cons, blanks_app, blanks_none (a := mname m) (month_facts (m - 1).toNat (by omega)).2.2, blanks_cons, blanks_app, blanks_none (fun x hx => (List.mem_append.1 hx).elim (two_sep _ x) (two_sep _ x)), blanks_cons, blanks_app, blanks_none (clock_sep n), blanks_cons, List.append_nil, blanks_none (by decide)]
theorem cookie_tail {mo y m d : Int} (h : civil (mo / 86400) = some (y, m, d)) {c : UInt8} (hc : sepB c = true) : cookie (tailT y m d (mo % 86400).toNat c []) = (mo, true) := by
  obtain ⟨hI, hd⟩ := civil_some.1 h
  have hn : (mo % 86400).toNat < 86400 := by omega
  unfold cookie told tailT
  have e := toks_tail hI (mo % 86400).toNat hc []
  rw [e, List.append_nil]
  have e2 : toks [71, 77, 84] = [[71, 77, 84]] := toks_one (by decide)
  rw [e2]
  have e3 := five_told hI hn
  unfold five at e3
  rw [e3, moment_full hI hn, hd]
  congr 1
  omega
theorem cookie_around {mo y m d : Int} (h : civil (mo / 86400) = some (y, m, d)) {c : UInt8} (hc : sepB c = true) : cookie (120 :: c :: c :: (tailT y m d (mo % 86400).toNat c [] ++ [c, 121])) = (mo, true) := by
  obtain ⟨hI, hd⟩ := civil_some.1 h
  have hn : (mo % 86400).toNat < 86400 := by omega
  have ht : tailT y m d (mo % 86400).toNat c [] ++ [c, 121] = tailT y m d (mo % 86400).toNat c [c, 121] := by
    unfold tailT
    simp
  have hx : toks (120 :: c :: c :: tailT y m d (mo % 86400).toNat c [c, 121]) = [120] :: [] :: toks (tailT y m d (mo % 86400).toNat c [c, 121]) := by
    have e := toks_app (a := [120]) (by decide) hc (c :: tailT y m d (mo % 86400).toNat c [c, 121])
    rw [toks_sep hc] at e
    exact e
  unfold cookie told
  rw [ht, hx]
  unfold tailT
  rw [toks_tail hI (mo % 86400).toNat hc [c, 121]]
  have e2 : toks ([71, 77, 84] ++ [c, 121]) = [[71, 77, 84], [121]] := by
    rw [toks_app (a := [71, 77, 84]) (by decide) hc [121], toks_one (by decide)]
  have e0 : tell untold [120] = untold := by rfl
  rw [e2, List.foldl_cons, e0, List.foldl_cons, tell_nil]
  have e3 := five_told hI hn
  unfold five at e3
  rw [show (two d.toNat :: mname m :: (two (y.toNat / 100) ++ two (y.toNat % 100)) :: clock (mo % 86400).toNat :: [[71, 77, 84], [121]]) = [two d.toNat, mname m, two (y.toNat / 100) ++ two (y.toNat % 100), clock (mo % 86400).toNat, [71, 77, 84]] ++ [[121]] from rfl, List.foldl_append, e3, List.foldl_cons, List.foldl_nil, tell_full_any, moment_full hI hn, hd]
  congr 1
  omega
/-- Division that cuts towards nought. -/
theorem cut_days (mo : Int) : (mo.tmod 86400 < 0 → mo / 86400 = mo.tdiv 86400 - 1) ∧ (0 ≤ mo.tmod 86400 → mo / 86400 = mo.tdiv 86400 ∧ mo % 86400 = mo.tmod 86400) := by
  have e1 := Int.tmod_add_mul_tdiv mo 86400
  have e2 : mo.tmod 86400 < 86400 := Int.tmod_lt_of_pos _ (by omega)
  have e3 : -86400 < mo.tmod 86400 := by
    rcases Int.le_total 0 mo with h | h
    · have := Int.tmod_nonneg 86400 h; omega
    · have h1 := Int.tmod_lt_of_pos (-mo) (b := 86400) (by omega)
      rw [Int.neg_tmod] at h1
      omega
  omega
end Dt
end Go.Proofs.YtpimaobejjpffaaGreatDoor
