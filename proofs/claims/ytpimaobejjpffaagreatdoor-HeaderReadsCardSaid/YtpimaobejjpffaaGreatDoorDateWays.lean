/- Plain lemmas on the ways through the package's and the reference's loops over dates and tokens. No program is named here. -/
import Derived.Test.YtpimaobejjpffaaGreatDoorDates
import Derived.Lib.ItoaNum
namespace Go.Proofs.YtpimaobejjpffaaGreatDoor
namespace Dt
/-! ### Years and months -/
theorem before_new (y : Int) : before y - 134774 = (y - 1) * 365 + (y - 1) / 4 - (y - 1) / 100 + (y - 1) / 400 - 719162 := by unfold before; omega
theorem before_mono {y z : Int} (h : y ≤ z) : before y ≤ before z := by
  rcases Int.lt_or_eq_of_le h with j | j
  · have := before_le j; have := yday_bounds y; omega
  · rw [j]; exact Int.le_refl _
theorem before_last : before 10000 = 3067671 := by decide
theorem mon_bounds (y : Int) {m : Int} (h1 : 1 ≤ m) (h2 : m ≤ 12) : 0 ≤ mon (leap y) m ∧ mon (leap y) m ≤ 335 := by
  have : m = 1 ∨ m = 2 ∨ m = 3 ∨ m = 4 ∨ m = 5 ∨ m = 6 ∨ m = 7 ∨ m = 8 ∨ m = 9 ∨ m = 10 ∨ m = 11 ∨ m = 12 := by omega
  rcases this with rfl | rfl | rfl | rfl | rfl | rfl | rfl | rfl | rfl | rfl | rfl | rfl <;> cases leap y <;> decide
/-- The months of a year, one behind the other: what is left of the days. -/
structure InYear (y n m r : Int) : Prop where
  low : 1 ≤ m
  high : m ≤ 12
  left : 0 ≤ r
  sum : mon (leap y) m + r = n
theorem InYear.start {y n : Int} (h : 0 ≤ n) : InYear y n 1 n := ⟨by omega, by omega, h, by rw [mon_first]; omega⟩
theorem InYear.more {y n m r : Int} (h : InYear y n m r) (hn : n < yday y) (hr : len (leap y) m ≤ r) : InYear y n (m + 1) (r - len (leap y) m) := by
  obtain ⟨h1, h2, h3, h4⟩ := h
  have hl := mon_last y
  have h12 : m ≠ 12 := by intro e; subst e; omega
  refine ⟨by omega, by omega, by omega, ?_⟩
  rw [mon_step _ h1 (by omega)]; omega
theorem InYear.stop {y n m r d : Int} (h : InYear y n m r) (hy1 : 1601 ≤ y) (hy2 : y ≤ 9999) (hd : d = n + (before y - 134774)) (hr : r < len (leap y) m) : civil d = some (y, m, r + 1) := by
  obtain ⟨h1, h2, h3, h4⟩ := h
  rw [civil_some]
  refine ⟨⟨hy1, hy2, h1, h2, by omega, by omega⟩, ?_⟩
  unfold days; omega
/-- The year of a day. -/
theorem year_of {d : Int} (h1 : -134774 ≤ d) (h2 : d ≤ 2932896) : ∃ y : Nat, 1601 ≤ y ∧ y ≤ 9999 ∧ before y - 134774 ≤ d ∧ d < before (y + 1) - 134774 := by
  obtain ⟨y, m, e, hI, hd⟩ := some_date h1 h2
  have hi := in_year hI
  have hs := before_step y
  obtain ⟨a, b, _⟩ := hI
  unfold days at hd
  refine ⟨y.toNat, by omega, by omega, ?_, ?_⟩
  · rw [Int.toNat_of_nonneg (by omega)]; omega
  · rw [Int.toNat_of_nonneg (by omega), hs]; omega
/-- Which years begin behind a day, asked by their number from 1602 on. -/
def newB (d : Int) (i : Nat) : Bool := decide (d < before (1601 + i + 1) - 134774)
theorem newB_mono {d : Int} {i j : Nat} (h : i ≤ j) (hi : newB d i = true) : newB d j = true := by
  unfold newB at hi ⊢
  have hi := of_decide_eq_true hi
  have := before_mono (y := 1601 + i + 1) (z := 1601 + j + 1) (by omega)
  exact decide_eq_true (by omega)
theorem newB_no {d : Int} {y i : Nat} (h1 : before y - 134774 ≤ d) (h : 1601 + i < y) : newB d i = false := by
  unfold newB
  have := before_mono (y := 1601 + i + 1) (z := y) (by omega)
  exact decide_eq_false (by omega)
theorem newB_yes {d : Int} {y i : Nat} (h1 : d < before (y + 1) - 134774) (h : y ≤ 1601 + i) : newB d i = true := by
  unfold newB
  have := before_mono (y := y + 1) (z := 1601 + i + 1) (by omega)
  exact decide_eq_true (by omega)
/-! ### The text of a year -/
theorem decDigits_step {n : Nat} (h : ¬ n < 10) : Lib.decDigits n = Lib.decDigits (n / 10) ++ [UInt8.ofNat (48 + n % 10)] := by
  conv => lhs; unfold Lib.decDigits
  rw [dif_neg h]
theorem decDigits_last {n : Nat} (h : n < 10) : Lib.decDigits n = [UInt8.ofNat (48 + n)] := by unfold Lib.decDigits; rw [dif_pos h]
theorem dec_year {y : Nat} (h1 : 1000 ≤ y) (h2 : y ≤ 9999) : Lib.decDigits y = two (y / 100) ++ two (y % 100) := by
  rw [decDigits_step (n := y) (by omega), decDigits_step (n := y / 10) (by omega), decDigits_step (n := y / 10 / 10) (by omega), decDigits_last (n := y / 10 / 10 / 10) (by omega)]
  unfold two
  have e1 : y / 100 / 10 % 10 = y / 10 / 10 / 10 := by omega
  have e2 : y / 100 % 10 = y / 10 / 10 % 10 := by omega
  have e3 : y % 100 / 10 % 10 = y / 10 % 10 := by omega
  have e4 : y % 100 % 10 = y % 10 := by omega
  rw [e1, e2, e3, e4]; rfl
/-- The days of the week, Monday first. -/
def wdays : List (List UInt8) := [[77, 111, 110], [84, 117, 101], [87, 101, 100], [84, 104, 117], [70, 114, 105], [83, 97, 116], [83, 117, 110]]
theorem wday (n : Int) : wdays[((n + 134774) % 7).toNat]? = some (wname n) := by
  unfold wname
  obtain ⟨j, hj⟩ : ∃ j, n % 7 = j := ⟨_, rfl⟩
  have e : (n + 134774) % 7 = (j + 3) % 7 := by omega
  have hb : 0 ≤ j ∧ j < 7 := by omega
  rw [e, hj]
  have : j = 0 ∨ j = 1 ∨ j = 2 ∨ j = 3 ∨ j = 4 ∨ j = 5 ∨ j = 6 := by omega
  rcases this with rfl | rfl | rfl | rfl | rfl | rfl | rfl <;> rfl
theorem mname_at {m : Int} (h1 : 1 ≤ m) (h2 : m ≤ 12) : mnames[(m - 1).toNat]? = some (mname m) := by
  unfold mname
  cases e : mnames[(m - 1).toNat]? with
  | some x => rfl
  | none =>
    rw [List.getElem?_eq_none_iff] at e
    have : mnames.length = 12 := rfl
    omega
/-! ### Tokens, cut off one by one -/
theorem fold_cut {p r : List UInt8} (hp : ∀ c ∈ p, sepB c = false) {c : UInt8} (hc : sepB c = true) (T : Told) : (toks (p ++ c :: r)).foldl tell T = (toks r).foldl tell (tell T p) := by
  rw [toks_app hp hc, List.foldl_cons]
theorem fold_last {p : List UInt8} (hp : ∀ c ∈ p, sepB c = false) (T : Told) : (toks p).foldl tell T = (toks []).foldl tell (tell T p) := by
  rw [toks_one hp]
  show tell T p = tell (tell T p) []
  rw [tell_nil]
theorem fold_nil (T : Told) : (toks []).foldl tell T = T := tell_nil T
/-- What stands ahead of the first byte that parts, and what stands behind it. -/
def cutP : List UInt8 → List UInt8 × List UInt8
  | [] => ([], [])
  | c :: r => if sepB c = true then ([], r) else (c :: (cutP r).1, (cutP r).2)
theorem cutP_le : ∀ s : List UInt8, (cutP s).1.length ≤ s.length ∧ (cutP s).2.length ≤ s.length - 1
  | [] => ⟨Nat.le_refl _, Nat.le_refl _⟩
  | c :: r => by
    have ih := cutP_le r
    rw [cutP]
    split
    · exact ⟨Nat.zero_le _, Nat.le_refl _⟩
    · refine ⟨by simp; omega, by simp; omega⟩
theorem cutP_at {s : List UInt8} {k : Nat} {c : UInt8} (h : ∀ x ∈ s.take k, sepB x = false) (hk : s[k]? = some c) (hc : sepB c = true) : cutP s = (s.take k, s.drop (k + 1)) := by
  induction s generalizing k with
  | nil => simp at hk
  | cons x r ih =>
    cases k with
    | zero =>
      simp at hk
      subst hk
      rw [cutP, if_pos hc]; rfl
    | succ k =>
      have hx : sepB x = false := h x (by simp)
      rw [cutP, if_neg (by rw [hx]; simp), ih (k := k) (fun y hy => h y (by rw [List.take_succ_cons]; exact List.mem_cons_of_mem _ hy)) (by simpa using hk)]
      rfl
theorem cutP_none {s : List UInt8} (h : ∀ x ∈ s, sepB x = false) : cutP s = (s, []) := by
  induction s with
  | nil => rfl
  | cons x r ih => rw [cutP, if_neg (by rw [h x (by simp)]; simp), ih (fun y hy => h y (by simp [hy]))]
theorem fold_cutP (s : List UInt8) (T : Told) : (toks s).foldl tell T = (toks (cutP s).2).foldl tell (tell T (cutP s).1) := by
  by_cases h : ∀ x ∈ s, sepB x = false
  · rw [cutP_none h]; exact fold_last h T
  · induction s generalizing T with
    | nil => exact absurd (fun x hx => by cases hx) h
    | cons x r ih =>
      rw [cutP]
      split
      · rename_i hx
        rw [toks_sep hx, List.foldl_cons]
      · rename_i hx
        have hx' : sepB x = false := by cases e : sepB x with | false => rfl | true => exact absurd e hx
        have hr : ¬ ∀ y ∈ r, sepB y = false := fun g => h fun y hy => by
          rcases List.mem_cons.1 hy with rfl | hy
          · exact hx'
          · exact g y hy
        -- the first piece, whatever it tells
        obtain ⟨c, hc1, hc2⟩ : ∃ c ∈ r, sepB c = true := by
          refine Classical.byContradiction fun g => hr fun y hy => ?_
          cases e : sepB y with
          | false => rfl
          | true => exact absurd ⟨y, hy, e⟩ g
        have key : ∀ l : List UInt8, (∃ c ∈ l, sepB c = true) → toks l = (cutP l).1 :: toks (cutP l).2 := by
          intro l
          induction l with
          | nil => rintro ⟨c, hc, _⟩; cases hc
          | cons y l ihl =>
            rintro ⟨c, hc, hs⟩
            rw [cutP]
            split
            · rename_i hy; rw [toks_sep hy]
            · rename_i hy
              have hy' : sepB y = false := by cases e : sepB y with | false => rfl | true => exact absurd e hy
              rw [toks_non hy', ihl ?_]
              rcases List.mem_cons.1 hc with rfl | hc
              · rw [hs] at hy'; cases hy'
              · exact ⟨c, hc, hs⟩
        rw [toks_non hx', key r ⟨c, hc1, hc2⟩]
        rfl
/-! ### Numbers at a token's beginning -/
theorem lead_le (s : List UInt8) : lead s ≤ s.length := by unfold lead; exact (List.takeWhile_prefix _).length_le
theorem take_lead (s : List UInt8) : s.take (lead s) = s.takeWhile Oct.digitB := by
  unfold lead
  induction s with
  | nil => rfl
  | cons c r ih =>
    rw [List.takeWhile_cons]
    split
    · rw [List.length_cons, List.take_succ_cons, ih]
    · rfl
theorem drop_lead (s : List UInt8) : s.drop (lead s) = s.dropWhile Oct.digitB := by
  unfold lead
  induction s with
  | nil => rfl
  | cons c r ih =>
    rw [List.takeWhile_cons, List.dropWhile_cons]
    split
    · rw [List.length_cons, List.drop_succ_cons, ih]
    · rfl
theorem lead_digit {s : List UInt8} {k : Nat} (h : k < lead s) : ∃ c, s[k]? = some c ∧ Oct.digitB c = true := by
  have hl := lead_le s
  have hk : k < s.length := by omega
  refine ⟨s[k], List.getElem?_eq_getElem hk, ?_⟩
  have hm : s[k] ∈ s.take (lead s) := List.mem_take_iff_getElem.2 ⟨k, by omega, rfl⟩
  rw [take_lead] at hm
  exact List.all_eq_true.1 List.all_takeWhile _ hm
theorem lead_stop {s : List UInt8} {c : UInt8} (h : s[lead s]? = some c) : Oct.digitB c = false := by
  have e : (s.drop (lead s))[0]? = some c := by rw [List.getElem?_drop]; exact h
  rw [drop_lead] at e
  cases hs : s.dropWhile Oct.digitB with
  | nil => rw [hs] at e; cases e
  | cons x r =>
    rw [hs] at e
    have hx : x = c := Option.some.inj e
    subst hx
    have := List.head?_dropWhile_not Oct.digitB s
    rw [hs] at this
    simpa using this
theorem lead_of {s : List UInt8} {n : Nat} (h1 : ∀ k, k < n → ∃ c, s[k]? = some c ∧ Oct.digitB c = true) (h2 : ∀ c, s[n]? = some c → Oct.digitB c = false) : lead s = n := by
  rcases Nat.lt_trichotomy (lead s) n with h | h | h
  · obtain ⟨c, e, hc⟩ := h1 _ h
    rw [lead_stop e] at hc; cases hc
  · exact h
  · obtain ⟨c, e, hc⟩ := lead_digit h
    rw [h2 c e] at hc; cases hc
theorem lead_drop (s : List UInt8) : lead (s.drop (lead s)) = 0 := by
  refine lead_of (n := 0) (fun k hk => absurd hk (Nat.not_lt_zero _)) (fun c hc => ?_)
  rw [List.getElem?_drop] at hc
  exact lead_stop hc
theorem num_lt : ∀ {l : List UInt8}, (∀ c ∈ l, Oct.digitB c = true) → Oct.numOf l < 10 ^ l.length := by
  intro l h
  have key : ∀ (l : List UInt8) (n : Nat), (∀ c ∈ l, Oct.digitB c = true) → l.foldl (fun n c => n * 10 + (c.toNat - 48)) n < (n + 1) * 10 ^ l.length := by
    intro l
    induction l with
    | nil => intro n _; simp
    | cons c r ih =>
      intro n h
      have hc : Oct.digitB c = true := h c (by simp)
      have hb : 48 ≤ c.toNat ∧ c.toNat ≤ 57 := by simpa [Oct.digitB] using hc
      have h1 := ih (n * 10 + (c.toNat - 48)) (fun x hx => h x (by simp [hx]))
      rw [List.foldl_cons, List.length_cons, Nat.pow_succ]
      refine Nat.lt_of_lt_of_le h1 ?_
      have h2 : (n * 10 + (c.toNat - 48) + 1) ≤ (n + 1) * 10 := by omega
      calc (n * 10 + (c.toNat - 48) + 1) * 10 ^ r.length ≤ ((n + 1) * 10) * 10 ^ r.length := Nat.mul_le_mul_right _ h2
        _ = (n + 1) * (10 ^ r.length * 10) := by rw [Nat.mul_assoc, Nat.mul_comm 10]
  have := key l 0 h
  simpa [Oct.numOf] using this
theorem num_take_lt {s : List UInt8} {k : Nat} (hk : k ≤ lead s) : Oct.numOf (s.take k) < 10 ^ k := by
  have hl := lead_le s
  have h := num_lt (l := s.take k) (fun c hc => by
    obtain ⟨j, hj, e⟩ := List.mem_take_iff_getElem.1 hc
    obtain ⟨d, e2, hd⟩ := lead_digit (s := s) (k := j) (by omega)
    rw [List.getElem?_eq_getElem (by omega)] at e2
    rw [← e, Option.some.inj e2]; exact hd)
  rw [List.length_take, Nat.min_eq_left (by omega)] at h
  exact h
/-- A number that digits at the beginning are, if they are as many as asked. -/
def cutN (s : List UInt8) (least most : Nat) : Option (Nat × List UInt8) := if least ≤ lead s ∧ lead s ≤ most then some (Oct.numOf (s.take (lead s)), s.drop (lead s)) else none
theorem cutN_two (s : List UInt8) : cutN s 1 2 = tnum s := rfl
theorem cutN_lt {s r : List UInt8} {a b n : Nat} (h : cutN s a b = some (n, r)) (hb : b ≤ 4) : n < 10000 ∧ r.length ≤ s.length ∧ lead r = 0 := by
  unfold cutN at h
  split at h
  · rename_i hh
    obtain ⟨e1, e2⟩ := Prod.mk.inj (Option.some.inj h)
    have h1 := num_take_lt (s := s) (k := lead s) (Nat.le_refl _)
    have h2 : 10 ^ lead s ≤ 10 ^ 4 := Nat.pow_le_pow_right (by omega) (by omega)
    refine ⟨by omega, by rw [← e2, List.length_drop]; omega, by rw [← e2]; exact lead_drop s⟩
  · cases h
/-! ### A time -/
theorem tnum_none {r : List UInt8} (h : lead r = 0) : tnum r = none := by unfold tnum; rw [h, if_neg (by omega)]
/-- What stands behind a colon, or all. -/
def skip (r : List UInt8) : List UInt8 := Lib.trimPrefix r [58]
theorem skip_cases (r : List UInt8) : (∃ q, tcol r = some q ∧ skip r = q) ∨ (tcol r = none ∧ skip r = r) := by
  unfold skip Lib.trimPrefix Lib.hasPrefix
  cases r with
  | nil => exact .inr ⟨rfl, rfl⟩
  | cons c q =>
    by_cases h : c = 58
    · subst h; exact .inl ⟨q, rfl, by simp⟩
    · refine .inr ⟨by show (if c = 58 then some q else none) = none; rw [if_neg h], ?_⟩
      rw [if_neg]
      simp; intro e; exact h e.symm
theorem skip_le (r : List UInt8) : (skip r).length ≤ r.length := by
  rcases skip_cases r with ⟨q, h, e⟩ | ⟨_, e⟩
  · rw [e]
    unfold tcol at h
    cases r with
    | nil => cases h
    | cons c s =>
      dsimp only at h
      split at h
      · cases h; simp
      · cases h
  · rw [e]; exact Nat.le_refl _
/-- The numbers of a time, one behind the other; what stands behind the first k. -/
structure Clock (s : List UInt8) (k : Nat) (ns : List Nat) (r : List UInt8) : Prop where
  few : ns.length = k
  small : ∀ n ∈ ns, n < 10000
  shorter : r.length ≤ s.length
  all : time3 s = match k, ns with
    | 0, _ => (do let (a, r) ← tnum r; let r ← tcol r; let (b, r) ← tnum r; let r ← tcol r; let (c, _) ← tnum r; pure (a, b, c))
    | 1, [a] => (do let (b, r) ← tnum r; let r ← tcol r; let (c, _) ← tnum r; pure (a, b, c))
    | 2, [a, b] => (do let (c, _) ← tnum r; pure (a, b, c))
    | 3, [a, b, c] => some (a, b, c)
    | _, _ => none
theorem Clock.start (s : List UInt8) : Clock s 0 [] s := ⟨rfl, by simp, Nat.le_refl _, rfl⟩
theorem Clock.no {s r : List UInt8} {k : Nat} {ns : List Nat} (h : Clock s k ns r) (hk : k < 3) (hn : tnum r = none) : time3 s = none := by
  rw [h.all]
  have hf := h.few
  match k, ns, hk, hf with
  | 0, _, _, _ => dsimp only; rw [hn]; rfl
  | 1, [a], _, _ => dsimp only; rw [hn]; rfl
  | 2, [a, b], _, _ => dsimp only; rw [hn]; rfl
theorem Clock.more {s r q : List UInt8} {k n : Nat} {ns : List Nat} (h : Clock s k ns r) (hk : k < 3) (hn : tnum r = some (n, q)) : Clock s (k + 1) (ns ++ [n]) (skip q) := by
  have hc := cutN_lt (a := 1) (b := 2) (show cutN r 1 2 = some (n, q) from hn) (by omega)
  have hs := skip_le q
  have hr := h.shorter
  refine ⟨by rw [List.length_append, h.few]; rfl, fun x hx => ?_, by omega, ?_⟩
  · rcases List.mem_append.1 hx with hx | hx
    · exact h.small x hx
    · rw [List.mem_singleton.1 hx]; exact hc.1
  · rw [h.all]
    have hf := h.few
    match k, ns, hk, hf with
    | 0, [], _, _ =>
      dsimp only [List.nil_append]
      rw [hn]
      rcases skip_cases q with ⟨u, e1, e2⟩ | ⟨e1, e2⟩
      · rw [e2]
        simp only [Option.bind_eq_bind, Option.bind_some, e1]
      · rw [e2, tnum_none hc.2.2]
        simp only [Option.bind_eq_bind, Option.bind_some, e1, Option.bind_none]
    | 1, [a], _, _ =>
      dsimp only [List.cons_append, List.nil_append]
      rw [hn]
      rcases skip_cases q with ⟨u, e1, e2⟩ | ⟨e1, e2⟩
      · rw [e2]
        simp only [Option.bind_eq_bind, Option.bind_some, e1]
      · rw [e2, tnum_none hc.2.2]
        simp only [Option.bind_eq_bind, Option.bind_some, e1, Option.bind_none]
    | 2, [a, b], _, _ =>
      dsimp only [List.cons_append, List.nil_append]
      rw [hn]
      rfl
theorem Clock.done {s r : List UInt8} {ns : List Nat} (h : Clock s 3 ns r) : ∃ a b c, ns = [a, b, c] ∧ time3 s = some (a, b, c) ∧ a < 10000 ∧ b < 10000 ∧ c < 10000 := by
  have hf := h.few
  have ha := h.all
  have hs := h.small
  match ns, hf with
  | [a, b, c], _ => exact ⟨a, b, c, rfl, ha, hs a (by simp), hs b (by simp), hs c (by simp)⟩
end Dt
end Go.Proofs.YtpimaobejjpffaaGreatDoor
