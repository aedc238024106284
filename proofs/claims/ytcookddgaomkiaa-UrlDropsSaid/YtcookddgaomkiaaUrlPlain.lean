/- Plain functions on URLs, and plain lemmas on them. No program is named here. -/
import Derived.Test.YtcookddgaomkiaaHostPlain
namespace Go.Proofs.Ytcookddgaomkiaa
namespace Hst
/-- A host's text, of whatever kind. -/
def text (h : Host) : List UInt8 := if h.kind = 1 then h.name else if h.kind = 2 then Adr.tx4 (h.addr.drop 12) else if h.kind = 3 then 91 :: (Adr.tx6 (Adr.groups h.addr) ++ [93]) else []
/-- Can it be? -/
def can (h : Host) : Bool := decide (parse (text h) = some h)
theorem can_right {h : Host} (hk : h.kind = 1) : can h = right h := by unfold can right text; rw [if_pos hk]
/-! ### The bytes of a text that is a host -/
theorem mem_join {at_ c : UInt8} : ∀ {ps : List (List UInt8)}, c ∈ Lib.join ps [at_] → c = at_ ∨ ∃ p ∈ ps, c ∈ p
  | [], h => by rw [Lib.join_nil] at h; cases h
  | [x], h => by rw [Lib.join_one] at h; exact .inr ⟨x, by simp, h⟩
  | x :: y :: r, h => by
    rw [Adr.join_step] at h
    rcases List.mem_append.1 h with h | h
    · exact .inr ⟨x, by simp, h⟩
    · rcases List.mem_cons.1 h with h | h
      · exact .inl h
      · rcases mem_join h with h | ⟨p, hp, hc⟩
        · exact .inl h
        · exact .inr ⟨p, by simp [List.mem_cons.1 hp], hc⟩
theorem mem_split {at_ c : UInt8} {l : List UInt8} (h : c ∈ l) : c = at_ ∨ ∃ p ∈ Oct.split at_ l, c ∈ p := by
  rw [← join_split at_ l] at h
  exact mem_join h
def v6B (c : UInt8) : Bool := Adr.hexB c || decide (c = 58)
theorem isRow_bytes {b : List UInt8} (h : Adr.isRow b = true) : ∀ c ∈ b, v6B c = true := by
  intro c hc
  unfold Adr.isRow at h
  by_cases hb : b = []
  · subst hb; cases hc
  · rw [decide_eq_false hb, Bool.false_or] at h
    rcases mem_split (at_ := 58) hc with rfl | ⟨p, hp, hcp⟩
    · rfl
    · have := List.all_eq_true.1 h p hp
      unfold Adr.isGrp at this
      rw [Bool.and_eq_true] at this
      unfold v6B
      rw [List.all_eq_true.1 this.2 c hcp]; rfl
theorem v6_bytes {s : List UInt8} {g : List UInt16} (h : Adr.v6 s = some g) : ∀ c ∈ s, v6B c = true := by
  unfold Adr.v6 at h
  split at h
  · rename_i hh
    obtain ⟨h1, h2, _⟩ := hh
    have b1 := isRow_bytes h1
    have b2 := isRow_bytes h2
    intro c hc
    by_cases hk : ∃ j, Adr.Two s j
    · obtain ⟨j, hj⟩ := hk
      obtain ⟨i, _, hi, hn⟩ := Adr.first_of hj
      rw [cut_first hi hn] at b1 b2
      rw [hi.split] at hc
      rcases List.mem_append.1 hc with hc | hc
      · exact b1 c hc
      · rcases List.mem_cons.1 hc with rfl | hc
        · rfl
        · rcases List.mem_cons.1 hc with rfl | hc
          · rfl
          · exact b2 c hc
    · have e : Lib.cut s [58, 58] = (s, [], false) := Adr.cut_none fun j hj => hk ⟨j, hj⟩
      rw [e] at b1
      exact b1 c hc
  · cases h
theorem v4_bytes {s l : List UInt8} (h : Adr.v4 s = some l) : s ≠ [] ∧ ∀ c ∈ s, okB c = true ∨ c = 46 := by
  unfold Adr.v4 at h
  split at h
  · rename_i hh
    obtain ⟨h1, h2⟩ := hh
    refine ⟨by rintro rfl; exact absurd h1 (by decide), fun c hc => ?_⟩
    rcases mem_split (at_ := 46) hc with rfl | ⟨p, hp, hcp⟩
    · exact .inr rfl
    · have := List.all_eq_true.1 h2 p hp
      unfold Adr.okNum Oct.isNum Oct.digits at this
      simp only [Bool.and_eq_true] at this
      have hd := List.all_eq_true.1 this.1.1.1.2 c hcp
      unfold Oct.digitB at hd
      have := of_decide_eq_true hd
      exact .inl (decide_eq_true (by omega))
  · cases h
theorem name_bytes {s : List UInt8} (h : (Oct.split 46 s).all lab = true) : s ≠ [] ∧ ∀ c ∈ s, okB c = true ∨ c = 46 := by
  refine ⟨by rintro rfl; exact absurd h (by decide), fun c hc => ?_⟩
  rcases mem_split (at_ := 46) hc with rfl | ⟨p, hp, hcp⟩
  · exact .inr rfl
  · exact .inl ((lab_facts (List.all_eq_true.1 h p hp)).2.2 c hcp)
theorem parse_bytes {x : List UInt8} {h : Host} (hp : parse x = some h) : (∃ r, x = 91 :: (r ++ [93]) ∧ ∀ c ∈ r, v6B c = true) ∨ (x.head? ≠ some 91 ∧ x ≠ [] ∧ ∀ c ∈ x, okB c = true ∨ c = 46) := by
  unfold parse at hp
  split at hp
  · cases hp
  · split at hp
    · rename_i hh
      unfold v6part at hp
      split at hp
      · rename_i hl
        cases hv : Adr.v6 x.tail.dropLast with
        | none => rw [hv] at hp; cases hp
        | some g =>
          refine .inl ⟨x.tail.dropLast, ?_, v6_bytes hv⟩
          cases x with
          | nil => cases hh
          | cons c r =>
            simp at hh
            subst hh
            show 91 :: r = 91 :: (r.dropLast ++ [93])
            rcases List.eq_nil_or_concat r with rfl | ⟨q, d, rfl⟩
            · cases hl
            · rw [List.concat_eq_append] at hl ⊢
              simp at hl
              rw [hl, List.dropLast_concat]
      · cases hp
    · rename_i hh
      split at hp
      · unfold v4part at hp
        cases hv : Adr.v4 x with
        | none => rw [hv] at hp; cases hp
        | some l => exact .inr ⟨hh, v4_bytes hv⟩
      · split at hp
        · rename_i ha
          exact .inr ⟨hh, name_bytes ha⟩
        · cases hp
end Hst
namespace Ur
structure URL where
  secure : Bool
  host : Hst.Host
  port : Int
  path : List UInt8
instance : DecidableEq URL := fun a b =>
  if h : a.secure = b.secure ∧ a.host = b.host ∧ a.port = b.port ∧ a.path = b.path then isTrue (by
    cases a; cases b
    obtain ⟨h1, h2, h3, h4⟩ := h
    simp only at h1 h2 h3 h4
    rw [h1, h2, h3, h4])
  else isFalse (by rintro rfl; exact h ⟨rfl, rfl, rfl, rfl⟩)
def zero : URL := ⟨false, Hst.zero, 0, []⟩
/-- May a path have this byte? -/
def okP (c : UInt8) : Bool := decide (33 ≤ c.toNat ∧ c.toNat ≤ 126 ∧ c.toNat ≠ 63 ∧ c.toNat ≠ 35)
def isPath (s : List UInt8) : Bool := s.all okP && (decide (1 ≤ s.length ∧ s.length ≤ 2048) && decide (s.head? = some 47))
def right (u : URL) : Bool := Hst.can u.host && (decide (1 ≤ u.port ∧ u.port ≤ 65535) && isPath u.path)
def http : List UInt8 := [104, 116, 116, 112, 58, 47, 47]
def https : List UInt8 := [104, 116, 116, 112, 115, 58, 47, 47]
/-- The first place of one of some bytes; the length, if there is none. -/
def find (s some : List UInt8) : Nat := s.findIdx fun c => some.contains c
def scheme (s : List UInt8) : Option (Bool × List UInt8) :=
  if (s.take 7).map Oct.low = http then some (false, s.drop 7) else if (s.take 8).map Oct.low = https then some (true, s.drop 8) else none
def usual (secure : Bool) : Int := if secure then 443 else 80
def place (rest : List UInt8) : List UInt8 := rest.take (find rest [47, 63, 35])
def behind (rest : List UInt8) : List UInt8 := rest.drop (find rest [47, 63, 35])
def raw (rest : List UInt8) : List UInt8 := (behind rest).take (find (behind rest) [63, 35])
def pathOf (rest : List UInt8) : List UInt8 := if raw rest = [] then [47] else raw rest
def endOf (pl : List UInt8) : Nat := if pl.head? = some 91 then min (find pl [93] + 1) pl.length else find pl [58]
def portOf (secure : Bool) (b : List UInt8) : Option Int :=
  if b = [] then some (usual secure) else if Oct.isNum b.tail = true ∧ 1 ≤ Oct.number b.tail ∧ Oct.number b.tail ≤ 65535 then some (Oct.number b.tail : Int) else none
/-- What host and port, and path, come to: the error's number, and the URL. -/
def go (secure : Bool) (pl p : List UInt8) : Int × URL :=
  match Hst.parse (pl.take (endOf pl)) with
  | none => (31, zero)
  | some h =>
    if pl.drop (endOf pl) ≠ [] ∧ (pl.drop (endOf pl)).head? ≠ some 58 then (31, zero)
    else match portOf secure (pl.drop (endOf pl)) with
      | none => (42, zero)
      | some n => if isPath p = true then (0, ⟨secure, h, n, p⟩) else (43, zero)
def parse (s : List UInt8) : Int × URL :=
  match scheme s with
  | none => (41, zero)
  | some (secure, rest) => go secure (place rest) (pathOf rest)
def portText (u : URL) : List UInt8 := if u.port = usual u.secure then [] else 58 :: Lib.decDigits u.port.toNat
def text (u : URL) : List UInt8 :=
  if right u = true then (if u.secure then https else http) ++ (Hst.text u.host ++ (portText u ++ u.path)) else []
/-! ### Where a text is cut -/
theorem find_le (s some : List UInt8) : find s some ≤ s.length := List.findIdx_le_length
theorem find_append {s m some : List UInt8} (hm : m = [] ∨ ∃ c r, m = c :: r ∧ some.contains c = true) : find (s ++ m) some = find s some := by
  unfold find
  rw [List.findIdx_append]
  split
  · rfl
  · have hle := List.findIdx_le_length (p := fun c => some.contains c) (xs := s)
    have h0 : m.findIdx (fun c => some.contains c) = 0 := by
      rcases hm with rfl | ⟨c, r, rfl, hc⟩
      · rfl
      · rw [List.findIdx_cons, hc]; rfl
    omega
theorem find_none {s some : List UInt8} (h : ∀ c ∈ s, some.contains c = false) : find s some = s.length := by
  unfold find
  rw [List.findIdx_eq_length]
  exact h
/-- Where nothing of them stands, then one of them, or the end. -/
theorem find_at {s m some : List UInt8} (h : ∀ c ∈ s, some.contains c = false) (hm : m = [] ∨ ∃ c r, m = c :: r ∧ some.contains c = true) : find (s ++ m) some = s.length := by
  rw [find_append hm, find_none h]
theorem scheme_append {s rest m : List UInt8} {b : Bool} (h : scheme s = some (b, rest)) : scheme (s ++ m) = some (b, rest ++ m) := by
  unfold scheme at h ⊢
  split at h
  · rename_i h7
    have hl : 7 ≤ s.length := by
      have := congrArg List.length h7
      rw [List.length_map, List.length_take] at this
      have e : http.length = 7 := rfl
      omega
    obtain ⟨rfl, rfl⟩ := Prod.mk.inj (Option.some.inj h)
    rw [List.take_append_of_le_length hl, if_pos h7, List.drop_append_of_le_length hl]
  · rename_i h7
    split at h
    · rename_i h8
      have hl : 8 ≤ s.length := by
        have := congrArg List.length h8
        rw [List.length_map, List.length_take] at this
        have e : https.length = 8 := rfl
        omega
      obtain ⟨rfl, rfl⟩ := Prod.mk.inj (Option.some.inj h)
      rw [List.take_append_of_le_length (show 7 ≤ s.length by omega), if_neg h7, List.take_append_of_le_length hl, if_pos h8, List.drop_append_of_le_length hl]
    · cases h
theorem cut_append {rest m : List UInt8} {c : UInt8} {r : List UInt8} (hm : m = c :: r) (hc : c = 63 ∨ c = 35) : place (rest ++ m) = place rest ∧ pathOf (rest ++ m) = pathOf rest := by
  have e1 : find (rest ++ m) [47, 63, 35] = find rest [47, 63, 35] := find_append (.inr ⟨c, r, hm, by rcases hc with rfl | rfl <;> rfl⟩)
  have hle := find_le rest [47, 63, 35]
  have e2 : behind (rest ++ m) = behind rest ++ m := by
    unfold behind
    rw [e1, List.drop_append_of_le_length hle]
  have e3 : raw (rest ++ m) = raw rest := by
    unfold raw
    rw [e2, find_append (.inr ⟨c, r, hm, by rcases hc with rfl | rfl <;> rfl⟩), List.take_append_of_le_length (find_le _ _)]
  refine ⟨?_, ?_⟩
  · unfold place
    rw [e1, List.take_append_of_le_length hle]
  · unfold pathOf
    rw [e3]
/-- What stands behind the path changes nothing. -/
theorem parse_drops {s m : List UInt8} {c : UInt8} {r : List UInt8} (h : (parse s).1 = 0) (hm : m = c :: r) (hc : c = 63 ∨ c = 35) : parse (s ++ m) = parse s := by
  unfold parse at h ⊢
  cases hs : scheme s with
  | none => rw [hs] at h; exact absurd h (by show ¬ (41 : Int) = 0; omega)
  | some br =>
    obtain ⟨b, rest⟩ := br
    rw [scheme_append hs]
    obtain ⟨e1, e2⟩ := cut_append (rest := rest) hm hc
    show go b (place (rest ++ m)) (pathOf (rest ++ m)) = go b (place rest) (pathOf rest)
    rw [e1, e2]
theorem go_cases (b : Bool) (pl p : List UInt8) : go b pl p = (31, zero) ∨ go b pl p = (42, zero) ∨ go b pl p = (43, zero) ∨ (isPath p = true ∧ ∃ h n, go b pl p = (0, ⟨b, h, n, p⟩)) := by
  unfold go
  split
  · exact .inl rfl
  · split
    · exact .inl rfl
    · split
      · exact .inr (.inl rfl)
      · split
        · rename_i hp
          exact .inr (.inr (.inr ⟨hp, _, _, rfl⟩))
        · exact .inr (.inr (.inl rfl))
theorem go_zero {b : Bool} {pl p : List UInt8} (h : (go b pl p).1 ≠ 0) : (go b pl p).2 = zero := by
  rcases go_cases b pl p with e | e | e | ⟨_, x, n, e⟩ <;> rw [e] at h ⊢
  exact absurd rfl h
theorem go_path {b : Bool} {pl p : List UInt8} (h : (go b pl p).1 = 0) : isPath (go b pl p).2.path = true := by
  rcases go_cases b pl p with e | e | e | ⟨hp, x, n, e⟩ <;> rw [e] at h ⊢
  · exact absurd h (by show ¬ (31 : Int) = 0; omega)
  · exact absurd h (by show ¬ (42 : Int) = 0; omega)
  · exact absurd h (by show ¬ (43 : Int) = 0; omega)
  · exact hp
theorem parse_zero {s : List UInt8} (h : (parse s).1 ≠ 0) : (parse s).2 = zero := by
  unfold parse at h ⊢
  split
  · rfl
  · rename_i b rest hs
    rw [hs] at h
    exact go_zero h
theorem parse_path {s : List UInt8} (h : (parse s).1 = 0) : isPath (parse s).2.path = true := by
  unfold parse at h ⊢
  cases hs : scheme s with
  | none => rw [hs] at h; exact absurd h (by show ¬ (41 : Int) = 0; omega)
  | some br => rw [hs] at h; exact go_path h
/-! ### What is a path is one behind any host -/
theorem isPath_facts {s : List UInt8} (h : isPath s = true) : (∀ c ∈ s, okP c = true) ∧ 1 ≤ s.length ∧ s.length ≤ 2048 ∧ ∃ r, s = 47 :: r := by
  unfold isPath at h
  simp only [Bool.and_eq_true, decide_eq_true_eq] at h
  refine ⟨List.all_eq_true.1 h.1, h.2.1.1, h.2.1.2, ?_⟩
  cases s with
  | nil => exact absurd h.2.2 (by simp)
  | cons c r =>
    have := h.2.2
    simp at this
    exact ⟨r, by rw [this]⟩
theorem okP_free {c : UInt8} (h : okP c = true) : ([63, 35] : List UInt8).contains c = false := by
  unfold okP at h
  have := of_decide_eq_true h
  cases e : ([63, 35] : List UInt8).contains c with
  | false => rfl
  | true =>
    simp at e
    rcases e with rfl | rfl
    · exact absurd rfl this.2.2.1
    · exact absurd rfl this.2.2.2
/-- Host and port, then a path: cut there. -/
theorem cut_path {pl p : List UInt8} (hpl : ∀ c ∈ pl, ([47, 63, 35] : List UInt8).contains c = false) (hp : isPath p = true) : place (pl ++ p) = pl ∧ pathOf (pl ++ p) = p := by
  obtain ⟨hb, h1, _, r, hr⟩ := isPath_facts hp
  have e1 : find (pl ++ p) [47, 63, 35] = pl.length := find_at hpl (.inr ⟨47, r, hr, rfl⟩)
  have e2 : behind (pl ++ p) = p := by unfold behind; rw [e1, List.drop_left]
  have e3 : raw (pl ++ p) = p := by
    unfold raw
    rw [e2, find_none (fun c hc => okP_free (hb c hc)), List.take_length]
  refine ⟨by unfold place; rw [e1, List.take_left], ?_⟩
  unfold pathOf
  rw [e3, if_neg (by intro e; rw [e] at h1; simp at h1)]
theorem path_behind {s : List UInt8} (h : isPath s = true) : parse ([104, 116, 116, 112, 58, 47, 47, 97] ++ s) = (0, ⟨false, ⟨1, [97], Hst.nil16⟩, 80, s⟩) := by
  have hs : scheme ([104, 116, 116, 112, 58, 47, 47, 97] ++ s) = some (false, [97] ++ s) := by
    unfold scheme
    rw [if_pos (by show ([104, 116, 116, 112, 58, 47, 47] : List UInt8).map Oct.low = http; decide)]
    rfl
  obtain ⟨e1, e2⟩ := cut_path (pl := [97]) (by decide) h
  unfold parse
  rw [hs]
  show go false (place ([97] ++ s)) (pathOf ([97] ++ s)) = _
  rw [e1, e2]
  have e3 : Hst.parse (([97] : List UInt8).take (endOf [97])) = some ⟨1, [97], Hst.nil16⟩ := by decide +kernel
  have e4 : ([97] : List UInt8).drop (endOf [97]) = [] := by decide
  unfold go
  rw [e3, e4]
  dsimp only
  rw [if_neg (by simp), show portOf false [] = some 80 from rfl]
  dsimp only
  rw [if_pos h]
/-! ### What can be is read from its text -/
theorem dec_digits : ∀ n : Nat, (Lib.decDigits n).all Oct.digitB = true ∧ Oct.numOf (Lib.decDigits n) = n ∧ Lib.decDigits n ≠ [] := by
  intro n
  induction n using Nat.strongRecOn with
  | _ n ih =>
    unfold Lib.decDigits
    split
    · rename_i h
      have e : (UInt8.ofNat (48 + n)).toNat = 48 + n := by rw [UInt8.toNat_ofNat']; omega
      refine ⟨?_, ?_, by simp⟩
      · show (Oct.digitB (UInt8.ofNat (48 + n)) && true) = true
        unfold Oct.digitB
        rw [e, decide_eq_true (by omega)]; rfl
      · show 0 * 10 + ((UInt8.ofNat (48 + n)).toNat - 48) = n
        omega
    · rename_i h
      obtain ⟨h1, h2, h3⟩ := ih (n / 10) (by omega)
      have e : (UInt8.ofNat (48 + n % 10)).toNat = 48 + n % 10 := by rw [UInt8.toNat_ofNat']; omega
      refine ⟨?_, ?_, by simp⟩
      · rw [List.all_append, h1]
        show (true && (Oct.digitB (UInt8.ofNat (48 + n % 10)) && true)) = true
        unfold Oct.digitB
        rw [e, decide_eq_true (by omega)]; rfl
      · rw [Oct.numOf_snoc, h2, e]; omega
theorem dec_length : ∀ (k n : Nat), 1 ≤ k → n < 10 ^ k → (Lib.decDigits n).length ≤ k
  | 0, _, h, _ => by omega
  | 1, n, _, h => by unfold Lib.decDigits; rw [dif_pos (by omega)]; simp
  | k + 2, n, _, h => by
    unfold Lib.decDigits
    split
    · simp
    · have := dec_length (k + 1) (n / 10) (by omega) (by rw [Nat.pow_succ] at h; omega)
      rw [List.length_append, List.length_singleton]
      omega
theorem dec_head : ∀ n : Nat, 1 ≤ n → (Lib.decDigits n).head? ≠ some 48 := by
  intro n
  induction n using Nat.strongRecOn with
  | _ n ih =>
    intro h1
    unfold Lib.decDigits
    split
    · rename_i h
      intro e
      have := congrArg UInt8.toNat (Option.some.inj (show some (UInt8.ofNat (48 + n)) = some 48 from e))
      rw [UInt8.toNat_ofNat'] at this
      have e48 : (48 : UInt8).toNat = 48 := rfl
      omega
    · rename_i h
      have h2 := ih (n / 10) (by omega) (by omega)
      cases e : Lib.decDigits (n / 10) with
      | nil => exact absurd e (dec_digits (n / 10)).2.2
      | cons c r =>
        rw [e] at h2
        exact h2
theorem dec_number {n : Nat} (h1 : 1 ≤ n) (h2 : n ≤ 65535) : Oct.isNum (Lib.decDigits n) = true ∧ Oct.number (Lib.decDigits n) = n := by
  obtain ⟨a, b, c⟩ := dec_digits n
  have hl := dec_length 5 n (by omega) (by omega)
  have hh := dec_head n h1
  have e : Oct.isNum (Lib.decDigits n) = true := by
    unfold Oct.isNum Oct.digits
    rw [a, decide_eq_true c, decide_eq_true (show (Lib.decDigits n).length ≤ 18 by omega), decide_eq_true (fun k => absurd k hh)]
    rfl
  exact ⟨e, by unfold Oct.number; rw [if_pos e, b]⟩
theorem okB_free {c : UInt8} (h : Hst.okB c = true ∨ c = 46) : ([47, 63, 35] : List UInt8).contains c = false ∧ ([58] : List UInt8).contains c = false := by
  have hc : c ≠ 47 ∧ c ≠ 63 ∧ c ≠ 35 ∧ c ≠ 58 := by
    rcases h with h | rfl
    · unfold Hst.okB at h
      have := of_decide_eq_true h
      refine ⟨?_, ?_, ?_, ?_⟩ <;> (rintro rfl; revert this; decide)
    · decide
  constructor
  · simp [hc.1, hc.2.1, hc.2.2.1]
  · simp [hc.2.2.2]
theorem v6B_free {c : UInt8} (h : Hst.v6B c = true) : ([47, 63, 35] : List UInt8).contains c = false ∧ ([93] : List UInt8).contains c = false := by
  have hc : c ≠ 47 ∧ c ≠ 63 ∧ c ≠ 35 ∧ c ≠ 93 := by
    unfold Hst.v6B at h
    rw [Bool.or_eq_true] at h
    rcases h with h | h
    · unfold Adr.hexB at h
      have := of_decide_eq_true h
      refine ⟨?_, ?_, ?_, ?_⟩ <;> (rintro rfl; revert this; decide)
    · have := of_decide_eq_true h
      subst this
      decide
  constructor
  · simp [hc.1, hc.2.1, hc.2.2.1]
  · simp [hc.2.2.2]
/-- The host of a place, and what is behind it. -/
theorem end_host {x m : List UInt8} {h : Hst.Host} (hx : Hst.parse x = some h) (hm : m = [] ∨ ∃ r, m = 58 :: r) : endOf (x ++ m) = x.length := by
  unfold endOf
  rcases Hst.parse_bytes hx with ⟨r, rfl, hr⟩ | ⟨hh, hn, hb⟩
  · rw [if_pos (show (91 :: (r ++ [93]) ++ m : List UInt8).head? = some 91 from rfl)]
    have e : find (91 :: (r ++ [93]) ++ m) [93] = r.length + 1 := by
      have := find_at (s := 91 :: r) (m := 93 :: m) (some := [93]) (by
        intro c hc
        rcases List.mem_cons.1 hc with rfl | hc
        · rfl
        · exact (v6B_free (hr c hc)).2) (.inr ⟨93, m, rfl, rfl⟩)
      have e2 : (91 :: (r ++ [93]) ++ m : List UInt8) = (91 :: r) ++ 93 :: m := by simp
      rw [e2, this]; rfl
    rw [e]
    simp
  · have e0 : (x ++ m).head? = x.head? := by
      cases x with
      | nil => exact absurd rfl hn
      | cons c r => rfl
    rw [e0, if_neg hh]
    refine find_at (fun c hc => (okB_free (hb c hc)).2) ?_
    rcases hm with rfl | ⟨r, rfl⟩
    · exact .inl rfl
    · exact .inr ⟨58, r, rfl, rfl⟩
theorem host_free {x : List UInt8} {h : Hst.Host} (hx : Hst.parse x = some h) : ∀ c ∈ x, ([47, 63, 35] : List UInt8).contains c = false := by
  intro c hc
  rcases Hst.parse_bytes hx with ⟨r, rfl, hr⟩ | ⟨hh, hn, hb⟩
  · rcases List.mem_cons.1 hc with rfl | hc
    · rfl
    · rcases List.mem_append.1 hc with hc | hc
      · exact (v6B_free (hr c hc)).1
      · rw [List.mem_singleton.1 hc]; rfl
  · exact (okB_free (hb c hc)).1
theorem scheme_text (b : Bool) (r : List UInt8) : scheme ((if b then https else http) ++ r) = some (b, r) := by
  unfold scheme
  cases b
  · rw [if_pos (by show ([104, 116, 116, 112, 58, 47, 47] : List UInt8).map Oct.low = http; decide)]; rfl
  · rw [if_neg (by show ¬ ([104, 116, 116, 112, 115, 58, 47] : List UInt8).map Oct.low = http; decide), if_pos (by show ([104, 116, 116, 112, 115, 58, 47, 47] : List UInt8).map Oct.low = https; decide)]; rfl
theorem parse_text {u : URL} (h : right u = true) : parse (text u) = (0, u) := by
  have hr := h
  unfold right at hr
  simp only [Bool.and_eq_true, decide_eq_true_eq] at hr
  obtain ⟨hc, ⟨hp1, hp2⟩, hpath⟩ := hr
  have hx : Hst.parse (Hst.text u.host) = some u.host := of_decide_eq_true hc
  have hm : portText u = [] ∨ ∃ r, portText u = 58 :: r := by
    unfold portText
    split
    · exact .inl rfl
    · exact .inr ⟨_, rfl⟩
  have hfree : ∀ c ∈ Hst.text u.host ++ portText u, ([47, 63, 35] : List UInt8).contains c = false := by
    intro c hc
    rcases List.mem_append.1 hc with hc | hc
    · exact host_free hx c hc
    · unfold portText at hc
      split at hc
      · cases hc
      · rcases List.mem_cons.1 hc with rfl | hc
        · rfl
        · have hd := List.all_eq_true.1 (dec_digits u.port.toNat).1 c hc
          unfold Oct.digitB at hd
          have := of_decide_eq_true hd
          exact (okB_free (.inl (decide_eq_true (by omega)))).1
  obtain ⟨e1, e2⟩ := cut_path hfree hpath
  have e3 := end_host hx hm
  have e4 : portOf u.secure (portText u) = some u.port := by
    unfold portOf portText
    by_cases hk : u.port = usual u.secure
    · rw [if_pos hk, if_pos rfl, hk]
    · rw [if_neg hk, if_neg (by simp)]
      obtain ⟨d1, d2⟩ := dec_number (n := u.port.toNat) (by omega) (by omega)
      show (if Oct.isNum (Lib.decDigits u.port.toNat) = true ∧ 1 ≤ Oct.number (Lib.decDigits u.port.toNat) ∧ Oct.number (Lib.decDigits u.port.toNat) ≤ 65535 then some ((Oct.number (Lib.decDigits u.port.toNat) : Nat) : Int) else none) = _
      rw [d2, if_pos ⟨d1, by omega, by omega⟩]
      exact congrArg some (by omega)
  unfold parse text
  rw [if_pos h, scheme_text, ← List.append_assoc]
  show go u.secure (place ((Hst.text u.host ++ portText u) ++ u.path)) (pathOf ((Hst.text u.host ++ portText u) ++ u.path)) = _
  rw [e1, e2]
  unfold go
  rw [e3, List.take_left, List.drop_left, hx]
  dsimp only
  rw [if_neg (by
    rintro ⟨k1, k2⟩
    rcases hm with k | ⟨r, k⟩
    · exact k1 k
    · rw [k] at k2; exact k2 rfl), e4]
  dsimp only
  rw [if_pos hpath]
theorem text_wrong {u : URL} (h : right u = false) : text u = [] ∧ parse (text u) = (41, zero) := by
  have e : text u = [] := by unfold text; rw [if_neg (by rw [h]; simp)]
  exact ⟨e, by rw [e]; decide +kernel⟩
end Ur
end Go.Proofs.Ytcookddgaomkiaa
