/- Plain functions on hosts, and plain lemmas on them: what the calls of package host answer. No program is named here. -/
import Derived.Test.YtcookddgaomkiaaReadsPlain
namespace Go.Proofs.Ytcookddgaomkiaa
namespace Hst
/-- A host: its kind, its name, its address. -/
structure Host where
  kind : Int
  name : List UInt8
  addr : List UInt8
instance : DecidableEq Host := fun a b =>
  if h : a.kind = b.kind ∧ a.name = b.name ∧ a.addr = b.addr then isTrue (by
    cases a; cases b
    obtain ⟨h1, h2, h3⟩ := h
    simp only at h1 h2 h3
    rw [h1, h2, h3])
  else isFalse (by rintro rfl; exact h ⟨rfl, rfl, rfl⟩)
def nil16 : List UInt8 := List.replicate 16 0
def zero : Host := ⟨0, [], nil16⟩
/-- May a name have this byte? -/
def okB (c : UInt8) : Bool := decide ((97 ≤ c.toNat ∧ c.toNat ≤ 122) ∨ (65 ≤ c.toNat ∧ c.toNat ≤ 90) ∨ (48 ≤ c.toNat ∧ c.toNat ≤ 57) ∨ c.toNat = 45 ∨ c.toNat = 95)
def lab (p : List UInt8) : Bool := decide (1 ≤ p.length ∧ p.length ≤ 63) && p.all okB
def refB (c : UInt8) : Bool := decide ((97 ≤ c.toNat ∧ c.toNat ≤ 122) ∨ (48 ≤ c.toNat ∧ c.toNat ≤ 57) ∨ c.toNat = 45 ∨ c.toNat = 95)
def refLab (p : List UInt8) : Bool := decide (1 ≤ p.length ∧ p.length ≤ 63) && p.all refB
def last (s : List UInt8) : List UInt8 := ((Oct.split 46 s)[(Oct.split 46 s).length - 1]?).getD []
/-- The host of what stands behind the opening bracket. -/
def v6part (r : List UInt8) : Option Host := if r.getLast? = some 93 then (Adr.v6 r.dropLast).map fun g => ⟨3, [], Adr.from_ g⟩ else none
def v4part (s : List UInt8) : Option Host := (Adr.v4 s).map fun l => ⟨2, [], Adr.addr4 (some l)⟩
def parse (s : List UInt8) : Option Host :=
  if 253 < s.length then none
  else if s.head? = some 91 then v6part s.tail
  else if Oct.digits (last s) = true then v4part s
  else if (Oct.split 46 s).all lab = true then some ⟨1, s.map Oct.low, nil16⟩ else none
def refParse (s : List UInt8) : Option Host :=
  if s.head? = some 91 then v6part s.tail
  else if Oct.digits (last (s.map Oct.low)) = true then v4part s
  else if (Oct.split 46 (s.map Oct.low)).all refLab = true ∧ s.length ≤ 253 then some ⟨1, s.map Oct.low, nil16⟩ else none
def right (h : Host) : Bool := decide (parse h.name = some h)
def labels (h : Host) : List (List UInt8) := if h.kind = 1 ∧ right h = true then Oct.split 46 h.name else []
def tailOf (h : Host) (n : Int) : Option Host :=
  if 1 ≤ n ∧ n ≤ ((labels h).length : Int) then some ⟨1, Lib.join ((labels h).drop ((labels h).length - n.toNat)) [46], nil16⟩ else none
def under (h d : Host) : Bool :=
  match tailOf h ((labels d).length : Int) with
  | some t => decide (t = d) && !decide (t = h)
  | none => false
def refUnder (h d : Host) : Bool :=
  decide (labels h ≠ [] ∧ labels d ≠ []) && (decide (d.name.length + 1 < h.name.length) && decide (h.name.drop (h.name.length - (d.name.length + 1)) = 46 :: d.name))
/-! ### Great and small letters -/
theorem low_46 (c : UInt8) : Oct.low c = 46 ↔ c = 46 := by
  constructor
  · intro h
    have e := congrArg UInt8.toNat h
    rw [Oct.low_toNat] at e
    have h46 : (46 : UInt8).toNat = 46 := rfl
    rw [h46] at e
    apply Oct.eq_of_toNat
    rw [h46]
    split at e <;> omega
  · rintro rfl; decide
theorem split_low : ∀ s : List UInt8, Oct.split 46 (s.map Oct.low) = (Oct.split 46 s).map (List.map Oct.low)
  | [] => rfl
  | c :: r => by
    have ih := split_low r
    rw [List.map_cons, Oct.split_step, Oct.split_step, ih]
    by_cases h : c = 46
    · rw [if_pos ((low_46 c).2 h), if_pos h]; rfl
    · rw [if_neg (fun e => h ((low_46 c).1 e)), if_neg h]
      cases Oct.split 46 r <;> rfl
theorem digit_low (c : UInt8) : Oct.digitB (Oct.low c) = Oct.digitB c := by
  unfold Oct.digitB
  rw [Oct.low_toNat, decide_eq_decide]
  split <;> omega
theorem digits_low (p : List UInt8) : Oct.digits (p.map Oct.low) = Oct.digits p := by
  unfold Oct.digits
  rw [List.all_map]
  congr 1
  · simp
  · congr 1
    funext c
    exact digit_low c
theorem last_low (s : List UInt8) : last (s.map Oct.low) = (last s).map Oct.low := by
  unfold last
  rw [split_low, List.length_map, List.getElem?_map]
  cases (Oct.split 46 s)[(Oct.split 46 s).length - 1]? <;> rfl
theorem refB_low (c : UInt8) : refB (Oct.low c) = okB c := by
  unfold refB okB
  rw [Oct.low_toNat, decide_eq_decide]
  split <;> omega
theorem refLab_low (p : List UInt8) : refLab (p.map Oct.low) = lab p := by
  unfold refLab lab
  rw [List.length_map, List.all_map]
  congr 1
  congr 1
  funext c
  exact refB_low c
/-! ### Long texts are no addresses -/
theorem join_split (c : UInt8) : ∀ l : List UInt8, Lib.join (Oct.split c l) [c] = l
  | [] => rfl
  | d :: r => by
    have ih := join_split c r
    rw [Oct.split_step]
    by_cases h : d = c
    · rw [if_pos h]
      cases e : Oct.split c r with
      | nil => exact absurd e (Oct.split_ne c r)
      | cons p ps => rw [Adr.join_step, ← e, ih, h]; rfl
    · rw [if_neg h]
      cases e : Oct.split c r with
      | nil => exact absurd e (Oct.split_ne c r)
      | cons p ps =>
        rw [e] at ih
        show Lib.join ((d :: p) :: ps) [c] = d :: r
        cases ps with
        | nil => rw [Lib.join_one] at ih ⊢; rw [ih]
        | cons q qs => rw [Adr.join_step] at ih ⊢; rw [List.cons_append, ih]
theorem v4_long {s : List UInt8} (h : 253 < s.length) : Adr.v4 s = none := by
  unfold Adr.v4
  rw [if_neg]
  rintro ⟨h4, hok⟩
  have hs : ∀ p ∈ Oct.split 46 s, p.length ≤ 18 := by
    intro p hp
    have := List.all_eq_true.1 hok p hp
    unfold Adr.okNum Oct.isNum at this
    simp only [Bool.and_eq_true, decide_eq_true_eq] at this
    exact this.1.1.2
  have := Adr.join_length [46] rfl 18 _ hs
  rw [join_split, h4] at this
  omega
theorem row_small {b : List UInt8} (h : Adr.isRow b = true) : b.length ≤ 5 * (Adr.row b).length := by
  unfold Adr.isRow at h
  by_cases hb : b = []
  · subst hb; simp
  · rw [decide_eq_false hb, Bool.false_or] at h
    unfold Adr.row
    rw [if_neg hb, List.length_map]
    have hs : ∀ p ∈ Oct.split 58 b, p.length ≤ 4 := by
      intro p hp
      have := List.all_eq_true.1 h p hp
      unfold Adr.isGrp at this
      simp only [Bool.and_eq_true, decide_eq_true_eq] at this
      exact this.1.2
    have := Adr.join_length [58] rfl 4 _ hs
    rw [join_split] at this
    exact this
theorem cut_first {s : List UInt8} {i : Nat} (h : Adr.Two s i) (hn : ∀ k, k < i → ¬ Adr.Two s k) : Lib.cut s [58, 58] = (s.take i, s.drop (i + 2), true) := by
  have hl : (s.take i).length = i := by
    have := (List.getElem?_eq_some_iff.1 h.1).1
    rw [List.length_take]; omega
  have e := h.split
  conv => lhs; rw [e]
  refine Adr.cut_at fun k hk => ?_
  rw [hl] at hk
  rw [← e]
  exact hn k hk
theorem cut_length (s : List UInt8) : s.length ≤ (Lib.cut s [58, 58]).1.length + (Lib.cut s [58, 58]).2.1.length + 2 := by
  by_cases h : ∃ j, Adr.Two s j
  · obtain ⟨j, hj⟩ := h
    obtain ⟨i, _, hi, hn⟩ := Adr.first_of hj
    rw [cut_first hi hn]
    have hl := (List.getElem?_eq_some_iff.1 hi.2).1
    simp only [List.length_take, List.length_drop]
    omega
  · have hc : Lib.cut s [58, 58] = (s, [], false) := Adr.cut_none fun j hj => h ⟨j, hj⟩
    rw [hc]
    simp
theorem v6_long {s : List UInt8} (h : 200 < s.length) : Adr.v6 s = none := by
  unfold Adr.v6
  rw [if_neg]
  rintro ⟨h1, h2, h3⟩
  have a := row_small h1
  have b := row_small h2
  have c := cut_length s
  have d : (Adr.row (Lib.cut s [58, 58]).1).length + (Adr.row (Lib.cut s [58, 58]).2.1).length ≤ 8 := by
    unfold Adr.fits at h3
    split at h3
    · have := of_decide_eq_true h3; omega
    · have := of_decide_eq_true h3; omega
  omega
theorem v6part_long {r : List UInt8} (h : 201 < r.length) : v6part r = none := by
  unfold v6part
  split
  · rw [v6_long (by rw [List.length_dropLast]; omega)]; rfl
  · rfl
theorem refParse_eq (s : List UInt8) : refParse s = parse s := by
  unfold refParse parse
  rw [last_low, digits_low, split_low, List.all_map]
  have e : ((refLab ∘ List.map Oct.low) : List UInt8 → Bool) = lab := by funext p; exact refLab_low p
  rw [e]
  by_cases hl : 253 < s.length
  · rw [if_pos hl]
    split
    · exact v6part_long (by rw [List.length_tail]; omega)
    · split
      · unfold v4part; rw [v4_long hl]; rfl
      · rw [if_neg (fun k => by have := k.2; omega)]
  · rw [if_neg hl]
    split
    · rfl
    · split
      · rfl
      · by_cases ha : (Oct.split 46 s).all lab = true
        · rw [if_pos ⟨ha, by omega⟩, if_pos ha]
        · rw [if_neg (fun k => ha k.1), if_neg ha]
/-! ### Names that can be -/
structure Good (n : List UInt8) : Prop where
  few : n.length ≤ 253
  all : (Oct.split 46 n).all lab = true
  num : Oct.digits (last n) = false
  low : n.map Oct.low = n
theorem Good.head {n : List UInt8} (h : (Oct.split 46 n).all lab = true) : n.head? ≠ some 91 := by
  intro e
  cases n with
  | nil => cases e
  | cons c r =>
    simp at e
    subst e
    rw [Oct.split_step, if_neg (by decide)] at h
    split at h
    · exact absurd h (by decide)
    · rename_i p ps _
      rw [List.all_cons, Bool.and_eq_true] at h
      have := h.1
      unfold lab at this
      rw [List.all_cons] at this
      have e : okB 91 = false := by decide
      rw [e] at this
      simp at this
theorem Good.parse {n : List UInt8} (h : Good n) : Hst.parse n = some ⟨1, n, nil16⟩ := by
  unfold Hst.parse
  rw [if_neg (by have := h.few; omega), if_neg (Good.head h.all), if_neg (by rw [h.num]; simp), if_pos h.all, h.low]
theorem right_good {h : Host} (hk : h.kind = 1) (hr : right h = true) : Good h.name ∧ h.addr = nil16 := by
  have hp := of_decide_eq_true hr
  unfold Hst.parse at hp
  split at hp
  · cases hp
  · rename_i h1
    split at hp
    · unfold v6part at hp
      split at hp
      · cases hv : Adr.v6 h.name.tail.dropLast with
        | none => rw [hv] at hp; cases hp
        | some g =>
          rw [hv] at hp
          have := congrArg (fun o => o.map Host.kind) hp
          simp [hk] at this
      · cases hp
    · split at hp
      · unfold v4part at hp
        cases hv : Adr.v4 h.name with
        | none => rw [hv] at hp; cases hp
        | some l =>
          rw [hv] at hp
          have := congrArg (fun o => o.map Host.kind) hp
          simp [hk] at this
      · rename_i hd
        split at hp
        · rename_i ha
          have e := Option.some.inj hp
          have e1 := congrArg Host.name e
          have e2 := congrArg Host.addr e
          exact ⟨⟨by omega, ha, by simpa using hd, e1⟩, e2.symm⟩
        · cases hp
theorem good_right {n : List UInt8} (h : Good n) : right ⟨1, n, nil16⟩ = true := decide_eq_true h.parse
theorem good_labels {n : List UInt8} (h : Good n) : labels ⟨1, n, nil16⟩ = Oct.split 46 n := by
  unfold labels; rw [if_pos ⟨rfl, good_right h⟩]
/-- What has labels is a name that can be. -/
theorem labels_good {h : Host} (hl : labels h ≠ []) : h.kind = 1 ∧ Good h.name ∧ h = ⟨1, h.name, nil16⟩ ∧ labels h = Oct.split 46 h.name := by
  unfold labels at hl ⊢
  split at hl
  · rename_i hh
    obtain ⟨g, ha⟩ := right_good hh.1 hh.2
    refine ⟨hh.1, g, ?_, by rw [if_pos hh]⟩
    cases h
    simp at hh ha ⊢
    exact ⟨hh.1, ha⟩
  · exact absurd rfl hl
/-! ### Ends of a name -/
theorem join_app (c : UInt8) : ∀ (A B : List (List UInt8)), A ≠ [] → B ≠ [] → Lib.join (A ++ B) [c] = Lib.join A [c] ++ c :: Lib.join B [c]
  | [], _, h, _ => absurd rfl h
  | [x], B, _, hB => by
    cases B with
    | nil => exact absurd rfl hB
    | cons y r => rw [List.singleton_append, Adr.join_step, Lib.join_one]
  | x :: y :: A, B, _, hB => by
    have ih := join_app c (y :: A) B (by simp) hB
    rw [List.cons_append, List.cons_append, Adr.join_step, ← List.cons_append, ih, Adr.join_step, List.append_assoc, List.cons_append]
theorem lab_facts {p : List UInt8} (h : lab p = true) : 1 ≤ p.length ∧ p.length ≤ 63 ∧ ∀ d ∈ p, okB d = true := by
  unfold lab at h
  simp only [Bool.and_eq_true, decide_eq_true_eq] at h
  exact ⟨h.1.1, h.1.2, List.all_eq_true.1 h.2⟩
theorem lab_no46 {p : List UInt8} (h : lab p = true) : ∀ d ∈ p, d ≠ 46 := by
  intro d hd e
  have := (lab_facts h).2.2 d hd
  rw [e] at this
  exact absurd this (by decide)
/-- The last k labels of a good name: their name. -/
def ending (n : List UInt8) (k : Nat) : List UInt8 := Lib.join ((Oct.split 46 n).drop ((Oct.split 46 n).length - k)) [46]
theorem ending_split {n : List UInt8} (h : Good n) {k : Nat} (h1 : 1 ≤ k) (h2 : k ≤ (Oct.split 46 n).length) : Oct.split 46 (ending n k) = (Oct.split 46 n).drop ((Oct.split 46 n).length - k) := by
  unfold ending
  refine Adr.split_join 46 _ ?_ ?_
  · intro e
    have := congrArg List.length e
    rw [List.length_drop, List.length_nil] at this
    omega
  · intro p hp
    exact lab_no46 (List.all_eq_true.1 h.all p (List.mem_of_mem_drop hp))
theorem ending_whole {n : List UInt8} {k : Nat} (h : k = (Oct.split 46 n).length) : ending n k = n := by
  unfold ending
  rw [h, Nat.sub_self, List.drop_zero, join_split]
theorem ending_parts {n : List UInt8} {k : Nat} (h1 : 1 ≤ k) (h2 : k < (Oct.split 46 n).length) : n = Lib.join ((Oct.split 46 n).take ((Oct.split 46 n).length - k)) [46] ++ 46 :: ending n k := by
  have e := join_split 46 n
  have e2 := List.take_append_drop ((Oct.split 46 n).length - k) (Oct.split 46 n)
  unfold ending
  rw [← join_app 46 _ _ ?_ ?_, e2, e]
  · intro e
    have := congrArg List.length e
    rw [List.length_take, List.length_nil] at this
    omega
  · intro e
    have := congrArg List.length e
    rw [List.length_drop, List.length_nil] at this
    omega
theorem ending_length {n : List UInt8} {k : Nat} (h1 : 1 ≤ k) (h2 : k < (Oct.split 46 n).length) : (ending n k).length < n.length := by
  have := congrArg List.length (ending_parts h1 h2)
  rw [List.length_append, List.length_cons] at this
  omega
theorem map_join (f : UInt8 → UInt8) (c : UInt8) (hc : f c = c) : ∀ ps : List (List UInt8), (Lib.join ps [c]).map f = Lib.join (ps.map (List.map f)) [c]
  | [] => rfl
  | [x] => by rw [List.map_singleton, Lib.join_one, Lib.join_one]
  | x :: y :: r => by
    have ih := map_join f c hc (y :: r)
    rw [Adr.join_step, List.map_append, List.map_cons, ih, hc]
    show _ = Lib.join (x.map f :: y.map f :: r.map (List.map f)) [c]
    rw [Adr.join_step]; rfl
theorem map_fix {f : List UInt8 → List UInt8} : ∀ {l : List (List UInt8)}, l.map f = l → ∀ k, (l.drop k).map f = l.drop k := by
  intro l h k
  rw [List.map_drop, h]
theorem good_ending {n : List UInt8} (h : Good n) {k : Nat} (h1 : 1 ≤ k) (h2 : k ≤ (Oct.split 46 n).length) : Good (ending n k) := by
  have hs := ending_split h h1 h2
  refine ⟨?_, ?_, ?_, ?_⟩
  · rcases Nat.lt_or_eq_of_le h2 with hl | he
    · have := ending_length h1 hl; have := h.few; omega
    · rw [ending_whole he]; exact h.few
  · rw [hs, List.all_eq_true]
    intro p hp
    exact List.all_eq_true.1 h.all p (List.mem_of_mem_drop hp)
  · have : last (ending n k) = last n := by
      unfold last
      rw [hs, List.length_drop, List.getElem?_drop]
      congr 2
      omega
    rw [this]; exact h.num
  · unfold ending
    rw [map_join Oct.low 46 (by decide)]
    congr 1
    refine map_fix ?_ _
    rw [← split_low, h.low]
theorem tail_ending {h : Host} {k : Nat} (h1 : 1 ≤ k) (h2 : k ≤ (labels h).length) : tailOf h (k : Int) = some ⟨1, ending h.name k, nil16⟩ := by
  have hl : labels h ≠ [] := by intro e; rw [e] at h2; simp at h2; omega
  obtain ⟨_, _, _, e⟩ := labels_good hl
  unfold tailOf ending
  rw [if_pos ⟨by omega, by omega⟩, e]; rfl
theorem tail_none {h : Host} {n : Int} (hn : ¬ (1 ≤ n ∧ n ≤ ((labels h).length : Int))) : tailOf h n = none := by
  unfold tailOf; rw [if_neg hn]
theorem host_name {m n : List UInt8} (h : (⟨1, m, nil16⟩ : Host) = ⟨1, n, nil16⟩) : m = n := congrArg Host.name h
theorem under_of {h d : Host} (hd : labels d ≠ []) (hle : (labels d).length ≤ (labels h).length) : under h d = (decide (ending h.name (labels d).length = d.name) && !decide (ending h.name (labels d).length = h.name)) := by
  have h1 : 1 ≤ (labels d).length := List.length_pos_iff.2 hd
  have hh : labels h ≠ [] := by intro e; rw [e] at hle; simp at hle; exact hd hle
  obtain ⟨_, _, ed, _⟩ := labels_good hd
  obtain ⟨_, _, eh, _⟩ := labels_good hh
  unfold under
  rw [tail_ending h1 hle]
  have a : decide ((⟨1, ending h.name (labels d).length, nil16⟩ : Host) = d) = decide (ending h.name (labels d).length = d.name) := by
    rw [decide_eq_decide]
    constructor
    · intro e; exact congrArg Host.name e
    · intro e; rw [e, ← ed]
  have b : decide ((⟨1, ending h.name (labels d).length, nil16⟩ : Host) = h) = decide (ending h.name (labels d).length = h.name) := by
    rw [decide_eq_decide]
    constructor
    · intro e; exact congrArg Host.name e
    · intro e; rw [e, ← eh]
  show (decide _ && !decide _) = _
  rw [a, b]
theorem under_none {h d : Host} (hn : labels d = [] ∨ (labels h).length < (labels d).length) : under h d = false := by
  unfold under
  rw [tail_none]
  rcases hn with e | e
  · rw [e]; simp
  · omega
theorem split_app (c : UInt8) : ∀ x y : List UInt8, Oct.split c (x ++ c :: y) = Oct.split c x ++ Oct.split c y
  | [], y => by rw [List.nil_append, Oct.split_step, if_pos rfl]; rfl
  | d :: x, y => by
    have ih := split_app c x y
    rw [List.cons_append, Oct.split_step, Oct.split_step, ih]
    split
    · rfl
    · cases e : Oct.split c x with
      | nil => exact absurd e (Oct.split_ne c x)
      | cons p ps => rfl
theorem under_ref (h d : Host) : under h d = refUnder h d := by
  unfold refUnder
  by_cases hd : labels d = []
  · rw [under_none (.inl hd), hd]; simp
  by_cases hh : labels h = []
  · rw [under_none (.inr (by rw [hh]; exact List.length_pos_iff.2 hd)), hh]; simp
  obtain ⟨_, gd, ed, ld⟩ := labels_good hd
  obtain ⟨_, gh, eh, lh⟩ := labels_good hh
  rw [decide_eq_true (show labels h ≠ [] ∧ labels d ≠ [] from ⟨hh, hd⟩), Bool.true_and]
  have hd1 : 1 ≤ (labels d).length := List.length_pos_iff.2 hd
  rw [Bool.eq_iff_iff]
  constructor
  · intro hu
    have hle : (labels d).length ≤ (labels h).length := by
      rcases Nat.lt_or_ge (labels h).length (labels d).length with k | k
      · rw [under_none (.inr k)] at hu; cases hu
      · exact k
    rw [under_of hd hle, Bool.and_eq_true, decide_eq_true_eq, Bool.not_eq_true', decide_eq_false_iff_not] at hu
    obtain ⟨e1, e2⟩ := hu
    have hlt : (labels d).length < (Oct.split 46 h.name).length := by
      rcases Nat.lt_or_eq_of_le hle with k | k
      · rw [← lh]; exact k
      · exact absurd (ending_whole (by rw [k, lh])) e2
    have ep := ending_parts hd1 hlt
    rw [e1] at ep
    have hx : 1 ≤ (Lib.join ((Oct.split 46 h.name).take ((Oct.split 46 h.name).length - (labels d).length)) [46]).length := by
      cases e : (Oct.split 46 h.name).take ((Oct.split 46 h.name).length - (labels d).length) with
      | nil =>
        have := congrArg List.length e
        rw [List.length_take, List.length_nil] at this
        omega
      | cons p ps =>
        have hp : p ∈ Oct.split 46 h.name := List.mem_of_mem_take (by rw [e]; simp)
        have := (lab_facts (List.all_eq_true.1 gh.all p hp)).1
        rw [Lib.join_cons, List.length_append]
        omega
    generalize Lib.join ((Oct.split 46 h.name).take ((Oct.split 46 h.name).length - (labels d).length)) [46] = X at *
    have el := congrArg List.length ep
    rw [List.length_append, List.length_cons] at el
    rw [Bool.and_eq_true, decide_eq_true_eq, decide_eq_true_eq]
    refine ⟨by omega, ?_⟩
    have : h.name.length - (d.name.length + 1) = X.length := by omega
    rw [this, ep, List.drop_left]
  · intro hr
    rw [Bool.and_eq_true, decide_eq_true_eq, decide_eq_true_eq] at hr
    obtain ⟨h1, h2⟩ := hr
    have ep : h.name = h.name.take (h.name.length - (d.name.length + 1)) ++ 46 :: d.name := by rw [← h2, List.take_append_drop]
    have es : labels h = Oct.split 46 (h.name.take (h.name.length - (d.name.length + 1))) ++ labels d := by
      rw [lh, ld, ← split_app, ← ep]
    have hp := Oct.split_pos 46 (h.name.take (h.name.length - (d.name.length + 1)))
    generalize Oct.split 46 (h.name.take (h.name.length - (d.name.length + 1))) = X at *
    have hlen := congrArg List.length es
    rw [List.length_append] at hlen
    rw [under_of hd (by omega)]
    have e1 : ending h.name (labels d).length = d.name := by
      unfold ending
      rw [← lh, es, List.length_append, Nat.add_sub_cancel, List.drop_left, ld, join_split]
    rw [e1, decide_eq_true rfl, Bool.true_and, Bool.not_eq_true', decide_eq_false_iff_not]
    intro e
    have := congrArg List.length e
    omega
/-! ### What is below something is below all above it -/
theorem under_self (h : Host) : under h h = false := by
  by_cases hh : labels h = []
  · exact under_none (.inl hh)
  · rw [under_of hh (Nat.le_refl _)]
    cases decide (ending h.name (labels h).length = h.name) <;> rfl
theorem end_labels {h : Host} (hl : labels h ≠ []) {k : Nat} (h1 : 1 ≤ k) (h2 : k ≤ (labels h).length) : labels ⟨1, ending h.name k, nil16⟩ = (labels h).drop ((labels h).length - k) := by
  obtain ⟨_, g, _, e⟩ := labels_good hl
  rw [e] at h2 ⊢
  rw [good_labels (good_ending g h1 h2), ending_split g h1 h2]
theorem under_end {h : Host} (hl : labels h ≠ []) {a b : Nat} (ha : 1 ≤ a) (ha2 : a ≤ (labels h).length) (hb : 1 ≤ b) (hb2 : b ≤ (labels h).length) :
    under ⟨1, ending h.name a, nil16⟩ ⟨1, ending h.name b, nil16⟩ = decide (b < a) := by
  have la := end_labels hl ha ha2
  have lb := end_labels hl hb hb2
  obtain ⟨_, g, _, e⟩ := labels_good hl
  have na : (labels ⟨1, ending h.name a, nil16⟩).length = a := by rw [la, List.length_drop]; omega
  have nb : (labels ⟨1, ending h.name b, nil16⟩).length = b := by rw [lb, List.length_drop]; omega
  have db : labels ⟨1, ending h.name b, nil16⟩ ≠ [] := by intro e; rw [e] at nb; simp at nb; omega
  by_cases hlt : a < b
  · rw [under_none (.inr (by omega)), decide_eq_false (by omega)]
  · rw [under_of db (by omega), nb]
    have ga := good_ending g ha (by rw [← e]; exact ha2)
    have sa := ending_split g ha (by rw [← e]; exact ha2)
    have e1 : ending (ending h.name a) b = ending h.name b := by
      unfold ending at sa ⊢
      rw [sa, List.length_drop, List.drop_drop]
      congr 2
      rw [e] at ha2 hb2
      omega
    show (decide (ending (ending h.name a) b = ending h.name b) && !decide (ending (ending h.name a) b = ending h.name a)) = _
    rw [e1, decide_eq_true rfl, Bool.true_and]
    by_cases hba : b < a
    · rw [decide_eq_true hba, Bool.not_eq_true', decide_eq_false_iff_not]
      intro e2
      have := congrArg (fun n => (Oct.split 46 n).length) e2
      simp only [sa, ending_split g hb (by rw [← e]; exact hb2), List.length_drop] at this
      rw [e] at ha2 hb2
      omega
    · have : a = b := by omega
      subst this
      rw [decide_eq_true rfl, decide_eq_false (by omega)]; rfl
theorem end_same {h : Host} (hl : labels h ≠ []) {a b : Nat} (ha : 1 ≤ a) (ha2 : a ≤ (labels h).length) (hb : 1 ≤ b) (hb2 : b ≤ (labels h).length) :
    decide ((⟨1, ending h.name a, nil16⟩ : Host) = ⟨1, ending h.name b, nil16⟩) = decide (a = b) := by
  rw [decide_eq_decide]
  constructor
  · intro e
    have := congrArg (fun x => (labels x).length) e
    simp only [end_labels hl ha ha2, end_labels hl hb hb2, List.length_drop] at this
    omega
  · rintro rfl; rfl
theorem end_all {h : Host} (hl : labels h ≠ []) : (⟨1, ending h.name (labels h).length, nil16⟩ : Host) = h := by
  obtain ⟨_, g, eh, e⟩ := labels_good hl
  rw [e, ending_whole rfl, ← eh]
theorem under_top {h : Host} (hl : labels h ≠ []) {a : Nat} (ha : 1 ≤ a) (ha2 : a ≤ (labels h).length) : under h ⟨1, ending h.name a, nil16⟩ = decide (a < (labels h).length) := by
  have := under_end hl (a := (labels h).length) (b := a) (List.length_pos_iff.2 hl) (Nat.le_refl _) ha ha2
  rw [end_all hl] at this
  exact this
end Hst
end Go.Proofs.Ytcookddgaomkiaa
