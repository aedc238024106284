/- Plain: labels and bytes as symbols, and plain lemmas on them. No program is named here. -/
import Derived.Test.YtaaclhgnbdcaaaaPlains
namespace Go.Proofs.Ytaaclhgnbdcaaaa
namespace Sy
/-! ### Texts in order -/
/-- Does a text stand ahead of another one, byte by byte? -/
def less : List UInt8 → List UInt8 → Bool
  | [], [] => false
  | [], _ :: _ => true
  | _ :: _, [] => false
  | a :: x, b :: y => if a = b then less x y else decide (a.toNat < b.toNat)
theorem less_self : ∀ x : List UInt8, less x x = false
  | [] => rfl
  | a :: x => by unfold less; rw [if_pos rfl]; exact less_self x
theorem less_trans : ∀ {x y z : List UInt8}, less x y = true → less y z = true → less x z = true
  | [], [], _, h, _ => by cases h
  | [], _ :: _, [], _, h => by cases h
  | [], _ :: _, _ :: _, _, _ => rfl
  | _ :: _, [], _, h, _ => by cases h
  | _ :: _, _ :: _, [], _, h => by cases h
  | a :: x, b :: y, c :: z, h1, h2 => by
    unfold less at *
    by_cases e1 : a = b
    · subst e1
      rw [if_pos rfl] at h1
      by_cases e2 : a = c
      · subst e2
        rw [if_pos rfl] at h2 ⊢
        exact less_trans h1 h2
      · rw [if_neg e2] at h2 ⊢
        exact h2
    · rw [if_neg e1] at h1
      have h1 := of_decide_eq_true h1
      by_cases e2 : b = c
      · subst e2
        rw [if_neg e1]
        exact decide_eq_true h1
      · rw [if_neg e2] at h2
        have h2 := of_decide_eq_true h2
        rw [if_neg (by rintro rfl; omega)]
        exact decide_eq_true (by omega)
theorem less_asymm {x y : List UInt8} (h : less x y = true) : less y x = false := by
  cases k : less y x with
  | false => rfl
  | true =>
    have := less_trans h k
    rw [less_self] at this
    cases this
theorem less_total : ∀ {x y : List UInt8}, x ≠ y → less x y = true ∨ less y x = true
  | [], [], h => absurd rfl h
  | [], _ :: _, _ => .inl rfl
  | _ :: _, [], _ => .inr rfl
  | a :: x, b :: y, h => by
    unfold less
    by_cases e : a = b
    · subst e
      rw [if_pos rfl, if_pos rfl]
      exact less_total fun k => h (by rw [k])
    · rw [if_neg e, if_neg (fun k => e k.symm)]
      have : a.toNat ≠ b.toNat := fun k => e (UInt8.toNat_inj.1 k)
      rcases Nat.lt_or_gt_of_ne this with k | k
      · exact .inl (decide_eq_true k)
      · exact .inr (decide_eq_true k)
/-! ### Each once -/
def once (o : List (List UInt8)) (s : List UInt8) : List (List UInt8) := if s ∈ o then o else o ++ [s]
def texts (l : List (List UInt8)) : List (List UInt8) := l.foldl once []
theorem fold_once : ∀ {l o : List (List UInt8)}, o.Nodup → (l.foldl once o).Nodup ∧ ∀ s, s ∈ l.foldl once o ↔ s ∈ o ∨ s ∈ l
  | [], o, h => ⟨h, fun s => by simp⟩
  | a :: l, o, h => by
    have hn : (once o a).Nodup := by
      unfold once
      split
      · exact h
      · rename_i k
        refine List.nodup_append.2 ⟨h, (by simp), fun x hx y hy => ?_⟩
        rw [List.mem_singleton.1 hy]
        rintro rfl
        exact k hx
    obtain ⟨h1, h2⟩ := fold_once (l := l) hn
    refine ⟨h1, fun s => ?_⟩
    rw [List.foldl_cons, h2, List.mem_cons]
    have : s ∈ once o a ↔ s ∈ o ∨ s = a := by
      unfold once
      split
      · rename_i k
        exact ⟨.inl, fun e => e.elim id fun e => by rw [e]; exact k⟩
      · rw [List.mem_append, List.mem_singleton]
    rw [this, or_assoc]
theorem texts_nodup (l : List (List UInt8)) : (texts l).Nodup := (fold_once List.nodup_nil).1
theorem texts_mem {l : List (List UInt8)} {s : List UInt8} : s ∈ texts l ↔ s ∈ l := by
  unfold texts
  rw [(fold_once List.nodup_nil).2]
  simp
def of (l : List (List UInt8)) (s : List UInt8) : Nat := if s ∈ texts l then (texts l).countP fun x => less x s else (texts l).length
/-- A list by rising texts that has these. -/
structure Sorted (l t : List (List UInt8)) : Prop where
  rise : t.Pairwise fun a b => less a b = true
  mem : ∀ s, s ∈ t ↔ s ∈ l
theorem Sorted.nodup {l t : List (List UInt8)} (h : Sorted l t) : t.Nodup := by
  refine h.rise.imp fun k => ?_
  rintro rfl
  rw [less_self] at k
  cases k
theorem Sorted.perm {l t : List (List UInt8)} (h : Sorted l t) : t.Perm (texts l) := (List.perm_ext_iff_of_nodup h.nodup (texts_nodup l)).2 fun s => by rw [h.mem, texts_mem]
theorem Sorted.len {l t : List (List UInt8)} (h : Sorted l t) : (texts l).length = t.length := h.perm.length_eq.symm
/-- There is just one. -/
theorem Sorted.one {l k t u : List (List UInt8)} (h : Sorted l t) (g : Sorted k u) (e : ∀ s, s ∈ l ↔ s ∈ k) : t = u := by
  refine List.Perm.eq_of_pairwise (le := fun a b => less a b = true) (fun a b _ _ h1 h2 => ?_) h.rise g.rise ((List.perm_ext_iff_of_nodup h.nodup g.nodup).2 fun s => by rw [h.mem, g.mem, e])
  rw [less_asymm h1] at h2
  cases h2
theorem count_at : ∀ {t : List (List UInt8)}, t.Pairwise (fun a b => less a b = true) → ∀ {i : Nat} {s : List UInt8}, t[i]? = some s → (t.countP fun x => less x s) = i
  | [], _, i, s, h => by cases h
  | a :: t, hp, 0, s, h => by
    have e : a = s := Option.some.inj h
    subst e
    obtain ⟨h1, _⟩ := List.pairwise_cons.1 hp
    rw [List.countP_cons_of_neg (by rw [less_self]; simp), List.countP_eq_zero.2]
    intro x hx
    rw [less_asymm (h1 x hx)]
    simp
  | a :: t, hp, i + 1, s, h => by
    obtain ⟨h1, h2⟩ := List.pairwise_cons.1 hp
    have h : t[i]? = some s := h
    rw [List.countP_cons_of_pos (p := fun x => less x s) (h1 s (List.mem_of_getElem? h)), count_at h2 h]
/-- A text's symbol is its place. -/
theorem Sorted.at {l t : List (List UInt8)} (h : Sorted l t) {i : Nat} {s : List UInt8} (k : t[i]? = some s) : of l s = i := by
  unfold of
  rw [if_pos (texts_mem.2 ((h.mem s).1 (List.mem_of_getElem? k))), ← h.perm.countP_eq, count_at h.rise k]
theorem Sorted.other {l t : List (List UInt8)} (h : Sorted l t) {s : List UInt8} (k : s ∉ l) : of l s = t.length := by
  unfold of
  rw [if_neg (by rw [texts_mem]; exact k), h.len]
theorem Sorted.lt {l t : List (List UInt8)} (h : Sorted l t) {s : List UInt8} : of l s < t.length ↔ s ∈ l := by
  constructor
  · intro k
    refine Decidable.byContradiction fun n => ?_
    rw [h.other n] at k
    exact Nat.lt_irrefl _ k
  · intro k
    obtain ⟨i, hi⟩ := List.getElem?_of_mem ((h.mem s).2 k)
    rw [h.at hi]
    exact (List.getElem?_eq_some_iff.1 hi).1
/-! ### The first one that is none of them -/
def after (c : UInt8) : UInt8 := if c = 122 then 48 else if c = 57 then 45 else if c = 45 then 95 else if c = 95 then 0 else c + 1
/-- The text behind another one; the last byte ahead. -/
def nxtR : List UInt8 → List UInt8
  | [] => [97]
  | c :: r => if 0 < (after c).toNat then after c :: r else 97 :: nxtR r
def nxt (s : List UInt8) : List UInt8 := (nxtR s.reverse).reverse
def goodB (c : UInt8) : Bool := decide ((97 ≤ c.toNat ∧ c.toNat ≤ 122) ∨ (48 ≤ c.toNat ∧ c.toNat ≤ 57) ∨ c.toNat = 45 ∨ c.toNat = 95)
def dig (c : UInt8) : Nat := if 97 ≤ c.toNat then c.toNat - 96 else if c.toNat = 95 then 38 else if c.toNat = 45 then 37 else c.toNat - 21
def valR : List UInt8 → Nat
  | [] => 0
  | c :: r => dig c + 38 * valR r
theorem byte_all {p : UInt8 → Prop} (h : ∀ n : Fin 256, p (UInt8.ofNat n.val)) (c : UInt8) : p c := by
  have := h ⟨c.toNat, c.toNat_lt⟩
  rw [UInt8.ofNat_toNat] at this
  exact this
theorem after_good (c : UInt8) : goodB c = true → (0 < (after c).toNat → goodB (after c) = true ∧ dig (after c) = dig c + 1) ∧ (¬ 0 < (after c).toNat → dig c = 38) := by
  revert c
  exact byte_all (by decide +kernel)
theorem dig_le (c : UInt8) : goodB c = true → 1 ≤ dig c ∧ dig c ≤ 38 := by
  revert c
  exact byte_all (by decide +kernel)
def chr (n : Nat) : UInt8 := if n ≤ 26 then UInt8.ofNat (n + 96) else if n ≤ 36 then UInt8.ofNat (n + 21) else if n = 37 then 45 else 95
theorem chr_dig (c : UInt8) : goodB c = true → chr (dig c) = c := by
  revert c
  exact byte_all (by decide +kernel)
theorem nxtR_val : ∀ {r : List UInt8}, (∀ c ∈ r, goodB c = true) → valR (nxtR r) = valR r + 1 ∧ ∀ c ∈ nxtR r, goodB c = true
  | [], _ => ⟨rfl, fun c hc => by rw [List.mem_singleton.1 hc]; rfl⟩
  | a :: r, h => by
    obtain ⟨h1, h2⟩ := after_good a (h a (by simp))
    unfold nxtR
    split
    · rename_i k
      obtain ⟨k1, k2⟩ := h1 k
      refine ⟨by unfold valR; rw [k2]; omega, fun c hc => ?_⟩
      rcases List.mem_cons.1 hc with e | e
      · rw [e]; exact k1
      · exact h c (by simp [e])
    · rename_i k
      obtain ⟨i1, i2⟩ := nxtR_val (r := r) fun c hc => h c (by simp [hc])
      refine ⟨?_, fun c hc => ?_⟩
      · unfold valR
        rw [i1, h2 k]
        show 1 + _ = _
        omega
      · rcases List.mem_cons.1 hc with e | e
        · rw [e]; rfl
        · exact i2 c e
theorem valR_inj : ∀ {r q : List UInt8}, (∀ c ∈ r, goodB c = true) → (∀ c ∈ q, goodB c = true) → valR r = valR q → r = q
  | [], [], _, _, _ => rfl
  | [], b :: q, _, hq, h => by
    have := dig_le b (hq b (by simp))
    unfold valR at h
    omega
  | a :: r, [], hr, _, h => by
    have := dig_le a (hr a (by simp))
    unfold valR at h
    omega
  | a :: r, b :: q, hr, hq, h => by
    have ha := dig_le a (hr a (by simp))
    have hb := dig_le b (hq b (by simp))
    have h : dig a + 38 * valR r = dig b + 38 * valR q := h
    have e1 : dig a = dig b := by omega
    have e2 : valR r = valR q := by omega
    have e3 : a = b := by rw [← chr_dig a (hr a (by simp)), ← chr_dig b (hq b (by simp)), e1]
    rw [e3, valR_inj (fun c hc => hr c (by simp [hc])) (fun c hc => hq c (by simp [hc])) e2]
def val (s : List UInt8) : Nat := valR s.reverse
def Good (s : List UInt8) : Prop := ∀ c ∈ s, goodB c = true
theorem good_reverse {s : List UInt8} (h : Good s) : Good s.reverse := fun c hc => h c (List.mem_reverse.1 hc)
theorem nxt_val {s : List UInt8} (h : Good s) : val (nxt s) = val s + 1 ∧ Good (nxt s) := by
  obtain ⟨h1, h2⟩ := nxtR_val (good_reverse h)
  unfold val nxt
  rw [List.reverse_reverse]
  exact ⟨h1, good_reverse h2⟩
theorem val_inj {s t : List UInt8} (h : Good s) (g : Good t) (e : val s = val t) : s = t := by
  have := valR_inj (good_reverse h) (good_reverse g) e
  rw [← List.reverse_reverse s, this, List.reverse_reverse]
/-- So many texts behind `a`. -/
def cand : Nat → List UInt8
  | 0 => [97]
  | n + 1 => nxt (cand n)
theorem cand_val : ∀ n : Nat, val (cand n) = n + 1 ∧ Good (cand n)
  | 0 => ⟨rfl, fun c hc => by rw [List.mem_singleton.1 hc]; rfl⟩
  | n + 1 => by
    obtain ⟨h1, h2⟩ := cand_val n
    obtain ⟨h3, h4⟩ := nxt_val h2
    unfold cand
    exact ⟨by rw [h3, h1], h4⟩
theorem cand_inj {n m : Nat} (h : cand n = cand m) : n = m := by
  have h1 := (cand_val n).1
  have h2 := (cand_val m).1
  rw [h] at h1
  omega
/-- The plain answer's loop: at most so many more are looked at. -/
def search (l : List (List UInt8)) : Nat → List UInt8 → List UInt8
  | 0, s => s
  | n + 1, s => if s ∈ l then search l n (nxt s) else s
def fresh (l : List (List UInt8)) : List UInt8 := search l (l.length + 1) [97]
theorem search_is (l : List (List UInt8)) : ∀ n i : Nat, ∃ k, k ≤ n ∧ search l n (cand i) = cand (i + k) ∧ (∀ j, j < k → cand (i + j) ∈ l) ∧ (k = n ∨ cand (i + k) ∉ l)
  | 0, i => ⟨0, Nat.le_refl 0, rfl, fun j hj => absurd hj (Nat.not_lt_zero j), .inl rfl⟩
  | n + 1, i => by
    unfold search
    split
    · rename_i h
      obtain ⟨k, h1, h2, h3, h4⟩ := search_is l n (i + 1)
      refine ⟨k + 1, by omega, ?_, ?_, ?_⟩
      · show search l n (cand (i + 1)) = _
        rw [h2]; congr 1; omega
      · intro j hj
        cases j with
        | zero => exact h
        | succ j =>
          have := h3 j (by omega)
          rw [Nat.add_right_comm, Nat.add_assoc] at this
          exact this
      · rcases h4 with e | e
        · exact .inl (by omega)
        · right
          rw [Nat.add_right_comm, Nat.add_assoc] at e
          exact e
    · rename_i h
      exact ⟨0, Nat.zero_le _, rfl, fun j hj => absurd hj (Nat.not_lt_zero j), .inr h⟩
/-- It is none of them, and the first that is none. -/
theorem fresh_is (l : List (List UInt8)) : ∃ k, k ≤ l.length ∧ fresh l = cand k ∧ cand k ∉ l ∧ ∀ j, j < k → cand j ∈ l := by
  obtain ⟨k, h1, h2, h3, h4⟩ := search_is l (l.length + 1) 0
  rw [Nat.zero_add] at h2 h4
  have h3 : ∀ j, j < k → cand j ∈ l := fun j hj => by have := h3 j hj; rw [Nat.zero_add] at this; exact this
  have hk : k ≤ l.length := by
    have hn : ((List.range k).map cand).Nodup := by
      refine List.Pairwise.map cand (fun a b hab => ?_) (List.nodup_range (n := k))
      exact fun e => hab (cand_inj e)
    have := hn.length_le_of_subset (l₂ := l) (by
      intro x hx
      obtain ⟨j, hj, rfl⟩ := List.mem_map.1 hx
      exact h3 j (List.mem_range.1 hj))
    rw [List.length_map, List.length_range] at this
    exact this
  refine ⟨k, hk, h2, h4.resolve_left (by omega), h3⟩
theorem fresh_new (l : List (List UInt8)) : fresh l ∉ l := by
  obtain ⟨k, _, h2, h3, _⟩ := fresh_is l
  rw [h2]; exact h3
/-- Whatever is none of them, with all ahead of it being so, is it. -/
theorem fresh_of {l : List (List UInt8)} {k : Nat} (h : cand k ∉ l) (hj : ∀ j, j < k → cand j ∈ l) : fresh l = cand k := by
  obtain ⟨m, _, h2, h3, h4⟩ := fresh_is l
  rw [h2]
  rcases Nat.lt_trichotomy m k with r | r | r
  · exact absurd (hj m r) h3
  · rw [r]
  · exact absurd (h4 k r) h
/-- The plain answer asks the list of texts each once as well. -/
theorem fresh_congr {l k : List (List UInt8)} (h : ∀ s, s ∈ l ↔ s ∈ k) : fresh l = fresh k := by
  obtain ⟨m, _, h2, h3, h4⟩ := fresh_is l
  rw [h2]
  exact (fresh_of (fun e => h3 ((h _).2 e)) fun j hj => (h _).1 (h4 j hj)).symm
/-! ### A symbol's text -/
def text (l : List (List UInt8)) (i : Int) : List UInt8 :=
  if i = ((texts l).length : Int) then fresh l else ((texts l).find? fun s => decide ((of l s : Int) = i)).getD []
theorem Sorted.text_at {l t : List (List UInt8)} (h : Sorted l t) {i : Nat} {s : List UInt8} (k : t[i]? = some s) : text l i = s := by
  have hi := (List.getElem?_eq_some_iff.1 k).1
  unfold text
  rw [if_neg (by rw [h.len]; omega)]
  have hm : s ∈ texts l := texts_mem.2 ((h.mem s).1 (List.mem_of_getElem? k))
  cases e : (texts l).find? fun s => decide ((of l s : Int) = (i : Int)) with
  | none =>
    have := List.find?_eq_none.1 e s hm
    rw [h.at k] at this
    simp at this
  | some x =>
    have h1 := List.find?_some e
    have h2 := List.mem_of_find?_eq_some e
    obtain ⟨j, hj⟩ := List.getElem?_of_mem ((h.mem x).2 (texts_mem.1 h2))
    have h1 := of_decide_eq_true h1
    rw [h.at hj] at h1
    have : j = i := by omega
    subst this
    rw [k] at hj
    exact (Option.some.inj hj).symm
theorem Sorted.text_other {l t : List (List UInt8)} (h : Sorted l t) : text l t.length = fresh l := by
  unfold text
  rw [if_pos (by rw [h.len])]
theorem Sorted.text_none {l t : List (List UInt8)} (h : Sorted l t) {i : Int} (k : i < 0 ∨ (t.length : Int) < i) : text l i = [] := by
  unfold text
  rw [if_neg (by rw [h.len]; omega), List.find?_eq_none.2]
  · rfl
  · intro s hs
    have := h.lt.2 (texts_mem.1 hs)
    simp only [decide_eq_true_eq]
    omega
/-- Each text's symbol has that text. -/
theorem Sorted.back {l t : List (List UInt8)} (h : Sorted l t) {s : List UInt8} (k : s ∈ l) : text l (of l s) = s := by
  obtain ⟨i, hi⟩ := List.getElem?_of_mem ((h.mem s).2 k)
  rw [h.at hi, h.text_at hi]
/-! ### The bytes of paths -/
def pathB (c : UInt8) : Bool := decide (33 ≤ c.toNat ∧ c.toNat ≤ 126 ∧ c.toNat ≠ 63 ∧ c.toNat ≠ 35)
def symN (c : UInt8) : Nat := c.toNat - 33 - (if 35 < c.toNat then 1 else 0) - (if 63 < c.toNat then 1 else 0)
def sym (c : UInt8) : Int := if pathB c = true then (symN c : Int) else -1
/-- The byte of a symbol. -/
def byteN (n : Nat) : UInt8 := if n < 2 then UInt8.ofNat (n + 33) else if n < 29 then UInt8.ofNat (n + 34) else UInt8.ofNat (n + 35)
theorem sym_lt (c : UInt8) : pathB c = true → symN c < 92 ∧ byteN (symN c) = c := by
  revert c
  exact byte_all (by decide +kernel)
theorem byteN_sym : ∀ n : Nat, n < 92 → pathB (byteN n) = true ∧ symN (byteN n) = n := by decide +kernel
def bytes (s : List UInt8) : List Int × Bool := if s.all pathB = true then (s.map sym, true) else ([], false)
def inB (n : Int) : Bool := decide (0 ≤ n ∧ n < 92)
def from' (l : List Int) : List UInt8 × Bool := if l.all inB = true then (l.map fun n => byteN n.toNat, true) else ([], false)
theorem sym_back {c : UInt8} (h : pathB c = true) : inB (sym c) = true ∧ byteN (sym c).toNat = c := by
  obtain ⟨h1, h2⟩ := sym_lt c h
  unfold sym inB
  rw [if_pos h]
  exact ⟨decide_eq_true (by omega), by rw [Int.toNat_natCast]; exact h2⟩
theorem byte_back {n : Int} (h : inB n = true) : pathB (byteN n.toNat) = true ∧ sym (byteN n.toNat) = n := by
  have h := of_decide_eq_true h
  obtain ⟨h1, h2⟩ := byteN_sym n.toNat (by omega)
  unfold sym
  rw [if_pos h1, h2]
  exact ⟨h1, by omega⟩
/-- A path's symbols make the path. -/
theorem bytes_back {s : List UInt8} (h : (bytes s).2 = true) : from' (bytes s).1 = (s, true) ∧ (bytes s).1.length = s.length := by
  unfold bytes at *
  split
  · rename_i k
    have k := List.all_eq_true.1 k
    refine ⟨?_, by rw [List.length_map]⟩
    unfold from'
    rw [if_pos (by rw [List.all_map]; exact List.all_eq_true.2 fun c hc => (sym_back (k c hc)).1), List.map_map]
    congr 1
    refine (List.map_congr_left fun c hc => ?_).trans (List.map_id s)
    exact (sym_back (k c hc)).2
  · rename_i k
    rw [if_neg k] at h
    cases h
/-- Symbols that make a text are that text's. -/
theorem from_back {l : List Int} (h : (from' l).2 = true) : bytes (from' l).1 = (l, true) := by
  unfold from' at *
  split
  · rename_i k
    have k := List.all_eq_true.1 k
    unfold bytes
    rw [if_pos (by rw [List.all_map]; exact List.all_eq_true.2 fun n hn => (byte_back (k n hn)).1), List.map_map]
    congr 1
    refine (List.map_congr_left fun n hn => ?_).trans (List.map_id l)
    exact (byte_back (k n hn)).2
  · rename_i k
    rw [if_neg k] at h
    cases h
theorem from_no {l : List Int} (h : (from' l).2 = false) : (from' l).1 = [] := by
  unfold from' at *
  split
  · rename_i k
    rw [if_pos k] at h
    cases h
  · rfl
end Sy
end Go.Proofs.Ytaaclhgnbdcaaaa
