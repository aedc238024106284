/- Plain: paths as the calls of package match ask them, and the last slash. No program is named here. -/
import Derived.Test.YtkajddopjflniaaGreatDoorMatchPlain
import Derived.Lib.LastIndexByte
namespace Go.Proofs.YtkajddopjflniaaGreatDoor
namespace Ma
theorem suffix_last (l : List UInt8) (c : UInt8) : Lib.hasSuffix l [c] = decide (l.getLast? = some c) := by
  rw [Bool.eq_iff_iff, decide_eq_true_eq]
  unfold Lib.hasSuffix
  rw [List.isSuffixOf_iff_suffix, List.getLast?_eq_some_iff]
  constructor
  · rintro ⟨t, h⟩; exact ⟨t, h.symm⟩
  · rintro ⟨t, h⟩; exact ⟨t, h.symm⟩
theorem prefix_first (l : List UInt8) (c : UInt8) : Lib.hasPrefix l [c] = decide (l.head? = some c) := by
  cases l with
  | nil => rfl
  | cons d r =>
    show ((c == d) && true) = decide (some d = some c)
    rw [Bool.and_true, Bool.eq_iff_iff, beq_iff_eq, decide_eq_true_eq, Option.some.injEq]
    exact ⟨fun h => h.symm, fun h => h.symm⟩
theorem prefix_split {p f : List UInt8} (h : Lib.hasPrefix p f = true) : p = f ++ p.drop f.length := by
  unfold Lib.hasPrefix at h
  rw [List.isPrefixOf_iff_prefix] at h
  obtain ⟨t, rfl⟩ := h
  rw [List.drop_left]
/-- As package match asks it: what stands behind. -/
theorem path_cut {p f : List UInt8} (h : Lib.hasPrefix p f = true) : path p f = (decide (Lib.trimPrefix p f = []) || (decide (f.getLast? = some 47) || decide ((Lib.trimPrefix p f).head? = some 47))) := by
  have e := prefix_split h
  have et : Lib.trimPrefix p f = p.drop f.length := by unfold Lib.trimPrefix; rw [if_pos h]
  rw [et]
  generalize p.drop f.length = t at *
  subst e
  rw [Bool.eq_iff_iff, path_iff]
  simp only [Bool.or_eq_true, decide_eq_true_eq]
  cases t with
  | nil => simp
  | cons c r =>
    constructor
    · rintro (k | ⟨d, q, k, hh⟩)
      · exact absurd (congrArg List.length k) (by simp)
      · have k2 := List.append_cancel_left k
        have hc : c = d := (List.cons.inj k2).1
        rcases hh with rfl | hh
        · exact .inr (.inr (by rw [hc]; rfl))
        · exact .inr (.inl hh)
    · rintro (k | k | k)
      · cases k
      · exact .inr ⟨c, r, rfl, .inr k⟩
      · exact .inr ⟨c, r, rfl, .inl (Option.some.inj k)⟩
theorem path_none {p f : List UInt8} (h : Lib.hasPrefix p f = false) : path p f = false := by
  cases k : path p f with
  | false => rfl
  | true =>
    have : Lib.hasPrefix p f = true := by
      unfold Lib.hasPrefix
      rw [List.isPrefixOf_iff_prefix]
      rcases (path_iff p f).1 k with rfl | ⟨c, r, rfl, _⟩
      · exact List.prefix_refl _
      · exact List.prefix_append ..
    rw [h] at this; cases this
/-! ### As the plain answer asks it -/
theorem path_short {p f : List UInt8} (hne : p ≠ f) (h : p.length ≤ f.length) : path p f = false := by
  unfold path
  rw [decide_eq_false hne, decide_eq_false (by omega)]; rfl
theorem path_other {p f : List UInt8} (h : f.length < p.length) (hne : p.take f.length ≠ f) : path p f = false := by
  unfold path
  rw [decide_eq_false (fun e => by rw [e] at h; omega), decide_eq_true h, decide_eq_false hne]; rfl
theorem path_edge {p f : List UInt8} (h : f.length < p.length) (ht : p.take f.length = f) : path p f = edge p f := by
  unfold path
  rw [decide_eq_false (fun e => by rw [e] at h; omega), decide_eq_true h, decide_eq_true ht]; rfl
theorem edge_byte {p f : List UInt8} (h : f.length < p.length) : edge p f = (decide (p[f.length] = 47) || decide (f.getLast? = some 47)) := by
  unfold edge
  rw [List.getElem?_eq_getElem h]
  simp
/-! ### The last slash -/
theorem cutLast_none {p : List UInt8} (h : (47 : UInt8) ∉ p) : cutLast p = [] := by
  unfold cutLast
  have : p.reverse.dropWhile (fun c => decide (c ≠ 47)) = [] := by
    have hp : ∀ c ∈ p.reverse, decide (c ≠ 47) = true := by
      intro c hc
      have : c ≠ 47 := fun e => h (by rw [← e]; exact List.mem_reverse.1 hc)
      simp [this]
    have := List.dropWhile_append_of_pos (l₂ := []) hp
    rw [List.append_nil] at this
    rw [this]; rfl
  rw [this]; rfl
theorem cutLast_hit (l : List UInt8) : cutLast (l ++ [47]) = l := cutLast_of (by simp)
theorem cutLast_miss (l : List UInt8) {c : UInt8} (h : c ≠ 47) : cutLast (l ++ [c]) = cutLast l := by
  unfold cutLast
  rw [List.reverse_append, List.reverse_singleton, List.singleton_append, List.dropWhile_cons_of_pos (by simp [h])]
theorem cutLast_take (p : List UInt8) : p.take (cutLast p).length = cutLast p := by
  by_cases h : (47 : UInt8) ∈ p
  · obtain ⟨r, e, _⟩ := cutLast_spec h
    conv => lhs; rw [e]
    rw [cutLast_of (by assumption), List.take_left]
  · rw [cutLast_none h]; rfl
theorem cutLast_le (p : List UInt8) : (cutLast p).length ≤ p.length := by
  rw [← cutLast_take p, List.length_take]; exact Nat.min_le_right _ _
theorem cutLast_empty {p : List UInt8} : cutLast p ≠ [] ↔ 0 < (cutLast p).length := by
  rw [List.length_pos_iff]
theorem take_byte (l : List UInt8) {k : Nat} (hk : k < l.length) : (cutLast (l.take (k + 1))).length = if l[k] = 47 then k else (cutLast (l.take k)).length := by
  rw [List.take_succ_eq_append_getElem hk]
  split
  · rename_i h
    rw [h, cutLast_hit, List.length_take]; omega
  · rename_i h
    rw [cutLast_miss _ h]
theorem default_yes {p : List UInt8} (h1 : p.head? = some 47) (h2 : 0 < (cutLast p).length) : default p = p.take (cutLast p).length := by
  unfold default
  rw [if_pos ⟨h1, cutLast_empty.2 h2⟩, cutLast_take]
theorem default_no {p : List UInt8} (h : p.head? ≠ some 47 ∨ (cutLast p).length = 0) : default p = [47] := by
  unfold default
  rw [if_neg]
  rintro ⟨h1, h2⟩
  have := cutLast_empty.1 h2
  rcases h with h | h
  · exact h h1
  · omega
theorem last_index (s : ByteArray) : Lib.lastIndexByte s 47 = if (47 : UInt8) ∈ s.data.toList then ((cutLast s.data.toList).length : Int) else -1 := by
  have hb : ∀ j, j < s.size → ∃ h : j < s.data.toList.length, s.data[j]! = s.data.toList[j] := by
    intro j hj
    have hj' : j < s.data.size := hj
    refine ⟨by rw [Array.length_toList]; exact hj', ?_⟩
    rw [getElem!_pos s.data j hj', Array.getElem_toList]
  rcases Lib.lastIndexByte_spec s 47 with ⟨e, hn⟩ | ⟨i, hi, e, hc, hn⟩
  · rw [e, if_neg]
    intro hm
    obtain ⟨j, hj, hx⟩ := List.getElem_of_mem hm
    have hj2 : j < s.size := by rw [Array.length_toList] at hj; exact hj
    obtain ⟨_, h2⟩ := hb j hj2
    exact hn j hj2 (by rw [h2, hx]; rfl)
  · obtain ⟨hl, h2⟩ := hb i hi
    rw [h2] at hc
    have hx : s.data.toList[i] = 47 := by
      apply UInt8.toNat_inj.1
      have : (s.data.toList[i]).toNat = 47 := by omega
      rw [this]; rfl
    have hs : s.data.toList = s.data.toList.take i ++ 47 :: s.data.toList.drop (i + 1) := by
      rw [← hx, ← List.drop_eq_getElem_cons hl, List.take_append_drop]
    have hr : ∀ c ∈ s.data.toList.drop (i + 1), c ≠ 47 := by
      intro c hc2 hc3
      obtain ⟨j, hj, hy⟩ := List.getElem_of_mem hc2
      rw [List.getElem_drop] at hy
      have hj2 : i + 1 + j < s.size := by
        rw [List.length_drop, Array.length_toList] at hj
        have : s.size = s.data.size := rfl
        omega
      obtain ⟨_, h3⟩ := hb (i + 1 + j) hj2
      exact hn (i + 1 + j) (by omega) hj2 (by rw [h3, hy, hc3]; rfl)
    have hcut : cutLast s.data.toList = s.data.toList.take i := by
      conv => lhs; rw [hs]
      exact cutLast_of hr
    rw [e, if_pos (by rw [← hx]; exact List.getElem_mem hl), hcut, List.length_take]
    omega
/-- The last slash's place is below one just if nothing stands ahead of it. -/
theorem last_small {s : ByteArray} : Lib.lastIndexByte s 47 < 1 ↔ (cutLast s.data.toList).length = 0 := by
  rw [last_index]
  split
  · omega
  · rename_i h
    rw [cutLast_none h]
    simp
theorem last_great {s : ByteArray} (h : 0 < (cutLast s.data.toList).length) : Lib.lastIndexByte s 47 = ((cutLast s.data.toList).length : Int) := by
  rw [last_index]
  split
  · rfl
  · rename_i k
    rw [cutLast_none k] at h
    cases h
/-! ### Hosts -/
theorem labels_can {h : Hst.Host} (hl : Hst.labels h ≠ []) : Hst.can h = true := by
  unfold Hst.labels at hl
  split at hl
  · rename_i k
    rw [Hst.can_right k.1]; exact k.2
  · exact absurd rfl hl
theorem under_can {h d : Hst.Host} (k : Hst.under h d = true) : Hst.can h = true ∧ Hst.can d = true := by
  rw [Hst.under_ref] at k
  unfold Hst.refUnder at k
  simp only [Bool.and_eq_true, decide_eq_true_eq] at k
  exact ⟨labels_can k.1.1, labels_can k.1.2⟩
theorem domain_code (h d : Hst.Host) : domain h d = ((decide (h = d) && Hst.can h) || Hst.under h d) := by
  unfold domain
  rw [Bool.eq_iff_iff]
  simp only [Bool.and_eq_true, Bool.or_eq_true, decide_eq_true_eq]
  constructor
  · rintro ⟨⟨h1, _⟩, h3 | h3⟩
    · exact .inl ⟨h3, h1⟩
    · exact .inr h3
  · rintro (⟨rfl, h1⟩ | h1)
    · exact ⟨⟨h1, h1⟩, .inl rfl⟩
    · exact ⟨under_can h1, .inr h1⟩
/-! ### Which requests, as package match asks it, and as the plain answer does -/
def goesTo (c : Cookie) (h : Hst.Host) : Bool := if c.only = true then decide (h = c.host) && Hst.can h else domain h c.host
theorem sends_code (c : Cookie) (r : Request) (now : Int) : sends c r now = (goesTo c r.host && (path r.path c.path && ((r.secure || !c.secure) && (crossed c.same r.cross && decide (now < c.expires))))) := by
  rw [Bool.eq_iff_iff, sends_iff]
  unfold goesTo
  simp only [Bool.and_eq_true, Bool.or_eq_true, decide_eq_true_eq, Bool.not_eq_true']
  constructor
  · rintro ⟨h1, h2, h3, h4, h5, h6⟩
    refine ⟨?_, h3, ?_, h6, h5⟩
    · cases ho : c.only with
      | true => rw [if_pos rfl]; simp only [Bool.and_eq_true, decide_eq_true_eq]; exact ⟨(h1 ho).symm, domain_can h2⟩
      | false => rw [if_neg (by decide)]; exact h2
    · cases hs : c.secure with
      | true => exact .inl (h4 hs)
      | false => exact .inr rfl
  · rintro ⟨h1, h2, h3, h4, h5⟩
    refine ⟨?_, ?_, h2, ?_, h5, h4⟩
    · intro ho
      rw [if_pos ho] at h1
      simp only [Bool.and_eq_true, decide_eq_true_eq] at h1
      exact h1.1.symm
    · split at h1
      · simp only [Bool.and_eq_true, decide_eq_true_eq] at h1
        rw [h1.1, domain_self, ← h1.1]; exact h1.2
      · exact h1
    · intro hs
      rcases h3 with k | k
      · exact k
      · rw [hs] at k; cases k
theorem sends_plain (c : Cookie) (r : Request) (now : Int) : sends c r now = ((!c.only || decide (c.host = r.host)) && (domain r.host c.host && (path r.path c.path && ((!c.secure || r.secure) && (decide (now < c.expires) && crossed c.same r.cross))))) := by
  rw [Bool.eq_iff_iff, sends_iff]
  simp only [Bool.and_eq_true, Bool.or_eq_true, decide_eq_true_eq, Bool.not_eq_true']
  constructor
  · rintro ⟨h1, h2, h3, h4, h5, h6⟩
    refine ⟨?_, h2, h3, ?_, h5, h6⟩
    · cases ho : c.only with
      | true => exact .inr (h1 ho)
      | false => exact .inl rfl
    · cases hs : c.secure with
      | true => exact .inr (h4 hs)
      | false => exact .inl rfl
  · rintro ⟨h1, h2, h3, h4, h5, h6⟩
    refine ⟨?_, h2, h3, ?_, h5, h6⟩
    · intro ho
      rcases h1 with k | k
      · rw [ho] at k; cases k
      · exact k
    · intro hs
      rcases h4 with k | k
      · rw [hs] at k; cases k
      · exact k
end Ma
end Go.Proofs.YtkajddopjflniaaGreatDoor
