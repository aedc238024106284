/- Sorted, each once: what slices.Sort and slices.Compact leave of a list of texts. -/
import Derived.Test.YtaaclhgnbdcaaaaSymbolWays
import Derived.Lib.SlicesCompact
import Derived.Sort.OwnSorted
namespace Go.Proofs.Ytaaclhgnbdcaaaa
namespace Sy
theorem lt_less : ∀ {x y : List UInt8}, x < y ↔ less x y = true
  | [], [] => by simp [less]
  | [], _ :: _ => by simp [less]
  | _ :: _, [] => by simp [less]
  | a :: x, b :: y => by
    rw [List.cons_lt_cons_iff]
    unfold less
    by_cases h : a = b
    · subst h
      rw [if_pos rfl]
      constructor
      · rintro (e | ⟨_, e⟩)
        · exact absurd e (UInt8.lt_irrefl a)
        · exact lt_less.1 e
      · exact fun e => .inr ⟨rfl, lt_less.2 e⟩
    · rw [if_neg h, decide_eq_true_eq]
      constructor
      · rintro (e | ⟨e, _⟩)
        · exact UInt8.lt_iff_toNat_lt.1 e
        · exact absurd e h
      · exact fun e => .inl (UInt8.lt_iff_toNat_lt.2 e)
theorem le_less {x y : List UInt8} : x ≤ y ↔ less y x = false := by
  rw [← List.not_lt, lt_less]
  simp
theorem le_of {x y : List UInt8} (h : x = y ∨ less x y = true) : less y x = false := by
  rcases h with rfl | h
  · exact less_self x
  · exact less_asymm h
theorem or_of {x y : List UInt8} (h : less y x = false) : x = y ∨ less x y = true := by
  by_cases e : x = y
  · exact .inl e
  · rcases less_total e with k | k
    · exact .inr k
    · rw [k] at h; cases h
theorem le_trans' {x y z : List UInt8} (h1 : x = y ∨ less x y = true) (h2 : y = z ∨ less y z = true) : x = z ∨ less x z = true := by
  rcases h1 with rfl | h1
  · exact h2
  · rcases h2 with rfl | h2
    · exact .inr h1
    · exact .inr (less_trans h1 h2)
def sort (l : List (List UInt8)) : List (List UInt8) := l.mergeSort fun x y => decide (x ≤ y)
theorem sort_length (l : List (List UInt8)) : (sort l).length = l.length := by unfold sort; simp
theorem sort_mem {l : List (List UInt8)} {s : List UInt8} : s ∈ sort l ↔ s ∈ l := by unfold sort; simp
theorem sort_le (l : List (List UInt8)) : (sort l).Pairwise fun a b => a = b ∨ less a b = true := by
  have h : (sort l).Pairwise fun a b => decide (a ≤ b) = true := by
    unfold sort
    refine List.pairwise_mergeSort (fun a b c h1 h2 => ?_) (fun a b => ?_) l
    · rw [decide_eq_true_eq, le_less] at *
      exact le_of (le_trans' (or_of h1) (or_of h2))
    · rw [Bool.or_eq_true, decide_eq_true_eq, decide_eq_true_eq, le_less, le_less]
      by_cases e : a = b
      · subst e; exact .inl (less_self a)
      · rcases less_total e with k | k
        · exact .inl (less_asymm k)
        · exact .inr (less_asymm k)
  refine h.imp fun k => ?_
  rw [decide_eq_true_eq, le_less] at k
  exact or_of k
theorem get_bang {zs : List (List UInt8)} {i : Nat} (h : i < zs.length) : zs.toArray[i]! = zs[i] := by simp [h]
/-- Behind the first m: the same texts, by rising order; none of them stands behind the last one. -/
theorem compact_upto {zs : List (List UInt8)} (h : zs.Pairwise fun a b => a = b ∨ less a b = true) : ∀ m, m ≤ zs.length → (Lib.compactUpTo zs.toArray m).Pairwise (fun a b => less a b = true) ∧ ∀ s, s ∈ Lib.compactUpTo zs.toArray m ↔ s ∈ zs.take m
  | 0, _ => by simp [Lib.compactUpTo]
  | m + 1, hm => by
    obtain ⟨h1, h2⟩ := compact_upto h m (by omega)
    have hx : zs[m]? = some zs[m] := List.getElem?_eq_getElem hm
    have hle : ∀ s, s ∈ zs.take m → s = zs[m] ∨ less s zs[m] = true := by
      intro s hs
      obtain ⟨i, hi, e⟩ := List.getElem_of_mem hs
      rw [List.length_take] at hi
      rw [List.getElem_take] at e
      have := List.pairwise_iff_getElem.1 h i m (by omega) hm (by omega)
      rw [e] at this
      exact this
    rw [Lib.compactUpTo_succ, get_bang hm]
    by_cases hk : 0 < m ∧ zs[m] = zs[m - 1]'(by omega)
    · rw [Lib.keeps_neg hk.1 (by rw [get_bang hm, get_bang (by omega)]; exact hk.2)]
      simp only [Bool.false_eq_true, if_false, List.append_nil]
      refine ⟨h1, fun s => ?_⟩
      rw [h2, List.take_add_one, hx, List.mem_append]
      constructor
      · exact .inl
      · rintro (e | e)
        · exact e
        · have e : s = zs[m] := by simpa using e
          rw [e, hk.2]
          refine List.mem_of_getElem? (i := m - 1) ?_
          rw [List.getElem?_take, if_pos (by omega), List.getElem?_eq_getElem (by omega)]
    · have hkeep : Lib.keeps zs.toArray m = true := by
        by_cases h0 : m < 1
        · exact Lib.keeps_lt_one _ m h0
        · refine Lib.keeps_pos ?_
          rw [get_bang hm, get_bang (by omega)]
          exact fun e => hk ⟨by omega, e⟩
      rw [hkeep, if_pos rfl]
      have hnew : ∀ s, s ∈ zs.take m → less s zs[m] = true := by
        intro s hs
        rcases hle s hs with e | e
        · exfalso
          obtain ⟨i, hi, e1⟩ := List.getElem_of_mem hs
          rw [List.length_take] at hi
          rw [List.getElem_take] at e1
          refine hk ⟨by omega, ?_⟩
          by_cases him : i = m - 1
          · subst him; rw [← e, e1]
          · have a1 := List.pairwise_iff_getElem.1 h i (m - 1) (by omega) (by omega) (by omega)
            have a2 := List.pairwise_iff_getElem.1 h (m - 1) m (by omega) hm (by omega)
            rw [e1, e] at a1
            rcases a1 with k | k
            · exact k
            · rcases a2 with q | q
              · exact q.symm
              · rw [less_asymm k] at q; cases q
        · exact e
      refine ⟨List.pairwise_append.2 ⟨h1, List.pairwise_singleton _ _, fun a ha b hb => ?_⟩, fun s => ?_⟩
      · rw [List.mem_singleton.1 hb]
        exact hnew a ((h2 a).1 ha)
      · rw [List.mem_append, h2, List.take_add_one, hx, List.mem_append]
        simp
theorem sorted_compact (l : List (List UInt8)) : Sorted l (Lib.compact (sort l)) := by
  obtain ⟨h1, h2⟩ := compact_upto (sort_le l) (sort l).length (Nat.le_refl _)
  refine ⟨h1, fun s => ?_⟩
  have := h2 s
  rw [List.take_of_length_le (Nat.le_refl _), sort_mem] at this
  exact this
/-- The bytes of the m-th text of Fresh, the last one ahead. -/
def digs (m : Nat) : List UInt8 := if h : m = 0 then [] else chr ((m - 1) % 38 + 1) :: digs ((m - 1) / 38)
termination_by m
decreasing_by omega
theorem digs_zero : digs 0 = [] := by rw [digs]; rfl
theorem digs_succ (k : Nat) : digs (k + 1) = chr (k % 38 + 1) :: digs (k / 38) := by rw [digs, dif_neg (by omega)]; rfl
theorem chr_all : ∀ k : Nat, k < 38 → dig (chr (k + 1)) = k + 1 ∧ goodB (chr (k + 1)) = true := by decide +kernel
theorem digs_val : ∀ m : Nat, valR (digs m) = m ∧ ∀ c ∈ digs m, goodB c = true := by
  intro m
  induction m using Nat.strongRecOn with
  | _ m ih =>
    cases m with
    | zero => rw [digs_zero]; exact ⟨rfl, by simp⟩
    | succ k =>
      rw [digs_succ]
      obtain ⟨h1, h2⟩ := ih (k / 38) (by omega)
      obtain ⟨h3, h4⟩ := chr_all (k % 38) (Nat.mod_lt _ (by decide))
      refine ⟨?_, fun c hc => ?_⟩
      · unfold valR
        rw [h1, h3]
        omega
      · rcases List.mem_cons.1 hc with e | e
        · rw [e]; exact h4
        · exact h2 c e
theorem cand_digs (n : Nat) : cand n = (digs (n + 1)).reverse := by
  obtain ⟨h1, h2⟩ := digs_val (n + 1)
  obtain ⟨h3, h4⟩ := cand_val n
  refine val_inj h4 (fun c hc => h2 c (List.mem_reverse.1 hc)) ?_
  rw [h3]
  unfold val
  rw [List.reverse_reverse, h1]
theorem digs_length : ∀ m : Nat, (digs m).length ≤ m := by
  intro m
  induction m using Nat.strongRecOn with
  | _ m ih =>
    cases m with
    | zero => rw [digs_zero]; simp
    | succ k =>
      rw [digs_succ, List.length_cons]
      have := ih (k / 38) (by omega)
      omega
end Sy
end Go.Proofs.Ytaaclhgnbdcaaaa
