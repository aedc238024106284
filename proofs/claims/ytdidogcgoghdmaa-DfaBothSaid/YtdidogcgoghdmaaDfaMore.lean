/- Plain: what begins with a word, out of the word's own automaton. No program is named here. -/
import Derived.Test.YtdidogcgoghdmaaDfaPlain
namespace Go.Proofs.Ytdidogcgoghdmaa
namespace Au
/-- So many numbers from a place on are written anew. -/
def setAll (l : List Nat) (p m : Nat) : Nat → List Nat
  | 0 => l
  | j + 1 => (setAll l p m j).set (p + j) m
theorem setAll_length (l : List Nat) (p m : Nat) : ∀ j, (setAll l p m j).length = l.length
  | 0 => rfl
  | j + 1 => by unfold setAll; rw [List.length_set]; exact setAll_length l p m j
theorem setAll_at (l : List Nat) (p m : Nat) : ∀ (j i : Nat), (setAll l p m j)[i]? = if p ≤ i ∧ i < p + j ∧ i < l.length then some m else l[i]?
  | 0, i => by rw [if_neg (by omega)]; rfl
  | j + 1, i => by
    have ih := setAll_at l p m j i
    unfold setAll
    rw [List.getElem?_set, setAll_length]
    by_cases e : p + j = i
    · rw [if_pos e]
      by_cases h : i < l.length
      · rw [if_pos (by omega), if_pos ⟨by omega, by omega, h⟩]
      · rw [if_neg (by omega), if_neg (fun k => h k.2.2), List.getElem?_eq_none (by omega)]
    · rw [if_neg e, ih]
      by_cases h : p ≤ i ∧ i < p + j ∧ i < l.length
      · rw [if_pos h, if_pos ⟨h.1, by omega, h.2.2⟩]
      · rw [if_neg h, if_neg (fun k => h ⟨k.1, by omega, k.2.2⟩)]
theorem begins_of {k : Nat} {v : List Nat} {c : Fa} (h : WordOf k v c) : BeginsOf k v ⟨c.k, c.start, setAll c.next (v.length * k) v.length k, c.acc⟩ := by
  have hk := h.kk
  have hn := h.nn
  have hlen := h.len
  rw [hn, hk] at hlen
  have hlt : v.length * k + k ≤ (v.length + 2) * k := by rw [Nat.add_mul]; omega
  refine { k1 := h.k1, len := ?_, all := ?_, start := h.start, k2 := h.k2, n2 := h.n2, kk := hk, nn := hn, zero := h.zero, ends := h.ends, go := ?_ }
  · show (setAll c.next (v.length * k) v.length k).length = c.n * c.k
    rw [setAll_length]; exact h.len
  · intro s hs
    show s < c.n
    obtain ⟨j, hj⟩ := List.getElem?_of_mem hs
    have hj : (setAll c.next (v.length * k) v.length k)[j]? = some s := hj
    rw [setAll_at] at hj
    split at hj
    · rw [← Option.some.inj hj, hn]; omega
    · exact h.all s (List.mem_of_getElem? hj)
  · intro s x hs hx
    have hs : s < c.n := hs
    show ((setAll c.next (v.length * k) v.length k)[s * c.k + x]?).getD 0 = _
    have hg := h.go s x hs hx
    unfold step at hg
    rw [hk] at hg ⊢
    rw [setAll_at]
    have hp := place (n := v.length + 2) (by rw [← hn]; exact hs) hx
    by_cases e : s = v.length
    · subst e
      rw [if_pos ⟨by omega, by omega, by omega⟩, if_pos rfl]; rfl
    · rw [if_neg e, if_neg, hg]
      rintro ⟨a, b, _⟩
      rcases Nat.lt_or_gt_of_ne e with e | e
      · have : (s + 1) * k ≤ v.length * k := Nat.mul_le_mul_right k e
        rw [Nat.add_mul] at this
        omega
      · have : (v.length + 1) * k ≤ s * k := Nat.mul_le_mul_right k e
        rw [Nat.add_mul] at this
        omega
/-- A state's goings. -/
def rowOf (f : Fa) (s : Nat) : List Nat := (f.next.drop (s * f.k)).take f.k
theorem rowOf_at {f : Fa} (hf : Right f) {s x : Nat} (hs : s < f.n) (hx : x < f.k) : (rowOf f s)[x]? = some (step f s x) := by
  unfold rowOf
  rw [List.getElem?_take, if_pos hx, List.getElem?_drop]
  exact step_at hf hs hx
theorem rowOf_length {f : Fa} (hf : Right f) {s : Nat} (hs : s < f.n) : (rowOf f s).length = f.k := by
  unfold rowOf
  rw [List.length_take, List.length_drop, hf.len]
  have h : (s + 1) * f.k ≤ f.n * f.k := Nat.mul_le_mul_right f.k hs
  rw [Nat.add_mul, Nat.one_mul] at h
  omega
theorem rowOf_lt {f : Fa} (hf : Right f) {s : Nat} : ∀ a ∈ rowOf f s, a < f.n := fun a ha => hf.all a (List.mem_of_mem_drop (List.mem_of_mem_take ha))
theorem goings_zip {a b : Fa} (ha : Right a) (hb : Right b) (hk : a.k = b.k) {p : Nat × Nat} (h1 : p.1 < a.n) (h2 : p.2 < b.n) : (rowOf a p.1).zip (rowOf b p.2) = goings a b p := by
  apply List.ext_getElem?
  intro x
  by_cases hx : x < a.k
  · have hz : ((rowOf a p.1).zip (rowOf b p.2))[x]? = some (step a p.1 x, step b p.2 x) := by
      rw [List.getElem?_zip_eq_some]
      exact ⟨rowOf_at ha h1 hx, rowOf_at hb h2 (by rw [← hk]; exact hx)⟩
    rw [goings_at hx, hz]
    rfl
  · rw [List.getElem?_eq_none, List.getElem?_eq_none]
    · rw [goings_length]; omega
    · rw [List.length_zip, rowOf_length ha h1]; omega
theorem seat_nil {p : Nat × Nat} {l : List (Nat × Nat)} {i : Nat} (h : Seat [] p l i) : l = [p] ∧ i = 0 := by
  rcases h.2 with ⟨k, _⟩ | ⟨_, e⟩
  · cases k
  · have e : l = [p] := e
    refine ⟨e, ?_⟩
    have := h.1
    rw [e] at this
    have := (List.getElem?_eq_some_iff.1 this).1
    simpa using this
theorem few_pairs {a b : Fa} {l : List (Nat × Nat)} (ha : Right a) (hb : Right b) (hk : a.k = b.k) (hn : l.Nodup) (hc : ∀ p ∈ l, Come a b p) (h0 : l[0]? = some (a.start, b.start)) : l.length ≤ a.n * b.n :=
  Known.few (i := 0) ha hb hk ⟨h0, hn, hc, fun j p x hj => by omega⟩
end Au
end Go.Proofs.Ytdidogcgoghdmaa
