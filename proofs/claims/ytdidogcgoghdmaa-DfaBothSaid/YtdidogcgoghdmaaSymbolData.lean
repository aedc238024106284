/- Lists of texts and of numbers as the reader of a call's arguments has them: taken apart, and read again behind the call. -/
import Derived.Test.YtdidogcgoghdmaaInRow
import Derived.Test.YtdidogcgoghdmaaOctets
import Derived.Deep.Slices
import Derived.Carry
namespace Go.Proofs.Ytdidogcgoghdmaa
open Go.ChangeShapes Go.WideShapes Go.ChangeAt Go.WideMaps Go.WideElems Go.RowKit Go.Deep
theorem add_zero14 (a : Addr) : a.add 0 = a := by unfold Addr.add; simp
section
variable {H : Type} {enc : TypeId × Value → H} {w : World}
/-- A slice whose elements are one cell each. -/
theorem open_slice_cells {t e : TypeId} {a0 : Option Addr} {len cap : Nat} {d : DataW H} {p : List MemPlace} (ht : Try.prog.underlying t = some (.slice e)) (hc1 : Try.prog.cellsOf e = 1) {ok : Value → Prop} (hel : ∀ (fuel : Nat) (cs : List Value) (x : DataW H × List MemPlace), DataW.trod enc Try.prog w 0 (fun _ => true) true fuel e cs = some x → ∃ u, cs = [u] ∧ ok u)
    (h : DataW.Trod enc Try.prog w 0 (fun _ => true) true t (.slice a0 len cap) d p) : ∃ xs : List Value, InRow w (.slice a0 len cap) xs ∧ xs.length ≤ maxLen ∧ ∀ u ∈ xs, ok u := by
  obtain ⟨fuel, hf⟩ := h
  rcases open_slice ht hf with ⟨hcs, _⟩ | ⟨a, len', cap', m, n, D, Pl, hcs, _, hl, hm, hmm, _, hall⟩
  · simp [Value.cells] at hcs
    obtain ⟨rfl, rfl, rfl⟩ := hcs
    exact ⟨[], inRow_nil w, Nat.zero_le _, by simp⟩
  · simp [Value.cells] at hcs
    obtain ⟨rfl, rfl, rfl⟩ := hcs
    simp only [if_true] at hmm
    rw [hmm, hc1] at hall
    have key : ∀ i, ∃ u : Value, i < len → w.cell? (a.add i) = some u ∧ ok u := by
      intro i
      by_cases hi : i < len
      · obtain ⟨cs, hc, ht⟩ := hall i (by omega)
        obtain ⟨u, rfl, hu⟩ := hel _ _ _ ht
        refine ⟨u, fun _ => ⟨?_, hu⟩⟩
        obtain ⟨_, hlen, hcell⟩ := World.cells?_some hc
        have := hcell 0 (by omega)
        rw [add_zero14, Nat.mul_one] at this
        rw [this]; rfl
      · exact ⟨undef, fun h => absurd h hi⟩
    let X : Nat → Value := fun i => Classical.choose (key i)
    have hX : ∀ i, i < len → w.cell? (a.add i) = some (X i) ∧ ok (X i) := fun i => Classical.choose_spec (key i)
    have hat : ∀ (k : Nat) (x : Value), ((List.range len).map X)[k]? = some x → k < len ∧ x = X k := by
      intro k x hk
      obtain ⟨h1, h2⟩ := List.getElem?_eq_some_iff.1 hk
      simp at h1 h2
      exact ⟨h1, h2.symm⟩
    refine ⟨(List.range len).map X, ⟨some a, cap, by simp, by simpa using hl, fun h0 => ?_⟩, by simp; omega, fun u hu => ?_⟩
    · have hl0 : 0 < len := by simpa using h0
      obtain ⟨g, off, spot⟩ := a
      have hc0 := (hX 0 hl0).1
      have hsp : spot = none := by
        have := World.cell?_spot hc0
        unfold Addr.add at this
        split at this <;> simp_all
      subst hsp
      refine ⟨g, off, rfl, ?_, fun k u hu => ?_⟩
      · have := by first | exact World.block_lt_of_cell? w hc0 | exact World.block_lt_of_cell? w _ hc0
        rwa [add_at] at this
      · obtain ⟨h1, rfl⟩ := hat k u hu
        have := (hX k h1).1
        rw [add_at] at this
        exact this
    · obtain ⟨k, hk⟩ := List.getElem?_of_mem hu
      obtain ⟨h1, rfl⟩ := hat k u hk
      exact (hX k h1).2
theorem open_cells {t e : TypeId} {r : Reach} {b0 : Nat} {v : Value} {d : DataW H} {p : List MemPlace} (ht : Try.prog.underlying t = some (.slice e)) (hc1 : Try.prog.cellsOf e = 1) {ok : Value → Prop} (hel : ∀ (fuel : Nat) (cs : List Value) (x : DataW H × List MemPlace), DataW.trod enc Try.prog w 0 (fun _ => true) true fuel e cs = some x → ∃ u, cs = [u] ∧ ok u)
    (hv : Value.okWide Try.prog w r b0 t v) (h : DataW.Trod enc Try.prog w 0 (fun _ => true) true t v d p) : ∃ xs : List Value, InRow w v xs ∧ xs.length ≤ maxLen ∧ ∀ u ∈ xs, ok u := by
  obtain ⟨a0, len, cap, rfl⟩ := okWide_slice ht hv
  exact open_slice_cells ht hc1 hel h
theorem cellsStr14 : Try.prog.cellsOf 9 = 1 := by kernel_rfl
theorem cellsInt14 : Try.prog.cellsOf 3 = 1 := by kernel_rfl
theorem strs_of : ∀ {xs : List Value}, (∀ u ∈ xs, ∃ s : ByteArray, u = .string s ∧ s.size ≤ maxLen) → ∃ l : List (List UInt8), xs = strVs l ∧ ∀ x ∈ l, x.length ≤ maxLen
  | [], _ => ⟨[], rfl, by simp⟩
  | u :: xs, h => by
    obtain ⟨s, rfl, hs⟩ := h u (by simp)
    obtain ⟨l, rfl, hl⟩ := strs_of (xs := xs) (fun u hu => h u (by simp [hu]))
    refine ⟨s.data.toList :: l, rfl, fun x hx => ?_⟩
    rcases List.mem_cons.1 hx with e | e
    · rw [e, Oct.length_bytes]; exact hs
    · exact hl x e
theorem ints_of : ∀ {xs : List Value}, (∀ u ∈ xs, ∃ n : Int, u = .int .i64 n ∧ (Lit.int .i64 n).wf = true) → ∃ l : List Int, xs = intVs l ∧ ∀ x ∈ l, (Lit.int .i64 x).wf = true
  | [], _ => ⟨[], rfl, by simp⟩
  | u :: xs, h => by
    obtain ⟨n, rfl, hs⟩ := h u (by simp)
    obtain ⟨l, rfl, hl⟩ := ints_of (xs := xs) (fun u hu => h u (by simp [hu]))
    refine ⟨n :: l, rfl, fun x hx => ?_⟩
    rcases List.mem_cons.1 hx with e | e
    · rw [e]; exact hs
    · exact hl x e
theorem open_nums14 {r : Reach} {b0 : Nat} {v : Value} {d : DataW H} {p : List MemPlace} (hv : Value.okWide Try.prog w r b0 22 v) (h : DataW.Trod enc Try.prog w 0 (fun _ => true) true 22 v d p) :
    ∃ l : List Int, Nums w v l ∧ l.length ≤ maxLen ∧ ∀ x ∈ l, (Lit.int .i64 x).wf = true := by
  obtain ⟨xs, h1, h2, h3⟩ := open_cells Try.underlying22 cellsInt14 (ok := fun u => ∃ n : Int, u = .int .i64 n ∧ (Lit.int .i64 n).wf = true) (fun fuel cs x hx => by
    obtain ⟨n, e1, _, hs⟩ := DataW.trod_int Try.underlying3 hx
    exact ⟨_, e1, n, rfl, hs⟩) hv h
  obtain ⟨l, rfl, hl⟩ := ints_of h3
  rw [intVs_length] at h2
  exact ⟨l, ⟨h1⟩, h2, hl⟩
theorem nums_shut {w' : World} {v : Value} {d : DataW H} {p : List MemPlace} (h : DataW.Trod enc Try.prog w 0 (fun _ => true) true 22 v d p) (hb : Below w.heap.size w w') :
    DataW.Trod enc Try.prog w' 0 (fun b => decide (b < w.heap.size)) true 22 v d p :=
  Below.trod (by kernel_rfl) (by kernel_rfl) (of_decide_eq_true (by kernel_rfl)) h hb (by obtain ⟨fuel, hf⟩ := h; exact DataW.trod_lt _ _ _ _ hf)
end
end Go.Proofs.Ytdidogcgoghdmaa
