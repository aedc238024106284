/- Lists of what is done to a shelf, as the reader of a call's arguments has them: taken apart, and read again behind the call. -/
import Derived.Test.YtdfcnodlddeccaaArrays
import Derived.Test.YtdfcnodlddeccaaMatchData
import Derived.Test.YtdfcnodlddeccaaMatchVar
import Derived.Test.YtdfcnodlddeccaaShelfPlain
import Derived.Test.YtdfcnodlddeccaaSpan
import Derived.Deep.Slices
import Derived.Carry
namespace Go.Proofs.Ytdfcnodlddeccaa
open Go.ChangeShapes Go.WideShapes Go.ChangeAt Go.WideMaps Go.WideElems Go.RowKit Go.Deep
/-- Something that is done. -/
structure Sh.Act where
  kind : Int
  c : Ma.Cookie
  site : List UInt8
  n : Int
def actA (x : Sh.Act) : Array Value := (.int .i64 x.kind :: ((cookieA x.c).toList ++ [strV x.site, .int .i64 x.n])).toArray
structure ActOk (x : Sh.Act) : Prop where
  kind : (Lit.int .i64 x.kind).wf = true
  cookie : CookieOk x.c
  site : x.site.length ≤ maxLen
  n : (Lit.int .i64 x.n).wf = true
/-- A cell of a list of things is a cell of one of them. -/
theorem flat_of {α : Type} {enc : α → Array Value} {n : Nat} : ∀ {xs : List α}, (∀ x ∈ xs, (enc x).size = n) → ∀ {j : Nat} {u : Value}, (flat enc xs)[j]? = some u → ∃ (k : Nat) (x : α) (i : Nat), xs[k]? = some x ∧ (enc x)[i]? = some u ∧ j = k * n + i
  | [], _, j, u, h => by simp [flat] at h
  | x :: xs, hs, j, u, h => by
    rw [flat_cons] at h
    by_cases hj : j < n
    · rw [List.getElem?_append_left (by rw [Array.length_toList, hs x (by simp)]; exact hj), Array.getElem?_toList] at h
      exact ⟨0, x, j, rfl, h, by simp⟩
    · rw [List.getElem?_append_right (by rw [Array.length_toList, hs x (by simp)]; omega), Array.length_toList, hs x (by simp)] at h
      obtain ⟨k, y, i, h1, h2, h3⟩ := flat_of (fun y hy => hs y (by simp [hy])) h
      exact ⟨k + 1, y, i, by simpa using h1, h2, by rw [Nat.add_mul]; omega⟩
theorem cookieA_list (c : Ma.Cookie) (ha : c.host.addr.length = 16) : (cookieA c).toList.length = 29 := cookieA_size c ha
theorem actA_size (x : Sh.Act) (ha : x.c.host.addr.length = 16) : (actA x).size = 32 := by
  unfold actA
  simp [cookieA_size x.c ha]
section
variable {H : Type} {enc : TypeId × Value → H} {w : World} {base : Nat} {spare : Nat → Bool} {held : Bool}
set_option maxRecDepth 100000 in
set_option maxHeartbeats 1000000 in
theorem open_cookieCells {fuel : Nat} {cs : List Value} {x : DataW H × List MemPlace} (hf : DataW.trod enc Try.prog w base spare held fuel 34 cs = some x) :
    ∃ c : Ma.Cookie, cs = (cookieA c).toList ∧ CookieOk c := by
  obtain ⟨f0, f1, f2, f3, f4, f5, f6, f7, f8, f9, f10, f11, hs, ⟨o0, o1, o2, o3, o4, o5, o6, o7, o8, o9, o10, o11⟩, ⟨t0, t1, t2, t3, t4, t5, t6, t7, t8, t9, t10, t11⟩⟩ := cookie_fields
  obtain ⟨y0, y1, y2, y3, y4, y5, y6, y7, y8, y9, y10, y11, n, hx, hl, h0, h1, h2, h3, h4, h5, h6, h7, h8, h9, h10, h11⟩ := trod_struct12 hs hf
  rw [o0, t0, cellsString] at h0
  rw [o1, t1, cellsString] at h1
  rw [o2, t2, cellsHost] at h2
  rw [o3, t3, cellsBool] at h3
  rw [o4, t4, cellsString] at h4
  rw [o5, t5, cellsBool] at h5
  rw [o6, t6, cellsBool] at h6
  rw [o7, t7, cellsInt] at h7
  rw [o8, t8, cellsInt64] at h8
  rw [o9, t9, cellsInt64] at h9
  rw [o10, t10, cellsInt64] at h10
  rw [o11, t11, cellsInt] at h11
  obtain ⟨s0, e0, rfl, w0⟩ := DataW.trod_string Try.underlying9 h0
  obtain ⟨s1, e1, rfl, w1⟩ := DataW.trod_string Try.underlying9 h1
  obtain ⟨s2, ha, e2, rfl, wk, wn⟩ := open_hostCells h2
  obtain ⟨s3, e3, rfl⟩ := DataW.trod_bool Try.underlying4 h3
  obtain ⟨s4, e4, rfl, w4⟩ := DataW.trod_string Try.underlying9 h4
  obtain ⟨s5, e5, rfl⟩ := DataW.trod_bool Try.underlying4 h5
  obtain ⟨s6, e6, rfl⟩ := DataW.trod_bool Try.underlying4 h6
  obtain ⟨s7, e7, rfl, w7⟩ := DataW.trod_int Try.underlying3 h7
  obtain ⟨s8, e8, rfl, w8⟩ := DataW.trod_int Try.underlying2 h8
  obtain ⟨s9, e9, rfl, w9⟩ := DataW.trod_int Try.underlying2 h9
  obtain ⟨s10, e10, rfl, w10⟩ := DataW.trod_int Try.underlying2 h10
  obtain ⟨s11, e11, rfl, w11⟩ := DataW.trod_int Try.underlying3 h11
  rw [cellsCookie] at hl
  have he := cookie_parts hl e0 e1 e2 e3 e4 e5 e6 e7 e8 e9 e10 e11
  refine ⟨⟨s0.data.toList, s1.data.toList, s2, s3, s4.data.toList, s5, s6, s7, s8, s9, s10, s11⟩, ?_, ⟨⟨ha, wk, wn⟩, (by rw [Oct.length_bytes]; exact w0), (by rw [Oct.length_bytes]; exact w1), (by rw [Oct.length_bytes]; exact w4), w7, w8, w9, w10, w11⟩⟩
  rw [he]
  unfold cookieA strV
  simp only [mk_bytes]
theorem act_fields : ∃ f0 f1 f2 f3, Try.prog.underlying 36 = some (.struct #[f0, f1, f2, f3]) ∧ (f0.offset = 0 ∧ f1.offset = 1 ∧ f2.offset = 30 ∧ f3.offset = 31) ∧ f0.type = 3 ∧ f1.type = 34 ∧ f2.type = 9 ∧ f3.type = 2 :=
  ⟨_, _, _, _, Try.underlying36, ⟨rfl, rfl, rfl, rfl⟩, rfl, rfl, rfl, rfl⟩
theorem cellsAct : Try.prog.cellsOf 36 = 32 := by kernel_rfl
theorem act_parts {α : Type} {l : List α} (h : l.length = 32) {a c d : α} {r : List α} (h0 : (l.drop 0).take 1 = [a]) (h1 : (l.drop 1).take 29 = r) (h2 : (l.drop 30).take 1 = [c]) (h3 : (l.drop 31).take 1 = [d]) : l = a :: (r ++ [c, d]) := by
  have e0 : l = (l.drop 0).take 1 ++ l.drop 1 := by rw [List.drop_zero, List.take_append_drop]
  have e1 : l.drop 1 = (l.drop 1).take 29 ++ l.drop 30 := by
    have := (List.take_append_drop 29 (l.drop 1)).symm
    rw [List.drop_drop] at this
    exact this
  have e2 : l.drop 30 = (l.drop 30).take 1 ++ l.drop 31 := by
    have := (List.take_append_drop 1 (l.drop 30)).symm
    rw [List.drop_drop] at this
    exact this
  have e3 : (l.drop 31).take 1 = l.drop 31 := by
    rw [List.take_of_length_le]
    rw [List.length_drop, h]; decide
  rw [e0, h0, e1, h1, e2, h2, ← e3, h3]
  simp
theorem open_actCells {fuel : Nat} {cs : List Value} {x : DataW H × List MemPlace} (hf : DataW.trod enc Try.prog w base spare held fuel 36 cs = some x) :
    ∃ y : Sh.Act, cs = (actA y).toList ∧ ActOk y := by
  obtain ⟨f0, f1, f2, f3, hs, ⟨o0, o1, o2, o3⟩, t0, t1, t2, t3⟩ := act_fields
  obtain ⟨y0, y1, y2, y3, n, hx, hl, h0, h1, h2, h3⟩ := trod_struct4 hs hf
  rw [o0, t0, cellsInt] at h0
  rw [o1, t1, cellsCookie] at h1
  rw [o2, t2, cellsString] at h2
  rw [o3, t3, cellsInt64] at h3
  obtain ⟨s0, e0, rfl, w0⟩ := DataW.trod_int Try.underlying3 h0
  obtain ⟨c, e1, w1⟩ := open_cookieCells h1
  obtain ⟨s2, e2, rfl, w2⟩ := DataW.trod_string Try.underlying9 h2
  obtain ⟨s3, e3, rfl, w3⟩ := DataW.trod_int Try.underlying2 h3
  rw [cellsAct] at hl
  have he := act_parts hl e0 e1 e2 e3
  refine ⟨⟨s0, c, s2.data.toList, s3⟩, ?_, ⟨w0, w1, (by rw [Oct.length_bytes]; exact w2), w3⟩⟩
  rw [he]
  unfold actA strV
  simp only [mk_bytes]
end
section
variable {H : Type} {enc : TypeId × Value → H} {w : World}
set_option maxRecDepth 100000 in
theorem open_acts {r : Reach} {b0 : Nat} {v : Value} {d : DataW H} {p : List MemPlace} (hv : Value.okWide Try.prog w r b0 22 v) (h : DataW.Trod enc Try.prog w 0 (fun _ => true) true 22 v d p) :
    ∃ xs : List Sh.Act, Lies actA w v xs ∧ xs.length ≤ maxLen ∧ ∀ x ∈ xs, ActOk x := by
  obtain ⟨a0, len, cap, rfl⟩ := okWide_slice Try.underlying22 hv
  obtain ⟨fuel, hf⟩ := h
  rcases open_slice Try.underlying22 hf with ⟨hcs, _⟩ | ⟨a, len', cap', m, n, D, Pl, hcs, _, hl, hm, hmm, _, hall⟩
  · simp [Value.cells] at hcs
    obtain ⟨rfl, rfl, rfl⟩ := hcs
    exact ⟨[], lies_nil, Nat.zero_le _, by simp⟩
  · simp [Value.cells] at hcs
    obtain ⟨rfl, rfl, rfl⟩ := hcs
    simp only [if_true] at hmm
    rw [hmm, cellsAct] at hall
    have key : ∀ i, ∃ x : Sh.Act, i < len → ActOk x ∧ ∀ j u, (actA x)[j]? = some u → w.cell? (a.add (i * 32 + j)) = some u := by
      intro i
      by_cases hi : i < len
      · obtain ⟨cs, hc, ht⟩ := hall i (by omega)
        obtain ⟨x, rfl, hx⟩ := open_actCells ht
        refine ⟨x, fun _ => ⟨hx, fun j u hu => ?_⟩⟩
        obtain ⟨_, hlen, hcell⟩ := World.cells?_some hc
        have hj : j < 32 := by
          rw [← actA_size x hx.cookie.host.addr]
          exact (Array.getElem?_eq_some_iff.1 hu).1
        rw [← add_add, hcell j hj, Array.getElem?_toList]
        exact hu
      · exact ⟨⟨0, Ma.zeroC, [], 0⟩, fun h => absurd h hi⟩
    let X : Nat → Sh.Act := fun i => Classical.choose (key i)
    have hX : ∀ i, i < len → ActOk (X i) ∧ ∀ j u, (actA (X i))[j]? = some u → w.cell? (a.add (i * 32 + j)) = some u := fun i => Classical.choose_spec (key i)
    have hat : ∀ k x, ((List.range len).map X)[k]? = some x → k < len ∧ x = X k := by
      intro k x hk
      obtain ⟨h1, h2⟩ := List.getElem?_eq_some_iff.1 hk
      simp at h1 h2
      exact ⟨h1, h2.symm⟩
    have hok : ∀ x ∈ (List.range len).map X, ActOk x := by
      intro x hx
      obtain ⟨k, hk⟩ := List.getElem?_of_mem hx
      obtain ⟨h1, rfl⟩ := hat k x hk
      exact (hX k h1).1
    have hsz : ∀ x ∈ (List.range len).map X, (actA x).size = 32 := fun x hx => actA_size x (hok x hx).cookie.host.addr
    refine ⟨(List.range len).map X, ⟨some a, cap, by simp, by simpa using hl, fun h0 => ?_⟩, by simp; omega, hok⟩
    have hl0 : 0 < len := by simpa using h0
    obtain ⟨g, off, spot⟩ := a
    have hc0 := (hX 0 hl0).2 0 (.int .i64 (X 0).kind) rfl
    have hsp : spot = none := by
      have := World.cell?_spot hc0
      unfold Addr.add at this
      split at this <;> simp_all
    subst hsp
    refine ⟨g, off, rfl, ?_, fun j u hu => ?_⟩
    · have := by first | exact World.block_lt_of_cell? w hc0 | exact World.block_lt_of_cell? w _ hc0
      rwa [add_at] at this
    · obtain ⟨k, x, i, hk, hi, rfl⟩ := flat_of hsz hu
      obtain ⟨h1, rfl⟩ := hat k x hk
      have := (hX k h1).2 i u hi
      rw [add_at] at this
      exact this
theorem acts_shut {w' : World} {v : Value} {d : DataW H} {p : List MemPlace} (h : DataW.Trod enc Try.prog w 0 (fun _ => true) true 22 v d p) (hb : Below w.heap.size w w') :
    DataW.Trod enc Try.prog w' 0 (fun b => decide (b < w.heap.size)) true 22 v d p :=
  Below.trod (by kernel_rfl) (by kernel_rfl) (of_decide_eq_true (by kernel_rfl)) h hb (by obtain ⟨fuel, hf⟩ := h; exact DataW.trod_lt _ _ _ _ hf)
end
end Go.Proofs.Ytdfcnodlddeccaa
