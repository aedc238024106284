/- Lists of structs in a row of memory, whatever their type: where they lie, one loaded, all of them appended. -/
import Derived.Test.YtdidogcgoghdmaaCells
import Derived.Test.YtdidogcgoghdmaaOctets
import Derived.Maps.AppendAt
import Derived.Maps.OwnSet
import Derived.Great.BuildSlice
namespace Go.Proofs.Ytdidogcgoghdmaa
open Go.RowKit
/-- The cells of a list of things, one behind the other. -/
def flat {α : Type} (enc : α → Array Value) (xs : List α) : List Value := xs.flatMap fun x => (enc x).toList
section
variable {α : Type} {enc : α → Array Value} {n : Nat}
theorem flat_nil : flat enc [] = [] := rfl
theorem flat_cons (x : α) (xs : List α) : flat enc (x :: xs) = (enc x).toList ++ flat enc xs := rfl
theorem flat_append (xs ys : List α) : flat enc (xs ++ ys) = flat enc xs ++ flat enc ys := by unfold flat; exact List.flatMap_append
theorem flat_one (x : α) : flat enc [x] = (enc x).toList := by rw [flat_cons, flat_nil, List.append_nil]
theorem flat_length : ∀ {xs : List α}, (∀ x ∈ xs, (enc x).size = n) → (flat enc xs).length = xs.length * n
  | [], _ => by simp [flat]
  | x :: xs, h => by
    rw [flat_cons, List.length_append, Array.length_toList, h x (by simp), flat_length (fun y hy => h y (by simp [hy])), List.length_cons, Nat.add_mul]
    omega
theorem flat_at : ∀ {xs : List α} {k : Nat} {x : α}, (∀ x ∈ xs, (enc x).size = n) → xs[k]? = some x → ∀ i u, (enc x)[i]? = some u → (flat enc xs)[k * n + i]? = some u
  | [], k, x, _, h, _, _, _ => by simp at h
  | y :: xs, 0, x, hs, h, i, u, hu => by
    have e : y = x := by simpa using h
    subst e
    rw [flat_cons, Nat.zero_mul, Nat.zero_add, List.getElem?_append_left]
    · rw [Array.getElem?_toList]; exact hu
    · rw [Array.length_toList]; exact (Array.getElem?_eq_some_iff.1 hu).1
  | y :: xs, k + 1, x, hs, h, i, u, hu => by
    have ih := flat_at (xs := xs) (k := k) (x := x) (fun y hy => hs y (by simp [hy])) (by simpa using h) i u hu
    rw [flat_cons, List.getElem?_append_right (by rw [Array.length_toList, hs y (by simp), Nat.add_mul]; omega), Array.length_toList, hs y (by simp),
      show (k + 1) * n + i - n = k * n + i by rw [Nat.add_mul]; omega]
    exact ih
theorem flat_take {xs : List α} (h : ∀ x ∈ xs, (enc x).size = n) (k : Nat) : flat enc (xs.take k) = (flat enc xs).take (k * n) := by
  by_cases hk : k ≤ xs.length
  · have e : flat enc xs = flat enc (xs.take k) ++ flat enc (xs.drop k) := by rw [← flat_append, List.take_append_drop]
    have hl : (flat enc (xs.take k)).length = k * n := by
      rw [flat_length (fun x hx => h x (List.mem_of_mem_take hx)), List.length_take, Nat.min_eq_left hk]
    rw [e, ← hl, List.take_left]
  · have hk := Nat.le_of_not_le hk
    rw [List.take_of_length_le hk, List.take_of_length_le]
    rw [flat_length h]
    exact Nat.mul_le_mul_right _ hk
theorem flat_drop {xs : List α} (h : ∀ x ∈ xs, (enc x).size = n) {k : Nat} (hk : k ≤ xs.length) (j : Nat) : (flat enc (xs.drop k))[j]? = (flat enc xs)[k * n + j]? := by
  have e : flat enc xs = flat enc (xs.take k) ++ flat enc (xs.drop k) := by rw [← flat_append, List.take_append_drop]
  have hl : (flat enc (xs.take k)).length = k * n := by
    rw [flat_length (fun x hx => h x (List.mem_of_mem_take hx)), List.length_take, Nat.min_eq_left hk]
  rw [e, List.getElem?_append_right (by omega), hl, Nat.add_sub_cancel_left]
end
/-- The value holds the things, wherever in its block they begin. -/
def Lies {α : Type} (enc : α → Array Value) (w : World) (v : Value) (xs : List α) : Prop :=
  ∃ A c, v = .slice A xs.length c ∧ xs.length ≤ c ∧ (0 < xs.length → ∃ g off, A = some ⟨g, off, none⟩ ∧ g < w.heap.size ∧ ∀ j u, (flat enc xs)[j]? = some u → w.cell? ⟨g, off + j, none⟩ = some u)
section
variable {α : Type} {enc : α → Array Value} {n : Nat} {w w' : World} {v : Value} {xs : List α}
theorem lies_nil : Lies enc w (.slice none 0 0) [] := ⟨none, 0, rfl, Nat.le_refl _, fun h => absurd h (by simp)⟩
theorem Lies.stays (h : Lies enc w v xs) (hb : Below w.heap.size w w') : Lies enc w' v xs := by
  obtain ⟨A, c, hv, hc, hh⟩ := h
  refine ⟨A, c, hv, hc, fun h0 => ?_⟩
  obtain ⟨g, off, hA, hg, hcell⟩ := hh h0
  exact ⟨g, off, hA, Nat.lt_of_lt_of_le hg hb.size, fun j u hu => (hb.cell (p := ⟨g, off + j, none⟩) hg).trans (hcell j u hu)⟩
theorem add_at (g off j : Nat) : (⟨g, off, none⟩ : Addr).add j = ⟨g, off + j, none⟩ := by unfold Addr.add; split <;> simp_all
theorem lies_own {B : Nat} {t : TypeId} (h : w.ownsRow B t n v xs.length (flat enc xs)) : Lies enc w v xs := by
  rcases h.2 with ⟨rfl, h0⟩ | ⟨g, cap, cur, rfl, hB, hg, hc, _⟩
  · exact ⟨none, 0, by rw [h0], Nat.le_of_eq h0, fun h1 => by omega⟩
  · refine ⟨_, _, rfl, hc, fun _ => ⟨g, 0, rfl, (Array.getElem?_eq_some_iff.1 hg).1, fun j u hu => ?_⟩⟩
    have c1 := h.cells (g := g) rfl _ _ hu
    rw [add_at, Nat.zero_add] at c1
    rw [Nat.zero_add]
    exact c1
/-- The first k of them. -/
theorem Lies.take {A : Option Addr} {c : Nat} (hs : ∀ x ∈ xs, (enc x).size = n) (h : Lies enc w (.slice A xs.length c) xs) {k : Nat} (hk : k ≤ xs.length) : Lies enc w (.slice A k c) (xs.take k) := by
  obtain ⟨A', c', hv, hc, hh⟩ := h
  obtain ⟨rfl, _, rfl⟩ := Value.slice.inj hv
  have hl : (xs.take k).length = k := by rw [List.length_take, Nat.min_eq_left hk]
  refine ⟨A, c, by rw [hl], by omega, fun h0 => ?_⟩
  obtain ⟨g, off, hA, hg, hcell⟩ := hh (by omega)
  refine ⟨g, off, hA, hg, fun j u hu => hcell j u ?_⟩
  rw [flat_take hs] at hu
  rw [List.getElem?_take] at hu
  split at hu
  · exact hu
  · cases hu
/-- What stands behind the first k. -/
theorem Lies.drop {g off : Nat} {c : Nat} (hs : ∀ x ∈ xs, (enc x).size = n) (h : Lies enc w (.slice (some ⟨g, off, none⟩) xs.length c) xs) {k : Nat} (hk : k ≤ xs.length) (h0 : 0 < xs.length) {m c' : Nat} (hm : m = xs.length - k) (hc' : m ≤ c') : Lies enc w (.slice (some ⟨g, off + k * n, none⟩) m c') (xs.drop k) := by
  obtain ⟨A', c2, hv, hc, hh⟩ := h
  obtain ⟨rfl, _, rfl⟩ := Value.slice.inj hv
  have hl : (xs.drop k).length = m := by rw [List.length_drop, hm]
  refine ⟨_, c', by rw [hl], by omega, fun _ => ?_⟩
  obtain ⟨g', off', hA, hg, hcell⟩ := hh h0
  have hA := Option.some.inj hA
  simp only [Addr.mk.injEq] at hA
  obtain ⟨rfl, rfl, _⟩ := hA
  refine ⟨g, _, rfl, hg, fun j u hu => ?_⟩
  rw [flat_drop hs hk] at hu
  rw [Nat.add_assoc]
  exact hcell _ u hu
/-- Some cells one behind the other are loaded as one struct. -/
theorem load_span {P : Program} {ops : Array Oper} {Q : Exit → Act → World → Prop} {rest : List Oper} {o : Oper} {a : Act} {w : World} (hw : Region.wanted o (yielded ops a.tmps) = true) (ty : TypeId) (x : Operand) (ho : o.op = .load ty x)
    (g off : Nat) (hx : a.eval x = .pointer (some ⟨g, off, none⟩)) (cs : Array Value) (hc : ∀ j u, cs[j]? = some u → w.cell? ⟨g, off + j, none⟩ = some u) {d : TypeDesc}
    (hu : P.underlying ty = some d) (hd : (match d with | .struct _ | .array _ _ => true | _ => false) = true) (hi : (P.info? ty).map (·.size) = some cs.size)
    (h : wpList P ops Q rest (a.put o.dst (.agg cs)) w) : wpList P ops Q (o :: rest) a w := by
  have hl : (loadCells ⟨g, off, none⟩ cs.toList.length).run P w = .ok cs.toList.toArray w :=
    run_loadCells_list (P := P) w ⟨g, off, none⟩ cs.toList (fun j v hv => by
      rw [add_at]
      rw [Array.getElem?_toList] at hv
      exact hc j v hv)
  rw [Array.length_toList, Array.toArray_toList] at hl
  have hagg : (isAgg ty).run P w = .ok true w := by
    unfold isAgg
    rw [Sem.run_bind, run_underlying hu w]
    cases d <;> simp_all
  have hv : (loadVar ty ⟨g, off, none⟩).run P w = .ok (.agg cs) w := by
    cases hq : P.info? ty with
    | none => simp [hq] at hi
    | some i =>
      have hs : i.size = cs.size := by simpa [hq] using hi
      simp [loadVar, Sem.run_bind, hagg, sizeOf, typeInfo, hq, hs, hl]
  refine wpList_step fun K hK => ?_
  simp only [hw, if_true]
  unfold Oper.wp execOp
  simp only [ho, hx, Instr.loadAt, Instr.sureAddr, Sem.run_bind, Sem.run_pure, Result.andThen_ok, hv]
  exact hK _ _ h
/-- One of them, by its cells. -/
theorem Lies.one {g off c : Nat} (hs : ∀ x ∈ xs, (enc x).size = n) (h : Lies enc w (.slice (some ⟨g, off, none⟩) xs.length c) xs) {k : Nat} {x : α} (hk : xs[k]? = some x) : ∀ j u, (enc x)[j]? = some u → w.cell? ⟨g, off + k * n + j, none⟩ = some u := by
  obtain ⟨A', c', hv, hc, hh⟩ := h
  obtain ⟨rfl, _, rfl⟩ := Value.slice.inj hv
  obtain ⟨g', off', hA, hg, hcell⟩ := hh (Nat.lt_of_le_of_lt (Nat.zero_le _) (List.getElem?_eq_some_iff.1 hk).1)
  have hA := Option.some.inj hA
  simp only [Addr.mk.injEq] at hA
  obtain ⟨rfl, rfl, _⟩ := hA
  intro j u hu
  have := hcell _ _ (flat_at hs hk j u hu)
  rw [Nat.add_assoc]
  exact this
/-- Where there is one, there is a block. -/
theorem Lies.block {A : Option Addr} {m c : Nat} (h : Lies enc w (.slice A m c) xs) : m = xs.length ∧ m ≤ c ∧ (0 < xs.length → ∃ g off, A = some ⟨g, off, none⟩ ∧ g < w.heap.size) := by
  obtain ⟨A', c', hv, hc, hh⟩ := h
  obtain ⟨rfl, rfl, rfl⟩ := Value.slice.inj hv
  refine ⟨rfl, hc, fun h0 => ?_⟩
  obtain ⟨g, off, hA, hg, _⟩ := hh h0
  exact ⟨g, off, hA, hg⟩
end
/-- All of them are appended to a row of the call's own. -/
theorem run_append_lies {P : Program} {α : Type} {enc : α → Array Value} {n by8 : Nat} {w : World} {B : Nat} {S E ty : TypeId} {z : Value} (hS : P.underlying S = some (.slice E)) (hI : (P.info? E).map (fun i => (i.zero, i.size, i.bytes)) = some (some z, n, by8)) (hz : z.cells.size = n) (hn0 : 0 < n) (h8 : by8 ≤ 1000)
    {s : Value} {m : Nat} {ys : List Value} (hown : w.ownsRow B E n s m ys) {v : Value} {xs : List α} (hs : ∀ x ∈ xs, (enc x).size = n) (h1 : ∀ x ∈ xs, (enc x).all (·.oneCell') = true) (hv : Lies enc w v xs) (hm : m + xs.length ≤ 1048576) (hB : B ≤ w.heap.size) :
    ∃ v' w', (Builtin.append_ #[S, S] ty #[s, v]).run P w = .ok v' w' ∧ w'.ownsRow B E n v' (m + xs.length) (ys ++ flat enc xs) ∧ w.grownBy w' s.ownBlock ∧ (v'.ownBlock = s.ownBlock ∨ v'.ownBlock = some w.heap.size) := by
  obtain ⟨i0, hi, hz0, hz1, hz2⟩ := info_parts hI
  obtain ⟨A, c, rfl, hc, hh⟩ := hv
  by_cases h0 : xs.length = 0
  · have hxs : xs = [] := List.eq_nil_of_length_eq_zero h0
    subst hxs
    refine ⟨s, w, ?_, by simpa [flat] using hown, ⟨rfl, rfl, rfl, Nat.le_refl _, fun _ _ _ => rfl⟩, .inl rfl⟩
    rcases hown.2 with ⟨rfl, rfl⟩ | ⟨g, cap, cur, rfl, _, _, hcc, _⟩
    · cases A <;> simp [Builtin.append_, run_underlying hS, sizeOf, typeInfo, hi, Builtin.lenOf, Builtin.firstCells, loadCells, loadCellsFrom]
    · cases A <;> simp [Builtin.append_, run_underlying hS, sizeOf, typeInfo, hi, Builtin.lenOf, Builtin.firstCells, loadCells, loadCellsFrom, hcc, storeCells]
  · obtain ⟨g, off, rfl, hg, hcell⟩ := hh (by omega)
    obtain ⟨v', w', r1, r2, r3, _, r5⟩ := run_append_own_at w B S ty E i0 z n by8 hS hi hz0 hz1 hz2 hz hn0 s m ys hown ⟨g, off, none⟩ xs.length c (flat enc xs) (flat_length hs) (fun j u hu => by rw [add_at]; exact hcell j u hu)
      (fun u hu => by
        unfold flat at hu
        obtain ⟨x, hx, hux⟩ := List.mem_flatMap.1 hu
        exact Array.all_eq_true'.1 (h1 x hx) u (Array.mem_toList_iff.1 hux)) (by unfold maxLen; omega) (Nat.le_trans (Nat.mul_le_mul hm h8) (by decide)) hB
    exact ⟨v', w', r1, r2, r3, r5⟩
theorem append_lies {P : Program} {α : Type} {enc : α → Array Value} {n by8 : Nat} {w : World} {B : Nat} {S E : TypeId} {z : Value} {ops : Array Oper} {rest : List Oper} {o : Oper} {a : Act} {Q : Exit → Act → World → Prop} (hgd : o.guard = none) (s x : Operand)
    (ho : o.op = .call { callee := .builtin .append, args := #[s, x], argTypes := #[S, S] }) (hS : P.underlying S = some (.slice E)) (hI : (P.info? E).map (fun i => (i.zero, i.size, i.bytes)) = some (some z, n, by8)) (hz : z.cells.size = n) (hn0 : 0 < n) (h8 : by8 ≤ 1000)
    {sv : Value} (hsv : a.eval s = sv) {m : Nat} {ys : List Value} (hown : w.ownsRow B E n sv m ys) {v : Value} (hv0 : a.eval x = v) {xs : List α} (hs : ∀ x ∈ xs, (enc x).size = n) (h1 : ∀ x ∈ xs, (enc x).all (·.oneCell') = true) (hv : Lies enc w v xs) (hm : m + xs.length ≤ 1048576) (hB : B ≤ w.heap.size)
    (h : ∀ v' w', w'.ownsRow B E n v' (m + xs.length) (ys ++ flat enc xs) → w.grownBy w' sv.ownBlock → (v'.ownBlock = sv.ownBlock ∨ v'.ownBlock = some w.heap.size) → wpList P ops Q rest (a.put o.dst v') w') : wpList P ops Q (o :: rest) a w := by
  refine wpList_plain hgd fun K hK => ?_
  obtain ⟨v', w', hr, h2, h3, h4⟩ := run_append_lies (ty := o.type) hS hI hz hn0 h8 hown hs h1 hv hm hB
  unfold Oper.wp execOp
  simp only [ho, resolve, invoke, builtin, Sem.run_bind, Sem.run_pure, Result.andThen_ok, List.map_toArray, List.map_cons, List.map_nil, hsv, hv0, hr]
  exact hK _ _ (h v' w' h2 h3 h4)
/-- A row of one thing is made. -/
theorem build_slice_one {P : Program} {n by8 : Nat} {w : World} {S E : TypeId} {z : Value} {ops : Array Oper} {rest : List Oper} {o : Oper} {a : Act} {Q : Exit → Act → World → Prop} (hg : o.guard = none) (x : Operand) (ho : o.op = .buildSlice S 1 #[(0, x)]) (Y : Array Value) (hx : a.eval x = .agg Y)
    (hS : P.underlying S = some (.slice E)) (hI : (P.info? E).map (fun i => (i.zero, i.size, i.bytes)) = some (some z, n, by8)) (hY : Y.size = n) (hn0 : 0 < n) (hn : n ≤ 1000)
    (h : wpList P ops Q rest (a.put o.dst (.slice (some ⟨w.heap.size, 0, none⟩) 1 1)) (w.alloc (.cells Y E))) : wpList P ops Q (o :: rest) a w := by
  obtain ⟨i0, hi, hz0, hz1, hz2⟩ := info_parts hI
  refine wpList_buildSlice hg S E 1 _ ho Y i0 z hS hi hz0 (by rw [hz1]; omega) (by rw [hz1]; omega) ?_ h
  have e := Great.fill_whole hn0 [.agg Y] ((Array.range (1 * i0.size)).map (z.cells[· % z.cells.size]!)) (fun v hv => by rw [List.mem_singleton.1 hv]; exact hY) (by rw [hz1]; simp)
  have e2 : ((#[(0, x)] : Array (Nat × Operand)).map fun (i, x) => (i, a.eval x)).toList = (([.agg Y] : List Value).zipIdx 0).map fun x => (x.2, x.1) := by simp [hx]
  rw [e2, hz1]
  rw [hz1] at e
  rw [e]
  congr 1
  show ([Value.agg Y].flatMap fun v => v.cells.toList).toArray = Y
  rw [List.flatMap_cons, List.flatMap_nil, List.append_nil]
  exact Array.toArray_toList
/-- One thing in a block of its own. -/
theorem lies_single {α : Type} {enc : α → Array Value} {w : World} {g : Nat} {t : TypeId} {x : α} (h : Row w g t (enc x)) : Lies enc w (.slice (some ⟨g, 0, none⟩) 1 1) [x] :=
  ⟨_, _, rfl, Nat.le_refl _, fun _ => ⟨g, 0, rfl, h.lt, fun j u hu => by
    rw [flat_one, Array.getElem?_toList] at hu
    rw [Nat.zero_add, h.cell]
    exact hu⟩⟩
/-- A new row of no element. -/
theorem own_empty {w : World} {E : TypeId} {n : Nat} (_ : 0 < n) : (w.alloc (.cells #[] E)).ownsRow w.heap.size E n (.slice (some ⟨w.heap.size, 0, none⟩) 0 0) 0 [] :=
  ⟨by simp, .inr ⟨w.heap.size, 0, #[], rfl, Nat.le_refl _, heap_alloc_new w _, Nat.le_refl _, Nat.zero_le _, by simp, by simp⟩⟩
end Go.Proofs.Ytdidogcgoghdmaa
