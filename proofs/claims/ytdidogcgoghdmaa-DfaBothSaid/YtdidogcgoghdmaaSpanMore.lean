/- Lists of structs in a row of memory: one of them written anew; steps of regions whose order is open. -/
import Derived.Test.YtdidogcgoghdmaaSpan
import Derived.Test.YtdidogcgoghdmaaStorePart
namespace Go.Proofs.Ytdidogcgoghdmaa
open Go.RowKit
theorem flat_set {α : Type} {enc : α → Array Value} {n : Nat} : ∀ {xs : List α} {i : Nat} {y : α}, (∀ x ∈ xs, (enc x).size = n) → (enc y).size = n → i < xs.length → flat enc (xs.set i y) = (flat enc xs).take (i * n) ++ (enc y).toList ++ (flat enc xs).drop (i * n + n)
  | [], i, y, _, _, h => by simp at h
  | x :: xs, 0, y, hs, hy, _ => by
    rw [List.set_cons_zero, flat_cons, flat_cons, Nat.zero_mul, List.take_zero, List.nil_append, Nat.zero_add]
    congr 1
    have hl : (enc x).toList.length = n := by rw [Array.length_toList]; exact hs x (by simp)
    rw [← hl, List.drop_left]
  | x :: xs, i + 1, y, hs, hy, h => by
    have ih := flat_set (xs := xs) (i := i) (y := y) (fun z hz => hs z (by simp [hz])) hy (by simpa using h)
    have hl : (enc x).toList.length = n := by rw [Array.length_toList]; exact hs x (by simp)
    have e1 : (i + 1) * n = (enc x).toList.length + i * n := by rw [hl, Nat.add_mul]; omega
    rw [List.set_cons_succ, flat_cons, flat_cons, ih, e1, List.take_length_add_append, show (enc x).toList.length + i * n + n = (enc x).toList.length + (i * n + n) by omega, List.drop_length_add_append]
    simp only [List.append_assoc]
/-- One thing of a row is written anew. -/
theorem own_set {α : Type} {enc : α → Array Value} {n : Nat} {w : World} {B : Nat} {E : TypeId} {v : Value} {xs : List α} (hs : ∀ x ∈ xs, (enc x).size = n) (h : w.ownsRow B E n v xs.length (flat enc xs)) {i : Nat} (hi : i < xs.length) {y : α} (hy : (enc y).size = n) :
    ∃ g cap cur new, v = .slice (some ⟨g, 0, none⟩) xs.length cap ∧ B ≤ g ∧ xs.length ≤ cap ∧ Row w g E cur ∧ i * n + (enc y).size ≤ cur.size ∧ (cur.toList.take (i * n) ++ (enc y).toList ++ cur.toList.drop (i * n + (enc y).size)).toArray = new ∧
      ∀ w', Row w' g E new → w'.ownsRow B E n v (xs.set i y).length (flat enc (xs.set i y)) := by
  rcases h.2 with ⟨_, h0⟩ | ⟨g, cap, cur, rfl, hB, hg, hc, hm, hcs, ht⟩
  · omega
  · have hin : i * n + n ≤ xs.length * n := by
      have : (i + 1) * n ≤ xs.length * n := Nat.mul_le_mul_right _ hi
      rw [Nat.add_mul] at this
      omega
    have hcn : xs.length * n ≤ cap * n := Nat.mul_le_mul_right _ hc
    have hcl : cur.toList.length = cap * n := by rw [Array.length_toList, hcs]
    have hyl : (enc y).toList.length = n := by rw [Array.length_toList, hy]
    refine ⟨g, cap, cur, _, rfl, hB, hc, hg, by rw [hy, hcs]; omega, rfl, fun w' hR => ?_⟩
    rw [hy] at hR
    refine ⟨?_, .inr ⟨g, cap, _, by rw [List.length_set], hB, hR, by rw [List.length_set]; exact hc, hm, ?_, ?_⟩⟩
    · rw [flat_length (n := n) (fun x hx => by
        rcases List.mem_or_eq_of_mem_set hx with e | e
        · exact hs x e
        · rw [e]; exact hy)]
    · rw [List.size_toArray, List.length_append, List.length_append, List.length_take, List.length_drop, hyl, hcl]
      omega
    · rw [List.length_set, flat_set hs hy hi, ← ht]
      have e1 : (cur.toList.take (xs.length * n)).take (i * n) = cur.toList.take (i * n) := by rw [List.take_take, Nat.min_eq_left (by omega)]
      have hl2 : (cur.toList.take (i * n) ++ (enc y).toList).length = i * n + n := by
        rw [List.length_append, List.length_take, hyl, hcl]; omega
      rw [e1]
      show List.take (xs.length * n) ((cur.toList.take (i * n) ++ (enc y).toList) ++ cur.toList.drop (i * n + n)) = _
      rw [List.take_append, hl2, List.take_of_length_le (by omega)]
      congr 1
      rw [List.drop_take]
theorem modify_set {α : Type} {f : α → α} {l : List α} {i : Nat} {x : α} (h : l[i]? = some x) : l.modify i f = l.set i (f x) := by
  apply List.ext_getElem?
  intro j
  rw [List.getElem?_modify, List.getElem?_set]
  by_cases e : i = j
  · subst e
    rw [if_pos rfl, if_pos (List.getElem?_eq_some_iff.1 h).1, h]
    simp
  · rw [if_neg e]
    simp [e]
theorem run_build_none {P : Program} (w : World) {S E : TypeId} {n : Nat} (hS : P.underlying S = some (.slice E)) (hI : (P.info? E).map (·.size) = some n) : (Instr.buildSlice S 0 #[]).run P w = .ok (.slice (some ⟨w.heap.size, 0, none⟩) 0 0) (w.alloc (.cells #[] E)) := by
  cases hq : P.info? E with
  | none => simp [hq] at hI
  | some i =>
    have e : (Array.range 0).map (fun _ => (default : Value)) = #[] := by simp [Array.range]
    simp [Instr.buildSlice, run_underlying hS, sizeOf, typeInfo, hq, Instr.fill, newRow, e]
theorem wp_build_none {P : Program} {w : World} {S E : TypeId} {n : Nat} {o : Oper} {a : Act} {K : Act → World → Prop} {Q : Exit → Act → World → Prop} (ho : o.op = .buildSlice S 0 #[]) (hS : P.underlying S = some (.slice E)) (hI : (P.info? E).map (·.size) = some n)
    (h : K (a.put o.dst (.slice (some ⟨w.heap.size, 0, none⟩) 0 0)) (w.alloc (.cells #[] E))) : o.wp P a w K Q := by
  unfold Oper.wp execOp
  have e : ((#[] : Array (Nat × Operand)).map fun (i, x) => (i, a.eval x)) = #[] := by simp
  simp only [ho, e, Sem.run_bind, run_build_none w hS hI, Result.andThen_ok]
  exact h
/-- A row of no thing is made. -/
theorem build_slice_none {P : Program} {w : World} {S E : TypeId} {n : Nat} {ops : Array Oper} {rest : List Oper} {o : Oper} {a : Act} {Q : Exit → Act → World → Prop} (hg : o.guard = none) (ho : o.op = .buildSlice S 0 #[]) (hS : P.underlying S = some (.slice E)) (hI : (P.info? E).map (·.size) = some n)
    (h : wpList P ops Q rest (a.put o.dst (.slice (some ⟨w.heap.size, 0, none⟩) 0 0)) (w.alloc (.cells #[] E))) : wpList P ops Q (o :: rest) a w :=
  wpList_plain hg fun _ hK => wp_build_none ho hS hI (hK _ _ h)
/-! ### In a region whose order is open -/
theorem wp_build_one {P : Program} {n by8 : Nat} {w : World} {S E : TypeId} {z : Value} {o : Oper} {a : Act} {K : Act → World → Prop} {Q : Exit → Act → World → Prop} (x : Operand) (ho : o.op = .buildSlice S 1 #[(0, x)]) (Y : Array Value) (hx : a.eval x = .agg Y)
    (hS : P.underlying S = some (.slice E)) (hI : (P.info? E).map (fun i => (i.zero, i.size, i.bytes)) = some (some z, n, by8)) (hY : Y.size = n) (hn0 : 0 < n) (hn : n ≤ 1000)
    (h : K (a.put o.dst (.slice (some ⟨w.heap.size, 0, none⟩) 1 1)) (w.alloc (.cells Y E))) : o.wp P a w K Q := by
  obtain ⟨i0, hi, hz0, hz1, hz2⟩ := info_parts hI
  refine wp_buildSlice S E 1 _ ho Y i0 z hS hi hz0 (by rw [hz1]; omega) (by rw [hz1]; omega) ?_ h
  have e := Great.fill_whole hn0 [.agg Y] ((Array.range (1 * i0.size)).map (z.cells[· % z.cells.size]!)) (fun v hv => by rw [List.mem_singleton.1 hv]; exact hY) (by rw [hz1]; simp)
  have e2 : ((#[(0, x)] : Array (Nat × Operand)).map fun (i, x) => (i, a.eval x)).toList = (([.agg Y] : List Value).zipIdx 0).map fun x => (x.2, x.1) := by simp [hx]
  rw [e2, hz1]
  rw [hz1] at e
  rw [e]
  congr 1
  show ([Value.agg Y].flatMap fun v => v.cells.toList).toArray = Y
  rw [List.flatMap_cons, List.flatMap_nil, List.append_nil]
  exact Array.toArray_toList
theorem wp_append_lies {P : Program} {α : Type} {enc : α → Array Value} {n by8 : Nat} {w : World} {B : Nat} {S E : TypeId} {z : Value} {o : Oper} {a : Act} {K : Act → World → Prop} {Q : Exit → Act → World → Prop} (s x : Operand)
    (ho : o.op = .call { callee := .builtin .append, args := #[s, x], argTypes := #[S, S] }) (hS : P.underlying S = some (.slice E)) (hI : (P.info? E).map (fun i => (i.zero, i.size, i.bytes)) = some (some z, n, by8)) (hz : z.cells.size = n) (hn0 : 0 < n) (h8 : by8 ≤ 1000)
    {sv : Value} (hsv : a.eval s = sv) {m : Nat} {ys : List Value} (hown : w.ownsRow B E n sv m ys) {v : Value} (hv0 : a.eval x = v) {xs : List α} (hs : ∀ x ∈ xs, (enc x).size = n) (h1 : ∀ x ∈ xs, (enc x).all (·.oneCell') = true) (hv : Lies enc w v xs) (hm : m + xs.length ≤ 1048576) (hB : B ≤ w.heap.size)
    (h : ∀ v' w', w'.ownsRow B E n v' (m + xs.length) (ys ++ flat enc xs) → w.grownBy w' sv.ownBlock → (v'.ownBlock = sv.ownBlock ∨ v'.ownBlock = some w.heap.size) → K (a.put o.dst v') w') : o.wp P a w K Q := by
  obtain ⟨v', w', hr, h2, h3, h4⟩ := run_append_lies (ty := o.type) hS hI hz hn0 h8 hown hs h1 hv hm hB
  unfold Oper.wp execOp
  simp only [ho, resolve, invoke, builtin, Sem.run_bind, Sem.run_pure, Result.andThen_ok, List.map_toArray, List.map_cons, List.map_nil, hsv, hv0, hr]
  exact h v' w' h2 h3 h4
/-- What stands behind the first k, as slicing gives it. -/
theorem lies_tail {α : Type} {enc : α → Array Value} {n : Nat} {w : World} {xs : List α} {g off c : Nat} (hs : ∀ x ∈ xs, (enc x).size = n) (h : Lies enc w (.slice (some ⟨g, off, none⟩) xs.length c) xs) {k : Nat} (hk : k ≤ xs.length) :
    Lies enc w (.slice (if c = k then some ⟨g, off, none⟩ else some ⟨g, off + k * n, none⟩) (xs.length - k) (c - k)) (xs.drop k) := by
  have hc := h.block.2.1
  by_cases e : c = k
  · have h0 : xs.length - k = 0 := by omega
    have hd : xs.drop k = [] := by rw [List.drop_eq_nil_iff]; omega
    rw [if_pos e, hd, h0]
    exact ⟨_, c - k, rfl, Nat.zero_le _, fun h => absurd h (by simp)⟩
  · rw [if_neg e]
    by_cases h0 : xs.length = 0
    · have hd : xs.drop k = [] := by rw [List.drop_eq_nil_iff]; omega
      rw [hd, show xs.length - k = 0 by omega]
      exact ⟨_, c - k, rfl, Nat.zero_le _, fun h => absurd h (by simp)⟩
    · exact h.drop hs hk (by omega) rfl (by omega)
theorem run_slice_head {P : Program} {S E : TypeId} {n g off len cap i : Nat} (hS : P.underlying S = some (.slice E)) (hI : (P.info? E).map (·.size) = some n) (hi : i ≤ cap) (w : World) :
    (Instr.sliceAt S (.slice (some ⟨g, off, none⟩) len cap) none (some (.int .i64 (i : Int))) none).run P w = .ok (.slice (some ⟨g, off, none⟩) i cap) w := by
  cases hq : P.info? E with
  | none => simp [hq] at hI
  | some ie =>
    simp [Instr.sliceAt, Instr.slice, run_underlying hS, sizeOf, typeInfo, hq, go_sem]
    intro h
    omega
theorem run_slice_tail {P : Program} {S E : TypeId} {n g off len cap k : Nat} (hS : P.underlying S = some (.slice E)) (hI : (P.info? E).map (·.size) = some n) (hk : k ≤ len) (w : World) :
    (Instr.sliceAt S (.slice (some ⟨g, off, none⟩) len cap) (some (.int .i64 (k : Int))) none none).run P w = .ok (.slice (if cap = k then some ⟨g, off, none⟩ else some ⟨g, off + k * n, none⟩) (len - k) (cap - k)) w := by
  cases hq : P.info? E with
  | none => simp [hq] at hI
  | some ie =>
    have hn : ie.size = n := by simpa [hq] using hI
    simp [Instr.sliceAt, Instr.slice, run_underlying hS, sizeOf, typeInfo, hq, hn, go_sem, add_at]
    intro h
    omega
theorem yields_slice {P : Program} {ops : Array Oper} {S : World → Prop} {o : Oper} {a : Act} (hw : Region.wanted o (yielded ops a.tmps) = true) (T : TypeId) (x : Operand) (lo hi : Option Operand) (ho : o.op = .slice T x lo hi none) (V : Value) (hx : a.eval x = V) (l h : Option Value) (hl : lo.map a.eval = l) (hh : hi.map a.eval = h) (R : Value)
    (hr : ∀ w, (Instr.sliceAt T V l h none).run P w = .ok R w) : YieldsIf P ops S o R a :=
  .inl ⟨hw, fun w _ => by
    unfold execOp
    simp only [ho, hx, hl, hh, Option.map_none, Sem.run_bind, hr, Result.andThen_ok]
    rfl⟩
/-- The same load where the order is open. -/
theorem yields_span {P : Program} {ops : Array Oper} {S : World → Prop} {o : Oper} {a : Act} (hw : Region.wanted o (yielded ops a.tmps) = true) (ty : TypeId) (x : Operand) (ho : o.op = .load ty x)
    (g off : Nat) (hx : a.eval x = .pointer (some ⟨g, off, none⟩)) (cs : Array Value) (hc : ∀ w, S w → ∀ j u, cs[j]? = some u → w.cell? ⟨g, off + j, none⟩ = some u) {d : TypeDesc}
    (hu : P.underlying ty = some d) (hd : (match d with | .struct _ | .array _ _ => true | _ => false) = true) (hi : (P.info? ty).map (·.size) = some cs.size) : YieldsIf P ops S o (.agg cs) a :=
  .inl ⟨hw, fun w hS => by
    have hl : (loadCells ⟨g, off, none⟩ cs.toList.length).run P w = .ok cs.toList.toArray w :=
      run_loadCells_list (P := P) w ⟨g, off, none⟩ cs.toList (fun j v hv => by
        rw [add_at]
        rw [Array.getElem?_toList] at hv
        exact hc w hS j v hv)
    rw [Array.length_toList, Array.toArray_toList] at hl
    have hagg : (isAgg ty).run P w = .ok true w := by
      unfold isAgg
      rw [Sem.run_bind, run_underlying hu w]
      cases d <;> simp_all
    have hv : (loadVar ty ⟨g, off, none⟩).run P w = .ok (.agg cs) w := by
      cases hq : P.info? ty with
      | none => simp [hq] at hi
      | some i =>
        have hs : i.size = cs.size := by simpa [hq] using hi
        simp [loadVar, Sem.run_bind, hagg, sizeOf, typeInfo, hq, hs, hl]
    unfold execOp
    simp only [ho, hx, Instr.loadAt, Instr.sureAddr, Sem.run_bind, Sem.run_pure, Result.andThen_ok, hv]⟩
end Go.Proofs.Ytdidogcgoghdmaa
