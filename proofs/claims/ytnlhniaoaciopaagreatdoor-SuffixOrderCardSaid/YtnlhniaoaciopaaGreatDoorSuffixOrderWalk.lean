/- The walk of the law SuffixOrder. -/
import Derived.Test.YtnlhniaoaciopaaGreatDoorSuffixAlive
import Derived.Test.YtnlhniaoaciopaaGreatDoorQuiet
import Derived.Deep.AppendLies
import Derived.Deep.RegionHeld
namespace Go.Proofs.YtnlhniaoaciopaaGreatDoor
open Go.RowKit Go.Maps
namespace Sx
def twice (rs : List Ru.Rule) : List Ru.Rule := rs.flatMap fun r => [r, r]
theorem twice_snoc (rs : List Ru.Rule) (r : Ru.Rule) : twice (rs ++ [r]) = twice rs ++ [r, r] := by simp [twice]
theorem twice_length : ∀ rs : List Ru.Rule, (twice rs).length = rs.length * 2
  | [] => rfl
  | r :: rs => by
    show (r :: r :: twice rs).length = _
    rw [List.length_cons, List.length_cons, twice_length rs, List.length_cons]; omega
theorem mem_twice {rs : List Ru.Rule} {r : Ru.Rule} : r ∈ twice rs ↔ r ∈ rs := by unfold twice; simp
/-- The rules from number k on, the last one first, each twice. -/
def back (rs : List Ru.Rule) (k : Nat) : List Ru.Rule := twice (rs.drop k).reverse
theorem back_all (rs : List Ru.Rule) : ∀ r, r ∈ rs ↔ r ∈ back rs 0 := by intro r; unfold back; rw [mem_twice]; simp
theorem back_none (rs : List Ru.Rule) : back rs rs.length = [] := by unfold back; rw [List.drop_length]; rfl
theorem back_down {rs : List Ru.Rule} {j : Nat} {r : Ru.Rule} (h : rs[j]? = some r) : back rs j = back rs (j + 1) ++ [r, r] := by
  obtain ⟨hj, e⟩ := List.getElem?_eq_some_iff.1 h
  unfold back
  rw [List.drop_eq_getElem_cons hj, e, List.reverse_cons, twice_snoc]
theorem back_length (rs : List Ru.Rule) (k : Nat) : (back rs k).length ≤ rs.length * 2 := by
  unfold back
  rw [twice_length, List.length_reverse, List.length_drop]; omega
end Sx
theorem on_from {a b : World} {P : Ending → Prop} (hC : Below a.heap.size a b) {f : FuncId} {args : Array Value} (h : Calls Tryz.prog f args b fun e w' => P e ∧ Below b.heap.size b w') :
    Calls Tryz.prog f args b fun e w' => P e ∧ Below a.heap.size a w' :=
  h.mono fun _ _ ⟨h1, h2⟩ => ⟨h1, hC.trans (h2.mono hC.size)⟩
theorem yields_rule {ops : Array Oper} {S : World → Prop} {o : Oper} {a : Act} (hw : Region.wanted o (yielded ops a.tmps) = true) (x : Operand) (ho : o.op = .load 50 x) (g off : Nat) (hx : a.eval x = .pointer (some ⟨g, off, none⟩)) (k : Int) (u : ByteArray)
    (hS : ∀ w, S w → w.cell? ⟨g, off, none⟩ = some (.int .i64 k) ∧ w.cell? ⟨g, off + 1, none⟩ = some (.string u)) : YieldsIf Tryz.prog ops S o (.agg #[.int .i64 k, .string u]) a :=
  .inl ⟨hw, fun w hs => by
    have hl : (loadCells ⟨g, off, none⟩ [Value.int .i64 k, .string u].length).run Tryz.prog w = .ok [Value.int .i64 k, .string u].toArray w :=
      run_loadCells_list (P := Tryz.prog) w ⟨g, off, none⟩ [Value.int .i64 k, .string u] (fun j v hv => by
        have hadd : (⟨g, off, none⟩ : Addr).add j = ⟨g, off + j, none⟩ := by unfold Addr.add; split <;> simp_all
        rw [hadd]
        match j, hv with
        | 0, hv => rw [← Option.some.inj (show some (Value.int .i64 k) = some v from hv)]; exact (hS w hs).1
        | 1, hv => rw [← Option.some.inj (show some (Value.string u) = some v from hv)]; exact (hS w hs).2)
    have hagg : (isAgg 50).run Tryz.prog w = .ok true w := by kernel_rfl
    obtain ⟨i, hq, hsz⟩ : ∃ i, Tryz.prog.info? 50 = some i ∧ i.size = 2 := by
      cases hq : Tryz.prog.info? 50 with
      | none => have := infoRule; rw [hq] at this; cases this
      | some i => have := infoRule; rw [hq] at this; exact ⟨i, rfl, Option.some.inj this⟩
    have hv : (loadVar 50 ⟨g, off, none⟩).run Tryz.prog w = .ok (.agg #[.int .i64 k, .string u]) w := by
      have hl2 : (loadCells ⟨g, off, none⟩ 2).run Tryz.prog w = .ok #[.int .i64 k, .string u] w := hl
      simp [loadVar, Sem.run_bind, hagg, sizeOf, typeInfo, hq, hsz, hl2]
    unfold execOp
    simp only [ho, hx, Instr.loadAt, Instr.sureAddr, Sem.run_bind, Sem.run_pure, Result.andThen_ok, hv]⟩
/-- The new list grows. -/
structure OrdAt (w : World) (X : Array Value) (qs : List Ru.Rule) (x : Value) (W : World) : Prop where
  below : Below w.heap.size w W
  row : Row W w.heap.size 26 X
  own : W.ownsRow (w.heap.size + 1) 50 2 x qs.length (rulesL qs)
  size : w.heap.size + 1 ≤ W.heap.size
theorem OrdAt.add {w : World} {X : Array Value} {qs : List Ru.Rule} {x : Value} {W : World} (h : OrdAt w X qs x W) {o : Obj} {w1 : World} {r : Ru.Rule} {y : Value} (hown : w1.ownsRow (w.heap.size + 1) 50 2 y (qs.length + 2) (rulesL qs ++ [.int .i64 r.kind, strV r.name, .int .i64 r.kind, strV r.name]))
    (hg : (W.drew.alloc o).grownBy w1 x.ownBlock) : OrdAt w X (qs ++ [r, r]) y w1 := by
  have hb : Below w.heap.size w (W.drew.alloc o) := h.below.drew.alloc (by have := h.size; simp; omega) o
  have hs1 : (W.drew.alloc o).heap.size = W.heap.size + 1 := by simp
  refine ⟨hb.grown hg (by have := h.size; omega) (fun k e => by have := (h.own.lt k e).1; omega), ?_, ?_, Nat.le_trans (by have := h.size; omega) hg.size⟩
  · have R : Row (W.drew.alloc o) w.heap.size 26 X := h.row.drew.alloc o
    exact (hg.block w.heap.size R.lt (by intro e; have := (h.own.lt _ e.symm).1; omega)).trans R
  · rw [List.length_append, show rulesL (qs ++ [r, r]) = rulesL qs ++ [.int .i64 r.kind, strV r.name, .int .i64 r.kind, strV r.name] by simp [rulesL]]
    exact hown
theorem OrdAt.holds {w : World} {X : Array Value} {qs : List Ru.Rule} {x : Value} {W : World} (h : OrdAt w X qs x W) : HoldsRules W x qs := (own_rules h.own).holds
set_option maxRecDepth 100000 in
set_option maxHeartbeats 8000000 in
theorem sorder_walk (rs : List Ru.Rule) (h : Hst.Host) (w : World) (v : Value) (hv : HoldsRules w v rs ∧ rs.length ≤ maxLen ∧ ∀ r ∈ rs, r.name.length ≤ maxLen) (ha : h.addr.length = 16) (hn : h.name.length ≤ maxLen) (hw : Std w) :
    Calls Tryz.prog 6 #[v, .agg (hostA h)] w fun e w' => e = .returned (.bool true) ∧ Below w.heap.size w w' := by
  have HA := Lib.hid suffix_alive
  unfold BoolPost at HA
  have HH := Lib.hid (show (Tryz.prog.info? 26).map (·.size) = some (hostA h).size by rw [hostA_size h ha]; exact infoHost)
  have R0 := Row.new w 26 (hostA h)
  have B0 := (Below.refl w.heap.size w).alloc (Nat.le_refl _) (.cells (hostA h) 26)
  have HG := Lib.hid (fun W hV => great_calls rs v h W hV hv.2.1 hn hv.2.2)
  unfold BoolPost at HG
  have HV := hv.1
  by_cases hg : greatB rs h = true
  case pos =>
    rw [hg] at HG
    clear hg hv hn
    generalize hostA h = X at *
    go_enter Tryz.func6, Tryz.ntmps6
    go_wp2_with fail
    generalize w.alloc (.cells X 26) = w0 at *
    refine (HA.out _ (hw.below B0)).mono ?_
    rintro e x0 ⟨rfl, d0⟩
    have B1 := B0.trans (d0.mono B0.size)
    have R1 := R0.stays d0
    have V1 := HV.stays B1
    go_wp2_with (refine at_slot 12 rfl ?_; refine load_row rfl 26 _ rfl w.heap.size rfl R1 Tryz.underlying26 rfl HH.out ?_)
    refine (HG.out _ V1).mono ?_
    rintro e x1 ⟨rfl, d1⟩
    go_wp2
    go_ret
    exact ⟨rfl, B1.trans (d1.mono B1.size)⟩
  have hg : greatB rs h = false := by simpa using hg
  rw [hg] at HG
  obtain ⟨g1, g2, g3⟩ := great_no hg
  have hrm : ∀ r ∈ rs, r.name.length ≤ 1000 := fun r hr => by have := g1 r hr; omega
  have hqm : ∀ r ∈ Sx.back rs 0, r.name.length ≤ 1000 := fun r hr => hrm r ((Sx.back_all rs r).2 hr)
  have hql := Sx.back_length rs 0
  obtain ⟨i0, hi, hz0, hz1, hz2⟩ := info_parts infoRuleZ
  have HN := Lib.hid (fun W hW hV => new_calls rs v W hW hV (by omega) hrm)
  have HN2 := Lib.hid (fun x W hW hV => new_calls (Sx.back rs 0) x W hW hV (by omega) hqm)
  unfold NewTable at HN HN2
  have P1 := Lib.hid (fun n₀ tb mb W hW hT => suffix_calls (Sx.new rs) h n₀ tb mb W hW ha (by omega) hT)
  have P2 := Lib.hid (fun n₀ tb mb W hW hT => public_calls (Sx.new rs) h n₀ tb mb W hW ha (by omega) hT)
  have P3 := Lib.hid (fun n₀ tb mb W hW hT => site_calls (Sx.new rs) h n₀ tb mb W hW ha (by omega) hT)
  have Q1 := Lib.hid (fun n₀ tb mb W hW hT => suffix_calls (Sx.new (Sx.back rs 0)) h n₀ tb mb W hW ha (by omega) hT)
  have Q2 := Lib.hid (fun n₀ tb mb W hW hT => public_calls (Sx.new (Sx.back rs 0)) h n₀ tb mb W hW ha (by omega) hT)
  have Q3 := Lib.hid (fun n₀ tb mb W hW hT => site_calls (Sx.new (Sx.back rs 0)) h n₀ tb mb W hW ha (by omega) hT)
  unfold SufPost at P1 Q1
  rw [← Sx.suffix_same h (Sx.back_all rs)] at Q1 Q2 Q3
  generalize Sx.isPublic (Sx.suffix (Sx.new rs) h) h = b at *
  generalize (⟨(Sx.site (Sx.suffix (Sx.new rs) h) h).toArray⟩ : ByteArray) = s at *
  generalize Sx.suffix (Sx.new rs) h = k at *
  clear hg hv hn g1 g3 hrm hqm hql
  generalize hostA h = X at *
  obtain ⟨A, cp, rfl, _⟩ := id HV
  have HBN := Lib.hid (Sx.back_none rs)
  have HBD := Lib.hid (fun j r => Sx.back_down (rs := rs) (j := j) (r := r))
  have HBL := Lib.hid (Sx.back_length rs)
  have HGT := Lib.hid (fun j (hj : j < rs.length) => (⟨_, List.getElem?_eq_getElem hj⟩ : ∃ r, rs[j]? = some r))
  obtain ⟨n, hnn⟩ : ∃ n, rs.length = n := ⟨_, rfl⟩
  rw [hnn] at HBN HBL HGT g2
  have HNN := Lib.hid hnn
  rw [hnn] at HV HG HN ⊢
  clear hnn
  go_enter Tryz.func6, Tryz.ntmps6
  go_wp2_with fail
  generalize w.alloc (.cells X 26) = w0 at *
  refine (HA.out _ (hw.below B0)).mono ?_
  rintro e x0 ⟨rfl, d0⟩
  have B1 := B0.trans (d0.mono B0.size)
  have R1 := R0.stays d0
  have V1 := HV.stays B1
  go_wp2_with (refine at_slot 12 rfl ?_; refine load_row rfl 26 _ rfl w.heap.size rfl R1 Tryz.underlying26 rfl HH.out ?_)
  refine (HG.out _ V1).mono ?_
  rintro e x1 ⟨rfl, d1⟩
  have B2 := B1.trans (d1.mono B1.size)
  have R2 := R1.stays d1
  clear V1 R1 B1 R0 B0 d0 HA HG
  go_wp2_with fail
  have HO0 : Hid (OrdAt w X (Sx.back rs n) (.slice (some ⟨x1.heap.size, 0, none⟩) 0 0) (x1.alloc (.cells #[] 50))) := Lib.hid ⟨B2.alloc B2.size _, R2.alloc _, by rw [HBN.out]; exact World.ownsRow_lit x1 #[] 0 (by have := R2.lt; omega) (by decide) rfl, by have := R2.lt; simp; omega⟩
  generalize x1.alloc (.cells #[] 50) = x2 at *
  generalize x1.heap.size = g1 at *
  clear R2 B2 d1
  go_loopw [5, 6] (fun x i wr => ∃ m : Nat, m ≤ n ∧ i = .int .i64 ((m : Int) - 1) ∧ OrdAt w X (Sx.back rs m) x wr) (fun _ i _ => (intOf i + 1).toNat)
  case atStart => exact ⟨n, Nat.le_refl _, by go_num, HO0.out⟩
  case round =>
    obtain ⟨m, hm, hi6, hat⟩ := hrel
    rcases m with _ | j
    · have hi7 : (Value.int .i64 (((0 : Nat) : Int) - 1)) = .int .i64 (-1) := rfl
      rw [hi7] at hi6
      subst hi6
      have S2 := hw.below hat.below
      have V2 := HV.stays hat.below
      have O2 := hat.holds
      have R2 := hat.row
      have B2 := hat.below
      clear hat hi7
      go_wp2_with fail
      refine (HN.out _ S2 V2).mono ?_
      rintro e y1 ⟨tb, mb, rfl, T1, d1⟩
      have O3 := O2.stays d1
      have R3 := R2.stays d1
      have B3 := B2.trans (d1.mono B2.size)
      go_wp2_with fail
      refine (HN2.out _ _ (hw.below B3) O3).mono ?_
      rintro e y2 ⟨tc, mc, rfl, T2, d2⟩
      have T3 := T1.stays d2
      have R4 := R3.stays d2
      have B4 := B3.trans (d2.mono B3.size)
      have S4 := hw.below B4
      have C1 := Lib.hid (fun W (hC : Below y2.heap.size y2 W) => on_from hC (P1.out _ tb mb W (S4.below hC) (T3.stays hC)))
      have C2 := Lib.hid (fun W (hC : Below y2.heap.size y2 W) => on_from hC (P2.out _ tb mb W (S4.below hC) (T3.stays hC)))
      have C3 := Lib.hid (fun W (hC : Below y2.heap.size y2 W) => on_from hC (P3.out _ tb mb W (S4.below hC) (T3.stays hC)))
      have D1 := Lib.hid (fun W (hC : Below y2.heap.size y2 W) => on_from hC (Q1.out _ tc mc W (S4.below hC) (T2.stays hC)))
      have D2 := Lib.hid (fun W (hC : Below y2.heap.size y2 W) => on_from hC (Q2.out _ tc mc W (S4.below hC) (T2.stays hC)))
      have D3 := Lib.hid (fun W (hC : Below y2.heap.size y2 W) => on_from hC (Q3.out _ tc mc W (S4.below hC) (T2.stays hC)))
      have RR := Lib.hid (fun W (hC : Below y2.heap.size y2 W) => R4.stays hC)
      clear P1 P2 P3 Q1 Q2 Q3 T1 T2 T3 R2 R3 R4 V2 O2 O3 S2 B2 B3 d1 d2 HN HN2
      go_wp2_with fail
      refine region_quiet (C := fun W => Below y2.heap.size y2 W) (by kernel_rfl) (by kernel_rfl) (Below.refl _ _).drew ?_
      refine q_yields (v := ?_) (Or.inl ⟨by rfl, ?_⟩) ?_
      rotate_left
      · intro _ _; go_simp; with_reducible rfl
      simp only [Act.put, List.setIfInBounds_toArray, List.set_cons_zero, List.set_cons_succ]
      refine q_yields (yields_row (by rfl) _ _ rfl _ rfl RR.out Tryz.underlying26 rfl HH.out) ?_
      simp only [Act.put, List.setIfInBounds_toArray, List.set_cons_zero, List.set_cons_succ]
      refine q_call (by rfl) (.int .i64 (k : Int)) (fun wq hC => by unfold Oper.quietAt; go_simp; exact C1.out wq hC) ?_
      simp only [Act.put, List.setIfInBounds_toArray, List.set_cons_zero, List.set_cons_succ]
      refine q_yields (v := ?_) (Or.inl ⟨by rfl, ?_⟩) ?_
      rotate_left
      · intro _ _; go_simp; with_reducible rfl
      simp only [Act.put, List.setIfInBounds_toArray, List.set_cons_zero, List.set_cons_succ]
      refine q_yields (yields_row (by rfl) _ _ rfl _ rfl RR.out Tryz.underlying26 rfl HH.out) ?_
      simp only [Act.put, List.setIfInBounds_toArray, List.set_cons_zero, List.set_cons_succ]
      refine q_call (by rfl) (.int .i64 (k : Int)) (fun wq hC => by unfold Oper.quietAt; go_simp; exact D1.out wq hC) ?_
      simp only [Act.put, List.setIfInBounds_toArray, List.set_cons_zero, List.set_cons_succ]
      refine q_yields (v := ?_) (Or.inl ⟨by rfl, ?_⟩) ?_
      rotate_left
      · intro _ _; go_simp; with_reducible rfl
      simp only [Act.put, List.setIfInBounds_toArray, List.set_cons_zero, List.set_cons_succ]
      refine q_yields (v := ?_) (Or.inl ⟨by rfl, ?_⟩) ?_
      rotate_left
      · intro _ _; go_simp; with_reducible rfl
      simp only [Act.put, List.setIfInBounds_toArray, List.set_cons_zero, List.set_cons_succ]
      refine q_yields (v := ?_) (Or.inl ⟨by rfl, ?_⟩) ?_
      rotate_left
      · intro _ _; go_simp; with_reducible rfl
      simp only [Act.put, List.setIfInBounds_toArray, List.set_cons_zero, List.set_cons_succ]
      refine q_yields (yields_row (by rfl) _ _ rfl _ rfl RR.out Tryz.underlying26 rfl HH.out) ?_
      simp only [Act.put, List.setIfInBounds_toArray, List.set_cons_zero, List.set_cons_succ]
      refine q_call (by rfl) (.string s) (fun wq hC => by unfold Oper.quietAt; go_simp; exact C3.out wq hC) ?_
      simp only [Act.put, List.setIfInBounds_toArray, List.set_cons_zero, List.set_cons_succ]
      refine q_yields (v := ?_) (Or.inl ⟨by rfl, ?_⟩) ?_
      rotate_left
      · intro _ _; go_simp; with_reducible rfl
      simp only [Act.put, List.setIfInBounds_toArray, List.set_cons_zero, List.set_cons_succ]
      refine q_yields (yields_row (by rfl) _ _ rfl _ rfl RR.out Tryz.underlying26 rfl HH.out) ?_
      simp only [Act.put, List.setIfInBounds_toArray, List.set_cons_zero, List.set_cons_succ]
      refine q_call (by rfl) (.string s) (fun wq hC => by unfold Oper.quietAt; go_simp; exact D3.out wq hC) ?_
      simp only [Act.put, List.setIfInBounds_toArray, List.set_cons_zero, List.set_cons_succ]
      refine q_yields (v := ?_) (Or.inl ⟨by rfl, ?_⟩) ?_
      rotate_left
      · intro _ _; go_simp; with_reducible rfl
      simp only [Act.put, List.setIfInBounds_toArray, List.set_cons_zero, List.set_cons_succ]
      refine q_yields (v := ?_) (Or.inl ⟨by rfl, ?_⟩) ?_
      rotate_left
      · intro _ _; go_simp; with_reducible rfl
      simp only [Act.put, List.setIfInBounds_toArray, List.set_cons_zero, List.set_cons_succ]
      refine q_yields (v := ?_) (Or.inl ⟨by rfl, ?_⟩) ?_
      rotate_left
      · intro _ _; go_simp; with_reducible rfl
      simp only [Act.put, List.setIfInBounds_toArray, List.set_cons_zero, List.set_cons_succ]
      refine q_yields (v := ?_) (Or.inl ⟨by rfl, ?_⟩) ?_
      rotate_left
      · intro _ _; go_simp; with_reducible rfl
      simp only [Act.put, List.setIfInBounds_toArray, List.set_cons_zero, List.set_cons_succ]
      refine q_yields (yields_row (by rfl) _ _ rfl _ rfl RR.out Tryz.underlying26 rfl HH.out) ?_
      simp only [Act.put, List.setIfInBounds_toArray, List.set_cons_zero, List.set_cons_succ]
      refine q_call (by rfl) (.bool b) (fun wq hC => by unfold Oper.quietAt; go_simp; exact C2.out wq hC) ?_
      simp only [Act.put, List.setIfInBounds_toArray, List.set_cons_zero, List.set_cons_succ]
      refine q_yields (v := ?_) (Or.inl ⟨by rfl, ?_⟩) ?_
      rotate_left
      · intro _ _; go_simp; with_reducible rfl
      simp only [Act.put, List.setIfInBounds_toArray, List.set_cons_zero, List.set_cons_succ]
      refine q_yields (yields_row (by rfl) _ _ rfl _ rfl RR.out Tryz.underlying26 rfl HH.out) ?_
      simp only [Act.put, List.setIfInBounds_toArray, List.set_cons_zero, List.set_cons_succ]
      refine q_call (by rfl) (.bool b) (fun wq hC => by unfold Oper.quietAt; go_simp; exact D2.out wq hC) ?_
      simp only [Act.put, List.setIfInBounds_toArray, List.set_cons_zero, List.set_cons_succ]
      refine q_yields (v := ?_) (Or.inl ⟨by rfl, ?_⟩) ?_
      rotate_left
      · intro _ _; go_simp; with_reducible rfl
      simp only [Act.put, List.setIfInBounds_toArray, List.set_cons_zero, List.set_cons_succ]
      refine q_yields (v := ?_) (Or.inl ⟨by rfl, ?_⟩) ?_
      rotate_left
      · intro _ _; go_simp; with_reducible rfl
      simp only [Act.put, List.setIfInBounds_toArray, List.set_cons_zero, List.set_cons_succ]
      refine q_yields (v := ?_) (Or.inl ⟨by rfl, ?_⟩) ?_
      rotate_left
      · intro _ _; go_simp; with_reducible rfl
      simp only [Act.put, List.setIfInBounds_toArray, List.set_cons_zero, List.set_cons_succ]
      refine wpQuiet_nil ?_
      intro w' hC
      go_wp2
      go_ret
      exact ⟨rfl, B4.trans (hC.mono B4.size)⟩
    · have hi7 : (Value.int .i64 (((j + 1 : Nat) : Int) - 1)) = .int .i64 (j : Int) := by congr 1; omega
      rw [hi7] at hi6
      subst hi6
      clear hi7
      obtain ⟨r, hr⟩ := HGT.out j (by omega)
      have HD := HBD.out j r hr
      obtain ⟨A', c', he, hc'⟩ := HV
      have he := Value.slice.inj he
      obtain ⟨rfl, _, rfl⟩ := he
      obtain ⟨g, off, rfl, hgl, hcc, hcell⟩ := hc' (by rw [HNN.out]; omega)
      obtain ⟨h0, h1⟩ := hcell j r hr
      rw [HNN.out] at hcc
      obtain ⟨u, hu⟩ : ∃ u : ByteArray, u = ⟨r.name.toArray⟩ := ⟨_, rfl⟩
      have h1 : w.cell? ⟨g, off + j * 2 + 1, none⟩ = some (.string u) := by rw [h1, hu]; rfl
      have HRC := Lib.hid (fun W (hS : Below w.heap.size w W) => (⟨(hS.cell (p := ⟨g, off + j * 2, none⟩) hgl).trans h0, (hS.cell (p := ⟨g, off + j * 2 + 1, none⟩) hgl).trans h1⟩ : W.cell? ⟨g, off + j * 2, none⟩ = some (.int .i64 r.kind) ∧ W.cell? ⟨g, off + j * 2 + 1, none⟩ = some (.string u)))
      have hql := HBL.out (j + 1)
      have HML := Lib.hid (show (Sx.back rs (j + 1)).length + 2 ≤ maxLen by unfold maxLen; omega)
      have HMB := Lib.hid (show ((Sx.back rs (j + 1)).length + 2) * 24 ≤ 140737488355328 by omega)
      have HON : Hid (wr.drew.ownsRow (w.heap.size + 1) 50 2 u5 (Sx.back rs (j + 1)).length (rulesL (Sx.back rs (j + 1)))) := Lib.hid hat.own.drew
      have hkS := hat.below.drew
      have hsz := hat.size
      have HOS := Lib.hid (show w.heap.size + 1 ≤ (wr.drew.alloc (.cells #[.int .i64 r.kind, .string u, .int .i64 r.kind, .string u] 50)).heap.size by simp; omega)
      have HAT := Lib.hid hat
      have HADD : Hid (∀ w1 y, w1.ownsRow (w.heap.size + 1) 50 2 y ((Sx.back rs (j + 1)).length + 2) (rulesL (Sx.back rs (j + 1)) ++ [.int .i64 r.kind, .string u, .int .i64 r.kind, .string u]) → (wr.drew.alloc (.cells #[.int .i64 r.kind, .string u, .int .i64 r.kind, .string u] 50)).grownBy w1 u5.ownBlock → OrdAt w X (Sx.back rs j) y w1) := Lib.hid (fun w1 y e1 e2 => by rw [HD]; subst hu; exact HAT.out.add e1 e2)
      have hj1 : (j : Int) < (n : Int) := by omega
      generalize rulesL (Sx.back rs (j + 1)) = L1 at *
      generalize (Sx.back rs (j + 1)).length = N1 at *
      generalize r.kind = rk at *
      clear HD hu hql hat hsz h0 h1 hcell hr
      go_wp2_with fail
      refine wp_region_held_drew (S := fun W => Below w.heap.size w W) (by kernel_rfl) hkS (fun _ => ?_)
      refine wpAnyH_take (i := 0) (v := ?_) rfl (by kernel_rfl) (by kernel_rfl) (by kernel_rfl) (fun _ _ _ h => h) (Or.inl ⟨by rfl, ?_⟩) (by assumption) ?_
      rotate_left
      · intro _ _; go_simp; with_reducible rfl
      simp only [Act.put, List.setIfInBounds_toArray, List.set_cons_zero, List.set_cons_succ, List.getElem_toArray, List.getElem_cons_zero]
      refine wpAnyH_take (i := 1) (v := ?_) rfl (by kernel_rfl) (by kernel_rfl) (by kernel_rfl) (fun _ _ _ h => h) (Or.inl ⟨by rfl, ?_⟩) (by assumption) ?_
      rotate_left
      · intro _ _; go_simp; with_reducible rfl
      simp only [Act.put, List.setIfInBounds_toArray, List.set_cons_zero, List.set_cons_succ, List.getElem_toArray, List.getElem_cons_zero, List.getElem_cons_succ]
      refine wpAnyH_take (i := 2) (v := ?_) rfl (by kernel_rfl) (by kernel_rfl) (by kernel_rfl) (fun _ _ _ h => h) (Or.inl ⟨by rfl, ?_⟩) (by assumption) ?_
      rotate_left
      · intro _ _; go_simp; with_reducible rfl
      simp only [Act.put, List.setIfInBounds_toArray, List.set_cons_zero, List.set_cons_succ, List.getElem_toArray, List.getElem_cons_zero, List.getElem_cons_succ]
      refine wpAnyH_take (i := 3) (v := ?_) rfl (by kernel_rfl) (by kernel_rfl) (by kernel_rfl) (fun _ _ _ h => h) (Or.inl ⟨by rfl, ?_⟩) (by assumption) ?_
      rotate_left
      · intro _ _; go_simp; with_reducible rfl
      simp only [Act.put, List.setIfInBounds_toArray, List.set_cons_zero, List.set_cons_succ, List.getElem_toArray, List.getElem_cons_zero, List.getElem_cons_succ]
      refine wpAnyH_take (i := 4) rfl (by kernel_rfl) (by kernel_rfl) (by kernel_rfl) (fun _ _ _ h => h) (yields_rule (by rfl) _ rfl g (off + j * 2) rfl rk u (fun W hS => HRC.out W hS)) (by assumption) ?_
      simp only [Act.put, List.setIfInBounds_toArray]
      refine wpAnyH_take (i := 5) (v := ?_) rfl (by kernel_rfl) (by kernel_rfl) (by kernel_rfl) (fun _ _ _ h => h) (Or.inl ⟨by rfl, ?_⟩) (by assumption) ?_
      rotate_left
      · intro _ _; go_simp; with_reducible rfl
      simp only [Act.put, List.setIfInBounds_toArray, List.set_cons_zero, List.set_cons_succ, List.getElem_toArray, List.getElem_cons_zero, List.getElem_cons_succ]
      refine wpAnyH_take (i := 6) (v := ?_) rfl (by kernel_rfl) (by kernel_rfl) (by kernel_rfl) (fun _ _ _ h => h) (Or.inl ⟨by rfl, ?_⟩) (by assumption) ?_
      rotate_left
      · intro _ _; go_simp; with_reducible rfl
      simp only [Act.put, List.setIfInBounds_toArray, List.set_cons_zero, List.set_cons_succ, List.getElem_toArray, List.getElem_cons_zero, List.getElem_cons_succ]
      refine wpAnyH_take (i := 7) (v := ?_) rfl (by kernel_rfl) (by kernel_rfl) (by kernel_rfl) (fun _ _ _ h => h) (Or.inl ⟨by rfl, ?_⟩) (by assumption) ?_
      rotate_left
      · intro _ _; go_simp; with_reducible rfl
      simp only [Act.put, List.setIfInBounds_toArray, List.set_cons_zero, List.set_cons_succ, List.getElem_toArray, List.getElem_cons_zero, List.getElem_cons_succ]
      refine wpAnyH_take (i := 8) rfl (by kernel_rfl) (by kernel_rfl) (by kernel_rfl) (fun _ _ _ h => h) (yields_rule (by rfl) _ rfl g (off + j * 2) rfl rk u (fun W hS => HRC.out W hS)) (by assumption) ?_
      simp only [Act.put, List.setIfInBounds_toArray]
      refine wpAnyH_ready (rs := [9]) (by kernel_rfl) (by simp) (AllReadyH.cons rfl (fun K1 hK1 => ?_) AllReadyH.nil)
      rw [if_pos (by rfl)]
      go_simp
      refine hK1.out _ _ (hkS.alloc (by have := hkS.size; omega) _) (fun _ => ?_)
      clear hK1 K1
      refine wpAnyH_ready (rs := [10]) (by kernel_rfl) (by simp) (AllReadyH.cons rfl (fun K1 hK1 => ?_) AllReadyH.nil)
      refine step_append_lies _ rfl _ _ _ rfl (w.heap.size + 1) 50 i0 _ 2 24 Tryz.underlying22 hi hz0 hz1 hz2 rfl (by decide) _ _ _ rfl (HON.out.alloc _) ⟨wr.drew.heap.size, 0, none⟩ 2 2 [.int .i64 rk, .string u, .int .i64 rk, .string u] rfl rfl (World.news_of_block (t := 50) (fr := (0, 0)) (heap_alloc_new wr.drew _)) ?c1a (by omega) HML.out HMB.out HOS.out (wr.heap.size + 1) (by simp) ?_
      case c1a => intro y hy; simp at hy; rcases hy with rfl | rfl | rfl | rfl <;> rfl
      intro g' cap' w1 hown1 hgrow _ _
      have hnew := HADD.out _ _ hown1 hgrow
      refine hK1.out _ _ hnew.below (fun _ => ?_)
      clear hK1 K1
      refine wpAnyH_ready (rs := [11]) (by kernel_rfl) (by simp) (AllReadyH.cons rfl (fun K1 hK1 => ?_) AllReadyH.nil)
      rw [if_pos (by rfl)]
      go_simp
      refine hK1.out _ _ hnew.below (fun _ => ?_)
      clear hK1 K1
      refine wpAnyH_done (by kernel_rfl) ?_ _
      go_wp2
      go_roundw
      case rel => exact ⟨j, by omega, by go_num, hnew⟩
      case measure => simp [intOf]
end Go.Proofs.YtnlhniaoaciopaaGreatDoor
