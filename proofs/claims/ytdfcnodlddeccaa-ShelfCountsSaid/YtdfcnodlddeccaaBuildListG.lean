/- A value built of named parts, guarded or not, where it runs. -/
import Derived.Test.YtdfcnodlddeccaaCookieRow
namespace Go.Proofs.Ytdfcnodlddeccaa
open Go.RowKit
theorem build_list_g {P : Program} {ops : Array Oper} {rest : List Oper} {o : Oper} {a : Act} {w : World} {Q : Exit → Act → World → Prop} (hw : Region.wanted o (yielded ops a.tmps) = true) (t : TypeId) (ps : Array (Nat × Operand)) (ho : o.op = .build t ps) (vs : List (Nat × Value)) (hv : ps.toList.map (fun p => (p.1, a.eval p.2)) = vs) (cells : Array Value)
    (hc : P.built t vs = some cells) (h : wpList P ops Q rest (a.put o.dst (.agg cells)) w) : wpList P ops Q (o :: rest) a w := by
  have e : (ps.map fun (i, x) => (i, a.eval x)).toList = vs := by rw [Array.toList_map]; exact hv
  refine wpList_step fun K hK => ?_
  simp only [hw, if_true]
  refine wp_build t ps ho ?_ (hK _ _ ?_)
  · rw [e, hc]; rfl
  · rw [e, hc]; exact h
/-- A part of a row is loaded where the order is open. -/
theorem yields_part {P : Program} {ops : Array Oper} {S : World → Prop} {o : Oper} {a : Act} (hw : Region.wanted o (yielded ops a.tmps) = true) (ty : TypeId) (x : Operand) (ho : o.op = .load ty x)
    (g off n : Nat) (hx : a.eval x = .pointer (some ⟨g, off, none⟩)) {t : TypeId} {cs : Array Value} {d : TypeDesc} (hS : ∀ w, S w → Row w g t cs)
    (hu : P.underlying ty = some d) (hd : (match d with | .struct _ | .array _ _ => true | _ => false) = true) (hi : (P.info? ty).map (·.size) = some n) (hle : off + n ≤ cs.size) (ds : Array Value) (hds : cs.extract off (off + n) = ds) : YieldsIf P ops S o (.agg ds) a :=
  .inl ⟨hw, fun w hs => by
    have hg := hS w hs
    have hlen : (cs.extract off (off + n)).toList.length = n := by rw [Array.length_toList, Array.size_extract]; omega
    have hl : (loadCells ⟨g, off, none⟩ (cs.extract off (off + n)).toList.length).run P w = .ok (cs.extract off (off + n)).toList.toArray w :=
      run_loadCells_list (P := P) w ⟨g, off, none⟩ (cs.extract off (off + n)).toList (fun j v hv => by
        have hadd : (⟨g, off, none⟩ : Addr).add j = ⟨g, off + j, none⟩ := by unfold Addr.add; split <;> simp_all
        rw [hadd, hg.cell]
        rw [Array.getElem?_toList] at hv
        rw [Array.getElem?_extract] at hv
        split at hv
        · exact hv
        · cases hv)
    rw [hlen, Array.toArray_toList, hds] at hl
    have hagg : (isAgg ty).run P w = .ok true w := by
      unfold isAgg
      rw [Sem.run_bind, run_underlying hu w]
      cases d <;> simp_all
    have hv : (loadVar ty ⟨g, off, none⟩).run P w = .ok (.agg ds) w := by
      cases hq : P.info? ty with
      | none => simp [hq] at hi
      | some i =>
        have hs : i.size = n := by simpa [hq] using hi
        simp [loadVar, Sem.run_bind, hagg, sizeOf, typeInfo, hq, hs, hl]
    unfold execOp
    simp only [ho, hx, Instr.loadAt, Instr.sureAddr, Sem.run_bind, Sem.run_pure, Result.andThen_ok, hv]⟩
end Go.Proofs.Ytdfcnodlddeccaa
