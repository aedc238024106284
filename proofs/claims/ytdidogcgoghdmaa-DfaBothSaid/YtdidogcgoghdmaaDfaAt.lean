/- Automata in memory; whether one can be. -/
import Derived.Test.YtdidogcgoghdmaaInRow
import Derived.Test.YtdidogcgoghdmaaDfaPlain
import Derived.Test.YtdidogcgoghdmaaOctets
namespace Go.Proofs.Ytdidogcgoghdmaa
open Go.RowKit
def boolVs (l : List Bool) : List Value := l.map Value.bool
theorem boolVs_length (l : List Bool) : (boolVs l).length = l.length := List.length_map _
theorem boolVs_at {l : List Bool} {k : Nat} {b : Bool} (h : l[k]? = some b) : (boolVs l)[k]? = some (.bool b) := by unfold boolVs; rw [List.getElem?_map, h]; rfl
theorem boolVs_snoc (l : List Bool) (b : Bool) : boolVs (l ++ [b]) = boolVs l ++ [.bool b] := by unfold boolVs; rw [List.map_append]; rfl
theorem infoBool15 : (Try.prog.info? 4).map (fun i => (i.zero, i.size, i.bytes)) = some (some (.bool false), 1, 1) := by kernel_rfl
structure Bools (w : World) (v : Value) (l : List Bool) : Prop where
  row : InRow w v (boolVs l)
section
variable {w w' : World} {v : Value} {l : List Bool}
theorem Bools.stays (h : Bools w v l) (hb : Below w.heap.size w w') : Bools w' v l := ⟨h.row.stays hb⟩
theorem Bools.later {w0 : World} {B : Nat} (h : Bools w0 v l) (hb : Below B w0 w) (hB : w0.heap.size ≤ B) : Bools w v l := h.stays (hb.mono hB)
theorem bools_nil (w : World) : Bools w (.slice none 0 0) [] := ⟨inRow_nil w⟩
theorem bools_own {B n : Nat} (h : w.ownsRow B 4 1 v n (boolVs l)) : Bools w v l := ⟨inRow_own h⟩
theorem Bools.slice (h : Bools w v l) : ∃ A c, v = .slice A l.length c := by
  obtain ⟨A, c, hv⟩ := h.row.slice
  exact ⟨A, c, by rw [hv, boolVs_length]⟩
theorem Bools.at {A : Option Addr} {n c : Nat} (h : Bools w (.slice A n c) l) {k : Nat} {b : Bool} (hk : l[k]? = some b) : ∃ g off, A = some ⟨g, off, none⟩ ∧ w.cell? ⟨g, off + k, none⟩ = some (.bool b) := by
  obtain ⟨g, off, h1, _, h3⟩ := h.row.at (boolVs_at hk)
  exact ⟨g, off, h1, h3⟩
end
/-- An automaton in memory. -/
structure Auto (w : World) (v : Value) (d : Au.Dv) : Prop where
  val : ∃ nv av, v = .agg #[.int .i64 d.k, .int .i64 d.start, nv, av] ∧ Nums w nv d.next ∧ Bools w av d.acc
  kw : (Lit.int .i64 d.k).wf = true
  sw : (Lit.int .i64 d.start).wf = true
  n1 : d.next.length ≤ maxLen
  n2 : d.acc.length ≤ maxLen
theorem Auto.stays {w w' : World} {v : Value} {d : Au.Dv} (h : Auto w v d) (hb : Below w.heap.size w w') : Auto w' v d := by
  obtain ⟨nv, av, e, h1, h2⟩ := h.val
  exact ⟨⟨nv, av, e, h1.stays hb, h2.stays hb⟩, h.kw, h.sw, h.n1, h.n2⟩
theorem Auto.later {w0 w : World} {v : Value} {d : Au.Dv} {B : Nat} (h : Auto w0 v d) (hb : Below B w0 w) (hB : w0.heap.size ≤ B) : Auto w v d := h.stays (hb.mono hB)
/-- Taken apart. -/
theorem Auto.parts {w : World} {v : Value} {d : Au.Dv} (h : Auto w v d) : ∃ A c A' c', v = .agg #[.int .i64 d.k, .int .i64 d.start, .slice A d.next.length c, .slice A' d.acc.length c'] ∧ Hid (Nums w (.slice A d.next.length c) d.next) ∧ Hid (Bools w (.slice A' d.acc.length c') d.acc) := by
  obtain ⟨nv, av, e, h1, h2⟩ := h.val
  obtain ⟨A, c, rfl⟩ := h1.slice
  obtain ⟨A', c', rfl⟩ := h2.slice
  exact ⟨A, c, A', c', e, Lib.hid h1, Lib.hid h2⟩
theorem sound_auto {w : World} {f : Au.Fa} (h : Au.Sound f) {nv av : Value} (h1 : Nums w nv (Au.ofN f.next)) (h2 : Bools w av f.acc) : Auto w (.agg #[.int .i64 (f.k : Int), .int .i64 (f.start : Int), nv, av]) (Au.Dv.of f) := by
  have e1 := h.k2
  have e2 := h.n2
  have e3 := h.start
  have e4 : f.next.length ≤ 65536 * 512 := by rw [h.len]; exact Nat.mul_le_mul e2 e1
  refine ⟨⟨nv, av, rfl, h1, h2⟩, WalkArith.wf_i64 (by show -9223372036854775808 ≤ (f.k : Int) ∧ (f.k : Int) ≤ 9223372036854775807; omega), WalkArith.wf_i64 (by show -9223372036854775808 ≤ (f.start : Int) ∧ (f.start : Int) ≤ 9223372036854775807; omega), ?_, ?_⟩
  · show (Au.ofN f.next).length ≤ _
    rw [Au.ofN_length]; unfold maxLen; omega
  · show f.acc.length ≤ _
    unfold Au.Fa.n at e2
    unfold maxLen; omega
/-! ### Small ones -/
set_option maxHeartbeats 1000000 in
theorem rightK_calls (k : Int) (w : World) : Calls Try.prog 30 #[.int .i64 k] w fun e w' => e = .returned (.bool (decide (1 ≤ k ∧ k ≤ 512))) ∧ w' = w := by
  go_enter Try.func30, Try.ntmps30
  go_wp2
  all_goals
    go_ret
    exact ⟨ret_bool (by rw [Bool.eq_iff_iff]; simp; try omega), rfl⟩
set_option maxHeartbeats 1000000 in
theorem isSymbol_calls (k x : Int) (w : World) : Calls Try.prog 34 #[.int .i64 k, .int .i64 x] w fun e w' => e = .returned (.bool (Au.inK k x)) ∧ w' = w := by
  go_enter Try.func34, Try.ntmps34
  go_wp2
  all_goals
    go_ret
    exact ⟨ret_bool (by rw [Bool.eq_iff_iff, Au.inK_iff]; simp; try omega), rfl⟩
set_option maxHeartbeats 1000000 in
theorem isState_calls (n : Nat) (x : Int) (b : Nat) (w : World) (hc : w.cell? ⟨b, 0, none⟩ = some (.int .i64 (n : Int))) :
    Calls Try.prog 35 #[.int .i64 x, .pointer (some ⟨b, 0, none⟩)] w fun e w' => e = .returned (.bool (Au.inK n x)) ∧ w' = w := by
  go_enter Try.func35, Try.ntmps35
  go_wp2
  all_goals
    go_ret
    exact ⟨ret_bool (by rw [Bool.eq_iff_iff, Au.inK_iff]; simp; try omega), rfl⟩
end Go.Proofs.Ytdidogcgoghdmaa
