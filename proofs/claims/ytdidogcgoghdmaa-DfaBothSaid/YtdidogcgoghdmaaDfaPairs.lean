/- The walk of what makes an automaton of two: of those that can't be. -/
import Derived.Test.YtdidogcgoghdmaaDfaLeave
import Derived.Test.YtdidogcgoghdmaaDfaMore
namespace Go.Proofs.Ytdidogcgoghdmaa
open Go.RowKit Go.Maps
theorem row_next3 {w : World} {o o' o2 : Obj} {t : TypeId} {cs : Array Value} {g : Nat} (h : (((w.alloc o).alloc o').alloc o2).heap.size = g) : Row ((((w.alloc o).alloc o').alloc o2).alloc (.cells cs t)) g t cs := by
  rw [← h]; exact Row.new _ _ _
set_option maxRecDepth 100000 in
set_option maxHeartbeats 8000000 in
theorem pairs_no (va vb cl : Value) (da db : Au.Dv) (w : World) (ha : Auto w va da) (hb : Auto w vb db) (hno : ¬ (Au.Ok da ∧ Au.Ok db ∧ da.k = db.k)) :
    Calls Try.prog 36 #[va, vb, cl] w (NewAuto w Au.Dv.zero 151) := by
  have HRA := Lib.hid (fun V W h => dright_calls V da W h)
  have HRB := Lib.hid (fun V W h => dright_calls V db W h)
  have HVA := Lib.hid ha
  have HVB := Lib.hid hb
  have HPost : Hid (∀ w', Below w.heap.size w w' → NewAuto w Au.Dv.zero 151 (.returned (.tuple #[.agg zeroD, .int .i64 151])) w') := Lib.hid (fun w' h => ⟨_, rfl, zero_auto w', h⟩)
  generalize NewAuto w Au.Dv.zero 151 = post at *
  obtain ⟨A, c, A', c', rfl, _, _⟩ := ha.parts
  obtain ⟨E, e, E', e', rfl, _, _⟩ := hb.parts
  have HNO := Lib.hid hno
  clear ha hb hno
  generalize da.next.length = m at *
  generalize da.acc.length = n at *
  generalize da.k = k at *
  generalize da.start = s at *
  generalize db.next.length = m2 at *
  generalize db.acc.length = n2 at *
  generalize db.k = k2 at *
  generalize db.start = s2 at *
  obtain ⟨oA, hA⟩ : ∃ o, o = Obj.cells #[.int .i64 k, .int .i64 s, .slice A m c, .slice A' n c'] 25 := ⟨_, rfl⟩
  obtain ⟨oB, hB⟩ : ∃ o, o = Obj.cells #[.int .i64 k2, .int .i64 s2, .slice E m2 e, .slice E' n2 e'] 25 := ⟨_, rfl⟩
  have C0 := (((Below.refl w.heap.size w).alloc (Nat.le_refl _) oA).alloc (by simp) oB).alloc (by simp; omega) (.cells zeroD 25)
  have RA : Row (((w.alloc oA).alloc oB).alloc (.cells zeroD 25)) w.heap.size 25 #[.int .i64 k, .int .i64 s, .slice A m c, .slice A' n c'] := by rw [hA]; exact ((Row.new w _ _).alloc _).alloc _
  have RB : Row (((w.alloc oA).alloc oB).alloc (.cells zeroD 25)) (w.heap.size + 1) 25 #[.int .i64 k2, .int .i64 s2, .slice E m2 e, .slice E' n2 e'] := by rw [hB]; exact (row_next (by simp)).alloc _
  have RZ : Row (((w.alloc oA).alloc oB).alloc (.cells zeroD 25)) (w.heap.size + 1 + 1) 25 zeroD := row_next2 (by simp)
  rw [hA, hB] at C0 RA RB RZ
  clear hA hB
  cases hra : da.right with
  | false =>
    rw [hra] at HRA
    go_enter Try.func36, Try.ntmps36
    go_wp2_with (first
      | (go_at_call 16; refine (HRA.out _ _ (HVA.out.later C0 (Nat.le_refl _))).mono ?_; rintro e w1 ⟨rfl, hb⟩; have R1 := RZ.stays hb)
      | (refine wpList_store_row rfl 25 _ _ rfl (w.heap.size + 1 + 1) zeroD rfl rfl 25 _ R1 infoDfa rfl zeroD_one ?_))
    exact bodyPost_ret (v := .tuple #[.agg zeroD, .int .i64 151]) (results_cell_two rfl _ _ (w.heap.size + 1 + 1) _ _ _ rfl _ rfl (R1.whole _) Try.underlying25 rfl infoDfa) rfl (HPost.out _ (below_setRow (C0.trans (hb.mono C0.size)) (by omega) _))
  | true =>
  rw [hra] at HRA
  cases hrb : db.right with
  | false =>
    rw [hrb] at HRB
    go_enter Try.func36, Try.ntmps36
    go_wp2_with fail
    refine (HRA.out _ _ (HVA.out.later C0 (Nat.le_refl _))).mono ?_
    rintro e w1 ⟨rfl, hb⟩
    have D1 := C0.trans (hb.mono C0.size)
    have R1 := RZ.stays hb
    have A1 := RA.stays hb
    have B1 := RB.stays hb
    clear hb C0 RZ RA RB
    go_wp2_with (refine at_slot 15 rfl ?_; refine load_row rfl 25 _ rfl (w.heap.size + 1) rfl B1 Try.underlying25 rfl infoDfa ?_)
    refine (HRB.out _ _ (HVB.out.later D1 (Nat.le_refl _))).mono ?_
    rintro e w2 ⟨rfl, hb2⟩
    have D2 := D1.trans (hb2.mono D1.size)
    have R2 := R1.stays hb2
    have a0 := (A1.stays hb2).cell 0
    have b0 := (B1.stays hb2).cell 0
    clear hb2 D1 R1 A1 B1
    go_wp2_with (refine wpList_store_row rfl 25 _ _ rfl (w.heap.size + 1 + 1) zeroD rfl rfl 25 _ R2 infoDfa rfl zeroD_one ?_)
    exact bodyPost_ret (v := .tuple #[.agg zeroD, .int .i64 151]) (results_cell_two rfl _ _ (w.heap.size + 1 + 1) _ _ _ rfl _ rfl (R2.whole _) Try.underlying25 rfl infoDfa) rfl (HPost.out _ (below_setRow D2 (by omega) _))
  | true =>
    rw [hrb] at HRB
    have hkk : (k != k2) = true := by
      rw [bne_iff_ne]
      intro e
      exact HNO.out ⟨Au.ok_of hra, Au.ok_of hrb, e⟩
    clear hra hrb
    go_enter Try.func36, Try.ntmps36
    go_wp2_with fail
    refine (HRA.out _ _ (HVA.out.later C0 (Nat.le_refl _))).mono ?_
    rintro e w1 ⟨rfl, hb⟩
    have D1 := C0.trans (hb.mono C0.size)
    have R1 := RZ.stays hb
    have A1 := RA.stays hb
    have B1 := RB.stays hb
    clear hb C0 RZ RA RB
    go_wp2_with (refine at_slot 15 rfl ?_; refine load_row rfl 25 _ rfl (w.heap.size + 1) rfl B1 Try.underlying25 rfl infoDfa ?_)
    refine (HRB.out _ _ (HVB.out.later D1 (Nat.le_refl _))).mono ?_
    rintro e w2 ⟨rfl, hb2⟩
    have D2 := D1.trans (hb2.mono D1.size)
    have R2 := R1.stays hb2
    have a0 := (A1.stays hb2).cell 0
    have b0 := (B1.stays hb2).cell 0
    clear hb2 D1 R1 A1 B1
    go_wp2_with (refine wpList_store_row rfl 25 _ _ rfl (w.heap.size + 1 + 1) zeroD rfl rfl 25 _ R2 infoDfa rfl zeroD_one ?_)
    exact bodyPost_ret (v := .tuple #[.agg zeroD, .int .i64 151]) (results_cell_two rfl _ _ (w.heap.size + 1 + 1) _ _ _ rfl _ rfl (R2.whole _) Try.underlying25 rfl infoDfa) rfl (HPost.out _ (below_setRow D2 (by omega) _))
end Go.Proofs.Ytdidogcgoghdmaa
