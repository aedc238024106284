/- The walk of Text4. -/
import Derived.Test.YtcookddgaomkiaaGreatDoorRowText
namespace Go.Proofs.YtcookddgaomkiaaGreatDoor
open Go.RowKit
theorem lenAddr : Tryz.prog.arrayLen 23 = 16 := by kernel_rfl
theorem elemAddr : Tryz.prog.elem 23 = 5 := by kernel_rfl
theorem slice_addr (g : Nat) (W : World) :
    (Instr.sliceAt 23 (.pointer (some ⟨g, 0, none⟩)) (some (.int .i64 12)) none none).run Tryz.prog W = .ok (.slice (some ⟨g, 12, none⟩) 4 4) W := by
  have ht : Tryz.prog.underlying 23 = some (.array (Tryz.prog.arrayLen 23) (Tryz.prog.elem 23)) := by rw [lenAddr, elemAddr]; exact Tryz.underlying23
  rw [run_sliceAt_array_l W 23 ⟨g, 0, none⟩ ht .i64 12 (by omega) (by rw [lenAddr]; omega), elemAddr]
  have hs : (sizeOf 5).run Tryz.prog W = .ok 1 W := by kernel_rfl
  rw [hs, Result.andThen_ok, lenAddr, slicedAt, if_neg (by omega), Addr.add_mid]
  rfl

set_option maxHeartbeats 1000000 in
theorem text4_calls (a : List UInt8) (ha : a.length = 16) (w : World) (hw : Std w) :
    Calls Tryz.prog 28 #[.agg (bytesA a)] w fun e w' => e = .returned (.string ⟨(Adr.tx4 (a.drop 12)).toArray⟩) ∧ Below w.heap.size w w' := by
  have HL := Lib.hid ha
  have hl4 : (a.drop 12).length = 4 := by rw [List.length_drop, ha]
  obtain ⟨ts, hts⟩ : ∃ ts, ts = (a.drop 12).map fun c => Lib.decDigits c.toNat := ⟨_, rfl⟩
  have hl : ts.length = 4 := by rw [hts, List.length_map, hl4]
  have HTS := Lib.hid hts
  have HSM := Lib.hid (show ∀ p ∈ ts, p.length ≤ 3 by rw [hts]; exact Adr.decs_small _)
  have HN := Lib.hid hl
  have HR := Lib.hid (show Lib.join ts [46] = Adr.tx4 (a.drop 12) by rw [hts]; rfl)
  clear hts hl hl4 ha
  go_enter Tryz.func28, Tryz.ntmps28
  have hsl := slice_addr w.heap.size
  have hmk : ∀ W, (Instr.makeSlice 59 (.int .i64 4) (.int .i64 4)).run Tryz.prog W = .ok (.slice (some ⟨W.heap.size, 0, none⟩) 4 4) (W.alloc (.cells (textsA (Adr.fill ts [] 4 0)) 9)) := fun W => by
    have := make_texts 4 (by omega) W
    rw [← Adr.fill_zero ts] at this
    exact this
  go_wp2
  have T0 := Row.new (w.alloc (.cells (bytesA a) 23)) 9 (textsA (Adr.fill ts [] 4 0))
  have R0 := (Row.new w 23 (bytesA a)).alloc (.cells (textsA (Adr.fill ts [] 4 0)) 9)
  have B0 := ((Below.refl w.heap.size w).alloc (Nat.le_refl _) (.cells (bytesA a) 23)).alloc (by simp) (.cells (textsA (Adr.fill ts [] 4 0)) 9)
  have H0 := hw.below B0
  have eN : (w.alloc (.cells (bytesA a) 23)).heap.size = w.heap.size + 1 := by simp
  rw [eN] at T0
  clear hmk hsl eN
  generalize hN : w.heap.size + 1 = N at *
  have sN : w.heap.size < N := by omega
  clear hN
  go_loopw [8] (fun i wr => ∃ k : Nat, k ≤ 4 ∧ i = .int .i64 k ∧ Row wr N 9 (textsA (Adr.fill ts [] 4 k)) ∧ Row wr w.heap.size 23 (bytesA a) ∧ Std wr ∧ Below w.heap.size w wr) (fun i _ => 4 - (intOf i).toNat)
  case atStart => exact ⟨0, Nat.zero_le _, rfl, T0, R0, H0, B0⟩
  case round =>
    clear T0 R0 H0 B0
    obtain ⟨k, hk, rfl, T, R, H, hb⟩ := hrel
    by_cases hlt : k < 4
    · obtain ⟨x, hx⟩ : ∃ x, (a.drop 12)[k]? = some x := ⟨_, List.getElem?_eq_getElem (by rw [List.length_drop, HL.out]; omega)⟩
      have c0 : wr.cell? ⟨w.heap.size, 12 + k, none⟩ = some (.int .u8 (x.toNat : Int)) := by
        rw [R.cell, bytesA_at, ← List.getElem?_drop, hx]; rfl
      have hx1 := x.toNat_lt
      have HC := Lib.hid (itoa_calls x.toNat wr H (by omega))
      have HX := Lib.hid (show ts[k]? = some (Lib.decDigits x.toNat) by rw [HTS.out, List.getElem?_map, hx]; rfl)
      have HF := Lib.hid (Adr.fill_length (z := ([] : List UInt8)) (k := k) HN.out hk)
      clear hx
      go_wp2_with (go_at_call 16; refine HC.out.mono ?_; rintro e w2 ⟨rfl, b2⟩; have T2 := T.stays b2; have R2 := R.stays b2; have B2 := hb.trans (b2.mono hb.size); have s2 := B2.size; obtain ⟨u1, c1⟩ : ∃ u, w2.cell? ⟨N, k, none⟩ = some u := ⟨_, by rw [T2.cell]; exact Array.getElem?_eq_getElem (by rw [textsA_size, HF.out]; exact hlt)⟩; have f1 := T2.free k)
      have T3 := T2.set k (strV (Lib.decDigits x.toNat))
      rw [textsA_set, Adr.fill_set HN.out hlt HX.out] at T3
      have R3 := R2.other (p := ⟨N, k, none⟩) (by simp; omega) (strV (Lib.decDigits x.toNat))
      have B3 := B2.setCell (p := ⟨N, k, none⟩) (by simp; omega) (strV (Lib.decDigits x.toNat))
      have H3 := hw.below B3
      go_roundw
      case rel => exact ⟨k + 1, by omega, by go_num, T3, R3, H3, B3⟩
      case measure => simp [intOf]; omega
    · have hkk : k = 4 := by omega
      subst hkk
      rw [Adr.fill_end HN.out] at T
      have HJ := Lib.hid (join_calls ts 46 N wr T 3 HSM.out (by omega) (by rw [HN.out]; omega))
      rw [HN.out, HR.out] at HJ
      go_wp2_with (go_at_call 51; refine HJ.out.mono ?_; rintro e w2 ⟨rfl, b2⟩)
      go_ret
      exact ⟨rfl, hb.trans (b2.mono hb.size)⟩
end Go.Proofs.YtcookddgaomkiaaGreatDoor
