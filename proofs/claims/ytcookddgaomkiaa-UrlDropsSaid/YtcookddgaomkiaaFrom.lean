/- The walks of From and Groups. -/
import Derived.Test.YtcookddgaomkiaaRow
import Derived.RegionTactic
import Derived.BigRegion
import Derived.IntWalk
import Derived.Laws.BitsAllLaws
namespace Go.Proofs.Ytcookddgaomkiaa
open Go.RowKit
namespace Adr
theorem or_parts (n a b : Nat) (hb : b < 2 ^ n) : a * 2 ^ n ||| b = a * 2 ^ n + b := by
  rw [Nat.mul_comm]; exact (Nat.two_pow_add_eq_or_of_lt hb a).symm
theorem or_mk (a b : UInt8) : bits .or .u16 ((a.toNat : Int) * 256) (b.toNat : Int) = ((mk a b).toNat : Int) := by
  have h1 := a.toNat_lt
  have h2 := b.toNat_lt
  rw [show (a.toNat : Int) * 256 = ((a.toNat * 256 : Nat) : Int) by omega, u16_or_nat _ _ (by omega) (by omega), mk_toNat]
  have := or_parts 8 a.toNat b.toNat (by omega)
  exact congrArg Int.ofNat this
end Adr
set_option maxHeartbeats 1000000 in
theorem from_calls (g : List UInt16) (hg : g.length = 8) (w : World) :
    Calls Try.prog 67 #[.agg (wordsA g)] w fun e w' => e = .returned (.agg (bytesA (Adr.from_ g))) ∧ Below w.heap.size w w' := by
  have HG := Lib.hid hg
  have hf16 := Adr.from_length g
  have HF := Lib.hid (show (Adr.from_ g).length = 16 by omega)
  clear hf16 hg
  go_enter Try.func67, Try.ntmps67
  go_wp2
  rw [← zeroBytes]
  go_loopw [5] (fun i wr => ∃ k : Nat, k ≤ 8 ∧ i = .int .i64 k ∧ Row wr w.heap.size 82 (wordsA g) ∧ Row wr (w.heap.size + 1) 23 (bytesA (List.replicate 16 0)) ∧ Row wr (w.heap.size + 1 + 1) 23 (bytesA (Adr.fill (Adr.from_ g) 0 16 (2 * k))) ∧ Below w.heap.size w wr) (fun i _ => 8 - (intOf i).toNat)
  case atStart =>
    refine ⟨0, Nat.zero_le _, rfl, ?_, ?_, ?_, ?_⟩
    · exact ((Row.new _ _ _).alloc _).alloc _
    · have := ((Row.new (w.alloc (.cells (wordsA g) 82)) 23 (bytesA (List.replicate 16 0))).alloc (.cells (bytesA (List.replicate 16 0)) 23))
      simpa using this
    · have := (Row.new ((w.alloc (.cells (wordsA g) 82)).alloc (.cells (bytesA (List.replicate 16 0)) 23)) 23 (bytesA (List.replicate 16 0)))
      rw [Nat.mul_zero, Adr.fill_zero]
      simpa using this
    · exact (((Below.refl _ _).alloc (Nat.le_refl _) _).alloc (by simp) _).alloc (by simp; omega) _
  case round =>
    obtain ⟨k, hk, rfl, r0, r1, r2, hb⟩ := hrel
    by_cases hlt : k < 8
    · obtain ⟨x, hx⟩ : ∃ x, g[k]? = some x := ⟨_, List.getElem?_eq_getElem (by rw [HG.out]; exact hlt)⟩
      have hat := Adr.from_at g k x hx
      have HX := Lib.hid hx
      have HA := Lib.hid hat
      have c0 : wr.cell? ⟨w.heap.size, k, none⟩ = some (.int .u16 (x.toNat : Int)) := by rw [r0.cell, wordsA_at, hx]; rfl
      have hl2 := Adr.fill_length (z := (0 : UInt8)) (n := 16) (k := 2 * k) HF.out (by omega)
      obtain ⟨u1, c1⟩ : ∃ u, wr.cell? ⟨w.heap.size + 1 + 1, 2 * k, none⟩ = some u := ⟨_, by rw [r2.cell]; exact Array.getElem?_eq_getElem (by rw [bytesA_size, hl2]; omega)⟩
      obtain ⟨u2, c2⟩ : ∃ u, wr.cell? ⟨w.heap.size + 1 + 1, 2 * k + 1, none⟩ = some u := ⟨_, by rw [r2.cell]; exact Array.getElem?_eq_getElem (by rw [bytesA_size, hl2]; omega)⟩
      have f1 := r2.free (2 * k)
      have f2 := r2.free (2 * k + 1)
      have e1 : ((2 : Int) * (k : Int)).toNat = 2 * k := by omega
      have e2 : ((2 : Int) * (k : Int) + 1).toNat = 2 * k + 1 := by omega
      have hx1 := Adr.u16_lt x
      clear hl2 hx hat
      go_wp2
      go_region
      all_goals
        have R : Row ((wr.setCell ⟨w.heap.size + 1 + 1, 2 * k, none⟩ (.int .u8 ((x.toNat : Int) / 256))).setCell ⟨w.heap.size + 1 + 1, 2 * k + 1, none⟩ (.int .u8 ((x.toNat : Int) % 256))).drew (w.heap.size + 1 + 1) 23 (bytesA (Adr.fill (Adr.from_ g) 0 16 (2 * (k + 1)))) := by
          have h1 : Value.int .u8 ((x.toNat : Int) / 256) = byteV (Adr.hi x) := by unfold byteV; rw [Adr.hi_toNat]; exact val_int (by omega)
          have h2 : Value.int .u8 ((x.toNat : Int) % 256) = byteV (Adr.lo x) := by unfold byteV; rw [Adr.lo_toNat]; exact val_int (by omega)
          have R := (r2.set (2 * k) (byteV (Adr.hi x))).set (2 * k + 1) (byteV (Adr.lo x))
          rw [bytesA_set, bytesA_set, Adr.fill_set HF.out (by omega) HA.out.1, Adr.fill_set HF.out (by omega) HA.out.2] at R
          rw [h1, h2]
          exact R
        have B := ((hb.setCell (p := ⟨w.heap.size + 1 + 1, 2 * k, none⟩) (by simp; omega) (.int .u8 ((x.toNat : Int) / 256))).setCell (p := ⟨w.heap.size + 1 + 1, 2 * k + 1, none⟩) (by simp; omega) (.int .u8 ((x.toNat : Int) % 256))).drew
        have R0 := ((r0.other (p := ⟨w.heap.size + 1 + 1, 2 * k, none⟩) (by simp; omega) (.int .u8 ((x.toNat : Int) / 256))).other (p := ⟨w.heap.size + 1 + 1, 2 * k + 1, none⟩) (by simp; omega) (.int .u8 ((x.toNat : Int) % 256))).drew
        have R1 := ((r1.other (p := ⟨w.heap.size + 1 + 1, 2 * k, none⟩) (by simp) (.int .u8 ((x.toNat : Int) / 256))).other (p := ⟨w.heap.size + 1 + 1, 2 * k + 1, none⟩) (by simp) (.int .u8 ((x.toNat : Int) % 256))).drew
        clear r0 r1 r2 hb c0 c1 c2 f1 f2 e1 e2
        go_wp2
        go_roundw
        case rel => exact ⟨k + 1, by omega, by go_num, R0, R1, R, B⟩
        case measure => simp [intOf]; omega
    · have h8 : k = 8 := by omega
      subst h8
      rw [Adr.fill_end HF.out] at r2
      have B := below_setRow hb (g := w.heap.size + 1) (by omega) (bytesA (Adr.from_ g))
      have R := r1.whole (bytesA (Adr.from_ g))
      have HN := Lib.hid (show (bytesA (Adr.from_ g)).size = 16 by rw [bytesA_size, HF.out])
      go_wp2_with (first
        | (refine wpList_load_row rfl 23 _ rfl (w.heap.size + 1 + 1) rfl 23 _ (0, 0) _ r2 Try.underlying23 rfl (by rw [HN.out]; exact infoAddr) ?_)
        | (refine wpList_store_row rfl 23 _ _ rfl (w.heap.size + 1) _ rfl rfl 23 _ r1 (by rw [HN.out]; exact infoAddr) (by rw [HN.out]; rfl) (bytesA_one _) ?_))
      exact bodyPost_ret (v := .agg (bytesA (Adr.from_ g))) (results_cell_row rfl _ _ _ _ _ _ _ rfl R Try.underlying23 rfl (by rw [HN.out]; exact infoAddr)) rfl ⟨rfl, B⟩

end Go.Proofs.Ytcookddgaomkiaa
