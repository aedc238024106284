/- The walk of noughts. -/
import Derived.Test.YtcookddgaomkiaaGreatDoorCells
import Derived.Test.YtcookddgaomkiaaGreatDoorPlains
namespace Go.Proofs.YtcookddgaomkiaaGreatDoor
open Go.RowKit
set_option maxHeartbeats 2000000 in
theorem noughts_calls (g : List UInt16) (hg : g.length = 8) (w : World) :
    Calls Tryz.prog 53 #[.agg (wordsA g)] w fun e w' => e = .returned (.tuple #[.int .i64 (Adr.nf g : Int), .int .i64 (Adr.nt g : Int)]) ∧ Below w.heap.size w w' := by
  have HG := Lib.hid hg
  clear hg
  have HF := Lib.hid (show (Adr.nst (Adr.zeros g) 8).1 = Adr.nf g from rfl)
  have HT := Lib.hid (show (Adr.nst (Adr.zeros g) 8).2.1 = Adr.nt g from rfl)
  go_enter Tryz.func53, Tryz.ntmps53
  go_wp2
  have R := Row.new w 69 (wordsA g)
  have B := (Below.refl w.heap.size w).alloc (Nat.le_refl _) (.cells (wordsA g) 69)
  generalize w.alloc (.cells (wordsA g) 69) = w0 at *
  go_loop [4, 5, 6, 9] (fun f t s i => ∃ k : Nat, k ≤ 8 ∧ i = .int .i64 k ∧ f = .int .i64 ((Adr.nst (Adr.zeros g) k).1 : Int) ∧ t = .int .i64 ((Adr.nst (Adr.zeros g) k).2.1 : Int) ∧ s = .int .i64 ((Adr.nst (Adr.zeros g) k).2.2 : Int)) (fun _ _ _ i => 8 - (intOf i).toNat)
  case atStart => exact ⟨0, Nat.zero_le _, rfl, rfl, rfl, rfl⟩
  case round =>
    obtain ⟨k, hk, rfl, rfl, rfl, rfl⟩ := hrel
    by_cases hlt : k < 8
    · obtain ⟨x, hx⟩ : ∃ x, g[k]? = some x := ⟨_, List.getElem?_eq_getElem (by rw [HG.out]; exact hlt)⟩
      have c0 : w0.cell? ⟨w.heap.size, k, none⟩ = some (.int .u16 (x.toNat : Int)) := by rw [R.cell, wordsA_at, hx]; rfl
      have hz := Adr.zeros_at hx
      have hb := Adr.nst_le (Adr.zeros g) k
      by_cases hx0 : x = 0
      · have h0 : ((x.toNat : Int) != 0) = false := by rw [hx0]; rfl
        have hzt : (Adr.zeros g).getD k false = true := by rw [hz]; exact decide_eq_true hx0
        by_cases h2 : 2 ≤ k + 1 - (Adr.nst (Adr.zeros g) k).2.2 ∧ (Adr.nst (Adr.zeros g) k).2.1 - (Adr.nst (Adr.zeros g) k).1 < k + 1 - (Adr.nst (Adr.zeros g) k).2.2
        · have HN := Lib.hid (Adr.nst_longer hzt h2)
          clear hx hz hx0 hzt
          generalize Adr.nst (Adr.zeros g) k = y at *
          obtain ⟨f, t, s⟩ := y
          try dsimp only at h2 hb
          obtain ⟨h2a, h2b⟩ := h2
          obtain ⟨hb1, hb2, hb3⟩ := hb
          have d1 : (2 : Int) ≤ (k : Int) + 1 - (s : Int) := by omega
          have d2 : (t : Int) - (f : Int) < (k : Int) + 1 - (s : Int) := by omega
          go_wp2
          go_round
          case rel => exact ⟨k + 1, by omega, by go_num, by rw [HN.out], by rw [HN.out]; go_num, by rw [HN.out]⟩
          case measure => simp [intOf]; omega
        · have HN := Lib.hid (Adr.nst_same hzt h2)
          clear hx hz hx0 hzt
          generalize Adr.nst (Adr.zeros g) k = y at *
          obtain ⟨f, t, s⟩ := y
          try dsimp only at h2 hb
          obtain ⟨hb1, hb2, hb3⟩ := hb
          have hor : (¬ (2 : Int) ≤ (k : Int) + 1 - (s : Int)) ∨ ((2 : Int) ≤ (k : Int) + 1 - (s : Int) ∧ ¬ (t : Int) - (f : Int) < (k : Int) + 1 - (s : Int)) := by omega
          clear h2
          rcases hor with d1 | ⟨d1, d2⟩
          all_goals
            go_wp2
            go_round
            case rel => exact ⟨k + 1, by omega, by go_num, by rw [HN.out], by rw [HN.out], by rw [HN.out]⟩
            case measure => simp [intOf]; omega
      · have h0 : ((x.toNat : Int) != 0) = true := by
          rw [bne_iff_ne]; intro e; exact hx0 (Adr.eq_of_toNat16 (by show x.toNat = 0; omega))
        have hzt : (Adr.zeros g).getD k false = false := by rw [hz]; exact decide_eq_false hx0
        have HN := Lib.hid (Adr.nst_other hzt)
        clear hx hz hx0 hzt
        go_wp2
        go_round
        case rel => exact ⟨k + 1, by omega, by go_num, by rw [HN.out], by rw [HN.out], by rw [HN.out]; go_num⟩
        case measure => simp [intOf]; omega
    · have hkk : k = 8 := by omega
      subst hkk
      go_wp2
      go_ret2
      exact ⟨ret_two (val_int (by rw [HF.out])) (val_int (by rw [HT.out])), B⟩
end Go.Proofs.YtcookddgaomkiaaGreatDoor
