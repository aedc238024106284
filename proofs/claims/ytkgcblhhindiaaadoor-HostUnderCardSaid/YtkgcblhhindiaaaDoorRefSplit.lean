/- The walk of the reference's Split. -/
import Derived.Test.YtkgcblhhindiaaaDoorSplit
namespace Go.Proofs.YtkgcblhhindiaaaDoor
open Go.RowKit
set_option maxHeartbeats 1000000 in
theorem refSplit_calls (s : ByteArray) (at_ : UInt8) (w : World) (hs : s.size ≤ 1099511627776) :
    Calls Tryd.prog 23 #[.string s, .int .u8 (at_.toNat : Int)] w (NewTexts w.heap.size (Oct.split at_ s.data.toList) w) := by
  obtain ⟨i0, hi, hz0, hz1, hz2⟩ := info_parts infoStr
  go_enter Tryd.func23, Tryd.ntmps23
  go_wp2
  go_loopw [5, 6, 7] (fun v f i wr => ∃ (k from_ : Nat) (done : List (List UInt8)), k ≤ s.size ∧ i = .int .i64 k ∧ f = .int .i64 from_ ∧ Oct.Cut at_ s.data.toList k done from_ ∧ wr.ownsRow w.heap.size 9 1 v done.length (done.map strV) ∧ Below w.heap.size w wr) (fun _ _ i _ => s.size - (intOf i).toNat)
  case atStart => exact ⟨0, 0, [], Nat.zero_le _, rfl, rfl, Oct.Cut.start _ _, World.ownsRow_made w #[] 0 (Nat.le_refl _) (Nat.zero_le _) rfl, (Below.refl _ _).alloc (Nat.le_refl _) _⟩
  case round =>
    obtain ⟨k, from_, done, hk, rfl, rfl, hcut, hown, hb⟩ := hrel
    have hfk := hcut.le
    have hfew := hcut.few
    by_cases hlt : k < s.size
    · by_cases h1 : s[k] = at_
      · have h2 : ((s[k].toNat : Int) == (at_.toNat : Int)) = true := by rw [h1]; simp
        go_wp2_with (at_builtin; refine wpList_append_own _ rfl _ _ 36 rfl w.heap.size 9 i0 (.string ⟨#[]⟩) 1 16 Tryd.underlying36 hi hz0 hz1 hz2 rfl (by decide) _ _ _ rfl (hown.alloc _) ⟨wr.heap.size, 0, none⟩ 1 1 [.string (s.extract from_ k)] rfl rfl (cell_one_new _ _ _) ?c1a ?c1b ?c1c ?c1d ?_)
        case c1a => intro u hu; simp at hu; subst hu; rfl
        case c1b => simp only [maxLen]; omega
        case c1c => omega
        case c1d => have := hb.size; simp; omega
        · intro v' w1 hown' hgrow _
          have R := own_snoc (strV_extract s from_ k) hown'
          have B := hb.trans (((Below.refl _ wr).alloc hb.size _).grown hgrow (by have := hb.size; simp; omega) (fun g hg => (hown.lt g hg).1))
          clear hown' hgrow hown
          go_wp2
          go_roundw
          case rel => exact ⟨k + 1, k + 1, _, by omega, by go_num, by go_num, hcut.hit (by rw [Oct.length_bytes]; exact hlt) h1, R, B⟩
          case measure => simp [intOf]; omega
      · have h2 : ((s[k].toNat : Int) == (at_.toNat : Int)) = false := by
          rw [beq_eq_false_iff_ne]; intro e; exact h1 (Oct.eq_of_toNat (by omega))
        go_wp2
        go_roundw
        case rel => exact ⟨k + 1, from_, done, by omega, by go_num, rfl, hcut.miss (by rw [Oct.length_bytes]; exact hlt) h1, hown, hb⟩
        case measure => simp [intOf]; omega
    · go_wp2_with (at_builtin; refine wpList_append_own _ rfl _ _ 36 rfl w.heap.size 9 i0 (.string ⟨#[]⟩) 1 16 Tryd.underlying36 hi hz0 hz1 hz2 rfl (by decide) _ _ _ rfl (hown.alloc _) ⟨wr.heap.size, 0, none⟩ 1 1 [.string (s.extract from_ s.size)] rfl rfl (cell_one_new _ _ _) ?c2a ?c2b ?c2c ?c2d ?_)
      case c2a => intro u hu; simp at hu; subst hu; rfl
      case c2b => simp only [maxLen]; omega
      case c2c => omega
      case c2d => have := hb.size; simp; omega
      · intro v' w1 hown' hgrow _
        have R := own_snoc (strV_end s from_ s.size (Nat.le_refl _)) hown'
        have B := hb.trans (((Below.refl _ wr).alloc hb.size _).grown hgrow (by have := hb.size; simp; omega) (fun g hg => (hown.lt g hg).1))
        clear hown' hgrow hown
        have HC := Lib.hid (hcut.done (by rw [Oct.length_bytes]; omega))
        go_wp2
        go_ret
        exact ⟨_, rfl, by rw [HC.out]; exact R, B⟩
end Go.Proofs.YtkgcblhhindiaaaDoor
