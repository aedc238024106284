/- The walks of Trim, of octet and of the reference. -/
import Derived.Test.YtpimaobejjpffaaDoorOctets
import Derived.Test.YtpimaobejjpffaaDoorPlains
import Derived.Lib.IndexBytes
namespace Go.Proofs.YtpimaobejjpffaaDoor
open Go.RowKit

set_option maxRecDepth 100000 in
set_option maxHeartbeats 1000000 in
theorem trim_calls (s : ByteArray) (w : World) (hs : s.size ≤ maxLen) :
    Calls Tryd.prog 18 #[.string s] w fun e w' => e = .returned (.string ⟨(Oct.trim s.data.toList).toArray⟩) ∧ w = w' := by
  unfold maxLen at hs
  go_enter Tryd.func18, Tryd.ntmps18
  go_wp2
  go_loop [3] (fun i => ∃ k : Nat, k ≤ s.size ∧ i = .int .i64 k ∧ s.data.toList.dropWhile Oct.blankB = (s.data.toList.drop k).dropWhile Oct.blankB) (fun i => s.size - (intOf i).toNat)
  case atStart => exact ⟨0, Nat.zero_le _, rfl, by simp⟩
  case round =>
    obtain ⟨k, hk, rfl, hd⟩ := hrel
    have HD := Lib.hid hd
    clear hd
    have hor : (∃ h : k < s.size, Oct.blankB s[k] = true) ∨ ((∃ h : k < s.size, Oct.blankB s[k] = false) ∨ ¬ k < s.size) := by
      by_cases h : k < s.size
      · cases hb : Oct.blankB s[k]
        · exact .inr (.inl ⟨h, hb⟩)
        · exact .inl ⟨h, hb⟩
      · exact .inr (.inr h)
    rcases hor with ⟨hlt, hbk⟩ | hor
    · have HE := Lib.hid (HD.out.trans (Oct.drop_yes (by rw [Oct.length_bytes]; exact hlt) hbk))
      go_wp2_with (go_at_call 33; refine (blank_calls _ _).mono ?_; rintro e w' ⟨rfl, rfl⟩)
      go_round
      case rel => exact ⟨k + 1, by omega, by go_num, HE.out⟩
      case measure => simp [intOf]; omega
    · have HE : Hid (s.data.toList.dropWhile Oct.blankB = s.data.toList.drop k) := by
        refine Lib.hid (HD.out.trans ?_)
        rcases hor with ⟨hlt, hbk⟩ | hge
        · exact Oct.drop_no (by rw [Oct.length_bytes]; exact hlt) hbk
        · exact Oct.drop_end (by rw [Oct.length_bytes]; omega)
      rcases hor with ⟨hlt, hbk⟩ | hge
      all_goals
        go_wp2_with (go_at_call 33; refine (blank_calls _ _).mono ?_; rintro e w' ⟨rfl, rfl⟩)
        go_loop [4] (fun i => ∃ m : Nat, k ≤ m ∧ m ≤ s.size ∧ i = .int .i64 m ∧ Oct.chopEnd (s.data.toList.drop k) = Oct.chopEnd (Oct.mid s.data.toList k m)) (fun i => (intOf i).toNat)
        case atStart => exact ⟨s.size, hk, Nat.le_refl _, rfl, by rw [Oct.mid_all (by rw [Oct.length_bytes]; exact Nat.le_refl _)]⟩
        case round =>
          obtain ⟨m, hkm, hm, rfl, hc⟩ := hrel
          have HC := Lib.hid hc
          clear hc
          by_cases hkl : k < m
          · try (exfalso; omega)
            all_goals
              have hmm : ((m : Int) - 1).toNat = m - 1 := by omega
              have hm1 : m - 1 < s.size := by omega
              have HS := Lib.hid (Oct.mid_succ hkl (l := s.data.toList) (by rw [Oct.length_bytes]; exact hm))
              cases hb : Oct.blankB s[m - 1] with
              | true =>
                have HF := Lib.hid (show Oct.chopEnd (s.data.toList.drop k) = Oct.chopEnd (Oct.mid s.data.toList k (m - 1)) from by rw [HC.out, HS.out]; exact Oct.chopEnd_yes _ _ hb)
                go_wp2_with (go_at_call 33; refine (blank_calls _ _).mono ?_; rintro e w' ⟨rfl, rfl⟩)
                go_round
                case rel => exact ⟨m - 1, by omega, by omega, by go_num, HF.out⟩
                case measure => simp [intOf]; omega
              | false =>
                have HF := Lib.hid (show Oct.trim s.data.toList = Oct.mid s.data.toList k m from by unfold Oct.trim; rw [HE.out, HC.out, HS.out]; exact Oct.chopEnd_no _ _ hb)
                go_wp2_with (go_at_call 33; refine (blank_calls _ _).mono ?_; rintro e w' ⟨rfl, rfl⟩)
                go_ret
                exact ⟨ret_str (by rw [HF.out, Lib.extract_eq, Oct.mid]), rfl⟩
          · have HF := Lib.hid (show Oct.trim s.data.toList = Oct.mid s.data.toList k m from by unfold Oct.trim; rw [HE.out, HC.out, Oct.mid_none (by omega)]; rfl)
            go_wp2
            go_ret
            exact ⟨ret_str (by rw [HF.out, Lib.extract_eq, Oct.mid]), rfl⟩


end Go.Proofs.YtpimaobejjpffaaDoor
