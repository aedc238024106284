/- The walks of Trim, of octet and of the reference. -/
import Derived.Test.YtpimaobejjpffaaGreatDoorOctets
import Derived.Test.YtpimaobejjpffaaGreatDoorPlains
import Derived.Lib.IndexBytes
namespace Go.Proofs.YtpimaobejjpffaaGreatDoor
open Go.RowKit

set_option maxRecDepth 100000 in
set_option maxHeartbeats 1000000 in
theorem trim_calls (s : ByteArray) (w : World) (hs : s.size ≤ maxLen) :
    Calls Tryz.prog 24 #[.string s] w fun e w' => e = .returned (.string ⟨(Oct.trim s.data.toList).toArray⟩) ∧ w = w' := by
  unfold maxLen at hs
  go_enter Tryz.func24, Tryz.ntmps24
  go_wp2
  go_loop [3] (fun i => ∃ k : Nat, k ≤ s.size ∧ i = .int .i64 k ∧ s.data.toList.dropWhile Oct.blankB = (s.data.toList.drop k).dropWhile Oct.blankB) (fun i => s.size - (intOf i).toNat)
  case atStart => exact ⟨0, Nat.zero_le _, rfl, by simp⟩
  case round =>
    obtain ⟨k, hk, rfl, hd⟩ := hrel
    have HD := Lib.hid hd
    clear hd
    have hor : (∃ h : k < s.size, Oct.blankB s[k] = true) ∨ ((∃ h : k < s.size, Oct.blankB s[k] = false) ∨ ¬ k < s.size) := by
      by_cases h : k < s.size
      · cases hb : Oct.blankB s[k]
        · exact .inr (.inl ⟨h, hb⟩)
        · exact .inl ⟨h, hb⟩
      · exact .inr (.inr h)
    rcases hor with ⟨hlt, hbk⟩ | hor
    · have HE := Lib.hid (HD.out.trans (Oct.drop_yes (by rw [Oct.length_bytes]; exact hlt) hbk))
      go_wp2_with (go_at_call 48; refine (blank_calls _ _).mono ?_; rintro e w' ⟨rfl, rfl⟩)
      go_round
      case rel => exact ⟨k + 1, by omega, by go_num, HE.out⟩
      case measure => simp [intOf]; omega
    · have HE : Hid (s.data.toList.dropWhile Oct.blankB = s.data.toList.drop k) := by
        refine Lib.hid (HD.out.trans ?_)
        rcases hor with ⟨hlt, hbk⟩ | hge
        · exact Oct.drop_no (by rw [Oct.length_bytes]; exact hlt) hbk
        · exact Oct.drop_end (by rw [Oct.length_bytes]; omega)
      rcases hor with ⟨hlt, hbk⟩ | hge
      all_goals
        go_wp2_with (go_at_call 48; refine (blank_calls _ _).mono ?_; rintro e w' ⟨rfl, rfl⟩)
        go_loop [4] (fun i => ∃ m : Nat, k ≤ m ∧ m ≤ s.size ∧ i = .int .i64 m ∧ Oct.chopEnd (s.data.toList.drop k) = Oct.chopEnd (Oct.mid s.data.toList k m)) (fun i => (intOf i).toNat)
        case atStart => exact ⟨s.size, hk, Nat.le_refl _, rfl, by rw [Oct.mid_all (by rw [Oct.length_bytes]; exact Nat.le_refl _)]⟩
        case round =>
          obtain ⟨m, hkm, hm, rfl, hc⟩ := hrel
          have HC := Lib.hid hc
          clear hc
          by_cases hkl : k < m
          · try (exfalso; omega)
            all_goals
              have hmm : ((m : Int) - 1).toNat = m - 1 := by omega
              have hm1 : m - 1 < s.size := by omega
              have HS := Lib.hid (Oct.mid_succ hkl (l := s.data.toList) (by rw [Oct.length_bytes]; exact hm))
              cases hb : Oct.blankB s[m - 1] with
              | true =>
                have HF := Lib.hid (show Oct.chopEnd (s.data.toList.drop k) = Oct.chopEnd (Oct.mid s.data.toList k (m - 1)) from by rw [HC.out, HS.out]; exact Oct.chopEnd_yes _ _ hb)
                go_wp2_with (go_at_call 48; refine (blank_calls _ _).mono ?_; rintro e w' ⟨rfl, rfl⟩)
                go_round
                case rel => exact ⟨m - 1, by omega, by omega, by go_num, HF.out⟩
                case measure => simp [intOf]; omega
              | false =>
                have HF := Lib.hid (show Oct.trim s.data.toList = Oct.mid s.data.toList k m from by unfold Oct.trim; rw [HE.out, HC.out, HS.out]; exact Oct.chopEnd_no _ _ hb)
                go_wp2_with (go_at_call 48; refine (blank_calls _ _).mono ?_; rintro e w' ⟨rfl, rfl⟩)
                go_ret
                exact ⟨ret_str (by rw [HF.out, Lib.extract_eq, Oct.mid]), rfl⟩
          · have HF := Lib.hid (show Oct.trim s.data.toList = Oct.mid s.data.toList k m from by unfold Oct.trim; rw [HE.out, HC.out, Oct.mid_none (by omega)]; rfl)
            go_wp2
            go_ret
            exact ⟨ret_str (by rw [HF.out, Lib.extract_eq, Oct.mid]), rfl⟩


set_option maxRecDepth 100000 in
set_option maxHeartbeats 1000000 in
theorem refTrim_calls (s : ByteArray) (w : World) (hs : s.size ≤ maxLen) :
    Calls Tryz.prog 17 #[.string s] w fun e w' => e = .returned (.string ⟨(Oct.trim s.data.toList).toArray⟩) ∧ w = w' := by
  unfold maxLen at hs
  go_enter Tryz.func17, Tryz.ntmps17
  go_wp2
  go_loop [0] (fun v => ∃ u : ByteArray, v = .string u ∧ u.size ≤ s.size ∧ s.data.toList.dropWhile Oct.blankB = u.data.toList.dropWhile Oct.blankB) (fun v => match v with | .string u => u.size | _ => 0)
  case atStart => exact ⟨s, rfl, Nat.le_refl _, rfl⟩
  case round =>
    obtain ⟨u, rfl, hu, hd⟩ := hrel
    have HD := Lib.hid hd
    clear hd
    have hor : (∃ h : 0 < u.size, Oct.blankB u[0] = true) ∨ ((∃ h : 0 < u.size, Oct.blankB u[0] = false) ∨ u.size = 0) := by
      by_cases h : 0 < u.size
      · cases hb : Oct.blankB u[0]
        · exact .inr (.inl ⟨h, hb⟩)
        · exact .inl ⟨h, hb⟩
      · exact .inr (.inr (by omega))
    rcases hor with ⟨hlt, hbk⟩ | hor
    · have HE := Lib.hid (HD.out.trans (Oct.tail_yes hlt hbk))
      go_wp2_with (go_at_call 32; refine (refBlank_calls _ _).mono ?_; rintro e w' ⟨rfl, rfl⟩)
      go_round
      case rel => exact ⟨_, rfl, by rw [ByteArray.size_extract]; omega, by rw [Lib.extract_to_end]; exact HE.out⟩
      case measure => simp; omega
    · have HE : Hid (s.data.toList.dropWhile Oct.blankB = u.data.toList) := by
        refine Lib.hid (HD.out.trans ?_)
        rcases hor with ⟨hlt, hbk⟩ | hge
        · exact Oct.tail_no hlt hbk
        · exact Oct.tail_end hge
      have hor2 : (∃ h : 0 < u.size, Oct.blankB u[0] = false) ∨ u.size ≤ 0 := by
        rcases hor with h | h
        · exact .inl h
        · exact .inr (by omega)
      clear hor
      rcases hor2 with ⟨hlt, hbk⟩ | hge
      all_goals
        go_wp2_with (go_at_call 32; refine (refBlank_calls _ _).mono ?_; rintro e w' ⟨rfl, rfl⟩)
        go_loop [0] (fun v => ∃ x : ByteArray, v = .string x ∧ x.size ≤ u.size ∧ Oct.chopEnd u.data.toList = Oct.chopEnd x.data.toList) (fun v => match v with | .string x => x.size | _ => 0)
        case atStart => exact ⟨u, rfl, Nat.le_refl _, rfl⟩
        case round =>
          obtain ⟨x, rfl, hx, hc⟩ := hrel
          have HC := Lib.hid hc
          clear hc
          by_cases h0 : 0 < x.size
          · try (exfalso; omega)
            all_goals
              have hmm : ((x.size : Int) - 1).toNat = x.size - 1 := by omega
              have hm1 : x.size - 1 < x.size := by omega
              have HS := Lib.hid (Oct.last_split hm1)
              cases hb : Oct.blankB x[x.size - 1] with
              | true =>
                have HF := Lib.hid (show Oct.chopEnd u.data.toList = Oct.chopEnd (x.data.toList.take (x.size - 1)) from by rw [HC.out, HS.out, Oct.chopEnd_yes _ _ hb, ← HS.out])
                go_wp2_with (go_at_call 32; refine (refBlank_calls _ _).mono ?_; rintro e w' ⟨rfl, rfl⟩)
                go_round
                case rel => exact ⟨_, rfl, by rw [ByteArray.size_extract]; omega, by rw [Lib.extract_data, List.drop_zero, Nat.sub_zero]; exact HF.out⟩
                case measure => simp; omega
              | false =>
                have HF := Lib.hid (show Oct.trim s.data.toList = x.data.toList from by unfold Oct.trim; rw [HE.out, HC.out, HS.out, Oct.chopEnd_no _ _ hb])
                go_wp2_with (go_at_call 32; refine (refBlank_calls _ _).mono ?_; rintro e w' ⟨rfl, rfl⟩)
                go_ret
                exact ⟨ret_str (by rw [HF.out, Lib.mk_data]), rfl⟩
          · have HF := Lib.hid (show Oct.trim s.data.toList = x.data.toList from by unfold Oct.trim; rw [HE.out, HC.out, (Oct.nil_size x).2 (by omega)]; rfl)
            go_wp2
            go_ret
            exact ⟨ret_str (by rw [HF.out, Lib.mk_data]), rfl⟩
end Go.Proofs.YtpimaobejjpffaaGreatDoor
