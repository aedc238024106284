/- The walks of Trim, of octet and of the reference. -/
import Derived.Test.YtgadhjfpebhnpaaSmall
import Derived.Lib.IndexBytes
namespace Go.Proofs.Ytgadhjfpebhnpaa
open Go.RowKit
namespace Oct
/-- Without the blanks at its end. -/
def chopEnd (l : List UInt8) : List UInt8 := (l.reverse.dropWhile blankB).reverse
/-- Without the blanks at both ends. -/
def trim (l : List UInt8) : List UInt8 := chopEnd (l.dropWhile blankB)
theorem chopEnd_nil : chopEnd [] = [] := rfl
theorem chopEnd_yes (u : List UInt8) (c : UInt8) (h : blankB c = true) : chopEnd (u ++ [c]) = chopEnd u := by
  unfold chopEnd; rw [List.reverse_append, List.reverse_singleton, List.singleton_append, List.dropWhile_cons_of_pos h]
theorem chopEnd_no (u : List UInt8) (c : UInt8) (h : blankB c = false) : chopEnd (u ++ [c]) = u ++ [c] := by
  unfold chopEnd; rw [List.reverse_append, List.reverse_singleton, List.singleton_append, List.dropWhile_cons_of_neg (by simp [h])]; simp
theorem drop_yes {l : List UInt8} {k : Nat} (h : k < l.length) (hb : blankB l[k] = true) : (l.drop k).dropWhile blankB = (l.drop (k + 1)).dropWhile blankB := by
  rw [List.drop_eq_getElem_cons h, List.dropWhile_cons_of_pos hb]
theorem drop_no {l : List UInt8} {k : Nat} (h : k < l.length) (hb : blankB l[k] = false) : (l.drop k).dropWhile blankB = l.drop k := by
  rw [List.drop_eq_getElem_cons h, List.dropWhile_cons_of_neg (by simp [hb])]
theorem drop_end {l : List UInt8} {k : Nat} (h : l.length ≤ k) : (l.drop k).dropWhile blankB = l.drop k := by
  rw [List.drop_eq_nil_of_le h]; rfl
/-- The piece from k to m. -/
def mid (l : List UInt8) (k m : Nat) : List UInt8 := (l.drop k).take (m - k)
theorem mid_succ {l : List UInt8} {k m : Nat} (hk : k < m) (hm : m ≤ l.length) : mid l k m = mid l k (m - 1) ++ [l[m - 1]] := by
  unfold mid
  rw [show m - k = (m - 1 - k) + 1 by omega, List.take_succ_eq_append_getElem (by rw [List.length_drop]; omega), List.getElem_drop]
  have : k + (m - 1 - k) = m - 1 := by omega
  simp only [this]
theorem mid_all {l : List UInt8} {k m : Nat} (hm : l.length ≤ m) : mid l k m = l.drop k := by unfold mid; rw [List.take_of_length_le (by rw [List.length_drop]; omega)]
theorem mid_none {l : List UInt8} {k m : Nat} (hm : m ≤ k) : mid l k m = [] := by unfold mid; rw [Nat.sub_eq_zero_of_le hm]; rfl
end Oct

set_option maxRecDepth 100000 in
set_option maxHeartbeats 1000000 in
theorem trim_calls (s : ByteArray) (w : World) (hs : s.size ≤ maxLen) :
    Calls Try.prog 13 #[.string s] w fun e w' => e = .returned (.string ⟨(Oct.trim s.data.toList).toArray⟩) ∧ w = w' := by
  unfold maxLen at hs
  go_enter Try.func13, Try.ntmps13
  go_wp2
  go_loop [3] (fun i => ∃ k : Nat, k ≤ s.size ∧ i = .int .i64 k ∧ s.data.toList.dropWhile Oct.blankB = (s.data.toList.drop k).dropWhile Oct.blankB) (fun i => s.size - (intOf i).toNat)
  case atStart => exact ⟨0, Nat.zero_le _, rfl, by simp⟩
  case round =>
    obtain ⟨k, hk, rfl, hd⟩ := hrel
    have HD := Lib.hid hd
    clear hd
    have hor : (∃ h : k < s.size, Oct.blankB s[k] = true) ∨ ((∃ h : k < s.size, Oct.blankB s[k] = false) ∨ ¬ k < s.size) := by
      by_cases h : k < s.size
      · cases hb : Oct.blankB s[k]
        · exact .inr (.inl ⟨h, hb⟩)
        · exact .inl ⟨h, hb⟩
      · exact .inr (.inr h)
    rcases hor with ⟨hlt, hbk⟩ | hor
    · have HE := Lib.hid (HD.out.trans (Oct.drop_yes (by rw [Oct.length_bytes]; exact hlt) hbk))
      go_wp2_with (go_at_call 31; refine (blank_calls _ _).mono ?_; rintro e w' ⟨rfl, rfl⟩)
      go_round
      case rel => exact ⟨k + 1, by omega, by go_num, HE.out⟩
      case measure => simp [intOf]; omega
    · have HE : Hid (s.data.toList.dropWhile Oct.blankB = s.data.toList.drop k) := by
        refine Lib.hid (HD.out.trans ?_)
        rcases hor with ⟨hlt, hbk⟩ | hge
        · exact Oct.drop_no (by rw [Oct.length_bytes]; exact hlt) hbk
        · exact Oct.drop_end (by rw [Oct.length_bytes]; omega)
      rcases hor with ⟨hlt, hbk⟩ | hge
      all_goals
        go_wp2_with (go_at_call 31; refine (blank_calls _ _).mono ?_; rintro e w' ⟨rfl, rfl⟩)
        go_loop [4] (fun i => ∃ m : Nat, k ≤ m ∧ m ≤ s.size ∧ i = .int .i64 m ∧ Oct.chopEnd (s.data.toList.drop k) = Oct.chopEnd (Oct.mid s.data.toList k m)) (fun i => (intOf i).toNat)
        case atStart => exact ⟨s.size, hk, Nat.le_refl _, rfl, by rw [Oct.mid_all (by rw [Oct.length_bytes]; exact Nat.le_refl _)]⟩
        case round =>
          obtain ⟨m, hkm, hm, rfl, hc⟩ := hrel
          have HC := Lib.hid hc
          clear hc
          by_cases hkl : k < m
          · try (exfalso; omega)
            all_goals
              have hmm : ((m : Int) - 1).toNat = m - 1 := by omega
              have hm1 : m - 1 < s.size := by omega
              have HS := Lib.hid (Oct.mid_succ hkl (l := s.data.toList) (by rw [Oct.length_bytes]; exact hm))
              cases hb : Oct.blankB s[m - 1] with
              | true =>
                have HF := Lib.hid (show Oct.chopEnd (s.data.toList.drop k) = Oct.chopEnd (Oct.mid s.data.toList k (m - 1)) from by rw [HC.out, HS.out]; exact Oct.chopEnd_yes _ _ hb)
                go_wp2_with (go_at_call 31; refine (blank_calls _ _).mono ?_; rintro e w' ⟨rfl, rfl⟩)
                go_round
                case rel => exact ⟨m - 1, by omega, by omega, by go_num, HF.out⟩
                case measure => simp [intOf]; omega
              | false =>
                have HF := Lib.hid (show Oct.trim s.data.toList = Oct.mid s.data.toList k m from by unfold Oct.trim; rw [HE.out, HC.out, HS.out]; exact Oct.chopEnd_no _ _ hb)
                go_wp2_with (go_at_call 31; refine (blank_calls _ _).mono ?_; rintro e w' ⟨rfl, rfl⟩)
                go_ret
                exact ⟨ret_str (by rw [HF.out, Lib.extract_eq, Oct.mid]), rfl⟩
          · have HF := Lib.hid (show Oct.trim s.data.toList = Oct.mid s.data.toList k m from by unfold Oct.trim; rw [HE.out, HC.out, Oct.mid_none (by omega)]; rfl)
            go_wp2
            go_ret
            exact ⟨ret_str (by rw [HF.out, Lib.extract_eq, Oct.mid]), rfl⟩

namespace Oct
theorem text_mid (s : ByteArray) (t : ByteArray) (a b : Nat) (h : t = s.extract a b) : t.data.toList = mid s.data.toList a b := by rw [h, Lib.extract_data]; rfl
theorem tail_yes {u : ByteArray} (h : 0 < u.size) (hb : blankB u[0] = true) : u.data.toList.dropWhile blankB = (u.data.toList.drop 1).dropWhile blankB := by
  have := drop_yes (l := u.data.toList) (k := 0) (by rw [length_bytes]; exact h) hb
  simpa using this
theorem tail_no {u : ByteArray} (h : 0 < u.size) (hb : blankB u[0] = false) : u.data.toList.dropWhile blankB = u.data.toList := by
  have := drop_no (l := u.data.toList) (k := 0) (by rw [length_bytes]; exact h) hb
  simpa using this
theorem tail_end {u : ByteArray} (h : u.size = 0) : u.data.toList.dropWhile blankB = u.data.toList := by rw [(nil_size u).2 h]; rfl
theorem last_split {u : ByteArray} (h : u.size - 1 < u.size) : u.data.toList = u.data.toList.take (u.size - 1) ++ [u[u.size - 1]] := by
  have e := take_snoc u (u.size - 1) h
  rw [show u.size - 1 + 1 = u.size by omega, take_all u _ (Nat.le_refl _)] at e
  exact e
end Oct

set_option maxRecDepth 100000 in
set_option maxHeartbeats 1000000 in
theorem refTrim_calls (s : ByteArray) (w : World) (hs : s.size ≤ maxLen) :
    Calls Try.prog 14 #[.string s] w fun e w' => e = .returned (.string ⟨(Oct.trim s.data.toList).toArray⟩) ∧ w = w' := by
  unfold maxLen at hs
  go_enter Try.func14, Try.ntmps14
  go_wp2
  go_loop [0] (fun v => ∃ u : ByteArray, v = .string u ∧ u.size ≤ s.size ∧ s.data.toList.dropWhile Oct.blankB = u.data.toList.dropWhile Oct.blankB) (fun v => match v with | .string u => u.size | _ => 0)
  case atStart => exact ⟨s, rfl, Nat.le_refl _, rfl⟩
  case round =>
    obtain ⟨u, rfl, hu, hd⟩ := hrel
    have HD := Lib.hid hd
    clear hd
    have hor : (∃ h : 0 < u.size, Oct.blankB u[0] = true) ∨ ((∃ h : 0 < u.size, Oct.blankB u[0] = false) ∨ u.size = 0) := by
      by_cases h : 0 < u.size
      · cases hb : Oct.blankB u[0]
        · exact .inr (.inl ⟨h, hb⟩)
        · exact .inl ⟨h, hb⟩
      · exact .inr (.inr (by omega))
    rcases hor with ⟨hlt, hbk⟩ | hor
    · have HE := Lib.hid (HD.out.trans (Oct.tail_yes hlt hbk))
      go_wp2_with (go_at_call 32; refine (refBlank_calls _ _).mono ?_; rintro e w' ⟨rfl, rfl⟩)
      go_round
      case rel => exact ⟨_, rfl, by rw [ByteArray.size_extract]; omega, by rw [Lib.extract_to_end]; exact HE.out⟩
      case measure => simp; omega
    · have HE : Hid (s.data.toList.dropWhile Oct.blankB = u.data.toList) := by
        refine Lib.hid (HD.out.trans ?_)
        rcases hor with ⟨hlt, hbk⟩ | hge
        · exact Oct.tail_no hlt hbk
        · exact Oct.tail_end hge
      have hor2 : (∃ h : 0 < u.size, Oct.blankB u[0] = false) ∨ u.size ≤ 0 := by
        rcases hor with h | h
        · exact .inl h
        · exact .inr (by omega)
      clear hor
      rcases hor2 with ⟨hlt, hbk⟩ | hge
      all_goals
        go_wp2_with (go_at_call 32; refine (refBlank_calls _ _).mono ?_; rintro e w' ⟨rfl, rfl⟩)
        go_loop [0] (fun v => ∃ x : ByteArray, v = .string x ∧ x.size ≤ u.size ∧ Oct.chopEnd u.data.toList = Oct.chopEnd x.data.toList) (fun v => match v with | .string x => x.size | _ => 0)
        case atStart => exact ⟨u, rfl, Nat.le_refl _, rfl⟩
        case round =>
          obtain ⟨x, rfl, hx, hc⟩ := hrel
          have HC := Lib.hid hc
          clear hc
          by_cases h0 : 0 < x.size
          · try (exfalso; omega)
            all_goals
              have hmm : ((x.size : Int) - 1).toNat = x.size - 1 := by omega
              have hm1 : x.size - 1 < x.size := by omega
              have HS := Lib.hid (Oct.last_split hm1)
              cases hb : Oct.blankB x[x.size - 1] with
              | true =>
                have HF := Lib.hid (show Oct.chopEnd u.data.toList = Oct.chopEnd (x.data.toList.take (x.size - 1)) from by rw [HC.out, HS.out, Oct.chopEnd_yes _ _ hb, ← HS.out])
                go_wp2_with (go_at_call 32; refine (refBlank_calls _ _).mono ?_; rintro e w' ⟨rfl, rfl⟩)
                go_round
                case rel => exact ⟨_, rfl, by rw [ByteArray.size_extract]; omega, by rw [Lib.extract_data, List.drop_zero, Nat.sub_zero]; exact HF.out⟩
                case measure => simp; omega
              | false =>
                have HF := Lib.hid (show Oct.trim s.data.toList = x.data.toList from by unfold Oct.trim; rw [HE.out, HC.out, HS.out, Oct.chopEnd_no _ _ hb])
                go_wp2_with (go_at_call 32; refine (refBlank_calls _ _).mono ?_; rintro e w' ⟨rfl, rfl⟩)
                go_ret
                exact ⟨ret_str (by rw [HF.out, Lib.mk_data]), rfl⟩
          · have HF := Lib.hid (show Oct.trim s.data.toList = x.data.toList from by unfold Oct.trim; rw [HE.out, HC.out, (Oct.nil_size x).2 (by omega)]; rfl)
            go_wp2
            go_ret
            exact ⟨ret_str (by rw [HF.out, Lib.mk_data]), rfl⟩
end Go.Proofs.Ytgadhjfpebhnpaa
