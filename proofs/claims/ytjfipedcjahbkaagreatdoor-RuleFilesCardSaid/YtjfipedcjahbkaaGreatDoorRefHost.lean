/- The walks of the reference's label and Parse. -/
import Derived.Test.YtjfipedcjahbkaaGreatDoorHostParse
import Derived.Test.YtjfipedcjahbkaaGreatDoorOctets
import Derived.Test.YtjfipedcjahbkaaGreatDoorRefV4
import Derived.Test.YtjfipedcjahbkaaGreatDoorRefV6
namespace Go.Proofs.YtjfipedcjahbkaaGreatDoor
open Go.RowKit
set_option maxHeartbeats 1000000 in
theorem refLabel_calls (s : ByteArray) (w : World) (hs : s.size ≤ 1099511627776) :
    Calls Tryz.prog 45 #[.string s] w fun e w' => e = .returned (.bool (Hst.refLab s.data.toList)) ∧ w = w' := by
  have HL := Lib.hid (Oct.length_bytes s)
  go_enter Tryz.func45, Tryz.ntmps45
  go_wp2
  go_loop [3, 4] (fun i _ => ∃ k : Nat, k ≤ s.size ∧ i = .int .i64 k ∧ (s.data.toList.take k).all Hst.refB = true) (fun i _ => s.size - (intOf i).toNat)
  case atStart => exact ⟨0, Nat.zero_le _, rfl, by simp⟩
  case round =>
    obtain ⟨k, hk, rfl, hall⟩ := hrel
    have HA := Lib.hid hall
    clear hall
    by_cases hlt : k < s.size
    · have hc : s[k].toNat < 256 := s[k].toNat_lt
      cases hq : Hst.refB s[k] with
      | true =>
        have hq2 := hq
        unfold Hst.refB at hq2
        have hq3 := of_decide_eq_true hq2
        have HS := Lib.hid (Oct.all_snoc s k hlt HA.out hq)
        clear hq hq2
        rcases hq3 with h | h | h | h
        · have h1 : ¬ (s[k].toNat : Int) < 97 := by omega
          have h2 : ¬ (122 : Int) < (s[k].toNat : Int) := by omega
          clear h
          go_wp2
          go_round
          case rel => exact ⟨k + 1, by omega, by go_num, HS.out⟩
          case measure => simp [intOf]; omega
        · have h1 : (s[k].toNat : Int) < 97 := by omega
          have h2 : ¬ (s[k].toNat : Int) < 48 := by omega
          have h3 : ¬ (57 : Int) < (s[k].toNat : Int) := by omega
          clear h
          go_wp2
          go_round
          case rel => exact ⟨k + 1, by omega, by go_num, HS.out⟩
          case measure => simp [intOf]; omega
        · have h1 : (s[k].toNat : Int) < 97 := by omega
          have h2 : (s[k].toNat : Int) < 48 := by omega
          have h3 : (s[k].toNat : Int) = 45 := by omega
          clear h
          go_wp2
          go_round
          case rel => exact ⟨k + 1, by omega, by go_num, HS.out⟩
          case measure => simp [intOf]; omega
        · have h1 : (s[k].toNat : Int) < 97 := by omega
          have h2 : ¬ (s[k].toNat : Int) < 48 := by omega
          have h3 : (57 : Int) < (s[k].toNat : Int) := by omega
          have h4 : (s[k].toNat : Int) = 95 := by omega
          clear h
          go_wp2
          go_round
          case rel => exact ⟨k + 1, by omega, by go_num, HS.out⟩
          case measure => simp [intOf]; omega
      | false =>
        have hq2 := hq
        unfold Hst.refB at hq2
        have hq3 := of_decide_eq_false hq2
        have HS := Lib.hid (Oct.all_not s k hlt hq)
        clear hq hq2
        have h5 : ((s[k].toNat : Int) != 45) = true := bne_iff_ne.2 (by omega)
        have h6 : ((s[k].toNat : Int) != 95) = true := bne_iff_ne.2 (by omega)
        have hcase : ((s[k].toNat : Int) < 97 ∧ (s[k].toNat : Int) < 48) ∨ ((s[k].toNat : Int) < 97 ∧ ¬ (s[k].toNat : Int) < 48 ∧ (57 : Int) < (s[k].toNat : Int)) ∨ (¬ (s[k].toNat : Int) < 97 ∧ (122 : Int) < (s[k].toNat : Int) ∧ ¬ (s[k].toNat : Int) < 48 ∧ (57 : Int) < (s[k].toNat : Int)) := by omega
        clear hq3
        rcases hcase with ⟨h1, h2⟩ | ⟨h1, h2, h3⟩ | ⟨h1, h2, h3, h4⟩
        all_goals
          go_wp2
          go_ret
          exact ⟨ret_bool (by unfold Hst.refLab; rw [HS.out]; simp), rfl⟩
    · by_cases h1 : (1 : Int) ≤ (s.size : Int)
      · go_wp2
        go_ret
        exact ⟨ret_bool (by unfold Hst.refLab; rw [← Oct.take_all s k (by omega), HA.out, Oct.take_all s k (by omega), HL.out, Bool.and_true, decide_eq_decide]; omega), rfl⟩
      · go_wp2
        go_ret
        exact ⟨ret_bool (by unfold Hst.refLab; rw [HL.out, decide_eq_false (show ¬ (1 ≤ s.size ∧ s.size ≤ 63) by omega)]; rfl), rfl⟩
namespace Hst
theorem head_last {s : ByteArray} (hp : s.size - 1 < s.size) (h : s.data.toList.head? = some 91) : (s[s.size - 1] = 93) ↔ s.data.toList.tail.getLast? = some 93 := by
  have hl := Oct.last_bytes s hp
  generalize s[s.size - 1] = c at *
  generalize s.data.toList = l at *
  cases l with
  | nil => cases h
  | cons d r =>
    simp at h
    subst h
    cases r with
    | nil =>
      simp at hl
      subst hl
      simp
    | cons e r =>
      rw [List.getLast?_cons_cons] at hl
      show _ ↔ (e :: r).getLast? = some 93
      rw [hl]
      exact ⟨fun k => by rw [k], fun k => Option.some.inj k⟩
theorem inner_bytes (s : ByteArray) : (s.extract 1 (s.size - 1)).data.toList = s.data.toList.tail.dropLast := by
  rw [Lib.extract_eq, List.dropLast_eq_take, ← List.drop_one]
  show ((s.data.toList.drop 1).take (s.size - 1 - 1)) = _
  rw [List.length_drop, Oct.length_bytes]
end Hst
end Go.Proofs.YtjfipedcjahbkaaGreatDoor
