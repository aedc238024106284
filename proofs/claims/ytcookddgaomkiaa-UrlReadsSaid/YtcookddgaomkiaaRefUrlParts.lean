/- The walks of the reference's find and Path. -/
import Derived.Test.YtcookddgaomkiaaPlains
import Derived.Test.YtcookddgaomkiaaOctets
import Derived.Test.YtcookddgaomkiaaUrlParts
namespace Go.Proofs.Ytcookddgaomkiaa
open Go.RowKit
namespace Ur
theorem find_hit {s some : ByteArray} {i k : Nat} (hi : i < s.size) (hk : k < some.size) (hn : ∀ c ∈ s.data.toList.take i, some.data.toList.contains c = false) (h : s[i] = some[k]) : find s.data.toList some.data.toList = i := by
  have hi2 : i < s.data.toList.length := by rw [Oct.length_bytes]; exact hi
  unfold find
  rw [List.findIdx_eq hi2]
  refine ⟨?_, fun j hj => ?_⟩
  · rw [List.contains_iff_mem, Oct.getElem_bytes s i hi, h, ← Oct.getElem_bytes some k hk]
    exact List.getElem_mem _
  · have := hn (s.data.toList[j]'(by omega)) (by
      rw [List.mem_take_iff_getElem]
      exact ⟨j, by omega, rfl⟩)
    exact this
theorem find_end {s some : ByteArray} {i : Nat} (hi : s.size ≤ i) (hn : ∀ c ∈ s.data.toList.take i, some.data.toList.contains c = false) : find s.data.toList some.data.toList = s.size := by
  rw [Oct.take_all s i hi] at hn
  rw [find_none hn, Oct.length_bytes]
theorem find_more {s some : ByteArray} {i k : Nat} (hi : i < s.size) (hk : some.size ≤ k) (hn : ∀ c ∈ s.data.toList.take i, some.data.toList.contains c = false) (h : ∀ d ∈ some.data.toList.take k, d ≠ s[i]) : ∀ c ∈ s.data.toList.take (i + 1), some.data.toList.contains c = false := by
  intro c hc
  rw [Oct.take_snoc s i hi] at hc
  rcases List.mem_append.1 hc with hc | hc
  · exact hn c hc
  · rw [List.mem_singleton.1 hc]
    rw [Oct.take_all some k hk] at h
    cases e : some.data.toList.contains s[i] with
    | false => rfl
    | true => exact absurd rfl (h _ (List.contains_iff_mem.1 e))
end Ur
set_option maxRecDepth 100000 in
set_option maxHeartbeats 1000000 in
theorem find_calls (s some : ByteArray) (w : World) (hs : s.size ≤ maxLen) (hz : some.size ≤ 1000) :
    Calls Try.prog 19 #[.string s, .string some] w fun e w' => e = .returned (.int .i64 (Ur.find s.data.toList some.data.toList : Nat)) ∧ Drawn w w' := by
  unfold maxLen at hs
  go_enter Try.func19, Try.ntmps19
  go_wp2
  go_loopw [5, 6] (fun v _ wr => ∃ i : Nat, i ≤ s.size ∧ v = .int .i64 (i : Int) ∧ Hid (∀ c ∈ s.data.toList.take i, some.data.toList.contains c = false) ∧ Drawn w wr) (fun v _ _ => s.size - (intOf v).toNat)
  case atStart => exact ⟨0, Nat.zero_le _, rfl, Lib.hid (by simp), Drawn.refl _⟩
  case round =>
    obtain ⟨i, hi, rfl, HI, hd⟩ := hrel
    by_cases hlt : i < s.size
    · go_wp2
      go_loopw [6] (fun v wr2 => ∃ k : Nat, k ≤ some.size ∧ v = .int .i64 (k : Int) ∧ Hid (∀ d ∈ some.data.toList.take k, d ≠ s[i]) ∧ Drawn w wr2) (fun v _ => some.size - (intOf v).toNat)
      case atStart => exact ⟨0, Nat.zero_le _, rfl, Lib.hid (by simp), hd⟩
      case round =>
        clear hd
        obtain ⟨k, hk, rfl, HK, hd⟩ := hrel
        by_cases hltk : k < some.size
        · by_cases he : s[i] = some[k]
          · have he1 : ((s[i].toNat : Int) == (some[k].toNat : Int)) = true := by rw [he]; simp
            have HE := Lib.hid he
            clear he
            go_wp2
            go_quiet (fail)
            go_wp2
            go_ret
            exact ⟨ret_int (by rw [Ur.find_hit hlt hltk HI.out HE.out]), hd.more _⟩
          · have he1 : ((s[i].toNat : Int) == (some[k].toNat : Int)) = false := by rw [beq_eq_false_iff_ne]; intro e; exact he (Oct.eq_of_toNat (by omega))
            have HE := Lib.hid he
            clear he
            go_wp2
            go_quiet (fail)
            go_wp2
            go_roundw
            case rel => exact ⟨k + 1, by omega, by go_num, Lib.hid (by
              intro d hd
              rw [Oct.take_snoc some k hltk] at hd
              rcases List.mem_append.1 hd with hd | hd
              · exact HK.out d hd
              · rw [List.mem_singleton.1 hd]; exact fun e => HE.out e.symm), hd.more _⟩
            case measure => simp [intOf]; omega
        · go_wp2
          go_roundw
          case rel => exact ⟨i + 1, by omega, by go_num, Lib.hid (Ur.find_more hlt (by omega) HI.out HK.out), hd⟩
          case measure => simp [intOf]; omega
    · go_wp2
      go_ret
      exact ⟨ret_int (by rw [Ur.find_end (i := i) (by omega) HI.out]), hd⟩
namespace Ur
theorem path_of {s : ByteArray} (h : s.data.toList.all okP = true) : isPath s.data.toList = (decide (1 ≤ s.size) && (decide (s.size ≤ 2048) && decide (s.data.toList.head? = some 47))) := by
  unfold isPath
  rw [h, Oct.length_bytes, Bool.true_and, Bool.eq_iff_iff]
  simp [and_assoc]
end Ur
set_option maxHeartbeats 1000000 in
theorem refPath_calls (s : ByteArray) (w : World) (hs : s.size ≤ maxLen) :
    Calls Try.prog 11 #[.string s] w fun e w' => e = .returned (.bool (Ur.isPath s.data.toList)) ∧ w = w' := by
  unfold maxLen at hs
  go_enter Try.func11, Try.ntmps11
  go_wp2
  go_loop [3] (fun i => ∃ k : Nat, k ≤ s.size ∧ i = .int .i64 k ∧ (s.data.toList.take k).all Ur.okP = true) (fun i => s.size - (intOf i).toNat)
  case atStart => exact ⟨0, Nat.zero_le _, rfl, by simp⟩
  case round =>
    obtain ⟨k, hk, rfl, hall⟩ := hrel
    have HA := Lib.hid hall
    clear hall
    by_cases hlt : k < s.size
    · have hq : Ur.okP s[k] = !((decide ((s[k].toNat : Int) < 33)) || ((decide (126 < (s[k].toNat : Int))) || (((s[k].toNat : Int) == 63) || ((s[k].toNat : Int) == 35)))) := by
        rw [Bool.eq_iff_iff]
        simp [Ur.okP]
        omega
      have HQ := Lib.hid hq
      clear hq
      by_cases h1 : (s[k].toNat : Int) < 33
      · go_wp2
        go_ret
        exact ⟨ret_bool (Ur.path_no_byte hlt (by rw [HQ.out, decide_eq_true h1]; rfl)).symm, rfl⟩
      · by_cases h2 : (126 : Int) < (s[k].toNat : Int)
        · go_wp2
          go_ret
          exact ⟨ret_bool (Ur.path_no_byte hlt (by rw [HQ.out, decide_eq_true h2]; simp)).symm, rfl⟩
        · cases h3 : ((s[k].toNat : Int) == 63) with
          | true =>
            go_wp2
            go_ret
            exact ⟨ret_bool (Ur.path_no_byte hlt (by rw [HQ.out, h3]; simp)).symm, rfl⟩
          | false =>
            cases h4 : ((s[k].toNat : Int) == 35) with
            | true =>
              go_wp2
              go_ret
              exact ⟨ret_bool (Ur.path_no_byte hlt (by rw [HQ.out, h4]; simp)).symm, rfl⟩
            | false =>
              go_wp2
              go_round
              case rel => exact ⟨k + 1, by omega, by go_num, Oct.all_snoc s k hlt HA.out (by rw [HQ.out, decide_eq_false h1, decide_eq_false h2, h3, h4]; rfl)⟩
              case measure => simp [intOf]; omega
    · have hP := Ur.path_of (s := s) (by rw [← Oct.take_all s k (by omega)]; exact HA.out)
      by_cases hpos : 1 ≤ s.size
      · have hb := Oct.head_bytes s (by omega)
        have h5 : (s.data.toList.head? = some 47) ↔ ((s[0].toNat : Int) == 47) = true := by
          rw [hb, beq_iff_eq, Option.some.injEq]
          exact ⟨fun e => by rw [e]; rfl, fun e => Oct.eq_of_toNat (by show _ = 47; omega)⟩
        have HP : Hid (Ur.isPath s.data.toList = (decide ((s.size : Int) ≤ 2048) && ((s[0].toNat : Int) == 47))) := Lib.hid (by
          rw [hP, decide_eq_true hpos, Bool.true_and, Bool.eq_iff_iff]
          simp only [Bool.and_eq_true, decide_eq_true_eq, h5]
          refine and_congr (by omega) Iff.rfl)
        have hpos1 : (1 : Int) ≤ (s.size : Int) := by omega
        clear hP h5 hb HA
        go_wp2
        all_goals
          go_ret
          exact ⟨ret_bool (by rw [HP.out]; simp_all <;> omega), rfl⟩
      · have HP : Hid (Ur.isPath s.data.toList = false) := Lib.hid (by rw [hP, decide_eq_false hpos]; rfl)
        have hpos1 : ¬ (1 : Int) ≤ (s.size : Int) := by omega
        clear hP HA
        go_wp2
        go_ret
        exact ⟨ret_bool HP.out.symm, rfl⟩
end Go.Proofs.Ytcookddgaomkiaa
