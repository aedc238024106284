/- The walks of cutToken and cutNumber, and of the reference's digits and value. -/
import Derived.Test.YtpimaobejjpffaaGreatDoorParts
import Derived.Test.YtpimaobejjpffaaGreatDoorQuiet
import Derived.Lib.IndexBytes
namespace Go.Proofs.YtpimaobejjpffaaGreatDoor
open Go.RowKit
namespace Dt
theorem cutP_bytes {s : ByteArray} {k : Nat} (h : ∀ x ∈ s.data.toList.take k, sepB x = false) (hk : k < s.size) (hc : sepB s[k] = true) : cutP s.data.toList = (s.data.toList.take k, s.data.toList.drop (k + 1)) :=
  cutP_at h (by rw [List.getElem?_eq_getElem (by rw [Oct.length_bytes]; exact hk)]; rfl) hc
theorem nosep_more {s : ByteArray} {k : Nat} (h : ∀ x ∈ s.data.toList.take k, sepB x = false) (hk : k < s.size) (hc : sepB s[k] = false) : ∀ x ∈ s.data.toList.take (k + 1), sepB x = false := by
  rw [Oct.take_snoc s k hk]
  intro x hx
  rcases List.mem_append.1 hx with hx | hx
  · exact h x hx
  · rw [List.mem_singleton.1 hx]; exact hc
theorem cutP_end {s : ByteArray} {k : Nat} (h : ∀ x ∈ s.data.toList.take k, sepB x = false) (hk : s.size ≤ k) : cutP s.data.toList = (s.data.toList, []) :=
  cutP_none (by rw [Oct.take_all s k hk] at h; exact h)
end Dt
def TwoTexts (a b : List UInt8) (w : World) (e : Ending) (w' : World) : Prop := e = .returned (.tuple #[.string ⟨a.toArray⟩, .string ⟨b.toArray⟩]) ∧ Below w.heap.size w w'
set_option maxRecDepth 100000 in
set_option maxHeartbeats 4000000 in
theorem cutToken_calls (s : ByteArray) (w : World) (hs : s.size ≤ maxLen) :
    Calls Tryz.prog 50 #[.string s] w (TwoTexts (Dt.cutP s.data.toList).1 (Dt.cutP s.data.toList).2 w) := by
  unfold maxLen at hs
  have HP : Hid (∀ a b w', Dt.cutP s.data.toList = (a, b) → Below w.heap.size w w' → TwoTexts (Dt.cutP s.data.toList).1 (Dt.cutP s.data.toList).2 w (.returned (.tuple #[.string ⟨a.toArray⟩, .string ⟨b.toArray⟩])) w') := Lib.hid (fun a b w' h hb => by rw [h]; exact ⟨rfl, hb⟩)
  generalize TwoTexts (Dt.cutP s.data.toList).1 (Dt.cutP s.data.toList).2 w = post at *
  go_enter Tryz.func50, Tryz.ntmps50
  go_wp2
  go_loop [7] (fun i => ∃ k : Nat, k ≤ s.size ∧ i = .int .i64 k ∧ ∀ x ∈ s.data.toList.take k, Dt.sepB x = false) (fun i => s.size - (intOf i).toNat)
  case atStart => exact ⟨0, Nat.zero_le _, rfl, by simp⟩
  case round =>
    obtain ⟨k, hk, rfl, hall⟩ := hrel
    have HA := Lib.hid hall
    clear hall
    by_cases hlt : k < s.size
    · have HC := Lib.hid (fun W => partsTokens_calls s[k] W)
      cases hb : Dt.sepB s[k] with
      | true =>
        rw [hb] at HC
        have HR := Lib.hid (fun W hW => HP.out _ _ W (Dt.cutP_bytes HA.out hlt hb) hW)
        have e1 : (⟨(s.data.toList.take k).toArray⟩ : ByteArray) = s.extract 0 k := by rw [Lib.extract_eq, List.drop_zero, Nat.sub_zero]
        have e2 : (⟨(s.data.toList.drop (k + 1)).toArray⟩ : ByteArray) = s.extract (k + 1) s.size := by rw [Lib.extract_eq, List.take_of_length_le (by rw [List.length_drop, Oct.length_bytes]; exact Nat.le_refl _)]
        have HR := Lib.hid (show ∀ W, Below w.heap.size w W → post (.returned (.tuple #[.string (s.extract 0 k), .string (s.extract (k + 1) s.size)])) W from fun W hW => by have h := HR.out W hW; rw [e1, e2] at h; exact h)
        clear e1 e2
        clear hb
        go_wp2_with (go_at_call 73; refine (HC.out _).mono ?_; rintro e w' ⟨rfl, rfl⟩)
        go_quiet (fail)
        go_wp2
        exact HR.out _ (below_drawn _ _ _)
      | false =>
        rw [hb] at HC
        have HM := Lib.hid (Dt.nosep_more HA.out hlt hb)
        clear hb
        go_wp2_with (go_at_call 73; refine (HC.out _).mono ?_; rintro e w' ⟨rfl, rfl⟩)
        go_round
        case rel => exact ⟨k + 1, by omega, by go_num, HM.out⟩
        case measure => simp [intOf]; omega
    · have HR := Lib.hid (HP.out _ _ w (Dt.cutP_end HA.out (by omega)) (Below.refl _ _))
      have e1 : (⟨s.data.toList.toArray⟩ : ByteArray) = s := Lib.mk_data s
      have h2 := HR.out
      rw [e1] at h2
      have HR := Lib.hid h2
      clear h2 e1
      go_wp2
      exact HR.out
namespace Dt
theorem lead_at {s : ByteArray} {k : Nat} (h : k < lead s.data.toList) : ∃ hk : k < s.size, 48 ≤ s[k].toNat ∧ s[k].toNat ≤ 57 := by
  have hl := lead_le s.data.toList
  rw [Oct.length_bytes] at hl
  have hk : k < s.size := by omega
  obtain ⟨c, hc, hd⟩ := lead_digit h
  rw [List.getElem?_eq_getElem (by rw [Oct.length_bytes]; exact hk)] at hc
  have e : s[k] = c := Option.some.inj hc
  refine ⟨hk, ?_⟩
  rw [e]
  simpa [Oct.digitB] using hd
theorem num_small {s : List UInt8} {k : Nat} (h : k ≤ lead s) (h4 : k ≤ 4) : Oct.numOf (s.take k) < 10000 := by
  have h1 := num_take_lt h
  have h2 : 10 ^ k ≤ 10 ^ 4 := Nat.pow_le_pow_right (by omega) h4
  omega
end Dt
def NumPost (o : Option (Nat × List UInt8)) (w : World) (e : Ending) (w' : World) : Prop :=
  e = .returned (.tuple #[.int .i64 (((o.map (·.1)).getD 0 : Nat) : Int), .string ⟨((o.map (·.2)).getD []).toArray⟩, .bool o.isSome]) ∧ Below w.heap.size w w'
theorem num_none {o : Option (Nat × List UInt8)} (h : o = none) {w w' : World} (hb : Below w.heap.size w w') : NumPost o w (.returned (.tuple #[.int .i64 0, .string ⟨#[]⟩, .bool false])) w' := by subst h; exact ⟨rfl, hb⟩
theorem num_some {o : Option (Nat × List UInt8)} {n : Nat} {r : List UInt8} (h : o = some (n, r)) {w w' : World} (hb : Below w.heap.size w w') : NumPost o w (.returned (.tuple #[.int .i64 (n : Int), .string ⟨r.toArray⟩, .bool true])) w' := by subst h; exact ⟨rfl, hb⟩
set_option maxRecDepth 100000 in
set_option maxHeartbeats 4000000 in
theorem cutNumber_calls (s : ByteArray) (a b : Nat) (w : World) (hs : s.size ≤ maxLen) (ha : a ≤ 4) (hb : b ≤ 4) :
    Calls Tryz.prog 75 #[.string s, .int .i64 (a : Int), .int .i64 (b : Int)] w (NumPost (Dt.cutN s.data.toList a b) w) := by
  unfold maxLen at hs
  have HT := Lib.hid (fun W => trimDigits_calls s W)
  have hl := Dt.lead_le s.data.toList
  rw [Oct.length_bytes] at hl
  obtain ⟨B, hB⟩ : ∃ B : ByteArray, B = ⟨(s.data.toList.drop (Dt.lead s.data.toList)).toArray⟩ := ⟨_, rfl⟩
  rw [← hB] at HT
  have hBs : B.size = s.size - Dt.lead s.data.toList := by rw [hB]; show (List.toArray _).size = _; rw [List.size_toArray, List.length_drop, Oct.length_bytes]
  have HN := Lib.hid (fun (h : ¬ (a ≤ Dt.lead s.data.toList ∧ Dt.lead s.data.toList ≤ b)) w' (hb : Below w.heap.size w w') => num_none (o := Dt.cutN s.data.toList a b) (if_neg h) hb)
  have HY := Lib.hid (fun (h : a ≤ Dt.lead s.data.toList ∧ Dt.lead s.data.toList ≤ b) w' (hb : Below w.heap.size w w') => num_some (o := Dt.cutN s.data.toList a b) (if_pos h) hb)
  rw [← hB] at HY
  have HL := Lib.hid (fun (k : Nat) (h : k < Dt.lead s.data.toList) => Dt.lead_at h)
  have HSm := Lib.hid (fun (k : Nat) (h : k ≤ Dt.lead s.data.toList) (h4 : k ≤ 4) => Dt.num_small h h4)
  generalize NumPost (Dt.cutN s.data.toList a b) w = post at *
  generalize Dt.lead s.data.toList = L at *
  have e1 : (s.size : Int) - (B.size : Int) = (L : Int) := by omega
  clear hB hBs
  by_cases h1 : a ≤ L
  · by_cases h2 : L ≤ b
    · have HYY := Lib.hid (HY.out ⟨h1, h2⟩)
      go_enter Tryz.func75, Tryz.ntmps75
      go_wp2_with (go_at_call 68; refine (HT.out _).mono ?_; rintro e w1 ⟨rfl, b1⟩)
      go_loop [11, 29] (fun n i => ∃ k : Nat, k ≤ L ∧ i = .int .i64 k ∧ n = .int .i64 ((Oct.numOf (s.data.toList.take k) : Nat) : Int)) (fun _ i => L - (intOf i).toNat)
      case atStart => exact ⟨0, Nat.zero_le _, rfl, by simp [Oct.numOf]⟩
      case round =>
        obtain ⟨k, hk, rfl, rfl⟩ := hrel
        have hsm := HSm.out k hk (by omega)
        by_cases hlt : k < L
        · obtain ⟨hks, c1, c2⟩ := HL.out k hlt
          have HTk := Lib.hid (Oct.numOf_take s k hks)
          generalize Oct.numOf (s.data.toList.take k) = n at *
          go_wp2
          go_round
          case rel => exact ⟨k + 1, by omega, by go_num, val_int (by rw [HTk.out]; omega)⟩
          case measure => simp [intOf]; omega
        · have hkL : k = L := by omega
          subst hkL
          have HR := Lib.hid (HYY.out w1 b1)
          generalize Oct.numOf (s.data.toList.take k) = n at *
          go_wp2
          go_ret3
          exact HR.out
    · have HR := Lib.hid (HN.out (fun h => h2 h.2))
      have k1 : ¬ (L : Int) < (a : Int) := by omega
      have k2 : (b : Int) < (L : Int) := by omega
      clear h1 h2
      go_enter Tryz.func75, Tryz.ntmps75
      go_wp2_with (go_at_call 68; refine (HT.out _).mono ?_; rintro e w1 ⟨rfl, b1⟩)
      go_ret3
      exact HR.out _ b1
  · have HR := Lib.hid (HN.out (fun h => h1 h.1))
    have k1 : (L : Int) < (a : Int) := by omega
    clear h1
    go_enter Tryz.func75, Tryz.ntmps75
    go_wp2_with (go_at_call 68; refine (HT.out _).mono ?_; rintro e w1 ⟨rfl, b1⟩)
    go_ret3
    exact HR.out _ b1
set_option maxRecDepth 100000 in
set_option maxHeartbeats 4000000 in
theorem refDigitsAhead_calls (s : ByteArray) (w : World) (hs : s.size ≤ maxLen) :
    Calls Tryz.prog 34 #[.string s] w fun e w' => e = .returned (.int .i64 (Dt.lead s.data.toList : Nat)) ∧ w = w' := by
  unfold maxLen at hs
  have hl := Dt.lead_le s.data.toList
  rw [Oct.length_bytes] at hl
  have HL := Lib.hid (fun (k : Nat) (h : k < Dt.lead s.data.toList) => Dt.lead_at h)
  have HS : Hid (∀ h : Dt.lead s.data.toList < s.size, Oct.digitB (s[Dt.lead s.data.toList]'h) = false) := Lib.hid (fun h => Dt.lead_stop (by rw [List.getElem?_eq_getElem (by rw [Oct.length_bytes]; exact h)]; rfl))
  generalize Dt.lead s.data.toList = L at *
  go_enter Tryz.func34, Tryz.ntmps34
  go_wp2
  go_loop [3] (fun i => ∃ k : Nat, k ≤ L ∧ i = .int .i64 k) (fun i => L - (intOf i).toNat)
  case atStart => exact ⟨0, Nat.zero_le _, rfl⟩
  case round =>
    obtain ⟨k, hk, rfl⟩ := hrel
    by_cases hlt : k < L
    · obtain ⟨hks, c1, c2⟩ := HL.out k hlt
      have c3 : (48 : Int) ≤ (s[k].toNat : Int) := by omega
      have c4 : (s[k].toNat : Int) ≤ (57 : Int) := by omega
      go_wp2
      go_round
      case rel => exact ⟨k + 1, by omega, by go_num⟩
      case measure => simp [intOf]; omega
    · have hkL : k = L := by omega
      subst hkL
      by_cases hks : k < s.size
      · have hd := HS.out hks
        have hor : ¬ (48 : Int) ≤ (s[k].toNat : Int) ∨ ((48 : Int) ≤ (s[k].toNat : Int) ∧ ¬ (s[k].toNat : Int) ≤ (57 : Int)) := by
          have := of_decide_eq_false hd
          omega
        clear hd
        rcases hor with h | ⟨h, h'⟩
        all_goals
          go_wp2
          go_ret
          exact ⟨rfl, rfl⟩
      · go_wp2
        go_ret
        exact ⟨rfl, rfl⟩
set_option maxRecDepth 100000 in
set_option maxHeartbeats 4000000 in
theorem refValue_calls (s : ByteArray) (w : World) (hd : ∀ k (h : k < s.size), 48 ≤ s[k].toNat ∧ s[k].toNat ≤ 57) (hs : s.size ≤ 4) :
    Calls Tryz.prog 36 #[.string s] w fun e w' => e = .returned (.int .i64 (Oct.numOf s.data.toList : Nat)) ∧ w = w' := by
  have HD := Lib.hid hd
  have HSm : Hid (∀ k : Nat, k ≤ s.size → Oct.numOf (s.data.toList.take k) < 10000) := Lib.hid (fun k hk => by
    have h1 := Dt.num_lt (l := s.data.toList.take k) (fun c hc => by
      obtain ⟨j, hj, e⟩ := List.mem_take_iff_getElem.1 hc
      have := hd j (by rw [Oct.length_bytes] at hj; omega)
      rw [← e]
      exact decide_eq_true this)
    rw [List.length_take, Oct.length_bytes, Nat.min_eq_left hk] at h1
    have h2 : 10 ^ k ≤ 10 ^ 4 := Nat.pow_le_pow_right (by omega) (by omega)
    omega)
  have HE : Hid (s.data.toList.take s.size = s.data.toList) := Lib.hid (Oct.take_all s s.size (Nat.le_refl _))
  clear hd
  go_enter Tryz.func36, Tryz.ntmps36
  go_wp2
  go_loop [3, 4] (fun n i => ∃ k : Nat, k ≤ s.size ∧ i = .int .i64 k ∧ n = .int .i64 ((Oct.numOf (s.data.toList.take k) : Nat) : Int)) (fun _ i => s.size - (intOf i).toNat)
  case atStart => exact ⟨0, Nat.zero_le _, rfl, by simp [Oct.numOf]⟩
  case round =>
    obtain ⟨k, hk, rfl, rfl⟩ := hrel
    have hsm := HSm.out k hk
    by_cases hlt : k < s.size
    · obtain ⟨c1, c2⟩ := HD.out k hlt
      have HTk := Lib.hid (Oct.numOf_take s k hlt)
      generalize Oct.numOf (s.data.toList.take k) = n at *
      go_wp2
      go_round
      case rel => exact ⟨k + 1, by omega, by go_num, val_int (by rw [HTk.out]; omega)⟩
      case measure => simp [intOf]; omega
    · have hkL : k = s.size := by omega
      subst hkL
      rw [HE.out] at hsm
      rw [HE.out]
      go_wp2
      go_ret
      exact ⟨rfl, rfl⟩
end Go.Proofs.YtpimaobejjpffaaGreatDoor
