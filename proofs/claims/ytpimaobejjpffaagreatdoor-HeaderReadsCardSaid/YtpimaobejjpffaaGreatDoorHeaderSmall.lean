/- The walks of the small calls of package header. -/
import Derived.Test.YtpimaobejjpffaaGreatDoorHeaderRow
import Derived.Test.YtpimaobejjpffaaGreatDoorCutOne
import Derived.Test.YtpimaobejjpffaaGreatDoorTrim
import Derived.Test.YtpimaobejjpffaaGreatDoorOctets
import Derived.Shelf.Strings.SlTrimAscii
namespace Go.Proofs.YtpimaobejjpffaaGreatDoor
open Go.RowKit
set_option maxRecDepth 100000 in
set_option maxHeartbeats 1000000 in
theorem hasControl_calls (s : ByteArray) (w : World) (hs : s.size ≤ maxLen) :
    Calls Tryz.prog 8 #[.string s] w fun e w' => e = .returned (.bool (s.data.toList.any Hd.badB)) ∧ w = w' := by
  unfold maxLen at hs
  obtain ⟨B, hB⟩ : ∃ B, s.data.toList.any Hd.badB = B := ⟨_, rfl⟩
  rw [hB]
  have HBB := Lib.hid hB
  clear hB
  go_enter Tryz.func8, Tryz.ntmps8
  go_wp2
  go_loop [7] (fun i => ∃ k : Nat, k ≤ s.size ∧ i = .int .i64 k ∧ (s.data.toList.take k).any Hd.badB = false) (fun i => s.size - (intOf i).toNat)
  case atStart => exact ⟨0, Nat.zero_le _, rfl, by simp⟩
  case round =>
    obtain ⟨k, hk, rfl, hall⟩ := hrel
    have HA := Lib.hid hall
    clear hall
    by_cases hlt : k < s.size
    · have hl : k < s.data.toList.length := by rw [Oct.length_bytes]; exact hlt
      have HT := Lib.hid (Oct.take_snoc s k hlt)
      have HB := Lib.hid (show Hd.badB s[k] = true → B = true from fun h => HBB.out ▸ List.any_eq_true.2 ⟨s[k], by rw [← Oct.getElem_bytes s k hlt]; exact List.getElem_mem hl, h⟩)
      have HN := Lib.hid (show Hd.badB s[k] = false → (s.data.toList.take (k + 1)).any Hd.badB = false from fun h => by rw [HT.out, List.any_append, HA.out, List.any_cons, h]; rfl)
      have hbd : Hd.badB s[k] = decide (s[k].toNat ≤ 8 ∨ (10 ≤ s[k].toNat ∧ s[k].toNat ≤ 31) ∨ s[k].toNat = 127) := rfl
      have HD := Lib.hid hbd
      clear hbd HT HA
      have hor : ((s[k].toNat : Int) < 32 ∧ ((s[k].toNat : Int) != 9) = true) ∨ (¬ (s[k].toNat : Int) < 32 ∧ ((s[k].toNat : Int) == 127) = true) ∨ (¬ (s[k].toNat : Int) < 32 ∧ ((s[k].toNat : Int) == 127) = false) ∨ ((s[k].toNat : Int) < 32 ∧ ((s[k].toNat : Int) != 9) = false ∧ ((s[k].toNat : Int) == 127) = false) := by
        by_cases h1 : (s[k].toNat : Int) < 32
        · by_cases h2 : s[k].toNat = 9
          · exact .inr (.inr (.inr ⟨h1, by rw [h2]; rfl, by rw [h2]; rfl⟩))
          · exact .inl ⟨h1, by rw [bne_iff_ne]; omega⟩
        · by_cases h2 : s[k].toNat = 127
          · exact .inr (.inl ⟨h1, by rw [h2]; rfl⟩)
          · exact .inr (.inr (.inl ⟨h1, by rw [beq_eq_false_iff_ne]; omega⟩))
      rcases hor with ⟨h1, h2⟩ | ⟨h1, h2⟩ | ⟨h1, h2⟩ | ⟨h1, h2, h3⟩
      · have HR := Lib.hid (HB.out (by rw [HD.out]; rw [bne_iff_ne] at h2; exact decide_eq_true (by omega)))
        go_wp2
        go_ret
        exact ⟨ret_bool (by rw [HR.out]), rfl⟩
      · have HR := Lib.hid (HB.out (by rw [HD.out]; rw [beq_iff_eq] at h2; exact decide_eq_true (by omega)))
        go_wp2
        go_ret
        exact ⟨ret_bool (by rw [HR.out]), rfl⟩
      · have HR := Lib.hid (HN.out (by rw [HD.out]; rw [beq_eq_false_iff_ne] at h2; exact decide_eq_false (by omega)))
        go_wp2
        go_round
        case rel => exact ⟨k + 1, by omega, by go_num, HR.out⟩
        case measure => simp [intOf]; omega
      · have HR := Lib.hid (HN.out (by rw [HD.out]; rw [bne_eq_false_iff_eq] at h2; exact decide_eq_false (by omega)))
        go_wp2
        go_round
        case rel => exact ⟨k + 1, by omega, by go_num, HR.out⟩
        case measure => simp [intOf]; omega
    · have HR := Lib.hid (show B = false from by have := HA.out; rw [Oct.take_all s k (by omega)] at this; rw [← HBB.out]; exact this)
      go_wp2
      go_ret
      exact ⟨ret_bool (by rw [HR.out]), rfl⟩
/-! ### A pair -/
def SignPost (l : List UInt8) (w : World) (e : Ending) (w' : World) : Prop := e = .returned (.tuple #[.string ⟨(Hd.ahead l).toArray⟩, .string ⟨(Hd.behind l).toArray⟩, .bool (decide (61 ∈ l))]) ∧ Below w.heap.size w w'
theorem takeWhile_size (s : ByteArray) : (⟨(Lib.cut s.data.toList [61]).1.toArray⟩ : ByteArray).size ≤ s.size ∧ (⟨(Lib.cut s.data.toList [61]).2.1.toArray⟩ : ByteArray).size ≤ s.size := by
  have e : ∀ l : List UInt8, (⟨l.toArray⟩ : ByteArray).size = l.length := fun l => by show (List.toArray _).size = _; simp
  rw [e (Lib.cut s.data.toList [61]).1, e (Lib.cut s.data.toList [61]).2.1, Hd.cut_while, ← Oct.length_bytes s]
  have h1 := (List.takeWhile_prefix (Hd.notB 61) (l := s.data.toList)).length_le
  have h2 := (List.dropWhile_suffix (Hd.notB 61) (l := s.data.toList)).length_le
  exact ⟨h1, by show (List.drop 1 _).length ≤ _; rw [List.length_drop]; omega⟩
set_option maxRecDepth 100000 in
set_option maxHeartbeats 1000000 in
theorem cutSign_calls (s : ByteArray) (w : World) (hs : s.size ≤ maxLen) :
    Calls Tryz.prog 11 #[.string s] w (SignPost s.data.toList w) := by
  have HC := Lib.hid (fun W => cutOne_calls s 61 W hs)
  unfold CutPost at HC
  obtain ⟨z1, z2⟩ := takeWhile_size s
  obtain ⟨a, ha⟩ : ∃ a : ByteArray, (⟨(Lib.cut s.data.toList [61]).1.toArray⟩ : ByteArray) = a := ⟨_, rfl⟩
  obtain ⟨b, hb⟩ : ∃ b : ByteArray, (⟨(Lib.cut s.data.toList [61]).2.1.toArray⟩ : ByteArray) = b := ⟨_, rfl⟩
  obtain ⟨e1, e2, e3⟩ := Hd.cut_sign s.data.toList
  rw [ha, hb, e3] at HC
  rw [ha] at z1
  rw [hb] at z2
  have ha2 : a.data.toList = (Lib.cut s.data.toList [61]).1 := by rw [← ha]
  have hb2 : b.data.toList = (Lib.cut s.data.toList [61]).2.1 := by rw [← hb]
  have T1 := Lib.hid (fun W => trim_calls a W (Nat.le_trans z1 hs))
  have T2 := Lib.hid (fun W => trim_calls b W (Nat.le_trans z2 hs))
  rw [ha2, e1] at T1
  rw [hb2, e2] at T2
  clear ha hb ha2 hb2 e1 e2 e3 z1 z2
  unfold SignPost
  generalize decide (61 ∈ s.data.toList) = x at *
  generalize Hd.ahead s.data.toList = p at *
  generalize Hd.behind s.data.toList = q at *
  go_enter Tryz.func11, Tryz.ntmps11
  go_wp2_with fail
  refine (HC.out _).mono ?_
  rintro e w1 ⟨rfl, b1⟩
  go_wp2_with fail
  refine (T1.out _).mono ?_
  rintro e w2 ⟨rfl, rfl⟩
  go_wp2_with fail
  refine (T2.out _).mono ?_
  rintro e w3 ⟨rfl, rfl⟩
  go_wp2
  first | exact ⟨rfl, b1⟩ | (go_ret3; exact ⟨rfl, b1⟩)
def PairPost (l : List UInt8) (w : World) (e : Ending) (w' : World) : Prop := e = .returned (.tuple #[.string ⟨(Hd.pair l).1.toArray⟩, .string ⟨(Hd.pair l).2.toArray⟩]) ∧ Below w.heap.size w w'
set_option maxRecDepth 100000 in
set_option maxHeartbeats 1000000 in
theorem readPair_calls (s : ByteArray) (w : World) (hs : s.size ≤ maxLen) :
    Calls Tryz.prog 10 #[.string s] w (PairPost s.data.toList w) := by
  have HC := Lib.hid (fun W => cutSign_calls s W hs)
  unfold SignPost at HC
  have HP : Hid (∀ a b w', Hd.pair s.data.toList = (a, b) → Below w.heap.size w w' → PairPost s.data.toList w (.returned (.tuple #[.string ⟨a.toArray⟩, .string ⟨b.toArray⟩])) w') := Lib.hid (fun a b w' h k => by unfold PairPost; rw [h]; exact ⟨rfl, k⟩)
  generalize hpost : PairPost s.data.toList w = post at *
  clear hpost
  by_cases h : 61 ∈ s.data.toList
  · have HQ := Lib.hid (fun w' => HP.out _ _ w' (Hd.pair_sign h))
    rw [decide_eq_true h] at HC
    clear h HP
    generalize Hd.ahead s.data.toList = p at *
    generalize Hd.behind s.data.toList = q at *
    go_enter Tryz.func10, Tryz.ntmps10
    go_wp2_with fail
    refine (HC.out _).mono ?_
    rintro e w1 ⟨rfl, b1⟩
    go_wp2
    first | exact HQ.out _ b1 | (go_ret2; exact HQ.out _ b1)
  · have HQ := Lib.hid (fun w' => HP.out _ _ w' (Hd.pair_bare h))
    rw [decide_eq_false h] at HC
    clear h HP
    generalize Hd.ahead s.data.toList = p at *
    generalize Hd.behind s.data.toList = q at *
    go_enter Tryz.func10, Tryz.ntmps10
    go_wp2_with fail
    refine (HC.out _).mono ?_
    rintro e w1 ⟨rfl, b1⟩
    go_wp2
    first | exact HQ.out _ b1 | (go_ret2; exact HQ.out _ b1)
/-! ### Values of attributes -/
def AgePost (v : List UInt8) (w : World) (e : Ending) (w' : World) : Prop := e = .returned (.tuple #[.int .i64 (((Hd.ageOf v).getD 0 : Nat) : Int), .bool (Hd.ageOf v).isSome]) ∧ w = w'
set_option maxRecDepth 100000 in
set_option maxHeartbeats 2000000 in
theorem readAge_calls (s : ByteArray) (w : World) (hs : s.size ≤ 1048576) :
    Calls Tryz.prog 27 #[.string s] w (AgePost s.data.toList w) := by
  have HC := Lib.hid (fun W => Tryz.strings_CutPrefix s ⟨#[45]⟩ W)
  have e1 : (⟨#[45]⟩ : ByteArray).data.toList = [45] := rfl
  rw [e1, Hd.trim_one, Hd.has_one] at HC
  have HD := Lib.hid (fun W => digits_calls s W (by unfold maxLen; omega))
  have HP : Hid (∀ o : Option Nat, Hd.ageOf s.data.toList = o → AgePost s.data.toList w (.returned (.tuple #[.int .i64 ((o.getD 0 : Nat) : Int), .bool o.isSome])) w) := Lib.hid (fun o h => by unfold AgePost; rw [h]; exact ⟨rfl, rfl⟩)
  generalize hpost : AgePost s.data.toList w = post at *
  clear hpost e1
  by_cases h : s.data.toList.head? = some 45
  · have HA := Hd.age_minus h
    rw [if_pos h, decide_eq_true h] at HC
    have HE := Lib.hid (fun W => digits_calls ⟨(s.data.toList.drop 1).toArray⟩ W (by
      unfold maxLen
      have : (⟨(s.data.toList.drop 1).toArray⟩ : ByteArray).size = (s.data.toList.drop 1).length := by show (List.toArray _).size = _; simp
      rw [this, List.length_drop, Oct.length_bytes]; omega))
    have e2 : (⟨(s.data.toList.drop 1).toArray⟩ : ByteArray).data.toList = s.data.toList.drop 1 := rfl
    rw [e2] at HE
    have HQ : Hid (post (.returned (.tuple #[.int .i64 0, .bool (Oct.digits (s.data.toList.drop 1))])) w) := Lib.hid (by
      cases hd : Oct.digits (s.data.toList.drop 1) with
      | true => rw [hd, if_pos rfl] at HA; exact HP.out _ HA
      | false => rw [hd, if_neg (by simp)] at HA; exact HP.out _ HA)
    clear HP HA HD e2 h
    generalize Oct.digits (s.data.toList.drop 1) = d at *
    generalize (⟨(s.data.toList.drop 1).toArray⟩ : ByteArray) = r at *
    go_enter Tryz.func27, Tryz.ntmps27
    go_wp2_with fail
    refine (HC.out _).mono ?_
    rintro e w1 ⟨rfl, rfl⟩
    go_wp2_with fail
    refine (HE.out _).mono ?_
    rintro e w2 ⟨rfl, rfl⟩
    go_wp2
    first | exact HQ.out | (go_ret2; exact HQ.out)
  · have HA := Hd.age_plain h
    rw [if_neg h, decide_eq_false h, mk_bytes] at HC
    clear h
    cases hd : Oct.digits s.data.toList with
    | false =>
      rw [hd, if_neg (by simp)] at HA
      have HQ := Lib.hid (HP.out _ HA)
      rw [hd] at HD
      clear HA HP hd
      go_enter Tryz.func27, Tryz.ntmps27
      go_wp2_with fail
      refine (HC.out _).mono ?_
      rintro e w1 ⟨rfl, rfl⟩
      go_wp2_with fail
      refine (HD.out _).mono ?_
      rintro e w2 ⟨rfl, rfl⟩
      go_wp2
      first | exact HQ.out | (go_ret2; exact HQ.out)
    | true =>
      rw [hd, if_pos rfl] at HA
      have HQ : Hid (post (.returned (.tuple #[.int .i64 ((min (Oct.numOf s.data.toList) 34560000 : Nat) : Int), .bool true])) w) := Lib.hid (HP.out _ HA)
      have HDG := Lib.hid hd
      rw [hd] at HD
      clear HA HP hd
      go_enter Tryz.func27, Tryz.ntmps27
      go_wp2_with fail
      refine (HC.out _).mono ?_
      rintro e w1 ⟨rfl, rfl⟩
      go_wp2_with fail
      refine (HD.out _).mono ?_
      rintro e w2 ⟨rfl, rfl⟩
      go_wp2
      go_loop [6, 21] (fun n i => ∃ k : Nat, k ≤ s.size ∧ i = .int .i64 k ∧ n = .int .i64 ((Hd.held s.data.toList k : Nat) : Int)) (fun _ i => s.size - (intOf i).toNat)
      case atStart => exact ⟨0, Nat.zero_le _, rfl, by rw [Hd.held_zero]; rfl⟩
      case round =>
        obtain ⟨k, hk, rfl, rfl⟩ := hrel
        by_cases hlt : k < s.size
        · have hc := Oct.digits_at HDG.out k hlt
          have HT := Lib.hid (Hd.held_step s k hlt)
          have hb := Hd.held_le s.data.toList k
          generalize Hd.held s.data.toList k = n at *
          go_wp2
          go_round
          case rel => exact ⟨k + 1, by omega, by go_num, val_int (by have := HT.out; omega)⟩
          case measure => simp [intOf]; omega
        · have e := Hd.held_end s k (by omega)
          rw [← e] at HQ
          have HR := HQ
          clear e HQ
          generalize Hd.held s.data.toList k = n at *
          go_wp2
          first | exact HR.out | (go_ret2; exact HR.out)
set_option maxRecDepth 100000 in
set_option maxHeartbeats 1000000 in
theorem readPath_calls (s : ByteArray) (w : World) :
    Calls Tryz.prog 30 #[.string s] w fun e w' => e = .returned (.string ⟨(if s.data.toList.head? = some 47 then s.data.toList else []).toArray⟩) ∧ w = w' := by
  have HC := Lib.hid (fun W => Tryz.strings_HasPrefix s ⟨#[47]⟩ W)
  have e1 : (⟨#[47]⟩ : ByteArray).data.toList = [47] := rfl
  rw [e1, Hd.has_one] at HC
  clear e1
  by_cases h : s.data.toList.head? = some 47
  · rw [if_pos h, mk_bytes]
    rw [decide_eq_true h] at HC
    clear h
    go_enter Tryz.func30, Tryz.ntmps30
    go_wp2_with fail
    refine (HC.out _).mono ?_
    rintro e w1 ⟨rfl, rfl⟩
    go_wp2
    go_ret
    exact ⟨rfl, rfl⟩
  · rw [if_neg h]
    rw [decide_eq_false h] at HC
    clear h
    go_enter Tryz.func30, Tryz.ntmps30
    go_wp2_with fail
    refine (HC.out _).mono ?_
    rintro e w1 ⟨rfl, rfl⟩
    go_wp2
    go_ret
    exact ⟨rfl, rfl⟩
end Go.Proofs.YtpimaobejjpffaaGreatDoor
