/- The walks of the small calls of the reference's header: cut, ahead, after, age. -/
import Derived.Test.YtpimaobejjpffaaGreatDoorHeaderRow
import Derived.Test.YtpimaobejjpffaaGreatDoorTrim
import Derived.Test.YtpimaobejjpffaaGreatDoorOctets
namespace Go.Proofs.YtpimaobejjpffaaGreatDoor
open Go.RowKit
namespace Hd
def cutAt (l : List UInt8) : Nat := (l.takeWhile otherB).length
theorem cutAt_le (l : List UInt8) : cutAt l ≤ l.length := (List.takeWhile_prefix _).length_le
theorem cutAt_take : ∀ l : List UInt8, l.take (cutAt l) = l.takeWhile otherB ∧ l.drop (cutAt l) = l.dropWhile otherB
  | [] => ⟨rfl, rfl⟩
  | c :: l => by
    obtain ⟨h1, h2⟩ := cutAt_take l
    unfold cutAt at h1 h2 ⊢
    cases h : otherB c with
    | true =>
      rw [List.takeWhile_cons_of_pos h, List.dropWhile_cons_of_pos h, List.length_cons, List.take_succ_cons, List.drop_succ_cons, h1, h2]
      exact ⟨rfl, rfl⟩
    | false =>
      rw [List.takeWhile_cons_of_neg (by rw [h]; simp), List.dropWhile_cons_of_neg (by rw [h]; simp)]
      exact ⟨rfl, rfl⟩
theorem cutAt_yes : ∀ {l : List UInt8} {k : Nat} (h : k < l.length), (∀ c ∈ l.take k, otherB c = true) → otherB l[k] = false → cutAt l = k
  | c :: l, 0, h, _, hc => by
    unfold cutAt
    rw [List.takeWhile_cons_of_neg (by rw [show otherB c = false from hc]; simp)]; rfl
  | c :: l, k + 1, h, ha, hc => by
    have ih := cutAt_yes (l := l) (k := k) (by simpa using h) (fun x hx => ha x (by rw [List.take_succ_cons]; exact List.mem_cons_of_mem _ hx)) (by simpa using hc)
    have h0 : otherB c = true := ha c (by rw [List.take_succ_cons]; exact List.mem_cons_self)
    unfold cutAt at ih ⊢
    rw [List.takeWhile_cons_of_pos h0, List.length_cons, ih]
theorem cutAt_no {l : List UInt8} (h : ∀ c ∈ l, otherB c = true) : cutAt l = l.length := by
  unfold cutAt
  rw [(takeWhile_none fun c hc => (otherB_eq c).1 (h c hc)).1]
theorem ahead_cut (l : List UInt8) : Oct.trim (l.take (cutAt l)) = ahead l := by unfold ahead; rw [(cutAt_take l).1]
theorem behind_cut (l : List UInt8) : Oct.trim (l.drop (cutAt l + 1)) = behind l := by
  unfold behind
  rw [← (cutAt_take l).2, List.drop_drop]
theorem behind_none {l : List UInt8} (h : cutAt l = l.length) : behind l = [] := by
  rw [← behind_cut, h, List.drop_eq_nil_of_le (by omega)]; rfl
theorem sign_cut (l : List UInt8) : 61 ∈ l ↔ cutAt l ≠ l.length := by
  constructor
  · intro h e
    have h2 := (cutAt_take l).1
    rw [e, List.take_length] at h2
    have := takeWhile_no l 61 (by rw [← h2]; exact h)
    exact this rfl
  · intro h
    refine Decidable.byContradiction fun k => h ?_
    exact cutAt_no fun c hc => (otherB_eq c).2 fun e => k (by rw [← e]; exact hc)
end Hd
set_option maxRecDepth 100000 in
set_option maxHeartbeats 1000000 in
theorem refCut_calls (s : ByteArray) (w : World) (hs : s.size ≤ maxLen) :
    Calls Tryz.prog 16 #[.string s] w fun e w' => e = .returned (.int .i64 ((Hd.cutAt s.data.toList : Nat) : Int)) ∧ w = w' := by
  unfold maxLen at hs
  have hl := Oct.length_bytes s
  have HY := Lib.hid (fun k h => @Hd.cutAt_yes s.data.toList k h)
  have HN := Lib.hid (@Hd.cutAt_no s.data.toList)
  generalize Hd.cutAt s.data.toList = n at *
  go_enter Tryz.func16, Tryz.ntmps16
  go_wp2
  go_loop [3] (fun i => ∃ k : Nat, k ≤ s.size ∧ i = .int .i64 k ∧ (∀ c ∈ s.data.toList.take k, Hd.otherB c = true)) (fun i => s.size - (intOf i).toNat)
  case atStart => exact ⟨0, Nat.zero_le _, rfl, by simp⟩
  case round =>
    obtain ⟨k, hk, rfl, hall⟩ := hrel
    have HA := Lib.hid hall
    clear hall
    by_cases hlt : k < s.size
    · have htk := Oct.take_snoc s k hlt
      by_cases hc : s[k] = 61
      · have e1 : ((s[k].toNat : Int) == 61) = true := by rw [hc]; rfl
        have HR : Hid (n = k) := Lib.hid (HY.out k (by rw [hl]; exact hlt) HA.out (by rw [Oct.getElem_bytes s k hlt, hc]; rfl))
        clear hc htk
        go_wp2
        go_ret
        exact ⟨ret_int (by rw [HR.out]), rfl⟩
      · have e1 : ((s[k].toNat : Int) == 61) = false := by
          rw [beq_eq_false_iff_ne]
          intro e
          exact hc (Oct.eq_of_toNat (by show s[k].toNat = 61; omega))
        have HR : Hid (∀ c ∈ s.data.toList.take (k + 1), Hd.otherB c = true) := Lib.hid (by
          rw [htk]
          intro c hx
          rcases List.mem_append.1 hx with h | h
          · exact HA.out c h
          · rw [List.mem_singleton.1 h]; exact (Hd.otherB_eq _).2 hc)
        clear hc htk
        go_wp2
        go_round
        case rel => exact ⟨k + 1, by omega, by go_num, HR.out⟩
        case measure => simp [intOf]; omega
    · have HR : Hid (n = s.size) := Lib.hid (by
        have h := HA.out
        rw [Oct.take_all s k (by omega)] at h
        rw [HN.out h, hl])
      go_wp2
      go_ret
      exact ⟨ret_int (by rw [HR.out]), rfl⟩
def TextIs (l : List UInt8) (w : World) (e : Ending) (w' : World) : Prop := e = .returned (.string ⟨l.toArray⟩) ∧ w = w'
set_option maxRecDepth 100000 in
set_option maxHeartbeats 1000000 in
theorem refAhead_calls (s : ByteArray) (w : World) (hs : s.size ≤ 1099511627776) :
    Calls Tryz.prog 14 #[.string s] w (TextIs (Hd.ahead s.data.toList) w) := by
  have H1 := Lib.hid (fun W => refCut_calls s W (by unfold maxLen; omega))
  have hle := Hd.cutAt_le s.data.toList
  rw [Oct.length_bytes] at hle
  have H2 := Lib.hid (fun W => refTrim_calls (s.extract 0 (Hd.cutAt s.data.toList)) W (by rw [ByteArray.size_extract]; unfold maxLen; omega))
  have e : (s.extract 0 (Hd.cutAt s.data.toList)).data.toList = s.data.toList.take (Hd.cutAt s.data.toList) := by rw [extract_take]
  rw [e, Hd.ahead_cut] at H2
  unfold TextIs
  generalize Hd.ahead s.data.toList = r at *
  generalize Hd.cutAt s.data.toList = n at *
  have c1 : (n : Int) ≤ (s.size : Int) := by omega
  clear e
  go_enter Tryz.func14, Tryz.ntmps14
  go_wp2_with fail
  refine (H1.out _).mono ?_
  rintro e w1 ⟨rfl, rfl⟩
  go_wp2_with fail
  refine (H2.out _).mono ?_
  rintro e w2 ⟨rfl, rfl⟩
  go_wp2
  go_ret
  exact ⟨rfl, rfl⟩
set_option maxRecDepth 100000 in
set_option maxHeartbeats 1000000 in
theorem refAfter_calls (s : ByteArray) (w : World) (hs : s.size ≤ 1099511627776) :
    Calls Tryz.prog 15 #[.string s] w (TextIs (Hd.behind s.data.toList) w) := by
  have H1 := Lib.hid (fun W => refCut_calls s W (by unfold maxLen; omega))
  have hle := Hd.cutAt_le s.data.toList
  have hl := Oct.length_bytes s
  have HB := Lib.hid (@Hd.behind_none s.data.toList)
  have H2 := Lib.hid (fun W => refTrim_calls (s.extract (Hd.cutAt s.data.toList + 1) s.size) W (by rw [ByteArray.size_extract]; unfold maxLen; omega))
  have e : (s.extract (Hd.cutAt s.data.toList + 1) s.size).data.toList = s.data.toList.drop (Hd.cutAt s.data.toList + 1) := by rw [extract_drop]
  rw [e, Hd.behind_cut] at H2
  unfold TextIs
  rw [hl] at hle HB
  generalize Hd.behind s.data.toList = r at *
  generalize Hd.cutAt s.data.toList = n at *
  clear e hl
  by_cases hn : n = s.size
  · have HR := Lib.hid (HB.out hn)
    subst hn
    have e1 : ((s.size : Int) == (s.size : Int)) = true := by simp
    clear hle HB
    go_enter Tryz.func15, Tryz.ntmps15
    go_wp2_with fail
    refine (H1.out _).mono ?_
    rintro e w1 ⟨rfl, rfl⟩
    go_wp2
    go_ret
    exact ⟨ret_str (by rw [HR.out]), rfl⟩
  · have e1 : ((n : Int) == (s.size : Int)) = false := by rw [beq_eq_false_iff_ne]; omega
    have c1 : (n : Int) + 1 ≤ (s.size : Int) := by omega
    clear hn HB
    go_enter Tryz.func15, Tryz.ntmps15
    go_wp2_with fail
    refine (H1.out _).mono ?_
    rintro e w1 ⟨rfl, rfl⟩
    go_wp2_with fail
    refine (H2.out _).mono ?_
    rintro e w2 ⟨rfl, rfl⟩
    go_wp2
    go_ret
    exact ⟨rfl, rfl⟩
def RefAgePost (v : List UInt8) (w : World) (e : Ending) (w' : World) : Prop := e = .returned (.tuple #[.int .i64 (((Hd.ageOf v).getD 0 : Nat) : Int), .bool (Hd.ageOf v).isSome]) ∧ w = w'
set_option maxRecDepth 100000 in
set_option maxHeartbeats 2000000 in
theorem refAge_calls (s : ByteArray) (w : World) (hs : s.size ≤ 1048576) :
    Calls Tryz.prog 20 #[.string s] w (RefAgePost s.data.toList w) := by
  have HD := Lib.hid (fun W => refDigits_calls s W (by unfold maxLen; omega))
  have HP : Hid (∀ o : Option Nat, Hd.ageOf s.data.toList = o → RefAgePost s.data.toList w (.returned (.tuple #[.int .i64 ((o.getD 0 : Nat) : Int), .bool o.isSome])) w) := Lib.hid (fun o h => by unfold RefAgePost; rw [h]; exact ⟨rfl, rfl⟩)
  generalize hpost : RefAgePost s.data.toList w = post at *
  clear hpost
  by_cases h : s.data.toList.head? = some 45
  · have HA := Hd.age_minus h
    have hs0 : 0 < s.size := by
      rw [← Oct.length_bytes]
      cases hh : s.data.toList with
      | nil => rw [hh] at h; cases h
      | cons a r => simp
    have h0 := Oct.head_bytes s hs0
    rw [h] at h0
    have e1 : ((s[0].toNat : Int) == 45) = true := by rw [← Option.some.inj h0]; rfl
    have c0 : (0 : Int) < (s.size : Int) := by omega
    have c1 : (1 : Int) ≤ (s.size : Int) := by omega
    have HE := Lib.hid (fun W => refDigits_calls (s.extract 1 s.size) W (by rw [ByteArray.size_extract]; unfold maxLen; omega))
    have e2 : (s.extract 1 s.size).data.toList = s.data.toList.drop 1 := by rw [extract_drop]
    rw [e2] at HE
    have HQ : Hid (post (.returned (.tuple #[.int .i64 0, .bool (Oct.digits (s.data.toList.drop 1))])) w) := Lib.hid (by
      cases hd : Oct.digits (s.data.toList.drop 1) with
      | true => rw [hd, if_pos rfl] at HA; exact HP.out _ HA
      | false => rw [hd, if_neg (by simp)] at HA; exact HP.out _ HA)
    clear HP HA HD e2 h h0
    generalize Oct.digits (s.data.toList.drop 1) = d at *
    go_enter Tryz.func20, Tryz.ntmps20
    go_wp2_with fail
    refine (HE.out _).mono ?_
    rintro e w2 ⟨rfl, rfl⟩
    go_wp2
    first | exact HQ.out | (go_ret2; exact HQ.out)
  · have HA := Hd.age_plain h
    have hor : (¬ (0 : Int) < (s.size : Int)) ∨ ((0 : Int) < (s.size : Int) ∧ ∃ h0 : 0 < s.size, ((s[0].toNat : Int) == 45) = false) := by
      by_cases h0 : 0 < s.size
      · refine .inr ⟨by omega, h0, ?_⟩
        rw [beq_eq_false_iff_ne]
        intro e
        have hb := Oct.head_bytes s h0
        have : s[0] = 45 := Oct.eq_of_toNat (by show s[0].toNat = 45; omega)
        rw [this] at hb
        exact h hb
      · exact .inl (by omega)
    clear h
    cases hd : Oct.digits s.data.toList with
    | false =>
      rw [hd, if_neg (by simp)] at HA
      have HQ := Lib.hid (HP.out _ HA)
      rw [hd] at HD
      clear HA HP hd
      rcases hor with k1 | ⟨k1, k2, k3⟩
      all_goals
        go_enter Tryz.func20, Tryz.ntmps20
        go_wp2_with fail
        refine (HD.out _).mono ?_
        rintro e w2 ⟨rfl, rfl⟩
        go_wp2
        first | exact HQ.out | (go_ret2; exact HQ.out)
    | true =>
      rw [hd, if_pos rfl] at HA
      have HQ : Hid (post (.returned (.tuple #[.int .i64 ((min (Oct.numOf s.data.toList) 34560000 : Nat) : Int), .bool true])) w) := Lib.hid (HP.out _ HA)
      have HDG := Lib.hid hd
      rw [hd] at HD
      clear HA HP
      have hpos := Oct.digits_pos hd
      clear hd
      rcases hor with k1 | ⟨k1, k2, k3⟩
      · exfalso; omega
      go_enter Tryz.func20, Tryz.ntmps20
      go_wp2_with fail
      refine (HD.out _).mono ?_
      rintro e w2 ⟨rfl, rfl⟩
      go_wp2
      go_loop [4, 5] (fun n i => ∃ k : Nat, k ≤ s.size ∧ i = .int .i64 k ∧ n = .int .i64 ((Hd.held s.data.toList k : Nat) : Int)) (fun _ i => s.size - (intOf i).toNat)
      case atStart => exact ⟨0, Nat.zero_le _, rfl, by rw [Hd.held_zero]; rfl⟩
      case round =>
        obtain ⟨k, hk, rfl, rfl⟩ := hrel
        by_cases hlt : k < s.size
        · have hc := Oct.digits_at HDG.out k hlt
          have HT := Lib.hid (Hd.held_step s k hlt)
          have hb := Hd.held_le s.data.toList k
          generalize Hd.held s.data.toList k = n at *
          by_cases hbig : (34560000 : Int) < (n : Int) * 10 + (s[k].toNat : Int) - 48
          · go_wp2
            go_round
            case rel => exact ⟨k + 1, by omega, by go_num, val_int (by have := HT.out; omega)⟩
            case measure => simp [intOf]; omega
          · go_wp2
            go_round
            case rel => exact ⟨k + 1, by omega, by go_num, val_int (by have := HT.out; omega)⟩
            case measure => simp [intOf]; omega
        · have e := Hd.held_end s k (by omega)
          rw [← e] at HQ
          clear e
          generalize Hd.held s.data.toList k = n at *
          go_wp2
          first | exact HQ.out | (go_ret2; exact HQ.out)
end Go.Proofs.YtpimaobejjpffaaGreatDoor
