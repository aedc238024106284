/- The walks of monthLength and Days, and of the reference's Length, Is and Days. -/
import Derived.Test.YtpimaobejjpffaaGreatDoorDateSmall
namespace Go.Proofs.YtpimaobejjpffaaGreatDoor
open Go.RowKit
set_option maxHeartbeats 1000000 in
theorem monthLength_calls (y : Int) (m : Nat) (w : World) (hw : Cal w) (h1 : 0 ≤ y) (m1 : 1 ≤ m) (m2 : m ≤ 12) :
    Calls Tryz.prog 86 #[.int .i64 y, .int .i64 (m : Int)] w fun e w' => e = .returned (.int .i64 (Dt.len (Dt.leap y) m)) ∧ w = w' := by
  have HC := Lib.hid (fun W => leap_calls y W h1)
  have hc := hw.len m m1 m2
  have hm : ((m : Int) - 1).toNat = m - 1 := by omega
  have HF : Hid (Dt.len (Dt.leap y) m = Dt.len false m + if m = 2 ∧ Dt.leap y = true then 1 else 0) := Lib.hid (by
    have : m = 1 ∨ m = 2 ∨ m = 3 ∨ m = 4 ∨ m = 5 ∨ m = 6 ∨ m = 7 ∨ m = 8 ∨ m = 9 ∨ m = 10 ∨ m = 11 ∨ m = 12 := by omega
    rcases this with rfl | rfl | rfl | rfl | rfl | rfl | rfl | rfl | rfl | rfl | rfl | rfl <;> cases Dt.leap y <;> decide)
  have hb := Dt.len_bounds false m
  generalize Dt.len (Dt.leap y) m = r at *
  generalize Dt.len false m = n at *
  by_cases k : m = 2
  · subst k
    cases hl : Dt.leap y
    all_goals
      rw [hl] at HC HF
      go_enter Tryz.func86, Tryz.ntmps86
      go_wp2_with (go_at_call 100; refine (HC.out _).mono ?_; rintro e w' ⟨rfl, rfl⟩)
      go_ret
      exact ⟨ret_int (by rw [HF.out]; simp), rfl⟩
  · have k2 : ((m : Int) == 2) = false := by rw [beq_eq_false_iff_ne]; omega
    have HK := Lib.hid k
    clear k
    go_enter Tryz.func86, Tryz.ntmps86
    go_wp2
    go_ret
    exact ⟨ret_int (by rw [HF.out, if_neg (fun h => HK.out h.1)]; omega), rfl⟩
set_option maxHeartbeats 1000000 in
theorem refLength_calls (y m : Int) (w : World) (h1 : 0 ≤ y) :
    Calls Tryz.prog 57 #[.int .i64 y, .int .i64 m] w fun e w' => e = .returned (.int .i64 (Dt.len (Dt.leap y) m)) ∧ w = w' := by
  have HC := Lib.hid (fun W => refLeap_calls y W h1)
  have HF : Hid (Dt.len (Dt.leap y) m = if m = 4 ∨ m = 6 ∨ m = 9 ∨ m = 11 then 30 else if m = 2 then (if Dt.leap y = true then 29 else 28) else 31) := Lib.hid rfl
  generalize Dt.len (Dt.leap y) m = r at *
  by_cases k : m = 4 ∨ m = 6 ∨ m = 9 ∨ m = 11
  · rcases k with rfl | rfl | rfl | rfl
    all_goals
      go_enter Tryz.func57, Tryz.ntmps57
      go_wp2
      go_ret
      exact ⟨ret_int (by rw [HF.out]; simp), rfl⟩
  · have k4 : (m == 4) = false := by rw [beq_eq_false_iff_ne]; omega
    have k6 : (m == 6) = false := by rw [beq_eq_false_iff_ne]; omega
    have k9 : (m == 9) = false := by rw [beq_eq_false_iff_ne]; omega
    have k11 : (m == 11) = false := by rw [beq_eq_false_iff_ne]; omega
    have HK := Lib.hid k
    clear k
    by_cases k2 : m = 2
    · subst k2
      cases hl : Dt.leap y
      all_goals
        rw [hl] at HC HF
        go_enter Tryz.func57, Tryz.ntmps57
        go_wp2_with (go_at_call 81; refine (HC.out _).mono ?_; rintro e w' ⟨rfl, rfl⟩)
        go_ret
        exact ⟨ret_int (by rw [HF.out]; simp), rfl⟩
    · have k2b : (m == 2) = false := by rw [beq_eq_false_iff_ne]; omega
      have HK2 := Lib.hid k2
      clear k2
      go_enter Tryz.func57, Tryz.ntmps57
      go_wp2
      go_ret
      exact ⟨ret_int (by rw [HF.out, if_neg HK.out, if_neg HK2.out]), rfl⟩
set_option maxHeartbeats 2000000 in
theorem refIs_calls (y m d : Int) (w : World) :
    Calls Tryz.prog 38 #[.int .i64 y, .int .i64 m, .int .i64 d] w fun e w' => e = .returned (.bool (decide (Dt.Is y m d))) ∧ w = w' := by
  have HD : Hid (decide (Dt.Is y m d) = decide (1601 ≤ y ∧ y ≤ 9999 ∧ 1 ≤ m ∧ m ≤ 12 ∧ 1 ≤ d ∧ d ≤ Dt.len (Dt.leap y) m)) := Lib.hid rfl
  generalize decide (Dt.Is y m d) = r at *
  by_cases k1 : (1601 : Int) ≤ y
  · by_cases k2 : y ≤ (9999 : Int)
    · have HC := Lib.hid (fun W => refLength_calls y m W (by omega))
      generalize Dt.len (Dt.leap y) m = n at *
      by_cases k3 : (1 : Int) ≤ m
      · by_cases k4 : m ≤ (12 : Int)
        · by_cases k5 : (1 : Int) ≤ d
          · by_cases k6 : d ≤ n
            · have HR : Hid (r = true) := Lib.hid (by rw [HD.out]; exact decide_eq_true ⟨k1, k2, k3, k4, k5, k6⟩)
              go_enter Tryz.func38, Tryz.ntmps38
              go_wp2_with (go_at_call 57; refine (HC.out _).mono ?_; rintro e w' ⟨rfl, rfl⟩)
              go_ret
              exact ⟨ret_bool (by rw [HR.out]), rfl⟩
            · have HR : Hid (r = false) := Lib.hid (by rw [HD.out]; exact decide_eq_false (by omega))
              go_enter Tryz.func38, Tryz.ntmps38
              go_wp2_with (go_at_call 57; refine (HC.out _).mono ?_; rintro e w' ⟨rfl, rfl⟩)
              go_ret
              exact ⟨ret_bool (by rw [HR.out]; exact decide_eq_false (by omega)), rfl⟩
          · have HR : Hid (r = false) := Lib.hid (by rw [HD.out]; exact decide_eq_false (by omega))
            go_enter Tryz.func38, Tryz.ntmps38
            go_wp2
            go_ret
            exact ⟨ret_bool (by rw [HR.out]), rfl⟩
        · have HR : Hid (r = false) := Lib.hid (by rw [HD.out]; exact decide_eq_false (by omega))
          go_enter Tryz.func38, Tryz.ntmps38
          go_wp2
          go_ret
          exact ⟨ret_bool (by rw [HR.out]), rfl⟩
      · have HR : Hid (r = false) := Lib.hid (by rw [HD.out]; exact decide_eq_false (by omega))
        go_enter Tryz.func38, Tryz.ntmps38
        go_wp2
        go_ret
        exact ⟨ret_bool (by rw [HR.out]), rfl⟩
    · have HR : Hid (r = false) := Lib.hid (by rw [HD.out]; exact decide_eq_false (by omega))
      go_enter Tryz.func38, Tryz.ntmps38
      go_wp2
      go_ret
      exact ⟨ret_bool (by rw [HR.out]), rfl⟩
  · have HR : Hid (r = false) := Lib.hid (by rw [HD.out]; exact decide_eq_false (by omega))
    go_enter Tryz.func38, Tryz.ntmps38
    go_wp2
    go_ret
    exact ⟨ret_bool (by rw [HR.out]), rfl⟩
namespace Dt
/-- What Days answers. -/
def daysO (y m d : Int) : Int × Bool := if Is y m d then (days y m d, true) else (0, false)
theorem daysO_no {y m d : Int} (h : ¬ Is y m d) : daysO y m d = (0, false) := if_neg h
theorem daysO_yes {y m d : Int} (h : Is y m d) : daysO y m d = (days y m d, true) := if_pos h
end Dt
def DaysPost (o : Int × Bool) (w : World) (e : Ending) (w' : World) : Prop := e = .returned (.tuple #[.int .i64 o.1, .bool o.2]) ∧ w = w'
theorem days_post {o : Int × Bool} {n : Int} {b : Bool} (h : o = (n, b)) (w : World) : DaysPost o w (.returned (.tuple #[.int .i64 n, .bool b])) w := by subst h; exact ⟨rfl, rfl⟩
set_option maxHeartbeats 2000000 in
theorem days_calls (y m d : Int) (w : World) (hw : Cal w) :
    Calls Tryz.prog 78 #[.int .i64 y, .int .i64 m, .int .i64 d] w (DaysPost (Dt.daysO y m d) w) := by
  by_cases hy : 1601 ≤ y ∧ y ≤ 9999 ∧ 1 ≤ m ∧ m ≤ 12
  · obtain ⟨y1, y2, m1, m2⟩ := hy
    obtain ⟨k, hk⟩ : ∃ k : Nat, m = k := ⟨m.toNat, by omega⟩
    subst hk
    have HM := Lib.hid (fun (j : Nat) W hW => monthLength_calls y j W hW (by omega))
    have HN := Lib.hid (fun W => newYear_calls y W (by omega) (by omega))
    have hb := Dt.before_mono (y := 1601) (z := y) y1
    have hb2 := Dt.before_mono (y := y) (z := 10000) (by omega)
    rw [Dt.before_first] at hb
    rw [Dt.before_last] at hb2
    have hlb := Dt.len_bounds (Dt.leap y) k
    by_cases d1 : 1 ≤ d
    · by_cases d2 : d ≤ Dt.len (Dt.leap y) k
      · have HR := Lib.hid (Dt.daysO_yes (show Dt.Is y k d from ⟨y1, y2, m1, m2, d1, d2⟩))
        have HS := Lib.hid (fun (j : Nat) (h1 : (1 : Int) ≤ j) (h2 : (j : Int) ≤ 11) => Dt.mon_step (Dt.leap y) h1 h2)
        have HF := Lib.hid (Dt.mon_first (Dt.leap y))
        have HB := Lib.hid (fun (j : Int) => Dt.mon_bounds y (m := j))
        have HL := Lib.hid (fun (j : Nat) => Dt.len_bounds (Dt.leap y) j)
        have HD : Hid (Dt.days y k d = Dt.before y - 134774 + Dt.mon (Dt.leap y) k + d - 1) := Lib.hid rfl
        generalize Dt.days y k d = D at *
        generalize Dt.daysO y k d = R at *
        have hYb : -134774 ≤ Dt.before y - 134774 ∧ Dt.before y - 134774 ≤ 3000000 := by omega
        generalize Dt.before y - 134774 = Y at *
        generalize hlp : Dt.leap y = lp at *
        go_enter Tryz.func78, Tryz.ntmps78
        go_wp2_with (first
          | (go_at_call 86; refine (HM.out k _ hw (by omega) (by omega)).mono ?_; rintro e w' ⟨rfl, rfl⟩)
          | (go_at_call 63; refine (HN.out _).mono ?_; rintro e w' ⟨rfl, rfl⟩))
        go_loop [8, 9] (fun s i => ∃ j : Nat, 1 ≤ j ∧ j ≤ k ∧ i = .int .i64 j ∧ s = .int .i64 (Y + (d - 1) + Dt.mon lp j)) (fun _ i => k - (intOf i).toNat)
        case atStart => exact ⟨1, Nat.le_refl _, by omega, rfl, val_int (by show _ = _ + Dt.mon lp 1; rw [HF.out]; omega)⟩
        case round =>
          obtain ⟨j, j1, j2, rfl, rfl⟩ := hrel
          have hmb := HB.out j (by omega) (by omega)
          have hlb2 := HL.out j
          by_cases hlt : j < k
          · have hs := HS.out j (by omega) (by omega)
            have HSS := Lib.hid hs
            clear hs
            generalize Dt.mon lp j = x at *
            have HMM := Lib.hid (fun W hW => HM.out j W hW (by omega) (by omega))
            generalize Dt.len lp j = z at *
            go_wp2_with (go_at_call 86; refine (HMM.out _ hw).mono ?_; rintro e w' ⟨rfl, rfl⟩)
            go_round
            case rel => exact ⟨j + 1, by omega, by omega, by go_num, val_int (by show _ = _ + Dt.mon lp ((j : Int) + 1); rw [HSS.out]; omega)⟩
            case measure => simp [intOf]; omega
          · have hjk : j = k := by omega
            subst hjk
            go_wp2
            go_ret2
            exact days_post (HR.out.trans (by rw [HD.out]; congr 1; omega)) _
      · have HR := Lib.hid (Dt.daysO_no (show ¬ Dt.Is y k d from fun h => d2 h.2.2.2.2.2))
        generalize Dt.daysO y k d = R at *
        generalize Dt.before y - 134774 = Y at *
        have HMM := Lib.hid (fun W hW => HM.out k W hW (by omega) (by omega))
        generalize Dt.len (Dt.leap y) k = z at *
        go_enter Tryz.func78, Tryz.ntmps78
        go_wp2_with (go_at_call 86; refine (HMM.out _ hw).mono ?_; rintro e w' ⟨rfl, rfl⟩)
        go_ret2
        exact days_post HR.out _
    · have HR := Lib.hid (Dt.daysO_no (show ¬ Dt.Is y k d from fun h => d1 h.2.2.2.2.1))
      generalize Dt.daysO y k d = R at *
      go_enter Tryz.func78, Tryz.ntmps78
      go_wp2
      go_ret2
      exact days_post HR.out _
  · have HR := Lib.hid (Dt.daysO_no (show ¬ Dt.Is y m d from fun h => hy ⟨h.1, h.2.1, h.2.2.1, h.2.2.2.1⟩))
    generalize Dt.daysO y m d = R at *
    have hor : y < 1601 ∨ (¬ y < 1601 ∧ (9999 : Int) < y) ∨ (¬ y < 1601 ∧ ¬ (9999 : Int) < y ∧ m < 1) ∨ (¬ y < 1601 ∧ ¬ (9999 : Int) < y ∧ ¬ m < 1 ∧ (12 : Int) < m) := by omega
    clear hy
    rcases hor with h1 | ⟨h1, h2⟩ | ⟨h1, h2, h3⟩ | ⟨h1, h2, h3, h4⟩
    all_goals
      go_enter Tryz.func78, Tryz.ntmps78
      go_wp2
      go_ret2
      exact days_post HR.out _
set_option maxHeartbeats 4000000 in
theorem refDays_calls (y m d : Int) (w : World) :
    Calls Tryz.prog 39 #[.int .i64 y, .int .i64 m, .int .i64 d] w (DaysPost (Dt.daysO y m d) w) := by
  have HI := Lib.hid (fun W => refIs_calls y m d W)
  by_cases h : Dt.Is y m d
  · rw [decide_eq_true h] at HI
    have hh := h
    have HR := Lib.hid (Dt.daysO_yes h)
    have hlb := Dt.len_bounds (Dt.leap y) m
    obtain ⟨y1, y2, m1, m2, d1, d2⟩ := hh
    obtain ⟨k, hk⟩ : ∃ k : Nat, m = k := ⟨m.toNat, by omega⟩
    obtain ⟨n, hn⟩ : ∃ n : Nat, y = n := ⟨y.toNat, by omega⟩
    subst hk hn
    obtain ⟨K, hK⟩ : ∃ K : Nat, K = if n ≤ 1970 then 1970 else n := ⟨_, rfl⟩
    have hK1 : 1970 ≤ K := by rw [hK]; split <;> omega
    have hK2 : n ≤ K := by rw [hK]; split <;> omega
    have hK3 : K ≤ 9999 := by rw [hK]; split <;> omega
    have hK4 : ∀ j : Nat, 1970 ≤ j → ¬ (j : Int) < (n : Int) → j ≤ K → j = K := fun j h1 h2 h3 => by rw [hK] at h3 ⊢; split at h3 <;> split <;> omega
    have hK5 : ∀ j : Nat, n ≤ j → ¬ (j : Int) < (1970 : Int) → j ≤ K → j = K := fun j h1 h2 h3 => by rw [hK] at h3 ⊢; split at h3 <;> split <;> omega
    have hK6 : ∀ j : Nat, j < n → j + 1 ≤ K := fun j h => by omega
    clear hK
    have HK4 := Lib.hid hK4
    have HK5 := Lib.hid hK5
    clear hK4 hK5 hK6
    have HM := Lib.hid (fun (j : Nat) W => refLength_calls n j W (by omega))
    have HY := Lib.hid (fun (j : Nat) W => refYear_calls j W (by omega))
    have HS := Lib.hid (fun (j : Nat) (h1 : (1 : Int) ≤ j) (h2 : (j : Int) ≤ 11) => Dt.mon_step (Dt.leap n) h1 h2)
    have HF := Lib.hid (Dt.mon_first (Dt.leap n))
    have HB := Lib.hid (fun (j : Int) => Dt.mon_bounds n (m := j))
    have HL := Lib.hid (fun (j : Nat) => Dt.len_bounds (Dt.leap n) j)
    have HD : Hid (Dt.days n k d = Dt.before n - 134774 + Dt.mon (Dt.leap n) k + d - 1) := Lib.hid rfl
    have HYS := Lib.hid (fun (j : Nat) => Dt.before_step j)
    have HYB := Lib.hid (fun (j : Nat) => Dt.yday_bounds j)
    have HBB : Hid (∀ j : Nat, 1601 ≤ j → j ≤ 9999 → 0 ≤ Dt.before j ∧ Dt.before j ≤ 3067671) := Lib.hid (fun j h1 h2 => by
      have a := Dt.before_mono (y := 1601) (z := j) (by omega)
      have b := Dt.before_mono (y := j) (z := 10000) (by omega)
      rw [Dt.before_first] at a
      rw [Dt.before_last] at b
      exact ⟨a, b⟩)
    have HB0 := Lib.hid Dt.before_1970
    have hmk := HB.out k m1 m2
    generalize Dt.days n k d = D at *
    generalize Dt.daysO n k d = R at *
    generalize hlp : Dt.leap n = lp at *
    go_enter Tryz.func39, Tryz.ntmps39
    go_wp2_with (go_at_call 38; refine (HI.out _).mono ?_; rintro e w' ⟨rfl, rfl⟩)
    go_loop [8, 9] (fun s i => ∃ j : Nat, 1 ≤ j ∧ j ≤ k ∧ i = .int .i64 j ∧ s = .int .i64 (d - 1 + Dt.mon lp j)) (fun _ i => k - (intOf i).toNat)
    case atStart => exact ⟨1, Nat.le_refl _, by omega, rfl, val_int (by show _ = _ + Dt.mon lp 1; rw [HF.out]; omega)⟩
    case round =>
      obtain ⟨j, j1, j2, rfl, rfl⟩ := hrel
      have hmb := HB.out j (by omega) (by omega)
      have hlb2 := HL.out j
      by_cases hlt : j < k
      · have hs := HS.out j (by omega) (by omega)
        have HSS := Lib.hid hs
        clear hs
        generalize Dt.mon lp j = x at *
        have HMM := Lib.hid (fun W => HM.out j W)
        generalize Dt.len lp j = z at *
        go_wp2_with (go_at_call 57; refine (HMM.out _).mono ?_; rintro e w' ⟨rfl, rfl⟩)
        go_round
        case rel => exact ⟨j + 1, by omega, by omega, by go_num, val_int (by show _ = _ + Dt.mon lp ((j : Int) + 1); rw [HSS.out]; omega)⟩
        case measure => simp [intOf]; omega
      · have hjk : j = k := by omega
        subst hjk
        clear hlt
        generalize hN1 : d - 1 + Dt.mon lp j = N1 at *
        have hN2 : 0 ≤ N1 ∧ N1 ≤ 400 := by omega
        have HN1 := Lib.hid hN1
        clear hN1
        go_wp2
        go_loop [8, 10] (fun s i => ∃ j : Nat, 1970 ≤ j ∧ j ≤ K ∧ i = .int .i64 j ∧ s = .int .i64 (N1 + (Dt.before j - 134774))) (fun _ i => K - (intOf i).toNat)
        case atStart => exact ⟨1970, Nat.le_refl _, hK1, rfl, val_int (by show _ = _ + (Dt.before 1970 - 134774); rw [HB0.out]; omega)⟩
        case round =>
          obtain ⟨t, t1, t2, rfl, rfl⟩ := hrel
          have htb := HBB.out t (by omega) (by omega)
          have htc := HYB.out t
          by_cases hlt : (t : Int) < (n : Int)
          · have HTS := Lib.hid (HYS.out t)
            have HYY := Lib.hid (fun W => HY.out t W)
            generalize Dt.before t = x at *
            generalize Dt.yday t = z at *
            go_wp2_with (go_at_call 58; refine (HYY.out _).mono ?_; rintro e w' ⟨rfl, rfl⟩)
            go_round
            case rel => exact ⟨t + 1, by omega, by omega, by go_num, val_int (by show _ = _ + (Dt.before ((t : Int) + 1) - 134774); rw [HTS.out]; omega)⟩
            case measure => simp [intOf]; omega
          · have htK := HK4.out t t1 (by omega) t2
            subst htK
            generalize hN3 : N1 + (Dt.before t - 134774) = N2 at *
            have hN4 : N2 ≤ 4000000 ∧ -4000000 ≤ N2 := by omega
            have HN2 := Lib.hid hN3
            clear hN3
            go_wp2
            go_loop [8, 11] (fun s i => ∃ j : Nat, n ≤ j ∧ j ≤ t ∧ i = .int .i64 j ∧ s = .int .i64 (N2 - (Dt.before j - Dt.before n))) (fun _ i => t - (intOf i).toNat)
            case atStart => exact ⟨n, Nat.le_refl _, hK2, rfl, val_int (by omega)⟩
            case round =>
              obtain ⟨u, u1, u2, rfl, rfl⟩ := hrel
              have hub := HBB.out u (by omega) (by omega)
              have hub2 := HBB.out n (by omega) (by omega)
              have huc := HYB.out u
              by_cases hlt : (u : Int) < (1970 : Int)
              · have HTS := Lib.hid (HYS.out u)
                have HYY := Lib.hid (fun W => HY.out u W)
                generalize Dt.before u = x at *
                generalize Dt.before n = xn at *
                generalize Dt.yday u = z at *
                go_wp2_with (go_at_call 58; refine (HYY.out _).mono ?_; rintro e w' ⟨rfl, rfl⟩)
                go_round
                case rel => exact ⟨u + 1, by omega, by omega, by go_num, val_int (by show _ = _ - (Dt.before ((u : Int) + 1) - _); rw [HTS.out]; omega)⟩
                case measure => simp [intOf]; omega
              · have huK := HK5.out u u1 (by omega) u2
                subst huK
                go_wp2
                go_ret2
                exact days_post (HR.out.trans (by rw [HD.out, ← HN2.out, ← HN1.out]; congr 1; omega)) _
  · rw [decide_eq_false h] at HI
    have HR := Lib.hid (Dt.daysO_no h)
    generalize Dt.daysO y m d = R at *
    clear h
    go_enter Tryz.func39, Tryz.ntmps39
    go_wp2_with (go_at_call 38; refine (HI.out _).mono ?_; rintro e w' ⟨rfl, rfl⟩)
    go_ret2
    exact days_post HR.out _
end Go.Proofs.YtpimaobejjpffaaGreatDoor
