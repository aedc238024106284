/- The walk of the reference's Parse. -/
import Derived.Test.YtjfipedcjahbkaaGreatDoorRefHost
namespace Go.Proofs.YtjfipedcjahbkaaGreatDoor
open Go.RowKit
namespace Hst
theorem v4_get (l : List UInt8) : v4part l = if (Adr.v4 l).isSome = true then some ⟨2, [], Adr.addr4 (Adr.v4 l)⟩ else none := v4part_eq l
theorem v6_get {l : List UInt8} (h : l.getLast? = some 93) : v6part l = if (Adr.v6 l.dropLast).isSome = true then some ⟨3, [], Adr.addrOf (Adr.v6 l.dropLast)⟩ else none := by
  unfold v6part
  rw [if_pos h]
  cases Adr.v6 l.dropLast <;> rfl
end Hst
set_option maxRecDepth 100000 in
set_option maxHeartbeats 4000000 in
theorem refParse_calls (s : ByteArray) (w : World) (hs : s.size ≤ 100000) :
    Calls Tryz.prog 21 #[.string s] w (NewHost (Hst.parse s.data.toList) w) := by
  rw [← Hst.refParse_eq]
  have z0 := zeroHost
  have z1 := bytesA_zA
  have HZ0 := Lib.hid (show (hostA Hst.zero).size = 18 from rfl)
  have hl := Oct.length_bytes s
  by_cases hhead : s.data.toList.head? = some 91
  · have hpos : 0 < s.size := by
      rcases Nat.eq_zero_or_pos s.size with h | h
      · rw [(Oct.nil_size s).2 h] at hhead; cases hhead
      · exact h
    have hp : s.size - 1 < s.size := by omega
    have h0 : ((s[0].toNat : Int) == 91) = true := by
      have := Oct.head_bytes s hpos
      rw [hhead] at this
      rw [← Option.some.inj this]; rfl
    have h0i : (s[0].toNat : Int) = 91 := by simpa using h0
    have hpos1 : (0 : Int) < (s.size : Int) := by omega
    have hz : ((s.size : Int) - 1).toNat = s.size - 1 := by omega
    have hiff := Hst.head_last hp hhead
    by_cases hc : s[s.size - 1] = 93
    · have hc1 : (s[s.size - 1].toNat : Int) = 93 := by rw [hc]; rfl
      have hc2 : ((s[s.size - 1].toNat : Int) != 93) = false := by rw [hc]; rfl
      have h2 : 2 ≤ s.size := by
        rcases Nat.lt_or_ge s.size 2 with h | h
        · have : s.size - 1 = 0 := by omega
          simp only [this] at hc1
          omega
        · exact h
      have hlast := hiff.1 hc
      have HN : Hid (Hst.refParse s.data.toList = if (Adr.v6 s.data.toList.tail.dropLast).isSome = true then some ⟨3, [], Adr.addrOf (Adr.v6 s.data.toList.tail.dropLast)⟩ else none) :=
        Lib.hid (by unfold Hst.refParse; rw [if_pos hhead, Hst.v6_get hlast])
      have H1 : ∀ W, Calls Tryz.prog 40 #[.string (s.extract 1 (s.size - 1))] W (NewAddr (Adr.addrOf (Adr.v6 s.data.toList.tail.dropLast)) (Adr.v6 s.data.toList.tail.dropLast).isSome W) := fun W => by
        have hb := Hst.inner_bytes s
        have hz : (s.extract 1 (s.size - 1)).size ≤ 100000 := by
          have e := congrArg List.length hb
          rw [Oct.length_bytes, List.length_dropLast, List.length_tail, hl] at e
          omega
        have := refV6_calls (s.extract 1 (s.size - 1)) W hz
        rw [hb] at this
        exact this
      have H1 := Lib.hid H1
      have ha : (Adr.addrOf (Adr.v6 s.data.toList.tail.dropLast)).length = 16 := Adr.addrOf_length _
      rw [HN.out]
      clear HN hhead hiff hlast hc hl
      generalize Adr.addrOf (Adr.v6 s.data.toList.tail.dropLast) = a at *
      generalize (Adr.v6 s.data.toList.tail.dropLast).isSome = ok at *
      have HZA := Lib.hid (show (bytesA a).size = 16 by rw [bytesA_size, ha])
      have HH := Lib.hid (hostA_size ⟨3, [], a⟩ ha)
      have HB := Lib.hid (built_addr 3 a ha)
      have HF : Hid (ok = false → ∀ w', Below w.heap.size w w' → NewHost (if ok = true then some ⟨3, [], a⟩ else none) w (.returned (.tuple #[.agg (hostA Hst.zero), .int .i64 31])) w') := Lib.hid (fun h w' hb => by subst h; exact newHost_of rfl rfl hb)
      have HTT : Hid (ok = true → ∀ w', Below w.heap.size w w' → NewHost (if ok = true then some ⟨3, [], a⟩ else none) w (.returned (.tuple #[.agg (hostA ⟨3, [], a⟩), .int .i64 0])) w') := Lib.hid (fun h w' hb => by subst h; exact newHost_of rfl rfl hb)
      generalize NewHost (if ok = true then some ⟨3, [], a⟩ else none) w = post at *
      clear ha
      go_enter Tryz.func21, Tryz.ntmps21
      go_wp2_with fail
      have R0 := Row.new w 45 (hostA Hst.zero)
      have B0 := (Below.refl w.heap.size w).alloc (Nat.le_refl _) (.cells (hostA Hst.zero) 45)
      generalize w.alloc (.cells (hostA Hst.zero) 45) = w0 at *
      refine (H1.out _).mono ?_
      rintro e v2 ⟨rfl, d2⟩
      have R1 := R0.stays d2
      have B1 := B0.trans (d2.mono B0.size)
      obtain ⟨T, U, C, L⟩ := lay_row 43 (bytesA zA) (bytesA a) B1 B1.size
      have R2 := L _ _ _ R1
      clear L R0 R1 B0 B1 d2
      cases ok
      all_goals
        go_wp2_with (first
          | (refine wpList_store_row rfl 43 _ _ rfl v2.heap.size (bytesA a) rfl rfl 43 _ T (by rw [HZA.out]; exact infoAddr) (by rw [HZA.out]; rfl) (bytesA_one _) ?_)
          | (refine at_slot 39 rfl ?_; refine load_row rfl 43 _ rfl v2.heap.size rfl U Tryz.underlying43 rfl (by rw [HZA.out]; exact infoAddr) ?_)
          | (refine at_slot 40 rfl ?_; refine build_two rfl 45 0 2 _ _ rfl _ _ rfl rfl (hostA ⟨3, [], a⟩) HB.out ?_)
          | (refine wpList_store_row rfl 45 _ _ rfl w.heap.size (hostA Hst.zero) rfl rfl 45 _ R2 (by rw [HZ0.out]; exact infoHost) rfl (hostA_one _) ?_)
          | (refine wpList_store_row rfl 45 _ _ rfl w.heap.size (hostA ⟨3, [], a⟩) rfl rfl 45 _ R2 (by rw [HH.out]; exact infoHost) (by rw [HH.out]; rfl) (hostA_one _) ?_))
        first
          | exact bodyPost_ret (v := .tuple #[.agg (hostA Hst.zero), .int .i64 31]) (results_cell_two rfl _ _ w.heap.size _ _ _ rfl _ rfl (R2.whole _) Tryz.underlying45 rfl (by rw [HZ0.out]; exact infoHost)) rfl (HF.out (by trivial) _ (below_setRow C (Nat.le_refl _) _))
          | exact bodyPost_ret (v := .tuple #[.agg (hostA ⟨3, [], a⟩), .int .i64 0]) (results_cell_two rfl _ _ w.heap.size _ _ _ rfl _ rfl (R2.whole _) Tryz.underlying45 rfl (by rw [HH.out]; exact infoHost)) rfl (HTT.out (by trivial) _ (below_setRow C (Nat.le_refl _) _))
    · have hc2 : ((s[s.size - 1].toNat : Int) != 93) = true := bne_iff_ne.2 (fun k => hc (Oct.eq_of_toNat (by show _ = 93; omega)))
      have hc1 : ¬ (s[s.size - 1].toNat : Int) = 93 := fun k => hc (Oct.eq_of_toNat (by show _ = 93; omega))
      have HN : Hid (Hst.refParse s.data.toList = none) := Lib.hid (by unfold Hst.refParse Hst.v6part; rw [if_pos hhead, if_neg (fun k => hc (hiff.2 k))])
      rw [HN.out]
      clear HN hiff hhead hc hl
      have R0 := Row.new w 45 (hostA Hst.zero)
      have B0 := (Below.refl w.heap.size w).alloc (Nat.le_refl _) (.cells (hostA Hst.zero) 45)
      go_enter Tryz.func21, Tryz.ntmps21
      go_wp2_with (refine wpList_store_row rfl 45 _ _ rfl w.heap.size (hostA Hst.zero) rfl rfl 45 _ R0 (by rw [HZ0.out]; exact infoHost) rfl (hostA_one _) ?_)
      exact bodyPost_ret (v := .tuple #[.agg (hostA Hst.zero), .int .i64 31]) (results_cell_two rfl _ _ w.heap.size _ _ _ rfl _ rfl (R0.whole _) Tryz.underlying45 rfl (by rw [HZ0.out]; exact infoHost)) rfl (newHost_of rfl rfl (below_setRow B0 (Nat.le_refl _) _))
  -- no bracket
  have H1 := Lib.hid (fun W => refLower_calls s W (by omega))
  obtain ⟨u, hu⟩ : ∃ u : ByteArray, u = ⟨(s.data.toList.map Oct.low).toArray⟩ := ⟨_, rfl⟩
  have hul : u.data.toList = s.data.toList.map Oct.low := by rw [hu]
  have hus : u.size = s.size := by rw [← Oct.length_bytes, hul, List.length_map, hl]
  unfold NewText at H1
  rw [← hu] at H1
  clear hu
  have hlen := Oct.split_length 46 u.data.toList
  have hpos := Oct.split_pos 46 u.data.toList
  have hsm := Oct.split_small 46 u.data.toList
  rw [Oct.length_bytes, hus] at hlen hsm
  have H3 : ∀ W, Calls Tryz.prog 42 #[.string u, .int .u8 46] W (NewTextsAt W.heap.size (Oct.split 46 u.data.toList) W) := fun W => (refSplit_calls u 46 W (by omega)).mono fun _ _ h => h.at_ (Oct.split_pos _ _)
  have H3 := Lib.hid H3
  obtain ⟨p, hp⟩ : ∃ p, (Oct.split 46 u.data.toList)[(Oct.split 46 u.data.toList).length - 1]? = some p := ⟨_, List.getElem?_eq_getElem (by omega)⟩
  have hlastp : Hst.last u.data.toList = p := by unfold Hst.last; rw [hp]; rfl
  have hps : p.length ≤ s.size := hsm p (List.mem_of_getElem? hp)
  have HP := Lib.hid hp
  have HN : Hid (Hst.refParse s.data.toList = if Oct.digits p = true then Hst.v4part s.data.toList else if (Oct.split 46 u.data.toList).all Hst.refLab = true ∧ s.size ≤ 253 then some ⟨1, u.data.toList, Hst.nil16⟩ else none) :=
    Lib.hid (by unfold Hst.refParse; rw [if_neg hhead, ← hul, hlastp, hl])
  have hstart : (0 < s.size ∧ ∃ h : 0 < s.size, ((s[0].toNat : Int) == 91) = false) ∨ s.size = 0 := by
    rcases Nat.eq_zero_or_pos s.size with h | h
    · exact .inr h
    · refine .inl ⟨h, h, ?_⟩
      have := Oct.head_bytes s h
      rw [beq_eq_false_iff_ne]
      intro e
      apply hhead
      rw [this]
      exact congrArg some (Oct.eq_of_toNat (by show _ = 91; omega))
  obtain ⟨t, ht⟩ : ∃ t : ByteArray, t = ⟨p.toArray⟩ := ⟨_, rfl⟩
  have hts : t.size ≤ s.size := by rw [ht]; show (List.toArray _).size ≤ _; simp; omega
  have H4 : ∀ W, Calls Tryz.prog 43 #[.string t] W fun e w' => e = .returned (.bool (Oct.digits p)) ∧ W = w' := fun W => by
    have := refDigits_calls t W (by unfold maxLen; omega)
    have e : t.data.toList = p := by rw [ht]
    rw [e] at this
    exact this
  have H4 := Lib.hid H4
  have HT := Lib.hid ht
  have H5 := Lib.hid (fun W => refV4_calls s W (by omega))
  have HV := Lib.hid (Hst.v4_get s.data.toList)
  have ha := Hst.addr4_length s.data.toList
  rw [HN.out]
  have HB := Lib.hid (built_name 1 u)
  have HSM := Lib.hid hsm
  clear HN hp hlastp hhead hl hul ht hsm
  generalize Oct.split 46 u.data.toList = ps at *
  generalize u.data.toList = ul at *
  have hz : ((ps.length : Int) - 1).toNat = ps.length - 1 := by omega
  have HXZ := Lib.hid (hostA_size ⟨1, ul, Hst.nil16⟩ rfl)
  cases hd : Oct.digits p with
  | true =>
    rw [hd] at H4
    rw [if_pos rfl, HV.out]
    generalize Adr.addr4 (Adr.v4 s.data.toList) = a at *
    generalize (Adr.v4 s.data.toList).isSome = ok at *
    have HZA := Lib.hid (show (bytesA a).size = 16 by rw [bytesA_size, ha])
    have HH := Lib.hid (hostA_size ⟨2, [], a⟩ ha)
    have HB2 := Lib.hid (built_addr 2 a ha)
    have HF : Hid (ok = false → ∀ w', Below w.heap.size w w' → NewHost (if ok = true then some ⟨2, [], a⟩ else none) w (.returned (.tuple #[.agg (hostA Hst.zero), .int .i64 31])) w') := Lib.hid (fun h w' hb => by subst h; exact newHost_of rfl rfl hb)
    have HTT : Hid (ok = true → ∀ w', Below w.heap.size w w' → NewHost (if ok = true then some ⟨2, [], a⟩ else none) w (.returned (.tuple #[.agg (hostA ⟨2, [], a⟩), .int .i64 0])) w') := Lib.hid (fun h w' hb => by subst h; exact newHost_of rfl rfl hb)
    generalize NewHost (if ok = true then some ⟨2, [], a⟩ else none) w = post at *
    clear ha hd HV HB HXZ
    rcases hstart with ⟨hs0, hs1, hs2⟩ | hs0
    all_goals
      go_enter Tryz.func21, Tryz.ntmps21
      go_wp2_with fail
      have R0 := Row.new w 45 (hostA Hst.zero)
      have B0 := (Below.refl w.heap.size w).alloc (Nat.le_refl _) (.cells (hostA Hst.zero) 45)
      generalize w.alloc (.cells (hostA Hst.zero) 45) = w0 at *
      refine (H1.out _).mono ?_
      rintro e v1 ⟨rfl, d1⟩
      have R1 := R0.stays d1
      have B1 := B0.trans (d1.mono B0.size)
      go_wp2_with fail
      refine (H3.out _).mono ?_
      rintro e v2 ⟨g, cap, rfl, hown, d2⟩
      have R2 := R1.stays d2
      have B2 := B1.trans (d2.mono B1.size)
      have hcell := own_text (k := ps.length - 1) hown HP.out HT.out
      have hcap := own_cap hown
      clear hown d2 R0 B0 d1 R1 B1
      go_wp2_with fail
      refine (H4.out _).mono ?_
      rintro e v3 ⟨rfl, rfl⟩
      go_wp2_with fail
      refine (H5.out _).mono ?_
      rintro e v4 ⟨rfl, d4⟩
      have R3 := R2.stays d4
      have B3 := B2.trans (d4.mono B2.size)
      obtain ⟨T, U, C, L⟩ := lay_row 43 (bytesA zA) (bytesA a) B3 B3.size
      have R4 := L _ _ _ R3
      clear L R2 B2 R3 B3 d4 hcell
      cases ok
      all_goals
        go_wp2_with (first
          | (refine wpList_store_row rfl 43 _ _ rfl v4.heap.size (bytesA a) rfl rfl 43 _ T (by rw [HZA.out]; exact infoAddr) (by rw [HZA.out]; rfl) (bytesA_one _) ?_)
          | (refine at_slot 60 rfl ?_; refine load_row rfl 43 _ rfl v4.heap.size rfl U Tryz.underlying43 rfl (by rw [HZA.out]; exact infoAddr) ?_)
          | (refine at_slot 61 rfl ?_; refine build_two rfl 45 0 2 _ _ rfl _ _ rfl rfl (hostA ⟨2, [], a⟩) HB2.out ?_)
          | (refine wpList_store_row rfl 45 _ _ rfl w.heap.size (hostA Hst.zero) rfl rfl 45 _ R4 (by rw [HZ0.out]; exact infoHost) rfl (hostA_one _) ?_)
          | (refine wpList_store_row rfl 45 _ _ rfl w.heap.size (hostA ⟨2, [], a⟩) rfl rfl 45 _ R4 (by rw [HH.out]; exact infoHost) (by rw [HH.out]; rfl) (hostA_one _) ?_))
        first
          | exact bodyPost_ret (v := .tuple #[.agg (hostA Hst.zero), .int .i64 31]) (results_cell_two rfl _ _ w.heap.size _ _ _ rfl _ rfl (R4.whole _) Tryz.underlying45 rfl (by rw [HZ0.out]; exact infoHost)) rfl (HF.out (by trivial) _ (below_setRow C (Nat.le_refl _) _))
          | exact bodyPost_ret (v := .tuple #[.agg (hostA ⟨2, [], a⟩), .int .i64 0]) (results_cell_two rfl _ _ w.heap.size _ _ _ rfl _ rfl (R4.whole _) Tryz.underlying45 rfl (by rw [HH.out]; exact infoHost)) rfl (HTT.out (by trivial) _ (below_setRow C (Nat.le_refl _) _))
  | false =>
    rw [hd] at H4
    rw [if_neg (by simp)]
    clear ha hd HV H5
    have HF : Hid ((ps.all Hst.refLab = false ∨ ¬ s.size ≤ 253) → ∀ w', Below w.heap.size w w' → NewHost (if ps.all Hst.refLab = true ∧ s.size ≤ 253 then some ⟨1, ul, Hst.nil16⟩ else none) w (.returned (.tuple #[.agg (hostA Hst.zero), .int .i64 31])) w') := Lib.hid (fun h w' hb => by
      rw [if_neg (by rintro ⟨a, b⟩; rcases h with h | h; · rw [h] at a; cases a
                     · exact h b)]
      exact newHost_of rfl rfl hb)
    have HTT : Hid (ps.all Hst.refLab = true → s.size ≤ 253 → ∀ w', Below w.heap.size w w' → NewHost (if ps.all Hst.refLab = true ∧ s.size ≤ 253 then some ⟨1, ul, Hst.nil16⟩ else none) w (.returned (.tuple #[.agg (hostA ⟨1, ul, Hst.nil16⟩), .int .i64 0])) w') := Lib.hid (fun h k w' hb => by rw [if_pos ⟨h, k⟩]; exact newHost_of rfl rfl hb)
    generalize NewHost (if ps.all Hst.refLab = true ∧ s.size ≤ 253 then some ⟨1, ul, Hst.nil16⟩ else none) w = post at *
    rcases hstart with ⟨hs0, hs1, hs2⟩ | hs0
    all_goals
      go_enter Tryz.func21, Tryz.ntmps21
      go_wp2_with fail
      have R0 := Row.new w 45 (hostA Hst.zero)
      have B0 := (Below.refl w.heap.size w).alloc (Nat.le_refl _) (.cells (hostA Hst.zero) 45)
      generalize w.alloc (.cells (hostA Hst.zero) 45) = w0 at *
      refine (H1.out _).mono ?_
      rintro e v1 ⟨rfl, d1⟩
      have R1 := R0.stays d1
      have B1 := B0.trans (d1.mono B0.size)
      go_wp2_with fail
      refine (H3.out _).mono ?_
      rintro e v2 ⟨g, cap, rfl, hown, d2⟩
      have R2 := R1.stays d2
      have B2 := B1.trans (d2.mono B1.size)
      have hcell := own_text (k := ps.length - 1) hown HP.out HT.out
      have hcap := own_cap hown
      have HOWN := Lib.hid hown
      clear hown d2 R0 B0 d1 R1 B1
      go_wp2_with fail
      refine (H4.out _).mono ?_
      rintro e v3 ⟨rfl, rfl⟩
      clear hcell
      go_wp2
      go_loop [11, 64] (fun _ i => ∃ k : Nat, k ≤ ps.length ∧ i = .int .i64 k ∧ (∀ q ∈ ps.take k, Hst.refLab q = true)) (fun _ i => ps.length - (intOf i).toNat)
      case atStart => exact ⟨0, Nat.zero_le _, rfl, by simp⟩
      case round =>
        obtain ⟨k, hk, rfl, hall⟩ := hrel
        have HA := Lib.hid hall
        clear hall
        by_cases hlt : k < ps.length
        · obtain ⟨q, sq, hq, hcell, hdq, _, hsz⟩ := own_cell HOWN.out hlt
          have hqs := HSM.out q (List.mem_of_getElem? hq)
          have HQ := Lib.hid hq
          have hlab := fun W => refLabel_calls sq W (by omega)
          rw [hdq] at hlab
          have HLAB := Lib.hid hlab
          clear hq hdq hlab
          cases hr : Hst.refLab q with
          | true =>
            rw [hr] at HLAB
            go_wp2_with (go_at_call 45; refine (HLAB.out _).mono ?_; rintro e w' ⟨rfl, rfl⟩)
            go_round
            case rel => exact ⟨k + 1, by omega, by go_num, Oct.take_more HA.out HQ.out hr⟩
            case measure => simp [intOf]; omega
          | false =>
            rw [hr] at HLAB
            have hno : ps.all Hst.refLab = false := by rw [List.all_eq_false]; exact ⟨q, List.mem_of_getElem? HQ.out, by rw [hr]; simp⟩
            have HNO := Lib.hid hno
            clear hno
            go_wp2_with (first
              | (go_at_call 45; refine (HLAB.out _).mono ?_; rintro e w' ⟨rfl, rfl⟩)
              | (refine wpList_store_row rfl 45 _ _ rfl w.heap.size (hostA Hst.zero) rfl rfl 45 _ R2 (by rw [HZ0.out]; exact infoHost) rfl (hostA_one _) ?_))
            exact bodyPost_ret (v := .tuple #[.agg (hostA Hst.zero), .int .i64 31]) (results_cell_two rfl _ _ w.heap.size _ _ _ rfl _ rfl (R2.whole _) Tryz.underlying45 rfl (by rw [HZ0.out]; exact infoHost)) rfl (HF.out (.inl HNO.out) _ (below_setRow B2 (Nat.le_refl _) _))
        · have hyes : ps.all Hst.refLab = true := by
            rw [List.all_eq_true]
            have := HA.out
            rw [List.take_of_length_le (by omega)] at this
            exact this
          have HYES := Lib.hid hyes
          clear hyes
          by_cases hbig : s.size ≤ 253
          · have hbig1 : ¬ (253 : Int) < (s.size : Int) := by omega
            go_wp2_with (first
              | (refine at_slot 78 rfl ?_; refine build_two rfl 45 0 1 _ _ rfl _ _ rfl rfl (hostA ⟨1, ul, Hst.nil16⟩) HB.out ?_)
              | (refine wpList_store_row rfl 45 _ _ rfl w.heap.size (hostA ⟨1, ul, Hst.nil16⟩) rfl rfl 45 _ R2 (by rw [HXZ.out]; exact infoHost) rfl (hostA_one _) ?_))
            exact bodyPost_ret (v := .tuple #[.agg (hostA ⟨1, ul, Hst.nil16⟩), .int .i64 0]) (results_cell_two rfl _ _ w.heap.size _ _ _ rfl _ rfl (R2.whole _) Tryz.underlying45 rfl (by rw [HXZ.out]; exact infoHost)) rfl (HTT.out HYES.out hbig _ (below_setRow B2 (Nat.le_refl _) _))
          · first
            | (exfalso; omega)
            | (have hbig1 : (253 : Int) < (s.size : Int) := by omega
               go_wp2_with (first
                 | (refine wpList_store_row rfl 45 _ _ rfl w.heap.size (hostA Hst.zero) rfl rfl 45 _ R2 (by rw [HZ0.out]; exact infoHost) rfl (hostA_one _) ?_))
               exact bodyPost_ret (v := .tuple #[.agg (hostA Hst.zero), .int .i64 31]) (results_cell_two rfl _ _ w.heap.size _ _ _ rfl _ rfl (R2.whole _) Tryz.underlying45 rfl (by rw [HZ0.out]; exact infoHost)) rfl (HF.out (.inr hbig) _ (below_setRow B2 (Nat.le_refl _) _)))
end Go.Proofs.YtjfipedcjahbkaaGreatDoor
