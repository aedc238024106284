/- The walk of the reference's V4. -/
import Derived.Test.YtkajddopjflniaaGreatDoorHosts
import Derived.Test.YtkajddopjflniaaGreatDoorOctets
import Derived.Test.YtkajddopjflniaaGreatDoorCells
import Derived.Test.YtkajddopjflniaaGreatDoorPlains
namespace Go.Proofs.YtkajddopjflniaaGreatDoor
open Go.RowKit
namespace Adr
theorem low_set {l : List UInt8} {k : Nat} {c : UInt8} (hl : l.length = 4) (hk : k < 4) (hc : l[k]? = some c) : (List.replicate 12 0 ++ fill l 0 4 k).set (12 + k) c = List.replicate 12 0 ++ fill l 0 4 (k + 1) := by
  rw [List.set_append_right _ _ (by simp)]
  have e : 12 + k - (List.replicate 12 (0 : UInt8)).length = k := by simp
  rw [e, fill_set hl hk hc]
theorem low_zero (l : List UInt8) : List.replicate 12 0 ++ fill l 0 4 0 = List.replicate 16 0 := by rw [fill_zero]; rfl
end Adr
set_option maxRecDepth 100000 in
set_option maxHeartbeats 2000000 in
theorem refV4_calls (s : ByteArray) (w : World) (hs : s.size ≤ 1048576) :
    Calls Tryz.prog 35 #[.string s] w (NewAddr (Adr.addr4 (Adr.v4 s.data.toList)) (Adr.v4 s.data.toList).isSome w) := by
  have hp := Oct.split_pos 46 s.data.toList
  have hsm := Oct.split_small 46 s.data.toList
  rw [Oct.length_bytes] at hsm
  have HCC := Lib.hid (fun W => refSplit_calls s 46 W (by omega))
  obtain ⟨ps, hps⟩ : ∃ ps, ps = Oct.split 46 s.data.toList := ⟨_, rfl⟩
  rw [← hps] at hp hsm HCC
  have HP := Lib.hid hps
  have HSM := Lib.hid hsm
  have HPOS := Lib.hid hp
  clear hps hsm hp
  have z1 := bytesA_zA
  go_enter Tryz.func35, Tryz.ntmps35
  have R0 := (Row.new w 23 (bytesA zA)).alloc (.cells (bytesA zA) 23)
  have F0 := Row.new (w.alloc (.cells (bytesA zA) 23)) 23 (bytesA zA)
  have eN : (w.alloc (.cells (bytesA zA) 23)).heap.size = w.heap.size + 1 := by simp
  rw [eN] at F0
  have F1 := F0.whole (bytesA zA)
  have R1 := R0.aside (k := w.heap.size + 1) (by omega) (bytesA zA)
  have B0 := ((Below.refl w.heap.size w).alloc (Nat.le_refl _) (.cells (bytesA zA) 23)).alloc (by simp) (.cells (bytesA zA) 23)
  have B1 := below_setRow B0 (g := w.heap.size + 1) (by omega) (bytesA zA)
  go_wp2_with (refine wpList_store_row rfl 23 _ _ rfl (w.heap.size + 1) (bytesA zA) rfl rfl 23 _ F0 infoAddr rfl (bytesA_one _) ?_)
  clear R0 F0 B0 eN
  generalize ((w.alloc (.cells (bytesA zA) 23)).alloc (.cells (bytesA zA) 23)).setRow (w.heap.size + 1) (bytesA zA) = w1 at *
  refine (HCC.out _).mono ?_
  rintro e w2 ⟨v, rfl, hown, hb⟩
  obtain ⟨A, cap, rfl, hA⟩ := own_any hown
  obtain ⟨g, rfl⟩ := hA HPOS.out
  clear hA
  have hgl := (hown.lt g rfl)
  have R2 := R1.stays hb
  have F2 := F1.stays hb
  have B2 := B1.trans (hb.mono B1.size)
  have n1 := F1.lt
  generalize w1.heap.size = N at *
  clear R1 F1 B1 hb
  by_cases h4 : ps.length = 4
  · have HL := Lib.hid h4
    have h4b : ((ps.length : Int) != 4) = false := by rw [h4]; rfl
    clear h4
    go_wp2
    rw [show zA = List.replicate 16 0 from rfl, ← Adr.low_zero (Adr.nums ps)] at F2
    have HLN := Lib.hid (show (Adr.nums ps).length = 4 by rw [Adr.nums_length, HL.out])
    go_loopw [6] (fun i wr => ∃ k : Nat, k ≤ 4 ∧ i = .int .i64 k ∧ wr.ownsRow N 9 1 (.slice (some ⟨g, 0, none⟩) ps.length cap) ps.length (ps.map strV) ∧ Row wr w.heap.size 23 (bytesA zA) ∧ Row wr (w.heap.size + 1) 23 (bytesA (List.replicate 12 0 ++ Adr.fill (Adr.nums ps) 0 4 k)) ∧ (ps.take k).all Adr.okNum = true ∧ Below w.heap.size w wr) (fun i _ => 4 - (intOf i).toNat)
    case atStart => exact ⟨0, Nat.zero_le _, rfl, hown, R2, F2, by simp, B2⟩
    case round =>
      clear hown R2 F2 B2
      obtain ⟨k, hk, rfl, hown, R, F, hall, hb⟩ := hrel
      have HA := Lib.hid hall
      clear hall
      by_cases hlt : k < 4
      · have hkl : k < ps.length := by rw [HL.out]; exact hlt
        obtain ⟨p, t, h1, hcell, h3, _, h5⟩ := own_cell hown hkl
        have hpl := HSM.out p (List.mem_of_getElem? h1)
        have ht : t.size ≤ maxLen := by unfold maxLen; omega
        have HC := Lib.hid (fun W => refNumber_calls t W ht)
        rw [h3] at HC
        have H1 := Lib.hid h1
        have hbig := Adr.number_big p
        clear h1 h3 h5 hpl ht
        rcases Adr.okNum_cases p with ⟨hk1, hk2⟩ | ⟨hk1, hk2, hk3⟩ | ⟨hk1, hk2, hk3⟩
        · have HN := Lib.hid (show NewAddr (Adr.addr4 (Adr.v4 s.data.toList)) (Adr.v4 s.data.toList).isSome = NewAddr zA false by rw [Adr.v4_no (by rw [← HP.out]; exact H1.out) hk1]; rfl)
          rw [hk2] at HC
          clear hk1 hk2 hown F
          go_wp2_with (first
            | (go_at_call 49; refine (HC.out _).mono ?_; rintro e w' ⟨rfl, rfl⟩)
            | (refine wpList_store_row rfl 23 _ _ rfl w.heap.size (bytesA zA) rfl rfl 23 _ R infoAddr rfl (bytesA_one _) ?_))
          rw [HN.out]
          exact bodyPost_ret (results_cell_two rfl _ _ w.heap.size _ _ _ rfl _ rfl (R.whole _) Tryz.underlying23 rfl infoAddr) rfl ⟨rfl, below_setRow hb (Nat.le_refl _) _⟩
        · have HN := Lib.hid (show NewAddr (Adr.addr4 (Adr.v4 s.data.toList)) (Adr.v4 s.data.toList).isSome = NewAddr zA false by rw [Adr.v4_no (by rw [← HP.out]; exact H1.out) hk1]; rfl)
          rw [hk2] at HC
          clear hk1 hk2 hown F
          go_wp2_with (first
            | (go_at_call 49; refine (HC.out _).mono ?_; rintro e w' ⟨rfl, rfl⟩)
            | (refine wpList_store_row rfl 23 _ _ rfl w.heap.size (bytesA zA) rfl rfl 23 _ R infoAddr rfl (bytesA_one _) ?_))
          rw [HN.out]
          exact bodyPost_ret (results_cell_two rfl _ _ w.heap.size _ _ _ rfl _ rfl (R.whole _) Tryz.underlying23 rfl infoAddr) rfl ⟨rfl, below_setRow hb (Nat.le_refl _) _⟩
        · rw [hk2] at HC
          have HAll := Lib.hid (Adr.num_more HA.out H1.out hk1)
          have hw := Adr.nums_at H1.out
          have hv : Value.int .u8 (Oct.number p : Int) = byteV (UInt8.ofNat (Oct.number p)) := by unfold byteV; rw [UInt8.toNat_ofNat']; exact val_int (by omega)
          have hfl : (List.replicate 12 0 ++ Adr.fill (Adr.nums ps) 0 4 k).length = 16 := by rw [List.length_append, Adr.fill_length HLN.out hk, List.length_replicate]
          have e12 : ((12 : Int) + (k : Int)).toNat = 12 + k := by omega
          obtain ⟨u1, c1⟩ : ∃ u, wr.cell? ⟨w.heap.size + 1, 12 + k, none⟩ = some u := ⟨_, by rw [F.cell]; exact Array.getElem?_eq_getElem (by rw [bytesA_size, hfl]; omega)⟩
          have f1 := F.free (12 + k)
          have F3 := F.set (12 + k) (byteV (UInt8.ofNat (Oct.number p)))
          rw [bytesA_set, Adr.low_set HLN.out hlt hw, ← hv] at F3
          have B3 := hb.setCell (p := ⟨w.heap.size + 1, 12 + k, none⟩) (by simp) (.int .u8 (Oct.number p : Int))
          have R3 := R.other (p := ⟨w.heap.size + 1, 12 + k, none⟩) (by simp) (.int .u8 (Oct.number p : Int))
          have O3 := own_far hown (p := ⟨w.heap.size + 1, 12 + k, none⟩) (by simp [Value.ownBlock]; omega) (.int .u8 (Oct.number p : Int))
          clear hk1 hk2 hw hv hfl F hb R hown
          generalize Oct.number p = x at *
          go_wp2_with (go_at_call 49; refine (HC.out _).mono ?_; rintro e w' ⟨rfl, rfl⟩)
          go_roundw
          case rel => exact ⟨k + 1, by omega, by go_num, O3, R3, F3, HAll.out, B3⟩
          case measure => simp [intOf]; omega
      · have hkk : k = 4 := by omega
        subst hkk
        rw [Adr.fill_end HLN.out] at F
        have HS := Lib.hid (show Adr.v4 s.data.toList = some (Adr.nums ps) by
          have := Adr.v4_yes (s := s.data.toList) (by rw [← HP.out]; exact HL.out) (by rw [← HP.out]; have := HA.out; rw [List.take_of_length_le (by have := HL.out; omega)] at this; exact this)
          rw [← HP.out] at this
          exact this)
        have HZ := Lib.hid (show (bytesA (List.replicate 12 0 ++ Adr.nums ps)).size = 16 by rw [bytesA_size, List.length_append, HLN.out, List.length_replicate])
        have HD := Lib.hid (show Adr.addr4 (some (Adr.nums ps)) = List.replicate 12 0 ++ Adr.nums ps from rfl)
        generalize List.replicate 12 0 ++ Adr.nums ps = G at *
        clear hown
        go_wp2_with (first
          | (refine at_slot 40 rfl ?_; refine load_row rfl 23 _ rfl (w.heap.size + 1) rfl F Tryz.underlying23 rfl (by rw [HZ.out]; exact infoAddr) ?_)
          | (refine wpList_store_row rfl 23 _ _ rfl w.heap.size (bytesA G) rfl rfl 23 _ R (by rw [HZ.out]; exact infoAddr) (by rw [HZ.out]; rfl) (bytesA_one _) ?_))
        rw [HS.out, HD.out]
        exact bodyPost_ret (results_cell_two rfl _ _ w.heap.size _ _ _ rfl _ rfl (R.whole _) Tryz.underlying23 rfl (by rw [HZ.out]; exact infoAddr)) rfl ⟨rfl, below_setRow hb (Nat.le_refl _) _⟩
  · have HN := Lib.hid (show NewAddr (Adr.addr4 (Adr.v4 s.data.toList)) (Adr.v4 s.data.toList).isSome = NewAddr zA false by rw [Adr.v4_count (by rw [← HP.out]; exact h4)]; rfl)
    have h4b : ((ps.length : Int) != 4) = true := by rw [bne_iff_ne]; omega
    clear h4
    go_wp2_with (refine wpList_store_row rfl 23 _ _ rfl w.heap.size (bytesA zA) rfl rfl 23 _ R2 infoAddr rfl (bytesA_one _) ?_)
    rw [HN.out]
    exact bodyPost_ret (results_cell_two rfl _ _ w.heap.size _ _ _ rfl _ rfl (R2.whole _) Tryz.underlying23 rfl infoAddr) rfl ⟨rfl, below_setRow B2 (Nat.le_refl _) _⟩
end Go.Proofs.YtkajddopjflniaaGreatDoor
/- The walk of the reference's eight. -/
namespace Go.Proofs.YtkajddopjflniaaGreatDoor
open Go.RowKit
namespace Adr
theorem e8_count {s : List UInt8} (h : (Oct.split 58 s).length ≠ 8) : e8 s = none := by unfold e8; rw [if_neg fun h1 => h h1.1]
theorem e8_no {s : List UInt8} {k : Nat} {p : List UInt8} (hp : (Oct.split 58 s)[k]? = some p) (hn : isGrp p = false) : e8 s = none := by
  unfold e8
  rw [if_neg fun h1 => ?_]
  have := List.all_eq_true.1 h1.2 p (List.mem_of_getElem? hp)
  rw [hn] at this; cases this
theorem e8_yes {s : List UInt8} (h : (Oct.split 58 s).length = 8) (ha : (Oct.split 58 s).all isGrp = true) : e8 s = some ((Oct.split 58 s).map grp) := by unfold e8; rw [if_pos ⟨h, ha⟩]
theorem grp_more {ps : List (List UInt8)} {k : Nat} {p : List UInt8} (h : (ps.take k).all isGrp = true) (hp : ps[k]? = some p) (hq : isGrp p = true) : (ps.take (k + 1)).all isGrp = true := by
  rw [List.all_eq_true] at h ⊢
  exact Oct.take_more (Q := fun p => isGrp p = true) h hp hq
theorem digI_yes {c : UInt8} (h : hexB c = true) : digI c = ((hexN c : Nat) : Int) := by unfold digI; rw [if_pos h]
theorem digI_no {c : UInt8} (h : hexB c = false) : digI c = -1 := by unfold digI; rw [h]; rfl
end Adr
set_option maxRecDepth 100000 in
set_option maxHeartbeats 4000000 in
theorem eight_calls (s : ByteArray) (w : World) (hs : s.size ≤ 2200000) :
    Calls Tryz.prog 48 #[.string s] w (NewAddr (Adr.addrOf (Adr.e8 s.data.toList)) (Adr.e8 s.data.toList).isSome w) := by
  have hp := Oct.split_pos 58 s.data.toList
  have HCC := Lib.hid (fun W => refSplit_calls s 58 W (by omega))
  obtain ⟨ps, hps⟩ : ∃ ps, ps = Oct.split 58 s.data.toList := ⟨_, rfl⟩
  rw [← hps] at hp HCC
  have HP := Lib.hid hps
  have HPOS := Lib.hid hp
  have HNO := Lib.hid (fun k p (h : ps[k]? = some p) (hn : Adr.isGrp p = false) => (show NewAddr (Adr.addrOf (Adr.e8 s.data.toList)) (Adr.e8 s.data.toList).isSome = NewAddr zA false by rw [Adr.e8_no (by rw [← hps]; exact h) hn]; rfl))
  clear hps hp
  have z1 := bytesA_zA
  go_enter Tryz.func48, Tryz.ntmps48
  have R0 := (Row.new w 23 (bytesA zA)).alloc (.cells (bytesA zA) 23)
  have F0 := Row.new (w.alloc (.cells (bytesA zA) 23)) 23 (bytesA zA)
  have eN : (w.alloc (.cells (bytesA zA) 23)).heap.size = w.heap.size + 1 := by simp
  rw [eN] at F0
  have F1 := F0.whole (bytesA zA)
  have R1 := R0.aside (k := w.heap.size + 1) (by omega) (bytesA zA)
  have B0 := ((Below.refl w.heap.size w).alloc (Nat.le_refl _) (.cells (bytesA zA) 23)).alloc (by simp) (.cells (bytesA zA) 23)
  have B1 := below_setRow B0 (g := w.heap.size + 1) (by omega) (bytesA zA)
  go_wp2_with (refine wpList_store_row rfl 23 _ _ rfl (w.heap.size + 1) (bytesA zA) rfl rfl 23 _ F0 infoAddr rfl (bytesA_one _) ?_)
  clear R0 F0 B0 eN
  generalize ((w.alloc (.cells (bytesA zA) 23)).alloc (.cells (bytesA zA) 23)).setRow (w.heap.size + 1) (bytesA zA) = w1 at *
  refine (HCC.out _).mono ?_
  rintro e w2 ⟨v, rfl, hown, hb⟩
  obtain ⟨A, cap, rfl, hA⟩ := own_any hown
  obtain ⟨g, rfl⟩ := hA HPOS.out
  clear hA
  have hgl := (hown.lt g rfl)
  have R2 := R1.stays hb
  have F2 := F1.stays hb
  have B2 := B1.trans (hb.mono B1.size)
  have n1 := F1.lt
  generalize w1.heap.size = N at *
  clear R1 F1 B1 hb
  by_cases h8 : ps.length = 8
  · have HL := Lib.hid h8
    have h8b : ((ps.length : Int) != 8) = false := by rw [h8]; rfl
    clear h8
    go_wp2
    obtain ⟨gs, hgs⟩ : ∃ gs, gs = ps.map Adr.grp := ⟨_, rfl⟩
    have HG := Lib.hid hgs
    have HLN := Lib.hid (show (Adr.from_ gs).length = 16 by rw [Adr.from_length, hgs, List.length_map, HL.out])
    clear hgs
    rw [show zA = List.replicate 16 0 from rfl, ← Adr.fill_zero (Adr.from_ gs)] at F2
    go_loopw [6] (fun i wr => ∃ k : Nat, k ≤ 8 ∧ i = .int .i64 k ∧ wr.ownsRow N 9 1 (.slice (some ⟨g, 0, none⟩) ps.length cap) ps.length (ps.map strV) ∧ Row wr w.heap.size 23 (bytesA zA) ∧ Row wr (w.heap.size + 1) 23 (bytesA (Adr.fill (Adr.from_ gs) 0 16 (2 * k))) ∧ (ps.take k).all Adr.isGrp = true ∧ Below w.heap.size w wr) (fun i _ => 8 - (intOf i).toNat)
    case atStart => exact ⟨0, Nat.zero_le _, rfl, hown, R2, F2, by simp, B2⟩
    case round =>
      clear hown R2 F2 B2
      obtain ⟨k, hk, rfl, hown, R, F, hall, hb⟩ := hrel
      have HA := Lib.hid hall
      clear hall
      by_cases hlt : k < 8
      · have hkl : k < ps.length := by rw [HL.out]; exact hlt
        obtain ⟨p, t, h1, hcell, h3, _, h5⟩ := own_cell hown hkl
        subst h3
        have H1 := Lib.hid h1
        clear h1
        by_cases hout : t.size < 1 ∨ 4 < t.size
        · have HN := Lib.hid (HNO.out k _ H1.out (Adr.isGrp_len hout))
          have hor : (t.size < 1) ∨ (¬ (t.size : Int) < 1 ∧ 4 < t.size) := by omega
          clear hout h5 hown F
          rcases hor with h1 | ⟨h1, h2⟩
          all_goals
            go_wp2_with (refine wpList_store_row rfl 23 _ _ rfl w.heap.size (bytesA zA) rfl rfl 23 _ R infoAddr rfl (bytesA_one _) ?_)
            rw [HN.out]
            exact bodyPost_ret (results_cell_two rfl _ _ w.heap.size _ _ _ rfl _ rfl (R.whole _) Tryz.underlying23 rfl infoAddr) rfl ⟨rfl, below_setRow hb (Nat.le_refl _) _⟩
        · have t1 : 1 ≤ t.size := by omega
          have t4 : t.size ≤ 4 := by omega
          clear hout h5
          go_wp2
          go_loop [7, 8] (fun v i => ∃ m : Nat, m ≤ t.size ∧ i = .int .i64 m ∧ v = .int .i64 ((Adr.grpN (t.data.toList.take m) : Nat) : Int) ∧ (t.data.toList.take m).all Adr.hexB = true) (fun _ i => t.size - (intOf i).toNat)
          case atStart => exact ⟨0, Nat.zero_le _, rfl, by simp [Adr.grpN], by simp⟩
          case round =>
            obtain ⟨m, hm, rfl, rfl, hall⟩ := hrel
            have HM := Lib.hid hall
            clear hall
            by_cases hmt : m < t.size
            · have hb4 := Adr.grpN_small t t4 m hmt
              have HT := Lib.hid (Adr.grpN_take t m hmt)
              have hd := Adr.hexN_lt t[m]
              cases hh : Adr.hexB t[m] with
              | true =>
                have HY := Lib.hid (Oct.all_snoc t m hmt HM.out hh)
                have hc := fun W => refDigit2_calls t[m] W
                rw [Adr.digI_yes hh] at hc
                have HC := Lib.hid hc
                clear hh hc hown R F hb
                generalize Adr.grpN (t.data.toList.take m) = n at *
                generalize Adr.hexN t[m] = d at *
                go_wp2_with (go_at_call 64; refine (HC.out _).mono ?_; rintro e w' ⟨rfl, rfl⟩)
                go_round
                case rel => exact ⟨m + 1, by omega, by go_num, val_int (by rw [HT.out]; omega), HY.out⟩
                case measure => simp [intOf]; omega
              | false =>
                have HN := Lib.hid (HNO.out k _ H1.out (Adr.isGrp_no m hmt hh))
                have hc := fun W => refDigit2_calls t[m] W
                rw [Adr.digI_no hh] at hc
                have HC := Lib.hid hc
                clear hh hc hown F
                go_wp2_with (first
                  | (go_at_call 64; refine (HC.out _).mono ?_; rintro e w' ⟨rfl, rfl⟩)
                  | (refine wpList_store_row rfl 23 _ _ rfl w.heap.size (bytesA zA) rfl rfl 23 _ R infoAddr rfl (bytesA_one _) ?_))
                rw [HN.out]
                exact bodyPost_ret (results_cell_two rfl _ _ w.heap.size _ _ _ rfl _ rfl (R.whole _) Tryz.underlying23 rfl infoAddr) rfl ⟨rfl, below_setRow hb (Nat.le_refl _) _⟩
            · have hY := Adr.isGrp_yes m (by omega) HM.out t1 t4
              have hT := Oct.take_all t m (by omega)
              rw [hT]
              have hZ := Adr.grp_toNat (l := t.data.toList) (by rw [Oct.length_bytes]; exact t4)
              have HAll := Lib.hid (Adr.grp_more HA.out H1.out hY)
              obtain ⟨x, hx⟩ : ∃ x, x = Adr.grp t.data.toList := ⟨_, rfl⟩
              rw [← hx] at hZ
              rw [← hZ]
              have hx1 := Adr.u16_lt x
              have hgk : gs[k]? = some x := by rw [HG.out, List.getElem?_map, H1.out, hx]; rfl
              have HX := Lib.hid (Adr.from_at gs k x hgk)
              have hl2 := Adr.fill_length (z := (0 : UInt8)) (n := 16) (k := 2 * k) HLN.out (by omega)
              obtain ⟨u1, c1⟩ : ∃ u, wr.cell? ⟨w.heap.size + 1, 2 * k, none⟩ = some u := ⟨_, by rw [F.cell]; exact Array.getElem?_eq_getElem (by rw [bytesA_size, hl2]; omega)⟩
              obtain ⟨u2, c2⟩ : ∃ u, wr.cell? ⟨w.heap.size + 1, 2 * k + 1, none⟩ = some u := ⟨_, by rw [F.cell]; exact Array.getElem?_eq_getElem (by rw [bytesA_size, hl2]; omega)⟩
              have f1 := F.free (2 * k)
              have f2 := F.free (2 * k + 1)
              have e1 : ((2 : Int) * (k : Int)).toNat = 2 * k := by omega
              have e2 : ((2 : Int) * (k : Int) + 1).toNat = 2 * k + 1 := by omega
              have R3 : Row ((wr.setCell ⟨w.heap.size + 1, 2 * k, none⟩ (.int .u8 ((x.toNat : Int) / 256))).setCell ⟨w.heap.size + 1, 2 * k + 1, none⟩ (.int .u8 ((x.toNat : Int) % 256))) (w.heap.size + 1) 23 (bytesA (Adr.fill (Adr.from_ gs) 0 16 (2 * (k + 1)))) := by
                have h1 : Value.int .u8 ((x.toNat : Int) / 256) = byteV (Adr.hi x) := by unfold byteV; rw [Adr.hi_toNat]; exact val_int (by omega)
                have h2 : Value.int .u8 ((x.toNat : Int) % 256) = byteV (Adr.lo x) := by unfold byteV; rw [Adr.lo_toNat]; exact val_int (by omega)
                have R := (F.set (2 * k) (byteV (Adr.hi x))).set (2 * k + 1) (byteV (Adr.lo x))
                rw [bytesA_set, bytesA_set, Adr.fill_set HLN.out (by omega) HX.out.1, Adr.fill_set HLN.out (by omega) HX.out.2] at R
                rw [h1, h2]
                exact R
              have B3 := ((hb.setCell (p := ⟨w.heap.size + 1, 2 * k, none⟩) (by simp) (.int .u8 ((x.toNat : Int) / 256))).setCell (p := ⟨w.heap.size + 1, 2 * k + 1, none⟩) (by simp) (.int .u8 ((x.toNat : Int) % 256)))
              have S3 := ((R.other (p := ⟨w.heap.size + 1, 2 * k, none⟩) (by simp) (.int .u8 ((x.toNat : Int) / 256))).other (p := ⟨w.heap.size + 1, 2 * k + 1, none⟩) (by simp) (.int .u8 ((x.toNat : Int) % 256)))
              have O3 := own_far (own_far hown (p := ⟨w.heap.size + 1, 2 * k, none⟩) (by simp [Value.ownBlock]; omega) (.int .u8 ((x.toNat : Int) / 256))) (p := ⟨w.heap.size + 1, 2 * k + 1, none⟩) (by simp [Value.ownBlock]; omega) (.int .u8 ((x.toNat : Int) % 256))
              clear hY hT hZ hx hgk hl2 F R hown hb
              go_wp2
              go_roundw
              case rel => exact ⟨k + 1, by omega, by go_num, O3, S3, R3, HAll.out, B3⟩
              case measure => simp [intOf]; omega
      · have hkk : k = 8 := by omega
        subst hkk
        rw [Adr.fill_end HLN.out] at F
        have HS := Lib.hid (show Adr.e8 s.data.toList = some gs by
          have := Adr.e8_yes (s := s.data.toList) (by rw [← HP.out]; exact HL.out) (by rw [← HP.out]; have := HA.out; rw [List.take_of_length_le (by have := HL.out; omega)] at this; exact this)
          rw [← HP.out, ← HG.out] at this
          exact this)
        have HZ := Lib.hid (show (bytesA (Adr.from_ gs)).size = 16 by rw [bytesA_size, HLN.out])
        have HD := Lib.hid (show Adr.addrOf (some gs) = Adr.from_ gs from rfl)
        generalize Adr.from_ gs = G at *
        clear hown
        go_wp2_with (first
          | (refine at_slot 72 rfl ?_; refine load_row rfl 23 _ rfl (w.heap.size + 1) rfl F Tryz.underlying23 rfl (by rw [HZ.out]; exact infoAddr) ?_)
          | (refine wpList_store_row rfl 23 _ _ rfl w.heap.size (bytesA G) rfl rfl 23 _ R (by rw [HZ.out]; exact infoAddr) (by rw [HZ.out]; rfl) (bytesA_one _) ?_))
        rw [HS.out, HD.out]
        exact bodyPost_ret (results_cell_two rfl _ _ w.heap.size _ _ _ rfl _ rfl (R.whole _) Tryz.underlying23 rfl (by rw [HZ.out]; exact infoAddr)) rfl ⟨rfl, below_setRow hb (Nat.le_refl _) _⟩
  · have HN := Lib.hid (show NewAddr (Adr.addrOf (Adr.e8 s.data.toList)) (Adr.e8 s.data.toList).isSome = NewAddr zA false by rw [Adr.e8_count (by rw [← HP.out]; exact h8)]; rfl)
    have h8b : ((ps.length : Int) != 8) = true := by rw [bne_iff_ne]; omega
    clear h8
    go_wp2_with (refine wpList_store_row rfl 23 _ _ rfl w.heap.size (bytesA zA) rfl rfl 23 _ R2 infoAddr rfl (bytesA_one _) ?_)
    rw [HN.out]
    exact bodyPost_ret (results_cell_two rfl _ _ w.heap.size _ _ _ rfl _ rfl (R2.whole _) Tryz.underlying23 rfl infoAddr) rfl ⟨rfl, below_setRow B2 (Nat.le_refl _) _⟩
end Go.Proofs.YtkajddopjflniaaGreatDoor
/- The walk of the reference's V6. -/
namespace Go.Proofs.YtkajddopjflniaaGreatDoor
open Go.RowKit
set_option maxRecDepth 100000 in
set_option maxHeartbeats 4000000 in
theorem refV6_calls (s : ByteArray) (w : World) (hs : s.size ≤ 1048576) :
    Calls Tryz.prog 31 #[.string s] w (NewAddr (Adr.addrOf (Adr.v6 s.data.toList)) (Adr.v6 s.data.toList).isSome w) := by
  have HE := Lib.hid eight_calls
  have z1 := bytesA_zA
  have HZZ := Lib.hid (show (bytesA zA).size = 16 from rfl)
  have hc8 := fun W => eight_calls s W (by omega)
  go_enter Tryz.func31, Tryz.ntmps31
  go_wp2_with fail
  have R0 := Row.new w 23 (bytesA zA)
  have B0 := (Below.refl w.heap.size w).alloc (Nat.le_refl _) (.cells (bytesA zA) 23)
  generalize w.alloc (.cells (bytesA zA) 23) = w0 at *
  cases he : Adr.e8 s.data.toList with
  | some gs =>
    rw [he] at hc8
    have HC := Lib.hid hc8
    have HN : Hid (NewAddr (Adr.addrOf (Adr.v6 s.data.toList)) (Adr.v6 s.data.toList).isSome = NewAddr (Adr.from_ gs) true) := Lib.hid (by rw [Adr.v6_e8 he]; rfl)
    have HG := Lib.hid (show (bytesA (Adr.from_ gs)).size = 16 by rw [bytesA_size, Adr.from_length, Adr.v6_length (Adr.v6_e8 he)])
    have HD : Hid (Adr.addrOf (some gs) = Adr.from_ gs) := Lib.hid rfl
    rw [HD.out] at HC
    generalize Adr.from_ gs = G at *
    clear hc8 he HD
    refine (HC.out _).mono ?_
    rintro e w1 ⟨rfl, b1⟩
    have R1 := R0.stays b1
    have B1 := B0.trans (b1.mono B0.size)
    have s1 := B1.size
    have n1 : w.heap.size ≠ w1.heap.size := by have := R1.lt; omega
    have T1 := Row.new w1 23 (bytesA zA)
    have T2 := T1.whole (bytesA G)
    have R2 := (R1.alloc (.cells (bytesA zA) 23)).aside n1 (bytesA G)
    have B2 := below_setRow (B1.alloc s1 (.cells (bytesA zA) 23)) s1 (bytesA G)
    clear R0 B0 b1 R1 B1
    go_wp2_with (first
      | (refine at_slot 19 rfl ?_; refine load_row rfl 23 _ rfl w1.heap.size rfl T2 Tryz.underlying23 rfl (by rw [HG.out]; exact infoAddr) ?_)
      | (refine wpList_store_row rfl 23 _ _ rfl w1.heap.size (bytesA G) rfl rfl 23 _ T1 (by rw [HG.out]; exact infoAddr) (by rw [HG.out]; rfl) (bytesA_one _) ?_)
      | (refine wpList_store_row rfl 23 _ _ rfl w.heap.size (bytesA G) rfl rfl 23 _ R2 (by rw [HG.out]; exact infoAddr) (by rw [HG.out]; rfl) (bytesA_one _) ?_))
    rw [HN.out]
    exact bodyPost_ret (results_cell_two rfl _ _ w.heap.size _ _ _ rfl _ rfl (R2.whole _) Tryz.underlying23 rfl (by rw [HG.out]; exact infoAddr)) rfl ⟨rfl, below_setRow B2 (Nat.le_refl _) _⟩
  | none =>
    rw [he] at hc8
    have HC : Hid (∀ W, Calls Tryz.prog 48 #[.string s] W (NewAddr zA false W)) := Lib.hid hc8
    have HE8 := Lib.hid he
    clear hc8 he
    refine (HC.out _).mono ?_
    rintro e w1 ⟨rfl, b1⟩
    have R1 := R0.stays b1
    have B1 := B0.trans (b1.mono B0.size)
    have s1 := B1.size
    have n1 : w.heap.size ≠ w1.heap.size := by have := R1.lt; omega
    have T1 := Row.new w1 23 (bytesA zA)
    have R2 := (R1.alloc (.cells (bytesA zA) 23)).aside n1 (bytesA zA)
    have B2 := below_setRow (B1.alloc s1 (.cells (bytesA zA) 23)) s1 (bytesA zA)
    clear R0 B0 b1 R1 B1
    go_wp2_with (refine wpList_store_row rfl 23 _ _ rfl w1.heap.size (bytesA zA) rfl rfl 23 _ T1 infoAddr rfl (bytesA_one _) ?_)
    generalize (w1.alloc (.cells (bytesA zA) 23)).setRow w1.heap.size (bytesA zA) = w2 at *
    generalize w1.heap.size = n4 at *
    clear T1 s1 n1 HC
    go_loopw [6] (fun i wr => ∃ at_ : Nat, at_ ≤ s.size ∧ i = .int .i64 at_ ∧ Hid (∀ j, j < at_ → Adr.Two s.data.toList j → Adr.cand (s.data.toList.take j) (s.data.toList.drop (j + 2)) = none) ∧ Row wr w.heap.size 23 (bytesA zA) ∧ Below w.heap.size w wr) (fun i _ => s.size + 1 - (intOf i).toNat)
    case atStart => exact ⟨0, Nat.zero_le _, rfl, fun j hj => absurd hj (by omega), R2, B2⟩
    case round =>
      clear R2 B2
      obtain ⟨at_, hat, rfl, HO, R, hb⟩ := hrel
      by_cases hle : at_ + 2 ≤ s.size
      · have l0 : at_ < s.size := by omega
        have l1 : at_ + 1 < s.size := by omega
        have e1 : ((at_ : Int) + 1).toNat = at_ + 1 := by omega
        have e2 : ((at_ : Int) + 2).toNat = at_ + 2 := by omega
        have t0 : s.data.toList[at_]? = some s[at_] := by rw [List.getElem?_eq_getElem (by rw [Oct.length_bytes]; exact l0)]; rfl
        have t1 : s.data.toList[at_ + 1]? = some s[at_ + 1] := by rw [List.getElem?_eq_getElem (by rw [Oct.length_bytes]; exact l1)]; rfl
        by_cases htwo : (s[at_].toNat : Int) = 58 ∧ (s[at_ + 1].toNat : Int) = 58
        · have hTwo : Adr.Two s.data.toList at_ := by
            unfold Adr.Two
            rw [t0, t1, Oct.eq_of_toNat (a := s[at_]) (b := 58) (by have := htwo.1; show _ = 58; omega), Oct.eq_of_toNat (a := s[at_ + 1]) (b := 58) (by have := htwo.2; show _ = 58; omega)]
            exact ⟨rfl, rfl⟩
          have HT := Lib.hid hTwo
          have g1 : ((s[at_].toNat : Int) != 58) = false := by rw [htwo.1]; rfl
          have g2 : ((s[at_ + 1].toNat : Int) != 58) = false := by rw [htwo.2]; rfl
          obtain ⟨A, hA⟩ : ∃ A, A = s.data.toList.take at_ := ⟨_, rfl⟩
          obtain ⟨B, hB⟩ : ∃ B, B = s.data.toList.drop (at_ + 2) := ⟨_, rfl⟩
          have HAe := Lib.hid hA
          have HBe := Lib.hid hB
          have HV := Lib.hid (fun gs (h : Adr.cand A B = some gs) => Adr.v6_at HT.out (by rw [← hA, ← hB]; exact h))
          have hlA : A.length = at_ := by rw [hA, List.length_take, Oct.length_bytes]; omega
          have hlB : B.length = s.size - (at_ + 2) := by rw [hB, List.length_drop, Oct.length_bytes]
          have hxA : (s.extract 0 at_).data.toList = A := by rw [Lib.extract_data, hA]; simp
          have hxB : (s.extract (at_ + 2) s.size).data.toList = B := by
            rw [Lib.extract_data, hB]
            exact List.take_of_length_le (by rw [List.length_drop, Oct.length_bytes]; exact Nat.le_refl _)
          have eA : (s.extract 0 at_).toList.isEmpty = decide (A = []) := by rw [Oct.bytes_data, hxA, Bool.eq_iff_iff, List.isEmpty_iff, decide_eq_true_iff]
          have eB : (s.extract (at_ + 2) s.size).toList.isEmpty = decide (B = []) := by rw [Oct.bytes_data, hxB, Bool.eq_iff_iff, List.isEmpty_iff, decide_eq_true_iff]
          clear hA hB htwo hTwo t0 t1
          by_cases hA0 : A = [] <;> by_cases hB0 : B = []
          · rw [decide_eq_true hA0] at eA
            rw [decide_eq_true hB0] at eB
            have hFf : (s.extract 0 at_ : ByteArray).data.toList = Adr.F A := by unfold Adr.F; rw [if_pos hA0]; rw [hxA, hA0]
            have hBb : (s.extract (at_ + 2) s.size : ByteArray).data.toList = Adr.H B := by unfold Adr.H; rw [if_pos hB0]; rw [hxB, hB0]
            have hfs : (s.extract 0 at_ : ByteArray).size ≤ 1048576 := by rw [← Oct.length_bytes, hFf]; unfold Adr.F; split <;> simp <;> omega
            have hbs : (s.extract (at_ + 2) s.size : ByteArray).size ≤ 1048576 := by rw [← Oct.length_bytes, hBb]; unfold Adr.H; split <;> simp <;> omega
            clear hxA hxB hlA hlB
            go_wp2
            generalize (s.extract 0 at_ : ByteArray) = f at *
            generalize (s.extract (at_ + 2) s.size : ByteArray) = b at *
            have HFf := Lib.hid hFf
            have HBb := Lib.hid hBb
            clear hFf hBb
            go_loopw [9, 10] (fun z i wv => ∃ (k : Nat) (o : ByteArray), k ≤ 8 ∧ i = .int .i64 (k : Int) ∧ z = .string o ∧ Hid (o.data.toList = Adr.Z k) ∧ o.size ≤ 17 ∧ Hid (∀ j, j < k → Adr.e8 (Adr.F A ++ Adr.Z j ++ Adr.H B) = none) ∧ Row wv w.heap.size 23 (bytesA zA) ∧ Below w.heap.size w wv) (fun _ i _ => 8 - (intOf i).toNat)
            case atStart => exact ⟨0, ⟨#[48]⟩, Nat.zero_le _, rfl, rfl, rfl, by decide, fun j hj => absurd hj (by omega), R, hb⟩
            case round =>
              clear R hb
              obtain ⟨k, o, hk, rfl, rfl, HOZ, ho, HNO, R, hb⟩ := hrel
              by_cases hk8 : k < 8
              · have q1 : ¬ 9223372036854775807 < f.size + o.size := by omega
                have q2 : ¬ 9223372036854775807 < f.size + o.size + b.size := by omega
                have q3 : ¬ 9223372036854775807 < o.size + 2 := by omega
                have cs : (⟨#[58, 48]⟩ : ByteArray).size = 2 := rfl
                have hsz : (f ++ o ++ b : ByteArray).size ≤ 2200000 := by rw [ByteArray.size_append, ByteArray.size_append]; omega
                have htt : (f ++ o ++ b : ByteArray).data.toList = Adr.F A ++ Adr.Z k ++ Adr.H B := by
                  rw [ByteArray.data_append, ByteArray.data_append, Array.toList_append, Array.toList_append, HFf.out, HBb.out, HOZ.out]
                have hc := fun W => HE.out (f ++ o ++ b) W hsz
                rw [htt] at hc
                clear htt hsz
                cases he : Adr.e8 (Adr.F A ++ Adr.Z k ++ Adr.H B) with
                | some gs =>
                  rw [he] at hc
                  have HC := Lib.hid hc
                  have hv := HV.out gs (Adr.cand_some he)
                  have HN : Hid (NewAddr (Adr.addrOf (Adr.v6 s.data.toList)) (Adr.v6 s.data.toList).isSome = NewAddr (Adr.from_ gs) true) := Lib.hid (by rw [hv]; rfl)
                  have HG := Lib.hid (show (bytesA (Adr.from_ gs)).size = 16 by rw [bytesA_size, Adr.from_length, Adr.v6_length hv])
                  have HD : Hid (Adr.addrOf (some gs) = Adr.from_ gs) := Lib.hid rfl
                  rw [HD.out] at HC
                  generalize Adr.from_ gs = G at *
                  clear hc he HD hv
                  go_wp2_with fail
                  refine (HC.out _).mono ?_
                  rintro e w3 ⟨rfl, b3⟩
                  have R3 := R.stays b3
                  have B3 := hb.trans (b3.mono hb.size)
                  have s3 := B3.size
                  have n3 : w.heap.size ≠ w3.heap.size := by have := R3.lt; omega
                  have T3 := Row.new w3 23 (bytesA zA)
                  have T5 := T3.whole (bytesA G)
                  have R5 := (R3.alloc (.cells (bytesA zA) 23)).aside n3 (bytesA G)
                  have B5 := below_setRow (B3.alloc s3 (.cells (bytesA zA) 23)) s3 (bytesA G)
                  clear R hb b3 R3 B3
                  go_wp2_with (first
                    | (refine at_slot 67 rfl ?_; refine load_row rfl 23 _ rfl w3.heap.size rfl T5 Tryz.underlying23 rfl (by rw [HG.out]; exact infoAddr) ?_)
                    | (refine wpList_store_row rfl 23 _ _ rfl w3.heap.size (bytesA G) rfl rfl 23 _ T3 (by rw [HG.out]; exact infoAddr) (by rw [HG.out]; rfl) (bytesA_one _) ?_)
                    | (refine wpList_store_row rfl 23 _ _ rfl w.heap.size (bytesA G) rfl rfl 23 _ R5 (by rw [HG.out]; exact infoAddr) (by rw [HG.out]; rfl) (bytesA_one _) ?_))
                  rw [HN.out]
                  exact bodyPost_ret (results_cell_two rfl _ _ w.heap.size _ _ _ rfl _ rfl (R5.whole _) Tryz.underlying23 rfl (by rw [HG.out]; exact infoAddr)) rfl ⟨rfl, below_setRow B5 (Nat.le_refl _) _⟩
                | none =>
                  rw [he] at hc
                  have HC : Hid (∀ W, Calls Tryz.prog 48 #[.string (f ++ o ++ b)] W (NewAddr zA false W)) := Lib.hid hc
                  have HNN : Hid (∀ j, j < k + 1 → Adr.e8 (Adr.F A ++ Adr.Z j ++ Adr.H B) = none) := Lib.hid fun j hj => by
                    by_cases e : j = k
                    · rw [e]; exact he
                    · exact HNO.out j (by omega)
                  have HOO := Lib.hid (show (o ++ ⟨#[58, 48]⟩ : ByteArray).data.toList = Adr.Z (k + 1) by rw [ByteArray.data_append, Array.toList_append, HOZ.out]; rfl)
                  have HOS := Lib.hid (show (o ++ ⟨#[58, 48]⟩ : ByteArray).size ≤ 17 by rw [← Oct.length_bytes, HOO.out, Adr.Z_length]; omega)
                  clear hc he HNO HOZ
                  go_wp2_with fail
                  refine (HC.out _).mono ?_
                  rintro e w3 ⟨rfl, b3⟩
                  have R3 := R.stays b3
                  have B3 := hb.trans (b3.mono hb.size)
                  have s3 := B3.size
                  have n3 : w.heap.size ≠ w3.heap.size := by have := R3.lt; omega
                  have T3 := Row.new w3 23 (bytesA zA)
                  have R5 := (R3.alloc (.cells (bytesA zA) 23)).aside n3 (bytesA zA)
                  have B5 := below_setRow (B3.alloc s3 (.cells (bytesA zA) 23)) s3 (bytesA zA)
                  clear R hb b3 R3 B3
                  go_wp2_with (refine wpList_store_row rfl 23 _ _ rfl w3.heap.size (bytesA zA) rfl rfl 23 _ T3 infoAddr rfl (bytesA_one _) ?_)
                  go_roundw
                  case rel => exact ⟨k + 1, _, by omega, by go_num, rfl, HOO.out, HOS.out, HNN.out, R5, B5⟩
                  case measure => simp [intOf]; omega
              · have hk8' : k = 8 := by omega
                subst hk8'
                have HK : Hid (∀ j, j < at_ + 1 → Adr.Two s.data.toList j → Adr.cand (s.data.toList.take j) (s.data.toList.drop (j + 2)) = none) := Lib.hid fun j hj h2 => by
                  by_cases e : j = at_
                  · subst e
                    have := Adr.cand_none HNO.out
                    rw [HAe.out, HBe.out] at this
                    exact this
                  · exact HO.out j (by omega) h2
                clear HNO
                go_wp2
                go_roundw
                case rel => exact ⟨at_ + 1, by omega, by go_num, HK.out, R, hb⟩
                case measure => simp [intOf]; omega
          · rw [decide_eq_true hA0] at eA
            rw [decide_eq_false hB0] at eB
            have hFf : (s.extract 0 at_ : ByteArray).data.toList = Adr.F A := by unfold Adr.F; rw [if_pos hA0]; rw [hxA, hA0]
            have hBb : (⟨#[58]⟩ ++ s.extract (at_ + 2) s.size : ByteArray).data.toList = Adr.H B := by unfold Adr.H; rw [if_neg hB0]; rw [ByteArray.data_append, Array.toList_append, hxB]; rfl
            have hfs : (s.extract 0 at_ : ByteArray).size ≤ 1048576 := by rw [← Oct.length_bytes, hFf]; unfold Adr.F; split <;> simp <;> omega
            have hbs : (⟨#[58]⟩ ++ s.extract (at_ + 2) s.size : ByteArray).size ≤ 1048576 := by rw [← Oct.length_bytes, hBb]; unfold Adr.H; split <;> simp <;> omega
            have sb : (s.extract (at_ + 2) s.size).size = s.size - (at_ + 2) := by rw [← Oct.length_bytes, hxB, hlB]
            have pb : ¬ 9223372036854775807 < 1 + (s.extract (at_ + 2) s.size).size := by omega
            clear sb
            clear hxA hxB hlA hlB
            go_wp2
            generalize (s.extract 0 at_ : ByteArray) = f at *
            generalize (⟨#[58]⟩ ++ s.extract (at_ + 2) s.size : ByteArray) = b at *
            have HFf := Lib.hid hFf
            have HBb := Lib.hid hBb
            clear hFf hBb
            go_loopw [9, 10] (fun z i wv => ∃ (k : Nat) (o : ByteArray), k ≤ 8 ∧ i = .int .i64 (k : Int) ∧ z = .string o ∧ Hid (o.data.toList = Adr.Z k) ∧ o.size ≤ 17 ∧ Hid (∀ j, j < k → Adr.e8 (Adr.F A ++ Adr.Z j ++ Adr.H B) = none) ∧ Row wv w.heap.size 23 (bytesA zA) ∧ Below w.heap.size w wv) (fun _ i _ => 8 - (intOf i).toNat)
            case atStart => exact ⟨0, ⟨#[48]⟩, Nat.zero_le _, rfl, rfl, rfl, by decide, fun j hj => absurd hj (by omega), R, hb⟩
            case round =>
              clear R hb
              obtain ⟨k, o, hk, rfl, rfl, HOZ, ho, HNO, R, hb⟩ := hrel
              by_cases hk8 : k < 8
              · have q1 : ¬ 9223372036854775807 < f.size + o.size := by omega
                have q2 : ¬ 9223372036854775807 < f.size + o.size + b.size := by omega
                have q3 : ¬ 9223372036854775807 < o.size + 2 := by omega
                have cs : (⟨#[58, 48]⟩ : ByteArray).size = 2 := rfl
                have hsz : (f ++ o ++ b : ByteArray).size ≤ 2200000 := by rw [ByteArray.size_append, ByteArray.size_append]; omega
                have htt : (f ++ o ++ b : ByteArray).data.toList = Adr.F A ++ Adr.Z k ++ Adr.H B := by
                  rw [ByteArray.data_append, ByteArray.data_append, Array.toList_append, Array.toList_append, HFf.out, HBb.out, HOZ.out]
                have hc := fun W => HE.out (f ++ o ++ b) W hsz
                rw [htt] at hc
                clear htt hsz
                cases he : Adr.e8 (Adr.F A ++ Adr.Z k ++ Adr.H B) with
                | some gs =>
                  rw [he] at hc
                  have HC := Lib.hid hc
                  have hv := HV.out gs (Adr.cand_some he)
                  have HN : Hid (NewAddr (Adr.addrOf (Adr.v6 s.data.toList)) (Adr.v6 s.data.toList).isSome = NewAddr (Adr.from_ gs) true) := Lib.hid (by rw [hv]; rfl)
                  have HG := Lib.hid (show (bytesA (Adr.from_ gs)).size = 16 by rw [bytesA_size, Adr.from_length, Adr.v6_length hv])
                  have HD : Hid (Adr.addrOf (some gs) = Adr.from_ gs) := Lib.hid rfl
                  rw [HD.out] at HC
                  generalize Adr.from_ gs = G at *
                  clear hc he HD hv
                  go_wp2_with fail
                  refine (HC.out _).mono ?_
                  rintro e w3 ⟨rfl, b3⟩
                  have R3 := R.stays b3
                  have B3 := hb.trans (b3.mono hb.size)
                  have s3 := B3.size
                  have n3 : w.heap.size ≠ w3.heap.size := by have := R3.lt; omega
                  have T3 := Row.new w3 23 (bytesA zA)
                  have T5 := T3.whole (bytesA G)
                  have R5 := (R3.alloc (.cells (bytesA zA) 23)).aside n3 (bytesA G)
                  have B5 := below_setRow (B3.alloc s3 (.cells (bytesA zA) 23)) s3 (bytesA G)
                  clear R hb b3 R3 B3
                  go_wp2_with (first
                    | (refine at_slot 67 rfl ?_; refine load_row rfl 23 _ rfl w3.heap.size rfl T5 Tryz.underlying23 rfl (by rw [HG.out]; exact infoAddr) ?_)
                    | (refine wpList_store_row rfl 23 _ _ rfl w3.heap.size (bytesA G) rfl rfl 23 _ T3 (by rw [HG.out]; exact infoAddr) (by rw [HG.out]; rfl) (bytesA_one _) ?_)
                    | (refine wpList_store_row rfl 23 _ _ rfl w.heap.size (bytesA G) rfl rfl 23 _ R5 (by rw [HG.out]; exact infoAddr) (by rw [HG.out]; rfl) (bytesA_one _) ?_))
                  rw [HN.out]
                  exact bodyPost_ret (results_cell_two rfl _ _ w.heap.size _ _ _ rfl _ rfl (R5.whole _) Tryz.underlying23 rfl (by rw [HG.out]; exact infoAddr)) rfl ⟨rfl, below_setRow B5 (Nat.le_refl _) _⟩
                | none =>
                  rw [he] at hc
                  have HC : Hid (∀ W, Calls Tryz.prog 48 #[.string (f ++ o ++ b)] W (NewAddr zA false W)) := Lib.hid hc
                  have HNN : Hid (∀ j, j < k + 1 → Adr.e8 (Adr.F A ++ Adr.Z j ++ Adr.H B) = none) := Lib.hid fun j hj => by
                    by_cases e : j = k
                    · rw [e]; exact he
                    · exact HNO.out j (by omega)
                  have HOO := Lib.hid (show (o ++ ⟨#[58, 48]⟩ : ByteArray).data.toList = Adr.Z (k + 1) by rw [ByteArray.data_append, Array.toList_append, HOZ.out]; rfl)
                  have HOS := Lib.hid (show (o ++ ⟨#[58, 48]⟩ : ByteArray).size ≤ 17 by rw [← Oct.length_bytes, HOO.out, Adr.Z_length]; omega)
                  clear hc he HNO HOZ
                  go_wp2_with fail
                  refine (HC.out _).mono ?_
                  rintro e w3 ⟨rfl, b3⟩
                  have R3 := R.stays b3
                  have B3 := hb.trans (b3.mono hb.size)
                  have s3 := B3.size
                  have n3 : w.heap.size ≠ w3.heap.size := by have := R3.lt; omega
                  have T3 := Row.new w3 23 (bytesA zA)
                  have R5 := (R3.alloc (.cells (bytesA zA) 23)).aside n3 (bytesA zA)
                  have B5 := below_setRow (B3.alloc s3 (.cells (bytesA zA) 23)) s3 (bytesA zA)
                  clear R hb b3 R3 B3
                  go_wp2_with (refine wpList_store_row rfl 23 _ _ rfl w3.heap.size (bytesA zA) rfl rfl 23 _ T3 infoAddr rfl (bytesA_one _) ?_)
                  go_roundw
                  case rel => exact ⟨k + 1, _, by omega, by go_num, rfl, HOO.out, HOS.out, HNN.out, R5, B5⟩
                  case measure => simp [intOf]; omega
              · have hk8' : k = 8 := by omega
                subst hk8'
                have HK : Hid (∀ j, j < at_ + 1 → Adr.Two s.data.toList j → Adr.cand (s.data.toList.take j) (s.data.toList.drop (j + 2)) = none) := Lib.hid fun j hj h2 => by
                  by_cases e : j = at_
                  · subst e
                    have := Adr.cand_none HNO.out
                    rw [HAe.out, HBe.out] at this
                    exact this
                  · exact HO.out j (by omega) h2
                clear HNO
                go_wp2
                go_roundw
                case rel => exact ⟨at_ + 1, by omega, by go_num, HK.out, R, hb⟩
                case measure => simp [intOf]; omega
          · rw [decide_eq_false hA0] at eA
            rw [decide_eq_true hB0] at eB
            have hFf : (s.extract 0 at_ ++ ⟨#[58]⟩ : ByteArray).data.toList = Adr.F A := by unfold Adr.F; rw [if_neg hA0]; rw [ByteArray.data_append, Array.toList_append, hxA]
            have hBb : (s.extract (at_ + 2) s.size : ByteArray).data.toList = Adr.H B := by unfold Adr.H; rw [if_pos hB0]; rw [hxB, hB0]
            have hfs : (s.extract 0 at_ ++ ⟨#[58]⟩ : ByteArray).size ≤ 1048576 := by rw [← Oct.length_bytes, hFf]; unfold Adr.F; split <;> simp <;> omega
            have hbs : (s.extract (at_ + 2) s.size : ByteArray).size ≤ 1048576 := by rw [← Oct.length_bytes, hBb]; unfold Adr.H; split <;> simp <;> omega
            have sa : (s.extract 0 at_).size = at_ := by rw [← Oct.length_bytes, hxA, hlA]
            have pa : ¬ 9223372036854775807 < (s.extract 0 at_).size + 1 := by omega
            clear sa
            clear hxA hxB hlA hlB
            go_wp2
            generalize (s.extract 0 at_ ++ ⟨#[58]⟩ : ByteArray) = f at *
            generalize (s.extract (at_ + 2) s.size : ByteArray) = b at *
            have HFf := Lib.hid hFf
            have HBb := Lib.hid hBb
            clear hFf hBb
            go_loopw [9, 10] (fun z i wv => ∃ (k : Nat) (o : ByteArray), k ≤ 8 ∧ i = .int .i64 (k : Int) ∧ z = .string o ∧ Hid (o.data.toList = Adr.Z k) ∧ o.size ≤ 17 ∧ Hid (∀ j, j < k → Adr.e8 (Adr.F A ++ Adr.Z j ++ Adr.H B) = none) ∧ Row wv w.heap.size 23 (bytesA zA) ∧ Below w.heap.size w wv) (fun _ i _ => 8 - (intOf i).toNat)
            case atStart => exact ⟨0, ⟨#[48]⟩, Nat.zero_le _, rfl, rfl, rfl, by decide, fun j hj => absurd hj (by omega), R, hb⟩
            case round =>
              clear R hb
              obtain ⟨k, o, hk, rfl, rfl, HOZ, ho, HNO, R, hb⟩ := hrel
              by_cases hk8 : k < 8
              · have q1 : ¬ 9223372036854775807 < f.size + o.size := by omega
                have q2 : ¬ 9223372036854775807 < f.size + o.size + b.size := by omega
                have q3 : ¬ 9223372036854775807 < o.size + 2 := by omega
                have cs : (⟨#[58, 48]⟩ : ByteArray).size = 2 := rfl
                have hsz : (f ++ o ++ b : ByteArray).size ≤ 2200000 := by rw [ByteArray.size_append, ByteArray.size_append]; omega
                have htt : (f ++ o ++ b : ByteArray).data.toList = Adr.F A ++ Adr.Z k ++ Adr.H B := by
                  rw [ByteArray.data_append, ByteArray.data_append, Array.toList_append, Array.toList_append, HFf.out, HBb.out, HOZ.out]
                have hc := fun W => HE.out (f ++ o ++ b) W hsz
                rw [htt] at hc
                clear htt hsz
                cases he : Adr.e8 (Adr.F A ++ Adr.Z k ++ Adr.H B) with
                | some gs =>
                  rw [he] at hc
                  have HC := Lib.hid hc
                  have hv := HV.out gs (Adr.cand_some he)
                  have HN : Hid (NewAddr (Adr.addrOf (Adr.v6 s.data.toList)) (Adr.v6 s.data.toList).isSome = NewAddr (Adr.from_ gs) true) := Lib.hid (by rw [hv]; rfl)
                  have HG := Lib.hid (show (bytesA (Adr.from_ gs)).size = 16 by rw [bytesA_size, Adr.from_length, Adr.v6_length hv])
                  have HD : Hid (Adr.addrOf (some gs) = Adr.from_ gs) := Lib.hid rfl
                  rw [HD.out] at HC
                  generalize Adr.from_ gs = G at *
                  clear hc he HD hv
                  go_wp2_with fail
                  refine (HC.out _).mono ?_
                  rintro e w3 ⟨rfl, b3⟩
                  have R3 := R.stays b3
                  have B3 := hb.trans (b3.mono hb.size)
                  have s3 := B3.size
                  have n3 : w.heap.size ≠ w3.heap.size := by have := R3.lt; omega
                  have T3 := Row.new w3 23 (bytesA zA)
                  have T5 := T3.whole (bytesA G)
                  have R5 := (R3.alloc (.cells (bytesA zA) 23)).aside n3 (bytesA G)
                  have B5 := below_setRow (B3.alloc s3 (.cells (bytesA zA) 23)) s3 (bytesA G)
                  clear R hb b3 R3 B3
                  go_wp2_with (first
                    | (refine at_slot 67 rfl ?_; refine load_row rfl 23 _ rfl w3.heap.size rfl T5 Tryz.underlying23 rfl (by rw [HG.out]; exact infoAddr) ?_)
                    | (refine wpList_store_row rfl 23 _ _ rfl w3.heap.size (bytesA G) rfl rfl 23 _ T3 (by rw [HG.out]; exact infoAddr) (by rw [HG.out]; rfl) (bytesA_one _) ?_)
                    | (refine wpList_store_row rfl 23 _ _ rfl w.heap.size (bytesA G) rfl rfl 23 _ R5 (by rw [HG.out]; exact infoAddr) (by rw [HG.out]; rfl) (bytesA_one _) ?_))
                  rw [HN.out]
                  exact bodyPost_ret (results_cell_two rfl _ _ w.heap.size _ _ _ rfl _ rfl (R5.whole _) Tryz.underlying23 rfl (by rw [HG.out]; exact infoAddr)) rfl ⟨rfl, below_setRow B5 (Nat.le_refl _) _⟩
                | none =>
                  rw [he] at hc
                  have HC : Hid (∀ W, Calls Tryz.prog 48 #[.string (f ++ o ++ b)] W (NewAddr zA false W)) := Lib.hid hc
                  have HNN : Hid (∀ j, j < k + 1 → Adr.e8 (Adr.F A ++ Adr.Z j ++ Adr.H B) = none) := Lib.hid fun j hj => by
                    by_cases e : j = k
                    · rw [e]; exact he
                    · exact HNO.out j (by omega)
                  have HOO := Lib.hid (show (o ++ ⟨#[58, 48]⟩ : ByteArray).data.toList = Adr.Z (k + 1) by rw [ByteArray.data_append, Array.toList_append, HOZ.out]; rfl)
                  have HOS := Lib.hid (show (o ++ ⟨#[58, 48]⟩ : ByteArray).size ≤ 17 by rw [← Oct.length_bytes, HOO.out, Adr.Z_length]; omega)
                  clear hc he HNO HOZ
                  go_wp2_with fail
                  refine (HC.out _).mono ?_
                  rintro e w3 ⟨rfl, b3⟩
                  have R3 := R.stays b3
                  have B3 := hb.trans (b3.mono hb.size)
                  have s3 := B3.size
                  have n3 : w.heap.size ≠ w3.heap.size := by have := R3.lt; omega
                  have T3 := Row.new w3 23 (bytesA zA)
                  have R5 := (R3.alloc (.cells (bytesA zA) 23)).aside n3 (bytesA zA)
                  have B5 := below_setRow (B3.alloc s3 (.cells (bytesA zA) 23)) s3 (bytesA zA)
                  clear R hb b3 R3 B3
                  go_wp2_with (refine wpList_store_row rfl 23 _ _ rfl w3.heap.size (bytesA zA) rfl rfl 23 _ T3 infoAddr rfl (bytesA_one _) ?_)
                  go_roundw
                  case rel => exact ⟨k + 1, _, by omega, by go_num, rfl, HOO.out, HOS.out, HNN.out, R5, B5⟩
                  case measure => simp [intOf]; omega
              · have hk8' : k = 8 := by omega
                subst hk8'
                have HK : Hid (∀ j, j < at_ + 1 → Adr.Two s.data.toList j → Adr.cand (s.data.toList.take j) (s.data.toList.drop (j + 2)) = none) := Lib.hid fun j hj h2 => by
                  by_cases e : j = at_
                  · subst e
                    have := Adr.cand_none HNO.out
                    rw [HAe.out, HBe.out] at this
                    exact this
                  · exact HO.out j (by omega) h2
                clear HNO
                go_wp2
                go_roundw
                case rel => exact ⟨at_ + 1, by omega, by go_num, HK.out, R, hb⟩
                case measure => simp [intOf]; omega
          · rw [decide_eq_false hA0] at eA
            rw [decide_eq_false hB0] at eB
            have hFf : (s.extract 0 at_ ++ ⟨#[58]⟩ : ByteArray).data.toList = Adr.F A := by unfold Adr.F; rw [if_neg hA0]; rw [ByteArray.data_append, Array.toList_append, hxA]
            have hBb : (⟨#[58]⟩ ++ s.extract (at_ + 2) s.size : ByteArray).data.toList = Adr.H B := by unfold Adr.H; rw [if_neg hB0]; rw [ByteArray.data_append, Array.toList_append, hxB]; rfl
            have hfs : (s.extract 0 at_ ++ ⟨#[58]⟩ : ByteArray).size ≤ 1048576 := by rw [← Oct.length_bytes, hFf]; unfold Adr.F; split <;> simp <;> omega
            have hbs : (⟨#[58]⟩ ++ s.extract (at_ + 2) s.size : ByteArray).size ≤ 1048576 := by rw [← Oct.length_bytes, hBb]; unfold Adr.H; split <;> simp <;> omega
            have sa : (s.extract 0 at_).size = at_ := by rw [← Oct.length_bytes, hxA, hlA]
            have pa : ¬ 9223372036854775807 < (s.extract 0 at_).size + 1 := by omega
            clear sa
            have sb : (s.extract (at_ + 2) s.size).size = s.size - (at_ + 2) := by rw [← Oct.length_bytes, hxB, hlB]
            have pb : ¬ 9223372036854775807 < 1 + (s.extract (at_ + 2) s.size).size := by omega
            clear sb
            clear hxA hxB hlA hlB
            go_wp2
            generalize (s.extract 0 at_ ++ ⟨#[58]⟩ : ByteArray) = f at *
            generalize (⟨#[58]⟩ ++ s.extract (at_ + 2) s.size : ByteArray) = b at *
            have HFf := Lib.hid hFf
            have HBb := Lib.hid hBb
            clear hFf hBb
            go_loopw [9, 10] (fun z i wv => ∃ (k : Nat) (o : ByteArray), k ≤ 8 ∧ i = .int .i64 (k : Int) ∧ z = .string o ∧ Hid (o.data.toList = Adr.Z k) ∧ o.size ≤ 17 ∧ Hid (∀ j, j < k → Adr.e8 (Adr.F A ++ Adr.Z j ++ Adr.H B) = none) ∧ Row wv w.heap.size 23 (bytesA zA) ∧ Below w.heap.size w wv) (fun _ i _ => 8 - (intOf i).toNat)
            case atStart => exact ⟨0, ⟨#[48]⟩, Nat.zero_le _, rfl, rfl, rfl, by decide, fun j hj => absurd hj (by omega), R, hb⟩
            case round =>
              clear R hb
              obtain ⟨k, o, hk, rfl, rfl, HOZ, ho, HNO, R, hb⟩ := hrel
              by_cases hk8 : k < 8
              · have q1 : ¬ 9223372036854775807 < f.size + o.size := by omega
                have q2 : ¬ 9223372036854775807 < f.size + o.size + b.size := by omega
                have q3 : ¬ 9223372036854775807 < o.size + 2 := by omega
                have cs : (⟨#[58, 48]⟩ : ByteArray).size = 2 := rfl
                have hsz : (f ++ o ++ b : ByteArray).size ≤ 2200000 := by rw [ByteArray.size_append, ByteArray.size_append]; omega
                have htt : (f ++ o ++ b : ByteArray).data.toList = Adr.F A ++ Adr.Z k ++ Adr.H B := by
                  rw [ByteArray.data_append, ByteArray.data_append, Array.toList_append, Array.toList_append, HFf.out, HBb.out, HOZ.out]
                have hc := fun W => HE.out (f ++ o ++ b) W hsz
                rw [htt] at hc
                clear htt hsz
                cases he : Adr.e8 (Adr.F A ++ Adr.Z k ++ Adr.H B) with
                | some gs =>
                  rw [he] at hc
                  have HC := Lib.hid hc
                  have hv := HV.out gs (Adr.cand_some he)
                  have HN : Hid (NewAddr (Adr.addrOf (Adr.v6 s.data.toList)) (Adr.v6 s.data.toList).isSome = NewAddr (Adr.from_ gs) true) := Lib.hid (by rw [hv]; rfl)
                  have HG := Lib.hid (show (bytesA (Adr.from_ gs)).size = 16 by rw [bytesA_size, Adr.from_length, Adr.v6_length hv])
                  have HD : Hid (Adr.addrOf (some gs) = Adr.from_ gs) := Lib.hid rfl
                  rw [HD.out] at HC
                  generalize Adr.from_ gs = G at *
                  clear hc he HD hv
                  go_wp2_with fail
                  refine (HC.out _).mono ?_
                  rintro e w3 ⟨rfl, b3⟩
                  have R3 := R.stays b3
                  have B3 := hb.trans (b3.mono hb.size)
                  have s3 := B3.size
                  have n3 : w.heap.size ≠ w3.heap.size := by have := R3.lt; omega
                  have T3 := Row.new w3 23 (bytesA zA)
                  have T5 := T3.whole (bytesA G)
                  have R5 := (R3.alloc (.cells (bytesA zA) 23)).aside n3 (bytesA G)
                  have B5 := below_setRow (B3.alloc s3 (.cells (bytesA zA) 23)) s3 (bytesA G)
                  clear R hb b3 R3 B3
                  go_wp2_with (first
                    | (refine at_slot 67 rfl ?_; refine load_row rfl 23 _ rfl w3.heap.size rfl T5 Tryz.underlying23 rfl (by rw [HG.out]; exact infoAddr) ?_)
                    | (refine wpList_store_row rfl 23 _ _ rfl w3.heap.size (bytesA G) rfl rfl 23 _ T3 (by rw [HG.out]; exact infoAddr) (by rw [HG.out]; rfl) (bytesA_one _) ?_)
                    | (refine wpList_store_row rfl 23 _ _ rfl w.heap.size (bytesA G) rfl rfl 23 _ R5 (by rw [HG.out]; exact infoAddr) (by rw [HG.out]; rfl) (bytesA_one _) ?_))
                  rw [HN.out]
                  exact bodyPost_ret (results_cell_two rfl _ _ w.heap.size _ _ _ rfl _ rfl (R5.whole _) Tryz.underlying23 rfl (by rw [HG.out]; exact infoAddr)) rfl ⟨rfl, below_setRow B5 (Nat.le_refl _) _⟩
                | none =>
                  rw [he] at hc
                  have HC : Hid (∀ W, Calls Tryz.prog 48 #[.string (f ++ o ++ b)] W (NewAddr zA false W)) := Lib.hid hc
                  have HNN : Hid (∀ j, j < k + 1 → Adr.e8 (Adr.F A ++ Adr.Z j ++ Adr.H B) = none) := Lib.hid fun j hj => by
                    by_cases e : j = k
                    · rw [e]; exact he
                    · exact HNO.out j (by omega)
                  have HOO := Lib.hid (show (o ++ ⟨#[58, 48]⟩ : ByteArray).data.toList = Adr.Z (k + 1) by rw [ByteArray.data_append, Array.toList_append, HOZ.out]; rfl)
                  have HOS := Lib.hid (show (o ++ ⟨#[58, 48]⟩ : ByteArray).size ≤ 17 by rw [← Oct.length_bytes, HOO.out, Adr.Z_length]; omega)
                  clear hc he HNO HOZ
                  go_wp2_with fail
                  refine (HC.out _).mono ?_
                  rintro e w3 ⟨rfl, b3⟩
                  have R3 := R.stays b3
                  have B3 := hb.trans (b3.mono hb.size)
                  have s3 := B3.size
                  have n3 : w.heap.size ≠ w3.heap.size := by have := R3.lt; omega
                  have T3 := Row.new w3 23 (bytesA zA)
                  have R5 := (R3.alloc (.cells (bytesA zA) 23)).aside n3 (bytesA zA)
                  have B5 := below_setRow (B3.alloc s3 (.cells (bytesA zA) 23)) s3 (bytesA zA)
                  clear R hb b3 R3 B3
                  go_wp2_with (refine wpList_store_row rfl 23 _ _ rfl w3.heap.size (bytesA zA) rfl rfl 23 _ T3 infoAddr rfl (bytesA_one _) ?_)
                  go_roundw
                  case rel => exact ⟨k + 1, _, by omega, by go_num, rfl, HOO.out, HOS.out, HNN.out, R5, B5⟩
                  case measure => simp [intOf]; omega
              · have hk8' : k = 8 := by omega
                subst hk8'
                have HK : Hid (∀ j, j < at_ + 1 → Adr.Two s.data.toList j → Adr.cand (s.data.toList.take j) (s.data.toList.drop (j + 2)) = none) := Lib.hid fun j hj h2 => by
                  by_cases e : j = at_
                  · subst e
                    have := Adr.cand_none HNO.out
                    rw [HAe.out, HBe.out] at this
                    exact this
                  · exact HO.out j (by omega) h2
                clear HNO
                go_wp2
                go_roundw
                case rel => exact ⟨at_ + 1, by omega, by go_num, HK.out, R, hb⟩
                case measure => simp [intOf]; omega
        · have HK : Hid (∀ j, j < at_ + 1 → Adr.Two s.data.toList j → Adr.cand (s.data.toList.take j) (s.data.toList.drop (j + 2)) = none) := Lib.hid fun j hj h2 => by
            by_cases e : j = at_
            · subst e
              refine absurd ?_ htwo
              rw [h2.1] at t0
              rw [h2.2] at t1
              rw [← Option.some.inj t0, ← Option.some.inj t1]
              exact ⟨rfl, rfl⟩
            · exact HO.out j (by omega) h2
          have hor : ((s[at_].toNat : Int) != 58) = true ∨ (((s[at_].toNat : Int) != 58) = false ∧ ((s[at_ + 1].toNat : Int) != 58) = true) := by
            by_cases h : (s[at_].toNat : Int) = 58
            · right
              exact ⟨by rw [h]; rfl, by rw [bne_iff_ne]; exact fun k => htwo ⟨h, k⟩⟩
            · left; rw [bne_iff_ne]; exact h
          clear htwo t0 t1
          rcases hor with g1 | ⟨g1, g2⟩
          all_goals
            go_wp2
            go_roundw
            case rel => exact ⟨at_ + 1, by omega, by go_num, HK.out, R, hb⟩
            case measure => simp [intOf]; omega
      · have HN : Hid (NewAddr (Adr.addrOf (Adr.v6 s.data.toList)) (Adr.v6 s.data.toList).isSome = NewAddr zA false) := Lib.hid (by
          rw [Adr.v6_end HE8.out fun j h2 => HO.out j (by have := (List.getElem?_eq_some_iff.1 h2.2).1; rw [Oct.length_bytes] at this; omega) h2]; rfl)
        go_wp2_with (refine wpList_store_row rfl 23 _ _ rfl w.heap.size (bytesA zA) rfl rfl 23 _ R infoAddr rfl (bytesA_one _) ?_)
        rw [HN.out]
        exact bodyPost_ret (results_cell_two rfl _ _ w.heap.size _ _ _ rfl _ rfl (R.whole _) Tryz.underlying23 rfl infoAddr) rfl ⟨rfl, below_setRow hb (Nat.le_refl _) _⟩
end Go.Proofs.YtkajddopjflniaaGreatDoor
/- The walks of the reference's label and Parse. -/
namespace Go.Proofs.YtkajddopjflniaaGreatDoor
open Go.RowKit
set_option maxHeartbeats 1000000 in
theorem refLabel_calls (s : ByteArray) (w : World) (hs : s.size ≤ 1099511627776) :
    Calls Tryz.prog 36 #[.string s] w fun e w' => e = .returned (.bool (Hst.refLab s.data.toList)) ∧ w = w' := by
  have HL := Lib.hid (Oct.length_bytes s)
  go_enter Tryz.func36, Tryz.ntmps36
  go_wp2
  go_loop [3, 4] (fun i _ => ∃ k : Nat, k ≤ s.size ∧ i = .int .i64 k ∧ (s.data.toList.take k).all Hst.refB = true) (fun i _ => s.size - (intOf i).toNat)
  case atStart => exact ⟨0, Nat.zero_le _, rfl, by simp⟩
  case round =>
    obtain ⟨k, hk, rfl, hall⟩ := hrel
    have HA := Lib.hid hall
    clear hall
    by_cases hlt : k < s.size
    · have hc : s[k].toNat < 256 := s[k].toNat_lt
      cases hq : Hst.refB s[k] with
      | true =>
        have hq2 := hq
        unfold Hst.refB at hq2
        have hq3 := of_decide_eq_true hq2
        have HS := Lib.hid (Oct.all_snoc s k hlt HA.out hq)
        clear hq hq2
        rcases hq3 with h | h | h | h
        · have h1 : ¬ (s[k].toNat : Int) < 97 := by omega
          have h2 : ¬ (122 : Int) < (s[k].toNat : Int) := by omega
          clear h
          go_wp2
          go_round
          case rel => exact ⟨k + 1, by omega, by go_num, HS.out⟩
          case measure => simp [intOf]; omega
        · have h1 : (s[k].toNat : Int) < 97 := by omega
          have h2 : ¬ (s[k].toNat : Int) < 48 := by omega
          have h3 : ¬ (57 : Int) < (s[k].toNat : Int) := by omega
          clear h
          go_wp2
          go_round
          case rel => exact ⟨k + 1, by omega, by go_num, HS.out⟩
          case measure => simp [intOf]; omega
        · have h1 : (s[k].toNat : Int) < 97 := by omega
          have h2 : (s[k].toNat : Int) < 48 := by omega
          have h3 : (s[k].toNat : Int) = 45 := by omega
          clear h
          go_wp2
          go_round
          case rel => exact ⟨k + 1, by omega, by go_num, HS.out⟩
          case measure => simp [intOf]; omega
        · have h1 : (s[k].toNat : Int) < 97 := by omega
          have h2 : ¬ (s[k].toNat : Int) < 48 := by omega
          have h3 : (57 : Int) < (s[k].toNat : Int) := by omega
          have h4 : (s[k].toNat : Int) = 95 := by omega
          clear h
          go_wp2
          go_round
          case rel => exact ⟨k + 1, by omega, by go_num, HS.out⟩
          case measure => simp [intOf]; omega
      | false =>
        have hq2 := hq
        unfold Hst.refB at hq2
        have hq3 := of_decide_eq_false hq2
        have HS := Lib.hid (Oct.all_not s k hlt hq)
        clear hq hq2
        have h5 : ((s[k].toNat : Int) != 45) = true := bne_iff_ne.2 (by omega)
        have h6 : ((s[k].toNat : Int) != 95) = true := bne_iff_ne.2 (by omega)
        have hcase : ((s[k].toNat : Int) < 97 ∧ (s[k].toNat : Int) < 48) ∨ ((s[k].toNat : Int) < 97 ∧ ¬ (s[k].toNat : Int) < 48 ∧ (57 : Int) < (s[k].toNat : Int)) ∨ (¬ (s[k].toNat : Int) < 97 ∧ (122 : Int) < (s[k].toNat : Int) ∧ ¬ (s[k].toNat : Int) < 48 ∧ (57 : Int) < (s[k].toNat : Int)) := by omega
        clear hq3
        rcases hcase with ⟨h1, h2⟩ | ⟨h1, h2, h3⟩ | ⟨h1, h2, h3, h4⟩
        all_goals
          go_wp2
          go_ret
          exact ⟨ret_bool (by unfold Hst.refLab; rw [HS.out]; simp), rfl⟩
    · by_cases h1 : (1 : Int) ≤ (s.size : Int)
      · go_wp2
        go_ret
        exact ⟨ret_bool (by unfold Hst.refLab; rw [← Oct.take_all s k (by omega), HA.out, Oct.take_all s k (by omega), HL.out, Bool.and_true, decide_eq_decide]; omega), rfl⟩
      · go_wp2
        go_ret
        exact ⟨ret_bool (by unfold Hst.refLab; rw [HL.out, decide_eq_false (show ¬ (1 ≤ s.size ∧ s.size ≤ 63) by omega)]; rfl), rfl⟩
namespace Hst
theorem head_last {s : ByteArray} (hp : s.size - 1 < s.size) (h : s.data.toList.head? = some 91) : (s[s.size - 1] = 93) ↔ s.data.toList.tail.getLast? = some 93 := by
  have hl := Oct.last_bytes s hp
  generalize s[s.size - 1] = c at *
  generalize s.data.toList = l at *
  cases l with
  | nil => cases h
  | cons d r =>
    simp at h
    subst h
    cases r with
    | nil =>
      simp at hl
      subst hl
      simp
    | cons e r =>
      rw [List.getLast?_cons_cons] at hl
      show _ ↔ (e :: r).getLast? = some 93
      rw [hl]
      exact ⟨fun k => by rw [k], fun k => Option.some.inj k⟩
theorem inner_bytes (s : ByteArray) : (s.extract 1 (s.size - 1)).data.toList = s.data.toList.tail.dropLast := by
  rw [Lib.extract_eq, List.dropLast_eq_take, ← List.drop_one]
  show ((s.data.toList.drop 1).take (s.size - 1 - 1)) = _
  rw [List.length_drop, Oct.length_bytes]
end Hst
end Go.Proofs.YtkajddopjflniaaGreatDoor
/- The walk of the reference's Parse. -/
namespace Go.Proofs.YtkajddopjflniaaGreatDoor
open Go.RowKit
namespace Hst
theorem v4_get (l : List UInt8) : v4part l = if (Adr.v4 l).isSome = true then some ⟨2, [], Adr.addr4 (Adr.v4 l)⟩ else none := v4part_eq l
theorem v6_get {l : List UInt8} (h : l.getLast? = some 93) : v6part l = if (Adr.v6 l.dropLast).isSome = true then some ⟨3, [], Adr.addrOf (Adr.v6 l.dropLast)⟩ else none := by
  unfold v6part
  rw [if_pos h]
  cases Adr.v6 l.dropLast <;> rfl
end Hst
set_option maxRecDepth 100000 in
set_option maxHeartbeats 4000000 in
theorem refParse_calls (s : ByteArray) (w : World) (hs : s.size ≤ 1048576) :
    Calls Tryz.prog 21 #[.string s] w (NewHost (Hst.parse s.data.toList) w) := by
  rw [← Hst.refParse_eq]
  have z0 := zeroHost
  have z1 := bytesA_zA
  have HZ0 := Lib.hid (show (hostA Hst.zero).size = 18 from rfl)
  have hl := Oct.length_bytes s
  by_cases hhead : s.data.toList.head? = some 91
  · have hpos : 0 < s.size := by
      rcases Nat.eq_zero_or_pos s.size with h | h
      · rw [(Oct.nil_size s).2 h] at hhead; cases hhead
      · exact h
    have hp : s.size - 1 < s.size := by omega
    have h0 : ((s[0].toNat : Int) == 91) = true := by
      have := Oct.head_bytes s hpos
      rw [hhead] at this
      rw [← Option.some.inj this]; rfl
    have h0i : (s[0].toNat : Int) = 91 := by simpa using h0
    have hpos1 : (0 : Int) < (s.size : Int) := by omega
    have hz : ((s.size : Int) - 1).toNat = s.size - 1 := by omega
    have hiff := Hst.head_last hp hhead
    by_cases hc : s[s.size - 1] = 93
    · have hc1 : (s[s.size - 1].toNat : Int) = 93 := by rw [hc]; rfl
      have hc2 : ((s[s.size - 1].toNat : Int) != 93) = false := by rw [hc]; rfl
      have h2 : 2 ≤ s.size := by
        rcases Nat.lt_or_ge s.size 2 with h | h
        · have : s.size - 1 = 0 := by omega
          simp only [this] at hc1
          omega
        · exact h
      have hlast := hiff.1 hc
      have HN : Hid (Hst.refParse s.data.toList = if (Adr.v6 s.data.toList.tail.dropLast).isSome = true then some ⟨3, [], Adr.addrOf (Adr.v6 s.data.toList.tail.dropLast)⟩ else none) :=
        Lib.hid (by unfold Hst.refParse; rw [if_pos hhead, Hst.v6_get hlast])
      have H1 : ∀ W, Calls Tryz.prog 31 #[.string (s.extract 1 (s.size - 1))] W (NewAddr (Adr.addrOf (Adr.v6 s.data.toList.tail.dropLast)) (Adr.v6 s.data.toList.tail.dropLast).isSome W) := fun W => by
        have hb := Hst.inner_bytes s
        have hz : (s.extract 1 (s.size - 1)).size ≤ 1048576 := by
          have e := congrArg List.length hb
          rw [Oct.length_bytes, List.length_dropLast, List.length_tail, hl] at e
          omega
        have := refV6_calls (s.extract 1 (s.size - 1)) W hz
        rw [hb] at this
        exact this
      have H1 := Lib.hid H1
      have ha : (Adr.addrOf (Adr.v6 s.data.toList.tail.dropLast)).length = 16 := Adr.addrOf_length _
      rw [HN.out]
      clear HN hhead hiff hlast hc hl
      generalize Adr.addrOf (Adr.v6 s.data.toList.tail.dropLast) = a at *
      generalize (Adr.v6 s.data.toList.tail.dropLast).isSome = ok at *
      have HZA := Lib.hid (show (bytesA a).size = 16 by rw [bytesA_size, ha])
      have HH := Lib.hid (hostA_size ⟨3, [], a⟩ ha)
      have HB := Lib.hid (built_addr 3 a ha)
      have HF : Hid (ok = false → ∀ w', Below w.heap.size w w' → NewHost (if ok = true then some ⟨3, [], a⟩ else none) w (.returned (.tuple #[.agg (hostA Hst.zero), .int .i64 31])) w') := Lib.hid (fun h w' hb => by subst h; exact newHost_of rfl rfl hb)
      have HTT : Hid (ok = true → ∀ w', Below w.heap.size w w' → NewHost (if ok = true then some ⟨3, [], a⟩ else none) w (.returned (.tuple #[.agg (hostA ⟨3, [], a⟩), .int .i64 0])) w') := Lib.hid (fun h w' hb => by subst h; exact newHost_of rfl rfl hb)
      generalize NewHost (if ok = true then some ⟨3, [], a⟩ else none) w = post at *
      clear ha
      go_enter Tryz.func21, Tryz.ntmps21
      go_wp2_with fail
      have R0 := Row.new w 25 (hostA Hst.zero)
      have B0 := (Below.refl w.heap.size w).alloc (Nat.le_refl _) (.cells (hostA Hst.zero) 25)
      generalize w.alloc (.cells (hostA Hst.zero) 25) = w0 at *
      refine (H1.out _).mono ?_
      rintro e v2 ⟨rfl, d2⟩
      have R1 := R0.stays d2
      have B1 := B0.trans (d2.mono B0.size)
      obtain ⟨T, U, C, L⟩ := lay_row 23 (bytesA zA) (bytesA a) B1 B1.size
      have R2 := L _ _ _ R1
      clear L R0 R1 B0 B1 d2
      cases ok
      all_goals
        go_wp2_with (first
          | (refine wpList_store_row rfl 23 _ _ rfl v2.heap.size (bytesA a) rfl rfl 23 _ T (by rw [HZA.out]; exact infoAddr) (by rw [HZA.out]; rfl) (bytesA_one _) ?_)
          | (refine at_slot 39 rfl ?_; refine load_row rfl 23 _ rfl v2.heap.size rfl U Tryz.underlying23 rfl (by rw [HZA.out]; exact infoAddr) ?_)
          | (refine at_slot 40 rfl ?_; refine build_two rfl 25 0 2 _ _ rfl _ _ rfl rfl (hostA ⟨3, [], a⟩) HB.out ?_)
          | (refine wpList_store_row rfl 25 _ _ rfl w.heap.size (hostA Hst.zero) rfl rfl 25 _ R2 (by rw [HZ0.out]; exact infoHost) rfl (hostA_one _) ?_)
          | (refine wpList_store_row rfl 25 _ _ rfl w.heap.size (hostA ⟨3, [], a⟩) rfl rfl 25 _ R2 (by rw [HH.out]; exact infoHost) (by rw [HH.out]; rfl) (hostA_one _) ?_))
        first
          | exact bodyPost_ret (v := .tuple #[.agg (hostA Hst.zero), .int .i64 31]) (results_cell_two rfl _ _ w.heap.size _ _ _ rfl _ rfl (R2.whole _) Tryz.underlying25 rfl (by rw [HZ0.out]; exact infoHost)) rfl (HF.out (by trivial) _ (below_setRow C (Nat.le_refl _) _))
          | exact bodyPost_ret (v := .tuple #[.agg (hostA ⟨3, [], a⟩), .int .i64 0]) (results_cell_two rfl _ _ w.heap.size _ _ _ rfl _ rfl (R2.whole _) Tryz.underlying25 rfl (by rw [HH.out]; exact infoHost)) rfl (HTT.out (by trivial) _ (below_setRow C (Nat.le_refl _) _))
    · have hc2 : ((s[s.size - 1].toNat : Int) != 93) = true := bne_iff_ne.2 (fun k => hc (Oct.eq_of_toNat (by show _ = 93; omega)))
      have hc1 : ¬ (s[s.size - 1].toNat : Int) = 93 := fun k => hc (Oct.eq_of_toNat (by show _ = 93; omega))
      have HN : Hid (Hst.refParse s.data.toList = none) := Lib.hid (by unfold Hst.refParse Hst.v6part; rw [if_pos hhead, if_neg (fun k => hc (hiff.2 k))])
      rw [HN.out]
      clear HN hiff hhead hc hl
      have R0 := Row.new w 25 (hostA Hst.zero)
      have B0 := (Below.refl w.heap.size w).alloc (Nat.le_refl _) (.cells (hostA Hst.zero) 25)
      go_enter Tryz.func21, Tryz.ntmps21
      go_wp2_with (refine wpList_store_row rfl 25 _ _ rfl w.heap.size (hostA Hst.zero) rfl rfl 25 _ R0 (by rw [HZ0.out]; exact infoHost) rfl (hostA_one _) ?_)
      exact bodyPost_ret (v := .tuple #[.agg (hostA Hst.zero), .int .i64 31]) (results_cell_two rfl _ _ w.heap.size _ _ _ rfl _ rfl (R0.whole _) Tryz.underlying25 rfl (by rw [HZ0.out]; exact infoHost)) rfl (newHost_of rfl rfl (below_setRow B0 (Nat.le_refl _) _))
  -- no bracket
  have H1 := Lib.hid (fun W => refLower_calls s W (by omega))
  obtain ⟨u, hu⟩ : ∃ u : ByteArray, u = ⟨(s.data.toList.map Oct.low).toArray⟩ := ⟨_, rfl⟩
  have hul : u.data.toList = s.data.toList.map Oct.low := by rw [hu]
  have hus : u.size = s.size := by rw [← Oct.length_bytes, hul, List.length_map, hl]
  unfold NewText at H1
  rw [← hu] at H1
  clear hu
  have hlen := Oct.split_length 46 u.data.toList
  have hpos := Oct.split_pos 46 u.data.toList
  have hsm := Oct.split_small 46 u.data.toList
  rw [Oct.length_bytes, hus] at hlen hsm
  have H3 : ∀ W, Calls Tryz.prog 33 #[.string u, .int .u8 46] W (NewTextsAt W.heap.size (Oct.split 46 u.data.toList) W) := fun W => (refSplit_calls u 46 W (by omega)).mono fun _ _ h => h.at_ (Oct.split_pos _ _)
  have H3 := Lib.hid H3
  obtain ⟨p, hp⟩ : ∃ p, (Oct.split 46 u.data.toList)[(Oct.split 46 u.data.toList).length - 1]? = some p := ⟨_, List.getElem?_eq_getElem (by omega)⟩
  have hlastp : Hst.last u.data.toList = p := by unfold Hst.last; rw [hp]; rfl
  have hps : p.length ≤ s.size := hsm p (List.mem_of_getElem? hp)
  have HP := Lib.hid hp
  have HN : Hid (Hst.refParse s.data.toList = if Oct.digits p = true then Hst.v4part s.data.toList else if (Oct.split 46 u.data.toList).all Hst.refLab = true ∧ s.size ≤ 253 then some ⟨1, u.data.toList, Hst.nil16⟩ else none) :=
    Lib.hid (by unfold Hst.refParse; rw [if_neg hhead, ← hul, hlastp, hl])
  have hstart : (0 < s.size ∧ ∃ h : 0 < s.size, ((s[0].toNat : Int) == 91) = false) ∨ s.size = 0 := by
    rcases Nat.eq_zero_or_pos s.size with h | h
    · exact .inr h
    · refine .inl ⟨h, h, ?_⟩
      have := Oct.head_bytes s h
      rw [beq_eq_false_iff_ne]
      intro e
      apply hhead
      rw [this]
      exact congrArg some (Oct.eq_of_toNat (by show _ = 91; omega))
  obtain ⟨t, ht⟩ : ∃ t : ByteArray, t = ⟨p.toArray⟩ := ⟨_, rfl⟩
  have hts : t.size ≤ s.size := by rw [ht]; show (List.toArray _).size ≤ _; simp; omega
  have H4 : ∀ W, Calls Tryz.prog 34 #[.string t] W fun e w' => e = .returned (.bool (Oct.digits p)) ∧ W = w' := fun W => by
    have := refDigits_calls t W (by unfold maxLen; omega)
    have e : t.data.toList = p := by rw [ht]
    rw [e] at this
    exact this
  have H4 := Lib.hid H4
  have HT := Lib.hid ht
  have H5 := Lib.hid (fun W => refV4_calls s W (by omega))
  have HV := Lib.hid (Hst.v4_get s.data.toList)
  have ha := Hst.addr4_length s.data.toList
  rw [HN.out]
  have HB := Lib.hid (built_name 1 u)
  have HSM := Lib.hid hsm
  clear HN hp hlastp hhead hl hul ht hsm
  generalize Oct.split 46 u.data.toList = ps at *
  generalize u.data.toList = ul at *
  have hz : ((ps.length : Int) - 1).toNat = ps.length - 1 := by omega
  have HXZ := Lib.hid (hostA_size ⟨1, ul, Hst.nil16⟩ rfl)
  cases hd : Oct.digits p with
  | true =>
    rw [hd] at H4
    rw [if_pos rfl, HV.out]
    generalize Adr.addr4 (Adr.v4 s.data.toList) = a at *
    generalize (Adr.v4 s.data.toList).isSome = ok at *
    have HZA := Lib.hid (show (bytesA a).size = 16 by rw [bytesA_size, ha])
    have HH := Lib.hid (hostA_size ⟨2, [], a⟩ ha)
    have HB2 := Lib.hid (built_addr 2 a ha)
    have HF : Hid (ok = false → ∀ w', Below w.heap.size w w' → NewHost (if ok = true then some ⟨2, [], a⟩ else none) w (.returned (.tuple #[.agg (hostA Hst.zero), .int .i64 31])) w') := Lib.hid (fun h w' hb => by subst h; exact newHost_of rfl rfl hb)
    have HTT : Hid (ok = true → ∀ w', Below w.heap.size w w' → NewHost (if ok = true then some ⟨2, [], a⟩ else none) w (.returned (.tuple #[.agg (hostA ⟨2, [], a⟩), .int .i64 0])) w') := Lib.hid (fun h w' hb => by subst h; exact newHost_of rfl rfl hb)
    generalize NewHost (if ok = true then some ⟨2, [], a⟩ else none) w = post at *
    clear ha hd HV HB HXZ
    rcases hstart with ⟨hs0, hs1, hs2⟩ | hs0
    all_goals
      go_enter Tryz.func21, Tryz.ntmps21
      go_wp2_with fail
      have R0 := Row.new w 25 (hostA Hst.zero)
      have B0 := (Below.refl w.heap.size w).alloc (Nat.le_refl _) (.cells (hostA Hst.zero) 25)
      generalize w.alloc (.cells (hostA Hst.zero) 25) = w0 at *
      refine (H1.out _).mono ?_
      rintro e v1 ⟨rfl, d1⟩
      have R1 := R0.stays d1
      have B1 := B0.trans (d1.mono B0.size)
      go_wp2_with fail
      refine (H3.out _).mono ?_
      rintro e v2 ⟨g, cap, rfl, hown, d2⟩
      have R2 := R1.stays d2
      have B2 := B1.trans (d2.mono B1.size)
      have hcell := own_text (k := ps.length - 1) hown HP.out HT.out
      have hcap := own_cap hown
      clear hown d2 R0 B0 d1 R1 B1
      go_wp2_with fail
      refine (H4.out _).mono ?_
      rintro e v3 ⟨rfl, rfl⟩
      go_wp2_with fail
      refine (H5.out _).mono ?_
      rintro e v4 ⟨rfl, d4⟩
      have R3 := R2.stays d4
      have B3 := B2.trans (d4.mono B2.size)
      obtain ⟨T, U, C, L⟩ := lay_row 23 (bytesA zA) (bytesA a) B3 B3.size
      have R4 := L _ _ _ R3
      clear L R2 B2 R3 B3 d4 hcell
      cases ok
      all_goals
        go_wp2_with (first
          | (refine wpList_store_row rfl 23 _ _ rfl v4.heap.size (bytesA a) rfl rfl 23 _ T (by rw [HZA.out]; exact infoAddr) (by rw [HZA.out]; rfl) (bytesA_one _) ?_)
          | (refine at_slot 60 rfl ?_; refine load_row rfl 23 _ rfl v4.heap.size rfl U Tryz.underlying23 rfl (by rw [HZA.out]; exact infoAddr) ?_)
          | (refine at_slot 61 rfl ?_; refine build_two rfl 25 0 2 _ _ rfl _ _ rfl rfl (hostA ⟨2, [], a⟩) HB2.out ?_)
          | (refine wpList_store_row rfl 25 _ _ rfl w.heap.size (hostA Hst.zero) rfl rfl 25 _ R4 (by rw [HZ0.out]; exact infoHost) rfl (hostA_one _) ?_)
          | (refine wpList_store_row rfl 25 _ _ rfl w.heap.size (hostA ⟨2, [], a⟩) rfl rfl 25 _ R4 (by rw [HH.out]; exact infoHost) (by rw [HH.out]; rfl) (hostA_one _) ?_))
        first
          | exact bodyPost_ret (v := .tuple #[.agg (hostA Hst.zero), .int .i64 31]) (results_cell_two rfl _ _ w.heap.size _ _ _ rfl _ rfl (R4.whole _) Tryz.underlying25 rfl (by rw [HZ0.out]; exact infoHost)) rfl (HF.out (by trivial) _ (below_setRow C (Nat.le_refl _) _))
          | exact bodyPost_ret (v := .tuple #[.agg (hostA ⟨2, [], a⟩), .int .i64 0]) (results_cell_two rfl _ _ w.heap.size _ _ _ rfl _ rfl (R4.whole _) Tryz.underlying25 rfl (by rw [HH.out]; exact infoHost)) rfl (HTT.out (by trivial) _ (below_setRow C (Nat.le_refl _) _))
  | false =>
    rw [hd] at H4
    rw [if_neg (by simp)]
    clear ha hd HV H5
    have HF : Hid ((ps.all Hst.refLab = false ∨ ¬ s.size ≤ 253) → ∀ w', Below w.heap.size w w' → NewHost (if ps.all Hst.refLab = true ∧ s.size ≤ 253 then some ⟨1, ul, Hst.nil16⟩ else none) w (.returned (.tuple #[.agg (hostA Hst.zero), .int .i64 31])) w') := Lib.hid (fun h w' hb => by
      rw [if_neg (by rintro ⟨a, b⟩; rcases h with h | h; · rw [h] at a; cases a
                     · exact h b)]
      exact newHost_of rfl rfl hb)
    have HTT : Hid (ps.all Hst.refLab = true → s.size ≤ 253 → ∀ w', Below w.heap.size w w' → NewHost (if ps.all Hst.refLab = true ∧ s.size ≤ 253 then some ⟨1, ul, Hst.nil16⟩ else none) w (.returned (.tuple #[.agg (hostA ⟨1, ul, Hst.nil16⟩), .int .i64 0])) w') := Lib.hid (fun h k w' hb => by rw [if_pos ⟨h, k⟩]; exact newHost_of rfl rfl hb)
    generalize NewHost (if ps.all Hst.refLab = true ∧ s.size ≤ 253 then some ⟨1, ul, Hst.nil16⟩ else none) w = post at *
    rcases hstart with ⟨hs0, hs1, hs2⟩ | hs0
    all_goals
      go_enter Tryz.func21, Tryz.ntmps21
      go_wp2_with fail
      have R0 := Row.new w 25 (hostA Hst.zero)
      have B0 := (Below.refl w.heap.size w).alloc (Nat.le_refl _) (.cells (hostA Hst.zero) 25)
      generalize w.alloc (.cells (hostA Hst.zero) 25) = w0 at *
      refine (H1.out _).mono ?_
      rintro e v1 ⟨rfl, d1⟩
      have R1 := R0.stays d1
      have B1 := B0.trans (d1.mono B0.size)
      go_wp2_with fail
      refine (H3.out _).mono ?_
      rintro e v2 ⟨g, cap, rfl, hown, d2⟩
      have R2 := R1.stays d2
      have B2 := B1.trans (d2.mono B1.size)
      have hcell := own_text (k := ps.length - 1) hown HP.out HT.out
      have hcap := own_cap hown
      have HOWN := Lib.hid hown
      clear hown d2 R0 B0 d1 R1 B1
      go_wp2_with fail
      refine (H4.out _).mono ?_
      rintro e v3 ⟨rfl, rfl⟩
      clear hcell
      go_wp2
      go_loop [11, 64] (fun _ i => ∃ k : Nat, k ≤ ps.length ∧ i = .int .i64 k ∧ (∀ q ∈ ps.take k, Hst.refLab q = true)) (fun _ i => ps.length - (intOf i).toNat)
      case atStart => exact ⟨0, Nat.zero_le _, rfl, by simp⟩
      case round =>
        obtain ⟨k, hk, rfl, hall⟩ := hrel
        have HA := Lib.hid hall
        clear hall
        by_cases hlt : k < ps.length
        · obtain ⟨q, sq, hq, hcell, hdq, _, hsz⟩ := own_cell HOWN.out hlt
          have hqs := HSM.out q (List.mem_of_getElem? hq)
          have HQ := Lib.hid hq
          have hlab := fun W => refLabel_calls sq W (by omega)
          rw [hdq] at hlab
          have HLAB := Lib.hid hlab
          clear hq hdq hlab
          cases hr : Hst.refLab q with
          | true =>
            rw [hr] at HLAB
            go_wp2_with (go_at_call 36; refine (HLAB.out _).mono ?_; rintro e w' ⟨rfl, rfl⟩)
            go_round
            case rel => exact ⟨k + 1, by omega, by go_num, Oct.take_more HA.out HQ.out hr⟩
            case measure => simp [intOf]; omega
          | false =>
            rw [hr] at HLAB
            have hno : ps.all Hst.refLab = false := by rw [List.all_eq_false]; exact ⟨q, List.mem_of_getElem? HQ.out, by rw [hr]; simp⟩
            have HNO := Lib.hid hno
            clear hno
            go_wp2_with (first
              | (go_at_call 36; refine (HLAB.out _).mono ?_; rintro e w' ⟨rfl, rfl⟩)
              | (refine wpList_store_row rfl 25 _ _ rfl w.heap.size (hostA Hst.zero) rfl rfl 25 _ R2 (by rw [HZ0.out]; exact infoHost) rfl (hostA_one _) ?_))
            exact bodyPost_ret (v := .tuple #[.agg (hostA Hst.zero), .int .i64 31]) (results_cell_two rfl _ _ w.heap.size _ _ _ rfl _ rfl (R2.whole _) Tryz.underlying25 rfl (by rw [HZ0.out]; exact infoHost)) rfl (HF.out (.inl HNO.out) _ (below_setRow B2 (Nat.le_refl _) _))
        · have hyes : ps.all Hst.refLab = true := by
            rw [List.all_eq_true]
            have := HA.out
            rw [List.take_of_length_le (by omega)] at this
            exact this
          have HYES := Lib.hid hyes
          clear hyes
          by_cases hbig : s.size ≤ 253
          · have hbig1 : ¬ (253 : Int) < (s.size : Int) := by omega
            go_wp2_with (first
              | (refine at_slot 78 rfl ?_; refine build_two rfl 25 0 1 _ _ rfl _ _ rfl rfl (hostA ⟨1, ul, Hst.nil16⟩) HB.out ?_)
              | (refine wpList_store_row rfl 25 _ _ rfl w.heap.size (hostA ⟨1, ul, Hst.nil16⟩) rfl rfl 25 _ R2 (by rw [HXZ.out]; exact infoHost) rfl (hostA_one _) ?_))
            exact bodyPost_ret (v := .tuple #[.agg (hostA ⟨1, ul, Hst.nil16⟩), .int .i64 0]) (results_cell_two rfl _ _ w.heap.size _ _ _ rfl _ rfl (R2.whole _) Tryz.underlying25 rfl (by rw [HXZ.out]; exact infoHost)) rfl (HTT.out HYES.out hbig _ (below_setRow B2 (Nat.le_refl _) _))
          · first
            | (exfalso; omega)
            | (have hbig1 : (253 : Int) < (s.size : Int) := by omega
               go_wp2_with (first
                 | (refine wpList_store_row rfl 25 _ _ rfl w.heap.size (hostA Hst.zero) rfl rfl 25 _ R2 (by rw [HZ0.out]; exact infoHost) rfl (hostA_one _) ?_))
               exact bodyPost_ret (v := .tuple #[.agg (hostA Hst.zero), .int .i64 31]) (results_cell_two rfl _ _ w.heap.size _ _ _ rfl _ rfl (R2.whole _) Tryz.underlying25 rfl (by rw [HZ0.out]; exact infoHost)) rfl (HF.out (.inr hbig) _ (below_setRow B2 (Nat.le_refl _) _)))
end Go.Proofs.YtkajddopjflniaaGreatDoor
/- The walks of the reference's Text and Right, of names. -/
namespace Go.Proofs.YtkajddopjflniaaGreatDoor
open Go.RowKit
set_option maxHeartbeats 1000000 in
theorem refText1_calls (h : Hst.Host) (hk : h.kind = 1) (t : ByteArray) (ht : t = ⟨h.name.toArray⟩) (w : World) :
    Calls Tryz.prog 22 #[.agg (hostA h)] w fun e w' => e = .returned (.string t) ∧ Below w.heap.size w w' := by
  have R := Row.new w 25 (hostA h)
  have c0 : (w.alloc (.cells (hostA h) 25)).cell? ⟨w.heap.size, 0, none⟩ = some (.int .i64 1) := by rw [R.cell, hostA_kind, hk]
  have c1 : (w.alloc (.cells (hostA h) 25)).cell? ⟨w.heap.size, 1, none⟩ = some (.string t) := by rw [R.cell, hostA_name, ht]; rfl
  have B := (Below.refl w.heap.size w).alloc (Nat.le_refl _) (.cells (hostA h) 25)
  have HB := Lib.hid B
  clear B R ht
  go_enter Tryz.func22, Tryz.ntmps22
  generalize hostA h = H at *
  go_wp2
  go_ret
  exact ⟨rfl, HB.out⟩
set_option maxRecDepth 100000 in
set_option maxHeartbeats 4000000 in
theorem refRight1_calls (h : Hst.Host) (hk : h.kind = 1) (ha : h.addr.length = 16) (hs : h.name.length ≤ 100000) (w : World) :
    Calls Tryz.prog 12 #[.agg (hostA h)] w fun e w' => e = .returned (.bool (Hst.right h)) ∧ Below w.heap.size w w' := by
  have z0 := zeroHost
  obtain ⟨t, ht⟩ : ∃ t : ByteArray, t = ⟨h.name.toArray⟩ := ⟨_, rfl⟩
  have H1 := Lib.hid (fun W => refText1_calls h hk t ht W)
  have htl : t.data.toList = h.name := by rw [ht]
  have hts : t.size = h.name.length := by rw [← htl, Oct.length_bytes]
  have H2 := Lib.hid (fun W => (refParse_calls t W (by omega)).mono fun e w' h => newHost_is h)
  rw [htl] at H2
  have hx := Hst.parse_length h.name
  have HR : Hid (Hst.right h = decide (Hst.parse h.name = some h)) := Lib.hid rfl
  have HZ0 := Lib.hid (show (hostA Hst.zero).size = 18 from rfl)
  have HH := Lib.hid (hostA_size h ha)
  cases ho : Hst.parse h.name with
  | none =>
    rw [ho] at H2 HR
    have HR2 : Hid (Hst.right h = false) := Lib.hid (by rw [HR.out]; rfl)
    have e1 : Hst.host none = Hst.zero := rfl
    have e2 : Hst.code none = 31 := rfl
    rw [e1, e2] at H2
    clear ho hx hts htl ht HR e1 e2
    rw [HR2.out]
    generalize hostA h = H at *
    have R0 := Row.new w 25 H
    have B0 := (Below.refl w.heap.size w).alloc (Nat.le_refl _) (.cells H 25)
    go_enter Tryz.func12, Tryz.ntmps12
    go_wp2_with (refine at_slot 6 rfl ?_; refine load_row rfl 25 _ rfl w.heap.size rfl R0 Tryz.underlying25 rfl (by rw [HH.out]; exact infoHost) ?_)
    generalize w.alloc (.cells H 25) = w0 at *
    refine (H1.out _).mono ?_
    rintro e v1 ⟨rfl, d1⟩
    have B1 := B0.trans (d1.mono B0.size)
    go_wp2_with fail
    refine (H2.out _).mono ?_
    rintro e v2 ⟨rfl, d2⟩
    have B2 := B1.trans (d2.mono B1.size)
    obtain ⟨T, U, C, L⟩ := lay_row 25 (hostA Hst.zero) (hostA Hst.zero) B2 B2.size
    clear B0 B1 B2 d1 d2 R0 L
    go_wp2_with (first
      | (refine wpList_store_row rfl 25 _ _ rfl v2.heap.size (hostA Hst.zero) rfl rfl 25 _ T (by rw [HZ0.out]; exact infoHost) rfl (hostA_one _) ?_))
    go_ret
    exact ⟨rfl, C⟩
  | some g =>
    rw [ho] at H2 HR hx
    have hx : g.addr.length = 16 := hx
    have HR2 : Hid (Hst.right h = decide (g = h)) := Lib.hid (by rw [HR.out, decide_eq_decide]; exact ⟨fun e => Option.some.inj e, fun e => by rw [e]⟩)
    have e1 : Hst.host (some g) = g := rfl
    have e2 : Hst.code (some g) = 0 := rfl
    rw [e1, e2] at H2
    have q := eql_host g h hx ha
    have HG := Lib.hid (hostA_size g hx)
    have HG1 := Lib.hid (hostA_one g)
    clear ho hx hts htl ht HR e1 e2
    rw [HR2.out]
    generalize hostA h = H at *
    generalize hostA g = G at *
    generalize decide (g = h) = b at *
    have R0 := Row.new w 25 H
    have B0 := (Below.refl w.heap.size w).alloc (Nat.le_refl _) (.cells H 25)
    go_enter Tryz.func12, Tryz.ntmps12
    go_wp2_with (refine at_slot 6 rfl ?_; refine load_row rfl 25 _ rfl w.heap.size rfl R0 Tryz.underlying25 rfl (by rw [HH.out]; exact infoHost) ?_)
    generalize w.alloc (.cells H 25) = w0 at *
    refine (H1.out _).mono ?_
    rintro e v1 ⟨rfl, d1⟩
    have B1 := B0.trans (d1.mono B0.size)
    have R1 := R0.stays d1
    go_wp2_with fail
    refine (H2.out _).mono ?_
    rintro e v2 ⟨rfl, d2⟩
    have R2 := R1.stays d2
    have B2 := B1.trans (d2.mono B1.size)
    obtain ⟨T, U, C, L⟩ := lay_row 25 (hostA Hst.zero) G B2 B2.size
    have R3 := L _ _ _ R2
    clear B0 B1 B2 d1 d2 R0 R1 R2 L
    go_wp2_with (first
      | (refine wpList_store_row rfl 25 _ _ rfl v2.heap.size G rfl rfl 25 _ T (by rw [HG.out]; exact infoHost) (by rw [HG.out]; rfl) HG1.out ?_)
      | (refine at_slot 14 rfl ?_; refine load_row rfl 25 _ rfl v2.heap.size rfl U Tryz.underlying25 rfl (by rw [HG.out]; exact infoHost) ?_)
      | (refine at_slot 15 rfl ?_; refine load_row rfl 25 _ rfl w.heap.size rfl R3 Tryz.underlying25 rfl (by rw [HH.out]; exact infoHost) ?_))
    go_ret
    exact ⟨rfl, C⟩
end Go.Proofs.YtkajddopjflniaaGreatDoor
/- The walk of the reference's Labels. -/
namespace Go.Proofs.YtkajddopjflniaaGreatDoor
open Go.RowKit
set_option maxRecDepth 100000 in
set_option maxHeartbeats 2000000 in
theorem refLabels_calls (h : Hst.Host) (ha : h.addr.length = 16) (hs : h.name.length ≤ 100000) (w : World) :
    Calls Tryz.prog 30 #[.agg (hostA h)] w (NewTexts w.heap.size (Hst.labels h) w) := by
  have HH := Lib.hid (hostA_size h ha)
  obtain ⟨t, ht⟩ : ∃ t : ByteArray, t = ⟨h.name.toArray⟩ := ⟨_, rfl⟩
  have R0 := Row.new w 25 (hostA h)
  have c0 : (w.alloc (.cells (hostA h) 25)).cell? ⟨w.heap.size, 0, none⟩ = some (.int .i64 h.kind) := by rw [R0.cell, hostA_kind]
  have c1 : (w.alloc (.cells (hostA h) 25)).cell? ⟨w.heap.size, 1, none⟩ = some (.string t) := by rw [R0.cell, hostA_name, ht]; rfl
  have B0 := (Below.refl w.heap.size w).alloc (Nat.le_refl _) (.cells (hostA h) 25)
  by_cases hk : h.kind = 1
  · have htl : t.data.toList = h.name := by rw [ht]
    have hts : t.size = h.name.length := by rw [← htl, Oct.length_bytes]
    have H1 := Lib.hid (fun W => refRight1_calls h hk ha hs W)
    have H2 : ∀ W, Calls Tryz.prog 33 #[.string t, .int .u8 46] W (NewTexts W.heap.size (Oct.split 46 h.name) W) := fun W => by
      have := refSplit_calls t 46 W (by omega)
      rw [htl] at this
      exact this
    have H2 := Lib.hid H2
    rw [hk] at c0
    cases hr : Hst.right h with
    | false =>
      rw [hr] at H1
      have HL : Hid (Hst.labels h = []) := Lib.hid (by unfold Hst.labels; rw [if_neg (fun k => by rw [hr] at k; simp at k)])
      rw [HL.out]
      generalize hostA h = H at *
      clear hr htl hts ht hk ha HL
      go_enter Tryz.func30, Tryz.ntmps30
      go_wp2_with (refine at_slot 7 rfl ?_; refine load_row rfl 25 _ rfl w.heap.size rfl R0 Tryz.underlying25 rfl (by rw [HH.out]; exact infoHost) ?_)
      generalize w.alloc (.cells H 25) = w0 at *
      refine (H1.out _).mono ?_
      rintro e v1 ⟨rfl, d1⟩
      have B1 := B0.trans (d1.mono B0.size)
      go_wp2
      go_ret
      exact ⟨_, rfl, World.ownsRow_nil _ _ _ _, B1⟩
    | true =>
      rw [hr] at H1
      have HL : Hid (Hst.labels h = Oct.split 46 h.name) := Lib.hid (by unfold Hst.labels; rw [if_pos ⟨hk, hr⟩])
      rw [HL.out]
      generalize Oct.split 46 h.name = ps at *
      generalize hostA h = H at *
      clear hr htl hts ht hk ha HL
      go_enter Tryz.func30, Tryz.ntmps30
      go_wp2_with (refine at_slot 7 rfl ?_; refine load_row rfl 25 _ rfl w.heap.size rfl R0 Tryz.underlying25 rfl (by rw [HH.out]; exact infoHost) ?_)
      have hlt := R0.lt
      generalize w.alloc (.cells H 25) = w0 at *
      refine (H1.out _).mono ?_
      rintro e v1 ⟨rfl, d1⟩
      have B1 := B0.trans (d1.mono B0.size)
      have c2 := (d1.cell (p := ⟨w.heap.size, 1, none⟩) hlt).trans c1
      clear c0 c1 d1 R0 B0
      go_wp2_with fail
      refine (H2.out _).mono ?_
      rintro e v2 ⟨v, rfl, hown, d2⟩
      have B2 := B1.trans (d2.mono B1.size)
      have HO := Lib.hid (own_base hown B1.size)
      clear hown
      go_wp2
      go_ret
      exact ⟨_, rfl, HO.out, B2⟩
  · have HL : Hid (Hst.labels h = []) := Lib.hid (by unfold Hst.labels; rw [if_neg (fun k => hk k.1)])
    rw [HL.out]
    generalize hostA h = H at *
    generalize h.kind = k at *
    clear HL ha
    go_enter Tryz.func30, Tryz.ntmps30
    go_wp2
    go_ret
    exact ⟨_, rfl, World.ownsRow_nil _ _ _ _, B0⟩
end Go.Proofs.YtkajddopjflniaaGreatDoor
