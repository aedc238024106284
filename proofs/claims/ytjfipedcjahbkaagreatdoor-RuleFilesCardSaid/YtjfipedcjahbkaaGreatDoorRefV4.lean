/- The walk of the reference's V4. -/
import Derived.Test.YtjfipedcjahbkaaGreatDoorV4
import Derived.Test.YtjfipedcjahbkaaGreatDoorOctets
namespace Go.Proofs.YtjfipedcjahbkaaGreatDoor
open Go.RowKit
namespace Adr
theorem low_set {l : List UInt8} {k : Nat} {c : UInt8} (hl : l.length = 4) (hk : k < 4) (hc : l[k]? = some c) : (List.replicate 12 0 ++ fill l 0 4 k).set (12 + k) c = List.replicate 12 0 ++ fill l 0 4 (k + 1) := by
  rw [List.set_append_right _ _ (by simp)]
  have e : 12 + k - (List.replicate 12 (0 : UInt8)).length = k := by simp
  rw [e, fill_set hl hk hc]
theorem low_zero (l : List UInt8) : List.replicate 12 0 ++ fill l 0 4 0 = List.replicate 16 0 := by rw [fill_zero]; rfl
end Adr
set_option maxRecDepth 100000 in
set_option maxHeartbeats 2000000 in
theorem refV4_calls (s : ByteArray) (w : World) (hs : s.size ≤ 1048576) :
    Calls Tryz.prog 44 #[.string s] w (NewAddr (Adr.addr4 (Adr.v4 s.data.toList)) (Adr.v4 s.data.toList).isSome w) := by
  have hp := Oct.split_pos 46 s.data.toList
  have hsm := Oct.split_small 46 s.data.toList
  rw [Oct.length_bytes] at hsm
  have HCC := Lib.hid (fun W => refSplit_calls s 46 W (by omega))
  obtain ⟨ps, hps⟩ : ∃ ps, ps = Oct.split 46 s.data.toList := ⟨_, rfl⟩
  rw [← hps] at hp hsm HCC
  have HP := Lib.hid hps
  have HSM := Lib.hid hsm
  have HPOS := Lib.hid hp
  clear hps hsm hp
  have z1 := bytesA_zA
  go_enter Tryz.func44, Tryz.ntmps44
  have R0 := (Row.new w 43 (bytesA zA)).alloc (.cells (bytesA zA) 43)
  have F0 := Row.new (w.alloc (.cells (bytesA zA) 43)) 43 (bytesA zA)
  have eN : (w.alloc (.cells (bytesA zA) 43)).heap.size = w.heap.size + 1 := by simp
  rw [eN] at F0
  have F1 := F0.whole (bytesA zA)
  have R1 := R0.aside (k := w.heap.size + 1) (by omega) (bytesA zA)
  have B0 := ((Below.refl w.heap.size w).alloc (Nat.le_refl _) (.cells (bytesA zA) 43)).alloc (by simp) (.cells (bytesA zA) 43)
  have B1 := below_setRow B0 (g := w.heap.size + 1) (by omega) (bytesA zA)
  go_wp2_with (refine wpList_store_row rfl 43 _ _ rfl (w.heap.size + 1) (bytesA zA) rfl rfl 43 _ F0 infoAddr rfl (bytesA_one _) ?_)
  clear R0 F0 B0 eN
  generalize ((w.alloc (.cells (bytesA zA) 43)).alloc (.cells (bytesA zA) 43)).setRow (w.heap.size + 1) (bytesA zA) = w1 at *
  refine (HCC.out _).mono ?_
  rintro e w2 ⟨v, rfl, hown, hb⟩
  obtain ⟨A, cap, rfl, hA⟩ := own_any hown
  obtain ⟨g, rfl⟩ := hA HPOS.out
  clear hA
  have hgl := (hown.lt g rfl)
  have R2 := R1.stays hb
  have F2 := F1.stays hb
  have B2 := B1.trans (hb.mono B1.size)
  have n1 := F1.lt
  generalize w1.heap.size = N at *
  clear R1 F1 B1 hb
  by_cases h4 : ps.length = 4
  · have HL := Lib.hid h4
    have h4b : ((ps.length : Int) != 4) = false := by rw [h4]; rfl
    clear h4
    go_wp2
    rw [show zA = List.replicate 16 0 from rfl, ← Adr.low_zero (Adr.nums ps)] at F2
    have HLN := Lib.hid (show (Adr.nums ps).length = 4 by rw [Adr.nums_length, HL.out])
    go_loopw [6] (fun i wr => ∃ k : Nat, k ≤ 4 ∧ i = .int .i64 k ∧ wr.ownsRow N 9 1 (.slice (some ⟨g, 0, none⟩) ps.length cap) ps.length (ps.map strV) ∧ Row wr w.heap.size 43 (bytesA zA) ∧ Row wr (w.heap.size + 1) 43 (bytesA (List.replicate 12 0 ++ Adr.fill (Adr.nums ps) 0 4 k)) ∧ (ps.take k).all Adr.okNum = true ∧ Below w.heap.size w wr) (fun i _ => 4 - (intOf i).toNat)
    case atStart => exact ⟨0, Nat.zero_le _, rfl, hown, R2, F2, by simp, B2⟩
    case round =>
      clear hown R2 F2 B2
      obtain ⟨k, hk, rfl, hown, R, F, hall, hb⟩ := hrel
      have HA := Lib.hid hall
      clear hall
      by_cases hlt : k < 4
      · have hkl : k < ps.length := by rw [HL.out]; exact hlt
        obtain ⟨p, t, h1, hcell, h3, _, h5⟩ := own_cell hown hkl
        have hpl := HSM.out p (List.mem_of_getElem? h1)
        have ht : t.size ≤ maxLen := by unfold maxLen; omega
        have HC := Lib.hid (fun W => refNumber_calls t W ht)
        rw [h3] at HC
        have H1 := Lib.hid h1
        have hbig := Adr.number_big p
        clear h1 h3 h5 hpl ht
        rcases Adr.okNum_cases p with ⟨hk1, hk2⟩ | ⟨hk1, hk2, hk3⟩ | ⟨hk1, hk2, hk3⟩
        · have HN := Lib.hid (show NewAddr (Adr.addr4 (Adr.v4 s.data.toList)) (Adr.v4 s.data.toList).isSome = NewAddr zA false by rw [Adr.v4_no (by rw [← HP.out]; exact H1.out) hk1]; rfl)
          rw [hk2] at HC
          clear hk1 hk2 hown F
          go_wp2_with (first
            | (go_at_call 65; refine (HC.out _).mono ?_; rintro e w' ⟨rfl, rfl⟩)
            | (refine wpList_store_row rfl 43 _ _ rfl w.heap.size (bytesA zA) rfl rfl 43 _ R infoAddr rfl (bytesA_one _) ?_))
          rw [HN.out]
          exact bodyPost_ret (results_cell_two rfl _ _ w.heap.size _ _ _ rfl _ rfl (R.whole _) Tryz.underlying43 rfl infoAddr) rfl ⟨rfl, below_setRow hb (Nat.le_refl _) _⟩
        · have HN := Lib.hid (show NewAddr (Adr.addr4 (Adr.v4 s.data.toList)) (Adr.v4 s.data.toList).isSome = NewAddr zA false by rw [Adr.v4_no (by rw [← HP.out]; exact H1.out) hk1]; rfl)
          rw [hk2] at HC
          clear hk1 hk2 hown F
          go_wp2_with (first
            | (go_at_call 65; refine (HC.out _).mono ?_; rintro e w' ⟨rfl, rfl⟩)
            | (refine wpList_store_row rfl 43 _ _ rfl w.heap.size (bytesA zA) rfl rfl 43 _ R infoAddr rfl (bytesA_one _) ?_))
          rw [HN.out]
          exact bodyPost_ret (results_cell_two rfl _ _ w.heap.size _ _ _ rfl _ rfl (R.whole _) Tryz.underlying43 rfl infoAddr) rfl ⟨rfl, below_setRow hb (Nat.le_refl _) _⟩
        · rw [hk2] at HC
          have HAll := Lib.hid (Adr.num_more HA.out H1.out hk1)
          have hw := Adr.nums_at H1.out
          have hv : Value.int .u8 (Oct.number p : Int) = byteV (UInt8.ofNat (Oct.number p)) := by unfold byteV; rw [UInt8.toNat_ofNat']; exact val_int (by omega)
          have hfl : (List.replicate 12 0 ++ Adr.fill (Adr.nums ps) 0 4 k).length = 16 := by rw [List.length_append, Adr.fill_length HLN.out hk, List.length_replicate]
          have e12 : ((12 : Int) + (k : Int)).toNat = 12 + k := by omega
          obtain ⟨u1, c1⟩ : ∃ u, wr.cell? ⟨w.heap.size + 1, 12 + k, none⟩ = some u := ⟨_, by rw [F.cell]; exact Array.getElem?_eq_getElem (by rw [bytesA_size, hfl]; omega)⟩
          have f1 := F.free (12 + k)
          have F3 := F.set (12 + k) (byteV (UInt8.ofNat (Oct.number p)))
          rw [bytesA_set, Adr.low_set HLN.out hlt hw, ← hv] at F3
          have B3 := hb.setCell (p := ⟨w.heap.size + 1, 12 + k, none⟩) (by simp) (.int .u8 (Oct.number p : Int))
          have R3 := R.other (p := ⟨w.heap.size + 1, 12 + k, none⟩) (by simp) (.int .u8 (Oct.number p : Int))
          have O3 := own_far hown (p := ⟨w.heap.size + 1, 12 + k, none⟩) (by simp [Value.ownBlock]; omega) (.int .u8 (Oct.number p : Int))
          clear hk1 hk2 hw hv hfl F hb R hown
          generalize Oct.number p = x at *
          go_wp2_with (go_at_call 65; refine (HC.out _).mono ?_; rintro e w' ⟨rfl, rfl⟩)
          go_roundw
          case rel => exact ⟨k + 1, by omega, by go_num, O3, R3, F3, HAll.out, B3⟩
          case measure => simp [intOf]; omega
      · have hkk : k = 4 := by omega
        subst hkk
        rw [Adr.fill_end HLN.out] at F
        have HS := Lib.hid (show Adr.v4 s.data.toList = some (Adr.nums ps) by
          have := Adr.v4_yes (s := s.data.toList) (by rw [← HP.out]; exact HL.out) (by rw [← HP.out]; have := HA.out; rw [List.take_of_length_le (by have := HL.out; omega)] at this; exact this)
          rw [← HP.out] at this
          exact this)
        have HZ := Lib.hid (show (bytesA (List.replicate 12 0 ++ Adr.nums ps)).size = 16 by rw [bytesA_size, List.length_append, HLN.out, List.length_replicate])
        have HD := Lib.hid (show Adr.addr4 (some (Adr.nums ps)) = List.replicate 12 0 ++ Adr.nums ps from rfl)
        generalize List.replicate 12 0 ++ Adr.nums ps = G at *
        clear hown
        go_wp2_with (first
          | (refine at_slot 40 rfl ?_; refine load_row rfl 43 _ rfl (w.heap.size + 1) rfl F Tryz.underlying43 rfl (by rw [HZ.out]; exact infoAddr) ?_)
          | (refine wpList_store_row rfl 43 _ _ rfl w.heap.size (bytesA G) rfl rfl 43 _ R (by rw [HZ.out]; exact infoAddr) (by rw [HZ.out]; rfl) (bytesA_one _) ?_))
        rw [HS.out, HD.out]
        exact bodyPost_ret (results_cell_two rfl _ _ w.heap.size _ _ _ rfl _ rfl (R.whole _) Tryz.underlying43 rfl (by rw [HZ.out]; exact infoAddr)) rfl ⟨rfl, below_setRow hb (Nat.le_refl _) _⟩
  · have HN := Lib.hid (show NewAddr (Adr.addr4 (Adr.v4 s.data.toList)) (Adr.v4 s.data.toList).isSome = NewAddr zA false by rw [Adr.v4_count (by rw [← HP.out]; exact h4)]; rfl)
    have h4b : ((ps.length : Int) != 4) = true := by rw [bne_iff_ne]; omega
    clear h4
    go_wp2_with (refine wpList_store_row rfl 43 _ _ rfl w.heap.size (bytesA zA) rfl rfl 43 _ R2 infoAddr rfl (bytesA_one _) ?_)
    rw [HN.out]
    exact bodyPost_ret (results_cell_two rfl _ _ w.heap.size _ _ _ rfl _ rfl (R2.whole _) Tryz.underlying43 rfl infoAddr) rfl ⟨rfl, below_setRow B2 (Nat.le_refl _) _⟩
end Go.Proofs.YtjfipedcjahbkaaGreatDoor
