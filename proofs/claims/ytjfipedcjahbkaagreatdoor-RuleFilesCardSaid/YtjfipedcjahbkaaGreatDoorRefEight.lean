/- The walk of the reference's eight. -/
import Derived.Test.YtjfipedcjahbkaaGreatDoorV6
import Derived.Test.YtjfipedcjahbkaaGreatDoorCells
import Derived.Test.YtjfipedcjahbkaaGreatDoorOctets
import Derived.Test.YtjfipedcjahbkaaGreatDoorPlains
namespace Go.Proofs.YtjfipedcjahbkaaGreatDoor
open Go.RowKit
namespace Adr
theorem e8_count {s : List UInt8} (h : (Oct.split 58 s).length ≠ 8) : e8 s = none := by unfold e8; rw [if_neg fun h1 => h h1.1]
theorem e8_no {s : List UInt8} {k : Nat} {p : List UInt8} (hp : (Oct.split 58 s)[k]? = some p) (hn : isGrp p = false) : e8 s = none := by
  unfold e8
  rw [if_neg fun h1 => ?_]
  have := List.all_eq_true.1 h1.2 p (List.mem_of_getElem? hp)
  rw [hn] at this; cases this
theorem e8_yes {s : List UInt8} (h : (Oct.split 58 s).length = 8) (ha : (Oct.split 58 s).all isGrp = true) : e8 s = some ((Oct.split 58 s).map grp) := by unfold e8; rw [if_pos ⟨h, ha⟩]
theorem grp_more {ps : List (List UInt8)} {k : Nat} {p : List UInt8} (h : (ps.take k).all isGrp = true) (hp : ps[k]? = some p) (hq : isGrp p = true) : (ps.take (k + 1)).all isGrp = true := by
  rw [List.all_eq_true] at h ⊢
  exact Oct.take_more (Q := fun p => isGrp p = true) h hp hq
theorem digI_yes {c : UInt8} (h : hexB c = true) : digI c = ((hexN c : Nat) : Int) := by unfold digI; rw [if_pos h]
theorem digI_no {c : UInt8} (h : hexB c = false) : digI c = -1 := by unfold digI; rw [h]; rfl
end Adr
set_option maxRecDepth 100000 in
set_option maxHeartbeats 4000000 in
theorem eight_calls (s : ByteArray) (w : World) (hs : s.size ≤ 1048576) :
    Calls Tryz.prog 64 #[.string s] w (NewAddr (Adr.addrOf (Adr.e8 s.data.toList)) (Adr.e8 s.data.toList).isSome w) := by
  have hp := Oct.split_pos 58 s.data.toList
  have HCC := Lib.hid (fun W => refSplit_calls s 58 W (by omega))
  obtain ⟨ps, hps⟩ : ∃ ps, ps = Oct.split 58 s.data.toList := ⟨_, rfl⟩
  rw [← hps] at hp HCC
  have HP := Lib.hid hps
  have HPOS := Lib.hid hp
  have HNO := Lib.hid (fun k p (h : ps[k]? = some p) (hn : Adr.isGrp p = false) => (show NewAddr (Adr.addrOf (Adr.e8 s.data.toList)) (Adr.e8 s.data.toList).isSome = NewAddr zA false by rw [Adr.e8_no (by rw [← hps]; exact h) hn]; rfl))
  clear hps hp
  have z1 := bytesA_zA
  go_enter Tryz.func64, Tryz.ntmps64
  have R0 := (Row.new w 43 (bytesA zA)).alloc (.cells (bytesA zA) 43)
  have F0 := Row.new (w.alloc (.cells (bytesA zA) 43)) 43 (bytesA zA)
  have eN : (w.alloc (.cells (bytesA zA) 43)).heap.size = w.heap.size + 1 := by simp
  rw [eN] at F0
  have F1 := F0.whole (bytesA zA)
  have R1 := R0.aside (k := w.heap.size + 1) (by omega) (bytesA zA)
  have B0 := ((Below.refl w.heap.size w).alloc (Nat.le_refl _) (.cells (bytesA zA) 43)).alloc (by simp) (.cells (bytesA zA) 43)
  have B1 := below_setRow B0 (g := w.heap.size + 1) (by omega) (bytesA zA)
  go_wp2_with (refine wpList_store_row rfl 43 _ _ rfl (w.heap.size + 1) (bytesA zA) rfl rfl 43 _ F0 infoAddr rfl (bytesA_one _) ?_)
  clear R0 F0 B0 eN
  generalize ((w.alloc (.cells (bytesA zA) 43)).alloc (.cells (bytesA zA) 43)).setRow (w.heap.size + 1) (bytesA zA) = w1 at *
  refine (HCC.out _).mono ?_
  rintro e w2 ⟨v, rfl, hown, hb⟩
  obtain ⟨A, cap, rfl, hA⟩ := own_any hown
  obtain ⟨g, rfl⟩ := hA HPOS.out
  clear hA
  have hgl := (hown.lt g rfl)
  have R2 := R1.stays hb
  have F2 := F1.stays hb
  have B2 := B1.trans (hb.mono B1.size)
  have n1 := F1.lt
  generalize w1.heap.size = N at *
  clear R1 F1 B1 hb
  by_cases h8 : ps.length = 8
  · have HL := Lib.hid h8
    have h8b : ((ps.length : Int) != 8) = false := by rw [h8]; rfl
    clear h8
    go_wp2
    obtain ⟨gs, hgs⟩ : ∃ gs, gs = ps.map Adr.grp := ⟨_, rfl⟩
    have HG := Lib.hid hgs
    have HLN := Lib.hid (show (Adr.from_ gs).length = 16 by rw [Adr.from_length, hgs, List.length_map, HL.out])
    clear hgs
    rw [show zA = List.replicate 16 0 from rfl, ← Adr.fill_zero (Adr.from_ gs)] at F2
    go_loopw [6] (fun i wr => ∃ k : Nat, k ≤ 8 ∧ i = .int .i64 k ∧ wr.ownsRow N 9 1 (.slice (some ⟨g, 0, none⟩) ps.length cap) ps.length (ps.map strV) ∧ Row wr w.heap.size 43 (bytesA zA) ∧ Row wr (w.heap.size + 1) 43 (bytesA (Adr.fill (Adr.from_ gs) 0 16 (2 * k))) ∧ (ps.take k).all Adr.isGrp = true ∧ Below w.heap.size w wr) (fun i _ => 8 - (intOf i).toNat)
    case atStart => exact ⟨0, Nat.zero_le _, rfl, hown, R2, F2, by simp, B2⟩
    case round =>
      clear hown R2 F2 B2
      obtain ⟨k, hk, rfl, hown, R, F, hall, hb⟩ := hrel
      have HA := Lib.hid hall
      clear hall
      by_cases hlt : k < 8
      · have hkl : k < ps.length := by rw [HL.out]; exact hlt
        obtain ⟨p, t, h1, hcell, h3, _, h5⟩ := own_cell hown hkl
        subst h3
        have H1 := Lib.hid h1
        clear h1
        by_cases hout : t.size < 1 ∨ 4 < t.size
        · have HN := Lib.hid (HNO.out k _ H1.out (Adr.isGrp_len hout))
          have hor : (t.size < 1) ∨ (¬ (t.size : Int) < 1 ∧ 4 < t.size) := by omega
          clear hout h5 hown F
          rcases hor with h1 | ⟨h1, h2⟩
          all_goals
            go_wp2_with (refine wpList_store_row rfl 43 _ _ rfl w.heap.size (bytesA zA) rfl rfl 43 _ R infoAddr rfl (bytesA_one _) ?_)
            rw [HN.out]
            exact bodyPost_ret (results_cell_two rfl _ _ w.heap.size _ _ _ rfl _ rfl (R.whole _) Tryz.underlying43 rfl infoAddr) rfl ⟨rfl, below_setRow hb (Nat.le_refl _) _⟩
        · have t1 : 1 ≤ t.size := by omega
          have t4 : t.size ≤ 4 := by omega
          clear hout h5
          go_wp2
          go_loop [7, 8] (fun v i => ∃ m : Nat, m ≤ t.size ∧ i = .int .i64 m ∧ v = .int .i64 ((Adr.grpN (t.data.toList.take m) : Nat) : Int) ∧ (t.data.toList.take m).all Adr.hexB = true) (fun _ i => t.size - (intOf i).toNat)
          case atStart => exact ⟨0, Nat.zero_le _, rfl, by simp [Adr.grpN], by simp⟩
          case round =>
            obtain ⟨m, hm, rfl, rfl, hall⟩ := hrel
            have HM := Lib.hid hall
            clear hall
            by_cases hmt : m < t.size
            · have hb4 := Adr.grpN_small t t4 m hmt
              have HT := Lib.hid (Adr.grpN_take t m hmt)
              have hd := Adr.hexN_lt t[m]
              cases hh : Adr.hexB t[m] with
              | true =>
                have HY := Lib.hid (Oct.all_snoc t m hmt HM.out hh)
                have hc := fun W => refDigit2_calls t[m] W
                rw [Adr.digI_yes hh] at hc
                have HC := Lib.hid hc
                clear hh hc hown R F hb
                generalize Adr.grpN (t.data.toList.take m) = n at *
                generalize Adr.hexN t[m] = d at *
                go_wp2_with (go_at_call 84; refine (HC.out _).mono ?_; rintro e w' ⟨rfl, rfl⟩)
                go_round
                case rel => exact ⟨m + 1, by omega, by go_num, val_int (by rw [HT.out]; omega), HY.out⟩
                case measure => simp [intOf]; omega
              | false =>
                have HN := Lib.hid (HNO.out k _ H1.out (Adr.isGrp_no m hmt hh))
                have hc := fun W => refDigit2_calls t[m] W
                rw [Adr.digI_no hh] at hc
                have HC := Lib.hid hc
                clear hh hc hown F
                go_wp2_with (first
                  | (go_at_call 84; refine (HC.out _).mono ?_; rintro e w' ⟨rfl, rfl⟩)
                  | (refine wpList_store_row rfl 43 _ _ rfl w.heap.size (bytesA zA) rfl rfl 43 _ R infoAddr rfl (bytesA_one _) ?_))
                rw [HN.out]
                exact bodyPost_ret (results_cell_two rfl _ _ w.heap.size _ _ _ rfl _ rfl (R.whole _) Tryz.underlying43 rfl infoAddr) rfl ⟨rfl, below_setRow hb (Nat.le_refl _) _⟩
            · have hY := Adr.isGrp_yes m (by omega) HM.out t1 t4
              have hT := Oct.take_all t m (by omega)
              rw [hT]
              have hZ := Adr.grp_toNat (l := t.data.toList) (by rw [Oct.length_bytes]; exact t4)
              have HAll := Lib.hid (Adr.grp_more HA.out H1.out hY)
              obtain ⟨x, hx⟩ : ∃ x, x = Adr.grp t.data.toList := ⟨_, rfl⟩
              rw [← hx] at hZ
              rw [← hZ]
              have hx1 := Adr.u16_lt x
              have hgk : gs[k]? = some x := by rw [HG.out, List.getElem?_map, H1.out, hx]; rfl
              have HX := Lib.hid (Adr.from_at gs k x hgk)
              have hl2 := Adr.fill_length (z := (0 : UInt8)) (n := 16) (k := 2 * k) HLN.out (by omega)
              obtain ⟨u1, c1⟩ : ∃ u, wr.cell? ⟨w.heap.size + 1, 2 * k, none⟩ = some u := ⟨_, by rw [F.cell]; exact Array.getElem?_eq_getElem (by rw [bytesA_size, hl2]; omega)⟩
              obtain ⟨u2, c2⟩ : ∃ u, wr.cell? ⟨w.heap.size + 1, 2 * k + 1, none⟩ = some u := ⟨_, by rw [F.cell]; exact Array.getElem?_eq_getElem (by rw [bytesA_size, hl2]; omega)⟩
              have f1 := F.free (2 * k)
              have f2 := F.free (2 * k + 1)
              have e1 : ((2 : Int) * (k : Int)).toNat = 2 * k := by omega
              have e2 : ((2 : Int) * (k : Int) + 1).toNat = 2 * k + 1 := by omega
              have R3 : Row ((wr.setCell ⟨w.heap.size + 1, 2 * k, none⟩ (.int .u8 ((x.toNat : Int) / 256))).setCell ⟨w.heap.size + 1, 2 * k + 1, none⟩ (.int .u8 ((x.toNat : Int) % 256))) (w.heap.size + 1) 43 (bytesA (Adr.fill (Adr.from_ gs) 0 16 (2 * (k + 1)))) := by
                have h1 : Value.int .u8 ((x.toNat : Int) / 256) = byteV (Adr.hi x) := by unfold byteV; rw [Adr.hi_toNat]; exact val_int (by omega)
                have h2 : Value.int .u8 ((x.toNat : Int) % 256) = byteV (Adr.lo x) := by unfold byteV; rw [Adr.lo_toNat]; exact val_int (by omega)
                have R := (F.set (2 * k) (byteV (Adr.hi x))).set (2 * k + 1) (byteV (Adr.lo x))
                rw [bytesA_set, bytesA_set, Adr.fill_set HLN.out (by omega) HX.out.1, Adr.fill_set HLN.out (by omega) HX.out.2] at R
                rw [h1, h2]
                exact R
              have B3 := ((hb.setCell (p := ⟨w.heap.size + 1, 2 * k, none⟩) (by simp) (.int .u8 ((x.toNat : Int) / 256))).setCell (p := ⟨w.heap.size + 1, 2 * k + 1, none⟩) (by simp) (.int .u8 ((x.toNat : Int) % 256)))
              have S3 := ((R.other (p := ⟨w.heap.size + 1, 2 * k, none⟩) (by simp) (.int .u8 ((x.toNat : Int) / 256))).other (p := ⟨w.heap.size + 1, 2 * k + 1, none⟩) (by simp) (.int .u8 ((x.toNat : Int) % 256)))
              have O3 := own_far (own_far hown (p := ⟨w.heap.size + 1, 2 * k, none⟩) (by simp [Value.ownBlock]; omega) (.int .u8 ((x.toNat : Int) / 256))) (p := ⟨w.heap.size + 1, 2 * k + 1, none⟩) (by simp [Value.ownBlock]; omega) (.int .u8 ((x.toNat : Int) % 256))
              clear hY hT hZ hx hgk hl2 F R hown hb
              go_wp2
              go_roundw
              case rel => exact ⟨k + 1, by omega, by go_num, O3, S3, R3, HAll.out, B3⟩
              case measure => simp [intOf]; omega
      · have hkk : k = 8 := by omega
        subst hkk
        rw [Adr.fill_end HLN.out] at F
        have HS := Lib.hid (show Adr.e8 s.data.toList = some gs by
          have := Adr.e8_yes (s := s.data.toList) (by rw [← HP.out]; exact HL.out) (by rw [← HP.out]; have := HA.out; rw [List.take_of_length_le (by have := HL.out; omega)] at this; exact this)
          rw [← HP.out, ← HG.out] at this
          exact this)
        have HZ := Lib.hid (show (bytesA (Adr.from_ gs)).size = 16 by rw [bytesA_size, HLN.out])
        have HD := Lib.hid (show Adr.addrOf (some gs) = Adr.from_ gs from rfl)
        generalize Adr.from_ gs = G at *
        clear hown
        go_wp2_with (first
          | (refine at_slot 72 rfl ?_; refine load_row rfl 43 _ rfl (w.heap.size + 1) rfl F Tryz.underlying43 rfl (by rw [HZ.out]; exact infoAddr) ?_)
          | (refine wpList_store_row rfl 43 _ _ rfl w.heap.size (bytesA G) rfl rfl 43 _ R (by rw [HZ.out]; exact infoAddr) (by rw [HZ.out]; rfl) (bytesA_one _) ?_))
        rw [HS.out, HD.out]
        exact bodyPost_ret (results_cell_two rfl _ _ w.heap.size _ _ _ rfl _ rfl (R.whole _) Tryz.underlying43 rfl (by rw [HZ.out]; exact infoAddr)) rfl ⟨rfl, below_setRow hb (Nat.le_refl _) _⟩
  · have HN := Lib.hid (show NewAddr (Adr.addrOf (Adr.e8 s.data.toList)) (Adr.e8 s.data.toList).isSome = NewAddr zA false by rw [Adr.e8_count (by rw [← HP.out]; exact h8)]; rfl)
    have h8b : ((ps.length : Int) != 8) = true := by rw [bne_iff_ne]; omega
    clear h8
    go_wp2_with (refine wpList_store_row rfl 43 _ _ rfl w.heap.size (bytesA zA) rfl rfl 43 _ R2 infoAddr rfl (bytesA_one _) ?_)
    rw [HN.out]
    exact bodyPost_ret (results_cell_two rfl _ _ w.heap.size _ _ _ rfl _ rfl (R2.whole _) Tryz.underlying43 rfl infoAddr) rfl ⟨rfl, below_setRow B2 (Nat.le_refl _) _⟩
end Go.Proofs.YtjfipedcjahbkaaGreatDoor
