/- The walk of V4. -/
import Derived.Test.YtjfipedcjahbkaaGreatDoorV6
import Derived.Test.YtjfipedcjahbkaaGreatDoorOctets
import Derived.Deep.RegionHeld3
namespace Go.Proofs.YtjfipedcjahbkaaGreatDoor
open Go.RowKit
namespace Adr
def nums (ps : List (List UInt8)) : List UInt8 := ps.map fun p => UInt8.ofNat (Oct.number p)
theorem nums_length (ps : List (List UInt8)) : (nums ps).length = ps.length := by simp [nums]
theorem nums_at {ps : List (List UInt8)} {k : Nat} {p : List UInt8} (h : ps[k]? = some p) : (nums ps)[k]? = some (UInt8.ofNat (Oct.number p)) := by simp [nums, h]
theorem v4_count {s : List UInt8} (h : (Oct.split 46 s).length ≠ 4) : v4 s = none := by unfold v4; rw [if_neg fun h1 => h h1.1]
theorem v4_no {s : List UInt8} {k : Nat} {p : List UInt8} (hp : (Oct.split 46 s)[k]? = some p) (hn : okNum p = false) : v4 s = none := by
  unfold v4
  rw [if_neg fun h1 => ?_]
  have := List.all_eq_true.1 h1.2 p (List.mem_of_getElem? hp)
  rw [hn] at this; cases this
theorem v4_yes {s : List UInt8} (h : (Oct.split 46 s).length = 4) (ha : (Oct.split 46 s).all okNum = true) : v4 s = some (nums (Oct.split 46 s)) := by unfold v4; rw [if_pos ⟨h, ha⟩]; rfl
theorem num_more {ps : List (List UInt8)} {k : Nat} {p : List UInt8} (h : (ps.take k).all okNum = true) (hp : ps[k]? = some p) (hq : okNum p = true) : (ps.take (k + 1)).all okNum = true := by
  rw [List.all_eq_true] at h ⊢
  exact Oct.take_more (Q := fun p => okNum p = true) h hp hq
theorem okNum_cases (p : List UInt8) : (okNum p = false ∧ Oct.isNum p = false) ∨ (okNum p = false ∧ Oct.isNum p = true ∧ 255 < Oct.number p) ∨ (okNum p = true ∧ Oct.isNum p = true ∧ Oct.number p ≤ 255) := by
  unfold okNum
  cases h : Oct.isNum p
  · exact .inl ⟨by simp, rfl⟩
  · by_cases h2 : Oct.number p ≤ 255
    · exact .inr (.inr ⟨by simp [h2], rfl, h2⟩)
    · exact .inr (.inl ⟨by simp [h2], rfl, by omega⟩)
theorem number_big (p : List UInt8) : Oct.number p ≤ 999999999999999999 := by
  unfold Oct.number
  split
  · rename_i h
    unfold Oct.isNum at h
    rw [Bool.and_eq_true, Bool.and_eq_true] at h
    obtain ⟨⟨hd, hl⟩, _⟩ := h
    have hl := of_decide_eq_true hl
    have := Oct.numOf_lt (s := ⟨p.toArray⟩) hd p.length (by show p.length ≤ p.toArray.size; simp)
    rw [List.take_of_length_le (by show p.toArray.toList.length ≤ _; simp)] at this
    have h2 : 10 ^ p.length ≤ 10 ^ 18 := Nat.pow_le_pow_right (by omega) hl
    have e : (⟨p.toArray⟩ : ByteArray).data.toList = p := rfl
    rw [e] at this
    omega
  · omega
end Adr
def zF : List UInt8 := List.replicate 4 0
theorem bytes4 : #[Value.int .u8 0, .int .u8 0, .int .u8 0, .int .u8 0] = bytesA zF := by rfl
theorem fill_zF (l : List UInt8) : Adr.fill l 0 4 0 = zF := Adr.fill_zero l 0 4
theorem infoByteSize : (Tryz.prog.info? 5).map (·.size) = some 1 := by kernel_rfl
theorem bytes_one (r : List UInt8) : ∀ v ∈ r.map byteV, v.oneCell' = true := by
  intro v hv; obtain ⟨x, _, rfl⟩ := List.mem_map.1 hv; rfl
theorem splice_end (l : List UInt8) (hl : l.length = 4) : splice zA 12 l = List.replicate 12 0 ++ l := by
  unfold splice zA
  rw [List.take_replicate, List.drop_eq_nil_of_le (by simp; omega), List.append_nil]; rfl
theorem row_end {w : World} {g : Nat} (l : List UInt8) (hl : l.length = 4) (hw : w.heap[g]? = some (.cells (splice (zA.map byteV) 12 (l.map byteV)).toArray 43 (0, 0))) : Row w g 43 (bytesA (List.replicate 12 0 ++ l)) := by
  rw [splice_map, splice_end l hl] at hw
  exact hw
theorem row_source {w : World} {g : Nat} {t : TypeId} {l : List UInt8} (h : Row w g t (bytesA l)) : ∀ j v, (l.map byteV)[j]? = some v → w.cell? ((⟨g, 0, none⟩ : Addr).add j) = some v := by
  intro j v hj
  rw [Addr.add_mid, Nat.zero_add, h.cell, bytesA, List.getElem?_toArray]
  exact hj

set_option maxHeartbeats 2000000 in
theorem v4_calls (s : ByteArray) (w : World) (hs : s.size ≤ 1048576) :
    Calls Tryz.prog 56 #[.string s] w (NewAddr (Adr.addr4 (Adr.v4 s.data.toList)) (Adr.v4 s.data.toList).isSome w) := by
  have hlen := Oct.split_length 46 s.data.toList
  have hp := Oct.split_pos 46 s.data.toList
  have hsm := Oct.split_small 46 s.data.toList
  rw [Oct.length_bytes] at hlen hsm
  obtain ⟨ps, hps⟩ : ∃ ps, ps = Oct.split 46 s.data.toList := ⟨_, rfl⟩
  rw [← hps] at hlen hp hsm
  have HP := Lib.hid hps
  have HSM := Lib.hid hsm
  have HC : ∀ W, Calls Tryz.prog 33 #[.string s, .int .u8 46] W (NewTextsAt W.heap.size ps W) := fun W => by rw [hps]; exact split_at s 46 W (by omega)
  have HCC := Lib.hid HC
  clear hps HC hsm
  have z1 := bytesA_zA
  go_enter Tryz.func56, Tryz.ntmps56
  go_wp2_with fail
  have R0 := Row.new w 43 (bytesA zA)
  have B0 := (Below.refl w.heap.size w).alloc (Nat.le_refl _) (.cells (bytesA zA) 43)
  have s0 : w.heap.size < (w.alloc (.cells (bytesA zA) 43)).heap.size := by simp
  generalize w.alloc (.cells (bytesA zA) 43) = w0 at *
  refine (HCC.out _).mono ?_
  rintro e w1 ⟨g, cap, rfl, hown, hb⟩
  have R1 := R0.stays hb
  have B1 := B0.trans (hb.mono (Nat.le_of_lt s0))
  have s1 := hb.size
  have hgl := (hown.lt g rfl)
  clear R0 B0 hb
  by_cases h4 : ps.length = 4
  · have HL := Lib.hid h4
    have h4b : ((ps.length : Int) != 4) = false := by rw [h4]; rfl
    clear h4
    have z4 := bytes4
    go_wp2
    have hown2 := hown.alloc (.cells (bytesA zF) 97)
    have R2 := R1.alloc (.cells (bytesA zF) 97)
    have F2 := Row.new w1 97 (bytesA zF)
    rw [← fill_zF (Adr.nums ps)] at F2
    have B2 := B1.alloc (by omega) (.cells (bytesA zF) 97)
    have n1 : w0.heap.size ≤ w1.heap.size := s1
    generalize w1.heap.size = N at *
    clear hown R1 B1
    have HLN := Lib.hid (show (Adr.nums ps).length = 4 by rw [Adr.nums_length, HL.out])
    go_loopw [16] (fun i wr => ∃ k : Nat, k ≤ 4 ∧ i = .int .i64 k ∧ wr.ownsRow w0.heap.size 9 1 (.slice (some ⟨g, 0, none⟩) ps.length cap) ps.length (ps.map strV) ∧ Row wr w.heap.size 43 (bytesA zA) ∧ Row wr N 97 (bytesA (Adr.fill (Adr.nums ps) 0 4 k)) ∧ (ps.take k).all Adr.okNum = true ∧ Below w.heap.size w wr) (fun i _ => 4 - (intOf i).toNat)
    case atStart => exact ⟨0, Nat.zero_le _, rfl, hown2, R2, F2, by simp, B2⟩
    case round =>
      clear hown2 R2 F2 B2
      obtain ⟨k, hk, rfl, hown, R, F, hall, hb⟩ := hrel
      have HA := Lib.hid hall
      clear hall
      by_cases hlt : k < 4
      · have hkl : k < ps.length := by rw [HL.out]; exact hlt
        obtain ⟨p, t, h1, hcell, h3, _, h5⟩ := own_cell hown hkl
        have hpl := HSM.out p (List.mem_of_getElem? h1)
        have ht : t.size ≤ maxLen := by unfold maxLen; omega
        have HC := Lib.hid (fun W => number_calls t W ht)
        rw [h3] at HC
        have H1 := Lib.hid h1
        have hbig := Adr.number_big p
        clear h1 h3 h5 hpl ht
        rcases Adr.okNum_cases p with ⟨hk1, hk2⟩ | ⟨hk1, hk2, hk3⟩ | ⟨hk1, hk2, hk3⟩
        · have HN := Lib.hid (show NewAddr (Adr.addr4 (Adr.v4 s.data.toList)) (Adr.v4 s.data.toList).isSome = NewAddr zA false by rw [Adr.v4_no (by rw [← HP.out]; exact H1.out) hk1]; rfl)
          rw [hk2] at HC
          clear hk1 hk2
          go_wp2_with (first
            | (go_at_call 79; refine (HC.out _).mono ?_; rintro e w' ⟨rfl, rfl⟩)
            | (refine wpList_store_row rfl 43 _ _ rfl w.heap.size (bytesA zA) rfl rfl 43 _ R infoAddr rfl (bytesA_one _) ?_))
          rw [HN.out]
          exact bodyPost_ret (results_cell_two rfl _ _ w.heap.size _ _ _ rfl _ rfl (R.whole _) Tryz.underlying43 rfl infoAddr) rfl ⟨rfl, below_setRow hb (Nat.le_refl _) _⟩
        · have HN := Lib.hid (show NewAddr (Adr.addr4 (Adr.v4 s.data.toList)) (Adr.v4 s.data.toList).isSome = NewAddr zA false by rw [Adr.v4_no (by rw [← HP.out]; exact H1.out) hk1]; rfl)
          rw [hk2] at HC
          clear hk1 hk2
          go_wp2_with (first
            | (go_at_call 79; refine (HC.out _).mono ?_; rintro e w' ⟨rfl, rfl⟩)
            | (refine wpList_store_row rfl 43 _ _ rfl w.heap.size (bytesA zA) rfl rfl 43 _ R infoAddr rfl (bytesA_one _) ?_))
          rw [HN.out]
          exact bodyPost_ret (results_cell_two rfl _ _ w.heap.size _ _ _ rfl _ rfl (R.whole _) Tryz.underlying43 rfl infoAddr) rfl ⟨rfl, below_setRow hb (Nat.le_refl _) _⟩
        · rw [hk2] at HC
          have HAll := Lib.hid (Adr.num_more HA.out H1.out hk1)
          have hw := Adr.nums_at H1.out
          have hv : Value.int .u8 (Oct.number p : Int) = byteV (UInt8.ofNat (Oct.number p)) := by unfold byteV; rw [UInt8.toNat_ofNat']; exact val_int (by omega)
          have hfl := Adr.fill_length (z := (0 : UInt8)) (n := 4) (k := k) HLN.out hk
          obtain ⟨u1, c1⟩ : ∃ u, wr.cell? ⟨N, k, none⟩ = some u := ⟨_, by rw [F.cell]; exact Array.getElem?_eq_getElem (by rw [bytesA_size, hfl]; exact hlt)⟩
          have f1 := F.free k
          have F3 := F.set k (byteV (UInt8.ofNat (Oct.number p)))
          rw [bytesA_set, Adr.fill_set HLN.out hlt hw, ← hv] at F3
          have B3 := hb.setCell (p := ⟨N, k, none⟩) (by simp; omega) (.int .u8 (Oct.number p : Int))
          have R3 := R.other (p := ⟨N, k, none⟩) (by simp; omega) (.int .u8 (Oct.number p : Int))
          have O3 := own_far hown (p := ⟨N, k, none⟩) (by simp [Value.ownBlock]; omega) (.int .u8 (Oct.number p : Int))
          clear hk1 hk2 hw hv hfl F hb R hown
          generalize Oct.number p = x at *
          go_wp2_with (go_at_call 79; refine (HC.out _).mono ?_; rintro e w' ⟨rfl, rfl⟩)
          go_roundw
          case rel => exact ⟨k + 1, by omega, by go_num, O3, R3, F3, HAll.out, B3⟩
          case measure => simp [intOf]; omega
      · have hkk : k = 4 := by omega
        subst hkk
        rw [Adr.fill_end HLN.out] at F
        have HS := Lib.hid (show Adr.v4 s.data.toList = some (Adr.nums ps) by
          have := Adr.v4_yes (s := s.data.toList) (by rw [← HP.out]; exact HL.out) (by rw [← HP.out]; have := HA.out; rw [List.take_of_length_le (by have := HL.out; omega)] at this; exact this)
          rw [← HP.out] at this
          exact this)
        have P1 := Lib.hid (show ((Adr.nums ps).map byteV).length = Nat.min 4 4 by rw [List.length_map, HLN.out]; rfl)
        have P3 := Lib.hid (show 12 + ((Adr.nums ps).map byteV).length ≤ (zA.map byteV).length by rw [List.length_map, List.length_map, HLN.out, zA_length]; exact Nat.le_refl 16)
        have P2 := Lib.hid (row_source ((F.alloc (.cells (bytesA zA) 43)).drew))
        have PN := Lib.hid ((Row.new wr 43 (bytesA zA)).drew)
        have BB := Lib.hid (((Below.refl wr.heap.size wr).alloc (Nat.le_refl _) (.cells (bytesA zA) 43)).drew)
        have sB := hb.size
        go_wp2
        go_region_held3 (fun _ => True) (trivial) ((refine step_copy_splice (by rfl) (.tmp 39) (.tmp 40) 75 75 (by rfl) 5 Tryz.underlying75 infoByteSize (some ⟨wr.heap.size, 12, none⟩) (some ⟨N, 0, none⟩) 4 4 4 4 (by rfl) (by rfl) wr.heap.size 12 (zA.map byteV) 43 PN.out ((Adr.nums ps).map byteV) P1.out (fun _ => ⟨rfl, _, rfl, P2.out⟩) P3.out (bytes_one _) wr.heap.size _ (Below.refl _ _) (Nat.le_refl _) ?_; intro w5 hw5 hb5))
        all_goals
          have R5 := row_end (Adr.nums ps) HLN.out hw5.out
          have H5 := Lib.hid (BB.out.trans hb5)
          have R6 := R.stays H5.out
          have HZ := Lib.hid (show (bytesA (List.replicate 12 0 ++ Adr.nums ps)).size = 16 by rw [bytesA_size, List.length_append, HLN.out, List.length_replicate])
          have HD := Lib.hid (show Adr.addr4 (some (Adr.nums ps)) = List.replicate 12 0 ++ Adr.nums ps from rfl)
          generalize List.replicate 12 0 ++ Adr.nums ps = G at *
          have B6 := hb.trans (H5.out.mono sB)
          clear hb5 hw5 hown F
          go_wp2_with (first
            | (refine at_slot 42 rfl ?_
               refine wpList_load_row rfl 43 _ rfl wr.heap.size rfl 43 _ (0, 0) _ R5 Tryz.underlying43 rfl (by rw [HZ.out]; exact infoAddr) ?_)
            | (refine wpList_store_row rfl 43 _ _ rfl w.heap.size (bytesA G) rfl rfl 43 _ R6 (by rw [HZ.out]; exact infoAddr) (by rw [HZ.out]; rfl) (bytesA_one _) ?_))
          rw [HS.out, HD.out]
          exact bodyPost_ret (results_cell_two rfl _ _ w.heap.size _ _ _ rfl _ rfl (R6.whole _) Tryz.underlying43 rfl (by rw [HZ.out]; exact infoAddr)) rfl ⟨rfl, below_setRow B6 (Nat.le_refl _) _⟩
  · have HN := Lib.hid (show NewAddr (Adr.addr4 (Adr.v4 s.data.toList)) (Adr.v4 s.data.toList).isSome = NewAddr zA false by rw [Adr.v4_count (by rw [← HP.out]; exact h4)]; rfl)
    have h4b : ((ps.length : Int) != 4) = true := by rw [bne_iff_ne]; omega
    clear h4
    go_wp2_with (refine wpList_store_row rfl 43 _ _ rfl w.heap.size (bytesA zA) rfl rfl 43 _ R1 infoAddr rfl (bytesA_one _) ?_)
    rw [HN.out]
    exact bodyPost_ret (results_cell_two rfl _ _ w.heap.size _ _ _ rfl _ rfl (R1.whole _) Tryz.underlying43 rfl infoAddr) rfl ⟨rfl, below_setRow B1 (Nat.le_refl _) _⟩
end Go.Proofs.YtjfipedcjahbkaaGreatDoor
