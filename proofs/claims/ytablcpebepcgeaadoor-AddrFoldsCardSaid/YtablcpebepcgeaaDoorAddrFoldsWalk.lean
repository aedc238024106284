/- The walk of the law AddrFolds. -/
import Derived.Test.YtablcpebepcgeaaDoorAddrAlive
import Derived.Test.YtablcpebepcgeaaDoorArrayEq
import Derived.Test.YtablcpebepcgeaaDoorFoldsPlain
namespace Go.Proofs.YtablcpebepcgeaaDoor
open Go.RowKit
theorem Bytes.later {w w' : World} {g cap : Nat} {l : List UInt8} (h : Bytes w g l) (hb : Below w.heap.size w w') :
    (convert 37 9 (.slice (some ⟨g, 0, none⟩) l.length cap)).run Tryd.prog w' = .ok (.string ⟨l.toArray⟩) w' := by
  refine run_convert_bytes_back w' 37 9 5 ⟨g, 0, none⟩ cap l Tryd.underlying37 Tryd.underlying5 Tryd.underlying9 (fun j hj => ?_)
  have hadd : (⟨g, 0, none⟩ : Addr).add j = ⟨g, j, none⟩ := by unfold Addr.add; split <;> simp_all
  rw [hadd]
  have hc := h.cell j _ (List.getElem?_eq_getElem hj)
  exact (hb.cell (block_lt_of_cell hc)).trans hc

set_option maxRecDepth 100000 in
set_option maxHeartbeats 4000000 in
theorem folds_walk (s : ByteArray) (w : World) (_hs : s.size ≤ maxLen) (hw : Std w) :
    Calls Tryd.prog 8 #[.string s] w fun e w' => e = .returned (.bool true) ∧ Below w.heap.size w w' := by
  have HA := Lib.hid alive_calls
  by_cases hlen : s.size ≤ 200
  · have HV := Lib.hid (fun W h => v6_calls s W h (by omega))
    obtain ⟨t, ht⟩ : ∃ t : ByteArray, t = ⟨(s.data.toList.map Adr.up).toArray⟩ := ⟨_, rfl⟩
    have hts : t.data.toList = s.data.toList.map Adr.up := by rw [ht]
    have htz : t.size = s.size := by rw [← Oct.length_bytes, hts, List.length_map, Oct.length_bytes]
    have hvt := fun W h => v6_calls t W h (by omega)
    rw [hts, Adr.v6_up] at hvt
    have HT := Lib.hid hvt
    have hal : (Adr.addrOf (Adr.v6 s.data.toList)).length = 16 := Adr.addrOf_length s.data.toList
    generalize Adr.addrOf (Adr.v6 s.data.toList) = a at *
    generalize (Adr.v6 s.data.toList).isSome = ok at *
    have q1 : ∀ W, (Op.equalIn 10000 24 (.agg (bytesA a)) (.agg (bytesA a))).run Tryd.prog W = .ok true W := fun W => by rw [eq_addr a a hal hal W]; simp
    have HZ := Lib.hid (show (bytesA a).size = 16 by rw [bytesA_size, hal])
    have HTS := Lib.hid ht
    clear ht hts htz hvt hal
    have z1 := bytesA_zA
    have hcv := fun W => run_bytes_of_string (P := Tryd.prog) W 9 37 5 s Tryd.underlying9 Tryd.underlying37 Tryd.underlying5
    go_enter Tryd.func8, Tryd.ntmps8
    go_wp2_with fail
    refine (HA.out _ hw).mono ?_
    rintro e w1 ⟨rfl, b1⟩
    have s1 := b1.size
    have B1 := b1
    go_wp2
    go_loopw [19] (fun i wr => ∃ k : Nat, k ≤ s.size ∧ i = .int .i64 k ∧ Bytes wr w1.heap.size (Adr.halfUp s.data.toList k) ∧ Below w.heap.size w wr) (fun i _ => s.size - (intOf i).toNat)
    case atStart => exact ⟨0, Nat.zero_le _, rfl, by rw [Adr.halfUp_zero]; exact Bytes.new w1 s _ _, (B1.alloc s1 _).drew⟩
    case round =>
      obtain ⟨k, hk, rfl, hB, hb⟩ := hrel
      clear hcv b1 B1
      by_cases hlt : k < s.size
      · have hlt' : k < s.data.toList.length := by rw [Oct.length_bytes]; exact hlt
        have hcell := hB.cell k _ (Adr.halfUp_at hlt')
        have hfr := hB.free k (by rw [Adr.halfUp_length]; exact hlt')
        have hset := hB.set k (Adr.up s[k])
        have e1 : (Adr.halfUp s.data.toList k).set k (Adr.up s[k]) = Adr.halfUp s.data.toList (k + 1) := Adr.halfUp_set hlt'
        rw [e1] at hset
        unfold byteV at hcell hset
        rw [Oct.getElem_bytes s k hlt] at hcell
        have hc : s[k].toNat < 256 := s[k].toNat_lt
        have hor : (97 ≤ s[k].toNat ∧ s[k].toNat ≤ 102) ∨ ((97 ≤ s[k].toNat ∧ ¬ s[k].toNat ≤ 102) ∨ ¬ 97 ≤ s[k].toNat) := by omega
        rcases hor with ⟨h1, h2⟩ | hor
        · have hup : ((Adr.up s[k]).toNat : Int) = (s[k].toNat : Int) - 32 := by rw [Adr.up_yes ⟨h1, h2⟩]; omega
          rw [hup] at hset
          have HS := Lib.hid hset
          have g1 : (97 : Int) ≤ (s[k].toNat : Int) := by omega
          have g2 : (s[k].toNat : Int) ≤ 102 := by omega
          clear hset hB hup e1 h1 h2
          go_wp2
          go_roundw
          case rel => exact ⟨k + 1, by omega, by go_num, HS.out, hb.setCell (p := ⟨w1.heap.size, k, none⟩) s1 _⟩
          case measure => simp [intOf]; omega
        · have HK := Lib.hid (Adr.halfUp_keep hlt' (Adr.up_no (by rw [Oct.getElem_bytes s k hlt]; omega)))
          have HB := Lib.hid hB
          clear hset hfr e1 hB
          rcases hor with ⟨h1, h2⟩ | h1
          · have g1 : (97 : Int) ≤ (s[k].toNat : Int) := by omega
            have g2 : ¬ (s[k].toNat : Int) ≤ 102 := by omega
            clear h1 h2
            go_wp2
            go_roundw
            case rel => exact ⟨k + 1, by omega, by go_num, by rw [HK.out]; exact HB.out, hb⟩
            case measure => simp [intOf]; omega
          · have g1 : ¬ (97 : Int) ≤ (s[k].toNat : Int) := by omega
            clear h1
            go_wp2
            go_roundw
            case rel => exact ⟨k + 1, by omega, by go_num, by rw [HK.out]; exact HB.out, hb⟩
            case measure => simp [intOf]; omega
      · have hz := Adr.halfUp_end (l := s.data.toList) (k := k) (by rw [Oct.length_bytes]; omega)
        rw [hz] at hB
        have HB := Lib.hid hB
        have Sr := hw.below hb
        clear hz hB
        go_wp2_with fail
        generalize hwr : wr = w3 at *
        refine (HV.out _ Sr).mono ?_
        rintro e w4 ⟨rfl, b4⟩
        have s4 := b4.size
        have R4 := Row.new w4 24 (bytesA zA)
        have C4 := b4.alloc s4 (.cells (bytesA zA) 24)
        have R5 := R4.whole (bytesA a)
        have C5 := below_setRow C4 s4 (bytesA a)
        have S5 := Sr.below C5
        have hcv := HB.out.later (cap := grownCap w1 s.size 0 5) C5
        rw [List.length_map, Oct.length_bytes, ← HTS.out] at hcv
        have B5 := hb.trans (C5.mono hb.size)
        have B5' := B5
        clear C4 b4 Sr C5 hb
        go_wp2_with (refine wpList_store_row rfl 24 _ _ rfl w4.heap.size (bytesA a) rfl rfl 24 _ R4 (by rw [HZ.out]; exact infoAddr) (by rw [HZ.out]; rfl) (bytesA_one _) ?_)
        have hx : ((w4.alloc (.cells (bytesA zA) 24)).setRow w4.heap.size (bytesA a)).heap.size = w4.heap.size + 1 := by simp
        refine (HT.out _ S5).mono ?_
        rintro e w6 ⟨rfl, b6⟩
        have R6 := R5.stays b6
        have B6 := B5.trans (b6.mono B5.size)
        have s6 := B6.size
        have n6 : w4.heap.size ≠ w6.heap.size := by have := R6.lt; omega
        have T6 := Row.new w6 24 (bytesA zA)
        have T7 := T6.whole (bytesA a)
        have R7 := (R6.alloc (.cells (bytesA zA) 24)).aside n6 (bytesA a)
        have B7 := below_setRow (B6.alloc s6 (.cells (bytesA zA) 24)) s6 (bytesA a)
        clear hx hcv b6 B6 B5 B5' R6 R5 R4
        cases ok
        all_goals
          go_wp2_with (first
            | (refine at_slot 47 rfl ?_; refine load_row rfl 24 _ rfl w4.heap.size rfl R7 Tryd.underlying24 rfl (by rw [HZ.out]; exact infoAddr) ?_)
            | (refine at_slot 48 rfl ?_; refine load_row rfl 24 _ rfl w6.heap.size rfl T7 Tryd.underlying24 rfl (by rw [HZ.out]; exact infoAddr) ?_)
            | (refine wpList_store_row rfl 24 _ _ rfl w6.heap.size (bytesA a) rfl rfl 24 _ T6 (by rw [HZ.out]; exact infoAddr) (by rw [HZ.out]; rfl) (bytesA_one _) ?_))
          go_ret
          exact ⟨rfl, B7⟩
  · go_enter Tryd.func8, Tryd.ntmps8
    go_wp2_with fail
    refine (HA.out _ hw).mono ?_
    rintro e w1 ⟨rfl, b1⟩
    go_wp2
    go_ret
    exact ⟨rfl, b1⟩
end Go.Proofs.YtablcpebepcgeaaDoor
