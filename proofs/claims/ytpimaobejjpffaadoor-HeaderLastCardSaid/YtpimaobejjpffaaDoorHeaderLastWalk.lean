/- The walk of the law HeaderLast. -/
import Derived.Test.YtpimaobejjpffaaDoorHeaderBackWalk
import Derived.OpenShut
namespace Go.Proofs.YtpimaobejjpffaaDoor
open Go.RowKit
namespace Hd
theorem dec_small {n : Nat} (h : n < 10) : Lib.decDigits n = [UInt8.ofNat (48 + n % 10)] := by
  rw [show n % 10 = n by omega]
  conv => lhs; unfold Lib.decDigits
  rw [dif_pos h]
theorem dec_great {n : Nat} (h : ¬ n < 10) : Lib.decDigits n = Lib.decDigits (n / 10) ++ [UInt8.ofNat (48 + n % 10)] := by
  conv => lhs; unfold Lib.decDigits
  rw [dif_neg h]
/-- The digits d of A so far; what is left is n. -/
def Told (A : Nat) (d : List UInt8) (n : Nat) : Prop := (d = [] ∧ n = A) ∨ (d ≠ [] ∧ Lib.decDigits A = (if n = 0 then [] else Lib.decDigits n) ++ d)
theorem told_step {A n : Nat} {d : List UInt8} (h : Told A d n) (hor : 0 < n ∨ d = []) : Told A (UInt8.ofNat (48 + n % 10) :: d) (n / 10) := by
  refine .inr ⟨by simp, ?_⟩
  have key : Lib.decDigits n = (if n / 10 = 0 then [] else Lib.decDigits (n / 10)) ++ [UInt8.ofNat (48 + n % 10)] := by
    by_cases hn : n < 10
    · rw [dec_small hn, if_pos (by omega)]; rfl
    · rw [if_neg (by omega)]; exact dec_great hn
  rcases h with ⟨rfl, rfl⟩ | ⟨hd, he⟩
  · exact key
  · have hn : n ≠ 0 := by
      rcases hor with h0 | h0
      · omega
      · exact absurd h0 hd
    rw [he, if_neg hn, key, List.append_assoc]; rfl
theorem told_end {A : Nat} {d : List UInt8} (h : Told A d 0) (hd : d ≠ []) : d = Lib.decDigits A := by
  rcases h with ⟨rfl, _⟩ | ⟨_, he⟩
  · exact absurd rfl hd
  · rw [he]; rfl
theorem told_len {A n : Nat} {d : List UInt8} (h : Told A d n) (hA : A ≤ 34560000) : d.length ≤ 8 := by
  rcases h with ⟨rfl, _⟩ | ⟨_, he⟩
  · simp
  · have := (dec_facts hA).2.1
    rw [he, List.length_append] at this
    omega
theorem digit_nat (n : Nat) : (UInt8.ofNat (48 + n % 10)).toNat = 48 + n % 10 := by rw [UInt8.toNat_ofNat']; omega
end Hd
set_option maxRecDepth 100000 in
set_option maxHeartbeats 16000000 in
theorem hlast_walk (s : ByteArray) (a : Int) (w : World) (hs : s.size ≤ maxLen) (ha : (Lit.int .u16 a).wf = true) (hw : Hal w) :
    Calls Tryd.prog 5 #[.string s, .int .u16 a] w fun e w' => e = .returned (.bool true) ∧ Below w.heap.size w w' := by
  have z0 := zeroHead
  have HZ : Hid (∀ h : Hd.Head, (headA h).size = 11) := Lib.hid (fun h => rfl)
  have HA := Lib.hid (fun W hW => header_alive W hW)
  obtain ⟨ha0, ha1⟩ := bounds_u16 ha
  obtain ⟨A, rfl⟩ : ∃ A : Nat, a = A := ⟨a.toNat, by omega⟩
  obtain ⟨⟨n, h⟩, hp⟩ : ∃ o, Hd.parse s.data.toList = o := ⟨_, rfl⟩
  have H1 := Lib.hid (fun W hW => parse_calls_is s hp W hW hs)
  by_cases hbig : 4000 < s.size ∨ n ≠ 0
  · have hor : (4000 : Int) < (s.size : Int) ∨ (¬ (4000 : Int) < (s.size : Int) ∧ (n != 0) = true) := by
      by_cases k : 4000 < s.size
      · exact .inl (by omega)
      · exact .inr ⟨by omega, by rw [bne_iff_ne]; exact hbig.resolve_left k⟩
    clear hbig hs hp
    go_enter Tryd.func5, Tryd.ntmps5
    go_wp2_with fail
    refine (HA.out _ hw).mono ?_
    rintro e w1 ⟨rfl, b1⟩
    go_wp2_with fail
    refine (H1.out _ (hw.below b1)).mono ?_
    rintro e w2 ⟨rfl, b2⟩
    have B2 := b1.trans (b2.mono b1.size)
    obtain ⟨T0, U0, V0, W0⟩ := lay_row 23 (headA Hd.zero) (headA h) B2 B2.size
    rcases hor with k1 | ⟨k1, k2⟩
    all_goals
      go_wp2_with (refine wpList_store_row rfl 23 _ _ rfl w2.heap.size (headA h) rfl rfl 23 _ T0 (by rw [HZ.out]; exact infoHead) rfl (headA_one _) ?_)
      go_ret
      exact ⟨rfl, V0⟩
  have hn : n = 0 := Decidable.byContradiction fun k => hbig (.inr k)
  subst hn
  have hsz : s.size ≤ 4000 := Nat.le_of_not_lt fun k => hbig (.inl k)
  have hb1 : ¬ (4000 : Int) < (s.size : Int) := by omega
  have HP := Lib.hid hp
  clear hbig hs hp
  go_enter Tryd.func5, Tryd.ntmps5
  go_wp2_with fail
  refine (HA.out _ hw).mono ?_
  rintro e w1 ⟨rfl, b1⟩
  go_wp2_with fail
  refine (H1.out _ (hw.below b1)).mono ?_
  rintro e w2 ⟨rfl, b2⟩
  have B2 := b1.trans (b2.mono b1.size)
  obtain ⟨T0, U0, V0, W0⟩ := lay_row 23 (headA Hd.zero) (headA h) B2 B2.size
  go_wp2_with (refine wpList_store_row rfl 23 _ _ rfl w2.heap.size (headA h) rfl rfl 23 _ T0 (by rw [HZ.out]; exact infoHead) rfl (headA_one _) ?_)
  clear T0 W0 b1 b2 B2 H1 HA
  generalize (w2.alloc (.cells (headA Hd.zero) 23)).setRow w2.heap.size (headA h) = w3 at *
  generalize w2.heap.size = g5 at *
  go_loopw [7, 8] (fun v i wr => ∃ (D : ByteArray) (m : Nat), v = .string D ∧ i = .int .i64 m ∧ m ≤ 65535 ∧ Hd.Told A D.data.toList m ∧ Below w3.heap.size w3 wr) (fun v i _ => (intOf i).toNat + (match v with | .string u => if u.size = 0 then 1 else 0 | _ => 0))
  case atStart => exact ⟨⟨#[]⟩, A, rfl, rfl, by omega, .inl ⟨rfl, rfl⟩, Below.refl _ _⟩
  case round =>
    obtain ⟨D, m, rfl, rfl, hm, hT, hb⟩ := hrel
    have hl := Hd.told_len hT (by omega)
    rw [Oct.length_bytes] at hl
    by_cases hgo : 0 < m ∨ D.size = 0
    · have HS := Lib.hid (Hd.told_step hT (hgo.imp id fun k => (Oct.nil_size D).2 k))
      have hc := Hd.digit_nat m
      have hcv := one_string wr (UInt8.ofNat (48 + m % 10))
      have hlt : m % 10 < 10 := by omega
      have hdat : (⟨#[UInt8.ofNat (48 + m % 10)]⟩ ++ D : ByteArray).data.toList = UInt8.ofNat (48 + m % 10) :: D.data.toList := by simp [ByteArray.data_append]
      have HD := Lib.hid hdat
      have hsz2 : (⟨#[UInt8.ofNat (48 + m % 10)]⟩ : ByteArray).size = 1 := rfl
      clear hdat hT
      generalize UInt8.ofNat (48 + m % 10) = c at *
      rw [hc] at hcv
      have e1 : ((48 + m % 10 : Nat) : Int) = 48 + (m : Int) % 10 := by omega
      rw [e1] at hcv
      have q2 : (m : Int).tmod 10 = (m : Int) % 10 := Int.tmod_eq_emod_of_nonneg (by omega)
      have q1 : (m : Int).tdiv 10 = ((m / 10 : Nat) : Int) := by rw [Int.tdiv_eq_ediv_of_nonneg (by omega)]; omega
      have m0 : 0 ≤ (m : Int) % 10 := by omega
      have m1 : (m : Int) % 10 < 10 := by omega
      have q8 : ¬ 9223372036854775807 < 1 + D.size := by omega
      have hor : (0 : Int) < (m : Int) ∨ (¬ (0 : Int) < (m : Int) ∧ D.toList.isEmpty = true) := by
        by_cases k : 0 < m
        · exact .inl (by omega)
        · refine .inr ⟨by omega, ?_⟩
          rw [Oct.bytes_data, (Oct.nil_size D).2 (hgo.resolve_left k)]; rfl
      clear e1 hc
      rcases hor with k1 | ⟨k1, k2⟩
      · go_wp2
        go_roundw
        case rel => exact ⟨_, m / 10, rfl, by go_num, by omega, by rw [HD.out]; exact HS.out, hb.alloc hb.size _⟩
        case measure => simp [intOf, ByteArray.size_append, hsz2]; omega
      · have hm0 : m = 0 := by omega
        subst hm0
        have hD0 : D.size = 0 := by
          rcases hgo with k | k
          · omega
          · exact k
        rw [show (48 : Int) + ((0 : Nat) : Int) % 10 = 48 from rfl] at hcv
        clear q1 q2 m0 m1 hlt hgo
        go_wp2
        go_roundw
        case rel => exact ⟨_, 0, rfl, by go_num, by omega, by rw [HD.out]; exact HS.out, hb.alloc hb.size _⟩
        case measure => simp [intOf, ByteArray.size_append, hsz2, hD0]
    · have hm0 : m = 0 := by omega
      subst hm0
      have hD0 : D.size ≠ 0 := fun k => hgo (.inr k)
      have hDe := Hd.told_end hT (fun k => hD0 ((Oct.nil_size D).1 k))
      have hne : D.toList.isEmpty = false := by
        rw [Oct.bytes_data, Bool.eq_false_iff]
        intro k
        exact hD0 ((Oct.nil_size D).1 (List.isEmpty_iff.1 k))
      have HDE := Lib.hid hDe
      clear hDe hT hgo
      have hL1 : (⟨#[59, 32, 109, 97, 120, 45, 97, 103, 101, 32, 61, 32]⟩ : ByteArray).size = 12 := rfl
      have hL2 : (⟨#[32]⟩ : ByteArray).size = 1 := rfl
      have hL3 : (⟨#[59, 32, 77, 97, 120, 45, 65, 103, 101, 115, 61, 49, 59, 32, 80, 97, 116, 104, 50, 61, 47, 59, 32, 61, 120, 59, 59]⟩ : ByteArray).size = 27 := rfl
      have hL4 : (⟨#[59, 83, 65, 77, 69, 83, 73, 84, 69, 61, 115, 116, 114, 105, 99, 116, 59, 115, 101, 99, 117, 114, 101, 61, 110, 111]⟩ : ByteArray).size = 26 := rfl
      have p1 : ¬ 9223372036854775807 < s.size + 12 := by omega
      have p2 : ¬ 9223372036854775807 < s.size + 12 + D.size := by omega
      have p3 : ¬ 9223372036854775807 < s.size + 12 + D.size + 1 := by omega
      have p4 : ¬ 9223372036854775807 < s.size + 27 := by omega
      have p5 : ¬ 9223372036854775807 < s.size + 26 := by omega
      have H4 := Lib.hid (fun W hW => parse_calls_is (s ++ ⟨#[59, 32, 109, 97, 120, 45, 97, 103, 101, 32, 61, 32]⟩ ++ D ++ ⟨#[32]⟩) (n := 0) (h := { h with age := some A }) (by
        have e : (s ++ ⟨#[59, 32, 109, 97, 120, 45, 97, 103, 101, 32, 61, 32]⟩ ++ D ++ ⟨#[32]⟩ : ByteArray).data.toList = s.data.toList ++ 59 :: Hd.moreAge (Lib.decDigits A) := by
          rw [← HDE.out]
          simp [ByteArray.data_append, Hd.moreAge]
        rw [e]
        exact Hd.last_age HP.out (by omega)) W hW (by rw [ByteArray.size_append, ByteArray.size_append, ByteArray.size_append, hL1, hL2]; unfold maxLen; omega))
      have H5 := Lib.hid (fun W hW => parse_calls_is (s ++ ⟨#[59, 32, 77, 97, 120, 45, 65, 103, 101, 115, 61, 49, 59, 32, 80, 97, 116, 104, 50, 61, 47, 59, 32, 61, 120, 59, 59]⟩) (n := 0) (h := h) (by
        have e : (s ++ ⟨#[59, 32, 77, 97, 120, 45, 65, 103, 101, 115, 61, 49, 59, 32, 80, 97, 116, 104, 50, 61, 47, 59, 32, 61, 120, 59, 59]⟩ : ByteArray).data.toList = s.data.toList ++ 59 :: Hd.moreNone := by simp [ByteArray.data_append, Hd.moreNone]
        rw [e]
        exact Hd.last_none HP.out) W hW (by rw [ByteArray.size_append, hL3]; unfold maxLen; omega))
      have H6 := Lib.hid (fun W hW => parse_calls_is (s ++ ⟨#[59, 83, 65, 77, 69, 83, 73, 84, 69, 61, 115, 116, 114, 105, 99, 116, 59, 115, 101, 99, 117, 114, 101, 61, 110, 111]⟩) (n := 0) (h := { h with same := 3, secure := true }) (by
        have e : (s ++ ⟨#[59, 83, 65, 77, 69, 83, 73, 84, 69, 61, 115, 116, 114, 105, 99, 116, 59, 115, 101, 99, 117, 114, 101, 61, 110, 111]⟩ : ByteArray).data.toList = s.data.toList ++ 59 :: Hd.moreSite := by simp [ByteArray.data_append, Hd.moreSite]
        rw [e]
        exact Hd.last_site HP.out) W hW (by rw [ByteArray.size_append, hL4]; unfold maxLen; omega))
      have eA : ((headA h).setIfInBounds 6 (.bool true)).setIfInBounds 7 (.int .i64 (A : Int)) = headA { h with age := some A } := head_age h A
      have eC : ((headA h).setIfInBounds 10 (.int .i64 3)).setIfInBounds 8 (.bool true) = headA { h with same := 3, secure := true } := rfl
      obtain ⟨ha, hha⟩ : ∃ x : Hd.Head, { h with age := some A } = x := ⟨_, rfl⟩
      obtain ⟨hc, hhc⟩ : ∃ x : Hd.Head, { h with same := 3, secure := true } = x := ⟨_, rfl⟩
      rw [hha] at H4 eA
      rw [hhc] at H6 eC
      have E1 := eql_head h
      have E2 := eql_head ha
      have E3 := eql_head hc
      have EA := Lib.hid eA
      have EC := Lib.hid eC
      have U3 := U0.stays hb
      have V3 := V0.trans (hb.mono V0.size)
      clear hha hhc eA eC HP HDE U0 hb
      go_wp2_with fail
      refine (H4.out _ (hw.below V3)).mono ?_
      rintro e w4 ⟨rfl, b4⟩
      have U4 := U3.stays b4
      have V4 := V3.trans (b4.mono V3.size)
      obtain ⟨T9, U9, V9, W9⟩ := lay_row 23 (headA Hd.zero) (headA ha) V4 V4.size
      have X9 := W9 _ _ _ U4
      go_wp2_with (refine wpList_store_row rfl 23 _ _ rfl w4.heap.size (headA ha) rfl rfl 23 _ T9 (by rw [HZ.out]; exact infoHead) rfl (headA_one _) ?_)
      clear T9 W9 U3 V3 b4 U4 V4 V0
      have HV9 := hw.below V9
      generalize (w4.alloc (.cells (headA Hd.zero) 23)).setRow w4.heap.size (headA ha) = w5 at *
      generalize w4.heap.size = g9 at *
      refine (H5.out _ HV9).mono ?_
      rintro e w6 ⟨rfl, b6⟩
      have U6 := U9.stays b6
      have X6 := X9.stays b6
      have V6 := V9.trans (b6.mono V9.size)
      obtain ⟨T11, U11, V11, W11⟩ := lay_row 23 (headA Hd.zero) (headA h) V6 V6.size
      have Y6 := W11 _ _ _ U6
      have Z6 := W11 _ _ _ X6
      go_wp2_with (refine wpList_store_row rfl 23 _ _ rfl w6.heap.size (headA h) rfl rfl 23 _ T11 (by rw [HZ.out]; exact infoHead) rfl (headA_one _) ?_)
      clear T11 W11 U9 X9 V9 b6 U6 X6 V6 HV9
      have HV11 := hw.below V11
      generalize (w6.alloc (.cells (headA Hd.zero) 23)).setRow w6.heap.size (headA h) = w7 at *
      generalize w6.heap.size = g11 at *
      refine (H6.out _ HV11).mono ?_
      rintro e w8 ⟨rfl, b8⟩
      have U8 := U11.stays b8
      have Y8 := Y6.stays b8
      have Z8 := Z6.stays b8
      have V8 := V11.trans (b8.mono V11.size)
      obtain ⟨T13, U13, V13, W13⟩ := lay_row 23 (headA Hd.zero) (headA hc) V8 V8.size
      have A13 := W13 _ _ _ U8
      have B13 := W13 _ _ _ Y8
      have C13 := W13 _ _ _ Z8
      go_upto_region 14 with (refine wpList_store_row rfl 23 _ _ rfl w8.heap.size (headA hc) rfl rfl 23 _ T13 (by rw [HZ.out]; exact infoHead) rfl (headA_one _) ?_)
      clear T13 W13 U11 Y6 Z6 V11 b8 U8 Y8 Z8 V8 HV11 H4 H5 H6
      generalize (w8.alloc (.cells (headA Hd.zero) 23)).setRow w8.heap.size (headA hc) = w9 at *
      generalize w8.heap.size = g13 at *
      have n5 := C13.lt
      have n9 := B13.lt
      have n11 := A13.lt
      have n13 := U13.lt
      obtain ⟨T15, U15, V15, W15⟩ := lay_row 23 (headA Hd.zero) (headA h) V13 V13.size
      have A15 := W15 _ _ _ A13
      have B15 := W15 _ _ _ B13
      have C15 := W15 _ _ _ C13
      have D15 := W15 _ _ _ U13
      have q6 := U15.cell 6
      have f6 := U15.free 6
      have q7 := U15.cell 7
      have f7 := U15.free 7
      have S15 := V13.size
      go_upto_region 15 with (first
        | (refine at_slot 70 rfl ?_; refine load_row rfl 23 _ rfl g5 rfl C13 Tryd.underlying23 rfl (by rw [HZ.out]; exact infoHead) ?_)
        | (refine wpList_store_row rfl 23 _ _ rfl w9.heap.size (headA h) rfl rfl 23 _ T15 (by rw [HZ.out]; exact infoHead) rfl (headA_one _) ?_))
      clear T15 W15 A13 B13 C13 U13
      generalize (w9.alloc (.cells (headA Hd.zero) 23)).setRow w9.heap.size (headA h) = w10 at *
      generalize w9.heap.size = g15 at *
      go_upto_region 16 with fail
      clear q6 f6 q7 f7
      have U16 := (U15.set 6 (.bool true)).set 7 (.int .i64 (A : Int))
      rw [EA.out] at U16
      have A16 := (A15.other (p := ⟨g15, 6, none⟩) (by show g11 ≠ g15; omega) (.bool true)).other (p := ⟨g15, 7, none⟩) (by show g11 ≠ g15; omega) (.int .i64 (A : Int))
      have B16 := (B15.other (p := ⟨g15, 6, none⟩) (by show g9 ≠ g15; omega) (.bool true)).other (p := ⟨g15, 7, none⟩) (by show g9 ≠ g15; omega) (.int .i64 (A : Int))
      have C16 := (C15.other (p := ⟨g15, 6, none⟩) (by show g5 ≠ g15; omega) (.bool true)).other (p := ⟨g15, 7, none⟩) (by show g5 ≠ g15; omega) (.int .i64 (A : Int))
      have D16 := (D15.other (p := ⟨g15, 6, none⟩) (by show g13 ≠ g15; omega) (.bool true)).other (p := ⟨g15, 7, none⟩) (by show g13 ≠ g15; omega) (.int .i64 (A : Int))
      have V16 := (V15.setCell (p := ⟨g15, 6, none⟩) S15 (.bool true)).setCell (p := ⟨g15, 7, none⟩) S15 (.int .i64 (A : Int))
      clear U15 A15 B15 C15 D15 V15
      generalize (w10.setCell ⟨g15, 6, none⟩ (.bool true)).setCell ⟨g15, 7, none⟩ (.int .i64 (A : Int)) = w11 at *
      have n15 := U16.lt
      have m5 := C16.lt
      have m9 := B16.lt
      have m11 := A16.lt
      have m13 := D16.lt
      obtain ⟨T17, U17, V17, W17⟩ := lay_row 23 (headA Hd.zero) (headA h) V16 V16.size
      have A17 := W17 _ _ _ A16
      have B17 := W17 _ _ _ B16
      have C17 := W17 _ _ _ C16
      have D17 := W17 _ _ _ D16
      have E17 := W17 _ _ _ U16
      have q10 := U17.cell 10
      have f10 := U17.free 10
      have q8 := U17.cell 8
      have f8 := U17.free 8
      have S17 := V16.size
      go_upto_region 17 with (first
        | (refine at_slot 75 rfl ?_; refine load_row rfl 23 _ rfl g5 rfl C16 Tryd.underlying23 rfl (by rw [HZ.out]; exact infoHead) ?_)
        | (refine wpList_store_row rfl 23 _ _ rfl w11.heap.size (headA h) rfl rfl 23 _ T17 (by rw [HZ.out]; exact infoHead) rfl (headA_one _) ?_))
      clear T17 W17 A16 B16 C16 D16 U16
      generalize (w11.alloc (.cells (headA Hd.zero) 23)).setRow w11.heap.size (headA h) = w12 at *
      generalize w11.heap.size = g16 at *
      go_upto_region 18 with fail
      clear q10 f10 q8 f8
      have U18 := (U17.set 10 (.int .i64 3)).set 8 (.bool true)
      rw [EC.out] at U18
      have A18 := (A17.other (p := ⟨g16, 10, none⟩) (by show g11 ≠ g16; omega) (.int .i64 3)).other (p := ⟨g16, 8, none⟩) (by show g11 ≠ g16; omega) (.bool true)
      have B18 := (B17.other (p := ⟨g16, 10, none⟩) (by show g9 ≠ g16; omega) (.int .i64 3)).other (p := ⟨g16, 8, none⟩) (by show g9 ≠ g16; omega) (.bool true)
      have C18 := (C17.other (p := ⟨g16, 10, none⟩) (by show g5 ≠ g16; omega) (.int .i64 3)).other (p := ⟨g16, 8, none⟩) (by show g5 ≠ g16; omega) (.bool true)
      have D18 := (D17.other (p := ⟨g16, 10, none⟩) (by show g13 ≠ g16; omega) (.int .i64 3)).other (p := ⟨g16, 8, none⟩) (by show g13 ≠ g16; omega) (.bool true)
      have E18 := (E17.other (p := ⟨g16, 10, none⟩) (by show g15 ≠ g16; omega) (.int .i64 3)).other (p := ⟨g16, 8, none⟩) (by show g15 ≠ g16; omega) (.bool true)
      have V18 := (V17.setCell (p := ⟨g16, 10, none⟩) S17 (.int .i64 3)).setCell (p := ⟨g16, 8, none⟩) S17 (.bool true)
      clear U17 A17 B17 C17 D17 E17 V17
      generalize (w12.setCell ⟨g16, 10, none⟩ (.int .i64 3)).setCell ⟨g16, 8, none⟩ (.bool true) = w13 at *
      go_wp2_with (first
        | (refine at_slot 81 rfl ?_; refine load_row rfl 23 _ rfl g9 rfl B18 Tryd.underlying23 rfl (by rw [HZ.out]; exact infoHead) ?_)
        | (refine at_slot 82 rfl ?_; refine load_row rfl 23 _ rfl g15 rfl E18 Tryd.underlying23 rfl (by rw [HZ.out]; exact infoHead) ?_)
        | (refine at_slot 90 rfl ?_; refine load_row rfl 23 _ rfl g11 rfl A18 Tryd.underlying23 rfl (by rw [HZ.out]; exact infoHead) ?_)
        | (refine at_slot 91 rfl ?_; refine load_row rfl 23 _ rfl g5 rfl C18 Tryd.underlying23 rfl (by rw [HZ.out]; exact infoHead) ?_)
        | (refine at_slot 99 rfl ?_; refine load_row rfl 23 _ rfl g13 rfl D18 Tryd.underlying23 rfl (by rw [HZ.out]; exact infoHead) ?_)
        | (refine at_slot 100 rfl ?_; refine load_row rfl 23 _ rfl g16 rfl U18 Tryd.underlying23 rfl (by rw [HZ.out]; exact infoHead) ?_))
      go_ret
      exact ⟨rfl, V18⟩
end Go.Proofs.YtpimaobejjpffaaDoor
