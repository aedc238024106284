/- The walk of the reference's V6. -/
import Derived.Test.YtjfipedcjahbkaaGreatDoorRefEight
import Derived.Test.YtjfipedcjahbkaaGreatDoorPlains
namespace Go.Proofs.YtjfipedcjahbkaaGreatDoor
open Go.RowKit
set_option maxRecDepth 100000 in
set_option maxHeartbeats 4000000 in
theorem refV6_calls (s : ByteArray) (w : World) (hs : s.size ≤ 100000) :
    Calls Tryz.prog 40 #[.string s] w (NewAddr (Adr.addrOf (Adr.v6 s.data.toList)) (Adr.v6 s.data.toList).isSome w) := by
  have HE := Lib.hid eight_calls
  have z1 := bytesA_zA
  have HZZ := Lib.hid (show (bytesA zA).size = 16 from rfl)
  have hc8 := fun W => eight_calls s W (by omega)
  go_enter Tryz.func40, Tryz.ntmps40
  go_wp2_with fail
  have R0 := Row.new w 43 (bytesA zA)
  have B0 := (Below.refl w.heap.size w).alloc (Nat.le_refl _) (.cells (bytesA zA) 43)
  generalize w.alloc (.cells (bytesA zA) 43) = w0 at *
  cases he : Adr.e8 s.data.toList with
  | some gs =>
    rw [he] at hc8
    have HC := Lib.hid hc8
    have HN : Hid (NewAddr (Adr.addrOf (Adr.v6 s.data.toList)) (Adr.v6 s.data.toList).isSome = NewAddr (Adr.from_ gs) true) := Lib.hid (by rw [Adr.v6_e8 he]; rfl)
    have HG := Lib.hid (show (bytesA (Adr.from_ gs)).size = 16 by rw [bytesA_size, Adr.from_length, Adr.v6_length (Adr.v6_e8 he)])
    have HD : Hid (Adr.addrOf (some gs) = Adr.from_ gs) := Lib.hid rfl
    rw [HD.out] at HC
    generalize Adr.from_ gs = G at *
    clear hc8 he HD
    refine (HC.out _).mono ?_
    rintro e w1 ⟨rfl, b1⟩
    have R1 := R0.stays b1
    have B1 := B0.trans (b1.mono B0.size)
    have s1 := B1.size
    have n1 : w.heap.size ≠ w1.heap.size := by have := R1.lt; omega
    have T1 := Row.new w1 43 (bytesA zA)
    have T2 := T1.whole (bytesA G)
    have R2 := (R1.alloc (.cells (bytesA zA) 43)).aside n1 (bytesA G)
    have B2 := below_setRow (B1.alloc s1 (.cells (bytesA zA) 43)) s1 (bytesA G)
    clear R0 B0 b1 R1 B1
    go_wp2_with (first
      | (refine at_slot 19 rfl ?_; refine load_row rfl 43 _ rfl w1.heap.size rfl T2 Tryz.underlying43 rfl (by rw [HG.out]; exact infoAddr) ?_)
      | (refine wpList_store_row rfl 43 _ _ rfl w1.heap.size (bytesA G) rfl rfl 43 _ T1 (by rw [HG.out]; exact infoAddr) (by rw [HG.out]; rfl) (bytesA_one _) ?_)
      | (refine wpList_store_row rfl 43 _ _ rfl w.heap.size (bytesA G) rfl rfl 43 _ R2 (by rw [HG.out]; exact infoAddr) (by rw [HG.out]; rfl) (bytesA_one _) ?_))
    rw [HN.out]
    exact bodyPost_ret (results_cell_two rfl _ _ w.heap.size _ _ _ rfl _ rfl (R2.whole _) Tryz.underlying43 rfl (by rw [HG.out]; exact infoAddr)) rfl ⟨rfl, below_setRow B2 (Nat.le_refl _) _⟩
  | none =>
    rw [he] at hc8
    have HC : Hid (∀ W, Calls Tryz.prog 64 #[.string s] W (NewAddr zA false W)) := Lib.hid hc8
    have HE8 := Lib.hid he
    clear hc8 he
    refine (HC.out _).mono ?_
    rintro e w1 ⟨rfl, b1⟩
    have R1 := R0.stays b1
    have B1 := B0.trans (b1.mono B0.size)
    have s1 := B1.size
    have n1 : w.heap.size ≠ w1.heap.size := by have := R1.lt; omega
    have T1 := Row.new w1 43 (bytesA zA)
    have R2 := (R1.alloc (.cells (bytesA zA) 43)).aside n1 (bytesA zA)
    have B2 := below_setRow (B1.alloc s1 (.cells (bytesA zA) 43)) s1 (bytesA zA)
    clear R0 B0 b1 R1 B1
    go_wp2_with (refine wpList_store_row rfl 43 _ _ rfl w1.heap.size (bytesA zA) rfl rfl 43 _ T1 infoAddr rfl (bytesA_one _) ?_)
    generalize (w1.alloc (.cells (bytesA zA) 43)).setRow w1.heap.size (bytesA zA) = w2 at *
    generalize w1.heap.size = n4 at *
    clear T1 s1 n1 HC
    go_loopw [6] (fun i wr => ∃ at_ : Nat, at_ ≤ s.size ∧ i = .int .i64 at_ ∧ Hid (∀ j, j < at_ → Adr.Two s.data.toList j → Adr.cand (s.data.toList.take j) (s.data.toList.drop (j + 2)) = none) ∧ Row wr w.heap.size 43 (bytesA zA) ∧ Below w.heap.size w wr) (fun i _ => s.size + 1 - (intOf i).toNat)
    case atStart => exact ⟨0, Nat.zero_le _, rfl, fun j hj => absurd hj (by omega), R2, B2⟩
    case round =>
      clear R2 B2
      obtain ⟨at_, hat, rfl, HO, R, hb⟩ := hrel
      by_cases hle : at_ + 2 ≤ s.size
      · have l0 : at_ < s.size := by omega
        have l1 : at_ + 1 < s.size := by omega
        have e1 : ((at_ : Int) + 1).toNat = at_ + 1 := by omega
        have e2 : ((at_ : Int) + 2).toNat = at_ + 2 := by omega
        have t0 : s.data.toList[at_]? = some s[at_] := by rw [List.getElem?_eq_getElem (by rw [Oct.length_bytes]; exact l0)]; rfl
        have t1 : s.data.toList[at_ + 1]? = some s[at_ + 1] := by rw [List.getElem?_eq_getElem (by rw [Oct.length_bytes]; exact l1)]; rfl
        by_cases htwo : (s[at_].toNat : Int) = 58 ∧ (s[at_ + 1].toNat : Int) = 58
        · have hTwo : Adr.Two s.data.toList at_ := by
            unfold Adr.Two
            rw [t0, t1, Oct.eq_of_toNat (a := s[at_]) (b := 58) (by have := htwo.1; show _ = 58; omega), Oct.eq_of_toNat (a := s[at_ + 1]) (b := 58) (by have := htwo.2; show _ = 58; omega)]
            exact ⟨rfl, rfl⟩
          have HT := Lib.hid hTwo
          have g1 : ((s[at_].toNat : Int) != 58) = false := by rw [htwo.1]; rfl
          have g2 : ((s[at_ + 1].toNat : Int) != 58) = false := by rw [htwo.2]; rfl
          obtain ⟨A, hA⟩ : ∃ A, A = s.data.toList.take at_ := ⟨_, rfl⟩
          obtain ⟨B, hB⟩ : ∃ B, B = s.data.toList.drop (at_ + 2) := ⟨_, rfl⟩
          have HAe := Lib.hid hA
          have HBe := Lib.hid hB
          have HV := Lib.hid (fun gs (h : Adr.cand A B = some gs) => Adr.v6_at HT.out (by rw [← hA, ← hB]; exact h))
          have hlA : A.length = at_ := by rw [hA, List.length_take, Oct.length_bytes]; omega
          have hlB : B.length = s.size - (at_ + 2) := by rw [hB, List.length_drop, Oct.length_bytes]
          have hxA : (s.extract 0 at_).data.toList = A := by rw [Lib.extract_data, hA]; simp
          have hxB : (s.extract (at_ + 2) s.size).data.toList = B := by
            rw [Lib.extract_data, hB]
            exact List.take_of_length_le (by rw [List.length_drop, Oct.length_bytes]; exact Nat.le_refl _)
          have eA : (s.extract 0 at_).toList.isEmpty = decide (A = []) := by rw [Oct.bytes_data, hxA, Bool.eq_iff_iff, List.isEmpty_iff, decide_eq_true_iff]
          have eB : (s.extract (at_ + 2) s.size).toList.isEmpty = decide (B = []) := by rw [Oct.bytes_data, hxB, Bool.eq_iff_iff, List.isEmpty_iff, decide_eq_true_iff]
          clear hA hB htwo hTwo t0 t1
          by_cases hA0 : A = [] <;> by_cases hB0 : B = []
          · rw [decide_eq_true hA0] at eA
            rw [decide_eq_true hB0] at eB
            have hFf : (s.extract 0 at_ : ByteArray).data.toList = Adr.F A := by unfold Adr.F; rw [if_pos hA0]; rw [hxA, hA0]
            have hBb : (s.extract (at_ + 2) s.size : ByteArray).data.toList = Adr.H B := by unfold Adr.H; rw [if_pos hB0]; rw [hxB, hB0]
            have hfs : (s.extract 0 at_ : ByteArray).size ≤ 100000 := by rw [← Oct.length_bytes, hFf]; unfold Adr.F; split <;> simp <;> omega
            have hbs : (s.extract (at_ + 2) s.size : ByteArray).size ≤ 100000 := by rw [← Oct.length_bytes, hBb]; unfold Adr.H; split <;> simp <;> omega
            clear hxA hxB hlA hlB
            go_wp2
            generalize (s.extract 0 at_ : ByteArray) = f at *
            generalize (s.extract (at_ + 2) s.size : ByteArray) = b at *
            have HFf := Lib.hid hFf
            have HBb := Lib.hid hBb
            clear hFf hBb
            go_loopw [9, 10] (fun z i wv => ∃ (k : Nat) (o : ByteArray), k ≤ 8 ∧ i = .int .i64 (k : Int) ∧ z = .string o ∧ Hid (o.data.toList = Adr.Z k) ∧ o.size ≤ 17 ∧ Hid (∀ j, j < k → Adr.e8 (Adr.F A ++ Adr.Z j ++ Adr.H B) = none) ∧ Row wv w.heap.size 43 (bytesA zA) ∧ Below w.heap.size w wv) (fun _ i _ => 8 - (intOf i).toNat)
            case atStart => exact ⟨0, ⟨#[48]⟩, Nat.zero_le _, rfl, rfl, rfl, by decide, fun j hj => absurd hj (by omega), R, hb⟩
            case round =>
              clear R hb
              obtain ⟨k, o, hk, rfl, rfl, HOZ, ho, HNO, R, hb⟩ := hrel
              by_cases hk8 : k < 8
              · have q1 : ¬ 9223372036854775807 < f.size + o.size := by omega
                have q2 : ¬ 9223372036854775807 < f.size + o.size + b.size := by omega
                have q3 : ¬ 9223372036854775807 < o.size + 2 := by omega
                have cs : (⟨#[58, 48]⟩ : ByteArray).size = 2 := rfl
                have hsz : (f ++ o ++ b : ByteArray).size ≤ 1048576 := by rw [ByteArray.size_append, ByteArray.size_append]; omega
                have htt : (f ++ o ++ b : ByteArray).data.toList = Adr.F A ++ Adr.Z k ++ Adr.H B := by
                  rw [ByteArray.data_append, ByteArray.data_append, Array.toList_append, Array.toList_append, HFf.out, HBb.out, HOZ.out]
                have hc := fun W => HE.out (f ++ o ++ b) W hsz
                rw [htt] at hc
                clear htt hsz
                cases he : Adr.e8 (Adr.F A ++ Adr.Z k ++ Adr.H B) with
                | some gs =>
                  rw [he] at hc
                  have HC := Lib.hid hc
                  have hv := HV.out gs (Adr.cand_some he)
                  have HN : Hid (NewAddr (Adr.addrOf (Adr.v6 s.data.toList)) (Adr.v6 s.data.toList).isSome = NewAddr (Adr.from_ gs) true) := Lib.hid (by rw [hv]; rfl)
                  have HG := Lib.hid (show (bytesA (Adr.from_ gs)).size = 16 by rw [bytesA_size, Adr.from_length, Adr.v6_length hv])
                  have HD : Hid (Adr.addrOf (some gs) = Adr.from_ gs) := Lib.hid rfl
                  rw [HD.out] at HC
                  generalize Adr.from_ gs = G at *
                  clear hc he HD hv
                  go_wp2_with fail
                  refine (HC.out _).mono ?_
                  rintro e w3 ⟨rfl, b3⟩
                  have R3 := R.stays b3
                  have B3 := hb.trans (b3.mono hb.size)
                  have s3 := B3.size
                  have n3 : w.heap.size ≠ w3.heap.size := by have := R3.lt; omega
                  have T3 := Row.new w3 43 (bytesA zA)
                  have T5 := T3.whole (bytesA G)
                  have R5 := (R3.alloc (.cells (bytesA zA) 43)).aside n3 (bytesA G)
                  have B5 := below_setRow (B3.alloc s3 (.cells (bytesA zA) 43)) s3 (bytesA G)
                  clear R hb b3 R3 B3
                  go_wp2_with (first
                    | (refine at_slot 67 rfl ?_; refine load_row rfl 43 _ rfl w3.heap.size rfl T5 Tryz.underlying43 rfl (by rw [HG.out]; exact infoAddr) ?_)
                    | (refine wpList_store_row rfl 43 _ _ rfl w3.heap.size (bytesA G) rfl rfl 43 _ T3 (by rw [HG.out]; exact infoAddr) (by rw [HG.out]; rfl) (bytesA_one _) ?_)
                    | (refine wpList_store_row rfl 43 _ _ rfl w.heap.size (bytesA G) rfl rfl 43 _ R5 (by rw [HG.out]; exact infoAddr) (by rw [HG.out]; rfl) (bytesA_one _) ?_))
                  rw [HN.out]
                  exact bodyPost_ret (results_cell_two rfl _ _ w.heap.size _ _ _ rfl _ rfl (R5.whole _) Tryz.underlying43 rfl (by rw [HG.out]; exact infoAddr)) rfl ⟨rfl, below_setRow B5 (Nat.le_refl _) _⟩
                | none =>
                  rw [he] at hc
                  have HC : Hid (∀ W, Calls Tryz.prog 64 #[.string (f ++ o ++ b)] W (NewAddr zA false W)) := Lib.hid hc
                  have HNN : Hid (∀ j, j < k + 1 → Adr.e8 (Adr.F A ++ Adr.Z j ++ Adr.H B) = none) := Lib.hid fun j hj => by
                    by_cases e : j = k
                    · rw [e]; exact he
                    · exact HNO.out j (by omega)
                  have HOO := Lib.hid (show (o ++ ⟨#[58, 48]⟩ : ByteArray).data.toList = Adr.Z (k + 1) by rw [ByteArray.data_append, Array.toList_append, HOZ.out]; rfl)
                  have HOS := Lib.hid (show (o ++ ⟨#[58, 48]⟩ : ByteArray).size ≤ 17 by rw [← Oct.length_bytes, HOO.out, Adr.Z_length]; omega)
                  clear hc he HNO HOZ
                  go_wp2_with fail
                  refine (HC.out _).mono ?_
                  rintro e w3 ⟨rfl, b3⟩
                  have R3 := R.stays b3
                  have B3 := hb.trans (b3.mono hb.size)
                  have s3 := B3.size
                  have n3 : w.heap.size ≠ w3.heap.size := by have := R3.lt; omega
                  have T3 := Row.new w3 43 (bytesA zA)
                  have R5 := (R3.alloc (.cells (bytesA zA) 43)).aside n3 (bytesA zA)
                  have B5 := below_setRow (B3.alloc s3 (.cells (bytesA zA) 43)) s3 (bytesA zA)
                  clear R hb b3 R3 B3
                  go_wp2_with (refine wpList_store_row rfl 43 _ _ rfl w3.heap.size (bytesA zA) rfl rfl 43 _ T3 infoAddr rfl (bytesA_one _) ?_)
                  go_roundw
                  case rel => exact ⟨k + 1, _, by omega, by go_num, rfl, HOO.out, HOS.out, HNN.out, R5, B5⟩
                  case measure => simp [intOf]; omega
              · have hk8' : k = 8 := by omega
                subst hk8'
                have HK : Hid (∀ j, j < at_ + 1 → Adr.Two s.data.toList j → Adr.cand (s.data.toList.take j) (s.data.toList.drop (j + 2)) = none) := Lib.hid fun j hj h2 => by
                  by_cases e : j = at_
                  · subst e
                    have := Adr.cand_none HNO.out
                    rw [HAe.out, HBe.out] at this
                    exact this
                  · exact HO.out j (by omega) h2
                clear HNO
                go_wp2
                go_roundw
                case rel => exact ⟨at_ + 1, by omega, by go_num, HK.out, R, hb⟩
                case measure => simp [intOf]; omega
          · rw [decide_eq_true hA0] at eA
            rw [decide_eq_false hB0] at eB
            have hFf : (s.extract 0 at_ : ByteArray).data.toList = Adr.F A := by unfold Adr.F; rw [if_pos hA0]; rw [hxA, hA0]
            have hBb : (⟨#[58]⟩ ++ s.extract (at_ + 2) s.size : ByteArray).data.toList = Adr.H B := by unfold Adr.H; rw [if_neg hB0]; rw [ByteArray.data_append, Array.toList_append, hxB]; rfl
            have hfs : (s.extract 0 at_ : ByteArray).size ≤ 100000 := by rw [← Oct.length_bytes, hFf]; unfold Adr.F; split <;> simp <;> omega
            have hbs : (⟨#[58]⟩ ++ s.extract (at_ + 2) s.size : ByteArray).size ≤ 100000 := by rw [← Oct.length_bytes, hBb]; unfold Adr.H; split <;> simp <;> omega
            have sb : (s.extract (at_ + 2) s.size).size = s.size - (at_ + 2) := by rw [← Oct.length_bytes, hxB, hlB]
            have pb : ¬ 9223372036854775807 < 1 + (s.extract (at_ + 2) s.size).size := by omega
            clear sb
            clear hxA hxB hlA hlB
            go_wp2
            generalize (s.extract 0 at_ : ByteArray) = f at *
            generalize (⟨#[58]⟩ ++ s.extract (at_ + 2) s.size : ByteArray) = b at *
            have HFf := Lib.hid hFf
            have HBb := Lib.hid hBb
            clear hFf hBb
            go_loopw [9, 10] (fun z i wv => ∃ (k : Nat) (o : ByteArray), k ≤ 8 ∧ i = .int .i64 (k : Int) ∧ z = .string o ∧ Hid (o.data.toList = Adr.Z k) ∧ o.size ≤ 17 ∧ Hid (∀ j, j < k → Adr.e8 (Adr.F A ++ Adr.Z j ++ Adr.H B) = none) ∧ Row wv w.heap.size 43 (bytesA zA) ∧ Below w.heap.size w wv) (fun _ i _ => 8 - (intOf i).toNat)
            case atStart => exact ⟨0, ⟨#[48]⟩, Nat.zero_le _, rfl, rfl, rfl, by decide, fun j hj => absurd hj (by omega), R, hb⟩
            case round =>
              clear R hb
              obtain ⟨k, o, hk, rfl, rfl, HOZ, ho, HNO, R, hb⟩ := hrel
              by_cases hk8 : k < 8
              · have q1 : ¬ 9223372036854775807 < f.size + o.size := by omega
                have q2 : ¬ 9223372036854775807 < f.size + o.size + b.size := by omega
                have q3 : ¬ 9223372036854775807 < o.size + 2 := by omega
                have cs : (⟨#[58, 48]⟩ : ByteArray).size = 2 := rfl
                have hsz : (f ++ o ++ b : ByteArray).size ≤ 1048576 := by rw [ByteArray.size_append, ByteArray.size_append]; omega
                have htt : (f ++ o ++ b : ByteArray).data.toList = Adr.F A ++ Adr.Z k ++ Adr.H B := by
                  rw [ByteArray.data_append, ByteArray.data_append, Array.toList_append, Array.toList_append, HFf.out, HBb.out, HOZ.out]
                have hc := fun W => HE.out (f ++ o ++ b) W hsz
                rw [htt] at hc
                clear htt hsz
                cases he : Adr.e8 (Adr.F A ++ Adr.Z k ++ Adr.H B) with
                | some gs =>
                  rw [he] at hc
                  have HC := Lib.hid hc
                  have hv := HV.out gs (Adr.cand_some he)
                  have HN : Hid (NewAddr (Adr.addrOf (Adr.v6 s.data.toList)) (Adr.v6 s.data.toList).isSome = NewAddr (Adr.from_ gs) true) := Lib.hid (by rw [hv]; rfl)
                  have HG := Lib.hid (show (bytesA (Adr.from_ gs)).size = 16 by rw [bytesA_size, Adr.from_length, Adr.v6_length hv])
                  have HD : Hid (Adr.addrOf (some gs) = Adr.from_ gs) := Lib.hid rfl
                  rw [HD.out] at HC
                  generalize Adr.from_ gs = G at *
                  clear hc he HD hv
                  go_wp2_with fail
                  refine (HC.out _).mono ?_
                  rintro e w3 ⟨rfl, b3⟩
                  have R3 := R.stays b3
                  have B3 := hb.trans (b3.mono hb.size)
                  have s3 := B3.size
                  have n3 : w.heap.size ≠ w3.heap.size := by have := R3.lt; omega
                  have T3 := Row.new w3 43 (bytesA zA)
                  have T5 := T3.whole (bytesA G)
                  have R5 := (R3.alloc (.cells (bytesA zA) 43)).aside n3 (bytesA G)
                  have B5 := below_setRow (B3.alloc s3 (.cells (bytesA zA) 43)) s3 (bytesA G)
                  clear R hb b3 R3 B3
                  go_wp2_with (first
                    | (refine at_slot 67 rfl ?_; refine load_row rfl 43 _ rfl w3.heap.size rfl T5 Tryz.underlying43 rfl (by rw [HG.out]; exact infoAddr) ?_)
                    | (refine wpList_store_row rfl 43 _ _ rfl w3.heap.size (bytesA G) rfl rfl 43 _ T3 (by rw [HG.out]; exact infoAddr) (by rw [HG.out]; rfl) (bytesA_one _) ?_)
                    | (refine wpList_store_row rfl 43 _ _ rfl w.heap.size (bytesA G) rfl rfl 43 _ R5 (by rw [HG.out]; exact infoAddr) (by rw [HG.out]; rfl) (bytesA_one _) ?_))
                  rw [HN.out]
                  exact bodyPost_ret (results_cell_two rfl _ _ w.heap.size _ _ _ rfl _ rfl (R5.whole _) Tryz.underlying43 rfl (by rw [HG.out]; exact infoAddr)) rfl ⟨rfl, below_setRow B5 (Nat.le_refl _) _⟩
                | none =>
                  rw [he] at hc
                  have HC : Hid (∀ W, Calls Tryz.prog 64 #[.string (f ++ o ++ b)] W (NewAddr zA false W)) := Lib.hid hc
                  have HNN : Hid (∀ j, j < k + 1 → Adr.e8 (Adr.F A ++ Adr.Z j ++ Adr.H B) = none) := Lib.hid fun j hj => by
                    by_cases e : j = k
                    · rw [e]; exact he
                    · exact HNO.out j (by omega)
                  have HOO := Lib.hid (show (o ++ ⟨#[58, 48]⟩ : ByteArray).data.toList = Adr.Z (k + 1) by rw [ByteArray.data_append, Array.toList_append, HOZ.out]; rfl)
                  have HOS := Lib.hid (show (o ++ ⟨#[58, 48]⟩ : ByteArray).size ≤ 17 by rw [← Oct.length_bytes, HOO.out, Adr.Z_length]; omega)
                  clear hc he HNO HOZ
                  go_wp2_with fail
                  refine (HC.out _).mono ?_
                  rintro e w3 ⟨rfl, b3⟩
                  have R3 := R.stays b3
                  have B3 := hb.trans (b3.mono hb.size)
                  have s3 := B3.size
                  have n3 : w.heap.size ≠ w3.heap.size := by have := R3.lt; omega
                  have T3 := Row.new w3 43 (bytesA zA)
                  have R5 := (R3.alloc (.cells (bytesA zA) 43)).aside n3 (bytesA zA)
                  have B5 := below_setRow (B3.alloc s3 (.cells (bytesA zA) 43)) s3 (bytesA zA)
                  clear R hb b3 R3 B3
                  go_wp2_with (refine wpList_store_row rfl 43 _ _ rfl w3.heap.size (bytesA zA) rfl rfl 43 _ T3 infoAddr rfl (bytesA_one _) ?_)
                  go_roundw
                  case rel => exact ⟨k + 1, _, by omega, by go_num, rfl, HOO.out, HOS.out, HNN.out, R5, B5⟩
                  case measure => simp [intOf]; omega
              · have hk8' : k = 8 := by omega
                subst hk8'
                have HK : Hid (∀ j, j < at_ + 1 → Adr.Two s.data.toList j → Adr.cand (s.data.toList.take j) (s.data.toList.drop (j + 2)) = none) := Lib.hid fun j hj h2 => by
                  by_cases e : j = at_
                  · subst e
                    have := Adr.cand_none HNO.out
                    rw [HAe.out, HBe.out] at this
                    exact this
                  · exact HO.out j (by omega) h2
                clear HNO
                go_wp2
                go_roundw
                case rel => exact ⟨at_ + 1, by omega, by go_num, HK.out, R, hb⟩
                case measure => simp [intOf]; omega
          · rw [decide_eq_false hA0] at eA
            rw [decide_eq_true hB0] at eB
            have hFf : (s.extract 0 at_ ++ ⟨#[58]⟩ : ByteArray).data.toList = Adr.F A := by unfold Adr.F; rw [if_neg hA0]; rw [ByteArray.data_append, Array.toList_append, hxA]
            have hBb : (s.extract (at_ + 2) s.size : ByteArray).data.toList = Adr.H B := by unfold Adr.H; rw [if_pos hB0]; rw [hxB, hB0]
            have hfs : (s.extract 0 at_ ++ ⟨#[58]⟩ : ByteArray).size ≤ 100000 := by rw [← Oct.length_bytes, hFf]; unfold Adr.F; split <;> simp <;> omega
            have hbs : (s.extract (at_ + 2) s.size : ByteArray).size ≤ 100000 := by rw [← Oct.length_bytes, hBb]; unfold Adr.H; split <;> simp <;> omega
            have sa : (s.extract 0 at_).size = at_ := by rw [← Oct.length_bytes, hxA, hlA]
            have pa : ¬ 9223372036854775807 < (s.extract 0 at_).size + 1 := by omega
            clear sa
            clear hxA hxB hlA hlB
            go_wp2
            generalize (s.extract 0 at_ ++ ⟨#[58]⟩ : ByteArray) = f at *
            generalize (s.extract (at_ + 2) s.size : ByteArray) = b at *
            have HFf := Lib.hid hFf
            have HBb := Lib.hid hBb
            clear hFf hBb
            go_loopw [9, 10] (fun z i wv => ∃ (k : Nat) (o : ByteArray), k ≤ 8 ∧ i = .int .i64 (k : Int) ∧ z = .string o ∧ Hid (o.data.toList = Adr.Z k) ∧ o.size ≤ 17 ∧ Hid (∀ j, j < k → Adr.e8 (Adr.F A ++ Adr.Z j ++ Adr.H B) = none) ∧ Row wv w.heap.size 43 (bytesA zA) ∧ Below w.heap.size w wv) (fun _ i _ => 8 - (intOf i).toNat)
            case atStart => exact ⟨0, ⟨#[48]⟩, Nat.zero_le _, rfl, rfl, rfl, by decide, fun j hj => absurd hj (by omega), R, hb⟩
            case round =>
              clear R hb
              obtain ⟨k, o, hk, rfl, rfl, HOZ, ho, HNO, R, hb⟩ := hrel
              by_cases hk8 : k < 8
              · have q1 : ¬ 9223372036854775807 < f.size + o.size := by omega
                have q2 : ¬ 9223372036854775807 < f.size + o.size + b.size := by omega
                have q3 : ¬ 9223372036854775807 < o.size + 2 := by omega
                have cs : (⟨#[58, 48]⟩ : ByteArray).size = 2 := rfl
                have hsz : (f ++ o ++ b : ByteArray).size ≤ 1048576 := by rw [ByteArray.size_append, ByteArray.size_append]; omega
                have htt : (f ++ o ++ b : ByteArray).data.toList = Adr.F A ++ Adr.Z k ++ Adr.H B := by
                  rw [ByteArray.data_append, ByteArray.data_append, Array.toList_append, Array.toList_append, HFf.out, HBb.out, HOZ.out]
                have hc := fun W => HE.out (f ++ o ++ b) W hsz
                rw [htt] at hc
                clear htt hsz
                cases he : Adr.e8 (Adr.F A ++ Adr.Z k ++ Adr.H B) with
                | some gs =>
                  rw [he] at hc
                  have HC := Lib.hid hc
                  have hv := HV.out gs (Adr.cand_some he)
                  have HN : Hid (NewAddr (Adr.addrOf (Adr.v6 s.data.toList)) (Adr.v6 s.data.toList).isSome = NewAddr (Adr.from_ gs) true) := Lib.hid (by rw [hv]; rfl)
                  have HG := Lib.hid (show (bytesA (Adr.from_ gs)).size = 16 by rw [bytesA_size, Adr.from_length, Adr.v6_length hv])
                  have HD : Hid (Adr.addrOf (some gs) = Adr.from_ gs) := Lib.hid rfl
                  rw [HD.out] at HC
                  generalize Adr.from_ gs = G at *
                  clear hc he HD hv
                  go_wp2_with fail
                  refine (HC.out _).mono ?_
                  rintro e w3 ⟨rfl, b3⟩
                  have R3 := R.stays b3
                  have B3 := hb.trans (b3.mono hb.size)
                  have s3 := B3.size
                  have n3 : w.heap.size ≠ w3.heap.size := by have := R3.lt; omega
                  have T3 := Row.new w3 43 (bytesA zA)
                  have T5 := T3.whole (bytesA G)
                  have R5 := (R3.alloc (.cells (bytesA zA) 43)).aside n3 (bytesA G)
                  have B5 := below_setRow (B3.alloc s3 (.cells (bytesA zA) 43)) s3 (bytesA G)
                  clear R hb b3 R3 B3
                  go_wp2_with (first
                    | (refine at_slot 67 rfl ?_; refine load_row rfl 43 _ rfl w3.heap.size rfl T5 Tryz.underlying43 rfl (by rw [HG.out]; exact infoAddr) ?_)
                    | (refine wpList_store_row rfl 43 _ _ rfl w3.heap.size (bytesA G) rfl rfl 43 _ T3 (by rw [HG.out]; exact infoAddr) (by rw [HG.out]; rfl) (bytesA_one _) ?_)
                    | (refine wpList_store_row rfl 43 _ _ rfl w.heap.size (bytesA G) rfl rfl 43 _ R5 (by rw [HG.out]; exact infoAddr) (by rw [HG.out]; rfl) (bytesA_one _) ?_))
                  rw [HN.out]
                  exact bodyPost_ret (results_cell_two rfl _ _ w.heap.size _ _ _ rfl _ rfl (R5.whole _) Tryz.underlying43 rfl (by rw [HG.out]; exact infoAddr)) rfl ⟨rfl, below_setRow B5 (Nat.le_refl _) _⟩
                | none =>
                  rw [he] at hc
                  have HC : Hid (∀ W, Calls Tryz.prog 64 #[.string (f ++ o ++ b)] W (NewAddr zA false W)) := Lib.hid hc
                  have HNN : Hid (∀ j, j < k + 1 → Adr.e8 (Adr.F A ++ Adr.Z j ++ Adr.H B) = none) := Lib.hid fun j hj => by
                    by_cases e : j = k
                    · rw [e]; exact he
                    · exact HNO.out j (by omega)
                  have HOO := Lib.hid (show (o ++ ⟨#[58, 48]⟩ : ByteArray).data.toList = Adr.Z (k + 1) by rw [ByteArray.data_append, Array.toList_append, HOZ.out]; rfl)
                  have HOS := Lib.hid (show (o ++ ⟨#[58, 48]⟩ : ByteArray).size ≤ 17 by rw [← Oct.length_bytes, HOO.out, Adr.Z_length]; omega)
                  clear hc he HNO HOZ
                  go_wp2_with fail
                  refine (HC.out _).mono ?_
                  rintro e w3 ⟨rfl, b3⟩
                  have R3 := R.stays b3
                  have B3 := hb.trans (b3.mono hb.size)
                  have s3 := B3.size
                  have n3 : w.heap.size ≠ w3.heap.size := by have := R3.lt; omega
                  have T3 := Row.new w3 43 (bytesA zA)
                  have R5 := (R3.alloc (.cells (bytesA zA) 43)).aside n3 (bytesA zA)
                  have B5 := below_setRow (B3.alloc s3 (.cells (bytesA zA) 43)) s3 (bytesA zA)
                  clear R hb b3 R3 B3
                  go_wp2_with (refine wpList_store_row rfl 43 _ _ rfl w3.heap.size (bytesA zA) rfl rfl 43 _ T3 infoAddr rfl (bytesA_one _) ?_)
                  go_roundw
                  case rel => exact ⟨k + 1, _, by omega, by go_num, rfl, HOO.out, HOS.out, HNN.out, R5, B5⟩
                  case measure => simp [intOf]; omega
              · have hk8' : k = 8 := by omega
                subst hk8'
                have HK : Hid (∀ j, j < at_ + 1 → Adr.Two s.data.toList j → Adr.cand (s.data.toList.take j) (s.data.toList.drop (j + 2)) = none) := Lib.hid fun j hj h2 => by
                  by_cases e : j = at_
                  · subst e
                    have := Adr.cand_none HNO.out
                    rw [HAe.out, HBe.out] at this
                    exact this
                  · exact HO.out j (by omega) h2
                clear HNO
                go_wp2
                go_roundw
                case rel => exact ⟨at_ + 1, by omega, by go_num, HK.out, R, hb⟩
                case measure => simp [intOf]; omega
          · rw [decide_eq_false hA0] at eA
            rw [decide_eq_false hB0] at eB
            have hFf : (s.extract 0 at_ ++ ⟨#[58]⟩ : ByteArray).data.toList = Adr.F A := by unfold Adr.F; rw [if_neg hA0]; rw [ByteArray.data_append, Array.toList_append, hxA]
            have hBb : (⟨#[58]⟩ ++ s.extract (at_ + 2) s.size : ByteArray).data.toList = Adr.H B := by unfold Adr.H; rw [if_neg hB0]; rw [ByteArray.data_append, Array.toList_append, hxB]; rfl
            have hfs : (s.extract 0 at_ ++ ⟨#[58]⟩ : ByteArray).size ≤ 100000 := by rw [← Oct.length_bytes, hFf]; unfold Adr.F; split <;> simp <;> omega
            have hbs : (⟨#[58]⟩ ++ s.extract (at_ + 2) s.size : ByteArray).size ≤ 100000 := by rw [← Oct.length_bytes, hBb]; unfold Adr.H; split <;> simp <;> omega
            have sa : (s.extract 0 at_).size = at_ := by rw [← Oct.length_bytes, hxA, hlA]
            have pa : ¬ 9223372036854775807 < (s.extract 0 at_).size + 1 := by omega
            clear sa
            have sb : (s.extract (at_ + 2) s.size).size = s.size - (at_ + 2) := by rw [← Oct.length_bytes, hxB, hlB]
            have pb : ¬ 9223372036854775807 < 1 + (s.extract (at_ + 2) s.size).size := by omega
            clear sb
            clear hxA hxB hlA hlB
            go_wp2
            generalize (s.extract 0 at_ ++ ⟨#[58]⟩ : ByteArray) = f at *
            generalize (⟨#[58]⟩ ++ s.extract (at_ + 2) s.size : ByteArray) = b at *
            have HFf := Lib.hid hFf
            have HBb := Lib.hid hBb
            clear hFf hBb
            go_loopw [9, 10] (fun z i wv => ∃ (k : Nat) (o : ByteArray), k ≤ 8 ∧ i = .int .i64 (k : Int) ∧ z = .string o ∧ Hid (o.data.toList = Adr.Z k) ∧ o.size ≤ 17 ∧ Hid (∀ j, j < k → Adr.e8 (Adr.F A ++ Adr.Z j ++ Adr.H B) = none) ∧ Row wv w.heap.size 43 (bytesA zA) ∧ Below w.heap.size w wv) (fun _ i _ => 8 - (intOf i).toNat)
            case atStart => exact ⟨0, ⟨#[48]⟩, Nat.zero_le _, rfl, rfl, rfl, by decide, fun j hj => absurd hj (by omega), R, hb⟩
            case round =>
              clear R hb
              obtain ⟨k, o, hk, rfl, rfl, HOZ, ho, HNO, R, hb⟩ := hrel
              by_cases hk8 : k < 8
              · have q1 : ¬ 9223372036854775807 < f.size + o.size := by omega
                have q2 : ¬ 9223372036854775807 < f.size + o.size + b.size := by omega
                have q3 : ¬ 9223372036854775807 < o.size + 2 := by omega
                have cs : (⟨#[58, 48]⟩ : ByteArray).size = 2 := rfl
                have hsz : (f ++ o ++ b : ByteArray).size ≤ 1048576 := by rw [ByteArray.size_append, ByteArray.size_append]; omega
                have htt : (f ++ o ++ b : ByteArray).data.toList = Adr.F A ++ Adr.Z k ++ Adr.H B := by
                  rw [ByteArray.data_append, ByteArray.data_append, Array.toList_append, Array.toList_append, HFf.out, HBb.out, HOZ.out]
                have hc := fun W => HE.out (f ++ o ++ b) W hsz
                rw [htt] at hc
                clear htt hsz
                cases he : Adr.e8 (Adr.F A ++ Adr.Z k ++ Adr.H B) with
                | some gs =>
                  rw [he] at hc
                  have HC := Lib.hid hc
                  have hv := HV.out gs (Adr.cand_some he)
                  have HN : Hid (NewAddr (Adr.addrOf (Adr.v6 s.data.toList)) (Adr.v6 s.data.toList).isSome = NewAddr (Adr.from_ gs) true) := Lib.hid (by rw [hv]; rfl)
                  have HG := Lib.hid (show (bytesA (Adr.from_ gs)).size = 16 by rw [bytesA_size, Adr.from_length, Adr.v6_length hv])
                  have HD : Hid (Adr.addrOf (some gs) = Adr.from_ gs) := Lib.hid rfl
                  rw [HD.out] at HC
                  generalize Adr.from_ gs = G at *
                  clear hc he HD hv
                  go_wp2_with fail
                  refine (HC.out _).mono ?_
                  rintro e w3 ⟨rfl, b3⟩
                  have R3 := R.stays b3
                  have B3 := hb.trans (b3.mono hb.size)
                  have s3 := B3.size
                  have n3 : w.heap.size ≠ w3.heap.size := by have := R3.lt; omega
                  have T3 := Row.new w3 43 (bytesA zA)
                  have T5 := T3.whole (bytesA G)
                  have R5 := (R3.alloc (.cells (bytesA zA) 43)).aside n3 (bytesA G)
                  have B5 := below_setRow (B3.alloc s3 (.cells (bytesA zA) 43)) s3 (bytesA G)
                  clear R hb b3 R3 B3
                  go_wp2_with (first
                    | (refine at_slot 67 rfl ?_; refine load_row rfl 43 _ rfl w3.heap.size rfl T5 Tryz.underlying43 rfl (by rw [HG.out]; exact infoAddr) ?_)
                    | (refine wpList_store_row rfl 43 _ _ rfl w3.heap.size (bytesA G) rfl rfl 43 _ T3 (by rw [HG.out]; exact infoAddr) (by rw [HG.out]; rfl) (bytesA_one _) ?_)
                    | (refine wpList_store_row rfl 43 _ _ rfl w.heap.size (bytesA G) rfl rfl 43 _ R5 (by rw [HG.out]; exact infoAddr) (by rw [HG.out]; rfl) (bytesA_one _) ?_))
                  rw [HN.out]
                  exact bodyPost_ret (results_cell_two rfl _ _ w.heap.size _ _ _ rfl _ rfl (R5.whole _) Tryz.underlying43 rfl (by rw [HG.out]; exact infoAddr)) rfl ⟨rfl, below_setRow B5 (Nat.le_refl _) _⟩
                | none =>
                  rw [he] at hc
                  have HC : Hid (∀ W, Calls Tryz.prog 64 #[.string (f ++ o ++ b)] W (NewAddr zA false W)) := Lib.hid hc
                  have HNN : Hid (∀ j, j < k + 1 → Adr.e8 (Adr.F A ++ Adr.Z j ++ Adr.H B) = none) := Lib.hid fun j hj => by
                    by_cases e : j = k
                    · rw [e]; exact he
                    · exact HNO.out j (by omega)
                  have HOO := Lib.hid (show (o ++ ⟨#[58, 48]⟩ : ByteArray).data.toList = Adr.Z (k + 1) by rw [ByteArray.data_append, Array.toList_append, HOZ.out]; rfl)
                  have HOS := Lib.hid (show (o ++ ⟨#[58, 48]⟩ : ByteArray).size ≤ 17 by rw [← Oct.length_bytes, HOO.out, Adr.Z_length]; omega)
                  clear hc he HNO HOZ
                  go_wp2_with fail
                  refine (HC.out _).mono ?_
                  rintro e w3 ⟨rfl, b3⟩
                  have R3 := R.stays b3
                  have B3 := hb.trans (b3.mono hb.size)
                  have s3 := B3.size
                  have n3 : w.heap.size ≠ w3.heap.size := by have := R3.lt; omega
                  have T3 := Row.new w3 43 (bytesA zA)
                  have R5 := (R3.alloc (.cells (bytesA zA) 43)).aside n3 (bytesA zA)
                  have B5 := below_setRow (B3.alloc s3 (.cells (bytesA zA) 43)) s3 (bytesA zA)
                  clear R hb b3 R3 B3
                  go_wp2_with (refine wpList_store_row rfl 43 _ _ rfl w3.heap.size (bytesA zA) rfl rfl 43 _ T3 infoAddr rfl (bytesA_one _) ?_)
                  go_roundw
                  case rel => exact ⟨k + 1, _, by omega, by go_num, rfl, HOO.out, HOS.out, HNN.out, R5, B5⟩
                  case measure => simp [intOf]; omega
              · have hk8' : k = 8 := by omega
                subst hk8'
                have HK : Hid (∀ j, j < at_ + 1 → Adr.Two s.data.toList j → Adr.cand (s.data.toList.take j) (s.data.toList.drop (j + 2)) = none) := Lib.hid fun j hj h2 => by
                  by_cases e : j = at_
                  · subst e
                    have := Adr.cand_none HNO.out
                    rw [HAe.out, HBe.out] at this
                    exact this
                  · exact HO.out j (by omega) h2
                clear HNO
                go_wp2
                go_roundw
                case rel => exact ⟨at_ + 1, by omega, by go_num, HK.out, R, hb⟩
                case measure => simp [intOf]; omega
        · have HK : Hid (∀ j, j < at_ + 1 → Adr.Two s.data.toList j → Adr.cand (s.data.toList.take j) (s.data.toList.drop (j + 2)) = none) := Lib.hid fun j hj h2 => by
            by_cases e : j = at_
            · subst e
              refine absurd ?_ htwo
              rw [h2.1] at t0
              rw [h2.2] at t1
              rw [← Option.some.inj t0, ← Option.some.inj t1]
              exact ⟨rfl, rfl⟩
            · exact HO.out j (by omega) h2
          have hor : ((s[at_].toNat : Int) != 58) = true ∨ (((s[at_].toNat : Int) != 58) = false ∧ ((s[at_ + 1].toNat : Int) != 58) = true) := by
            by_cases h : (s[at_].toNat : Int) = 58
            · right
              exact ⟨by rw [h]; rfl, by rw [bne_iff_ne]; exact fun k => htwo ⟨h, k⟩⟩
            · left; rw [bne_iff_ne]; exact h
          clear htwo t0 t1
          rcases hor with g1 | ⟨g1, g2⟩
          all_goals
            go_wp2
            go_roundw
            case rel => exact ⟨at_ + 1, by omega, by go_num, HK.out, R, hb⟩
            case measure => simp [intOf]; omega
      · have HN : Hid (NewAddr (Adr.addrOf (Adr.v6 s.data.toList)) (Adr.v6 s.data.toList).isSome = NewAddr zA false) := Lib.hid (by
          rw [Adr.v6_end HE8.out fun j h2 => HO.out j (by have := (List.getElem?_eq_some_iff.1 h2.2).1; rw [Oct.length_bytes] at this; omega) h2]; rfl)
        go_wp2_with (refine wpList_store_row rfl 43 _ _ rfl w.heap.size (bytesA zA) rfl rfl 43 _ R infoAddr rfl (bytesA_one _) ?_)
        rw [HN.out]
        exact bodyPost_ret (results_cell_two rfl _ _ w.heap.size _ _ _ rfl _ rfl (R.whole _) Tryz.underlying43 rfl infoAddr) rfl ⟨rfl, below_setRow hb (Nat.le_refl _) _⟩
end Go.Proofs.YtjfipedcjahbkaaGreatDoor
