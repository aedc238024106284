/- The walk of the law HeaderNames. -/
import Derived.Test.YtpimaobejjpffaaDoorHeaderBackWalk
import Derived.Test.YtpimaobejjpffaaDoorOctets
namespace Go.Proofs.YtpimaobejjpffaaDoor
open Go.RowKit
/-- The first k of 4096 bytes are the letter x. -/
def exes (k : Nat) : List UInt8 := List.replicate k 120 ++ List.replicate (4096 - k) 0
theorem exes_length {k : Nat} (h : k ≤ 4096) : (exes k).length = 4096 := by simp [exes]; omega
theorem exes_set {k : Nat} (h : k < 4096) : (exes k).set k 120 = exes (k + 1) := by
  unfold exes
  rw [List.set_append_right _ _ (by simp), List.length_replicate, Nat.sub_self, show 4096 - k = (4096 - (k + 1)) + 1 by omega, List.replicate_succ, List.set_cons_zero, List.replicate_succ', List.append_assoc]
  rfl
theorem exes_end : exes 4096 = List.replicate 4096 120 := by unfold exes; rw [Nat.sub_self, List.replicate_zero, List.append_nil]
theorem make_bytes (n : Nat) (hn : n ≤ 1099511627777) (W : World) :
    (Instr.makeSlice 27 (.int .i64 (n : Int)) (.int .i64 (n : Int))).run Tryd.prog W = .ok (.slice (some ⟨W.heap.size, 0, none⟩) n n) (W.alloc (.cells (bytesA (List.replicate n 0)) 5)) := by
  have h := make_one Tryd.underlying27 infoByte rfl n (by omega) (by omega) W
  have e : (List.replicate n (Value.int .u8 0)).toArray = bytesA (List.replicate n 0) := by simp [bytesA, byteV]
  rw [e] at h
  exact h
theorem row_text {W : World} {g cap : Nat} {l : List UInt8} (h : Row W g 5 (bytesA l)) : (convert 27 9 (.slice (some ⟨g, 0, none⟩) l.length cap)).run Tryd.prog W = .ok (.string ⟨l.toArray⟩) W := by
  refine run_convert_bytes_back W 27 9 5 ⟨g, 0, none⟩ cap l Tryd.underlying27 Tryd.underlying5 Tryd.underlying9 (fun j hj => ?_)
  have hadd : (⟨g, 0, none⟩ : Addr).add j = ⟨g, j, none⟩ := by unfold Addr.add; split <;> simp_all
  rw [hadd, h.cell, bytesA_at, List.getElem?_eq_getElem hj]; rfl
set_option maxRecDepth 100000 in
set_option maxHeartbeats 16000000 in
theorem hnames_walk (w : World) (hw : Hal w) :
    Calls Tryd.prog 3 #[] w fun e w' => e = .returned (.bool true) ∧ Below w.heap.size w w' := by
  have z0 := zeroHead
  have HZ : Hid (∀ h : Hd.Head, (headA h).size = 11) := Lib.hid (fun h => rfl)
  have HA := Lib.hid (fun W hW => header_alive W hW)
  have H1 := Lib.hid (fun W hW => parse_calls_is ⟨#[97, 61, 98, 10]⟩ (n := 81) (h := Hd.zero) Hd.parse_control W hW (by decide))
  have H2 := Lib.hid (fun W hW => parse_calls_is ⟨#[32, 61, 32, 59, 32, 80, 97, 116, 104, 61, 47]⟩ (n := 82) (h := Hd.zero) Hd.parse_empty W hW (by decide))
  obtain ⟨l1, l2⟩ := Hd.parse_long (l := List.replicate 4096 120) (fun c hc => (List.mem_replicate.1 hc).2) (List.length_replicate ..)
  obtain ⟨t, ht⟩ : ∃ t : ByteArray, (⟨(List.replicate 4096 120).toArray⟩ : ByteArray) = t := ⟨_, rfl⟩
  have hts : t.size = 4096 := by rw [← ht, size_mk]; exact List.length_replicate ..
  have htd : t.data.toList = List.replicate 4096 120 := by rw [← ht]
  have HT := Lib.hid ht
  clear ht
  have H3 := Lib.hid (fun W hW => parse_calls_is (⟨#[97, 61]⟩ ++ t) (n := 83) (h := Hd.zero) (by
    have e : (⟨#[97, 61]⟩ ++ t : ByteArray).data.toList = 97 :: 61 :: List.replicate 4096 120 := by rw [← htd]; simp [ByteArray.data_append]
    rw [e]; exact l1) W hW (by rw [ByteArray.size_append, hts]; decide))
  have H4 := Lib.hid (fun W hW => parse_calls_is (⟨#[61]⟩ ++ t) (n := 0) (h := { Hd.zero with value := List.replicate 4096 120 }) (by
    have e : (⟨#[61]⟩ ++ t : ByteArray).data.toList = 61 :: List.replicate 4096 120 := by rw [← htd]; simp [ByteArray.data_append]
    rw [e]; exact l2) W hW (by rw [ByteArray.size_append, hts]; decide))
  have hval : (headA { Hd.zero with value := List.replicate 4096 120 })[1]? = some (.string t) := by
    show some (Value.string ⟨(List.replicate 4096 120).toArray⟩) = _
    rw [HT.out]
  have HV := Lib.hid hval
  obtain ⟨hl, hhl⟩ : ∃ x : Hd.Head, { Hd.zero with value := List.replicate 4096 120 } = x := ⟨_, rfl⟩
  rw [hhl] at H4 HV
  clear l1 l2 htd hval hhl
  go_enter Tryd.func3, Tryd.ntmps3
  go_wp2_with fail
  refine (H1.out _ hw).mono ?_
  rintro e w1 ⟨rfl, b1⟩
  obtain ⟨T1, U1, V1, W1⟩ := lay_row 23 (headA Hd.zero) (headA Hd.zero) b1 b1.size
  go_wp2_with (refine wpList_store_row rfl 23 _ _ rfl w1.heap.size (headA Hd.zero) rfl rfl 23 _ T1 (by rw [HZ.out]; exact infoHead) rfl (headA_one _) ?_)
  clear T1 U1 W1 b1
  have HW2 := hw.below V1
  generalize (w1.alloc (.cells (headA Hd.zero) 23)).setRow w1.heap.size (headA Hd.zero) = w2 at *
  generalize w1.heap.size = g1 at *
  refine (H2.out _ HW2).mono ?_
  rintro e w3 ⟨rfl, b3⟩
  have V3 := V1.trans (b3.mono V1.size)
  obtain ⟨T4, U4, V4, W4⟩ := lay_row 23 (headA Hd.zero) (headA Hd.zero) V3 V3.size
  have hmk := make_bytes 4096 (by omega)
  go_upto_region 3 with (refine wpList_store_row rfl 23 _ _ rfl w3.heap.size (headA Hd.zero) rfl rfl 23 _ T4 (by rw [HZ.out]; exact infoHead) rfl (headA_one _) ?_)
  clear T4 U4 W4 b3 V1 V3 HW2
  generalize (w3.alloc (.cells (headA Hd.zero) 23)).setRow w3.heap.size (headA Hd.zero) = w4 at *
  generalize w3.heap.size = g3 at *
  have hx0 : List.replicate 4096 (0 : UInt8) = exes 0 := by unfold exes; rw [List.replicate_zero, Nat.sub_zero, List.nil_append]
  rw [hx0] at hmk
  have hmk4 : (Instr.makeSlice 27 (.int .i64 4096) (.int .i64 4096)).run Tryd.prog w4 = .ok (.slice (some ⟨w4.heap.size, 0, none⟩) 4096 4096) (w4.alloc (.cells (bytesA (exes 0)) 5)) := hmk w4
  have R5 := Row.new w4 5 (bytesA (exes 0))
  have V5 := V4.alloc V4.size (.cells (bytesA (exes 0)) 5)
  have S5 := V4.size
  clear hmk hx0
  go_upto_region 4 with fail
  generalize w4.alloc (.cells (bytesA (exes 0)) 5) = w5 at *
  generalize w4.heap.size = g5 at *
  clear V4 hmk4
  go_wp2
  go_loopw [22] (fun i wr => ∃ k : Nat, k ≤ 4096 ∧ i = .int .i64 k ∧ Row wr g5 5 (bytesA (exes k)) ∧ Below w.heap.size w wr) (fun i _ => 4096 - (intOf i).toNat)
  case atStart => exact ⟨0, Nat.zero_le _, rfl, R5, V5⟩
  case round =>
    clear R5 V5
    obtain ⟨k, hk, rfl, R, V⟩ := hrel
    by_cases hlt : k < 4096
    · have hki : (k : Int) < 4096 := by omega
      obtain ⟨v, q⟩ : ∃ v, wr.cell? ⟨g5, k, none⟩ = some v := ⟨_, by rw [R.cell, bytesA_at, List.getElem?_eq_getElem (by rw [exes_length hk]; exact hlt)]; rfl⟩
      have f := R.free k
      have R2 := R.set k (byteV 120)
      rw [bytesA_set, exes_set hlt] at R2
      have V2 := V.setCell (p := ⟨g5, k, none⟩) S5 (byteV 120)
      have e120 : byteV 120 = .int .u8 120 := rfl
      rw [e120] at R2 V2
      go_wp2
      go_roundw
      case rel => exact ⟨k + 1, by omega, by go_num, R2, V2⟩
      case measure => simp [intOf]; omega
    · have hk4 : k = 4096 := by omega
      subst hk4
      rw [exes_end] at R
      have hlen : (List.replicate 4096 (120 : UInt8)).length = 4096 := List.length_replicate ..
      have HC : Hid (∀ W, Row W g5 5 (bytesA (List.replicate 4096 120)) → (convert 27 9 (.slice (some ⟨g5, 0, none⟩) 4096 4096)).run Tryd.prog W = .ok (.string t) W) := Lib.hid (fun W hR => by
        have := row_text (cap := 4096) hR
        rw [hlen, HT.out] at this
        exact this)
      generalize bytesA (List.replicate 4096 120) = X at *
      have h6 := HC.out wr R
      have hz2 : (⟨#[97, 61]⟩ : ByteArray).size = 2 := rfl
      have hz1 : (⟨#[61]⟩ : ByteArray).size = 1 := rfl
      have p1 : ¬ 9223372036854775807 < 2 + t.size := by omega
      have p2 : ¬ 9223372036854775807 < 1 + t.size := by omega
      clear hlen HT
      go_wp2_with fail
      refine (H3.out _ (hw.below V)).mono ?_
      rintro e w7 ⟨rfl, b7⟩
      have R7 := R.stays b7
      have V7 := V.trans (b7.mono V.size)
      clear h6 R V
      obtain ⟨T8, U8, V8, W8⟩ := lay_row 23 (headA Hd.zero) (headA Hd.zero) V7 V7.size
      have R8 := W8 _ _ _ R7
      go_upto_region 10 with (refine wpList_store_row rfl 23 _ _ rfl w7.heap.size (headA Hd.zero) rfl rfl 23 _ T8 (by rw [HZ.out]; exact infoHead) rfl (headA_one _) ?_)
      clear T8 U8 W8 R7 V7 b7
      generalize (w7.alloc (.cells (headA Hd.zero) 23)).setRow w7.heap.size (headA Hd.zero) = w8 at *
      generalize w7.heap.size = g7 at *
      have h8 := HC.out w8 R8
      go_wp2_with fail
      refine (H4.out _ (hw.below V8)).mono ?_
      rintro e w9 ⟨rfl, b9⟩
      have R9 := R8.stays b9
      have V9 := V8.trans (b9.mono V8.size)
      clear h8 R8 V8
      obtain ⟨T10, U10, V10, W10⟩ := lay_row 23 (headA Hd.zero) (headA hl) V9 V9.size
      have R10 := W10 _ _ _ R9
      go_upto_region 11 with (refine wpList_store_row rfl 23 _ _ rfl w9.heap.size (headA hl) rfl rfl 23 _ T10 (by rw [HZ.out]; exact infoHead) rfl (headA_one _) ?_)
      clear T10 W10 R9 V9 b9
      generalize (w9.alloc (.cells (headA Hd.zero) 23)).setRow w9.heap.size (headA hl) = w10 at *
      generalize w9.heap.size = g9 at *
      go_wp2_with fail
      refine (HA.out _ (hw.below V10)).mono ?_
      rintro e w11 ⟨rfl, b11⟩
      have R11 := R10.stays b11
      have U11 := U10.stays b11
      have V11 := V10.trans (b11.mono V10.size)
      have q1 := (U11.cell 1).trans HV.out
      have h11 := HC.out w11 R11
      clear R10 U10 V10 b11
      go_wp2
      go_ret
      exact ⟨rfl, V11⟩
end Go.Proofs.YtpimaobejjpffaaDoor
