/- The walk of the law DfaNames. -/
import Derived.Test.YtdidogcgoghdmaaDfaAlive
import Derived.Test.YtdidogcgoghdmaaDfaSmall
import Derived.Test.YtdidogcgoghdmaaDfaNot
namespace Go.Proofs.Ytdidogcgoghdmaa
open Go.RowKit
set_option maxRecDepth 100000 in
set_option maxHeartbeats 8000000 in
theorem dnames_walk (w : World) : Calls Try.prog 3 #[] w fun e w' => e = .returned (.bool true) ∧ Below w.heap.size w w' := by
  have HAL := Lib.hid alive_calls15
  have HN0 := Lib.hid ((dnone_calls 0 w).mono fun e w' h => (by rw [if_neg (by decide)] at h; exact h : NewAuto w Au.Dv.zero 151 e w'))
  have HN5 : Hid (∀ W, Calls Try.prog 9 #[.int .i64 512] W (NewAuto W (Au.Dv.of (Au.noneFa 512)) 0)) := Lib.hid (fun W => (dnone_calls 512 W).mono fun e w' h => (by rw [if_pos (by decide)] at h; exact h))
  have HW : Hid (∀ U W, Nums W U [1, 3] → Calls Try.prog 10 #[.int .i64 3, U] W (NewAuto W Au.Dv.zero 151)) := Lib.hid (fun U W h => (word_calls 3 U [1, 3] W h (by decide)).mono fun e w' h => (by
    rcases h with ⟨h0, _⟩ | ⟨_, h1⟩
    · exact absurd h0 (by decide)
    · exact h1))
  have HB : Hid (∀ U W, Nums W U [] → Calls Try.prog 11 #[.int .i64 513, U] W (NewAuto W Au.Dv.zero 151)) := Lib.hid (fun U W h => (begins_calls15 513 U [] W h (by decide)).mono fun e w' h => (by
    rcases h with ⟨h0, _⟩ | ⟨_, h1⟩
    · exact absurd h0 (by decide)
    · exact h1))
  have HNT : Hid (∀ V W, Auto W V Au.Dv.zero → Calls Try.prog 12 #[V] W (NewAuto W Au.Dv.zero 151)) := Lib.hid (fun V W h => (not_calls V Au.Dv.zero W h).mono fun e w' h => (by
    exact h.1 (fun o => absurd o.k1 (by decide))))
  have HT : Hid (∀ V U W, Auto W V (Au.Dv.of (Au.noneFa 512)) → Nums W U [] → Calls Try.prog 14 #[V, U] W fun e w' => e = .returned (.bool false) ∧ Below W.heap.size W w') := Lib.hid (fun V U W h hx => by
    have := dtells_calls V U _ [] W h hx (by decide)
    rw [Au.none_tells (by decide) (by decide)] at this
    exact this)
  go_enter Try.func3, Try.ntmps3
  go_wp2_with fail
  refine HN0.out.mono ?_
  rintro e y1 hnew
  obtain ⟨k1, s1, A1, n1, c1, E1, m1, d1, w1, rfl, N1, W1, R1, V1, D1, L1, Z1⟩ := hnew.laid
  clear hnew
  have T1 := W1.out.symm ▸ R1
  have B1 := D1.alloc D1.size (.cells #[.int .i64 1, .int .i64 3] 3)
  go_wp2_with (first
    | (refine wpList_store_row rfl 25 _ _ rfl y1.heap.size #[.int .i64 k1, .int .i64 s1, .slice A1 n1 c1, .slice E1 m1 d1] rfl rfl 25 _ N1 infoDfa rfl (slices_one _ _ _ _ _ _ _ _) ?_)
    )
  rw [W1.out]
  refine (HW.out _ _ (nums_next (w := w1) [1, 3] Z1.out)).mono ?_
  clear R1 T1 D1 N1 V1
  rintro e y2 hnew
  obtain ⟨k2, s2, A2, n2, c2, E2, m2, d2, w2, rfl, N2, W2, R2, V2, D2, L2, Z2⟩ := hnew.laid
  clear hnew
  have T2 := W2.out.symm ▸ R2
  have C2 := B1.trans (D2.mono B1.size)
  clear R2 D2 V2 B1
  go_wp2_with (first
    | (refine wpList_store_row rfl 25 _ _ rfl y2.heap.size #[.int .i64 k2, .int .i64 s2, .slice A2 n2 c2, .slice E2 m2 d2] rfl rfl 25 _ N2 infoDfa rfl (slices_one _ _ _ _ _ _ _ _) ?_)
    )
  rw [W2.out]
  refine (HB.out _ _ (nums_nil _)).mono ?_
  clear T2 N2
  rintro e y3 hnew
  obtain ⟨k3, s3, A3, n3, c3, E3, m3, d3, w3, rfl, N3, W3, R3, V3, D3, L3, Z3⟩ := hnew.laid
  clear hnew
  have T3 := W3.out.symm ▸ R3
  have C3 := C2.trans (D3.mono C2.size)
  clear R3 D3 V3 C2
  go_wp2_with (first
    | (refine wpList_store_row rfl 25 _ _ rfl y3.heap.size #[.int .i64 k3, .int .i64 s3, .slice A3 n3 c3, .slice E3 m3 d3] rfl rfl 25 _ N3 infoDfa rfl (slices_one _ _ _ _ _ _ _ _) ?_)
    )
  rw [W3.out]
  refine (HNT.out _ _ (zero_auto w3)).mono ?_
  clear T3 N3
  rintro e y4 hnew
  obtain ⟨k4, s4, A4, n4, c4, E4, m4, d4, w4, rfl, N4, W4, R4, V4, D4, L4, Z4⟩ := hnew.laid
  clear hnew
  have T4 := W4.out.symm ▸ R4
  have C4 := C3.trans (D4.mono C3.size)
  clear R4 D4 V4 C3
  go_wp2_with (first
    | (refine wpList_store_row rfl 25 _ _ rfl y4.heap.size #[.int .i64 k4, .int .i64 s4, .slice A4 n4 c4, .slice E4 m4 d4] rfl rfl 25 _ N4 infoDfa rfl (slices_one _ _ _ _ _ _ _ _) ?_)
    )
  rw [W4.out]
  refine (HN5.out _).mono ?_
  clear T4 N4
  rintro e y5 hnew
  obtain ⟨k5, s5, A5, n5, c5, E5, m5, d5, w5, rfl, N5, W5, R5, V5, D5, L5, Z5⟩ := hnew.laid
  clear hnew
  have T5 := W5.out.symm ▸ R5
  have C5 := C4.trans (D5.mono C4.size)
  clear D5 C4
  go_wp2_with (first
    | (refine wpList_store_row rfl 25 _ _ rfl y5.heap.size #[.int .i64 k5, .int .i64 s5, .slice A5 n5 c5, .slice E5 m5 d5] rfl rfl 25 _ N5 infoDfa rfl (slices_one _ _ _ _ _ _ _ _) ?_)
    )
  rw [W5.out]
  have hm : m5 = 1 := L5.out.2
  subst hm
  refine (HAL.out _).mono ?_
  rintro e w6 ⟨rfl, hb⟩
  have R6 := R5.stays hb
  have V6 := Lib.hid (V5.out.stays hb)
  have C6 := C5.trans (hb.mono C5.size)
  have c3 := R6.cell 3
  clear R5 T5 N5 C5 hb V5
  go_wp2_with (refine at_slot 69 rfl ?_; refine load_row rfl 25 _ rfl y5.heap.size rfl R6 Try.underlying25 rfl infoDfa ?_)
  refine (HT.out _ _ _ V6.out (nums_nil _)).mono ?_
  rintro e w7 ⟨rfl, hb⟩
  go_wp2
  go_ret
  exact ⟨rfl, C6.trans (hb.mono C6.size)⟩
end Go.Proofs.Ytdidogcgoghdmaa
