/- The walk of the law HostOrders. -/
import Derived.Test.YtkgcblhhindiaaaDoorHostAlive
namespace Go.Proofs.YtkgcblhhindiaaaDoor
open Go.RowKit
namespace Hst
theorem parse_name (l : List UInt8) : (host (parse l)).name.length ≤ l.length := by
  unfold parse
  split
  · exact Nat.zero_le _
  · split
    · rw [v6part_eq]; split <;> exact Nat.zero_le _
    · split
      · rw [v4part_eq]; split <;> exact Nat.zero_le _
      · split
        · exact Nat.le_of_eq (List.length_map ..)
        · exact Nat.zero_le _
/-- What is true of two ends of a name. -/
theorem orders {h : Host} {a b : Int} (ha : (tailOf h a).isSome = true) (hb : (tailOf h b).isSome = true) :
    under h (host (tailOf h a)) = decide (a < ((labels h).length : Int)) ∧ under (host (tailOf h a)) (host (tailOf h b)) = decide (b < a) ∧
    decide (host (tailOf h b) = host (tailOf h a)) = (a == b) ∧ ((labels (host (tailOf h a))).length : Int) = a := by
  have hna : 1 ≤ a ∧ a ≤ ((labels h).length : Int) := by
    by_cases k : 1 ≤ a ∧ a ≤ ((labels h).length : Int)
    · exact k
    · rw [tail_none k] at ha; cases ha
  have hnb : 1 ≤ b ∧ b ≤ ((labels h).length : Int) := by
    by_cases k : 1 ≤ b ∧ b ≤ ((labels h).length : Int)
    · exact k
    · rw [tail_none k] at hb; cases hb
  obtain ⟨j, rfl⟩ : ∃ k : Nat, a = k := ⟨a.toNat, by omega⟩
  obtain ⟨k, rfl⟩ : ∃ k : Nat, b = k := ⟨b.toNat, by omega⟩
  have hl : labels h ≠ [] := by intro e; rw [e] at hna; simp at hna; omega
  rw [tail_ending (by omega) (by omega), tail_ending (by omega) (by omega)]
  show under h ⟨1, ending h.name j, nil16⟩ = _ ∧ under ⟨1, ending h.name j, nil16⟩ ⟨1, ending h.name k, nil16⟩ = _ ∧ decide ((⟨1, ending h.name k, nil16⟩ : Host) = ⟨1, ending h.name j, nil16⟩) = _ ∧ ((labels ⟨1, ending h.name j, nil16⟩).length : Int) = _
  rw [under_top hl (by omega) (by omega), under_end hl (by omega) (by omega) (by omega) (by omega), end_same hl (by omega) (by omega) (by omega) (by omega), end_labels hl (by omega) (by omega), List.length_drop]
  refine ⟨decide_eq_decide.2 (by omega), decide_eq_decide.2 (by omega), by rw [Bool.eq_iff_iff, decide_eq_true_eq, beq_iff_eq]; omega, by omega⟩
end Hst
set_option maxRecDepth 100000 in
set_option maxHeartbeats 8000000 in
theorem orders_walk (s : ByteArray) (a b : Int) (w : World) (_hs : s.size ≤ maxLen) (_wa : (Lit.int .i64 a).wf = true) (_wb : (Lit.int .i64 b).wf = true) (hw : Std w) :
    Calls Tryd.prog 6 #[.string s, .int .i64 a, .int .i64 b] w fun e w' => e = .returned (.bool true) ∧ Below w.heap.size w w' := by
  have HA := Lib.hid host_alive
  by_cases hlen : s.size ≤ 600
  · have hlen1 : ¬ (600 : Int) < (s.size : Int) := by omega
    have z0 := zeroHost
    have hl := Oct.length_bytes s
    have hn := Hst.parse_name s.data.toList
    have hh := Hst.parse_length s.data.toList
    have H1 := Lib.hid (fun W hW => (parse_calls s W hW (by omega)).mono fun e w' h => newHost_is h)
    rw [hl] at hn
    clear hl
    generalize Hst.code (Hst.parse s.data.toList) = code at *
    generalize Hst.host (Hst.parse s.data.toList) = h at *
    have H2 := Lib.hid (fun W hW => tail_calls h hh (by omega) a W hW)
    have H3 := Lib.hid (fun W hW => tail_calls h hh (by omega) b W hW)
    have H4 := Lib.hid (fun W hW => under_calls h h hh hh (by omega) (by omega) W hW)
    rw [Hst.under_self] at H4
    have H5 := Lib.hid (fun W hW => labels_calls h hh (by omega) W hW)
    have hdl := Hst.tail_length h a
    have hcl := Hst.tail_length h b
    have hdn := Hst.tail_name_length h a
    have hcn := Hst.tail_name_length h b
    have H6 := Lib.hid (fun W hW => under_calls h (Hst.host (Hst.tailOf h a)) hh hdl (by omega) (by omega) W hW)
    have H7 := Lib.hid (fun W hW => under_calls (Hst.host (Hst.tailOf h a)) (Hst.host (Hst.tailOf h b)) hdl hcl (by omega) (by omega) W hW)
    have H8 := Lib.hid (fun W hW => labels_calls (Hst.host (Hst.tailOf h a)) hdl (by omega) W hW)
    have q := eql_host (Hst.host (Hst.tailOf h b)) (Hst.host (Hst.tailOf h a)) hcl hdl
    have HQ : Hid ((Hst.tailOf h a).isSome = true → (Hst.tailOf h b).isSome = true → _) := Lib.hid (fun x y => Hst.orders (h := h) x y)
    unfold NewTexts at H5 H8
    unfold TailHost at H2 H3
    have HH := Lib.hid (hostA_size h hh)
    have HD := Lib.hid (hostA_size _ hdl)
    have HC := Lib.hid (hostA_size _ hcl)
    have HH1 := Lib.hid (hostA_one h)
    have HD1 := Lib.hid (hostA_one (Hst.host (Hst.tailOf h a)))
    have HC1 := Lib.hid (hostA_one (Hst.host (Hst.tailOf h b)))
    clear hh hdl hcl hdn hcn
    generalize (Hst.tailOf h a).isSome = oka at *
    generalize (Hst.tailOf h b).isSome = okb at *
    generalize Hst.host (Hst.tailOf h a) = d at *
    generalize Hst.host (Hst.tailOf h b) = c at *
    generalize Hst.under h d = u1 at *
    generalize Hst.under d c = u2 at *
    generalize decide (c = d) = u3 at *
    generalize Hst.labels h = ps at *
    generalize Hst.labels d = qs at *
    generalize hostA h = X at *
    generalize hostA d = Y at *
    generalize hostA c = Z at *
    generalize ps.length = L at *
    generalize qs.length = M at *
    go_enter Tryd.func6, Tryd.ntmps6
    go_wp2_with fail
    refine (HA.out _ hw).mono ?_
    rintro e v0 ⟨rfl, d0⟩
    go_wp2_with fail
    refine (H1.out _ (hw.below d0)).mono ?_
    rintro e v1 ⟨rfl, d1⟩
    have B1 := d0.trans (d1.mono d0.size)
    obtain ⟨T1, U1, C1, _⟩ := lay_row 25 (hostA Hst.zero) X B1 B1.size
    go_wp2_with (first
      | (refine wpList_store_row rfl 25 _ _ rfl v1.heap.size X rfl rfl 25 _ T1 (by rw [HH.out]; exact infoHost) (by rw [HH.out]; rfl) HH1.out ?_)
      | (refine at_slot 25 rfl ?_; refine load_row rfl 25 _ rfl v1.heap.size rfl U1 Tryd.underlying25 rfl (by rw [HH.out]; exact infoHost) ?_))
    generalize (v1.alloc (.cells (hostA Hst.zero) 25)).setRow v1.heap.size X = x1 at *
    clear T1 d0 d1 B1
    generalize v1.heap.size = n1 at *
    refine (H2.out _ (hw.below C1)).mono ?_
    rintro e v2 ⟨rfl, d2⟩
    have B2 := C1.trans (d2.mono C1.size)
    have P1 := U1.stays d2
    obtain ⟨T2, U2, C2, L2⟩ := lay_row 25 (hostA Hst.zero) Y B2 B2.size
    have P2 := L2 _ _ _ P1
    go_wp2_with (first
      | (refine wpList_store_row rfl 25 _ _ rfl v2.heap.size Y rfl rfl 25 _ T2 (by rw [HD.out]; exact infoHost) (by rw [HD.out]; rfl) HD1.out ?_)
      | (refine at_slot 31 rfl ?_; refine load_row rfl 25 _ rfl n1 rfl P2 Tryd.underlying25 rfl (by rw [HH.out]; exact infoHost) ?_))
    generalize (v2.alloc (.cells (hostA Hst.zero) 25)).setRow v2.heap.size Y = x2 at *
    clear T2 d2 U1 P1 C1 B2 L2
    generalize v2.heap.size = n2 at *
    refine (H3.out _ (hw.below C2)).mono ?_
    rintro e v3 ⟨rfl, d3⟩
    have B3 := C2.trans (d3.mono C2.size)
    have P3 := P2.stays d3
    have P4 := U2.stays d3
    obtain ⟨T3, U3, C3, L3⟩ := lay_row 25 (hostA Hst.zero) Z B3 B3.size
    have P5 := L3 _ _ _ P3
    have P6 := L3 _ _ _ P4
    go_wp2_with (first
      | (refine wpList_store_row rfl 25 _ _ rfl v3.heap.size Z rfl rfl 25 _ T3 (by rw [HC.out]; exact infoHost) (by rw [HC.out]; rfl) HC1.out ?_)
      | (refine at_slot 36 rfl ?_; refine load_row rfl 25 _ rfl n1 rfl P5 Tryd.underlying25 rfl (by rw [HH.out]; exact infoHost) ?_)
      | (refine at_slot 37 rfl ?_; refine load_row rfl 25 _ rfl n1 rfl P5 Tryd.underlying25 rfl (by rw [HH.out]; exact infoHost) ?_))
    generalize (v3.alloc (.cells (hostA Hst.zero) 25)).setRow v3.heap.size Z = x3 at *
    clear T3 d3 U2 P2 C2 B3 L3 P3 P4
    generalize v3.heap.size = n3 at *
    refine (H4.out _ (hw.below C3)).mono ?_
    rintro e v4 ⟨rfl, d4⟩
    have C4 := C3.trans (d4.mono C3.size)
    have A1 := P5.stays d4
    have A2 := P6.stays d4
    have A3 := U3.stays d4
    clear P5 P6 U3 C3 d4
    cases oka
    · go_wp2_with (first
        | (refine at_slot 47 rfl ?_; refine load_row rfl 25 _ rfl n1 rfl A1 Tryd.underlying25 rfl (by rw [HH.out]; exact infoHost) ?_)
        | (refine at_slot 48 rfl ?_; refine load_row rfl 25 _ rfl n1 rfl A1 Tryd.underlying25 rfl (by rw [HH.out]; exact infoHost) ?_)
        | (go_at_call 10; refine (H4.out _ (hw.below C4)).mono ?_; rintro e v5 ⟨rfl, d5⟩))
      go_ret
      exact ⟨rfl, C4.trans (d5.mono C4.size)⟩
    cases okb
    · go_wp2_with (first
        | (refine at_slot 47 rfl ?_; refine load_row rfl 25 _ rfl n1 rfl A1 Tryd.underlying25 rfl (by rw [HH.out]; exact infoHost) ?_)
        | (refine at_slot 48 rfl ?_; refine load_row rfl 25 _ rfl n1 rfl A1 Tryd.underlying25 rfl (by rw [HH.out]; exact infoHost) ?_)
        | (go_at_call 10; refine (H4.out _ (hw.below C4)).mono ?_; rintro e v5 ⟨rfl, d5⟩))
      go_ret
      exact ⟨rfl, C4.trans (d5.mono C4.size)⟩
    obtain ⟨e1, e2, e3, e4⟩ := HQ.out rfl rfl
    subst e1 e2 e3 e4
    clear HQ
    go_wp2_with (refine at_slot 51 rfl ?_; refine load_row rfl 25 _ rfl n1 rfl A1 Tryd.underlying25 rfl (by rw [HH.out]; exact infoHost) ?_)
    refine (H5.out _ (hw.below C4)).mono ?_
    rintro e v5 ⟨v, rfl, hown, d5⟩
    have hv : ∃ A c, v = .slice A L c := by
      rcases hown.2 with ⟨rfl, h0⟩ | ⟨g, cap, cur, rfl, _⟩
      · exact ⟨none, 0, by rw [h0]⟩
      · exact ⟨_, _, rfl⟩
    obtain ⟨A, cp, rfl⟩ := hv
    have C5 := C4.trans (d5.mono C4.size)
    have D1 := A1.stays d5
    have D2 := A2.stays d5
    have D3 := A3.stays d5
    clear hown d5 A1 A2 A3 C4
    go_wp2_with (first
      | (refine at_slot 54 rfl ?_; refine load_row rfl 25 _ rfl n1 rfl D1 Tryd.underlying25 rfl (by rw [HH.out]; exact infoHost) ?_)
      | (refine at_slot 55 rfl ?_; refine load_row rfl 25 _ rfl n2 rfl D2 Tryd.underlying25 rfl (by rw [HD.out]; exact infoHost) ?_))
    refine (H6.out _ (hw.below C5)).mono ?_
    rintro e v6 ⟨rfl, d6⟩
    have C6 := C5.trans (d6.mono C5.size)
    have E1 := D1.stays d6
    have E2 := D2.stays d6
    have E3 := D3.stays d6
    clear d6 D1 D2 D3 C5
    go_wp2_with (first
      | (refine at_slot 62 rfl ?_; refine load_row rfl 25 _ rfl n2 rfl E2 Tryd.underlying25 rfl (by rw [HD.out]; exact infoHost) ?_)
      | (refine at_slot 63 rfl ?_; refine load_row rfl 25 _ rfl n3 rfl E3 Tryd.underlying25 rfl (by rw [HC.out]; exact infoHost) ?_))
    refine (H7.out _ (hw.below C6)).mono ?_
    rintro e v7 ⟨rfl, d7⟩
    have C7 := C6.trans (d7.mono C6.size)
    have F2 := E2.stays d7
    have F3 := E3.stays d7
    clear d7 E1 E2 E3 C6
    go_wp2_with (first
      | (refine at_slot 71 rfl ?_; refine load_row rfl 25 _ rfl n3 rfl F3 Tryd.underlying25 rfl (by rw [HC.out]; exact infoHost) ?_)
      | (refine at_slot 72 rfl ?_; refine load_row rfl 25 _ rfl n2 rfl F2 Tryd.underlying25 rfl (by rw [HD.out]; exact infoHost) ?_)
      | (refine at_slot 80 rfl ?_; refine load_row rfl 25 _ rfl n2 rfl F2 Tryd.underlying25 rfl (by rw [HD.out]; exact infoHost) ?_))
    refine (H8.out _ (hw.below C7)).mono ?_
    rintro e v8 ⟨v, rfl, hown, d8⟩
    have hv : ∃ A c, v = .slice A M c := by
      rcases hown.2 with ⟨rfl, h0⟩ | ⟨g, cap, cur, rfl, _⟩
      · exact ⟨none, 0, by rw [h0]⟩
      · exact ⟨_, _, rfl⟩
    obtain ⟨A', cp', rfl⟩ := hv
    have C8 := C7.trans (d8.mono C7.size)
    clear hown d8
    go_wp2
    go_ret
    exact ⟨rfl, C8⟩
  · have hlen1 : (600 : Int) < (s.size : Int) := by omega
    go_enter Tryd.func6, Tryd.ntmps6
    go_wp2_with fail
    refine (HA.out _ hw).mono ?_
    rintro e w1 ⟨rfl, b1⟩
    go_wp2
    go_ret
    exact ⟨rfl, b1⟩
end Go.Proofs.YtkgcblhhindiaaaDoor
