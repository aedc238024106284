/- The walk of the law UrlDrops. -/
import Derived.Test.YtcookddgaomkiaaUrlAlive
namespace Go.Proofs.Ytcookddgaomkiaa
open Go.RowKit
set_option maxRecDepth 100000 in
set_option maxHeartbeats 4000000 in
theorem udrops_walk (s more : ByteArray) (w : World) (_hs : s.size ≤ maxLen) (_hm : more.size ≤ maxLen) (hw : Std w) :
    Calls Try.prog 5 #[.string s, .string more] w fun e w' => e = .returned (.bool true) ∧ Below w.heap.size w w' := by
  have HA := Lib.hid url_alive
  have z0 := zeroURL
  by_cases hlen : s.size ≤ 2000
  · have hlen1 : ¬ (2000 : Int) < (s.size : Int) := by omega
    by_cases hlen2 : more.size ≤ 500
    · have hlen3 : ¬ (500 : Int) < (more.size : Int) := by omega
      have H1 := fun W hW => urlParse_calls s W hW (by omega)
      obtain ⟨o, ho⟩ : ∃ o, Ur.parse s.data.toList = o := ⟨_, rfl⟩
      have hal : o.2.host.addr.length = 16 := by rw [← ho]; exact Ur.parse_host_length _
      have hz : o.1 ≠ 0 → o.2 = Ur.zero := fun h => by rw [← ho]; exact Ur.parse_zero (by rw [ho]; exact h)
      have hsame : ∀ (c : UInt8) (r : List UInt8), o.1 = 0 → (c = 63 ∨ c = 35) → Ur.parse (s.data.toList ++ c :: r) = o := fun c r h0 hc => by
        rw [Ur.parse_drops (s := s.data.toList) (m := c :: r) (by rw [ho]; exact h0) rfl hc]; exact ho
      rw [ho] at H1
      obtain ⟨c, u⟩ := o
      have hal : u.host.addr.length = 16 := hal
      have hz : c ≠ 0 → u = Ur.zero := hz
      have hsame : ∀ (d : UInt8) (r : List UInt8), c = 0 → (d = 63 ∨ d = 35) → Ur.parse (s.data.toList ++ d :: r) = (c, u) := hsame
      have H1 : ∀ W, Std W → Calls Try.prog 7 #[.string s] W fun e w' => e = .returned (.tuple #[.agg (urlA u), .int .i64 c]) ∧ Below W.heap.size W w' := H1
      have H1 := Lib.hid H1
      have HU := Lib.hid (urlA_size u hal)
      have HU1 := Lib.hid (urlA_one u)
      have q := eql_url u u hal hal
      rw [decide_eq_true rfl] at q
      clear ho
      by_cases h0 : c = 0
      · have H2 : ∀ F : ByteArray, F.size ≤ 1048576 → (∃ d r, F.data.toList = s.data.toList ++ d :: r ∧ (d = 63 ∨ d = 35)) → ∀ W, Std W → Calls Try.prog 7 #[.string F] W fun e w' => e = .returned (.tuple #[.agg (urlA u), .int .i64 0]) ∧ Below W.heap.size W w' := by
          intro F hF hd W hW
          obtain ⟨d, r, e1, e2⟩ := hd
          have h := urlParse_calls F W hW hF
          rw [e1, hsame d r h0 e2, h0] at h
          exact h
        obtain ⟨E1, hE1⟩ : ∃ E : ByteArray, s ++ (⟨#[63]⟩ : ByteArray) = E := ⟨_, rfl⟩
        have hEl1 : E1.data.toList = s.data.toList ++ [63] := by rw [← hE1, ByteArray.data_append, Array.toList_append]
        have hEs1 : E1.size = s.size + 1 := by rw [← Oct.length_bytes, hEl1, List.length_append, Oct.length_bytes]; rfl
        obtain ⟨F1, hF1⟩ : ∃ F : ByteArray, E1 ++ more = F := ⟨_, rfl⟩
        have hFl1 : F1.data.toList = s.data.toList ++ 63 :: more.data.toList := by rw [← hF1, ByteArray.data_append, Array.toList_append, hEl1, List.append_assoc]; rfl
        have hFs1 : F1.size = s.size + 1 + more.size := by rw [← hF1, ByteArray.size_append, hEs1]
        have hc1 : ¬ 9223372036854775807 < s.size + (⟨#[63]⟩ : ByteArray).size := by have : (⟨#[63]⟩ : ByteArray).size = 1 := rfl; omega
        have hd1 : ¬ 9223372036854775807 < E1.size + more.size := by omega
        obtain ⟨E2, hE2⟩ : ∃ E : ByteArray, s ++ (⟨#[35]⟩ : ByteArray) = E := ⟨_, rfl⟩
        have hEl2 : E2.data.toList = s.data.toList ++ [35] := by rw [← hE2, ByteArray.data_append, Array.toList_append]
        have hEs2 : E2.size = s.size + 1 := by rw [← Oct.length_bytes, hEl2, List.length_append, Oct.length_bytes]; rfl
        obtain ⟨F2, hF2⟩ : ∃ F : ByteArray, E2 ++ more = F := ⟨_, rfl⟩
        have hFl2 : F2.data.toList = s.data.toList ++ 35 :: more.data.toList := by rw [← hF2, ByteArray.data_append, Array.toList_append, hEl2, List.append_assoc]; rfl
        have hFs2 : F2.size = s.size + 1 + more.size := by rw [← hF2, ByteArray.size_append, hEs2]
        have hc2 : ¬ 9223372036854775807 < s.size + (⟨#[35]⟩ : ByteArray).size := by have : (⟨#[35]⟩ : ByteArray).size = 1 := rfl; omega
        have hd2 : ¬ 9223372036854775807 < E2.size + more.size := by omega
        have H3 := Lib.hid (H2 F1 (by omega) ⟨63, _, hFl1, .inl rfl⟩)
        have H4 := Lib.hid (H2 F2 (by omega) ⟨35, _, hFl2, .inr rfl⟩)
        subst h0
        clear H2 hsame hz hFl1 hFl2 hFs1 hFs2 hEl1 hEl2 hal
        generalize urlA u = X at *
        go_enter Try.func5, Try.ntmps5
        go_wp2_with fail
        refine (HA.out _ hw).mono ?_
        rintro e v0 ⟨rfl, d0⟩
        go_wp2_with fail
        refine (H1.out _ (hw.below d0)).mono ?_
        rintro e v1 ⟨rfl, d1⟩
        have B1 := d0.trans (d1.mono d0.size)
        obtain ⟨T1, U1, C1, _⟩ := lay_row 27 (urlA Ur.zero) X B1 B1.size
        go_wp2_with (first
          | (refine wpList_store_row rfl 27 _ _ rfl v1.heap.size X rfl rfl 27 _ T1 (by rw [HU.out]; exact infoURL) (by rw [HU.out]; rfl) HU1.out ?_))
        generalize (v1.alloc (.cells (urlA Ur.zero) 27)).setRow v1.heap.size X = x1 at *
        generalize v1.heap.size = g1 at *
        clear T1 B1 d1 d0
        refine (H3.out _ (hw.below C1)).mono ?_
        rintro e v2 ⟨rfl, d2⟩
        have B2 := C1.trans (d2.mono C1.size)
        have P1 := U1.stays d2
        obtain ⟨T2, U2, C2, L2⟩ := lay_row 27 (urlA Ur.zero) X B2 B2.size
        have P2 := L2 _ _ _ P1
        go_wp2_with (first
          | (refine wpList_store_row rfl 27 _ _ rfl v2.heap.size X rfl rfl 27 _ T2 (by rw [HU.out]; exact infoURL) (by rw [HU.out]; rfl) HU1.out ?_))
        generalize (v2.alloc (.cells (urlA Ur.zero) 27)).setRow v2.heap.size X = x2 at *
        generalize v2.heap.size = g2 at *
        clear T2 B2 d2 L2 P1 U1 C1
        refine (H4.out _ (hw.below C2)).mono ?_
        rintro e v3 ⟨rfl, d3⟩
        have B3 := C2.trans (d3.mono C2.size)
        have P3 := P2.stays d3
        have U3 := U2.stays d3
        obtain ⟨T4, U4, C4, L4⟩ := lay_row 27 (urlA Ur.zero) X B3 B3.size
        have P4 := L4 _ _ _ P3
        have U5 := L4 _ _ _ U3
        clear d3 B3 P3 U3 P2 U2 C2 L4
        go_wp2_with (first
          | (refine wpList_store_row rfl 27 _ _ rfl v3.heap.size X rfl rfl 27 _ T4 (by rw [HU.out]; exact infoURL) (by rw [HU.out]; rfl) HU1.out ?_)
          | (refine at_slot 54 rfl ?_; refine load_row rfl 27 _ rfl g2 rfl U5 Try.underlying27 rfl (by rw [HU.out]; exact infoURL) ?_)
          | (refine at_slot 55 rfl ?_; refine load_row rfl 27 _ rfl g1 rfl P4 Try.underlying27 rfl (by rw [HU.out]; exact infoURL) ?_)
          | (refine at_slot 59 rfl ?_; refine load_row rfl 27 _ rfl v3.heap.size rfl U4 Try.underlying27 rfl (by rw [HU.out]; exact infoURL) ?_)
          | (refine at_slot 60 rfl ?_; refine load_row rfl 27 _ rfl g1 rfl P4 Try.underlying27 rfl (by rw [HU.out]; exact infoURL) ?_))
        go_ret
        exact ⟨rfl, C4⟩
      · have hne : (c != 0) = true := by rw [bne_iff_ne]; exact h0
        have hu := hz h0
        subst hu
        clear hsame hz h0 hal
        generalize urlA Ur.zero = X at *
        go_enter Try.func5, Try.ntmps5
        go_wp2_with fail
        refine (HA.out _ hw).mono ?_
        rintro e v0 ⟨rfl, d0⟩
        go_wp2_with fail
        refine (H1.out _ (hw.below d0)).mono ?_
        rintro e v1 ⟨rfl, d1⟩
        have B1 := d0.trans (d1.mono d0.size)
        obtain ⟨T1, U1, C1, _⟩ := lay_row 27 X X B1 B1.size
        go_wp2_with (first
          | (refine wpList_store_row rfl 27 _ _ rfl v1.heap.size X rfl rfl 27 _ T1 (by rw [HU.out]; exact infoURL) rfl HU1.out ?_)
          | (refine at_slot 28 rfl ?_; refine load_row rfl 27 _ rfl v1.heap.size rfl U1 Try.underlying27 rfl (by rw [HU.out]; exact infoURL) ?_))
        go_ret
        exact ⟨rfl, C1⟩
    · have hlen3 : (500 : Int) < (more.size : Int) := by omega
      go_enter Try.func5, Try.ntmps5
      go_wp2_with fail
      refine (HA.out _ hw).mono ?_
      rintro e w1 ⟨rfl, b1⟩
      go_wp2
      go_ret
      exact ⟨rfl, b1⟩
  · have hlen1 : (2000 : Int) < (s.size : Int) := by omega
    go_enter Try.func5, Try.ntmps5
    go_wp2_with fail
    refine (HA.out _ hw).mono ?_
    rintro e w1 ⟨rfl, b1⟩
    go_wp2
    go_ret
    exact ⟨rfl, b1⟩
end Go.Proofs.Ytcookddgaomkiaa
