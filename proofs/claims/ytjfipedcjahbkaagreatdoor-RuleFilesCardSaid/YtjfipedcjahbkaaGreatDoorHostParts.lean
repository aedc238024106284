/- The walks of the hosts that are addresses. -/
import Derived.Test.YtjfipedcjahbkaaGreatDoorCells
import Derived.Test.YtjfipedcjahbkaaGreatDoorV6
import Derived.Test.YtjfipedcjahbkaaGreatDoorV4
import Derived.Test.YtjfipedcjahbkaaGreatDoorPlains
namespace Go.Proofs.YtjfipedcjahbkaaGreatDoor
open Go.RowKit
namespace Hst
theorem suffix_yes {l : List UInt8} (h : l.getLast? = some 93) : Lib.hasSuffix l [93] = true ∧ Lib.trimSuffix l [93] = l.dropLast := by
  obtain ⟨r, rfl⟩ : ∃ r, l = r ++ [93] := by
    rcases List.eq_nil_or_concat l with rfl | ⟨r, c, rfl⟩
    · cases h
    · rw [List.concat_eq_append, List.getLast?_append] at h
      simp at h
      exact ⟨r, by rw [List.concat_eq_append, h]⟩
  have e : Lib.hasSuffix (r ++ [93]) [93] = true := by unfold Lib.hasSuffix; exact List.isSuffixOf_iff_suffix.2 ⟨r, rfl⟩
  refine ⟨e, ?_⟩
  unfold Lib.trimSuffix
  rw [if_pos e]
  simp
theorem suffix_no {l : List UInt8} (h : l.getLast? ≠ some 93) : Lib.hasSuffix l [93] = false := by
  cases e : Lib.hasSuffix l [93] with
  | false => rfl
  | true =>
    obtain ⟨r, rfl⟩ := List.isSuffixOf_iff_suffix.1 e
    exact absurd (by simp) h
theorem v6part_eq (l : List UInt8) : v6part l = if (Lib.hasSuffix l [93] && (Adr.v6 (Lib.trimSuffix l [93])).isSome) = true then some ⟨3, [], Adr.addrOf (Adr.v6 (Lib.trimSuffix l [93]))⟩ else none := by
  unfold v6part
  by_cases h : l.getLast? = some 93
  · obtain ⟨e1, e2⟩ := suffix_yes h
    rw [if_pos h, e1, e2]
    cases Adr.v6 l.dropLast <;> rfl
  · rw [if_neg h, suffix_no h]; rfl
theorem v4part_eq (l : List UInt8) : v4part l = if (Adr.v4 l).isSome = true then some ⟨2, [], Adr.addr4 (Adr.v4 l)⟩ else none := by
  unfold v4part
  cases Adr.v4 l <;> rfl
theorem addr4_length (s : List UInt8) : (Adr.addr4 (Adr.v4 s)).length = 16 := by
  unfold Adr.v4
  split
  · next h => show (List.replicate 12 0 ++ _).length = 16; rw [List.length_append, List.length_replicate, List.length_map, h.1]
  · rfl
end Hst
set_option maxRecDepth 100000 in
set_option maxHeartbeats 2000000 in
theorem hgroups_calls (r : ByteArray) (w : World) (hw : Std w) (hs : r.size ≤ 1048576) :
    Calls Tryz.prog 32 #[.string r] w (NewHost (Hst.v6part r.data.toList) w) := by
  have z0 := zeroHost
  have z1 := bytesA_zA
  have HZ0 := Lib.hid (show (hostA Hst.zero).size = 18 from rfl)
  have H1 := Lib.hid (fun W => Tryz.strings_CutSuffix r ⟨#[93]⟩ W (by omega))
  have hle := Lib.trimSuffix_le r.data.toList [93]
  rw [Oct.length_bytes] at hle
  have H2 := Lib.hid (fun W h => v6_calls ⟨(Lib.trimSuffix r.data.toList [93]).toArray⟩ W h (by show (List.toArray _).size ≤ _; simp; omega))
  have HN := Lib.hid (Hst.v6part_eq r.data.toList)
  have ha : (Adr.addrOf (Adr.v6 (Lib.trimSuffix r.data.toList [93]))).length = 16 := Adr.addrOf_length _
  have e1 : (⟨#[93]⟩ : ByteArray).data.toList = [93] := rfl
  have e2 : (⟨(Lib.trimSuffix r.data.toList [93]).toArray⟩ : ByteArray).data.toList = Lib.trimSuffix r.data.toList [93] := rfl
  rw [e1] at H1
  rw [e2] at H2
  generalize Hst.v6part r.data.toList = V at *
  generalize Adr.addrOf (Adr.v6 (Lib.trimSuffix r.data.toList [93])) = a at *
  generalize (Adr.v6 (Lib.trimSuffix r.data.toList [93])).isSome = ok at *
  generalize Lib.hasSuffix r.data.toList [93] = closed at *
  generalize (⟨(Lib.trimSuffix r.data.toList [93]).toArray⟩ : ByteArray) = i at *
  clear hle e1 e2
  have HZA := Lib.hid (show (bytesA a).size = 16 by rw [bytesA_size, ha])
  have HH := Lib.hid (hostA_size ⟨3, [], a⟩ ha)
  have HB := Lib.hid (built_addr 3 a ha)
  clear ha
  go_enter Tryz.func32, Tryz.ntmps32
  go_wp2_with fail
  have R0 := Row.new w 45 (hostA Hst.zero)
  have B0 := (Below.refl w.heap.size w).alloc (Nat.le_refl _) (.cells (hostA Hst.zero) 45)
  generalize w.alloc (.cells (hostA Hst.zero) 45) = w0 at *
  refine (H1.out _).mono ?_
  rintro e v1 ⟨rfl, rfl⟩
  go_wp2_with fail
  refine (H2.out _ (hw.below B0)).mono ?_
  rintro e v2 ⟨rfl, d2⟩
  have R1 := R0.stays d2
  have B1 := B0.trans (d2.mono B0.size)
  obtain ⟨T, U, C, L⟩ := lay_row 43 (bytesA zA) (bytesA a) B1 B1.size
  have R2 := L _ _ _ R1
  clear L R0 R1 B0 B1 d2
  cases closed <;> cases ok
  all_goals
    go_wp2_with (first
      | (refine wpList_store_row rfl 43 _ _ rfl v2.heap.size (bytesA a) rfl rfl 43 _ T (by rw [HZA.out]; exact infoAddr) (by rw [HZA.out]; rfl) (bytesA_one _) ?_)
      | (refine at_slot 25 rfl ?_; refine load_row rfl 43 _ rfl v2.heap.size rfl U Tryz.underlying43 rfl (by rw [HZA.out]; exact infoAddr) ?_)
      | (refine at_slot 26 rfl ?_; refine build_two rfl 45 0 2 _ _ rfl _ _ rfl rfl (hostA ⟨3, [], a⟩) HB.out ?_)
      | (refine wpList_store_row rfl 45 _ _ rfl w.heap.size (hostA Hst.zero) rfl rfl 45 _ R2 (by rw [HZ0.out]; exact infoHost) rfl (hostA_one _) ?_)
      | (refine wpList_store_row rfl 45 _ _ rfl w.heap.size (hostA ⟨3, [], a⟩) rfl rfl 45 _ R2 (by rw [HH.out]; exact infoHost) (by rw [HH.out]; rfl) (hostA_one _) ?_))
    rw [HN.out]
    first
      | exact bodyPost_ret (v := .tuple #[.agg (hostA Hst.zero), .int .i64 31]) (results_cell_two rfl _ _ w.heap.size _ _ _ rfl _ rfl (R2.whole _) Tryz.underlying45 rfl (by rw [HZ0.out]; exact infoHost)) rfl ⟨rfl, below_setRow C (Nat.le_refl _) _⟩
      | exact bodyPost_ret (v := .tuple #[.agg (hostA ⟨3, [], a⟩), .int .i64 0]) (results_cell_two rfl _ _ w.heap.size _ _ _ rfl _ rfl (R2.whole _) Tryz.underlying45 rfl (by rw [HH.out]; exact infoHost)) rfl ⟨rfl, below_setRow C (Nat.le_refl _) _⟩
set_option maxRecDepth 100000 in
set_option maxHeartbeats 2000000 in
theorem numbers_calls (s : ByteArray) (w : World) (hs : s.size ≤ 1048576) :
    Calls Tryz.prog 35 #[.string s] w (NewHost (Hst.v4part s.data.toList) w) := by
  have z0 := zeroHost
  have z1 := bytesA_zA
  have HZ0 := Lib.hid (show (hostA Hst.zero).size = 18 from rfl)
  have H2 := Lib.hid (fun W => v4_calls s W hs)
  have HN := Lib.hid (Hst.v4part_eq s.data.toList)
  have ha : (Adr.addr4 (Adr.v4 s.data.toList)).length = 16 := Hst.addr4_length _
  generalize Hst.v4part s.data.toList = V at *
  generalize Adr.addr4 (Adr.v4 s.data.toList) = a at *
  generalize (Adr.v4 s.data.toList).isSome = ok at *
  have HZA := Lib.hid (show (bytesA a).size = 16 by rw [bytesA_size, ha])
  have HH := Lib.hid (hostA_size ⟨2, [], a⟩ ha)
  have HB := Lib.hid (built_addr 2 a ha)
  clear ha
  go_enter Tryz.func35, Tryz.ntmps35
  go_wp2_with fail
  have R0 := Row.new w 45 (hostA Hst.zero)
  have B0 := (Below.refl w.heap.size w).alloc (Nat.le_refl _) (.cells (hostA Hst.zero) 45)
  generalize w.alloc (.cells (hostA Hst.zero) 45) = w0 at *
  refine (H2.out _).mono ?_
  rintro e v2 ⟨rfl, d2⟩
  have R1 := R0.stays d2
  have B1 := B0.trans (d2.mono B0.size)
  obtain ⟨T, U, C, L⟩ := lay_row 43 (bytesA zA) (bytesA a) B1 B1.size
  have R2 := L _ _ _ R1
  clear L R0 R1 B0 B1 d2
  cases ok
  all_goals
    go_wp2_with (first
      | (refine wpList_store_row rfl 43 _ _ rfl v2.heap.size (bytesA a) rfl rfl 43 _ T (by rw [HZA.out]; exact infoAddr) (by rw [HZA.out]; rfl) (bytesA_one _) ?_)
      | (refine at_slot 14 rfl ?_; refine load_row rfl 43 _ rfl v2.heap.size rfl U Tryz.underlying43 rfl (by rw [HZA.out]; exact infoAddr) ?_)
      | (refine at_slot 15 rfl ?_; refine build_two rfl 45 0 2 _ _ rfl _ _ rfl rfl (hostA ⟨2, [], a⟩) HB.out ?_)
      | (refine wpList_store_row rfl 45 _ _ rfl w.heap.size (hostA Hst.zero) rfl rfl 45 _ R2 (by rw [HZ0.out]; exact infoHost) rfl (hostA_one _) ?_)
      | (refine wpList_store_row rfl 45 _ _ rfl w.heap.size (hostA ⟨2, [], a⟩) rfl rfl 45 _ R2 (by rw [HH.out]; exact infoHost) (by rw [HH.out]; rfl) (hostA_one _) ?_))
    rw [HN.out]
    first
      | exact bodyPost_ret (v := .tuple #[.agg (hostA Hst.zero), .int .i64 31]) (results_cell_two rfl _ _ w.heap.size _ _ _ rfl _ rfl (R2.whole _) Tryz.underlying45 rfl (by rw [HZ0.out]; exact infoHost)) rfl ⟨rfl, below_setRow C (Nat.le_refl _) _⟩
      | exact bodyPost_ret (v := .tuple #[.agg (hostA ⟨2, [], a⟩), .int .i64 0]) (results_cell_two rfl _ _ w.heap.size _ _ _ rfl _ rfl (R2.whole _) Tryz.underlying45 rfl (by rw [HH.out]; exact infoHost)) rfl ⟨rfl, below_setRow C (Nat.le_refl _) _⟩
end Go.Proofs.YtjfipedcjahbkaaGreatDoor
