/- The walks of withoutReturn and Lines. -/
import Derived.Test.YtjfipedcjahbkaaGreatDoorOctets
namespace Go.Proofs.YtjfipedcjahbkaaGreatDoor
open Go.RowKit

set_option maxHeartbeats 400000 in
theorem withoutReturn_calls (s : ByteArray) (w : World) (hs : s.size ≤ maxLen) :
    Calls Tryz.prog 47 #[.string s] w fun e w' => e = .returned (.string ⟨(Oct.chop s.data.toList).toArray⟩) ∧ w = w' := by
  unfold maxLen at hs
  by_cases h0 : s.size = 0
  · have HC := Lib.hid (Oct.chop_nil s h0)
    have h1 : s.size ≤ 0 := by omega
    clear h0
    go_enter Tryz.func47, Tryz.ntmps47
    go_wp2
    go_ret
    exact ⟨ret_str HC.out.symm, rfl⟩
  · have hp : s.size - 1 < s.size := by omega
    have h1 : 0 < s.size := by omega
    clear h0
    have hl : ((s.size : Int) - 1).toNat = s.size - 1 := by omega
    by_cases hc : (s[s.size - 1].toNat : Int) = 13
    · have HC := Lib.hid (Oct.chop_yes s hp hc)
      have hcb : ((s[s.size - 1].toNat : Int) == 13) = true := by simpa using hc
      clear hc
      go_enter Tryz.func47, Tryz.ntmps47
      go_wp2
      go_ret
      exact ⟨ret_str HC.out.symm, rfl⟩
    · have HC := Lib.hid (Oct.chop_no s hp hc)
      have hcb : ((s[s.size - 1].toNat : Int) == 13) = false := by simpa using hc
      clear hc
      go_enter Tryz.func47, Tryz.ntmps47
      go_wp2
      go_ret
      exact ⟨ret_str HC.out.symm, rfl⟩

set_option maxHeartbeats 1000000 in
theorem lines_calls (s : ByteArray) (w : World) (hs : s.size ≤ 1099511627776) :
    Calls Tryz.prog 23 #[.string s] w (NewTextsAt w.heap.size (Oct.lines s.data.toList) w) := by
  have hlen := Oct.split_length 10 s.data.toList
  have hp := Oct.split_pos 10 s.data.toList
  have hsm := Oct.split_small 10 s.data.toList
  rw [Oct.length_bytes] at hlen hsm
  have HSM := Lib.hid hsm
  clear hsm
  have HL := Lib.hid (show Oct.lines s.data.toList = (Oct.pieces s.data.toList).map Oct.chop from rfl)
  have HQ := Lib.hid (show Oct.pieces s.data.toList = if (Oct.split 10 s.data.toList).getLast? = some [] then (Oct.split 10 s.data.toList).dropLast else Oct.split 10 s.data.toList from rfl)
  have HC : ∀ W, Calls Tryz.prog 33 #[.string s, .int .u8 10] W (NewTextsAt W.heap.size (Oct.split 10 s.data.toList) W) := fun W => split_at s 10 W hs
  generalize Oct.split 10 s.data.toList = ps at *
  have HCC := Lib.hid HC
  clear HC
  obtain ⟨p, hlast⟩ : ∃ p, ps[ps.length - 1]? = some p := ⟨_, List.getElem?_eq_getElem (by omega)⟩
  obtain ⟨t, ht⟩ : ∃ t : ByteArray, t = ⟨p.toArray⟩ := ⟨_, rfl⟩
  have hE : t.toList.isEmpty = p.isEmpty := by rw [Oct.bytes_data, ht]
  have hz : ((ps.length : Int) - 1).toNat = ps.length - 1 := by omega
  have HT := Lib.hid ht
  have HLA := Lib.hid hlast
  clear ht hlast
  cases hpe : p.isEmpty
  · rw [hpe] at hE
    have HP := Lib.hid hpe
    clear hpe
    go_enter Tryz.func23, Tryz.ntmps23
    go_wp2_with (go_at_call 33; refine (HCC.out _).mono ?_; rintro e w1 ⟨g, cap, rfl, hown, hb⟩; have hcell := own_text hown HLA.out HT.out)
    clear hcell
    obtain ⟨qs, hqs⟩ : ∃ qs, qs = ps := ⟨_, rfl⟩
    have HN := Lib.hid (show qs.length = ps.length from by rw [hqs])
    have HP2 := Lib.hid (show Oct.pieces s.data.toList = qs from by rw [HQ.out, hqs]; exact Oct.pieces_all HLA.out HP.out)
    have hown2 : w1.ownsRow w.heap.size 9 1 (.slice (some ⟨g, 0, none⟩) (ps.length) cap) (ps.length) (qs.map strV) := by rw [hqs]; exact hown
    have HS2 := Lib.hid (show ∀ q ∈ qs, q.length ≤ s.size from fun q hq => HSM.out q (by rw [hqs] at hq; exact hq))
    clear hown hqs hE
    go_loopw [22] (fun i wr => ∃ k : Nat, k ≤ ps.length ∧ i = .int .i64 k ∧ wr.ownsRow w.heap.size 9 1 (.slice (some ⟨g, 0, none⟩) (ps.length) cap) (ps.length) ((Oct.half qs k).map strV) ∧ Below w.heap.size w wr) (fun i _ => ps.length - (intOf i).toNat)
    case atStart => exact ⟨0, Nat.zero_le _, rfl, by rw [Oct.half_zero]; exact hown2, hb⟩
    case round =>
      obtain ⟨k, hk, rfl, hown, hb2⟩ := hrel
      by_cases hlt : k < ps.length
      · obtain ⟨q, hq⟩ : ∃ q, qs[k]? = some q := ⟨_, List.getElem?_eq_getElem (by rw [HN.out]; exact hlt)⟩
        obtain ⟨u, hu⟩ : ∃ u : ByteArray, u = ⟨q.toArray⟩ := ⟨_, rfl⟩
        have hcell := own_text hown (Oct.half_at hq) hu
        have hfr := hown.frozenAt k
        have hbig : u.size ≤ maxLen := by
          have := HS2.out q (List.mem_of_getElem? hq)
          have e : u.size = q.length := by rw [hu]; exact List.size_toArray
          rw [e]; simp only [maxLen]; omega
        have HB := Lib.hid hbig
        have hst := (hown.stored k (strV (Oct.chop q))).1
        rw [← List.map_set, Oct.half_set hq] at hst
        have est : strV (Oct.chop q) = .string ⟨(Oct.chop u.data.toList).toArray⟩ := by rw [hu]; rfl
        rw [est] at hst
        have HST := Lib.hid hst
        have hg := (hown.lt g rfl).1
        clear hbig hst est hu hq hown
        go_wp2_with (go_at_call 47; refine (withoutReturn_calls _ _ HB.out).mono ?_; rintro e w' ⟨rfl, rfl⟩)
        go_roundw
        case rel => exact ⟨k + 1, by omega, by go_num, HST.out, hb2.setCell (p := ⟨g, k, none⟩) hg _⟩
        case measure => simp [intOf]; omega
      · have HE := Lib.hid (Oct.half_end (qs := qs) (k := k) (by rw [HN.out]; omega))
        go_wp2
        go_ret
        have e1 : Oct.lines s.data.toList = qs.map Oct.chop := by rw [HL.out, HP2.out]
        rw [HE.out, ← e1] at hown
        have e2 : (Oct.lines s.data.toList).length = ps.length := by rw [e1, List.length_map, HN.out]
        refine ⟨g, cap, ?_, ?_, hb2⟩
        · rw [e2]; rfl
        · rw [e2]; exact hown
  · rw [hpe] at hE
    have HP := Lib.hid hpe
    clear hpe
    go_enter Tryz.func23, Tryz.ntmps23
    go_wp2_with (go_at_call 33; refine (HCC.out _).mono ?_; rintro e w1 ⟨g, cap, rfl, hown, hb⟩; have hcap := own_cap hown; have hcell := own_text hown HLA.out HT.out)
    clear hcell
    obtain ⟨qs, hqs⟩ : ∃ qs, qs = ps.take (ps.length - 1) := ⟨_, rfl⟩
    have HN := Lib.hid (show qs.length = ps.length - 1 from by rw [hqs]; simp)
    have HP2 := Lib.hid (show Oct.pieces s.data.toList = qs from by rw [HQ.out, hqs]; exact Oct.pieces_cut HLA.out HP.out)
    have hown2 : w1.ownsRow w.heap.size 9 1 (.slice (some ⟨g, 0, none⟩) (ps.length - 1) cap) (ps.length - 1) (qs.map strV) := by rw [hqs]; rw [List.map_take]; exact own_take hown (by omega)
    have HS2 := Lib.hid (show ∀ q ∈ qs, q.length ≤ s.size from fun q hq => HSM.out q (by rw [hqs] at hq; exact List.mem_of_mem_take hq))
    clear hown hqs hE
    go_loopw [22] (fun i wr => ∃ k : Nat, k ≤ ps.length - 1 ∧ i = .int .i64 k ∧ wr.ownsRow w.heap.size 9 1 (.slice (some ⟨g, 0, none⟩) (ps.length - 1) cap) (ps.length - 1) ((Oct.half qs k).map strV) ∧ Below w.heap.size w wr) (fun i _ => ps.length - 1 - (intOf i).toNat)
    case atStart => exact ⟨0, Nat.zero_le _, rfl, by rw [Oct.half_zero]; exact hown2, hb⟩
    case round =>
      obtain ⟨k, hk, rfl, hown, hb2⟩ := hrel
      by_cases hlt : k < ps.length - 1
      · obtain ⟨q, hq⟩ : ∃ q, qs[k]? = some q := ⟨_, List.getElem?_eq_getElem (by rw [HN.out]; exact hlt)⟩
        obtain ⟨u, hu⟩ : ∃ u : ByteArray, u = ⟨q.toArray⟩ := ⟨_, rfl⟩
        have hcell := own_text hown (Oct.half_at hq) hu
        have hfr := hown.frozenAt k
        have hbig : u.size ≤ maxLen := by
          have := HS2.out q (List.mem_of_getElem? hq)
          have e : u.size = q.length := by rw [hu]; exact List.size_toArray
          rw [e]; simp only [maxLen]; omega
        have HB := Lib.hid hbig
        have hst := (hown.stored k (strV (Oct.chop q))).1
        rw [← List.map_set, Oct.half_set hq] at hst
        have est : strV (Oct.chop q) = .string ⟨(Oct.chop u.data.toList).toArray⟩ := by rw [hu]; rfl
        rw [est] at hst
        have HST := Lib.hid hst
        have hg := (hown.lt g rfl).1
        clear hbig hst est hu hq hown
        go_wp2_with (go_at_call 47; refine (withoutReturn_calls _ _ HB.out).mono ?_; rintro e w' ⟨rfl, rfl⟩)
        go_roundw
        case rel => exact ⟨k + 1, by omega, by go_num, HST.out, hb2.setCell (p := ⟨g, k, none⟩) hg _⟩
        case measure => simp [intOf]; omega
      · have HE := Lib.hid (Oct.half_end (qs := qs) (k := k) (by rw [HN.out]; omega))
        go_wp2
        go_ret
        have e1 : Oct.lines s.data.toList = qs.map Oct.chop := by rw [HL.out, HP2.out]
        rw [HE.out, ← e1] at hown
        have e2 : (Oct.lines s.data.toList).length = ps.length - 1 := by rw [e1, List.length_map, HN.out]
        refine ⟨g, cap, ?_, ?_, hb2⟩
        · rw [e2]; rfl
        · rw [e2]; exact hown
end Go.Proofs.YtjfipedcjahbkaaGreatDoor
