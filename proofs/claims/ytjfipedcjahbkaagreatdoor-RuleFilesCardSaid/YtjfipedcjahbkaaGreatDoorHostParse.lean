/- The walk of host's Parse. -/
import Derived.Test.YtjfipedcjahbkaaGreatDoorHostParts
import Derived.Test.YtjfipedcjahbkaaGreatDoorHostName
import Derived.Test.YtjfipedcjahbkaaGreatDoorOctets
namespace Go.Proofs.YtjfipedcjahbkaaGreatDoor
open Go.RowKit
namespace Hst
theorem prefix_yes {l : List UInt8} (h : l.head? = some 91) : Lib.hasPrefix l [91] = true ∧ Lib.trimPrefix l [91] = l.tail := by
  cases l with
  | nil => cases h
  | cons c r =>
    simp at h
    subst h
    exact ⟨rfl, rfl⟩
theorem prefix_no {l : List UInt8} (h : l.head? ≠ some 91) : Lib.hasPrefix l [91] = false := by
  cases l with
  | nil => rfl
  | cons c r =>
    have hn : (91 : UInt8) ≠ c := fun e => h (by rw [← e]; rfl)
    show ((91 : UInt8) == c && _) = false
    rw [beq_eq_false_iff_ne.2 hn]; rfl
def code (o : Option Host) : Int := if o.isSome then 0 else 31
def host (o : Option Host) : Host := o.getD zero
theorem v6part_length (l : List UInt8) : (host (v6part l)).addr.length = 16 := by
  rw [v6part_eq]
  split
  · exact Adr.addrOf_length _
  · rfl
theorem v4part_length (l : List UInt8) : (host (v4part l)).addr.length = 16 := by
  rw [v4part_eq]
  split
  · exact addr4_length _
  · rfl
theorem parse_length (l : List UInt8) : (host (parse l)).addr.length = 16 := by
  unfold parse
  split
  · rfl
  · split
    · exact v6part_length _
    · split
      · exact v4part_length _
      · split <;> rfl
end Hst
/-- A host that may have an error. -/
theorem newHost_of {o : Option Hst.Host} {w w' : World} {h : Hst.Host} {c : Int} (hh : Hst.host o = h) (hc : Hst.code o = c) (hb : Below w.heap.size w w') : NewHost o w (.returned (.tuple #[.agg (hostA h), .int .i64 c])) w' := by
  subst hh; subst hc; exact ⟨rfl, hb⟩
theorem newHost_is {o : Option Hst.Host} {w w' : World} {e : Ending} (h : NewHost o w e w') : e = .returned (.tuple #[.agg (hostA (Hst.host o)), .int .i64 (Hst.code o)]) ∧ Below w.heap.size w w' := h
set_option maxRecDepth 100000 in
set_option maxHeartbeats 4000000 in
theorem parse_calls (s : ByteArray) (w : World) (hw : Std w) (hs : s.size ≤ 1048576) :
    Calls Tryz.prog 17 #[.string s] w (NewHost (Hst.parse s.data.toList) w) := by
  have z0 := zeroHost
  have HZ0 := Lib.hid (show (hostA Hst.zero).size = 18 from rfl)
  have hl := Oct.length_bytes s
  by_cases hbig : 253 < s.size
  · have HN := Lib.hid (show Hst.parse s.data.toList = none by unfold Hst.parse; rw [if_pos (by omega)])
    have hbig1 : (253 : Int) < (s.size : Int) := by omega
    clear hl
    go_enter Tryz.func17, Tryz.ntmps17
    have R0 := Row.new w 45 (hostA Hst.zero)
    have B0 := (Below.refl w.heap.size w).alloc (Nat.le_refl _) (.cells (hostA Hst.zero) 45)
    go_wp2_with (first
      | (refine wpList_store_row rfl 45 _ _ rfl w.heap.size (hostA Hst.zero) rfl rfl 45 _ R0 (by rw [HZ0.out]; exact infoHost) rfl (hostA_one _) ?_))
    rw [HN.out]
    exact bodyPost_ret (v := .tuple #[.agg (hostA Hst.zero), .int .i64 31]) (results_cell_two rfl _ _ w.heap.size _ _ _ rfl _ rfl (R0.whole _) Tryz.underlying45 rfl (by rw [HZ0.out]; exact infoHost)) rfl (newHost_of rfl rfl (below_setRow B0 (Nat.le_refl _) _))
  have hbig1 : ¬ (253 : Int) < (s.size : Int) := by omega
  have H1 := Lib.hid (fun W => Tryz.strings_CutPrefix s ⟨#[91]⟩ W)
  have e1 : (⟨#[91]⟩ : ByteArray).data.toList = [91] := rfl
  rw [e1] at H1
  clear e1
  by_cases hhead : s.data.toList.head? = some 91
  · obtain ⟨p1, p2⟩ := Hst.prefix_yes hhead
    rw [p1, p2] at H1
    have HN := Lib.hid (show Hst.parse s.data.toList = Hst.v6part s.data.toList.tail by unfold Hst.parse; rw [if_neg (by omega), if_pos hhead])
    have hx := Hst.v6part_length s.data.toList.tail
    have H2 := Lib.hid (fun W h => (hgroups_calls ⟨s.data.toList.tail.toArray⟩ W h (by show (List.toArray _).size ≤ _; simp; omega)).mono fun e w' h => newHost_is h)
    have e2 : (⟨s.data.toList.tail.toArray⟩ : ByteArray).data.toList = s.data.toList.tail := rfl
    rw [e2] at H2
    rw [HN.out]
    clear HN
    generalize Hst.v6part s.data.toList.tail = o at *
    have HO : Hid (∀ w', Below w.heap.size w w' → NewHost o w (.returned (.tuple #[.agg (hostA (Hst.host o)), .int .i64 (Hst.code o)])) w') := Lib.hid (fun w' hb => newHost_of rfl rfl hb)
    generalize NewHost o w = post at *
    generalize Hst.code o = c at *
    generalize Hst.host o = X at *
    have HX := Lib.hid (hostA_size X hx)
    generalize (⟨s.data.toList.tail.toArray⟩ : ByteArray) = i at *
    clear hx p1 p2 hhead hl e2
    go_enter Tryz.func17, Tryz.ntmps17
    go_wp2_with fail
    have R0 := Row.new w 45 (hostA Hst.zero)
    have B0 := (Below.refl w.heap.size w).alloc (Nat.le_refl _) (.cells (hostA Hst.zero) 45)
    generalize w.alloc (.cells (hostA Hst.zero) 45) = w0 at *
    refine (H1.out _).mono ?_
    rintro e v1 ⟨rfl, rfl⟩
    go_wp2_with fail
    refine (H2.out _ (hw.below B0)).mono ?_
    rintro e v2 ⟨rfl, d2⟩
    have R1 := R0.stays d2
    have B1 := B0.trans (d2.mono B0.size)
    go_wp2_with (first
      | (refine wpList_store_row rfl 45 _ _ rfl w.heap.size (hostA X) rfl rfl 45 _ R1 (by rw [HX.out]; exact infoHost) (by rw [HX.out]; rfl) (hostA_one _) ?_))
    exact bodyPost_ret (v := .tuple #[.agg (hostA X), .int .i64 c]) (results_cell_two rfl _ _ w.heap.size _ _ _ rfl _ rfl (R1.whole _) Tryz.underlying45 rfl (by rw [HX.out]; exact infoHost)) rfl (HO.out _ (below_setRow B1 (Nat.le_refl _) _))
  have p1 := Hst.prefix_no hhead
  rw [p1] at H1
  generalize (⟨(Lib.trimPrefix s.data.toList [91]).toArray⟩ : ByteArray) = i at *
  have hlen := Oct.split_length 46 s.data.toList
  have hpos := Oct.split_pos 46 s.data.toList
  have hsm := Oct.split_small 46 s.data.toList
  have H3 : ∀ W, Calls Tryz.prog 33 #[.string s, .int .u8 46] W (NewTextsAt W.heap.size (Oct.split 46 s.data.toList) W) := fun W => split_at s 46 W (by omega)
  have H3 := Lib.hid H3
  rw [hl] at hlen
  have hlast : ∃ p, (Oct.split 46 s.data.toList)[(Oct.split 46 s.data.toList).length - 1]? = some p := ⟨_, List.getElem?_eq_getElem (by omega)⟩
  obtain ⟨p, hp⟩ := hlast
  have hlastp : Hst.last s.data.toList = p := by unfold Hst.last; rw [hp]; rfl
  have hps : p.length ≤ s.size := by have := hsm p (List.mem_of_getElem? hp); omega
  have hsz : ∀ q ∈ Oct.split 46 s.data.toList, q.length ≤ 1099511627776 := fun q hq => by have := hsm q hq; omega
  have HSZ := Lib.hid hsz
  have HP := Lib.hid hp
  have HNP : Hid (Hst.parse s.data.toList = if Oct.digits p = true then Hst.v4part s.data.toList else if (Oct.split 46 s.data.toList).all Hst.lab = true then some ⟨1, s.data.toList.map Oct.low, Hst.nil16⟩ else none) :=
    Lib.hid (by unfold Hst.parse; rw [if_neg (by omega), if_neg hhead, hlastp])
  have H5 := Lib.hid (fun W => (numbers_calls s W hs).mono fun e w' h => newHost_is h)
  have hx := Hst.v4part_length s.data.toList
  have H7 := Lib.hid (fun W => lower_calls s W (by omega))
  rw [HNP.out]
  clear HNP hp hsz hsm hlastp p1 hhead hl
  generalize Oct.split 46 s.data.toList = ps at *
  obtain ⟨t, ht⟩ : ∃ t : ByteArray, t = ⟨p.toArray⟩ := ⟨_, rfl⟩
  have hts : t.size ≤ s.size := by rw [ht]; show (List.toArray _).size ≤ _; simp; omega
  have H4 : ∀ W, Calls Tryz.prog 34 #[.string t] W fun e w' => e = .returned (.bool (Oct.digits p)) ∧ W = w' := fun W => by
    have := digits_calls t W (by unfold maxLen; omega)
    have e : t.data.toList = p := by rw [ht]
    rw [e] at this
    exact this
  have H4 := Lib.hid H4
  have HT := Lib.hid ht
  clear ht
  have hz : ((ps.length : Int) - 1).toNat = ps.length - 1 := by omega
  cases hd : Oct.digits p with
  | true =>
    rw [hd] at H4
    rw [if_pos rfl]
    generalize Hst.v4part s.data.toList = o at *
    have HO : Hid (∀ w', Below w.heap.size w w' → NewHost o w (.returned (.tuple #[.agg (hostA (Hst.host o)), .int .i64 (Hst.code o)])) w') := Lib.hid (fun w' hb => newHost_of rfl rfl hb)
    generalize NewHost o w = post at *
    generalize Hst.code o = c at *
    generalize Hst.host o = X at *
    have HX := Lib.hid (hostA_size X hx)
    clear hx hd H7
    go_enter Tryz.func17, Tryz.ntmps17
    go_wp2_with fail
    have R0 := Row.new w 45 (hostA Hst.zero)
    have B0 := (Below.refl w.heap.size w).alloc (Nat.le_refl _) (.cells (hostA Hst.zero) 45)
    generalize w.alloc (.cells (hostA Hst.zero) 45) = w0 at *
    refine (H1.out _).mono ?_
    rintro e v1 ⟨rfl, rfl⟩
    go_wp2_with fail
    refine (H3.out _).mono ?_
    rintro e v2 ⟨g, cap, rfl, hown, d2⟩
    have R1 := R0.stays d2
    have B1 := B0.trans (d2.mono B0.size)
    have hcell := own_text (k := ps.length - 1) hown HP.out HT.out
    have hcap := own_cap hown
    clear hown d2 R0 B0
    go_wp2_with fail
    refine (H4.out _).mono ?_
    rintro e v3 ⟨rfl, rfl⟩
    go_wp2_with fail
    refine (H5.out _).mono ?_
    rintro e v4 ⟨rfl, d4⟩
    have R2 := R1.stays d4
    have B2 := B1.trans (d4.mono B1.size)
    go_wp2_with (first
      | (refine wpList_store_row rfl 45 _ _ rfl w.heap.size (hostA X) rfl rfl 45 _ R2 (by rw [HX.out]; exact infoHost) (by rw [HX.out]; rfl) (hostA_one _) ?_))
    exact bodyPost_ret (v := .tuple #[.agg (hostA X), .int .i64 c]) (results_cell_two rfl _ _ w.heap.size _ _ _ rfl _ rfl (R2.whole _) Tryz.underlying45 rfl (by rw [HX.out]; exact infoHost)) rfl (HO.out _ (below_setRow B2 (Nat.le_refl _) _))
  | false =>
    rw [hd] at H4
    rw [if_neg (by simp)]
    clear hd hx H5
    have HNM := Lib.hid (fun W B g cap h => name_calls W B g ps.length cap ps rfl (by omega) HSZ.out h)
    obtain ⟨u, hu⟩ : ∃ u : ByteArray, u = ⟨(s.data.toList.map Oct.low).toArray⟩ := ⟨_, rfl⟩
    have hul : s.data.toList.map Oct.low = u.data.toList := by rw [hu]
    have HB := Lib.hid (built_name 1 u)
    rw [hul]
    unfold NewText at H7
    rw [← hu] at H7
    clear hul hu
    generalize u.data.toList = ul at *
    have HXZ := Lib.hid (hostA_size ⟨1, ul, Hst.nil16⟩ rfl)
    generalize ps.all Hst.lab = ok at *
    have HF : Hid (ok = false → ∀ w', Below w.heap.size w w' → NewHost (if ok = true then some ⟨1, ul, Hst.nil16⟩ else none) w (.returned (.tuple #[.agg (hostA Hst.zero), .int .i64 31])) w') := Lib.hid (fun h w' hb => by subst h; exact newHost_of rfl rfl hb)
    have HTT : Hid (ok = true → ∀ w', Below w.heap.size w w' → NewHost (if ok = true then some ⟨1, ul, Hst.nil16⟩ else none) w (.returned (.tuple #[.agg (hostA ⟨1, ul, Hst.nil16⟩), .int .i64 0])) w') := Lib.hid (fun h w' hb => by subst h; exact newHost_of rfl rfl hb)
    generalize NewHost (if ok = true then some ⟨1, ul, Hst.nil16⟩ else none) w = post at *
    go_enter Tryz.func17, Tryz.ntmps17
    go_wp2_with fail
    have R0 := Row.new w 45 (hostA Hst.zero)
    have B0 := (Below.refl w.heap.size w).alloc (Nat.le_refl _) (.cells (hostA Hst.zero) 45)
    generalize w.alloc (.cells (hostA Hst.zero) 45) = w0 at *
    refine (H1.out _).mono ?_
    rintro e v1 ⟨rfl, rfl⟩
    go_wp2_with fail
    refine (H3.out _).mono ?_
    rintro e v2 ⟨g, cap, rfl, hown, d2⟩
    have R1 := R0.stays d2
    have B1 := B0.trans (d2.mono B0.size)
    have hcell := own_text (k := ps.length - 1) hown HP.out HT.out
    have hcap := own_cap hown
    have HOWN := Lib.hid hown
    clear hown d2 R0 B0
    go_wp2_with fail
    refine (H4.out _).mono ?_
    rintro e v3 ⟨rfl, rfl⟩
    go_wp2_with fail
    refine (HNM.out _ _ _ _ HOWN.out).mono ?_
    rintro e v4 ⟨rfl, d4⟩
    have R2 := R1.stays d4
    have B2 := B1.trans (d4.mono B1.size)
    clear R1 B1 d4 hcell
    cases ok with
    | false =>
      go_wp2_with (first
        | (refine wpList_store_row rfl 45 _ _ rfl w.heap.size (hostA Hst.zero) rfl rfl 45 _ R2 (by rw [HZ0.out]; exact infoHost) rfl (hostA_one _) ?_))
      exact bodyPost_ret (v := .tuple #[.agg (hostA Hst.zero), .int .i64 31]) (results_cell_two rfl _ _ w.heap.size _ _ _ rfl _ rfl (R2.whole _) Tryz.underlying45 rfl (by rw [HZ0.out]; exact infoHost)) rfl (HF.out (by trivial) _ (below_setRow B2 (Nat.le_refl _) _))
    | true =>
      go_wp2_with fail
      refine (H7.out _).mono ?_
      rintro e v5 ⟨rfl, d5⟩
      have R3 := R2.stays d5
      have B3 := B2.trans (d5.mono B2.size)
      go_wp2_with (first
        | (refine at_slot 40 rfl ?_; refine build_two rfl 45 0 1 _ _ rfl _ _ rfl rfl (hostA ⟨1, ul, Hst.nil16⟩) HB.out ?_)
        | (refine wpList_store_row rfl 45 _ _ rfl w.heap.size (hostA ⟨1, ul, Hst.nil16⟩) rfl rfl 45 _ R3 (by rw [HXZ.out]; exact infoHost) rfl (hostA_one _) ?_))
      exact bodyPost_ret (v := .tuple #[.agg (hostA ⟨1, ul, Hst.nil16⟩), .int .i64 0]) (results_cell_two rfl _ _ w.heap.size _ _ _ rfl _ rfl (R3.whole _) Tryz.underlying45 rfl (by rw [HXZ.out]; exact infoHost)) rfl (HTT.out (by trivial) _ (below_setRow B3 (Nat.le_refl _) _))
end Go.Proofs.YtjfipedcjahbkaaGreatDoor
