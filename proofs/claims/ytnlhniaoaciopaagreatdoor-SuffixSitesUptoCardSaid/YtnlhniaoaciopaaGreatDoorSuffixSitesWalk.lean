/- The walk of the law SuffixSites. -/
import Derived.Test.YtnlhniaoaciopaaGreatDoorSuffixAlive
import Derived.Test.YtnlhniaoaciopaaGreatDoorRefHosts
import Derived.Test.YtnlhniaoaciopaaGreatDoorRefHostUnder
import Derived.Test.YtnlhniaoaciopaaGreatDoorRefs6
import Derived.Test.YtnlhniaoaciopaaGreatDoorRefRule
import Derived.Test.YtnlhniaoaciopaaGreatDoorSitesPlain
import Derived.Deep.RegionHeld
namespace Go.Proofs.YtnlhniaoaciopaaGreatDoor
open Go.RowKit Go.Maps
theorem Hst.parse_few (l : List UInt8) : (Hst.host (Hst.parse l)).name.length ≤ l.length := by
  unfold Hst.parse
  split
  · exact Nat.zero_le _
  · split
    · rw [Hst.v6part_eq]; split <;> exact Nat.zero_le _
    · split
      · rw [Hst.v4part_eq]; split <;> exact Nat.zero_le _
      · split
        · exact Nat.le_of_eq (List.length_map ..)
        · exact Nat.zero_le _
theorem rparse_is (d : ByteArray) (W : World) (hd : d.data.toList.length ≤ 1048576) : Calls Tryz.prog 18 #[.string d] W fun e w' => e = .returned (.tuple #[.agg (hostA (Hst.host (Hst.parse d.data.toList))), .int .i64 (Hst.code (Hst.parse d.data.toList))]) ∧ Below W.heap.size W w' :=
  refParse_calls d W (by simpa using hd)
theorem name_is (l : List UInt8) (W : World) : Calls Tryz.prog 20 #[.string ⟨l.toArray⟩] W fun e w' => e = .returned (.agg (hostA ⟨1, l, Hst.nil16⟩)) ∧ Below W.heap.size W w' := lawName_calls ⟨l.toArray⟩ W
theorem labels_are (h : Hst.Host) (ha : h.addr.length = 16) (hs : h.name.length ≤ 100000) {n : Nat} (hn : (Hst.labels h).length = n) (W : World) :
    Calls Tryz.prog 22 #[.agg (hostA h)] W fun e w' => (∃ A c, e = .returned (.slice A n c)) ∧ Below W.heap.size W w' :=
  (refLabels_calls h ha hs W).mono fun e w' ⟨v, he, hown, hb⟩ => by
    rw [hn] at hown
    refine ⟨?_, hb⟩
    rcases hown.2 with ⟨rfl, h0⟩ | ⟨g, cap, cur, rfl, _⟩
    · exact ⟨none, 0, by rw [he, h0]⟩
    · exact ⟨_, _, he⟩
set_option maxRecDepth 100000 in
set_option maxHeartbeats 8000000 in
theorem ssites_walk (rs : List Ru.Rule) (d : ByteArray) (w : World) (v : Value) (hv : HoldsRules w v rs ∧ rs.length ≤ maxLen ∧ ∀ r ∈ rs, r.name.length ≤ maxLen) (_hd : d.size ≤ maxLen) (hsm : d.data.toList.length ≤ 1048576) (hw : Std w) :
    Calls Tryz.prog 5 #[v, .string d] w fun e w' => e = .returned (.bool true) ∧ Below w.heap.size w w' := by
  have HA := Lib.hid suffix_alive
  unfold BoolPost at HA
  have z0 := zeroHost
  have HP := Lib.hid (fun W => rparse_is d W hsm)
  have ha := Hst.parse_length d.data.toList
  have hf0 := Hst.parse_few d.data.toList
  have hds : d.data.toList.length = d.size := by simp
  obtain ⟨o, ho⟩ : ∃ o, Hst.parse d.data.toList = o := ⟨_, rfl⟩
  rw [ho] at HP ha hf0
  have HG := Lib.hid (fun W hV => great_calls rs v (Hst.host o) W hV hv.2.1 (by unfold maxLen; omega) hv.2.2)
  unfold BoolPost at HG
  have HV := hv.1
  have HH := Lib.hid (show (Tryz.prog.info? 26).map (·.size) = some (hostA (Hst.host o)).size by rw [hostA_size _ ha]; exact infoHost)
  have HZ : Hid ((hostA Hst.zero).size = (hostA (Hst.host o)).size) := Lib.hid (by rw [hostA_size _ ha]; rfl)
  have HO := Lib.hid (hostA_one (Hst.host o))
  by_cases hg : greatB rs (Hst.host o) = true
  case pos =>
    rw [hg] at HG
    clear hg hv hf0 ho hds ha _hd hsm
    generalize Hst.code o = c at *
    generalize hostA (Hst.host o) = X at *
    go_enter Tryz.func5, Tryz.ntmps5
    go_wp2_with fail
    refine (HA.out _ hw).mono ?_
    rintro e x0 ⟨rfl, d0⟩
    have V0 := HV.stays d0
    go_wp2_with fail
    refine (HP.out _).mono ?_
    rintro e x1 ⟨rfl, d1⟩
    have B1 := d0.trans (d1.mono d0.size)
    have V1 := V0.stays d1
    obtain ⟨T2, U2, C2, _⟩ := lay_row 26 (hostA Hst.zero) X B1 B1.size
    have V2 : HoldsRules ((x1.alloc (.cells (hostA Hst.zero) 26)).setRow x1.heap.size X) v rs := V1.stays (below_setRow ((Below.refl _ _).alloc (Nat.le_refl _) _) (Nat.le_refl _) _)
    clear V0 V1 B1 d0 d1
    go_wp2_with (first
      | (refine at_none rfl ?_; refine wpList_store_row rfl 26 _ _ rfl x1.heap.size X rfl rfl 26 _ T2 HH.out HZ.out HO.out ?_)
      | (refine at_slot 18 rfl ?_; refine load_row rfl 26 _ rfl x1.heap.size rfl U2 Tryz.underlying26 rfl HH.out ?_))
    generalize (x1.alloc (.cells (hostA Hst.zero) 26)).setRow x1.heap.size X = x2 at *
    generalize x1.heap.size = g2 at *
    clear T2
    refine (HG.out _ V2).mono ?_
    rintro e x3 ⟨rfl, d3⟩
    have B3 := C2.trans (d3.mono C2.size)
    have U3 := U2.stays d3
    have V3 := V2.stays d3
    clear C2 U2 V2 d3
    go_wp2
    go_ret
    exact ⟨rfl, B3⟩
  have hg : greatB rs (Hst.host o) = false := by simpa using hg
  rw [hg] at HG
  by_cases hl : 400 < d.size
  case pos =>
    have hli : (400 : Int) < (d.size : Int) := by omega
    clear hg hv hf0 ho hds ha hl _hd hsm
    generalize Hst.code o = c at *
    generalize hostA (Hst.host o) = X at *
    go_enter Tryz.func5, Tryz.ntmps5
    go_wp2_with fail
    refine (HA.out _ hw).mono ?_
    rintro e x0 ⟨rfl, d0⟩
    have V0 := HV.stays d0
    go_wp2_with fail
    refine (HP.out _).mono ?_
    rintro e x1 ⟨rfl, d1⟩
    have B1 := d0.trans (d1.mono d0.size)
    have V1 := V0.stays d1
    obtain ⟨T2, U2, C2, _⟩ := lay_row 26 (hostA Hst.zero) X B1 B1.size
    have V2 : HoldsRules ((x1.alloc (.cells (hostA Hst.zero) 26)).setRow x1.heap.size X) v rs := V1.stays (below_setRow ((Below.refl _ _).alloc (Nat.le_refl _) _) (Nat.le_refl _) _)
    clear V0 V1 B1 d0 d1
    go_wp2_with (first
      | (refine at_none rfl ?_; refine wpList_store_row rfl 26 _ _ rfl x1.heap.size X rfl rfl 26 _ T2 HH.out HZ.out HO.out ?_)
      | (refine at_slot 18 rfl ?_; refine load_row rfl 26 _ rfl x1.heap.size rfl U2 Tryz.underlying26 rfl HH.out ?_))
    generalize (x1.alloc (.cells (hostA Hst.zero) 26)).setRow x1.heap.size X = x2 at *
    generalize x1.heap.size = g2 at *
    clear T2
    refine (HG.out _ V2).mono ?_
    rintro e x3 ⟨rfl, d3⟩
    have B3 := C2.trans (d3.mono C2.size)
    have U3 := U2.stays d3
    have V3 := V2.stays d3
    clear C2 U2 V2 d3
    go_wp2
    go_ret
    exact ⟨rfl, B3⟩
  have hli : ¬ (400 : Int) < (d.size : Int) := by omega
  cases o with
  | none =>
    have hc : Hst.code none = 31 := rfl
    rw [hc] at HP
    clear hc hg hv hf0 ho hds ha hl _hd hsm
    generalize hostA (Hst.host none) = X at *
    go_enter Tryz.func5, Tryz.ntmps5
    go_wp2_with fail
    refine (HA.out _ hw).mono ?_
    rintro e x0 ⟨rfl, d0⟩
    have V0 := HV.stays d0
    go_wp2_with fail
    refine (HP.out _).mono ?_
    rintro e x1 ⟨rfl, d1⟩
    have B1 := d0.trans (d1.mono d0.size)
    have V1 := V0.stays d1
    obtain ⟨T2, U2, C2, _⟩ := lay_row 26 (hostA Hst.zero) X B1 B1.size
    have V2 : HoldsRules ((x1.alloc (.cells (hostA Hst.zero) 26)).setRow x1.heap.size X) v rs := V1.stays (below_setRow ((Below.refl _ _).alloc (Nat.le_refl _) _) (Nat.le_refl _) _)
    clear V0 V1 B1 d0 d1
    go_wp2_with (first
      | (refine at_none rfl ?_; refine wpList_store_row rfl 26 _ _ rfl x1.heap.size X rfl rfl 26 _ T2 HH.out HZ.out HO.out ?_)
      | (refine at_slot 18 rfl ?_; refine load_row rfl 26 _ rfl x1.heap.size rfl U2 Tryz.underlying26 rfl HH.out ?_))
    generalize (x1.alloc (.cells (hostA Hst.zero) 26)).setRow x1.heap.size X = x2 at *
    generalize x1.heap.size = g2 at *
    clear T2
    refine (HG.out _ V2).mono ?_
    rintro e x3 ⟨rfl, d3⟩
    have B3 := C2.trans (d3.mono C2.size)
    have U3 := U2.stays d3
    have V3 := V2.stays d3
    clear C2 U2 V2 d3
    go_wp2
    go_ret
    exact ⟨rfl, B3⟩
  | some h =>
    have hc : Hst.code (some h) = 0 := rfl
    have hh : Hst.host (some h) = h := rfl
    rw [hc, hh] at HP
    rw [hh] at HG HH HZ HO hg hf0 ha
    obtain ⟨g1, g2, g3⟩ := great_no hg
    have hrm : ∀ r ∈ rs, r.name.length ≤ 1000 := fun r hr => by have := g1 r hr; omega
    have HN := Lib.hid (fun W hW hV => new_calls rs v W hW hV (by omega) hrm)
    unfold NewTable at HN
    have P1 := Lib.hid (fun n₀ tb mb W hW hT => suffix_calls (Sx.new rs) h n₀ tb mb W hW ha (by omega) hT)
    unfold SufPost at P1
    have P2 := Lib.hid (fun n₀ tb mb W hW hT => public_calls (Sx.new rs) h n₀ tb mb W hW ha (by omega) hT)
    have P3 := Lib.hid (fun n₀ tb mb W hW hT => site_calls (Sx.new rs) h n₀ tb mb W hW ha (by omega) hT)
    have HKD := Lib.hid (fun W g (R : Row W g 26 (hostA h)) => show W.cell? ⟨g, 0, none⟩ = some (.int .i64 h.kind) by rw [R.cell, hostA_kind])
    by_cases hk : h.kind = 1
    case neg =>
      obtain ⟨e1, e2, e3⟩ := Sx.sites_addr ho hk rs
      rw [e1] at P1 P2 P3
      rw [e2] at P2
      rw [e3] at P3
      obtain ⟨st, hst⟩ : ∃ st : ByteArray, st = ⟨(Hst.text h).toArray⟩ := ⟨_, rfl⟩
      have HT := Lib.hid (fun W => refText_calls h ha st hst W)
      rw [← hst] at P3
      have hkb : (h.kind == 1) = false := by simpa using hk
      have hkn : (h.kind != 1) = true := by simpa using hk
      generalize h.kind = kd at *
      clear hg hv hf0 ho hds ha hl _hd hsm e1 e2 e3 hst g1 g2 g3 hrm hc hh
      generalize hostA h = X at *
      go_enter Tryz.func5, Tryz.ntmps5
      go_wp2_with fail
      refine (HA.out _ hw).mono ?_
      rintro e x0 ⟨rfl, d0⟩
      have V0 := HV.stays d0
      go_wp2_with fail
      refine (HP.out _).mono ?_
      rintro e x1 ⟨rfl, d1⟩
      have B1 := d0.trans (d1.mono d0.size)
      have V1 := V0.stays d1
      obtain ⟨T2, U2, C2, _⟩ := lay_row 26 (hostA Hst.zero) X B1 B1.size
      have V2 : HoldsRules ((x1.alloc (.cells (hostA Hst.zero) 26)).setRow x1.heap.size X) v rs := V1.stays (below_setRow ((Below.refl _ _).alloc (Nat.le_refl _) _) (Nat.le_refl _) _)
      clear V0 V1 B1 d0 d1
      go_wp2_with (first
        | (refine at_none rfl ?_; refine wpList_store_row rfl 26 _ _ rfl x1.heap.size X rfl rfl 26 _ T2 HH.out HZ.out HO.out ?_)
        | (refine at_slot 18 rfl ?_; refine load_row rfl 26 _ rfl x1.heap.size rfl U2 Tryz.underlying26 rfl HH.out ?_))
      generalize (x1.alloc (.cells (hostA Hst.zero) 26)).setRow x1.heap.size X = x2 at *
      generalize x1.heap.size = g2 at *
      clear T2
      refine (HG.out _ V2).mono ?_
      rintro e x3 ⟨rfl, d3⟩
      have B3 := C2.trans (d3.mono C2.size)
      have U3 := U2.stays d3
      have V3 := V2.stays d3
      clear C2 U2 V2 d3
      go_wp2_with fail
      refine (HN.out _ (hw.below B3) V3).mono ?_
      rintro e x4 ⟨tb, mb, rfl, T4, d4⟩
      have B4 := B3.trans (d4.mono B3.size)
      have U4 := U3.stays d4
      go_wp2_with (refine at_slot 32 rfl ?_; refine load_row rfl 26 _ rfl g2 rfl U4 Tryz.underlying26 rfl HH.out ?_)
      refine (P3.out _ tb mb _ (hw.below B4) T4).mono ?_
      rintro e x5 ⟨rfl, d5⟩
      have B5 := B4.trans (d5.mono B4.size)
      have U5 := U4.stays d5
      have T5 := T4.stays d5
      go_wp2_with (refine at_slot 35 rfl ?_; refine load_row rfl 26 _ rfl g2 rfl U5 Tryz.underlying26 rfl HH.out ?_)
      refine (P2.out _ tb mb _ (hw.below B5) T5).mono ?_
      rintro e x6 ⟨rfl, d6⟩
      have B6 := B5.trans (d6.mono B5.size)
      have U6 := U5.stays d6
      have T6 := T5.stays d6
      have c6 := HKD.out _ _ U6
      clear U3 U4 U5 T4 T5 B3 B4 B5 d4 d5 d6 V3
      go_wp2_with (refine at_slot 48 rfl ?_; refine load_row rfl 26 _ rfl g2 rfl U6 Tryz.underlying26 rfl HH.out ?_)
      refine (HT.out _).mono ?_
      rintro e x7 ⟨rfl, d7⟩
      have B7 := B6.trans (d7.mono B6.size)
      have U7 := U6.stays d7
      have T7 := T6.stays d7
      go_wp2_with (refine at_slot 53 rfl ?_; refine load_row rfl 26 _ rfl g2 rfl U7 Tryz.underlying26 rfl HH.out ?_)
      refine (P1.out _ tb mb _ (hw.below B7) T7).mono ?_
      rintro e x8 ⟨rfl, d8⟩
      have B8 := B7.trans (d8.mono B7.size)
      go_wp2
      go_ret
      exact ⟨rfl, B8⟩
    obtain ⟨e1, e2⟩ := Sx.sites_name ho hk rs
    rw [hk] at HKD
    by_cases hpb : Sx.isPublic (Sx.suffix (Sx.new rs) h) h = true
    case pos =>
      rw [hpb] at P2
      rw [e1 hpb] at P3
      clear hg hv hf0 ho hds ha hl _hd hsm e1 e2 g1 g2 g3 hrm hc hh hk hpb P1
      generalize hostA h = X at *
      go_enter Tryz.func5, Tryz.ntmps5
      go_wp2_with fail
      refine (HA.out _ hw).mono ?_
      rintro e x0 ⟨rfl, d0⟩
      have V0 := HV.stays d0
      go_wp2_with fail
      refine (HP.out _).mono ?_
      rintro e x1 ⟨rfl, d1⟩
      have B1 := d0.trans (d1.mono d0.size)
      have V1 := V0.stays d1
      obtain ⟨T2, U2, C2, _⟩ := lay_row 26 (hostA Hst.zero) X B1 B1.size
      have V2 : HoldsRules ((x1.alloc (.cells (hostA Hst.zero) 26)).setRow x1.heap.size X) v rs := V1.stays (below_setRow ((Below.refl _ _).alloc (Nat.le_refl _) _) (Nat.le_refl _) _)
      clear V0 V1 B1 d0 d1
      go_wp2_with (first
        | (refine at_none rfl ?_; refine wpList_store_row rfl 26 _ _ rfl x1.heap.size X rfl rfl 26 _ T2 HH.out HZ.out HO.out ?_)
        | (refine at_slot 18 rfl ?_; refine load_row rfl 26 _ rfl x1.heap.size rfl U2 Tryz.underlying26 rfl HH.out ?_))
      generalize (x1.alloc (.cells (hostA Hst.zero) 26)).setRow x1.heap.size X = x2 at *
      generalize x1.heap.size = g2 at *
      clear T2
      refine (HG.out _ V2).mono ?_
      rintro e x3 ⟨rfl, d3⟩
      have B3 := C2.trans (d3.mono C2.size)
      have U3 := U2.stays d3
      have V3 := V2.stays d3
      clear C2 U2 V2 d3
      go_wp2_with fail
      refine (HN.out _ (hw.below B3) V3).mono ?_
      rintro e x4 ⟨tb, mb, rfl, T4, d4⟩
      have B4 := B3.trans (d4.mono B3.size)
      have U4 := U3.stays d4
      go_wp2_with (refine at_slot 32 rfl ?_; refine load_row rfl 26 _ rfl g2 rfl U4 Tryz.underlying26 rfl HH.out ?_)
      refine (P3.out _ tb mb _ (hw.below B4) T4).mono ?_
      rintro e x5 ⟨rfl, d5⟩
      have B5 := B4.trans (d5.mono B4.size)
      have U5 := U4.stays d5
      have T5 := T4.stays d5
      go_wp2_with (refine at_slot 35 rfl ?_; refine load_row rfl 26 _ rfl g2 rfl U5 Tryz.underlying26 rfl HH.out ?_)
      refine (P2.out _ tb mb _ (hw.below B5) T5).mono ?_
      rintro e x6 ⟨rfl, d6⟩
      have B6 := B5.trans (d6.mono B5.size)
      have U6 := U5.stays d6
      have T6 := T5.stays d6
      have c6 := HKD.out _ _ U6
      clear U3 U4 U5 T4 T5 B3 B4 B5 d4 d5 d6 V3
      go_wp2
      go_ret
      exact ⟨rfl, B6⟩
    have hpb : Sx.isPublic (Sx.suffix (Sx.new rs) h) h = false := by simpa using hpb
    obtain ⟨f1, f2, f3⟩ := e2 hpb
    rw [hpb] at P2
    have hsl := Sx.suffix_le rs h
    generalize Sx.suffix (Sx.new rs) h = k at *
    have HL := Lib.hid (fun W => name_is (Sx.site k h) W)
    have hda : (⟨1, Sx.site k h, Hst.nil16⟩ : Hst.Host).addr.length = 16 := rfl
    have HLB := Lib.hid (fun W => labels_are ⟨1, Sx.site k h, Hst.nil16⟩ hda (by show (Sx.site k h).length ≤ _; omega) f1 W)
    have HU := Lib.hid (fun W => refUnder_calls h ⟨1, Sx.site k h, Hst.nil16⟩ ha hda (by omega) (by show (Sx.site k h).length ≤ _; omega) W)
    rw [← Hst.under_ref] at HU
    have q1 := eql_host ⟨1, Sx.site k h, Hst.nil16⟩ h hda ha
    have HD := Lib.hid (show (Tryz.prog.info? 26).map (·.size) = some (hostA ⟨1, Sx.site k h, Hst.nil16⟩).size by rw [hostA_size _ hda]; exact infoHost)
    have HDZ : Hid ((hostA Hst.zero).size = (hostA ⟨1, Sx.site k h, Hst.nil16⟩).size) := Lib.hid (by rw [hostA_size _ hda]; rfl)
    have HDO := Lib.hid (hostA_one ⟨1, Sx.site k h, Hst.nil16⟩)
    have hwr : IntKind.i64.wrap ((k : Int) + 1) = ((k + 1 : Nat) : Int) := by rw [IntKind.wrap_i64]; omega
    by_cases heq : (⟨1, Sx.site k h, Hst.nil16⟩ : Hst.Host) = h
    case pos =>
      rw [decide_eq_true heq] at q1
      clear hg hv hf0 ho hds ha hl _hd hsm e1 e2 g1 g2 g3 hrm hc hh hk hpb f1 f2 f3 hda heq HU hsl
      generalize hostA ⟨1, Sx.site k h, Hst.nil16⟩ = Y at *
      generalize (⟨(Sx.site k h).toArray⟩ : ByteArray) = st at *
      generalize hostA h = X at *
      generalize k + 1 = m at *
      go_enter Tryz.func5, Tryz.ntmps5
      go_wp2_with fail
      refine (HA.out _ hw).mono ?_
      rintro e x0 ⟨rfl, d0⟩
      have V0 := HV.stays d0
      go_wp2_with fail
      refine (HP.out _).mono ?_
      rintro e x1 ⟨rfl, d1⟩
      have B1 := d0.trans (d1.mono d0.size)
      have V1 := V0.stays d1
      obtain ⟨T2, U2, C2, _⟩ := lay_row 26 (hostA Hst.zero) X B1 B1.size
      have V2 : HoldsRules ((x1.alloc (.cells (hostA Hst.zero) 26)).setRow x1.heap.size X) v rs := V1.stays (below_setRow ((Below.refl _ _).alloc (Nat.le_refl _) _) (Nat.le_refl _) _)
      clear V0 V1 B1 d0 d1
      go_wp2_with (first
        | (refine at_none rfl ?_; refine wpList_store_row rfl 26 _ _ rfl x1.heap.size X rfl rfl 26 _ T2 HH.out HZ.out HO.out ?_)
        | (refine at_slot 18 rfl ?_; refine load_row rfl 26 _ rfl x1.heap.size rfl U2 Tryz.underlying26 rfl HH.out ?_))
      generalize (x1.alloc (.cells (hostA Hst.zero) 26)).setRow x1.heap.size X = x2 at *
      generalize x1.heap.size = g2 at *
      clear T2
      refine (HG.out _ V2).mono ?_
      rintro e x3 ⟨rfl, d3⟩
      have B3 := C2.trans (d3.mono C2.size)
      have U3 := U2.stays d3
      have V3 := V2.stays d3
      clear C2 U2 V2 d3
      go_wp2_with fail
      refine (HN.out _ (hw.below B3) V3).mono ?_
      rintro e x4 ⟨tb, mb, rfl, T4, d4⟩
      have B4 := B3.trans (d4.mono B3.size)
      have U4 := U3.stays d4
      go_wp2_with (refine at_slot 32 rfl ?_; refine load_row rfl 26 _ rfl g2 rfl U4 Tryz.underlying26 rfl HH.out ?_)
      refine (P3.out _ tb mb _ (hw.below B4) T4).mono ?_
      rintro e x5 ⟨rfl, d5⟩
      have B5 := B4.trans (d5.mono B4.size)
      have U5 := U4.stays d5
      have T5 := T4.stays d5
      go_wp2_with (refine at_slot 35 rfl ?_; refine load_row rfl 26 _ rfl g2 rfl U5 Tryz.underlying26 rfl HH.out ?_)
      refine (P2.out _ tb mb _ (hw.below B5) T5).mono ?_
      rintro e x6 ⟨rfl, d6⟩
      have B6 := B5.trans (d6.mono B5.size)
      have U6 := U5.stays d6
      have T6 := T5.stays d6
      have c6 := HKD.out _ _ U6
      clear U3 U4 U5 T4 T5 B3 B4 B5 d4 d5 d6 V3
      go_wp2_with fail
      refine (HL.out _).mono ?_
      rintro e x7 ⟨rfl, d7⟩
      have B7 := B6.trans (d7.mono B6.size)
      have U7 := U6.stays d7
      obtain ⟨T8, U8, C8, L8⟩ := lay_row 26 (hostA Hst.zero) Y B7 B7.size
      have X8 := L8 _ _ _ U7
      have T9 := (T6.stays d7).stays (below_setRow ((Below.refl x7.heap.size x7).alloc (Nat.le_refl _) (.cells (hostA Hst.zero) 26)) (Nat.le_refl _) Y)
      clear B7 U7 L8 d7 c6 U6 T6 B6
      go_wp2_with (refine at_none rfl ?_; refine wpList_store_row rfl 26 _ _ rfl x7.heap.size Y rfl rfl 26 _ T8 HD.out HDZ.out HDO.out ?_)
      generalize (x7.alloc (.cells (hostA Hst.zero) 26)).setRow x7.heap.size Y = x8 at *
      generalize x7.heap.size = g8 at *
      have S8 := hw.below C8
      have RX := Lib.hid (fun W (hC : Below x8.heap.size x8 W) => X8.stays hC)
      have RY := Lib.hid (fun W (hC : Below x8.heap.size x8 W) => U8.stays hC)
      have CS := Lib.hid (fun W (hC : Below x8.heap.size x8 W) => P1.out _ tb mb W (S8.below hC) (T9.stays hC))
      clear T8 U8 X8 T9 P1 P2 P3 HA HP HG HN HL HKD
      refine wp_region_held_drew (S := fun W => Below x8.heap.size x8 W) (by kernel_rfl) (Below.refl _ _).drew (fun hS => ?_)
      generalize x8.drew = u0 at *
      refine wpAnyH_take (i := 0) rfl (by kernel_rfl) (by kernel_rfl) (by kernel_rfl) (fun _ _ _ h => h) (yields_row (by rfl) _ _ rfl _ rfl RY.out Tryz.underlying26 rfl HD.out) (by assumption) ?_
      simp only [Act.put, List.setIfInBounds_toArray, List.set_cons_zero, List.set_cons_succ, List.getElem_toArray, List.getElem_cons_zero]
      refine wpAnyH_take (i := 1) rfl (by kernel_rfl) (by kernel_rfl) (by kernel_rfl) (fun _ _ _ h => h) (yields_row (by rfl) _ _ rfl _ rfl RX.out Tryz.underlying26 rfl HH.out) (by assumption) ?_
      simp only [Act.put, List.setIfInBounds_toArray, List.set_cons_zero, List.set_cons_succ, List.getElem_toArray, List.getElem_cons_zero, List.getElem_cons_succ]
      refine wpAnyH_take (i := 2) (v := ?_) rfl (by kernel_rfl) (by kernel_rfl) (by kernel_rfl) (fun _ _ _ h => h) (Or.inl ⟨by rfl, ?_⟩) (by assumption) ?_
      rotate_left
      · intro _ _; go_simp; with_reducible rfl
      simp only [Act.put, List.setIfInBounds_toArray, List.set_cons_zero, List.set_cons_succ, List.getElem_toArray, List.getElem_cons_zero, List.getElem_cons_succ]
      refine wpAnyH_take (i := 3) (v := ?_) rfl (by kernel_rfl) (by kernel_rfl) (by kernel_rfl) (fun _ _ _ h => h) (Or.inl ⟨by rfl, ?_⟩) (by assumption) ?_
      rotate_left
      · intro _ _; go_simp; with_reducible rfl
      simp only [Act.put, List.setIfInBounds_toArray, List.set_cons_zero, List.set_cons_succ, List.getElem_toArray, List.getElem_cons_zero, List.getElem_cons_succ]
      refine wpAnyH_take (i := 4) rfl (by kernel_rfl) (by kernel_rfl) (by kernel_rfl) (fun _ _ _ h => h) (Or.inr ⟨by rfl, rfl⟩) (by assumption) ?_
      simp only [Act.put, List.setIfInBounds_toArray, List.set_cons_zero, List.set_cons_succ, List.getElem_toArray, List.getElem_cons_zero, List.getElem_cons_succ]
      refine wpAnyH_take (i := 5) rfl (by kernel_rfl) (by kernel_rfl) (by kernel_rfl) (fun _ _ _ h => h) (Or.inr ⟨by rfl, rfl⟩) (by assumption) ?_
      simp only [Act.put, List.setIfInBounds_toArray, List.set_cons_zero, List.set_cons_succ, List.getElem_toArray, List.getElem_cons_zero, List.getElem_cons_succ]
      refine wpAnyH_take (i := 6) rfl (by kernel_rfl) (by kernel_rfl) (by kernel_rfl) (fun _ _ _ h => h) (Or.inr ⟨by rfl, rfl⟩) (by assumption) ?_
      simp only [Act.put, List.setIfInBounds_toArray, List.set_cons_zero, List.set_cons_succ, List.getElem_toArray, List.getElem_cons_zero, List.getElem_cons_succ]
      refine wpAnyH_take (i := 7) (v := ?_) rfl (by kernel_rfl) (by kernel_rfl) (by kernel_rfl) (fun _ _ _ h => h) (Or.inl ⟨by rfl, ?_⟩) (by assumption) ?_
      rotate_left
      · intro _ _; go_simp; with_reducible rfl
      simp only [Act.put, List.setIfInBounds_toArray, List.set_cons_zero, List.set_cons_succ, List.getElem_toArray, List.getElem_cons_zero, List.getElem_cons_succ]
      refine wpAnyH_take (i := 8) (v := ?_) rfl (by kernel_rfl) (by kernel_rfl) (by kernel_rfl) (fun _ _ _ h => h) (Or.inl ⟨by rfl, ?_⟩) (by assumption) ?_
      rotate_left
      · intro _ _; go_simp; with_reducible rfl
      simp only [Act.put, List.setIfInBounds_toArray, List.set_cons_zero, List.set_cons_succ, List.getElem_toArray, List.getElem_cons_zero, List.getElem_cons_succ]
      refine wpAnyH_take (i := 9) rfl (by kernel_rfl) (by kernel_rfl) (by kernel_rfl) (fun _ _ _ h => h) (yields_row (by rfl) _ _ rfl _ rfl RY.out Tryz.underlying26 rfl HD.out) (by assumption) ?_
      simp only [Act.put, List.setIfInBounds_toArray, List.set_cons_zero, List.set_cons_succ, List.getElem_toArray, List.getElem_cons_zero, List.getElem_cons_succ]
      refine wpAnyH_take (i := 12) (v := ?_) rfl (by kernel_rfl) (by kernel_rfl) (by kernel_rfl) (fun _ _ _ h => h) (Or.inl ⟨by rfl, ?_⟩) (by assumption) ?_
      rotate_left
      · intro _ _; go_simp; with_reducible rfl
      simp only [Act.put, List.setIfInBounds_toArray, List.set_cons_zero, List.set_cons_succ, List.getElem_toArray, List.getElem_cons_zero, List.getElem_cons_succ]
      refine wpAnyH_take (i := 13) rfl (by kernel_rfl) (by kernel_rfl) (by kernel_rfl) (fun _ _ _ h => h) (yields_row (by rfl) _ _ rfl _ rfl RX.out Tryz.underlying26 rfl HH.out) (by assumption) ?_
      simp only [Act.put, List.setIfInBounds_toArray, List.set_cons_zero, List.set_cons_succ, List.getElem_toArray, List.getElem_cons_zero, List.getElem_cons_succ]
      refine wpAnyH_ready (rs := [10]) (by kernel_rfl) (by simp) (AllReadyH.cons rfl (fun K hK => ?_) AllReadyH.nil)
      rw [if_pos (by rfl)]
      go_simp
      refine (HLB.out _).mono ?_
      rintro e y1 ⟨⟨A, cp, rfl⟩, d1⟩
      have S1 := hS.trans (d1.mono hS.size)
      go_wp2_with fail
      refine hK.out _ _ S1 (fun _ => ?_)
      clear hK K
      refine wpAnyH_take (i := 11) (v := ?_) rfl (by kernel_rfl) (by kernel_rfl) (by kernel_rfl) (fun _ _ _ h => h) (Or.inl ⟨by rfl, ?_⟩) (by assumption) ?_
      rotate_left
      · intro _ _; go_simp; with_reducible rfl
      simp only [Act.put, List.setIfInBounds_toArray, List.set_cons_zero, List.set_cons_succ, List.getElem_toArray, List.getElem_cons_zero, List.getElem_cons_succ]
      refine wpAnyH_ready (rs := [14]) (by kernel_rfl) (by simp) (AllReadyH.cons rfl (fun K hK => ?_) AllReadyH.nil)
      rw [if_pos (by rfl)]
      go_simp
      refine (CS.out _ S1).mono ?_
      rintro e y2 ⟨rfl, d2⟩
      have S2 := S1.trans (d2.mono S1.size)
      go_wp2_with fail
      refine hK.out _ _ S2 (fun _ => ?_)
      clear hK K
      refine wpAnyH_take (i := 15) (v := ?_) rfl (by kernel_rfl) (by kernel_rfl) (by kernel_rfl) (fun _ _ _ h => h) (Or.inl ⟨by rfl, ?_⟩) (by assumption) ?_
      rotate_left
      · intro _ _; go_simp; with_reducible rfl
      simp only [Act.put, List.setIfInBounds_toArray, List.set_cons_zero, List.set_cons_succ, List.getElem_toArray, List.getElem_cons_zero, List.getElem_cons_succ]
      refine wpAnyH_take (i := 16) (v := ?_) rfl (by kernel_rfl) (by kernel_rfl) (by kernel_rfl) (fun _ _ _ h => h) (Or.inl ⟨by rfl, ?_⟩) (by assumption) ?_
      rotate_left
      · intro _ _; go_simp; with_reducible rfl
      simp only [Act.put, List.setIfInBounds_toArray, List.set_cons_zero, List.set_cons_succ, List.getElem_toArray, List.getElem_cons_zero, List.getElem_cons_succ]
      refine wpAnyH_take (i := 17) (v := ?_) rfl (by kernel_rfl) (by kernel_rfl) (by kernel_rfl) (fun _ _ _ h => h) (Or.inl ⟨by rfl, ?_⟩) (by assumption) ?_
      rotate_left
      · intro _ _; go_simp; with_reducible rfl
      simp only [Act.put, List.setIfInBounds_toArray, List.set_cons_zero, List.set_cons_succ, List.getElem_toArray, List.getElem_cons_zero, List.getElem_cons_succ]
      refine wpAnyH_take (i := 18) (v := ?_) rfl (by kernel_rfl) (by kernel_rfl) (by kernel_rfl) (fun _ _ _ h => h) (Or.inl ⟨by rfl, ?_⟩) (by assumption) ?_
      rotate_left
      · intro _ _; go_simp; with_reducible rfl
      simp only [Act.put, List.setIfInBounds_toArray, List.set_cons_zero, List.set_cons_succ, List.getElem_toArray, List.getElem_cons_zero, List.getElem_cons_succ]
      refine wpAnyH_done (by kernel_rfl) ?_ _
      go_wp2
      go_ret
      exact ⟨rfl, C8.trans (S2.mono C8.size)⟩
    have hun := f2.resolve_left heq
    rw [decide_eq_false heq] at q1
    rw [hun] at HU
    clear hg hv hf0 ho hds ha hl _hd hsm e1 e2 g1 g2 g3 hrm hc hh hk hpb f1 f2 f3 hda heq hun hsl
    generalize hostA ⟨1, Sx.site k h, Hst.nil16⟩ = Y at *
    generalize (⟨(Sx.site k h).toArray⟩ : ByteArray) = st at *
    generalize hostA h = X at *
    generalize k + 1 = m at *
    go_enter Tryz.func5, Tryz.ntmps5
    go_wp2_with fail
    refine (HA.out _ hw).mono ?_
    rintro e x0 ⟨rfl, d0⟩
    have V0 := HV.stays d0
    go_wp2_with fail
    refine (HP.out _).mono ?_
    rintro e x1 ⟨rfl, d1⟩
    have B1 := d0.trans (d1.mono d0.size)
    have V1 := V0.stays d1
    obtain ⟨T2, U2, C2, _⟩ := lay_row 26 (hostA Hst.zero) X B1 B1.size
    have V2 : HoldsRules ((x1.alloc (.cells (hostA Hst.zero) 26)).setRow x1.heap.size X) v rs := V1.stays (below_setRow ((Below.refl _ _).alloc (Nat.le_refl _) _) (Nat.le_refl _) _)
    clear V0 V1 B1 d0 d1
    go_wp2_with (first
      | (refine at_none rfl ?_; refine wpList_store_row rfl 26 _ _ rfl x1.heap.size X rfl rfl 26 _ T2 HH.out HZ.out HO.out ?_)
      | (refine at_slot 18 rfl ?_; refine load_row rfl 26 _ rfl x1.heap.size rfl U2 Tryz.underlying26 rfl HH.out ?_))
    generalize (x1.alloc (.cells (hostA Hst.zero) 26)).setRow x1.heap.size X = x2 at *
    generalize x1.heap.size = g2 at *
    clear T2
    refine (HG.out _ V2).mono ?_
    rintro e x3 ⟨rfl, d3⟩
    have B3 := C2.trans (d3.mono C2.size)
    have U3 := U2.stays d3
    have V3 := V2.stays d3
    clear C2 U2 V2 d3
    go_wp2_with fail
    refine (HN.out _ (hw.below B3) V3).mono ?_
    rintro e x4 ⟨tb, mb, rfl, T4, d4⟩
    have B4 := B3.trans (d4.mono B3.size)
    have U4 := U3.stays d4
    go_wp2_with (refine at_slot 32 rfl ?_; refine load_row rfl 26 _ rfl g2 rfl U4 Tryz.underlying26 rfl HH.out ?_)
    refine (P3.out _ tb mb _ (hw.below B4) T4).mono ?_
    rintro e x5 ⟨rfl, d5⟩
    have B5 := B4.trans (d5.mono B4.size)
    have U5 := U4.stays d5
    have T5 := T4.stays d5
    go_wp2_with (refine at_slot 35 rfl ?_; refine load_row rfl 26 _ rfl g2 rfl U5 Tryz.underlying26 rfl HH.out ?_)
    refine (P2.out _ tb mb _ (hw.below B5) T5).mono ?_
    rintro e x6 ⟨rfl, d6⟩
    have B6 := B5.trans (d6.mono B5.size)
    have U6 := U5.stays d6
    have T6 := T5.stays d6
    have c6 := HKD.out _ _ U6
    clear U3 U4 U5 T4 T5 B3 B4 B5 d4 d5 d6 V3
    go_wp2_with fail
    refine (HL.out _).mono ?_
    rintro e x7 ⟨rfl, d7⟩
    have B7 := B6.trans (d7.mono B6.size)
    have U7 := U6.stays d7
    obtain ⟨T8, U8, C8, L8⟩ := lay_row 26 (hostA Hst.zero) Y B7 B7.size
    have X8 := L8 _ _ _ U7
    have T9 := (T6.stays d7).stays (below_setRow ((Below.refl x7.heap.size x7).alloc (Nat.le_refl _) (.cells (hostA Hst.zero) 26)) (Nat.le_refl _) Y)
    clear B7 U7 L8 d7 c6 U6 T6 B6
    go_wp2_with (refine at_none rfl ?_; refine wpList_store_row rfl 26 _ _ rfl x7.heap.size Y rfl rfl 26 _ T8 HD.out HDZ.out HDO.out ?_)
    generalize (x7.alloc (.cells (hostA Hst.zero) 26)).setRow x7.heap.size Y = x8 at *
    generalize x7.heap.size = g8 at *
    have S8 := hw.below C8
    have RX := Lib.hid (fun W (hC : Below x8.heap.size x8 W) => X8.stays hC)
    have RY := Lib.hid (fun W (hC : Below x8.heap.size x8 W) => U8.stays hC)
    have CS := Lib.hid (fun W (hC : Below x8.heap.size x8 W) => P1.out _ tb mb W (S8.below hC) (T9.stays hC))
    clear T8 U8 X8 T9 P1 P2 P3 HA HP HG HN HL HKD
    refine wp_region_held_drew (S := fun W => Below x8.heap.size x8 W) (by kernel_rfl) (Below.refl _ _).drew (fun hS => ?_)
    generalize x8.drew = u0 at *
    refine wpAnyH_take (i := 0) rfl (by kernel_rfl) (by kernel_rfl) (by kernel_rfl) (fun _ _ _ h => h) (yields_row (by rfl) _ _ rfl _ rfl RY.out Tryz.underlying26 rfl HD.out) (by assumption) ?_
    simp only [Act.put, List.setIfInBounds_toArray, List.set_cons_zero, List.set_cons_succ, List.getElem_toArray, List.getElem_cons_zero]
    refine wpAnyH_take (i := 1) rfl (by kernel_rfl) (by kernel_rfl) (by kernel_rfl) (fun _ _ _ h => h) (yields_row (by rfl) _ _ rfl _ rfl RX.out Tryz.underlying26 rfl HH.out) (by assumption) ?_
    simp only [Act.put, List.setIfInBounds_toArray, List.set_cons_zero, List.set_cons_succ, List.getElem_toArray, List.getElem_cons_zero, List.getElem_cons_succ]
    refine wpAnyH_take (i := 2) (v := ?_) rfl (by kernel_rfl) (by kernel_rfl) (by kernel_rfl) (fun _ _ _ h => h) (Or.inl ⟨by rfl, ?_⟩) (by assumption) ?_
    rotate_left
    · intro _ _; go_simp; with_reducible rfl
    simp only [Act.put, List.setIfInBounds_toArray, List.set_cons_zero, List.set_cons_succ, List.getElem_toArray, List.getElem_cons_zero, List.getElem_cons_succ]
    refine wpAnyH_take (i := 3) (v := ?_) rfl (by kernel_rfl) (by kernel_rfl) (by kernel_rfl) (fun _ _ _ h => h) (Or.inl ⟨by rfl, ?_⟩) (by assumption) ?_
    rotate_left
    · intro _ _; go_simp; with_reducible rfl
    simp only [Act.put, List.setIfInBounds_toArray, List.set_cons_zero, List.set_cons_succ, List.getElem_toArray, List.getElem_cons_zero, List.getElem_cons_succ]
    refine wpAnyH_take (i := 4) rfl (by kernel_rfl) (by kernel_rfl) (by kernel_rfl) (fun _ _ _ h => h) (yields_row (by rfl) _ _ rfl _ rfl RX.out Tryz.underlying26 rfl HH.out) (by assumption) ?_
    simp only [Act.put, List.setIfInBounds_toArray, List.set_cons_zero, List.set_cons_succ, List.getElem_toArray, List.getElem_cons_zero, List.getElem_cons_succ]
    refine wpAnyH_take (i := 5) rfl (by kernel_rfl) (by kernel_rfl) (by kernel_rfl) (fun _ _ _ h => h) (yields_row (by rfl) _ _ rfl _ rfl RY.out Tryz.underlying26 rfl HD.out) (by assumption) ?_
    simp only [Act.put, List.setIfInBounds_toArray, List.set_cons_zero, List.set_cons_succ, List.getElem_toArray, List.getElem_cons_zero, List.getElem_cons_succ]
    refine wpAnyH_ready (rs := [6]) (by kernel_rfl) (by simp) (AllReadyH.cons rfl (fun K hK => ?_) AllReadyH.nil)
    rw [if_pos (by rfl)]
    go_simp
    refine (HU.out _).mono ?_
    rintro e y0 ⟨rfl, dz⟩
    have SZ := hS.trans (dz.mono hS.size)
    go_wp2_with fail
    refine hK.out _ _ SZ (fun _ => ?_)
    clear hK K
    refine wpAnyH_take (i := 7) (v := ?_) rfl (by kernel_rfl) (by kernel_rfl) (by kernel_rfl) (fun _ _ _ h => h) (Or.inl ⟨by rfl, ?_⟩) (by assumption) ?_
    rotate_left
    · intro _ _; go_simp; with_reducible rfl
    simp only [Act.put, List.setIfInBounds_toArray, List.set_cons_zero, List.set_cons_succ, List.getElem_toArray, List.getElem_cons_zero, List.getElem_cons_succ]
    refine wpAnyH_take (i := 8) (v := ?_) rfl (by kernel_rfl) (by kernel_rfl) (by kernel_rfl) (fun _ _ _ h => h) (Or.inl ⟨by rfl, ?_⟩) (by assumption) ?_
    rotate_left
    · intro _ _; go_simp; with_reducible rfl
    simp only [Act.put, List.setIfInBounds_toArray, List.set_cons_zero, List.set_cons_succ, List.getElem_toArray, List.getElem_cons_zero, List.getElem_cons_succ]
    refine wpAnyH_take (i := 9) rfl (by kernel_rfl) (by kernel_rfl) (by kernel_rfl) (fun _ _ _ h => h) (yields_row (by rfl) _ _ rfl _ rfl RY.out Tryz.underlying26 rfl HD.out) (by assumption) ?_
    simp only [Act.put, List.setIfInBounds_toArray, List.set_cons_zero, List.set_cons_succ, List.getElem_toArray, List.getElem_cons_zero, List.getElem_cons_succ]
    refine wpAnyH_take (i := 12) (v := ?_) rfl (by kernel_rfl) (by kernel_rfl) (by kernel_rfl) (fun _ _ _ h => h) (Or.inl ⟨by rfl, ?_⟩) (by assumption) ?_
    rotate_left
    · intro _ _; go_simp; with_reducible rfl
    simp only [Act.put, List.setIfInBounds_toArray, List.set_cons_zero, List.set_cons_succ, List.getElem_toArray, List.getElem_cons_zero, List.getElem_cons_succ]
    refine wpAnyH_take (i := 13) rfl (by kernel_rfl) (by kernel_rfl) (by kernel_rfl) (fun _ _ _ h => h) (yields_row (by rfl) _ _ rfl _ rfl RX.out Tryz.underlying26 rfl HH.out) (by assumption) ?_
    simp only [Act.put, List.setIfInBounds_toArray, List.set_cons_zero, List.set_cons_succ, List.getElem_toArray, List.getElem_cons_zero, List.getElem_cons_succ]
    refine wpAnyH_ready (rs := [10]) (by kernel_rfl) (by simp) (AllReadyH.cons rfl (fun K hK => ?_) AllReadyH.nil)
    rw [if_pos (by rfl)]
    go_simp
    refine (HLB.out _).mono ?_
    rintro e y1 ⟨⟨A, cp, rfl⟩, d1⟩
    have S1 := SZ.trans (d1.mono SZ.size)
    go_wp2_with fail
    refine hK.out _ _ S1 (fun _ => ?_)
    clear hK K
    refine wpAnyH_take (i := 11) (v := ?_) rfl (by kernel_rfl) (by kernel_rfl) (by kernel_rfl) (fun _ _ _ h => h) (Or.inl ⟨by rfl, ?_⟩) (by assumption) ?_
    rotate_left
    · intro _ _; go_simp; with_reducible rfl
    simp only [Act.put, List.setIfInBounds_toArray, List.set_cons_zero, List.set_cons_succ, List.getElem_toArray, List.getElem_cons_zero, List.getElem_cons_succ]
    refine wpAnyH_ready (rs := [14]) (by kernel_rfl) (by simp) (AllReadyH.cons rfl (fun K hK => ?_) AllReadyH.nil)
    rw [if_pos (by rfl)]
    go_simp
    refine (CS.out _ S1).mono ?_
    rintro e y2 ⟨rfl, d2⟩
    have S2 := S1.trans (d2.mono S1.size)
    go_wp2_with fail
    refine hK.out _ _ S2 (fun _ => ?_)
    clear hK K
    refine wpAnyH_take (i := 15) (v := ?_) rfl (by kernel_rfl) (by kernel_rfl) (by kernel_rfl) (fun _ _ _ h => h) (Or.inl ⟨by rfl, ?_⟩) (by assumption) ?_
    rotate_left
    · intro _ _; go_simp; with_reducible rfl
    simp only [Act.put, List.setIfInBounds_toArray, List.set_cons_zero, List.set_cons_succ, List.getElem_toArray, List.getElem_cons_zero, List.getElem_cons_succ]
    refine wpAnyH_take (i := 16) (v := ?_) rfl (by kernel_rfl) (by kernel_rfl) (by kernel_rfl) (fun _ _ _ h => h) (Or.inl ⟨by rfl, ?_⟩) (by assumption) ?_
    rotate_left
    · intro _ _; go_simp; with_reducible rfl
    simp only [Act.put, List.setIfInBounds_toArray, List.set_cons_zero, List.set_cons_succ, List.getElem_toArray, List.getElem_cons_zero, List.getElem_cons_succ]
    refine wpAnyH_take (i := 17) (v := ?_) rfl (by kernel_rfl) (by kernel_rfl) (by kernel_rfl) (fun _ _ _ h => h) (Or.inl ⟨by rfl, ?_⟩) (by assumption) ?_
    rotate_left
    · intro _ _; go_simp; with_reducible rfl
    simp only [Act.put, List.setIfInBounds_toArray, List.set_cons_zero, List.set_cons_succ, List.getElem_toArray, List.getElem_cons_zero, List.getElem_cons_succ]
    refine wpAnyH_take (i := 18) (v := ?_) rfl (by kernel_rfl) (by kernel_rfl) (by kernel_rfl) (fun _ _ _ h => h) (Or.inl ⟨by rfl, ?_⟩) (by assumption) ?_
    rotate_left
    · intro _ _; go_simp; with_reducible rfl
    simp only [Act.put, List.setIfInBounds_toArray, List.set_cons_zero, List.set_cons_succ, List.getElem_toArray, List.getElem_cons_zero, List.getElem_cons_succ]
    refine wpAnyH_done (by kernel_rfl) ?_ _
    go_wp2
    go_ret
    exact ⟨rfl, C8.trans (S2.mono C8.size)⟩
end Go.Proofs.YtnlhniaoaciopaaGreatDoor
