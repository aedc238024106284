/- The walks of what the laws of layer 6 begin with: the chapter's examples, and whether rules or a host are more than is looked at. -/
import Derived.Test.YtnlhniaoaciopaaGreatDoorSuffixes
import Derived.Test.YtnlhniaoaciopaaGreatDoorCells
namespace Go.Proofs.YtnlhniaoaciopaaGreatDoor
open Go.RowKit Go.Maps
set_option maxRecDepth 100000 in
set_option maxHeartbeats 2000000 in
theorem lawName_calls (s : ByteArray) (w : World) :
    Calls Tryz.prog 20 #[.string s] w fun e w' => e = .returned (.agg (hostA ⟨1, s.data.toList, Hst.nil16⟩)) ∧ Below w.heap.size w w' := by
  have z0 := zeroHost
  have HB := Lib.hid (built_name 1 s)
  have HX := Lib.hid (hostA_size ⟨1, s.data.toList, Hst.nil16⟩ rfl)
  have HO := Lib.hid (hostA_one ⟨1, s.data.toList, Hst.nil16⟩)
  have T := Row.new w 26 (hostA Hst.zero)
  have C := (Below.refl w.heap.size w).alloc (Nat.le_refl _) (.cells (hostA Hst.zero) 26)
  generalize hostA ⟨1, s.data.toList, Hst.nil16⟩ = X at *
  go_enter Tryz.func20, Tryz.ntmps20
  go_wp2_with (first
    | (refine at_slot 4 rfl ?_; refine build_two rfl 26 0 1 _ _ rfl _ _ rfl rfl X HB.out ?_)
    | (refine wpList_store_row rfl 26 _ _ rfl w.heap.size X rfl rfl 26 _ T (by rw [HX.out]; exact infoHost) (by rw [HX.out]; rfl) HO.out ?_))
  exact bodyPost_ret (v := .agg X) (results_cell_row rfl _ _ _ _ _ _ _ rfl (T.whole X) Tryz.underlying26 rfl (by rw [HX.out]; exact infoHost)) rfl ⟨rfl, below_setRow C (Nat.le_refl _) _⟩
def BoolPost (b : Bool) (w : World) (e : Ending) (w' : World) : Prop := e = .returned (.bool b) ∧ Below w.heap.size w w'
/-- Is it more than is looked at? -/
def greatB (rs : List Ru.Rule) (h : Hst.Host) : Bool := rs.any (fun r => decide (400 < r.name.length)) || (decide (60 < rs.length) || decide (400 < h.name.length))
theorem great_no {rs : List Ru.Rule} {h : Hst.Host} (hg : greatB rs h = false) : (∀ r ∈ rs, r.name.length ≤ 400) ∧ rs.length ≤ 60 ∧ h.name.length ≤ 400 := by
  unfold greatB at hg
  simp only [Bool.or_eq_false_iff, decide_eq_false_iff_not] at hg
  refine ⟨fun r hr => ?_, by omega, by omega⟩
  have := List.any_eq_false.1 hg.1 r hr
  simp at this
  omega
set_option maxRecDepth 100000 in
set_option maxHeartbeats 8000000 in
theorem great_calls (rs : List Ru.Rule) (v : Value) (h : Hst.Host) (w : World) (hv : HoldsRules w v rs) (hn : rs.length ≤ maxLen) (hm : h.name.length ≤ maxLen) (hrm : ∀ r ∈ rs, r.name.length ≤ maxLen) :
    Calls Tryz.prog 9 #[v, .agg (hostA h)] w (BoolPost (greatB rs h) w) := by
  have z0 := zeroRule
  have R0 := Row.new w 26 (hostA h)
  have B0 := (Below.refl w.heap.size w).alloc (Nat.le_refl _) (.cells (hostA h) 26)
  obtain ⟨u, hu⟩ : ∃ u : ByteArray, u = ⟨h.name.toArray⟩ := ⟨_, rfl⟩
  have hus : h.name.length = u.size := by rw [← Oct.length_bytes, hu]
  have c1 : (w.alloc (.cells (hostA h) 26)).cell? ⟨w.heap.size, 1, none⟩ = some (.string u) := by rw [R0.cell, hostA_name, hu]; rfl
  have hlt := R0.lt
  have HV := Lib.hid hv
  obtain ⟨A, c, rfl, hcells⟩ := hv
  have HG := Lib.hid (show greatB rs h = (rs.any (fun r => decide (400 < r.name.length)) || (decide (60 < rs.length) || decide (400 < u.size))) by unfold greatB; rw [hus])
  have HP : Hid (∀ b w', b = (rs.any (fun r => decide (400 < r.name.length)) || (decide (60 < rs.length) || decide (400 < u.size))) → Below w.heap.size w w' → BoolPost (greatB rs h) w (.returned (.bool b)) w') := Lib.hid (fun b w' e hb => ⟨by rw [HG.out, e], hb⟩)
  obtain ⟨n, hnn⟩ : ∃ n, rs.length = n := ⟨_, rfl⟩
  have HNN := Lib.hid hnn
  have HRM := Lib.hid hrm
  have hmu : u.size ≤ maxLen := by omega
  rw [hnn] at hn ⊢ HP
  generalize BoolPost (greatB rs h) w = post at *
  generalize hostA h = X at *
  unfold maxLen at hn hmu
  clear hnn hcells HG hu hus hm hrm
  go_enter Tryz.func9, Tryz.ntmps9
  go_wp2_with fail
  generalize w.alloc (.cells X 26) = w0 at *
  go_loopw [9] (fun i wr => ∃ k : Nat, k ≤ n ∧ i = .int .i64 (k : Int) ∧ (∀ j r, j < k → rs[j]? = some r → r.name.length ≤ 400) ∧ Below w.heap.size w wr ∧ wr.cell? ⟨w.heap.size, 1, none⟩ = some (.string u) ∧ w.heap.size < wr.heap.size) (fun i _ => n - (intOf i).toNat)
  case atStart => exact ⟨0, Nat.zero_le _, rfl, fun j r hj => absurd hj (Nat.not_lt_zero _), B0, c1, hlt⟩
  case round =>
    obtain ⟨k, hk, rfl, hall, hbe, hcu, hlw⟩ := hrel
    by_cases hlt : k < n
    · obtain ⟨r, hr⟩ : ∃ r, rs[k]? = some r := ⟨_, List.getElem?_eq_getElem (by rw [HNN.out]; exact hlt)⟩
      obtain ⟨A', c', he, hc'⟩ := HV.out.stays hbe
      have he := Value.slice.inj he
      obtain ⟨rfl, _, rfl⟩ := he
      obtain ⟨g, off, rfl, hgl, hcc, hcell⟩ := hc' (by rw [HNN.out]; omega)
      obtain ⟨h0, h1⟩ := hcell k r hr
      rw [HNN.out] at hcc
      have hrl := HRM.out r (List.mem_of_getElem? hr)
      unfold maxLen at hrl
      have HX := Lib.hid (show (Tryz.prog.info? 50).map (·.size) = some (ruleA r).size from infoRule)
      have HZX := Lib.hid (show (ruleA Ru.zero).size = (ruleA r).size from rfl)
      have HO1 := Lib.hid (ruleA_one r)
      obtain ⟨T, U, C, _⟩ := lay_row 50 (ruleA Ru.zero) (ruleA r) (Below.refl wr.heap.size wr) (Nat.le_refl _)
      have hbe2 := hbe.trans (C.mono hbe.size)
      obtain ⟨t, ht⟩ : ∃ t : ByteArray, t = ⟨r.name.toArray⟩ := ⟨_, rfl⟩
      have hts : r.name.length = t.size := by rw [← Oct.length_bytes, ht]
      have u1 : ((wr.alloc (.cells (ruleA Ru.zero) 50)).setRow wr.heap.size (ruleA r)).cell? ⟨wr.heap.size, 1, none⟩ = some (.string t) := by rw [U.cell, ht]; rfl
      have hcu2 := (C.cell (p := ⟨w.heap.size, 1, none⟩) hlw).trans hcu
      have hlw2 : w.heap.size < ((wr.alloc (.cells (ruleA Ru.zero) 50)).setRow wr.heap.size (ruleA r)).heap.size := by have := C.size; omega
      rw [hts] at hrl
      by_cases h4 : 400 < t.size
      · have h4i : (400 : Int) < (t.size : Int) := by omega
        have HF := Lib.hid (HP.out true _ (by
          have : rs.any (fun r => decide (400 < r.name.length)) = true := List.any_eq_true.2 ⟨r, List.mem_of_getElem? hr, decide_eq_true (by omega)⟩
          rw [this]; rfl) hbe2)
        clear hall hts ht hr hc' hcell hcu hcu2 C
        go_wp2_with (first
          | (refine at_slot 12 rfl ?_; refine load_rule rfl _ rfl g (off + k * 2) rfl r h0 h1 ?_)
          | (refine wpList_store_row rfl 50 _ _ rfl wr.heap.size (ruleA r) rfl rfl 50 _ T HX.out HZX.out HO1.out ?_))
        exact HF.out
      · have h4i : ¬ (400 : Int) < (t.size : Int) := by omega
        have hall2 : ∀ j q, j < k + 1 → rs[j]? = some q → q.name.length ≤ 400 := by
          intro j q hj hq
          rcases Nat.lt_or_ge j k with hjk | hjk
          · exact hall j q hjk hq
          · obtain rfl : j = k := by omega
            rw [hr] at hq
            obtain rfl := Option.some.inj hq
            omega
        have HA2 := Lib.hid hall2
        clear hall hts ht hr hc' hcell hcu C hall2
        go_wp2_with (first
          | (refine at_slot 12 rfl ?_; refine load_rule rfl _ rfl g (off + k * 2) rfl r h0 h1 ?_)
          | (refine wpList_store_row rfl 50 _ _ rfl wr.heap.size (ruleA r) rfl rfl 50 _ T HX.out HZX.out HO1.out ?_))
        go_roundw
        case rel => exact ⟨k + 1, by omega, by go_num, HA2.out, hbe2, hcu2, hlw2⟩
        case measure => simp [intOf]; omega
    · obtain rfl : k = n := by omega
      have hany : rs.any (fun r => decide (400 < r.name.length)) = false := by
        rw [List.any_eq_false]
        intro r hr
        obtain ⟨j, hj⟩ := List.getElem?_of_mem hr
        have hjl := (List.getElem?_eq_some_iff.1 hj).1
        have := hall j r (by rw [← HNN.out]; exact hjl) hj
        simp; omega
      rw [hany, Bool.false_or] at HP
      by_cases h6 : 60 < k
      · have h6i : (60 : Int) < (k : Int) := by omega
        have HF := Lib.hid (HP.out true wr (by rw [decide_eq_true h6]; rfl) hbe)
        clear hall hany
        go_wp2
        exact HF.out
      · have h6i : ¬ (60 : Int) < (k : Int) := by omega
        by_cases h4 : 400 < u.size
        · have h4i : (400 : Int) < (u.size : Int) := by omega
          have HF := Lib.hid (HP.out true wr (by rw [decide_eq_true h4, Bool.or_true]) hbe)
          clear hall hany
          go_wp2
          exact HF.out
        · have h4i : ¬ (400 : Int) < (u.size : Int) := by omega
          have HF := Lib.hid (HP.out false wr (by rw [decide_eq_false h4, decide_eq_false h6]; rfl) hbe)
          clear hall hany
          go_wp2
          exact HF.out
namespace Sx
def exRules : List Ru.Rule := [⟨1, [99, 111, 109]⟩, ⟨2, [99, 107]⟩, ⟨3, [119, 119, 119, 46, 99, 107]⟩]
def exN (s : List UInt8) : Hst.Host := ⟨1, s, Hst.nil16⟩
theorem ex1 : site (suffix (new exRules) (exN [97, 46, 98, 46, 99, 111, 109])) (exN [97, 46, 98, 46, 99, 111, 109]) = [98, 46, 99, 111, 109] := by decide +kernel
theorem ex2 : site (suffix (new exRules) (exN [119, 119, 119, 46, 99, 107])) (exN [119, 119, 119, 46, 99, 107]) = [119, 119, 119, 46, 99, 107] := by decide +kernel
theorem ex3 : isPublic (suffix (new exRules) (exN [97, 46, 99, 107])) (exN [97, 46, 99, 107]) = true := by decide +kernel
theorem ex4 : isPublic (suffix (new exRules) (exN [120, 121, 122])) (exN [120, 121, 122]) = true := by decide +kernel
end Sx
theorem siteEx {s r : List UInt8} (he : Sx.site (Sx.suffix (Sx.new Sx.exRules) (Sx.exN s)) (Sx.exN s) = r) (hs : s.length ≤ 100) {n₀ tb mb : Nat} {w : World} (hT : TabAt w n₀ tb mb (Sx.new Sx.exRules)) (hw : Std w) :
    Calls Tryz.prog 15 #[.pointer (some ⟨tb, 0, none⟩), .agg (hostA ⟨1, s, Hst.nil16⟩)] w fun e w' => e = .returned (.string ⟨r.toArray⟩) ∧ Below w.heap.size w w' := by
  have h := site_calls (Sx.new Sx.exRules) (Sx.exN s) n₀ tb mb w hw rfl (by show s.length ≤ _; omega) hT
  rw [he] at h
  exact h
theorem pubEx {s : List UInt8} (he : Sx.isPublic (Sx.suffix (Sx.new Sx.exRules) (Sx.exN s)) (Sx.exN s) = true) (hs : s.length ≤ 100) {n₀ tb mb : Nat} {w : World} (hT : TabAt w n₀ tb mb (Sx.new Sx.exRules)) (hw : Std w) :
    Calls Tryz.prog 13 #[.pointer (some ⟨tb, 0, none⟩), .agg (hostA ⟨1, s, Hst.nil16⟩)] w fun e w' => e = .returned (.bool true) ∧ Below w.heap.size w w' := by
  have h := public_calls (Sx.new Sx.exRules) (Sx.exN s) n₀ tb mb w hw rfl (by show s.length ≤ _; omega) hT
  rw [he] at h
  exact h
set_option maxRecDepth 100000 in
set_option maxHeartbeats 8000000 in
theorem suffix_alive (w : World) (hw : Std w) : Calls Tryz.prog 8 #[] w (BoolPost true w) := by
  have O := own_rules (rs := Sx.exRules) (World.ownsRow_lit (base := w.heap.size) (e := 50) (size := 2) w #[.int .i64 1, .string ⟨#[99, 111, 109]⟩, .int .i64 2, .string ⟨#[99, 107]⟩, .int .i64 3, .string ⟨#[119, 119, 119, 46, 99, 107]⟩] 3 (Nat.le_refl _) (by decide) rfl)
  have C0 := (Below.refl w.heap.size w).alloc (Nat.le_refl _) (.cells #[.int .i64 1, .string ⟨#[99, 111, 109]⟩, .int .i64 2, .string ⟨#[99, 107]⟩, .int .i64 3, .string ⟨#[119, 119, 119, 46, 99, 107]⟩] 50)
  go_enter Tryz.func8, Tryz.ntmps8
  go_wp2_with fail
  generalize w.alloc (.cells #[.int .i64 1, .string ⟨#[99, 111, 109]⟩, .int .i64 2, .string ⟨#[99, 107]⟩, .int .i64 3, .string ⟨#[119, 119, 119, 46, 99, 107]⟩] 50) = w0 at *
  refine (new_calls Sx.exRules _ w0 (hw.below C0) O.holds (by decide) (by decide)).mono ?_
  rintro e x0 ⟨tb, mb, rfl, T0, d0⟩
  have B0 := C0.trans (d0.mono C0.size)
  go_wp2_with fail
  refine (lawName_calls ⟨#[97, 46, 98, 46, 99, 111, 109]⟩ _).mono ?_
  rintro e x1 ⟨rfl, d1⟩
  have B1 := B0.trans (d1.mono B0.size)
  have T1 := T0.stays d1
  go_wp2_with fail
  refine (siteEx (s := [97, 46, 98, 46, 99, 111, 109]) (r := [98, 46, 99, 111, 109]) Sx.ex1 (by decide) T1 (hw.below B1)).mono ?_
  rintro e x2 ⟨rfl, d2⟩
  have B2 := B1.trans (d2.mono B1.size)
  have T2 := T1.stays d2
  go_wp2_with fail
  refine (lawName_calls ⟨#[119, 119, 119, 46, 99, 107]⟩ _).mono ?_
  rintro e x3 ⟨rfl, d3⟩
  have B3 := B2.trans (d3.mono B2.size)
  have T3 := T2.stays d3
  go_wp2_with fail
  refine (siteEx (s := [119, 119, 119, 46, 99, 107]) (r := [119, 119, 119, 46, 99, 107]) Sx.ex2 (by decide) T3 (hw.below B3)).mono ?_
  rintro e x4 ⟨rfl, d4⟩
  have B4 := B3.trans (d4.mono B3.size)
  have T4 := T3.stays d4
  go_wp2_with fail
  refine (lawName_calls ⟨#[97, 46, 99, 107]⟩ _).mono ?_
  rintro e x5 ⟨rfl, d5⟩
  have B5 := B4.trans (d5.mono B4.size)
  have T5 := T4.stays d5
  go_wp2_with fail
  refine (pubEx (s := [97, 46, 99, 107]) Sx.ex3 (by decide) T5 (hw.below B5)).mono ?_
  rintro e x6 ⟨rfl, d6⟩
  have B6 := B5.trans (d6.mono B5.size)
  have T6 := T5.stays d6
  go_wp2_with fail
  refine (lawName_calls ⟨#[120, 121, 122]⟩ _).mono ?_
  rintro e x7 ⟨rfl, d7⟩
  have B7 := B6.trans (d7.mono B6.size)
  have T7 := T6.stays d7
  go_wp2_with fail
  refine (pubEx (s := [120, 121, 122]) Sx.ex4 (by decide) T7 (hw.below B7)).mono ?_
  rintro e x8 ⟨rfl, d8⟩
  have B8 := B7.trans (d8.mono B7.size)
  have T8 := T7.stays d8
  go_wp2
  go_ret
  exact ⟨rfl, B8⟩
end Go.Proofs.YtnlhniaoaciopaaGreatDoor
