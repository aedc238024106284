/- Whether hosts belong to each other, and where a cookie goes: the walks of package match, and of the reference. -/
import Derived.Test.YtkajddopjflniaaGreatDoorMatchMore
import Derived.Test.YtkajddopjflniaaGreatDoorMatchRow
import Derived.Test.YtkajddopjflniaaGreatDoorCells
import Derived.Test.YtkajddopjflniaaGreatDoorHostUnder
import Derived.Test.YtkajddopjflniaaGreatDoorTexts6
import Derived.Test.YtkajddopjflniaaGreatDoorRefHostUnder
import Derived.Test.YtkajddopjflniaaGreatDoorRefs6
namespace Go.Proofs.YtkajddopjflniaaGreatDoor
open Go.RowKit
set_option maxRecDepth 100000 in
set_option maxHeartbeats 2000000 in
theorem mone_calls (h d : Hst.Host) (ha : h.addr.length = 16) (hda : d.addr.length = 16) (hs : h.name.length ≤ 1048000) (w : World) (hw : Std w) :
    Calls Tryz.prog 15 #[.agg (hostA h), .agg (hostA d)] w fun e w' => e = .returned (.bool (decide (h = d) && Hst.can h)) ∧ Below w.heap.size w w' := by
  have HH := Lib.hid (hostA_size h ha)
  have HD := Lib.hid (hostA_size d hda)
  have H1 := Lib.hid (fun W hW => right_calls h ha hs W hW)
  have q := eql_host h d ha hda
  generalize decide (h = d) = b at *
  generalize Hst.can h = k at *
  generalize hostA h = H at *
  generalize hostA d = D at *
  have R0 := Row.new w 25 H
  have B0 := (Below.refl w.heap.size w).alloc (Nat.le_refl _) (.cells H 25)
  have hN : (w.alloc (.cells H 25)).heap.size = w.heap.size + 1 := by simp
  have S0 := Row.new (w.alloc (.cells H 25)) 25 D
  rw [hN] at S0
  have R1 := R0.alloc (.cells D 25)
  have C0 := B0.alloc B0.size (.cells D 25)
  clear hN R0 B0 ha hda hs
  cases b
  · go_enter Tryz.func15, Tryz.ntmps15
    go_wp2_with (first
      | (refine at_slot 5 rfl ?_; refine load_row rfl 25 _ rfl w.heap.size rfl R1 Tryz.underlying25 rfl (by rw [HH.out]; exact infoHost) ?_)
      | (refine at_slot 6 rfl ?_; refine load_row rfl 25 _ rfl (w.heap.size + 1) rfl S0 Tryz.underlying25 rfl (by rw [HD.out]; exact infoHost) ?_))
    go_ret
    exact ⟨rfl, C0⟩
  · go_enter Tryz.func15, Tryz.ntmps15
    go_wp2_with (first
      | (refine at_slot 5 rfl ?_; refine load_row rfl 25 _ rfl w.heap.size rfl R1 Tryz.underlying25 rfl (by rw [HH.out]; exact infoHost) ?_)
      | (refine at_slot 6 rfl ?_; refine load_row rfl 25 _ rfl (w.heap.size + 1) rfl S0 Tryz.underlying25 rfl (by rw [HD.out]; exact infoHost) ?_)
      | (refine at_slot 9 rfl ?_; refine load_row rfl 25 _ rfl w.heap.size rfl R1 Tryz.underlying25 rfl (by rw [HH.out]; exact infoHost) ?_)
      | (go_at_call 27; refine (H1.out _ (hw.below C0)).mono ?_; rintro e v1 ⟨rfl, d1⟩))
    go_ret
    exact ⟨rfl, C0.trans (d1.mono C0.size)⟩
set_option maxRecDepth 100000 in
set_option maxHeartbeats 2000000 in
theorem mdomain_calls (h d : Hst.Host) (ha : h.addr.length = 16) (hda : d.addr.length = 16) (hs : h.name.length ≤ 1048000) (hds : d.name.length ≤ 1048000) (w : World) (hw : Std w) :
    Calls Tryz.prog 7 #[.agg (hostA h), .agg (hostA d)] w fun e w' => e = .returned (.bool (Ma.domain h d)) ∧ Below w.heap.size w w' := by
  have HH := Lib.hid (hostA_size h ha)
  have HD := Lib.hid (hostA_size d hda)
  have H1 := Lib.hid (fun W hW => mone_calls h d ha hda hs W hW)
  have H2 := Lib.hid (fun W hW => under_calls h d ha hda (by omega) (by omega) W hW)
  have HR := Lib.hid (Ma.domain_code h d)
  generalize Ma.domain h d = g at *
  generalize (decide (h = d) && Hst.can h) = b at *
  generalize Hst.under h d = u at *
  generalize hostA h = H at *
  generalize hostA d = D at *
  have R0 := Row.new w 25 H
  have B0 := (Below.refl w.heap.size w).alloc (Nat.le_refl _) (.cells H 25)
  have hN : (w.alloc (.cells H 25)).heap.size = w.heap.size + 1 := by simp
  have S0 := Row.new (w.alloc (.cells H 25)) 25 D
  rw [hN] at S0
  have R1 := R0.alloc (.cells D 25)
  have C0 := B0.alloc B0.size (.cells D 25)
  clear hN R0 B0 ha hda hs hds
  go_enter Tryz.func7, Tryz.ntmps7
  go_wp2_with (first
    | (refine at_slot 5 rfl ?_; refine load_row rfl 25 _ rfl w.heap.size rfl R1 Tryz.underlying25 rfl (by rw [HH.out]; exact infoHost) ?_)
    | (refine at_slot 6 rfl ?_; refine load_row rfl 25 _ rfl (w.heap.size + 1) rfl S0 Tryz.underlying25 rfl (by rw [HD.out]; exact infoHost) ?_))
  generalize (w.alloc (.cells H 25)).alloc (.cells D 25) = x0 at *
  refine (H1.out _ (hw.below C0)).mono ?_
  rintro e v1 ⟨rfl, d1⟩
  have C1 := C0.trans (d1.mono C0.size)
  have R2 := R1.stays d1
  have S2 := S0.stays d1
  clear R1 S0 C0 d1 H1
  cases b
  · have HR2 : Hid (g = u) := Lib.hid (by rw [HR.out, Bool.false_or])
    go_wp2_with (first
      | (refine at_slot 9 rfl ?_; refine load_row rfl 25 _ rfl w.heap.size rfl R2 Tryz.underlying25 rfl (by rw [HH.out]; exact infoHost) ?_)
      | (refine at_slot 10 rfl ?_; refine load_row rfl 25 _ rfl (w.heap.size + 1) rfl S2 Tryz.underlying25 rfl (by rw [HD.out]; exact infoHost) ?_)
      | (go_at_call 16; refine (H2.out _ (hw.below C1)).mono ?_; rintro e v2 ⟨rfl, d2⟩))
    go_ret
    exact ⟨ret_bool HR2.out.symm, C1.trans (d2.mono C1.size)⟩
  · have HR2 : Hid (g = true) := Lib.hid (by rw [HR.out, Bool.true_or])
    go_wp2
    go_ret
    exact ⟨ret_bool HR2.out.symm, C1⟩
set_option maxRecDepth 100000 in
set_option maxHeartbeats 2000000 in
theorem goesTo_calls (c : Ma.Cookie) (h : Hst.Host) (hca : c.host.addr.length = 16) (ha : h.addr.length = 16) (hcs : c.host.name.length ≤ 1048000) (hs : h.name.length ≤ 1048000) (w : World) (hw : Std w) :
    Calls Tryz.prog 18 #[.agg (cookieA c), .agg (hostA h)] w fun e w' => e = .returned (.bool (Ma.goesTo c h)) ∧ Below w.heap.size w w' := by
  have HC := Lib.hid (cookieA_size c hca)
  have HX := Lib.hid (cookieA_host c hca)
  have HH := Lib.hid (hostA_size h ha)
  have H1 := Lib.hid (fun W hW => mone_calls h c.host ha hca hs W hW)
  have H2 := Lib.hid (fun W hW => mdomain_calls h c.host ha hca hs hcs W hW)
  have k0 := cookieA_only c hca
  have HR : Hid (Ma.goesTo c h = if c.only = true then decide (h = c.host) && Hst.can h else Ma.domain h c.host) := Lib.hid rfl
  generalize Ma.goesTo c h = g at *
  generalize (decide (h = c.host) && Hst.can h) = b at *
  generalize Ma.domain h c.host = u at *
  generalize c.only = oc at *
  generalize hostA c.host = X at *
  generalize hostA h = H at *
  clear hca ha hcs hs
  generalize cookieA c = U at *
  have R0 := Row.new w 29 U
  have B0 := (Below.refl w.heap.size w).alloc (Nat.le_refl _) (.cells U 29)
  have hN : (w.alloc (.cells U 29)).heap.size = w.heap.size + 1 := by simp
  have S0 := Row.new (w.alloc (.cells U 29)) 25 H
  rw [hN] at S0
  have R1 := R0.alloc (.cells H 25)
  have C0 := B0.alloc B0.size (.cells H 25)
  have c0 := (R1.cell 20).trans k0
  clear hN R0 B0 k0
  cases oc
  · have HR2 : Hid (g = u) := Lib.hid (by rw [HR.out, if_neg (by decide)])
    clear HR
    go_enter Tryz.func18, Tryz.ntmps18
    go_wp2_with (first
      | (refine at_slot 11 rfl ?_; refine load_row rfl 25 _ rfl (w.heap.size + 1) rfl S0 Tryz.underlying25 rfl (by rw [HH.out]; exact infoHost) ?_)
      | (refine at_slot 13 rfl ?_; refine load_part rfl 25 _ rfl w.heap.size 2 18 rfl R1 Tryz.underlying25 rfl infoHost (by rw [HC.out]; decide) X HX.out ?_)
      | (go_at_call 7; refine (H2.out _ (hw.below C0)).mono ?_; rintro e v2 ⟨rfl, d2⟩))
    go_ret
    exact ⟨ret_bool HR2.out.symm, C0.trans (d2.mono C0.size)⟩
  · have HR2 : Hid (g = b) := Lib.hid (by rw [HR.out, if_pos rfl])
    clear HR
    go_enter Tryz.func18, Tryz.ntmps18
    go_wp2_with (first
      | (refine at_slot 7 rfl ?_; refine load_row rfl 25 _ rfl (w.heap.size + 1) rfl S0 Tryz.underlying25 rfl (by rw [HH.out]; exact infoHost) ?_)
      | (refine at_slot 9 rfl ?_; refine load_part rfl 25 _ rfl w.heap.size 2 18 rfl R1 Tryz.underlying25 rfl infoHost (by rw [HC.out]; decide) X HX.out ?_)
      | (go_at_call 15; refine (H1.out _ (hw.below C0)).mono ?_; rintro e v2 ⟨rfl, d2⟩))
    go_ret
    exact ⟨ret_bool HR2.out.symm, C0.trans (d2.mono C0.size)⟩
set_option maxRecDepth 100000 in
set_option maxHeartbeats 2000000 in
theorem crosses_calls (same cross : Int) (w : World) :
    Calls Tryz.prog 19 #[.int .i64 same, .int .i64 cross] w fun e w' => e = .returned (.bool (Ma.crossed same cross)) ∧ w = w' := by
  have HR : Hid (Ma.crossed same cross = (decide (cross = 0) || (decide (cross = 1) && !decide (same = 3)) || (decide (cross = 2) && decide (same = 1)))) := Lib.hid rfl
  generalize Ma.crossed same cross = g at *
  have h4 : cross = 0 ∨ cross = 1 ∨ cross = 2 ∨ (cross ≠ 0 ∧ cross ≠ 1 ∧ cross ≠ 2) := by omega
  rcases h4 with rfl | rfl | rfl | ⟨h0, h1, h2⟩
  · have HR2 : Hid (g = true) := Lib.hid (by rw [HR.out]; simp)
    clear HR
    go_enter Tryz.func19, Tryz.ntmps19
    go_wp2
    go_ret
    exact ⟨ret_bool HR2.out.symm, rfl⟩
  · have HR2 : Hid (g = (same != 3)) := Lib.hid (by rw [HR.out, Bool.eq_iff_iff]; simp)
    clear HR
    go_enter Tryz.func19, Tryz.ntmps19
    go_wp2
    go_ret
    exact ⟨ret_bool HR2.out.symm, rfl⟩
  · have HR2 : Hid (g = (same == 1)) := Lib.hid (by rw [HR.out, Bool.eq_iff_iff]; simp)
    clear HR
    go_enter Tryz.func19, Tryz.ntmps19
    go_wp2
    go_ret
    exact ⟨ret_bool HR2.out.symm, rfl⟩
  · have e0 : (cross == 0) = false := by rw [beq_eq_false_iff_ne]; exact h0
    have e1 : (cross == 1) = false := by rw [beq_eq_false_iff_ne]; exact h1
    have e2 : (cross == 2) = false := by rw [beq_eq_false_iff_ne]; exact h2
    have HR2 : Hid (g = false) := Lib.hid (by rw [HR.out, decide_eq_false h0, decide_eq_false h1, decide_eq_false h2]; rfl)
    clear HR h0 h1 h2
    go_enter Tryz.func19, Tryz.ntmps19
    go_wp2
    go_ret
    exact ⟨ret_bool HR2.out.symm, rfl⟩
set_option maxRecDepth 100000 in
set_option maxHeartbeats 2000000 in
theorem refDomain_calls (h d : Hst.Host) (ha : h.addr.length = 16) (hda : d.addr.length = 16) (hs : h.name.length ≤ 2900) (hds : d.name.length ≤ 2900) (w : World) :
    Calls Tryz.prog 8 #[.agg (hostA h), .agg (hostA d)] w fun e w' => e = .returned (.bool (Ma.domain h d)) ∧ Below w.heap.size w w' := by
  have HH := Lib.hid (hostA_size h ha)
  have HD := Lib.hid (hostA_size d hda)
  have H1 := Lib.hid (fun W => refRight_calls h ha hs W)
  have H2 := Lib.hid (fun W => refRight_calls d hda hds W)
  have H3 := fun W => refUnder_calls h d ha hda (by omega) (by omega) W
  rw [← Hst.under_ref] at H3
  have H3 := Lib.hid H3
  have q := eql_host h d ha hda
  have HR : Hid (Ma.domain h d = (Hst.can h && Hst.can d && (decide (h = d) || Hst.under h d))) := Lib.hid rfl
  generalize Ma.domain h d = g at *
  generalize decide (h = d) = b at *
  generalize Hst.can h = k1 at *
  generalize Hst.can d = k2 at *
  generalize Hst.under h d = u at *
  generalize hostA h = H at *
  generalize hostA d = D at *
  have R0 := Row.new w 25 H
  have B0 := (Below.refl w.heap.size w).alloc (Nat.le_refl _) (.cells H 25)
  have hN : (w.alloc (.cells H 25)).heap.size = w.heap.size + 1 := by simp
  have S0 := Row.new (w.alloc (.cells H 25)) 25 D
  rw [hN] at S0
  have R1 := R0.alloc (.cells D 25)
  have C0 := B0.alloc B0.size (.cells D 25)
  clear hN R0 B0 ha hda hs hds
  go_enter Tryz.func8, Tryz.ntmps8
  go_wp2_with (refine at_slot 5 rfl ?_; refine load_row rfl 25 _ rfl w.heap.size rfl R1 Tryz.underlying25 rfl (by rw [HH.out]; exact infoHost) ?_)
  generalize (w.alloc (.cells H 25)).alloc (.cells D 25) = x0 at *
  refine (H1.out _).mono ?_
  rintro e v1 ⟨rfl, d1⟩
  have C1 := C0.trans (d1.mono C0.size)
  have R2 := R1.stays d1
  have S2 := S0.stays d1
  clear R1 S0 C0 d1
  cases k1
  · have HR2 : Hid (g = false) := Lib.hid (by rw [HR.out]; rfl)
    go_wp2
    go_ret
    exact ⟨ret_bool HR2.out.symm, C1⟩
  · go_wp2_with (refine at_slot 9 rfl ?_; refine load_row rfl 25 _ rfl (w.heap.size + 1) rfl S2 Tryz.underlying25 rfl (by rw [HD.out]; exact infoHost) ?_)
    refine (H2.out _).mono ?_
    rintro e v2 ⟨rfl, d2⟩
    have C2 := C1.trans (d2.mono C1.size)
    have R3 := R2.stays d2
    have S3 := S2.stays d2
    clear R2 S2 C1 d2
    cases k2
    · have HR2 : Hid (g = false) := Lib.hid (by rw [HR.out]; rfl)
      go_wp2
      go_ret
      exact ⟨ret_bool HR2.out.symm, C2⟩
    · cases b
      · have HR2 : Hid (g = u) := Lib.hid (by rw [HR.out]; rfl)
        go_wp2_with (first
          | (refine at_slot 13 rfl ?_; refine load_row rfl 25 _ rfl w.heap.size rfl R3 Tryz.underlying25 rfl (by rw [HH.out]; exact infoHost) ?_)
          | (refine at_slot 14 rfl ?_; refine load_row rfl 25 _ rfl (w.heap.size + 1) rfl S3 Tryz.underlying25 rfl (by rw [HD.out]; exact infoHost) ?_)
          | (refine at_slot 17 rfl ?_; refine load_row rfl 25 _ rfl w.heap.size rfl R3 Tryz.underlying25 rfl (by rw [HH.out]; exact infoHost) ?_)
          | (refine at_slot 18 rfl ?_; refine load_row rfl 25 _ rfl (w.heap.size + 1) rfl S3 Tryz.underlying25 rfl (by rw [HD.out]; exact infoHost) ?_)
          | (go_at_call 17; refine (H3.out _).mono ?_; rintro e v3 ⟨rfl, d3⟩))
        go_ret
        exact ⟨ret_bool HR2.out.symm, C2.trans (d3.mono C2.size)⟩
      · have HR2 : Hid (g = true) := Lib.hid (by rw [HR.out]; rfl)
        go_wp2_with (first
          | (refine at_slot 13 rfl ?_; refine load_row rfl 25 _ rfl w.heap.size rfl R3 Tryz.underlying25 rfl (by rw [HH.out]; exact infoHost) ?_)
          | (refine at_slot 14 rfl ?_; refine load_row rfl 25 _ rfl (w.heap.size + 1) rfl S3 Tryz.underlying25 rfl (by rw [HD.out]; exact infoHost) ?_))
        go_ret
        exact ⟨ret_bool HR2.out.symm, C2⟩
end Go.Proofs.YtkajddopjflniaaGreatDoor
