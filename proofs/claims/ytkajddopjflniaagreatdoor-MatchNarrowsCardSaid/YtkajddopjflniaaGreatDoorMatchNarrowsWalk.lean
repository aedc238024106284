/- The walk of the law MatchNarrows. -/
import Derived.Test.YtkajddopjflniaaGreatDoorMatchSendsWalk
import Derived.Test.YtkajddopjflniaaGreatDoorMatchVar
namespace Go.Proofs.YtkajddopjflniaaGreatDoor
open Go.RowKit
/-- The walk stands at the store of just this slot into just that (or fails at once). -/
theorem at_store {P : Program} {ops : Array Oper} {Q : Exit → Act → World → Prop} {rest : List Oper} {o : Oper} {a : Act} {w : World} (t : TypeId) (x y : Operand) (_h : o.op = .store t x y) (k : wpList P ops Q (o :: rest) a w) : wpList P ops Q (o :: rest) a w := k
set_option maxRecDepth 100000 in
set_option maxHeartbeats 4000000 in
theorem mnarrows_walk (c : Ma.Cookie) (r : Ma.Request) (now : Int) (w : World) (hc : CookieOk c) (hr : RequestOk r) (hn : (Lit.int .i64 now).wf = true) (hw : Std w) :
    Calls Tryz.prog 5 #[.agg (cookieA c), .agg (requestA r), .int .i64 now] w fun e w' => e = .returned (.bool true) ∧ Below w.heap.size w w' := by
  have z0 := zeroRequest
  have z1 := zeroCookie
  have ha := hc.host.addr
  have hb := hr.host.addr
  have hnb := bounds_i64 hn
  have HA := Lib.hid match_alive
  have HC := Lib.hid (show (Tryz.prog.info? 29).map (·.size) = some (cookieA c).size by rw [cookieA_size c ha]; exact infoCookie)
  have HD := Lib.hid (show (Tryz.prog.info? 31).map (·.size) = some (requestA r).size by rw [requestA_size r hb]; exact infoRequest)
  have HCs := Lib.hid (cookieA_size c ha)
  have HDs := Lib.hid (requestA_size r hb)
  have HC1 := Lib.hid (cookieA_one c)
  have HD1 := Lib.hid (requestA_one r)
  have HG := Lib.hid (fun W => mgreat_calls c r ha hb W)
  have k3 := cookieA_same c ha
  have HS : Hid (Ma.great c r = false → ∀ W, Std W → Calls Tryz.prog 10 #[.agg (cookieA c), .agg (requestA r), .int .i64 now] W fun e w' => e = .returned (.bool (Ma.sends c r now)) ∧ Below W.heap.size W w') := Lib.hid (fun hg W hW => by
    obtain ⟨g1, g2, g3, _⟩ := Ma.great_no hg
    exact sends_calls c r now ha hb (by omega) (by omega) (by omega) W hW)
  obtain ⟨E, hE, hEle⟩ : ∃ E : Int, ((0 < now ∧ IntKind.i64.wrap (now.tdiv 2) = E) ∨ (¬ 0 < now ∧ now = E)) ∧ E ≤ now := by
    by_cases h : 0 < now
    · refine ⟨now.tdiv 2, .inl ⟨h, ?_⟩, ?_⟩
      · rw [IntKind.wrap_i64, Int.tdiv_eq_ediv_of_nonneg (by omega)]; omega
      · rw [Int.tdiv_eq_ediv_of_nonneg (by omega)]; omega
    · exact ⟨now, .inr ⟨h, rfl⟩, Int.le_refl _⟩
  have HN : Hid (Ma.great c r = false → Ma.sends c r now = true → ∀ W, Std W → Calls Tryz.prog 10 #[.agg (cookieA c), .agg (requestA { r with secure := true, cross := 0 }), .int .i64 E] W fun e w' => e = .returned (.bool true) ∧ Below W.heap.size W w') := Lib.hid (fun hg hs W hW => by
    obtain ⟨g1, g2, g3, _⟩ := Ma.great_no hg
    have h := sends_calls c { r with secure := true, cross := 0 } E ha hb (by omega) (by show r.host.name.length ≤ _; omega) (by omega) W hW
    rw [Ma.sends_near hs hEle] at h
    exact h)
  have HW : Hid (Ma.great c r = false → Ma.sends c r now = true → ∀ W, Std W → Calls Tryz.prog 10 #[.agg (cookieA { c with only := false, secure := false, same := 1 }), .agg (requestA r), .int .i64 now] W fun e w' => e = .returned (.bool true) ∧ Below W.heap.size W w') := Lib.hid (fun hg hs W hW => by
    obtain ⟨g1, g2, g3, _⟩ := Ma.great_no hg
    have h := sends_calls { c with only := false, secure := false, same := 1 } r now ha hb (by show c.host.name.length ≤ _; omega) (by omega) (by show c.path.length ≤ _; omega) W hW
    rw [Ma.sends_wide hs] at h
    exact h)
  have HR : Hid (Ma.great c r = false → Ma.sends c r now = true → ∀ W, Calls Tryz.prog 12 #[.agg (hostA r.host)] W fun e w' => e = .returned (.bool true) ∧ Below W.heap.size W w') := Lib.hid (fun hg hs W => by
    obtain ⟨g1, g2, g3, _⟩ := Ma.great_no hg
    have h := refRight_calls r.host hb (by omega) W
    rw [(Ma.sends_host hs).2] at h
    exact h)
  have HO : Hid (Ma.sends c r now = true → c.only = true → decide (c.host = r.host) = true) := Lib.hid (fun hs ho => decide_eq_true ((Ma.sends_host hs).1 ho))
  have q := eql_host c.host r.host ha hb
  have k0 := cookieA_only c ha
  have k2 := cookieA_secure c ha
  have l0 := requestA_secure r
  have l2 := requestA_cross r hb
  have HX := Lib.hid (cookieA_host c ha)
  have HY := Lib.hid (requestA_host r hb)
  have M1 : ((requestA r).setIfInBounds 0 (.bool true)).setIfInBounds 20 (.int .i64 0) = requestA { r with secure := true, cross := 0 } := by
    rw [requestA_setSecure, requestA_setCross { r with secure := true } hb]
  have M2 : (((cookieA c).setIfInBounds 20 (.bool false)).setIfInBounds 22 (.bool false)).setIfInBounds 24 (.int .i64 1) = cookieA { c with only := false, secure := false, same := 1 } := by
    rw [cookieA_setOnly c ha, cookieA_setSecure { c with only := false } ha, cookieA_setSame { c with only := false, secure := false } ha]
  have HNs := Lib.hid (show (Tryz.prog.info? 31).map (·.size) = some (requestA { r with secure := true, cross := 0 }).size by rw [requestA_size { r with secure := true, cross := 0 } hb]; exact infoRequest)
  have HWs := Lib.hid (show (Tryz.prog.info? 29).map (·.size) = some (cookieA { c with only := false, secure := false, same := 1 }).size by rw [cookieA_size { c with only := false, secure := false, same := 1 } ha]; exact infoCookie)
  have HZR := Lib.hid (requestA_size Ma.zeroR rfl)
  have HZC := Lib.hid (cookieA_size Ma.zeroC rfl)
  have M1 := Lib.hid M1
  have M2 := Lib.hid M2
  have R0 := Row.new w 29 (cookieA c)
  have B0 := (Below.refl w.heap.size w).alloc (Nat.le_refl _) (.cells (cookieA c) 29)
  have hN : (w.alloc (.cells (cookieA c) 29)).heap.size = w.heap.size + 1 := by simp
  have S1 := Row.new (w.alloc (.cells (cookieA c) 29)) 31 (requestA r)
  rw [hN] at S1
  have R1 := R0.alloc (.cells (requestA r) 31)
  have C1 := B0.alloc B0.size (.cells (requestA r) 31)
  clear R0 B0 hN ha hb hc hr hn hnb hEle
  generalize Ma.great c r = g at *
  generalize Ma.sends c r now = s at *
  generalize decide (c.host = r.host) = eqh at *
  generalize c.only = oc at *
  generalize c.secure = cs at *
  generalize c.same = sm at *
  generalize r.secure = rs at *
  generalize r.cross = cr at *
  generalize hostA c.host = X at *
  generalize hostA r.host = Y at *
  generalize cookieA { c with only := false, secure := false, same := 1 } = Wd at *
  generalize requestA { r with secure := true, cross := 0 } = Nr at *
  generalize cookieA c = U at *
  generalize requestA r = V at *
  generalize cookieA Ma.zeroC = ZC at *
  generalize requestA Ma.zeroR = ZR at *
  go_enter Tryz.func5, Tryz.ntmps5
  go_wp2_with fail
  generalize (w.alloc (.cells U 29)).alloc (.cells V 31) = x1 at *
  refine (HA.out _).mono ?_
  rintro e w' ⟨rfl, rfl⟩
  go_wp2_with (first
    | (refine at_slot 12 rfl ?_; refine load_row rfl 29 _ rfl w.heap.size rfl R1 Tryz.underlying29 rfl HC.out ?_)
    | (refine at_slot 13 rfl ?_; refine load_row rfl 31 _ rfl (w.heap.size + 1) rfl S1 Tryz.underlying31 rfl HD.out ?_))
  refine (HG.out _).mono ?_
  rintro e x2 ⟨rfl, d2⟩
  have C2 := C1.trans (d2.mono C1.size)
  have R2 := R1.stays d2
  have S2 := S1.stays d2
  have c3 := (R2.cell 24).trans k3
  clear d2 R1 S1 C1 HG HA
  cases g
  case true =>
    go_wp2
    go_ret
    exact ⟨rfl, C2⟩
  case false =>
    have h3 : sm < 0 ∨ (¬ sm < 0 ∧ 3 < sm) ∨ (¬ sm < 0 ∧ ¬ 3 < sm) := by omega
    rcases h3 with h | ⟨h, k⟩ | ⟨h, k⟩
    · go_wp2
      go_ret
      exact ⟨rfl, C2⟩
    · go_wp2
      go_ret
      exact ⟨rfl, C2⟩
    have h' := decide_eq_false h
    have k' := decide_eq_false k
    have W2 := hw.below C2
    have HS1 := Lib.hid (HS.out rfl)
    have HN1 := Lib.hid (HN.out rfl)
    have HW1 := Lib.hid (HW.out rfl)
    have HR1 := Lib.hid (HR.out rfl)
    clear HS HN HW HR
    go_wp2_with (first
      | (refine at_slot 26 rfl ?_; refine load_row rfl 29 _ rfl w.heap.size rfl R2 Tryz.underlying29 rfl HC.out ?_)
      | (refine at_slot 27 rfl ?_; refine load_row rfl 31 _ rfl (w.heap.size + 1) rfl S2 Tryz.underlying31 rfl HD.out ?_))
    refine (HS1.out _ W2).mono ?_
    rintro e x3 ⟨rfl, d3⟩
    have C3 := C2.trans (d3.mono C2.size)
    have R3 := R2.stays d3
    have S3 := S2.stays d3
    clear d3 R2 S2 C2 HS1 W2 c3 h k h' k'
    cases s
    · go_wp2
      go_ret
      exact ⟨rfl, C3⟩
    have HN := Lib.hid (HN1.out rfl)
    have HW := Lib.hid (HW1.out rfl)
    have HR := Lib.hid (HR1.out rfl)
    have HO1 := Lib.hid (HO.out rfl)
    clear HN1 HW1 HR1 HO
    obtain ⟨T1, U1, C4, L4⟩ := lay_row 31 ZR V C3 C3.size
    have R4 := L4 _ _ _ R3
    have S4 := L4 _ _ _ S3
    have ne1 : w.heap.size ≠ x3.heap.size := by have := R3.lt; omega
    have ne2 : w.heap.size + 1 ≠ x3.heap.size := by have := S3.lt; omega
    have le1 := C3.size
    have R5 := (R4.other (p := ⟨x3.heap.size, 0, none⟩) ne1 (.bool true)).other (p := ⟨x3.heap.size, 20, none⟩) ne1 (.int .i64 0)
    have S5 := (S4.other (p := ⟨x3.heap.size, 0, none⟩) ne2 (.bool true)).other (p := ⟨x3.heap.size, 20, none⟩) ne2 (.int .i64 0)
    have N5 := (U1.set 0 (.bool true)).set 20 (.int .i64 0)
    rw [M1.out] at N5
    have C5 := (C4.setCell (p := ⟨x3.heap.size, 0, none⟩) le1 (.bool true)).setCell (p := ⟨x3.heap.size, 20, none⟩) le1 (.int .i64 0)
    have q0 := (U1.cell 0).trans l0
    have f0 := U1.free 0
    have q2 := (U1.cell 20).trans l2
    have f2 := U1.free 20
    clear L4 R4 S4 U1 C4 ne1 ne2
    have ne3 := R5.lt
    have ne4 := S5.lt
    have ne5 := N5.lt
    rcases hE with ⟨hp, hE⟩ | ⟨hp, rfl⟩
    all_goals
      go_wp2_with (first
        | (refine at_slot 32 rfl ?_; refine load_row rfl 31 _ rfl (w.heap.size + 1) rfl S3 Tryz.underlying31 rfl HD.out ?_)
        | (refine at_store 31 (.tmp 7) (.tmp 32) rfl ?_; refine wpList_store_row rfl 31 _ _ rfl x3.heap.size V rfl rfl 31 _ T1 HD.out (by rw [HDs.out, HZR.out]) HD1.out ?_)
        | (refine at_slot 40 rfl ?_; generalize World.setCell (World.setCell _ _ _) ⟨_, 20, none⟩ _ = y at *; refine load_row rfl 29 _ rfl w.heap.size rfl R5 Tryz.underlying29 rfl HC.out ?_)
        | (refine at_store 29 (.tmp 9) (.tmp 40) rfl ?_
           obtain ⟨T2, U2, C6, L6⟩ := lay_row 29 ZC U C5 C5.size
           have R6 := L6 _ _ _ R5
           have S6 := L6 _ _ _ S5
           have N6 := L6 _ _ _ N5
           have le2 := C5.size
           have p0 := (U2.cell 20).trans k0
           have g0 := U2.free 20
           have p1 := (U2.cell 22).trans k2
           have g1 := U2.free 22
           have p2 := (U2.cell 24).trans k3
           have g2 := U2.free 24
           have R7 := ((R6.other (p := ⟨y.heap.size, 20, none⟩) (Nat.ne_of_lt ne3) (.bool false)).other (p := ⟨y.heap.size, 22, none⟩) (Nat.ne_of_lt ne3) (.bool false)).other (p := ⟨y.heap.size, 24, none⟩) (Nat.ne_of_lt ne3) (.int .i64 1)
           have S7 := ((S6.other (p := ⟨y.heap.size, 20, none⟩) (Nat.ne_of_lt ne4) (.bool false)).other (p := ⟨y.heap.size, 22, none⟩) (Nat.ne_of_lt ne4) (.bool false)).other (p := ⟨y.heap.size, 24, none⟩) (Nat.ne_of_lt ne4) (.int .i64 1)
           have N7 := ((N6.other (p := ⟨y.heap.size, 20, none⟩) (Nat.ne_of_lt ne5) (.bool false)).other (p := ⟨y.heap.size, 22, none⟩) (Nat.ne_of_lt ne5) (.bool false)).other (p := ⟨y.heap.size, 24, none⟩) (Nat.ne_of_lt ne5) (.int .i64 1)
           have V7 := ((U2.set 20 (.bool false)).set 22 (.bool false)).set 24 (.int .i64 1)
           rw [M2.out] at V7
           have C7 := ((C6.setCell (p := ⟨y.heap.size, 20, none⟩) le2 (.bool false)).setCell (p := ⟨y.heap.size, 22, none⟩) le2 (.bool false)).setCell (p := ⟨y.heap.size, 24, none⟩) le2 (.int .i64 1)
           clear L6 S5 N5 R5 C5 U2 C6 R6 S6 N6 ne3 ne4 ne5 le2
           refine wpList_store_row rfl 29 _ _ rfl y.heap.size U rfl rfl 29 _ T2 HC.out (by rw [HCs.out, HZC.out]) HC1.out ?_)
        | (refine at_slot 44 rfl ?_; generalize World.setCell (World.setCell _ _ _) ⟨_, 24, none⟩ _ = y7 at *; refine load_row rfl 29 _ rfl w.heap.size rfl R7 Tryz.underlying29 rfl HC.out ?_)
        | (refine at_slot 45 rfl ?_; refine load_row rfl 31 _ rfl x3.heap.size rfl N7 Tryz.underlying31 rfl HNs.out ?_))
      have W7 := hw.below C7
      refine (HN.out _ W7).mono ?_
      rintro e x8 ⟨rfl, d8⟩
      have C8 := C7.trans (d8.mono C7.size)
      have R8 := R7.stays d8
      have S8 := S7.stays d8
      have V8 := V7.stays d8
      have W8 := hw.below C8
      clear d8 R7 S7 V7 N7 T2 p0 p1 p2 g0 g1 g2
      go_wp2_with (first
        | (refine at_slot 49 rfl ?_; refine load_row rfl 29 _ rfl y.heap.size rfl V8 Tryz.underlying29 rfl HWs.out ?_)
        | (refine at_slot 50 rfl ?_; refine load_row rfl 31 _ rfl (w.heap.size + 1) rfl S8 Tryz.underlying31 rfl HD.out ?_))
      refine (HW.out _ W8).mono ?_
      rintro e x9 ⟨rfl, d9⟩
      have C9 := C8.trans (d9.mono C8.size)
      have R9 := R8.stays d9
      have S9 := S8.stays d9
      have c9 := (R9.cell 20).trans k0
      clear d9 R8 S8 V8
      cases oc
      · go_wp2_with (first
          | (refine at_slot 68 rfl ?_; refine load_part rfl 25 _ rfl (w.heap.size + 1) 1 18 rfl S9 Tryz.underlying25 rfl infoHost (by rw [HDs.out]; decide) Y HY.out ?_)
          | (go_at_call 12; refine (HR.out _).mono ?_; rintro e x10 ⟨rfl, d10⟩))
        go_ret
        exact ⟨rfl, C9.trans (d10.mono C9.size)⟩
      · have hq := HO1.out rfl
        subst hq
        go_wp2_with (first
          | (refine at_slot 60 rfl ?_; refine load_part rfl 25 _ rfl w.heap.size 2 18 rfl R9 Tryz.underlying25 rfl infoHost (by rw [HCs.out]; decide) X HX.out ?_)
          | (refine at_slot 62 rfl ?_; refine load_part rfl 25 _ rfl (w.heap.size + 1) 1 18 rfl S9 Tryz.underlying25 rfl infoHost (by rw [HDs.out]; decide) Y HY.out ?_)
          | (refine at_slot 68 rfl ?_; refine load_part rfl 25 _ rfl (w.heap.size + 1) 1 18 rfl S9 Tryz.underlying25 rfl infoHost (by rw [HDs.out]; decide) Y HY.out ?_)
          | (go_at_call 12; refine (HR.out _).mono ?_; rintro e x10 ⟨rfl, d10⟩))
        go_ret
        exact ⟨rfl, C9.trans (d10.mono C9.size)⟩
end Go.Proofs.YtkajddopjflniaaGreatDoor
