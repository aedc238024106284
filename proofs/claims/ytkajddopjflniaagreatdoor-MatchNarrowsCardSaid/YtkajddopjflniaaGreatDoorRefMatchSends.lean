/- Which requests a cookie goes with, as the reference asks it. -/
import Derived.Test.YtkajddopjflniaaGreatDoorMatchSends
namespace Go.Proofs.YtkajddopjflniaaGreatDoor
open Go.RowKit
set_option maxRecDepth 100000 in
set_option maxHeartbeats 4000000 in
theorem refSends_calls (c : Ma.Cookie) (r : Ma.Request) (now : Int) (ha : c.host.addr.length = 16) (hra : r.host.addr.length = 16) (hcs : c.host.name.length ≤ 2900) (hrs : r.host.name.length ≤ 2900) (hp : c.path.length ≤ 1099511627776) (w : World) :
    Calls Tryz.prog 11 #[.agg (cookieA c), .agg (requestA r), .int .i64 now] w fun e w' => e = .returned (.bool (Ma.sends c r now)) ∧ Below w.heap.size w w' := by
  have HC := Lib.hid (cookieA_size c ha)
  have HCX := Lib.hid (cookieA_host c ha)
  have HQ := Lib.hid (requestA_size r hra)
  have HX := Lib.hid (requestA_host r hra)
  have H1 := Lib.hid (fun W => refDomain_calls r.host c.host hra ha hrs hcs W)
  have H2 := Lib.hid (fun W => refMPath_calls ⟨r.path.toArray⟩ ⟨c.path.toArray⟩ W (by rw [list_size]; exact hp))
  have HR := Lib.hid (Ma.sends_plain c r now)
  have HCR : Hid (Ma.crossed c.same r.cross = (decide (r.cross = 0) || (decide (r.cross = 1) && !decide (c.same = 3)) || (decide (r.cross = 2) && decide (c.same = 1)))) := Lib.hid rfl
  have q := neq_host c.host r.host ha hra
  have k0 := cookieA_only c ha
  have k1 := cookieA_path c ha
  have k2 := cookieA_secure c ha
  have k3 := cookieA_same c ha
  have k4 := cookieA_expires c ha
  have l0 := requestA_secure r
  have l1 := requestA_path r hra
  have l2 := requestA_cross r hra
  unfold strV at k1 l1
  generalize Ma.sends c r now = g at *
  change Hid (∀ W, Calls Tryz.prog 20 #[.string ⟨r.path.toArray⟩, .string ⟨c.path.toArray⟩] W fun e w' => e = .returned (.bool (Ma.path r.path c.path)) ∧ W = w') at H2
  generalize Ma.path r.path c.path = b2 at *
  generalize Ma.crossed c.same r.cross = b3 at *
  generalize Ma.domain r.host c.host = b1 at *
  generalize decide (c.host = r.host) = b4 at *
  generalize (⟨c.path.toArray⟩ : ByteArray) = cp at *
  generalize (⟨r.path.toArray⟩ : ByteArray) = rp at *
  generalize c.only = oc at *
  generalize c.secure = cs at *
  generalize r.secure = rs at *
  generalize c.same = sm at *
  generalize r.cross = cr at *
  generalize c.expires = ex at *
  generalize hostA r.host = X at *
  generalize hostA c.host = Y at *
  have R0 := Row.new w 29 (cookieA c)
  have B0 := (Below.refl w.heap.size w).alloc (Nat.le_refl _) (.cells (cookieA c) 29)
  have hN : (w.alloc (.cells (cookieA c) 29)).heap.size = w.heap.size + 1 := by simp
  have S0 := Row.new (w.alloc (.cells (cookieA c) 29)) 31 (requestA r)
  rw [hN] at S0
  have R1 := R0.alloc (.cells (requestA r) 31)
  have C1 := B0.alloc B0.size (.cells (requestA r) 31)
  clear R0 B0 hN ha hra hcs hrs hp
  generalize cookieA c = U at *
  generalize requestA r = V at *
  have c0 := (R1.cell 20).trans k0
  have hmeet : oc = false ∨ (oc = true ∧ b4 = true) ∨ (oc = true ∧ b4 = false) := by cases oc <;> cases b4 <;> simp
  rcases hmeet with rfl | ⟨rfl, rfl⟩ | ⟨rfl, rfl⟩
  case inr.inr =>
    have HG2 : Hid (g = false) := Lib.hid (by rw [HR.out]; rfl)
    clear HR HCR
    go_enter Tryz.func11, Tryz.ntmps11
    go_wp2_with (first
      | (refine at_slot 11 rfl ?_; refine load_part rfl 25 _ rfl w.heap.size 2 18 rfl R1 Tryz.underlying25 rfl infoHost (by rw [HC.out]; decide) Y HCX.out ?_)
      | (refine at_slot 13 rfl ?_; refine load_part rfl 25 _ rfl (w.heap.size + 1) 1 18 rfl S0 Tryz.underlying25 rfl infoHost (by rw [HQ.out]; decide) X HX.out ?_))
    go_ret
    exact ⟨ret_bool HG2.out.symm, C1⟩
  all_goals
    have HG1 : Hid (g = (b1 && (b2 && ((!cs || rs) && (decide (now < ex) && b3))))) := Lib.hid (by rw [HR.out]; rfl)
    clear HR
    go_enter Tryz.func11, Tryz.ntmps11
    go_wp2_with (first
      | (refine at_slot 11 rfl ?_; refine load_part rfl 25 _ rfl w.heap.size 2 18 rfl R1 Tryz.underlying25 rfl infoHost (by rw [HC.out]; decide) Y HCX.out ?_)
      | (refine at_slot 13 rfl ?_; refine load_part rfl 25 _ rfl (w.heap.size + 1) 1 18 rfl S0 Tryz.underlying25 rfl infoHost (by rw [HQ.out]; decide) X HX.out ?_)
      | (refine at_slot 18 rfl ?_; refine load_part rfl 25 _ rfl (w.heap.size + 1) 1 18 rfl S0 Tryz.underlying25 rfl infoHost (by rw [HQ.out]; decide) X HX.out ?_)
      | (refine at_slot 20 rfl ?_; refine load_part rfl 25 _ rfl w.heap.size 2 18 rfl R1 Tryz.underlying25 rfl infoHost (by rw [HC.out]; decide) Y HCX.out ?_))
    generalize (w.alloc (.cells U 29)).alloc (.cells V 31) = x0 at *
    refine (H1.out _).mono ?_
    rintro e v1 ⟨rfl, d1⟩
    have C2 := C1.trans (d1.mono C1.size)
    have R2 := R1.stays d1
    have S2 := S0.stays d1
    have c1 := (R2.cell 21).trans k1
    have c2 := (R2.cell 22).trans k2
    have c3 := (R2.cell 24).trans k3
    have c4 := (R2.cell 25).trans k4
    have e0 := (S2.cell 0).trans l0
    have e1 := (S2.cell 19).trans l1
    have e2 := (S2.cell 20).trans l2
    clear R1 S0 C1 d1 k0 k1 k2 k3 k4 l0 l1 l2 R2 S2 H1 c0
    by_cases hx : now < ex
    · have hx1 : ¬ ex ≤ now := by omega
      rw [decide_eq_true hx] at HG1
      have hcase : b1 = false ∨ (b1 = true ∧ b2 = false) ∨ (b1 = true ∧ b2 = true ∧ cs = true ∧ rs = false) ∨ (b1 = true ∧ b2 = true ∧ cs = true ∧ rs = true) ∨ (b1 = true ∧ b2 = true ∧ cs = false) := by cases b1 <;> cases b2 <;> cases cs <;> cases rs <;> simp
      clear hx
      rcases hcase with rfl | ⟨rfl, rfl⟩ | ⟨rfl, rfl, rfl, rfl⟩ | ⟨rfl, rfl, rfl, rfl⟩ | ⟨rfl, rfl, rfl⟩
      case inl =>
        have HG2 : Hid (g = false) := Lib.hid (by rw [HG1.out]; rfl)
        clear HG1 HCR
        go_wp2
        go_ret
        exact ⟨ret_bool HG2.out.symm, C2⟩
      case inr.inl =>
        have HG2 : Hid (g = false) := Lib.hid (by rw [HG1.out]; rfl)
        clear HG1 HCR
        go_wp2_with (go_at_call 20; refine (H2.out _).mono ?_; rintro e w' ⟨rfl, rfl⟩)
        go_ret
        exact ⟨ret_bool HG2.out.symm, C2⟩
      case inr.inr.inl =>
        have HG2 : Hid (g = false) := Lib.hid (by rw [HG1.out]; rfl)
        clear HG1 HCR
        go_wp2_with (go_at_call 20; refine (H2.out _).mono ?_; rintro e w' ⟨rfl, rfl⟩)
        go_ret
        exact ⟨ret_bool HG2.out.symm, C2⟩
      all_goals
        have HG3 : Hid (g = b3) := Lib.hid (by rw [HG1.out]; rfl)
        clear HG1
        have h4 : cr = 1 ∨ cr = 2 ∨ (cr ≠ 1 ∧ cr ≠ 2) := by omega
        rcases h4 with rfl | rfl | ⟨h1, h2⟩
        · have HG2 : Hid (g = (sm != 3)) := Lib.hid (by rw [HG3.out, HCR.out, Bool.eq_iff_iff]; simp)
          clear HG3 HCR
          go_wp2_with (go_at_call 20; refine (H2.out _).mono ?_; rintro e w' ⟨rfl, rfl⟩)
          go_ret
          exact ⟨ret_bool HG2.out.symm, C2⟩
        · have HG2 : Hid (g = (sm == 1)) := Lib.hid (by rw [HG3.out, HCR.out, Bool.eq_iff_iff]; simp)
          clear HG3 HCR
          go_wp2_with (go_at_call 20; refine (H2.out _).mono ?_; rintro e w' ⟨rfl, rfl⟩)
          go_ret
          exact ⟨ret_bool HG2.out.symm, C2⟩
        · have HG2 : Hid (g = (cr == 0)) := Lib.hid (by rw [HG3.out, HCR.out, decide_eq_false h1, decide_eq_false h2, Bool.eq_iff_iff]; simp)
          have f1 : (cr == 1) = false := by rw [beq_eq_false_iff_ne]; exact h1
          have f2 : (cr == 2) = false := by rw [beq_eq_false_iff_ne]; exact h2
          clear HG3 HCR h1 h2
          go_wp2_with (go_at_call 20; refine (H2.out _).mono ?_; rintro e w' ⟨rfl, rfl⟩)
          go_ret
          exact ⟨ret_bool HG2.out.symm, C2⟩
    · have hx1 : ex ≤ now := by omega
      have HG2 : Hid (g = false) := Lib.hid (by rw [HG1.out, decide_eq_false hx, Bool.false_and, Bool.and_false, Bool.and_false, Bool.and_false])
      clear HG1 HCR hx
      cases b1
      · go_wp2
        go_ret
        exact ⟨ret_bool HG2.out.symm, C2⟩
      · cases b2 <;> cases cs <;> cases rs
        all_goals
          go_wp2_with (go_at_call 20; refine (H2.out _).mono ?_; rintro e w' ⟨rfl, rfl⟩)
          go_ret
          exact ⟨ret_bool HG2.out.symm, C2⟩
end Go.Proofs.YtkajddopjflniaaGreatDoor
