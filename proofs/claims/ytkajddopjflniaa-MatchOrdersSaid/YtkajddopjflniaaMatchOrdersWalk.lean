/- The walk of the law MatchOrders. -/
import Derived.Test.YtkajddopjflniaaMatchAlive
import Derived.Test.YtkajddopjflniaaMatchAhead
import Derived.Test.YtkajddopjflniaaMatchData
namespace Go.Proofs.Ytkajddopjflniaa
open Go.RowKit
set_option maxRecDepth 100000 in
set_option maxHeartbeats 4000000 in
theorem morders_walk (c d : Ma.Cookie) (w : World) (hc : CookieOk c) (hd : CookieOk d) :
    Calls Try.prog 4 #[.agg (cookieA c), .agg (cookieA d)] w fun e w' => e = .returned (.bool true) ∧ Below w.heap.size w w' := by
  have ha := hc.host.addr
  have hb := hd.host.addr
  have HA := Lib.hid match_alive
  have HC := Lib.hid (show (Try.prog.info? 30).map (·.size) = some (cookieA c).size by rw [cookieA_size c ha]; exact infoCookie)
  have HD := Lib.hid (show (Try.prog.info? 30).map (·.size) = some (cookieA d).size by rw [cookieA_size d hb]; exact infoCookie)
  have G1 := fun W => mahead_calls c d ha hb W
  have G2 := fun W => mahead_calls d c hb ha W
  have G3 := fun W => mahead_calls c c ha ha W
  have K1 := fun W => mkey_calls c c ha ha W
  have K2 := fun W => mkey_calls c d ha hb W
  have K3 := fun W => refKey_calls c d ha hb W
  have G4 := fun W => refAhead_calls c d ha hb W
  rw [Ma.goes_self] at G3
  rw [Ma.key_self] at K1
  have hg := Ma.goes_once c d
  have G1 := Lib.hid G1
  have G2 := Lib.hid G2
  have G3 := Lib.hid G3
  have G4 := Lib.hid G4
  have K1 := Lib.hid K1
  have K2 := Lib.hid K2
  have K3 := Lib.hid K3
  have R0 := Row.new w 30 (cookieA c)
  have B0 := (Below.refl w.heap.size w).alloc (Nat.le_refl _) (.cells (cookieA c) 30)
  have hN : (w.alloc (.cells (cookieA c) 30)).heap.size = w.heap.size + 1 := by simp
  have S1 := Row.new (w.alloc (.cells (cookieA c) 30)) 30 (cookieA d)
  rw [hN] at S1
  have R1 := R0.alloc (.cells (cookieA d) 30)
  have C1 := B0.alloc B0.size (.cells (cookieA d) 30)
  clear R0 B0 hN ha hb hc hd
  generalize Ma.goes c d = g1 at *
  generalize Ma.goes d c = g2 at *
  generalize Ma.key c d = k at *
  generalize cookieA c = U at *
  generalize cookieA d = V at *
  cases g1
  · clear hg G2
    go_enter Try.func4, Try.ntmps4
    go_wp2_with fail
    generalize (w.alloc (.cells U 30)).alloc (.cells V 30) = x1 at *
    refine (HA.out _).mono ?_
    rintro e w' ⟨rfl, rfl⟩
    go_wp2_with (first
      | (refine at_slot 7 rfl ?_; refine load_row rfl 30 _ rfl w.heap.size rfl R1 Try.underlying30 rfl HC.out ?_)
      | (refine at_slot 8 rfl ?_; refine load_row rfl 30 _ rfl (w.heap.size + 1) rfl S1 Try.underlying30 rfl HD.out ?_))
    refine (G1.out _).mono ?_
    rintro e x2 ⟨rfl, d2⟩
    have C2 := C1.trans (d2.mono C1.size)
    have R2 := R1.stays d2
    have S2 := S1.stays d2
    clear d2 R1 S1 C1
    go_wp2_with (first
      | (refine at_slot 16 rfl ?_; refine load_row rfl 30 _ rfl w.heap.size rfl R2 Try.underlying30 rfl HC.out ?_)
      | (refine at_slot 17 rfl ?_; refine load_row rfl 30 _ rfl w.heap.size rfl R2 Try.underlying30 rfl HC.out ?_))
    refine (G3.out _).mono ?_
    rintro e x3 ⟨rfl, d3⟩
    have C3 := C2.trans (d3.mono C2.size)
    have R3 := R2.stays d3
    have S3 := S2.stays d3
    clear d3 R2 S2 C2
    go_wp2_with (first
      | (refine at_slot 21 rfl ?_; refine load_row rfl 30 _ rfl w.heap.size rfl R3 Try.underlying30 rfl HC.out ?_)
      | (refine at_slot 22 rfl ?_; refine load_row rfl 30 _ rfl w.heap.size rfl R3 Try.underlying30 rfl HC.out ?_))
    refine (K1.out _).mono ?_
    rintro e x4 ⟨rfl, d4⟩
    have C4 := C3.trans (d4.mono C3.size)
    have R4 := R3.stays d4
    have S4 := S3.stays d4
    clear d4 R3 S3 C3
    have RR := Lib.hid (fun W (hC : Below x4.heap.size x4 W) => R4.stays hC)
    have SS := Lib.hid (fun W (hC : Below x4.heap.size x4 W) => S4.stays hC)
    have D1 := Lib.hid (fun W (hC : Below x4.heap.size x4 W) => on_class hC (K2.out W))
    have D2 := Lib.hid (fun W (hC : Below x4.heap.size x4 W) => on_class hC (K3.out W))
    have D3 := Lib.hid (fun W (hC : Below x4.heap.size x4 W) => on_class hC (G1.out W))
    have D4 := Lib.hid (fun W (hC : Below x4.heap.size x4 W) => on_class hC (G4.out W))
    clear R4 S4 K1 K2 K3 G1 G3 G4
    go_wp2_with fail
    refine region_quiet (C := fun W => Below x4.heap.size x4 W) (by kernel_rfl) (by kernel_rfl) (Below.refl _ _).drew ?_
    refine q_yields (yields_row (by rfl) _ _ rfl _ rfl RR.out Try.underlying30 rfl HC.out) ?_
    simp only [Act.put, List.setIfInBounds_toArray, List.set_cons_zero, List.set_cons_succ]
    refine q_yields (yields_row (by rfl) _ _ rfl _ rfl SS.out Try.underlying30 rfl HD.out) ?_
    simp only [Act.put, List.setIfInBounds_toArray, List.set_cons_zero, List.set_cons_succ]
    refine q_call (by rfl) (.bool k) (fun wq hC => by unfold Oper.quietAt; go_simp; exact D1.out wq hC) ?_
    simp only [Act.put, List.setIfInBounds_toArray, List.set_cons_zero, List.set_cons_succ]
    refine q_yields (yields_row (by rfl) _ _ rfl _ rfl RR.out Try.underlying30 rfl HC.out) ?_
    simp only [Act.put, List.setIfInBounds_toArray, List.set_cons_zero, List.set_cons_succ]
    refine q_yields (yields_row (by rfl) _ _ rfl _ rfl SS.out Try.underlying30 rfl HD.out) ?_
    simp only [Act.put, List.setIfInBounds_toArray, List.set_cons_zero, List.set_cons_succ]
    refine q_call (by rfl) (.bool k) (fun wq hC => by unfold Oper.quietAt; go_simp; exact D2.out wq hC) ?_
    simp only [Act.put, List.setIfInBounds_toArray, List.set_cons_zero, List.set_cons_succ]
    refine q_yields (v := ?_) (Or.inl ⟨by rfl, ?_⟩) ?_
    rotate_left
    · intro _ _; go_simp; with_reducible rfl
    simp only [Act.put, List.setIfInBounds_toArray, List.set_cons_zero, List.set_cons_succ]
    refine q_yields (v := ?_) (Or.inl ⟨by rfl, ?_⟩) ?_
    rotate_left
    · intro _ _; go_simp; with_reducible rfl
    simp only [Act.put, List.setIfInBounds_toArray, List.set_cons_zero, List.set_cons_succ]
    refine q_yields (yields_row (by rfl) _ _ rfl _ rfl RR.out Try.underlying30 rfl HC.out) ?_
    simp only [Act.put, List.setIfInBounds_toArray, List.set_cons_zero, List.set_cons_succ]
    refine q_yields (yields_row (by rfl) _ _ rfl _ rfl SS.out Try.underlying30 rfl HD.out) ?_
    simp only [Act.put, List.setIfInBounds_toArray, List.set_cons_zero, List.set_cons_succ]
    refine q_call (by rfl) (.bool false) (fun wq hC => by unfold Oper.quietAt; go_simp; exact D3.out wq hC) ?_
    simp only [Act.put, List.setIfInBounds_toArray, List.set_cons_zero, List.set_cons_succ]
    refine q_yields (yields_row (by rfl) _ _ rfl _ rfl RR.out Try.underlying30 rfl HC.out) ?_
    simp only [Act.put, List.setIfInBounds_toArray, List.set_cons_zero, List.set_cons_succ]
    refine q_yields (yields_row (by rfl) _ _ rfl _ rfl SS.out Try.underlying30 rfl HD.out) ?_
    simp only [Act.put, List.setIfInBounds_toArray, List.set_cons_zero, List.set_cons_succ]
    refine q_call (by rfl) (.bool false) (fun wq hC => by unfold Oper.quietAt; go_simp; exact D4.out wq hC) ?_
    simp only [Act.put, List.setIfInBounds_toArray, List.set_cons_zero, List.set_cons_succ]
    refine q_yields (v := ?_) (Or.inl ⟨by rfl, ?_⟩) ?_
    rotate_left
    · intro _ _; go_simp; with_reducible rfl
    simp only [Act.put, List.setIfInBounds_toArray, List.set_cons_zero, List.set_cons_succ]
    refine q_yields (v := ?_) (Or.inl ⟨by rfl, ?_⟩) ?_
    rotate_left
    · intro _ _; go_simp; with_reducible rfl
    simp only [Act.put, List.setIfInBounds_toArray, List.set_cons_zero, List.set_cons_succ]
    refine q_yields (v := ?_) (Or.inl ⟨by rfl, ?_⟩) ?_
    rotate_left
    · intro _ _; go_simp; with_reducible rfl
    simp only [Act.put, List.setIfInBounds_toArray, List.set_cons_zero, List.set_cons_succ]
    refine wpQuiet_nil ?_
    intro w' hC
    go_wp2
    go_ret
    exact ⟨rfl, C4.trans (hC.mono C4.size)⟩
  · cases g2
    · clear hg
      go_enter Try.func4, Try.ntmps4
      go_wp2_with fail
      generalize (w.alloc (.cells U 30)).alloc (.cells V 30) = x1 at *
      refine (HA.out _).mono ?_
      rintro e w' ⟨rfl, rfl⟩
      go_wp2_with (first
        | (refine at_slot 7 rfl ?_; refine load_row rfl 30 _ rfl w.heap.size rfl R1 Try.underlying30 rfl HC.out ?_)
        | (refine at_slot 8 rfl ?_; refine load_row rfl 30 _ rfl (w.heap.size + 1) rfl S1 Try.underlying30 rfl HD.out ?_))
      refine (G1.out _).mono ?_
      rintro e x9 ⟨rfl, d9⟩
      have C9 := C1.trans (d9.mono C1.size)
      have R9 := R1.stays d9
      have S9 := S1.stays d9
      clear d9 R1 S1 C1
      go_wp2_with (first
        | (refine at_slot 11 rfl ?_; refine load_row rfl 30 _ rfl (w.heap.size + 1) rfl S9 Try.underlying30 rfl HD.out ?_)
        | (refine at_slot 12 rfl ?_; refine load_row rfl 30 _ rfl w.heap.size rfl R9 Try.underlying30 rfl HC.out ?_))
      refine (G2.out _).mono ?_
      rintro e x2 ⟨rfl, d2⟩
      have C2 := C9.trans (d2.mono C9.size)
      have R2 := R9.stays d2
      have S2 := S9.stays d2
      clear d2 R9 S9 C9
      go_wp2_with (first
        | (refine at_slot 16 rfl ?_; refine load_row rfl 30 _ rfl w.heap.size rfl R2 Try.underlying30 rfl HC.out ?_)
        | (refine at_slot 17 rfl ?_; refine load_row rfl 30 _ rfl w.heap.size rfl R2 Try.underlying30 rfl HC.out ?_))
      refine (G3.out _).mono ?_
      rintro e x3 ⟨rfl, d3⟩
      have C3 := C2.trans (d3.mono C2.size)
      have R3 := R2.stays d3
      have S3 := S2.stays d3
      clear d3 R2 S2 C2
      go_wp2_with (first
        | (refine at_slot 21 rfl ?_; refine load_row rfl 30 _ rfl w.heap.size rfl R3 Try.underlying30 rfl HC.out ?_)
        | (refine at_slot 22 rfl ?_; refine load_row rfl 30 _ rfl w.heap.size rfl R3 Try.underlying30 rfl HC.out ?_))
      refine (K1.out _).mono ?_
      rintro e x4 ⟨rfl, d4⟩
      have C4 := C3.trans (d4.mono C3.size)
      have R4 := R3.stays d4
      have S4 := S3.stays d4
      clear d4 R3 S3 C3
      have RR := Lib.hid (fun W (hC : Below x4.heap.size x4 W) => R4.stays hC)
      have SS := Lib.hid (fun W (hC : Below x4.heap.size x4 W) => S4.stays hC)
      have D1 := Lib.hid (fun W (hC : Below x4.heap.size x4 W) => on_class hC (K2.out W))
      have D2 := Lib.hid (fun W (hC : Below x4.heap.size x4 W) => on_class hC (K3.out W))
      have D3 := Lib.hid (fun W (hC : Below x4.heap.size x4 W) => on_class hC (G1.out W))
      have D4 := Lib.hid (fun W (hC : Below x4.heap.size x4 W) => on_class hC (G4.out W))
      clear R4 S4 K1 K2 K3 G1 G2 G3 G4
      go_wp2_with fail
      refine region_quiet (C := fun W => Below x4.heap.size x4 W) (by kernel_rfl) (by kernel_rfl) (Below.refl _ _).drew ?_
      refine q_yields (yields_row (by rfl) _ _ rfl _ rfl RR.out Try.underlying30 rfl HC.out) ?_
      simp only [Act.put, List.setIfInBounds_toArray, List.set_cons_zero, List.set_cons_succ]
      refine q_yields (yields_row (by rfl) _ _ rfl _ rfl SS.out Try.underlying30 rfl HD.out) ?_
      simp only [Act.put, List.setIfInBounds_toArray, List.set_cons_zero, List.set_cons_succ]
      refine q_call (by rfl) (.bool k) (fun wq hC => by unfold Oper.quietAt; go_simp; exact D1.out wq hC) ?_
      simp only [Act.put, List.setIfInBounds_toArray, List.set_cons_zero, List.set_cons_succ]
      refine q_yields (yields_row (by rfl) _ _ rfl _ rfl RR.out Try.underlying30 rfl HC.out) ?_
      simp only [Act.put, List.setIfInBounds_toArray, List.set_cons_zero, List.set_cons_succ]
      refine q_yields (yields_row (by rfl) _ _ rfl _ rfl SS.out Try.underlying30 rfl HD.out) ?_
      simp only [Act.put, List.setIfInBounds_toArray, List.set_cons_zero, List.set_cons_succ]
      refine q_call (by rfl) (.bool k) (fun wq hC => by unfold Oper.quietAt; go_simp; exact D2.out wq hC) ?_
      simp only [Act.put, List.setIfInBounds_toArray, List.set_cons_zero, List.set_cons_succ]
      refine q_yields (v := ?_) (Or.inl ⟨by rfl, ?_⟩) ?_
      rotate_left
      · intro _ _; go_simp; with_reducible rfl
      simp only [Act.put, List.setIfInBounds_toArray, List.set_cons_zero, List.set_cons_succ]
      refine q_yields (v := ?_) (Or.inl ⟨by rfl, ?_⟩) ?_
      rotate_left
      · intro _ _; go_simp; with_reducible rfl
      simp only [Act.put, List.setIfInBounds_toArray, List.set_cons_zero, List.set_cons_succ]
      refine q_yields (yields_row (by rfl) _ _ rfl _ rfl RR.out Try.underlying30 rfl HC.out) ?_
      simp only [Act.put, List.setIfInBounds_toArray, List.set_cons_zero, List.set_cons_succ]
      refine q_yields (yields_row (by rfl) _ _ rfl _ rfl SS.out Try.underlying30 rfl HD.out) ?_
      simp only [Act.put, List.setIfInBounds_toArray, List.set_cons_zero, List.set_cons_succ]
      refine q_call (by rfl) (.bool true) (fun wq hC => by unfold Oper.quietAt; go_simp; exact D3.out wq hC) ?_
      simp only [Act.put, List.setIfInBounds_toArray, List.set_cons_zero, List.set_cons_succ]
      refine q_yields (yields_row (by rfl) _ _ rfl _ rfl RR.out Try.underlying30 rfl HC.out) ?_
      simp only [Act.put, List.setIfInBounds_toArray, List.set_cons_zero, List.set_cons_succ]
      refine q_yields (yields_row (by rfl) _ _ rfl _ rfl SS.out Try.underlying30 rfl HD.out) ?_
      simp only [Act.put, List.setIfInBounds_toArray, List.set_cons_zero, List.set_cons_succ]
      refine q_call (by rfl) (.bool true) (fun wq hC => by unfold Oper.quietAt; go_simp; exact D4.out wq hC) ?_
      simp only [Act.put, List.setIfInBounds_toArray, List.set_cons_zero, List.set_cons_succ]
      refine q_yields (v := ?_) (Or.inl ⟨by rfl, ?_⟩) ?_
      rotate_left
      · intro _ _; go_simp; with_reducible rfl
      simp only [Act.put, List.setIfInBounds_toArray, List.set_cons_zero, List.set_cons_succ]
      refine q_yields (v := ?_) (Or.inl ⟨by rfl, ?_⟩) ?_
      rotate_left
      · intro _ _; go_simp; with_reducible rfl
      simp only [Act.put, List.setIfInBounds_toArray, List.set_cons_zero, List.set_cons_succ]
      refine q_yields (v := ?_) (Or.inl ⟨by rfl, ?_⟩) ?_
      rotate_left
      · intro _ _; go_simp; with_reducible rfl
      simp only [Act.put, List.setIfInBounds_toArray, List.set_cons_zero, List.set_cons_succ]
      refine wpQuiet_nil ?_
      intro w' hC
      go_wp2
      go_ret
      exact ⟨rfl, C4.trans (hC.mono C4.size)⟩
    · exact absurd ⟨rfl, rfl⟩ hg
end Go.Proofs.Ytkajddopjflniaa
