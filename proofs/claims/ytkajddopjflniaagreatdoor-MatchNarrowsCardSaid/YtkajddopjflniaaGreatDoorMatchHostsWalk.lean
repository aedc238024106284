/- The walk of the law MatchHosts. -/
import Derived.Test.YtkajddopjflniaaGreatDoorMatchAlive
import Derived.Test.YtkajddopjflniaaGreatDoorMatchHost
import Derived.Test.YtkajddopjflniaaGreatDoorQuiet
namespace Go.Proofs.YtkajddopjflniaaGreatDoor
open Go.RowKit
theorem in_class {P : Program} {a b : World} {p : Ending → Prop} (hC : Below a.heap.size a b) {f : FuncId} {args : Array Value} (h : Calls P f args b fun e w' => p e ∧ Below b.heap.size b w') :
    Calls P f args b fun e w' => p e ∧ Below a.heap.size a w' :=
  h.mono fun _ _ ⟨h1, h2⟩ => ⟨h1, hC.trans (h2.mono hC.size)⟩
set_option maxRecDepth 100000 in
set_option maxHeartbeats 4000000 in
theorem mhosts_walk (h d : Hst.Host) (w : World) (ha : h.addr.length = 16) (_hn : h.name.length ≤ maxLen) (hda : d.addr.length = 16) (_hdn : d.name.length ≤ maxLen) (hw : Std w) :
    Calls Tryz.prog 3 #[.agg (hostA h), .agg (hostA d)] w fun e w' => e = .returned (.bool true) ∧ Below w.heap.size w w' := by
  have HA := Lib.hid match_alive
  have HH := Lib.hid (show (Tryz.prog.info? 25).map (·.size) = some (hostA h).size by rw [hostA_size h ha]; exact infoHost)
  have HD := Lib.hid (show (Tryz.prog.info? 25).map (·.size) = some (hostA d).size by rw [hostA_size d hda]; exact infoHost)
  obtain ⟨th, hth⟩ : ∃ t : ByteArray, t = ⟨h.name.toArray⟩ := ⟨_, rfl⟩
  obtain ⟨td, htd⟩ : ∃ t : ByteArray, t = ⟨d.name.toArray⟩ := ⟨_, rfl⟩
  have hths : th.size = h.name.length := by rw [← Oct.length_bytes, hth]
  have htds : td.size = d.name.length := by rw [← Oct.length_bytes, htd]
  have R0 := Row.new w 25 (hostA h)
  have hN : (w.alloc (.cells (hostA h) 25)).heap.size = w.heap.size + 1 := by simp
  have S0 := Row.new (w.alloc (.cells (hostA h) 25)) 25 (hostA d)
  rw [hN] at S0
  have R1 := R0.alloc (.cells (hostA d) 25)
  have C0 := ((Below.refl w.heap.size w).alloc (Nat.le_refl _) (.cells (hostA h) 25)).alloc (by omega) (.cells (hostA d) 25)
  have c0 : ((w.alloc (.cells (hostA h) 25)).alloc (.cells (hostA d) 25)).cell? ⟨w.heap.size, 1, none⟩ = some (.string th) := by rw [R1.cell, hostA_name, hth]; rfl
  have e0 : ((w.alloc (.cells (hostA h) 25)).alloc (.cells (hostA d) 25)).cell? ⟨w.heap.size + 1, 1, none⟩ = some (.string td) := by rw [S0.cell, hostA_name, htd]; rfl
  clear R0 hN
  have hcase : 600 < th.size ∨ (¬ 600 < th.size ∧ 600 < td.size) ∨ (¬ 600 < th.size ∧ ¬ 600 < td.size) := by omega
  rcases hcase with k | ⟨k, k'⟩ | ⟨k, k'⟩
  · have k1 : (600 : Int) < (th.size : Int) := by omega
    generalize hostA h = H at *
    generalize hostA d = D at *
    clear hths htds hth htd k
    go_enter Tryz.func3, Tryz.ntmps3
    go_wp2_with (go_at_call 6; refine (HA.out _).mono ?_; rintro e w' ⟨rfl, rfl⟩)
    go_ret
    exact ⟨rfl, C0⟩
  · have k1 : ¬ (600 : Int) < (th.size : Int) := by omega
    have k2 : (600 : Int) < (td.size : Int) := by omega
    generalize hostA h = H at *
    generalize hostA d = D at *
    clear hths htds hth htd k k'
    go_enter Tryz.func3, Tryz.ntmps3
    go_wp2_with (go_at_call 6; refine (HA.out _).mono ?_; rintro e w' ⟨rfl, rfl⟩)
    go_ret
    exact ⟨rfl, C0⟩
  · have k1 : ¬ (600 : Int) < (th.size : Int) := by omega
    have k2 : ¬ (600 : Int) < (td.size : Int) := by omega
    have H1 := Lib.hid (fun W hW => mdomain_calls h d ha hda (by omega) (by omega) W hW)
    have H2 := Lib.hid (fun W => refDomain_calls h d ha hda (by omega) (by omega) W)
    generalize Ma.domain h d = b at *
    generalize hostA h = H at *
    generalize hostA d = D at *
    clear hths htds hth htd k k' ha hda
    go_enter Tryz.func3, Tryz.ntmps3
    go_wp2_with (go_at_call 6; refine (HA.out _).mono ?_; rintro e w' ⟨rfl, rfl⟩)
    generalize (w.alloc (.cells H 25)).alloc (.cells D 25) = x0 at *
    have W0 := hw.below C0
    have RR := Lib.hid (fun W (hC : Below x0.heap.size x0 W) => R1.stays hC)
    have SS := Lib.hid (fun W (hC : Below x0.heap.size x0 W) => S0.stays hC)
    have D1 := Lib.hid (fun W (hC : Below x0.heap.size x0 W) => in_class hC (H1.out W (W0.below hC)))
    have D2 := Lib.hid (fun W (hC : Below x0.heap.size x0 W) => in_class hC (H2.out W))
    clear R1 S0 c0 e0 H1 H2
    refine region_quiet (C := fun W => Below x0.heap.size x0 W) (by kernel_rfl) (by kernel_rfl) (Below.refl _ _).drew ?_
    refine q_yields (yields_row (by rfl) _ _ rfl _ rfl RR.out Tryz.underlying25 rfl HH.out) ?_
    simp only [Act.put, List.setIfInBounds_toArray, List.set_cons_zero, List.set_cons_succ]
    refine q_yields (yields_row (by rfl) _ _ rfl _ rfl SS.out Tryz.underlying25 rfl HD.out) ?_
    simp only [Act.put, List.setIfInBounds_toArray, List.set_cons_zero, List.set_cons_succ]
    refine q_call (by rfl) (.bool b) (fun wq hC => by unfold Oper.quietAt; go_simp; exact D1.out wq hC) ?_
    simp only [Act.put, List.setIfInBounds_toArray, List.set_cons_zero, List.set_cons_succ]
    refine q_yields (yields_row (by rfl) _ _ rfl _ rfl RR.out Tryz.underlying25 rfl HH.out) ?_
    simp only [Act.put, List.setIfInBounds_toArray, List.set_cons_zero, List.set_cons_succ]
    refine q_yields (yields_row (by rfl) _ _ rfl _ rfl SS.out Tryz.underlying25 rfl HD.out) ?_
    simp only [Act.put, List.setIfInBounds_toArray, List.set_cons_zero, List.set_cons_succ]
    refine q_call (by rfl) (.bool b) (fun wq hC => by unfold Oper.quietAt; go_simp; exact D2.out wq hC) ?_
    simp only [Act.put, List.setIfInBounds_toArray, List.set_cons_zero, List.set_cons_succ]
    refine q_yields (v := ?_) (Or.inl ⟨by rfl, ?_⟩) ?_
    rotate_left
    · intro _ _; go_simp; with_reducible rfl
    simp only [Act.put, List.setIfInBounds_toArray, List.set_cons_zero, List.set_cons_succ]
    refine q_yields (v := ?_) (Or.inl ⟨by rfl, ?_⟩) ?_
    rotate_left
    · intro _ _; go_simp; with_reducible rfl
    simp only [Act.put, List.setIfInBounds_toArray, List.set_cons_zero, List.set_cons_succ]
    refine wpQuiet_nil ?_
    intro w' hC
    go_wp2
    go_ret
    exact ⟨rfl, C0.trans (hC.mono C0.size)⟩
end Go.Proofs.YtkajddopjflniaaGreatDoor
