/- The walk of the law HostUnder. -/
import Derived.Test.YtkgcblhhindiaaaDoorHostAlive
import Derived.Test.YtkgcblhhindiaaaDoorRefHostUnder
import Derived.Test.YtkgcblhhindiaaaDoorDrawn
namespace Go.Proofs.YtkgcblhhindiaaaDoor
open Go.RowKit
/-- Two hosts lie in their blocks. -/
structure KeptH (n0 n1 : Nat) (h d : Array Value) (w w' : World) : Prop where
  row0 : Row w' n0 25 h
  row1 : Row w' n1 25 d
  std : Std w'
  below : Below w.heap.size w w'
theorem KeptH.on {n0 n1 : Nat} {h d : Array Value} {w w' w'' : World} (k : KeptH n0 n1 h d w w') (hb : Below w'.heap.size w' w'') : KeptH n0 n1 h d w w'' :=
  ⟨k.row0.stays hb, k.row1.stays hb, k.std.below hb, k.below.trans (hb.mono k.below.size)⟩
set_option maxRecDepth 100000 in
set_option maxHeartbeats 4000000 in
theorem hunder_walk (h d : Hst.Host) (w : World) (ha : h.addr.length = 16) (_hn : h.name.length ≤ maxLen) (hda : d.addr.length = 16) (_hdn : d.name.length ≤ maxLen) (hw : Std w) :
    Calls Tryd.prog 5 #[.agg (hostA h), .agg (hostA d)] w fun e w' => e = .returned (.bool true) ∧ Below w.heap.size w w' := by
  have HA := Lib.hid host_alive
  have HH := Lib.hid (show (Tryd.prog.info? 25).map (·.size) = some (hostA h).size by rw [hostA_size h ha]; exact infoHost)
  have HD := Lib.hid (show (Tryd.prog.info? 25).map (·.size) = some (hostA d).size by rw [hostA_size d hda]; exact infoHost)
  obtain ⟨th, hth⟩ : ∃ t : ByteArray, t = ⟨h.name.toArray⟩ := ⟨_, rfl⟩
  obtain ⟨td, htd⟩ : ∃ t : ByteArray, t = ⟨d.name.toArray⟩ := ⟨_, rfl⟩
  have hths : th.size = h.name.length := by rw [← Oct.length_bytes, hth]
  have htds : td.size = d.name.length := by rw [← Oct.length_bytes, htd]
  have R0 := Row.new w 25 (hostA h)
  have hN : (w.alloc (.cells (hostA h) 25)).heap.size = w.heap.size + 1 := by simp
  have S0 := Row.new (w.alloc (.cells (hostA h) 25)) 25 (hostA d)
  rw [hN] at S0
  have R1 := R0.alloc (.cells (hostA d) 25)
  have C0 := ((Below.refl w.heap.size w).alloc (Nat.le_refl _) (.cells (hostA h) 25)).alloc (by omega) (.cells (hostA d) 25)
  have c0 : ((w.alloc (.cells (hostA h) 25)).alloc (.cells (hostA d) 25)).cell? ⟨w.heap.size, 1, none⟩ = some (.string th) := by rw [R1.cell, hostA_name, hth]; rfl
  have e0 : ((w.alloc (.cells (hostA h) 25)).alloc (.cells (hostA d) 25)).cell? ⟨w.heap.size + 1, 1, none⟩ = some (.string td) := by rw [S0.cell, hostA_name, htd]; rfl
  have hlt0 := R1.lt
  have SX := S0
  have hlt1 := SX.lt
  have hcase : 600 < th.size ∨ (¬ 600 < th.size ∧ 600 < td.size) ∨ (¬ 600 < th.size ∧ ¬ 600 < td.size) := by omega
  rcases hcase with k | ⟨k, k'⟩ | ⟨k, k'⟩
  · have k1 : (600 : Int) < (th.size : Int) := by omega
    generalize hostA h = H at *
    generalize hostA d = D at *
    clear hths htds hth htd k
    go_enter Tryd.func5, Tryd.ntmps5
    go_wp2_with fail
    generalize (w.alloc (.cells H 25)).alloc (.cells D 25) = x0 at *
    refine (HA.out _ (hw.below C0)).mono ?_
    rintro e v1 ⟨rfl, d1⟩
    have c1 := (d1.cell (p := ⟨w.heap.size, 1, none⟩) hlt0).trans c0
    go_wp2
    go_ret
    exact ⟨rfl, C0.trans (d1.mono C0.size)⟩
  · have k1 : ¬ (600 : Int) < (th.size : Int) := by omega
    have k2 : (600 : Int) < (td.size : Int) := by omega
    generalize hostA h = H at *
    generalize hostA d = D at *
    clear hths htds hth htd k k'
    go_enter Tryd.func5, Tryd.ntmps5
    go_wp2_with fail
    generalize (w.alloc (.cells H 25)).alloc (.cells D 25) = x0 at *
    refine (HA.out _ (hw.below C0)).mono ?_
    rintro e v1 ⟨rfl, d1⟩
    have c1 := (d1.cell (p := ⟨w.heap.size, 1, none⟩) hlt0).trans c0
    have e1 := (d1.cell (p := ⟨w.heap.size + 1, 1, none⟩) hlt1).trans e0
    go_wp2
    go_ret
    exact ⟨rfl, C0.trans (d1.mono C0.size)⟩
  · have k1 : ¬ (600 : Int) < (th.size : Int) := by omega
    have k2 : ¬ (600 : Int) < (td.size : Int) := by omega
    have H1 := Lib.hid (fun W hW => under_calls h d ha hda (by omega) (by omega) W hW)
    have H2 := Lib.hid (fun W => refUnder_calls h d ha hda (by omega) (by omega) W)
    rw [Hst.under_ref] at H1
    generalize Hst.refUnder h d = b at *
    generalize hostA h = H at *
    generalize hostA d = D at *
    clear hths htds hth htd k k' ha hda
    go_enter Tryd.func5, Tryd.ntmps5
    go_wp2_with fail
    generalize (w.alloc (.cells H 25)).alloc (.cells D 25) = x0 at *
    refine (HA.out _ (hw.below C0)).mono ?_
    rintro e v1 ⟨rfl, d1⟩
    have c1 := (d1.cell (p := ⟨w.heap.size, 1, none⟩) hlt0).trans c0
    have e1 := (d1.cell (p := ⟨w.heap.size + 1, 1, none⟩) hlt1).trans e0
    have K0 : KeptH w.heap.size (w.heap.size + 1) H D w x0 := ⟨R1, SX, hw.below C0, C0⟩
    have K1 := (K0.on d1).on (Below.refl _ _).drew
    clear R0 S0 R1 SX C0 c0 e0 K0 hlt0 hlt1 d1
    go_wp2
    refine wp_region_held_drew (S := KeptH w.heap.size (w.heap.size + 1) H D w) (by kernel_rfl) K1 (fun _ => ?_)
    clear K1 c1 e1
    refine wpAnyH_take (i := 0) rfl (by kernel_rfl) (by kernel_rfl) (by kernel_rfl) (fun _ _ _ h => h) (yields_row (by rfl) _ _ rfl _ rfl (fun _ h => h.row0) Tryd.underlying25 rfl HH.out) (by assumption) ?_
    simp only [Act.put, List.setIfInBounds_toArray, List.set_cons_zero, List.set_cons_succ, List.getElem_toArray, List.getElem_cons_zero]
    refine wpAnyH_take (i := 1) rfl (by kernel_rfl) (by kernel_rfl) (by kernel_rfl) (fun _ _ _ h => h) (yields_row (by rfl) _ _ rfl _ rfl (fun _ h => h.row1) Tryd.underlying25 rfl HD.out) (by assumption) ?_
    simp only [Act.put, List.setIfInBounds_toArray, List.set_cons_zero, List.set_cons_succ, List.getElem_toArray, List.getElem_cons_zero, List.getElem_cons_succ]
    refine wpAnyH_take (i := 3) rfl (by kernel_rfl) (by kernel_rfl) (by kernel_rfl) (fun _ _ _ h => h) (yields_row (by rfl) _ _ rfl _ rfl (fun _ h => h.row0) Tryd.underlying25 rfl HH.out) (by assumption) ?_
    simp only [Act.put, List.setIfInBounds_toArray, List.set_cons_zero, List.set_cons_succ, List.getElem_toArray, List.getElem_cons_zero, List.getElem_cons_succ]
    refine wpAnyH_take (i := 4) rfl (by kernel_rfl) (by kernel_rfl) (by kernel_rfl) (fun _ _ _ h => h) (yields_row (by rfl) _ _ rfl _ rfl (fun _ h => h.row1) Tryd.underlying25 rfl HD.out) (by assumption) ?_
    simp only [Act.put, List.setIfInBounds_toArray, List.set_cons_zero, List.set_cons_succ, List.getElem_toArray, List.getElem_cons_zero, List.getElem_cons_succ]
    refine wpAnyH_ready (rs := [2]) (by kernel_rfl) (by simp) (AllReadyH.cons rfl (fun K hK => ?_) AllReadyH.nil)
    rw [if_pos (by rfl)]
    go_simp
    refine (H1.out _ (KeptH.std (n0 := w.heap.size) (n1 := w.heap.size + 1) (h := H) (d := D) (w := w) (by assumption))).mono ?_
    rintro e w4 ⟨rfl, b4⟩
    have S4 : KeptH w.heap.size (w.heap.size + 1) H D w w4 := KeptH.on (by assumption) b4
    clear b4
    go_wp2_with fail
    refine hK.out _ _ S4 (fun _ => ?_)
    clear hK K
    refine wpAnyH_ready (rs := [5]) (by kernel_rfl) (by simp) (AllReadyH.cons rfl (fun K hK => ?_) AllReadyH.nil)
    rw [if_pos (by rfl)]
    go_simp
    refine (H2.out _).mono ?_
    rintro e w4 ⟨rfl, b4⟩
    have S4 : KeptH w.heap.size (w.heap.size + 1) H D w w4 := KeptH.on (by assumption) b4
    clear b4
    go_wp2_with fail
    refine hK.out _ _ S4 (fun _ => ?_)
    clear hK K
    refine wpAnyH_take (i := 6) (v := ?_) rfl (by kernel_rfl) (by kernel_rfl) (by kernel_rfl) (fun _ _ _ h => h) (Or.inl ⟨by rfl, ?_⟩) (by assumption) ?_
    rotate_left
    · intro _ _; go_simp; with_reducible rfl
    simp only [Act.put, List.setIfInBounds_toArray, List.set_cons_zero, List.set_cons_succ, List.getElem_toArray, List.getElem_cons_zero, List.getElem_cons_succ]
    refine wpAnyH_take (i := 7) (v := ?_) rfl (by kernel_rfl) (by kernel_rfl) (by kernel_rfl) (fun _ _ _ h => h) (Or.inl ⟨by rfl, ?_⟩) (by assumption) ?_
    rotate_left
    · intro _ _; go_simp; with_reducible rfl
    simp only [Act.put, List.setIfInBounds_toArray, List.set_cons_zero, List.set_cons_succ, List.getElem_toArray, List.getElem_cons_zero, List.getElem_cons_succ]
    refine wpAnyH_done (by kernel_rfl) ?_ _
    go_wp2
    go_ret
    exact ⟨rfl, KeptH.below (n0 := w.heap.size) (n1 := w.heap.size + 1) (h := H) (d := D) (by assumption)⟩
end Go.Proofs.YtkgcblhhindiaaaDoor
