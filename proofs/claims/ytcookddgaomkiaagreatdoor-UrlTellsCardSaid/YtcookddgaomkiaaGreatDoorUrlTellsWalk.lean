/- The walk of the law UrlTells. -/
import Derived.Test.YtcookddgaomkiaaGreatDoorUrlAlive
import Derived.Test.YtcookddgaomkiaaGreatDoorRefUrlText
namespace Go.Proofs.YtcookddgaomkiaaGreatDoor
open Go.RowKit
theorem cell_name {u : Ur.URL} {p : ByteArray} (hp : p = ⟨u.host.name.toArray⟩) : (urlA u)[2]? = some (.string p) := by
  rw [hp]; rfl
/-- A URL lies in its block. -/
structure KeptT (g : Nat) (u : Array Value) (w w' : World) : Prop where
  row : Row w' g 27 u
  std : Std w'
  below : Below w.heap.size w w'
theorem KeptT.on {g : Nat} {u : Array Value} {w w' w'' : World} (k : KeptT g u w w') (hb : Below w'.heap.size w' w'') : KeptT g u w w'' :=
  ⟨k.row.stays hb, k.std.below hb, k.below.trans (hb.mono k.below.size)⟩
set_option maxRecDepth 100000 in
set_option maxHeartbeats 4000000 in
theorem utells_walk (u : Ur.URL) (w : World) (ha : u.host.addr.length = 16) (_hk : (Lit.int .i64 u.host.kind).wf = true ∧ u.host.name.length ≤ maxLen) (_ho : (Lit.int .i64 u.port).wf = true) (_hw : u.path.length ≤ maxLen) (hw : Std w) :
    Calls Tryz.prog 3 #[.agg (urlA u)] w fun e w' => e = .returned (.bool true) ∧ Below w.heap.size w w' := by
  have HA := Lib.hid url_alive
  have z0 := zeroURL
  have HI := Lib.hid (show (Tryz.prog.info? 27).map (·.size) = some (urlA u).size by rw [urlA_size u ha]; exact infoURL)
  have HU := Lib.hid (urlA_size u ha)
  have HU1 := Lib.hid (urlA_one u)
  obtain ⟨p, hp⟩ : ∃ p : ByteArray, p = ⟨u.path.toArray⟩ := ⟨_, rfl⟩
  have hps : p.size = u.path.length := by rw [← Oct.length_bytes, hp]
  obtain ⟨m, hm⟩ : ∃ m : ByteArray, m = ⟨u.host.name.toArray⟩ := ⟨_, rfl⟩
  have hms : m.size = u.host.name.length := by rw [← Oct.length_bytes, hm]
  have C20 := Lib.hid (cell_path ha hp)
  have C2 := Lib.hid (cell_name (u := u) hm)
  have R0 := Row.new w 27 (urlA u)
  have B0 := (Below.refl w.heap.size w).alloc (Nat.le_refl _) (.cells (urlA u) 27)
  clear hp hm
  by_cases h1 : p.size ≤ 3000
  · have g1 : ¬ (3000 : Int) < (p.size : Int) := by omega
    by_cases h2 : m.size ≤ 600
    · have g2 : ¬ (600 : Int) < (m.size : Int) := by omega
      obtain ⟨t, ht⟩ : ∃ t : ByteArray, t = ⟨(Ur.text u).toArray⟩ := ⟨_, rfl⟩
      have H1 := Lib.hid (fun W hW => urlRight_calls u ha (by omega) W hW)
      have H2 := Lib.hid (fun W => refUrlRight_calls u ha (by omega) (by omega) W)
      have H3 := Lib.hid (fun W hW => urlText_calls u ha (by omega) t ht W hW)
      have H4 := Lib.hid (fun W => refUrlText_calls u ha (by omega) (by omega) t ht W)
      clear ht h1 h2 hps hms
      generalize Ur.right u = b at *
      generalize urlA u = U at *
      cases b
      all_goals
        go_enter Tryz.func3, Tryz.ntmps3
        go_wp2_with fail
        generalize w.alloc (.cells U 27) = w0 at *
        refine (HA.out _ (hw.below B0)).mono ?_
        rintro e v0 ⟨rfl, d0⟩
        have R1 := R0.stays d0
        have B1 := B0.trans (d0.mono B0.size)
        have c20 := (R1.cell 20).trans C20.out
        have c2 := (R1.cell 2).trans C2.out
        have K1 := (KeptT.mk R1 (hw.below B1) B1).on (Below.refl _ _).drew
        clear R0 B0 d0 R1 B1
        go_wp2
        refine wp_region_held_drew (S := KeptT w.heap.size U w) (by kernel_rfl) K1 (fun _ => ?_)
        clear K1 c20 c2
        refine wpAnyH_take (i := 0) rfl (by kernel_rfl) (by kernel_rfl) (by kernel_rfl) (fun _ _ _ h => h) (yields_row (by rfl) _ _ rfl _ rfl (fun _ h => h.row) Tryz.underlying27 rfl HI.out) (by assumption) ?_
        simp only [Act.put, List.setIfInBounds_toArray, List.set_cons_zero, List.set_cons_succ, List.getElem_toArray, List.getElem_cons_zero]
        refine wpAnyH_take (i := 2) rfl (by kernel_rfl) (by kernel_rfl) (by kernel_rfl) (fun _ _ _ h => h) (yields_row (by rfl) _ _ rfl _ rfl (fun _ h => h.row) Tryz.underlying27 rfl HI.out) (by assumption) ?_
        simp only [Act.put, List.setIfInBounds_toArray, List.set_cons_zero, List.set_cons_succ, List.getElem_toArray, List.getElem_cons_zero, List.getElem_cons_succ]
        refine wpAnyH_ready (rs := [1]) (by kernel_rfl) (by simp) (AllReadyH.cons rfl (fun K hK => ?_) AllReadyH.nil)
        rw [if_pos (by rfl)]
        go_simp
        refine (H1.out _ (KeptT.std (g := w.heap.size) (u := U) (w := w) (by assumption))).mono ?_
        rintro e w4 ⟨rfl, b4⟩
        have S4 : KeptT w.heap.size U w w4 := KeptT.on (by assumption) b4
        clear b4
        go_wp2_with fail
        refine hK.out _ _ S4 (fun _ => ?_)
        clear hK K
        refine wpAnyH_ready (rs := [3]) (by kernel_rfl) (by simp) (AllReadyH.cons rfl (fun K hK => ?_) AllReadyH.nil)
        rw [if_pos (by rfl)]
        go_simp
        refine (H2.out _).mono ?_
        rintro e w4 ⟨rfl, b4⟩
        have S4 : KeptT w.heap.size U w w4 := KeptT.on (by assumption) b4
        clear b4
        go_wp2_with fail
        refine hK.out _ _ S4 (fun _ => ?_)
        clear hK K
        refine wpAnyH_take (i := 4) (v := ?_) rfl (by kernel_rfl) (by kernel_rfl) (by kernel_rfl) (fun _ _ _ h => h) (Or.inl ⟨by rfl, ?_⟩) (by assumption) ?_
        rotate_left
        · intro _ _; go_simp; with_reducible rfl
        simp only [Act.put, List.setIfInBounds_toArray, List.set_cons_zero, List.set_cons_succ, List.getElem_toArray, List.getElem_cons_zero, List.getElem_cons_succ]
        refine wpAnyH_take (i := 5) (v := ?_) rfl (by kernel_rfl) (by kernel_rfl) (by kernel_rfl) (fun _ _ _ h => h) (Or.inl ⟨by rfl, ?_⟩) (by assumption) ?_
        rotate_left
        · intro _ _; go_simp; with_reducible rfl
        simp only [Act.put, List.setIfInBounds_toArray, List.set_cons_zero, List.set_cons_succ, List.getElem_toArray, List.getElem_cons_zero, List.getElem_cons_succ]
        refine wpAnyH_take (i := 6) rfl (by kernel_rfl) (by kernel_rfl) (by kernel_rfl) (fun _ _ _ h => h) (yields_row (by rfl) _ _ rfl _ rfl (fun _ h => h.row) Tryz.underlying27 rfl HI.out) (by assumption) ?_
        simp only [Act.put, List.setIfInBounds_toArray, List.set_cons_zero, List.set_cons_succ, List.getElem_toArray, List.getElem_cons_zero, List.getElem_cons_succ]
        refine wpAnyH_take (i := 8) rfl (by kernel_rfl) (by kernel_rfl) (by kernel_rfl) (fun _ _ _ h => h) (yields_row (by rfl) _ _ rfl _ rfl (fun _ h => h.row) Tryz.underlying27 rfl HI.out) (by assumption) ?_
        simp only [Act.put, List.setIfInBounds_toArray, List.set_cons_zero, List.set_cons_succ, List.getElem_toArray, List.getElem_cons_zero, List.getElem_cons_succ]
        refine wpAnyH_ready (rs := [7]) (by kernel_rfl) (by simp) (AllReadyH.cons rfl (fun K hK => ?_) AllReadyH.nil)
        rw [if_pos (by rfl)]
        go_simp
        refine (H3.out _ (KeptT.std (g := w.heap.size) (u := U) (w := w) (by assumption))).mono ?_
        rintro e w4 ⟨rfl, b4⟩
        have S4 : KeptT w.heap.size U w w4 := KeptT.on (by assumption) b4
        clear b4
        go_wp2_with fail
        refine hK.out _ _ S4 (fun _ => ?_)
        clear hK K
        refine wpAnyH_ready (rs := [9]) (by kernel_rfl) (by simp) (AllReadyH.cons rfl (fun K hK => ?_) AllReadyH.nil)
        rw [if_pos (by rfl)]
        go_simp
        refine (H4.out _).mono ?_
        rintro e w4 ⟨rfl, b4⟩
        have S4 : KeptT w.heap.size U w w4 := KeptT.on (by assumption) b4
        clear b4
        go_wp2_with fail
        refine hK.out _ _ S4 (fun _ => ?_)
        clear hK K
        refine wpAnyH_take (i := 10) (v := ?_) rfl (by kernel_rfl) (by kernel_rfl) (by kernel_rfl) (fun _ _ _ h => h) (Or.inl ⟨by rfl, ?_⟩) (by assumption) ?_
        rotate_left
        · intro _ _; go_simp; with_reducible rfl
        simp only [Act.put, List.setIfInBounds_toArray, List.set_cons_zero, List.set_cons_succ, List.getElem_toArray, List.getElem_cons_zero, List.getElem_cons_succ]
        refine wpAnyH_take (i := 11) (v := ?_) rfl (by kernel_rfl) (by kernel_rfl) (by kernel_rfl) (fun _ _ _ h => h) (Or.inl ⟨by rfl, ?_⟩) (by assumption) ?_
        rotate_left
        · intro _ _; go_simp; with_reducible rfl
        simp only [Act.put, List.setIfInBounds_toArray, List.set_cons_zero, List.set_cons_succ, List.getElem_toArray, List.getElem_cons_zero, List.getElem_cons_succ]
        refine wpAnyH_take (i := 12) (v := ?_) rfl (by kernel_rfl) (by kernel_rfl) (by kernel_rfl) (fun _ _ _ h => h) (Or.inl ⟨by rfl, ?_⟩) (by assumption) ?_
        rotate_left
        · intro _ _; go_simp; with_reducible rfl
        simp only [Act.put, List.setIfInBounds_toArray, List.set_cons_zero, List.set_cons_succ, List.getElem_toArray, List.getElem_cons_zero, List.getElem_cons_succ]
        refine wpAnyH_done (by kernel_rfl) ?_ _
        go_wp2
        go_ret
        exact ⟨rfl, KeptT.below (g := w.heap.size) (u := U) (by assumption)⟩
    · have g2 : (600 : Int) < (m.size : Int) := by omega
      generalize urlA u = U at *
      go_enter Tryz.func3, Tryz.ntmps3
      go_wp2_with fail
      generalize w.alloc (.cells U 27) = w0 at *
      refine (HA.out _ (hw.below B0)).mono ?_
      rintro e v0 ⟨rfl, d0⟩
      have R1 := R0.stays d0
      have c20 := (R1.cell 20).trans C20.out
      have c2 := (R1.cell 2).trans C2.out
      go_wp2
      go_ret
      exact ⟨rfl, B0.trans (d0.mono B0.size)⟩
  · have g1 : (3000 : Int) < (p.size : Int) := by omega
    generalize urlA u = U at *
    go_enter Tryz.func3, Tryz.ntmps3
    go_wp2_with fail
    generalize w.alloc (.cells U 27) = w0 at *
    refine (HA.out _ (hw.below B0)).mono ?_
    rintro e v0 ⟨rfl, d0⟩
    have R1 := R0.stays d0
    have c20 := (R1.cell 20).trans C20.out
    go_wp2
    go_ret
    exact ⟨rfl, B0.trans (d0.mono B0.size)⟩
end Go.Proofs.YtcookddgaomkiaaGreatDoor
