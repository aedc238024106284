/- The walk of host's Labels. -/
import Derived.Test.YtjfipedcjahbkaaGreatDoorHostText1
namespace Go.Proofs.YtjfipedcjahbkaaGreatDoor
open Go.RowKit
set_option maxRecDepth 100000 in
set_option maxHeartbeats 2000000 in
theorem labels_calls (h : Hst.Host) (ha : h.addr.length = 16) (hs : h.name.length ≤ 1048576) (w : World) (hw : Std w) :
    Calls Tryz.prog 18 #[.agg (hostA h)] w (NewTexts w.heap.size (Hst.labels h) w) := by
  have HH := Lib.hid (hostA_size h ha)
  obtain ⟨t, ht⟩ : ∃ t : ByteArray, t = ⟨h.name.toArray⟩ := ⟨_, rfl⟩
  have R0 := Row.new w 45 (hostA h)
  have c0 : (w.alloc (.cells (hostA h) 45)).cell? ⟨w.heap.size, 0, none⟩ = some (.int .i64 h.kind) := by rw [R0.cell, hostA_kind]
  have c1 : (w.alloc (.cells (hostA h) 45)).cell? ⟨w.heap.size, 1, none⟩ = some (.string t) := by rw [R0.cell, hostA_name, ht]; rfl
  have B0 := (Below.refl w.heap.size w).alloc (Nat.le_refl _) (.cells (hostA h) 45)
  by_cases hk : h.kind = 1
  · have htl : t.data.toList = h.name := by rw [ht]
    have hts : t.size = h.name.length := by rw [← htl, Oct.length_bytes]
    have H1 := Lib.hid (fun W hW => right1_calls h hk ha hs W hW)
    have H2 : ∀ W, Calls Tryz.prog 33 #[.string t, .int .u8 46] W (NewTexts W.heap.size (Oct.split 46 h.name) W) := fun W => by
      have := split_calls t 46 W (by omega)
      rw [htl] at this
      exact this
    have H2 := Lib.hid H2
    rw [hk] at c0
    cases hr : Hst.right h with
    | false =>
      rw [hr] at H1
      have HL : Hid (Hst.labels h = []) := Lib.hid (by unfold Hst.labels; rw [if_neg (fun k => by rw [hr] at k; simp at k)])
      rw [HL.out]
      generalize hostA h = H at *
      clear hr htl hts ht hk ha HL
      go_enter Tryz.func18, Tryz.ntmps18
      go_wp2_with (refine at_slot 7 rfl ?_; refine load_row rfl 45 _ rfl w.heap.size rfl R0 Tryz.underlying45 rfl (by rw [HH.out]; exact infoHost) ?_)
      generalize w.alloc (.cells H 45) = w0 at *
      refine (H1.out _ (hw.below B0)).mono ?_
      rintro e v1 ⟨rfl, d1⟩
      have B1 := B0.trans (d1.mono B0.size)
      go_wp2
      go_ret
      exact ⟨_, rfl, World.ownsRow_nil _ _ _ _, B1⟩
    | true =>
      rw [hr] at H1
      have HL : Hid (Hst.labels h = Oct.split 46 h.name) := Lib.hid (by unfold Hst.labels; rw [if_pos ⟨hk, hr⟩])
      rw [HL.out]
      generalize Oct.split 46 h.name = ps at *
      generalize hostA h = H at *
      clear hr htl hts ht hk ha HL
      go_enter Tryz.func18, Tryz.ntmps18
      go_wp2_with (refine at_slot 7 rfl ?_; refine load_row rfl 45 _ rfl w.heap.size rfl R0 Tryz.underlying45 rfl (by rw [HH.out]; exact infoHost) ?_)
      have hlt := R0.lt
      generalize w.alloc (.cells H 45) = w0 at *
      refine (H1.out _ (hw.below B0)).mono ?_
      rintro e v1 ⟨rfl, d1⟩
      have B1 := B0.trans (d1.mono B0.size)
      have c2 := (d1.cell (p := ⟨w.heap.size, 1, none⟩) hlt).trans c1
      clear c0 c1 d1 R0 B0
      go_wp2_with fail
      refine (H2.out _).mono ?_
      rintro e v2 ⟨v, rfl, hown, d2⟩
      have B2 := B1.trans (d2.mono B1.size)
      have HO := Lib.hid (own_base hown B1.size)
      clear hown
      go_wp2
      go_ret
      exact ⟨_, rfl, HO.out, B2⟩
  · have HL : Hid (Hst.labels h = []) := Lib.hid (by unfold Hst.labels; rw [if_neg (fun k => hk k.1)])
    rw [HL.out]
    generalize hostA h = H at *
    generalize h.kind = k at *
    clear HL ha
    go_enter Tryz.func18, Tryz.ntmps18
    go_wp2
    go_ret
    exact ⟨_, rfl, World.ownsRow_nil _ _ _ _, B0⟩
end Go.Proofs.YtjfipedcjahbkaaGreatDoor
