/- The walks of host's Text and Right, of names. -/
import Derived.Test.YtjfipedcjahbkaaGreatDoorHostParse
import Derived.Test.YtjfipedcjahbkaaGreatDoorCells
namespace Go.Proofs.YtjfipedcjahbkaaGreatDoor
open Go.RowKit
set_option maxHeartbeats 1000000 in
theorem text1_calls (h : Hst.Host) (hk : h.kind = 1) (t : ByteArray) (ht : t = ⟨h.name.toArray⟩) (w : World) :
    Calls Tryz.prog 63 #[.agg (hostA h)] w fun e w' => e = .returned (.string t) ∧ Below w.heap.size w w' := by
  have R := Row.new w 45 (hostA h)
  have c0 : (w.alloc (.cells (hostA h) 45)).cell? ⟨w.heap.size, 0, none⟩ = some (.int .i64 1) := by rw [R.cell, hostA_kind, hk]
  have c1 : (w.alloc (.cells (hostA h) 45)).cell? ⟨w.heap.size, 1, none⟩ = some (.string t) := by rw [R.cell, hostA_name, ht]; rfl
  have B := (Below.refl w.heap.size w).alloc (Nat.le_refl _) (.cells (hostA h) 45)
  have HB := Lib.hid B
  clear B R ht
  go_enter Tryz.func63, Tryz.ntmps63
  generalize hostA h = H at *
  go_wp2
  go_ret
  exact ⟨rfl, HB.out⟩
set_option maxRecDepth 100000 in
set_option maxHeartbeats 4000000 in
theorem right1_calls (h : Hst.Host) (hk : h.kind = 1) (ha : h.addr.length = 16) (hs : h.name.length ≤ 1048576) (w : World) (hw : Std w) :
    Calls Tryz.prog 38 #[.agg (hostA h)] w fun e w' => e = .returned (.bool (Hst.right h)) ∧ Below w.heap.size w w' := by
  have z0 := zeroHost
  obtain ⟨t, ht⟩ : ∃ t : ByteArray, t = ⟨h.name.toArray⟩ := ⟨_, rfl⟩
  have H1 := Lib.hid (fun W => text1_calls h hk t ht W)
  have htl : t.data.toList = h.name := by rw [ht]
  have hts : t.size = h.name.length := by rw [← htl, Oct.length_bytes]
  have H2 := Lib.hid (fun W hW => (parse_calls t W hW (by omega)).mono fun e w' h => newHost_is h)
  rw [htl] at H2
  have hx := Hst.parse_length h.name
  have HR : Hid (Hst.right h = decide (Hst.parse h.name = some h)) := Lib.hid rfl
  have HZ0 := Lib.hid (show (hostA Hst.zero).size = 18 from rfl)
  have HH := Lib.hid (hostA_size h ha)
  cases ho : Hst.parse h.name with
  | none =>
    rw [ho] at H2 HR
    have HR2 : Hid (Hst.right h = false) := Lib.hid (by rw [HR.out]; rfl)
    have e1 : Hst.host none = Hst.zero := rfl
    have e2 : Hst.code none = 31 := rfl
    rw [e1, e2] at H2
    clear ho hx hts htl ht HR e1 e2
    rw [HR2.out]
    generalize hostA h = H at *
    have R0 := Row.new w 45 H
    have B0 := (Below.refl w.heap.size w).alloc (Nat.le_refl _) (.cells H 45)
    go_enter Tryz.func38, Tryz.ntmps38
    go_wp2_with (refine at_slot 6 rfl ?_; refine load_row rfl 45 _ rfl w.heap.size rfl R0 Tryz.underlying45 rfl (by rw [HH.out]; exact infoHost) ?_)
    generalize w.alloc (.cells H 45) = w0 at *
    refine (H1.out _).mono ?_
    rintro e v1 ⟨rfl, d1⟩
    have B1 := B0.trans (d1.mono B0.size)
    go_wp2_with fail
    refine (H2.out _ (hw.below B1)).mono ?_
    rintro e v2 ⟨rfl, d2⟩
    have B2 := B1.trans (d2.mono B1.size)
    obtain ⟨T, U, C, L⟩ := lay_row 45 (hostA Hst.zero) (hostA Hst.zero) B2 B2.size
    clear B0 B1 B2 d1 d2 R0 L
    go_wp2_with (first
      | (refine wpList_store_row rfl 45 _ _ rfl v2.heap.size (hostA Hst.zero) rfl rfl 45 _ T (by rw [HZ0.out]; exact infoHost) rfl (hostA_one _) ?_))
    go_ret
    exact ⟨rfl, C⟩
  | some g =>
    rw [ho] at H2 HR hx
    have hx : g.addr.length = 16 := hx
    have HR2 : Hid (Hst.right h = decide (g = h)) := Lib.hid (by rw [HR.out, decide_eq_decide]; exact ⟨fun e => Option.some.inj e, fun e => by rw [e]⟩)
    have e1 : Hst.host (some g) = g := rfl
    have e2 : Hst.code (some g) = 0 := rfl
    rw [e1, e2] at H2
    have q := eql_host g h hx ha
    have HG := Lib.hid (hostA_size g hx)
    have HG1 := Lib.hid (hostA_one g)
    clear ho hx hts htl ht HR e1 e2
    rw [HR2.out]
    generalize hostA h = H at *
    generalize hostA g = G at *
    generalize decide (g = h) = b at *
    have R0 := Row.new w 45 H
    have B0 := (Below.refl w.heap.size w).alloc (Nat.le_refl _) (.cells H 45)
    go_enter Tryz.func38, Tryz.ntmps38
    go_wp2_with (refine at_slot 6 rfl ?_; refine load_row rfl 45 _ rfl w.heap.size rfl R0 Tryz.underlying45 rfl (by rw [HH.out]; exact infoHost) ?_)
    generalize w.alloc (.cells H 45) = w0 at *
    refine (H1.out _).mono ?_
    rintro e v1 ⟨rfl, d1⟩
    have B1 := B0.trans (d1.mono B0.size)
    have R1 := R0.stays d1
    go_wp2_with fail
    refine (H2.out _ (hw.below B1)).mono ?_
    rintro e v2 ⟨rfl, d2⟩
    have R2 := R1.stays d2
    have B2 := B1.trans (d2.mono B1.size)
    obtain ⟨T, U, C, L⟩ := lay_row 45 (hostA Hst.zero) G B2 B2.size
    have R3 := L _ _ _ R2
    clear B0 B1 B2 d1 d2 R0 R1 R2 L
    go_wp2_with (first
      | (refine wpList_store_row rfl 45 _ _ rfl v2.heap.size G rfl rfl 45 _ T (by rw [HG.out]; exact infoHost) (by rw [HG.out]; rfl) HG1.out ?_)
      | (refine at_slot 14 rfl ?_; refine load_row rfl 45 _ rfl v2.heap.size rfl U Tryz.underlying45 rfl (by rw [HG.out]; exact infoHost) ?_)
      | (refine at_slot 15 rfl ?_; refine load_row rfl 45 _ rfl w.heap.size rfl R3 Tryz.underlying45 rfl (by rw [HH.out]; exact infoHost) ?_))
    go_ret
    exact ⟨rfl, C⟩
end Go.Proofs.YtjfipedcjahbkaaGreatDoor
