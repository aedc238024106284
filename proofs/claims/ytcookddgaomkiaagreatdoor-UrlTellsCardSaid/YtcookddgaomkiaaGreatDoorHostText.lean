/- The walks of host's Text and Right, of hosts of whatever kind. -/
import Derived.Test.YtcookddgaomkiaaGreatDoorPlains
import Derived.Test.YtcookddgaomkiaaGreatDoorCells
import Derived.Test.YtcookddgaomkiaaGreatDoorHostText1
import Derived.Test.YtcookddgaomkiaaGreatDoorText4
import Derived.Test.YtcookddgaomkiaaGreatDoorText6
namespace Go.Proofs.YtcookddgaomkiaaGreatDoor
open Go.RowKit
set_option maxRecDepth 100000 in
set_option maxHeartbeats 2000000 in
theorem text_calls (h : Hst.Host) (ha : h.addr.length = 16) (t : ByteArray) (ht : t = ⟨(Hst.text h).toArray⟩) (w : World) (hw : Std w) :
    Calls Tryz.prog 14 #[.agg (hostA h)] w fun e w' => e = .returned (.string t) ∧ Below w.heap.size w w' := by
  by_cases k1 : h.kind = 1
  · exact text1_calls h k1 t (by rw [ht]; unfold Hst.text; rw [if_pos k1]) w
  have R := Row.new w 25 (hostA h)
  have B := (Below.refl w.heap.size w).alloc (Nat.le_refl _) (.cells (hostA h) 25)
  have c0 : (w.alloc (.cells (hostA h) 25)).cell? ⟨w.heap.size, 0, none⟩ = some (.int .i64 h.kind) := by rw [R.cell, hostA_kind]
  have HA := Lib.hid (hostA_addr h ha)
  have HS := Lib.hid (hostA_size h ha)
  have H4 := Lib.hid (fun W hW => text4_calls h.addr ha W hW)
  have H6 := Lib.hid (fun W hW => text6_calls h.addr ha W hW)
  by_cases k2 : h.kind = 2
  · have e : t = ⟨(Adr.tx4 (h.addr.drop 12)).toArray⟩ := by rw [ht]; unfold Hst.text; rw [if_neg k1, if_pos k2]
    rw [← e] at H4
    rw [k2] at c0
    generalize bytesA h.addr = X at *
    generalize hostA h = H at *
    clear ht e k1 k2 ha H6
    go_enter Tryz.func14, Tryz.ntmps14
    go_wp2_with (refine at_slot 12 rfl ?_; refine load_part rfl 23 _ rfl w.heap.size 2 16 rfl R Tryz.underlying23 rfl infoAddr (by rw [HS.out]; exact Nat.le_refl _) X HA.out ?_)
    refine (H4.out _ (hw.below B)).mono ?_
    rintro e w' ⟨rfl, d⟩
    go_wp2
    go_ret
    exact ⟨rfl, B.trans (d.mono B.size)⟩
  by_cases k3 : h.kind = 3
  · have hlen := Hst.tx6_short (Adr.groups_length 8 h.addr ha)
    obtain ⟨u, hu⟩ : ∃ u : ByteArray, u = ⟨(Adr.tx6 (Adr.groups h.addr)).toArray⟩ := ⟨_, rfl⟩
    have hul : u.data.toList = Adr.tx6 (Adr.groups h.addr) := by rw [hu]
    have hus : u.size = (Adr.tx6 (Adr.groups h.addr)).length := by rw [← Oct.length_bytes, hul]
    obtain ⟨E, hE⟩ : ∃ E : ByteArray, (⟨#[91]⟩ : ByteArray) ++ u = E := ⟨_, rfl⟩
    have hEs : E.size = 1 + u.size := by rw [← hE, ByteArray.size_append]; rfl
    have hE2 : E ++ (⟨#[93]⟩ : ByteArray) = t := by
      rw [ht]
      unfold Hst.text
      rw [if_neg k1, if_neg k2, if_pos k3, ← hul, ← hE]
      apply ByteArray.ext
      rw [ByteArray.data_append, ByteArray.data_append]
      apply Array.ext'
      rw [Array.toList_append, Array.toList_append]
      rfl
    have hcat1 : ¬ 9223372036854775807 < (⟨#[91]⟩ : ByteArray).size + u.size := by
      show ¬ 9223372036854775807 < 1 + u.size
      omega
    have hcat2 : ¬ 9223372036854775807 < E.size + (⟨#[93]⟩ : ByteArray).size := by
      show ¬ 9223372036854775807 < E.size + 1
      omega
    have h91 : (⟨#[91]⟩ : ByteArray).size = 1 := rfl
    have h93 : (⟨#[93]⟩ : ByteArray).size = 1 := rfl
    rw [← hu] at H6
    rw [k3] at c0
    generalize bytesA h.addr = X at *
    generalize hostA h = H at *
    clear ht hul k1 k2 k3 ha H4 hu
    go_enter Tryz.func14, Tryz.ntmps14
    go_wp2_with (refine at_slot 17 rfl ?_; refine load_part rfl 23 _ rfl w.heap.size 2 16 rfl R Tryz.underlying23 rfl infoAddr (by rw [HS.out]; exact Nat.le_refl _) X HA.out ?_)
    refine (H6.out _ (hw.below B)).mono ?_
    rintro e w' ⟨rfl, d⟩
    go_wp2
    go_ret
    exact ⟨rfl, B.trans (d.mono B.size)⟩
  · have e : t = ⟨#[]⟩ := by rw [ht]; unfold Hst.text; rw [if_neg k1, if_neg k2, if_neg k3]
    subst e
    generalize hostA h = H at *
    generalize h.kind = k at *
    clear ht ha H4 H6 HA
    go_enter Tryz.func14, Tryz.ntmps14
    go_wp2
    go_ret
    exact ⟨rfl, B⟩
set_option maxRecDepth 100000 in
set_option maxHeartbeats 4000000 in
theorem right_calls (h : Hst.Host) (ha : h.addr.length = 16) (hs : h.name.length ≤ 1048000) (w : World) (hw : Std w) :
    Calls Tryz.prog 10 #[.agg (hostA h)] w fun e w' => e = .returned (.bool (Hst.can h)) ∧ Below w.heap.size w w' := by
  have z0 := zeroHost
  obtain ⟨t, ht⟩ : ∃ t : ByteArray, t = ⟨(Hst.text h).toArray⟩ := ⟨_, rfl⟩
  have htx := Hst.text_length h ha
  have H1 := Lib.hid (fun W hW => text_calls h ha t ht W hW)
  have htl : t.data.toList = Hst.text h := by rw [ht]
  have hts : t.size = (Hst.text h).length := by rw [← htl, Oct.length_bytes]
  have H2 := Lib.hid (fun W hW => (parse_calls t W hW (by omega)).mono fun e w' h => newHost_is h)
  rw [htl] at H2
  have hx := Hst.parse_length (Hst.text h)
  have HR : Hid (Hst.can h = decide (Hst.parse (Hst.text h) = some h)) := Lib.hid rfl
  have HZ0 := Lib.hid (show (hostA Hst.zero).size = 18 from rfl)
  have HH := Lib.hid (hostA_size h ha)
  cases ho : Hst.parse (Hst.text h) with
  | none =>
    rw [ho] at H2 HR
    have HR2 : Hid (Hst.can h = false) := Lib.hid (by rw [HR.out]; rfl)
    have e1 : Hst.host none = Hst.zero := rfl
    have e2 : Hst.code none = 31 := rfl
    rw [e1, e2] at H2
    clear ho hx hts htl ht HR e1 e2 htx
    rw [HR2.out]
    generalize hostA h = H at *
    have R0 := Row.new w 25 H
    have B0 := (Below.refl w.heap.size w).alloc (Nat.le_refl _) (.cells H 25)
    go_enter Tryz.func10, Tryz.ntmps10
    go_wp2_with (refine at_slot 6 rfl ?_; refine load_row rfl 25 _ rfl w.heap.size rfl R0 Tryz.underlying25 rfl (by rw [HH.out]; exact infoHost) ?_)
    generalize w.alloc (.cells H 25) = w0 at *
    refine (H1.out _ (hw.below B0)).mono ?_
    rintro e v1 ⟨rfl, d1⟩
    have B1 := B0.trans (d1.mono B0.size)
    go_wp2_with fail
    refine (H2.out _ (hw.below B1)).mono ?_
    rintro e v2 ⟨rfl, d2⟩
    have B2 := B1.trans (d2.mono B1.size)
    obtain ⟨T, U, C, L⟩ := lay_row 25 (hostA Hst.zero) (hostA Hst.zero) B2 B2.size
    clear B0 B1 B2 d1 d2 R0 L
    go_wp2_with (first
      | (refine wpList_store_row rfl 25 _ _ rfl v2.heap.size (hostA Hst.zero) rfl rfl 25 _ T (by rw [HZ0.out]; exact infoHost) rfl (hostA_one _) ?_))
    go_ret
    exact ⟨rfl, C⟩
  | some g =>
    rw [ho] at H2 HR hx
    have hx : g.addr.length = 16 := hx
    have HR2 : Hid (Hst.can h = decide (g = h)) := Lib.hid (by rw [HR.out, decide_eq_decide]; exact ⟨fun e => Option.some.inj e, fun e => by rw [e]⟩)
    have e1 : Hst.host (some g) = g := rfl
    have e2 : Hst.code (some g) = 0 := rfl
    rw [e1, e2] at H2
    have q := eql_host g h hx ha
    have HG := Lib.hid (hostA_size g hx)
    have HG1 := Lib.hid (hostA_one g)
    clear ho hx hts htl ht HR e1 e2 htx
    rw [HR2.out]
    generalize hostA h = H at *
    generalize hostA g = G at *
    generalize decide (g = h) = b at *
    have R0 := Row.new w 25 H
    have B0 := (Below.refl w.heap.size w).alloc (Nat.le_refl _) (.cells H 25)
    go_enter Tryz.func10, Tryz.ntmps10
    go_wp2_with (refine at_slot 6 rfl ?_; refine load_row rfl 25 _ rfl w.heap.size rfl R0 Tryz.underlying25 rfl (by rw [HH.out]; exact infoHost) ?_)
    generalize w.alloc (.cells H 25) = w0 at *
    refine (H1.out _ (hw.below B0)).mono ?_
    rintro e v1 ⟨rfl, d1⟩
    have B1 := B0.trans (d1.mono B0.size)
    have R1 := R0.stays d1
    go_wp2_with fail
    refine (H2.out _ (hw.below B1)).mono ?_
    rintro e v2 ⟨rfl, d2⟩
    have R2 := R1.stays d2
    have B2 := B1.trans (d2.mono B1.size)
    obtain ⟨T, U, C, L⟩ := lay_row 25 (hostA Hst.zero) G B2 B2.size
    have R3 := L _ _ _ R2
    clear B0 B1 B2 d1 d2 R0 R1 R2 L
    go_wp2_with (first
      | (refine wpList_store_row rfl 25 _ _ rfl v2.heap.size G rfl rfl 25 _ T (by rw [HG.out]; exact infoHost) (by rw [HG.out]; rfl) HG1.out ?_)
      | (refine at_slot 14 rfl ?_; refine load_row rfl 25 _ rfl v2.heap.size rfl U Tryz.underlying25 rfl (by rw [HG.out]; exact infoHost) ?_)
      | (refine at_slot 15 rfl ?_; refine load_row rfl 25 _ rfl w.heap.size rfl R3 Tryz.underlying25 rfl (by rw [HH.out]; exact infoHost) ?_))
    go_ret
    exact ⟨rfl, C⟩
end Go.Proofs.YtcookddgaomkiaaGreatDoor
