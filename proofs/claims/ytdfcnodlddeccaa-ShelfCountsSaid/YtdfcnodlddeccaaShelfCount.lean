/- The walk of a shelf's Count. -/
import Derived.Test.YtdfcnodlddeccaaShelfAt
namespace Go.Proofs.Ytdfcnodlddeccaa
open Go.RowKit Go.Maps
theorem text_eqb (a : List UInt8) (b : ByteArray) : ((⟨a.toArray⟩ : ByteArray).toList == b.toList) = decide (a = b.data.toList) := by
  rw [Oct.bytes_data, Oct.bytes_data, Bool.eq_iff_iff]; simp
set_option maxRecDepth 100000 in
set_option maxHeartbeats 4000000 in
theorem countShelf_calls (site : ByteArray) {sb mb : Nat} {s : Sh.Shelf} (w : World) (h : ShelfAt w sb mb s) :
    Calls Try.prog 17 #[.pointer (some ⟨sb, 0, none⟩), .string site] w fun e w' => e = .returned (.int .i64 (Sh.count s site.data.toList : Int)) ∧ Below w.heap.size w w' := by
  have z1 := zeroKept
  have c0 := h.cell0
  have hle := h.length
  have HOK := Lib.hid h.okay
  have hcount : Sh.count s site.data.toList = s.l.countP fun k => decide (k.site = site.data.toList) := rfl
  have HCT : Hid (∀ S : List Sh.Kept, (S ++ []).Perm s.l → S.countP (fun k => decide (k.site = site.data.toList)) = Sh.count s site.data.toList) := Lib.hid (fun S hp => by rw [List.append_nil] at hp; rw [hcount]; exact hp.countP_eq _)
  have HLE : Hid (∀ S T : List Sh.Kept, (S ++ T).Perm s.l → S.countP (fun k => decide (k.site = site.data.toList)) ≤ 1000000) := Lib.hid (fun S T hp => by
    have h1 := hp.length_eq
    have h2 := List.countP_le_length (p := fun k : Sh.Kept => decide (k.site = site.data.toList)) (l := S)
    rw [List.length_append] at h1
    omega)
  clear hcount hle
  generalize Sh.count s site.data.toList = total at *
  have HM := Lib.hid h
  clear h
  go_enter Try.func17, Try.ntmps17
  go_wp2_with (at_range; refine range_shelf rfl _ rfl rfl HM.out.map HM.out.keys HM.out.okay ?_; intro w1 hr1 hg1 hs1)
  go_frame
  have C1 : Below w.heap.size w w1 := (Below.refl _ w).grown hg1 (Nat.le_refl _) (fun _ e => by cases e)
  clear hs1 c0
  go_loopw [5] (fun v wr => ∃ S T, (S ++ T).Perm s.l ∧ v = .int .i64 ((S.countP fun k => decide (k.site = site.data.toList) : Nat) : Int) ∧ Rng wr mb w.heap.size s.l.length s.l T ∧ Below w.heap.size w wr)
    (fun _ wr => wr.rangeLeft mb w.heap.size)
  case atStart => exact ⟨[], s.l, List.Perm.refl _, rfl, hr1, C1⟩
  case round =>
    obtain ⟨S, T, hp, rfl, hr, hb⟩ := hrel
    clear hr1 C1 hg1
    have hle := HLE.out S T hp
    go_wp2_with (first | (at_next; refine next_shelf rfl _ rfl rfl hr ?_ ?_))
    · rintro rfl
      have hc := HCT.out S hp
      have HC := Lib.hid hc
      clear hc
      go_wp2
      go_ret
      exact ⟨by rw [HC.out]; rfl, hb⟩
    · intro k T' w2 hpt hr2 hlt hg2 hs2 hen
      have HS2 := Lib.hid hs2
      obtain ⟨hp2, hkm⟩ := mem_left hp hpt
      have ko := HOK.out k hkm
      have HLT := Lib.hid hlt
      have C2 := hb.grown hg2 hb.size (fun b e => by have := Option.some.inj e; omega)
      obtain ⟨X, hX⟩ : ∃ X, keptA k = X := ⟨_, rfl⟩
      rw [hX] at hen
      have HX := Lib.hid (show (Try.prog.info? 75).map (·.size) = some X.size by rw [← hX, keptA_size _ ko.addr]; exact infoKept)
      have HXZ := Lib.hid (show (keptA Sh.zeroK).size = X.size by rw [← hX, keptA_size _ ko.addr]; rfl)
      have HX1 := Lib.hid (show X.all (·.oneCell') = true by rw [← hX]; exact keptA_one _)
      obtain ⟨Z, U, C3, _⟩ := lay_row 75 (keptA Sh.zeroK) X (Below.refl w2.heap.size w2) (Nat.le_refl _)
      have hX29 : X[29]? = some (.string ⟨k.site.toArray⟩) := by rw [← hX]; exact keptA_site k ko.addr
      have u29 := (U.cell 29).trans hX29
      have hr3 := hr2.stays C3
      have HL3 : Hid (World.rangeLeft _ mb w.heap.size < wr.rangeLeft mb w.heap.size) := Lib.hid (by rw [hr2.left_stays C3]; exact HLT.out)
      have C4 := C2.trans (C3.mono C2.size)
      have HSN : Hid (((S ++ [k]).countP fun k => decide (k.site = site.data.toList)) = (S.countP fun k => decide (k.site = site.data.toList)) + (if decide (k.site = site.data.toList) then 1 else 0)) := Lib.hid (by
        rw [List.countP_append, List.countP_cons, List.countP_nil]; simp)
      have he := text_eqb k.site site
      clear hs2 hlt hg2 hr2 C3 hX hX29
      cases hq : decide (k.site = site.data.toList) with
      | true =>
        rw [hq] at he HSN
        generalize (⟨k.site.toArray⟩ : ByteArray) = u at *
        clear hq
        go_wp2_with (refine wpList_store_row rfl 75 _ _ rfl w2.heap.size X rfl rfl 75 _ Z HX.out HXZ.out HX1.out ?_)
        go_roundw
        case rel => exact ⟨S ++ [k], T', hp2, by rw [HSN.out]; go_num, hr3, C4⟩
        case measure => exact HL3.out
      | false =>
        rw [hq] at he HSN
        generalize (⟨k.site.toArray⟩ : ByteArray) = u at *
        clear hq
        go_wp2_with (refine wpList_store_row rfl 75 _ _ rfl w2.heap.size X rfl rfl 75 _ Z HX.out HXZ.out HX1.out ?_)
        go_roundw
        case rel => exact ⟨S ++ [k], T', hp2, by rw [HSN.out]; go_num, hr3, C4⟩
        case measure => exact HL3.out
end Go.Proofs.Ytdfcnodlddeccaa
