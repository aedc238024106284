/- The walk of the reference's Count of a shelf. -/
import Derived.Test.YtnepgibjijdheaaRefShelfAt
import Derived.Test.YtnepgibjijdheaaShelfCount
namespace Go.Proofs.Ytnepgibjijdheaa
open Go.RowKit
set_option maxRecDepth 100000 in
set_option maxHeartbeats 4000000 in
theorem refCount_calls (s : Sh.Shelf) (site : ByteArray) (v : Value) (w : World) (ho : AllOk s.l) (hv : Lies keptA w v s.l) (hn : s.l.length ≤ 1000000) :
    Calls Try.prog 28 #[.agg #[v, .int .i64 s.last], .string site] w fun e w' => e = .returned (.int .i64 (Sh.count s site.data.toList : Int)) ∧ Below w.heap.size w w' := by
  have z1 := zeroKept
  have HV := Lib.hid hv
  have HOK := Lib.hid ho
  obtain ⟨A, cp, rfl, hcp, _⟩ := hv
  have HCT : Hid (∀ k, k = s.l.length → (s.l.take k).countP (fun x => decide (x.site = site.data.toList)) = Sh.count s site.data.toList) := Lib.hid (fun k hk => by rw [hk, List.take_length]; rfl)
  have HLE : Hid (∀ k, (s.l.take k).countP (fun x => decide (x.site = site.data.toList)) ≤ 1000000) := Lib.hid (fun k => by
    have h2 := List.countP_le_length (p := fun x : Sh.Kept => decide (x.site = site.data.toList)) (l := s.l.take k)
    have h3 := List.length_take_le k s.l
    rw [List.length_take] at h2
    omega)
  generalize Sh.count s site.data.toList = total at *
  obtain ⟨n, hnn⟩ : ∃ n, s.l.length = n := ⟨_, rfl⟩
  have HNN := Lib.hid hnn
  rw [hnn] at hn hcp HV ⊢
  have C1 := (Below.refl w.heap.size w).alloc (Nat.le_refl _) (.cells #[.slice A n cp, .int .i64 s.last] 28)
  have c0 : (w.alloc (.cells #[.slice A n cp, .int .i64 s.last] 28)).cell? ⟨w.heap.size, 0, none⟩ = some (.slice A n cp) := (Row.new w 28 #[.slice A n cp, .int .i64 s.last]).cell 0
  clear hnn ho
  go_enter Try.func28, Try.ntmps28
  go_wp2_with fail
  go_loopw [5, 11] (fun v i wr => ∃ k : Nat, k ≤ n ∧ i = .int .i64 (k : Int) ∧ v = .int .i64 (((s.l.take k).countP (fun x => decide (x.site = site.data.toList)) : Nat) : Int) ∧ Below w.heap.size w wr) (fun _ i _ => n - (intOf i).toNat)
  case atStart => exact ⟨0, Nat.zero_le _, rfl, rfl, C1⟩
  case round =>
    obtain ⟨k, hk, rfl, rfl, hb⟩ := hrel
    clear C1 c0
    have hle := HLE.out k
    by_cases hlt : k < n
    · obtain ⟨x, hx⟩ : ∃ x, s.l[k]? = some x := ⟨_, List.getElem?_eq_getElem (by rw [HNN.out]; exact hlt)⟩
      have hxm := List.mem_of_getElem? hx
      have ko := HOK.out x hxm
      have hv2 := HV.out.stays hb
      have hcc := hv2.block.2.1
      obtain ⟨g, off, rfl, hg⟩ := hv2.block.2.2 (by rw [HNN.out]; omega)
      rw [← HNN.out] at hv2
      have HCE := Lib.hid (hv2.one (keptA_sizes HOK.out) hx)
      have HXI := Lib.hid hx
      obtain ⟨X, hX⟩ : ∃ X, keptA x = X := ⟨_, rfl⟩
      rw [hX] at HCE
      have HXN := Lib.hid (show (Try.prog.info? 59).map (·.size) = some X.size by rw [← hX, keptA_size _ ko.addr]; exact infoKeptR)
      have HXZ := Lib.hid (show (keptA Sh.zeroK).size = X.size by rw [← hX, keptA_size _ ko.addr]; rfl)
      have HX1 := Lib.hid (show X.all (·.oneCell') = true by rw [← hX]; exact keptA_one _)
      have HX30 := Lib.hid (show X.size = 30 by rw [← hX, keptA_size _ ko.addr])
      obtain ⟨Z, U, D, L⟩ := lay_row 59 (keptA Sh.zeroK) X (Below.refl wr.heap.size wr) (Nat.le_refl _)
      have b2 := hb.trans (D.mono hb.size)
      have hX29 : X[29]? = some (.string ⟨x.site.toArray⟩) := by rw [← hX]; exact keptA_site x ko.addr
      have u29 := (U.cell 29).trans hX29
      have HSN : Hid ((s.l.take (k + 1)).countP (fun x => decide (x.site = site.data.toList)) = (s.l.take k).countP (fun x => decide (x.site = site.data.toList)) + (if decide (x.site = site.data.toList) then 1 else 0)) := Lib.hid (by
        rw [List.take_add_one, hx, List.countP_append]; simp)
      have he := text_eqb x.site site
      clear L D hx hv2 hX hX29 hb
      cases hq : decide (x.site = site.data.toList) with
      | true =>
        rw [hq] at he HSN
        generalize (⟨x.site.toArray⟩ : ByteArray) = u at *
        clear hq
        go_wp2_with (first
          | (refine at_slot 14 rfl ?_; refine load_span rfl 59 _ rfl g (off + k * 30) rfl X HCE.out Try.underlying59 rfl HXN.out ?_)
          | (refine at_store 59 (.tmp 7) (.tmp 14) rfl ?_; refine wpList_store_row rfl 59 _ _ rfl wr.heap.size X rfl rfl 59 _ Z HXN.out HXZ.out HX1.out ?_))
        go_roundw
        case rel => exact ⟨k + 1, by omega, by go_num, by rw [HSN.out]; go_num, b2⟩
        case measure => simp [intOf]; omega
      | false =>
        rw [hq] at he HSN
        generalize (⟨x.site.toArray⟩ : ByteArray) = u at *
        clear hq
        go_wp2_with (first
          | (refine at_slot 14 rfl ?_; refine load_span rfl 59 _ rfl g (off + k * 30) rfl X HCE.out Try.underlying59 rfl HXN.out ?_)
          | (refine at_store 59 (.tmp 7) (.tmp 14) rfl ?_; refine wpList_store_row rfl 59 _ _ rfl wr.heap.size X rfl rfl 59 _ Z HXN.out HXZ.out HX1.out ?_))
        go_roundw
        case rel => exact ⟨k + 1, by omega, by go_num, by rw [HSN.out]; go_num, b2⟩
        case measure => simp [intOf]; omega
    · obtain rfl : k = n := by omega
      have HE := Lib.hid (HCT.out _ HNN.out.symm)
      go_wp2
      go_ret
      exact ⟨by rw [HE.out]; rfl, hb⟩
end Go.Proofs.Ytnepgibjijdheaa
