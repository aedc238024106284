/- Which cookie goes ahead: the walks of package match, and of the reference; the reference's Key. -/
import Derived.Test.YtnepgibjijdheaaMatchKey
namespace Go.Proofs.Ytnepgibjijdheaa
open Go.RowKit
theorem path_size (l : List UInt8) : (⟨l.toArray⟩ : ByteArray).size = l.length := List.size_toArray ..
set_option maxRecDepth 100000 in
set_option maxHeartbeats 2000000 in
theorem refKey_calls (c d : Ma.Cookie) (ha : c.host.addr.length = 16) (hd : d.host.addr.length = 16) (w : World) :
    Calls Try.prog 15 #[.agg (cookieA c), .agg (cookieA d)] w fun e w' => e = .returned (.bool (Ma.key c d)) ∧ Below w.heap.size w w' := by
  have HC := Lib.hid (cookieA_size c ha)
  have HD := Lib.hid (cookieA_size d hd)
  have HH := Lib.hid (cookieA_host c ha)
  have HI := Lib.hid (cookieA_host d hd)
  have q := eql_host c.host d.host ha hd
  have k0 := cookieA_name c
  have k1 := cookieA_only c ha
  have k2 := cookieA_path c ha
  have l0 := cookieA_name d
  have l1 := cookieA_only d hd
  have l2 := cookieA_path d hd
  unfold strV at k0 k2 l0 l2
  have R0 := Row.new w 34 (cookieA c)
  have B0 := (Below.refl w.heap.size w).alloc (Nat.le_refl _) (.cells (cookieA c) 34)
  have hN : (w.alloc (.cells (cookieA c) 34)).heap.size = w.heap.size + 1 := by simp
  have S0 := Row.new (w.alloc (.cells (cookieA c) 34)) 34 (cookieA d)
  rw [hN] at S0
  have R1 := R0.alloc (.cells (cookieA d) 34)
  have C1 := B0.alloc B0.size (.cells (cookieA d) 34)
  have c0 := (R1.cell 0).trans k0
  have c1 := (R1.cell 20).trans k1
  have c2 := (R1.cell 21).trans k2
  have d0 := (S0.cell 0).trans l0
  have d1 := (S0.cell 20).trans l1
  have d2 := (S0.cell 21).trans l2
  have e1 : ((⟨c.name.toArray⟩ : ByteArray).toList == (⟨d.name.toArray⟩ : ByteArray).toList) = decide (c.name = d.name) := by
    rw [Oct.bytes_data, Oct.bytes_data, Bool.eq_iff_iff]; simp
  have e2 : ((⟨c.path.toArray⟩ : ByteArray).toList == (⟨d.path.toArray⟩ : ByteArray).toList) = decide (c.path = d.path) := by
    rw [Oct.bytes_data, Oct.bytes_data, Bool.eq_iff_iff]; simp
  have e3 : (c.only == d.only) = decide (c.only = d.only) := by rw [Bool.eq_iff_iff]; simp
  have HG : Hid (Ma.key c d = (decide (c.name = d.name) && decide (c.host = d.host) && decide (c.only = d.only) && decide (c.path = d.path))) := Lib.hid rfl
  generalize Ma.key c d = g at *
  generalize decide (c.name = d.name) = b1 at *
  generalize decide (c.host = d.host) = b2 at *
  generalize decide (c.only = d.only) = b3 at *
  generalize decide (c.path = d.path) = b4 at *
  generalize (⟨c.name.toArray⟩ : ByteArray) = n at *
  generalize (⟨d.name.toArray⟩ : ByteArray) = m at *
  generalize (⟨c.path.toArray⟩ : ByteArray) = p at *
  generalize (⟨d.path.toArray⟩ : ByteArray) = r at *
  generalize c.only = oc at *
  generalize d.only = od at *
  generalize hostA c.host = H at *
  generalize hostA d.host = I at *
  clear R0 B0 hN ha hd k0 k1 k2 l0 l1 l2
  generalize cookieA c = U at *
  generalize cookieA d = V at *
  cases b1
  · have HG2 : Hid (g = false) := Lib.hid (by rw [HG.out]; rfl)
    clear HG
    go_enter Try.func15, Try.ntmps15
    go_wp2
    go_ret
    exact ⟨ret_bool HG2.out.symm, C1⟩
  · cases b2
    · have HG2 : Hid (g = false) := Lib.hid (by rw [HG.out]; rfl)
      clear HG
      go_enter Try.func15, Try.ntmps15
      go_wp2_with (first
        | (refine at_slot 12 rfl ?_; refine load_part rfl 32 _ rfl w.heap.size 2 18 rfl R1 Try.underlying32 rfl infoHost (by rw [HC.out]; decide) H HH.out ?_)
        | (refine at_slot 14 rfl ?_; refine load_part rfl 32 _ rfl (w.heap.size + 1) 2 18 rfl S0 Try.underlying32 rfl infoHost (by rw [HD.out]; decide) I HI.out ?_))
      go_ret
      exact ⟨ret_bool HG2.out.symm, C1⟩
    · cases b3
      · have HG2 : Hid (g = false) := Lib.hid (by rw [HG.out]; rfl)
        clear HG
        go_enter Try.func15, Try.ntmps15
        go_wp2_with (first
          | (refine at_slot 12 rfl ?_; refine load_part rfl 32 _ rfl w.heap.size 2 18 rfl R1 Try.underlying32 rfl infoHost (by rw [HC.out]; decide) H HH.out ?_)
          | (refine at_slot 14 rfl ?_; refine load_part rfl 32 _ rfl (w.heap.size + 1) 2 18 rfl S0 Try.underlying32 rfl infoHost (by rw [HD.out]; decide) I HI.out ?_))
        go_ret
        exact ⟨ret_bool HG2.out.symm, C1⟩
      · have HG2 : Hid (g = b4) := Lib.hid (by rw [HG.out]; rfl)
        clear HG
        go_enter Try.func15, Try.ntmps15
        go_wp2_with (first
          | (refine at_slot 12 rfl ?_; refine load_part rfl 32 _ rfl w.heap.size 2 18 rfl R1 Try.underlying32 rfl infoHost (by rw [HC.out]; decide) H HH.out ?_)
          | (refine at_slot 14 rfl ?_; refine load_part rfl 32 _ rfl (w.heap.size + 1) 2 18 rfl S0 Try.underlying32 rfl infoHost (by rw [HD.out]; decide) I HI.out ?_))
        go_ret
        exact ⟨ret_bool HG2.out.symm, C1⟩
end Go.Proofs.Ytnepgibjijdheaa
