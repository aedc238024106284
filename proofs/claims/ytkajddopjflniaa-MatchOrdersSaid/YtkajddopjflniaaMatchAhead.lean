/- Which cookie goes ahead: the walks of package match, and of the reference; the reference's Key. -/
import Derived.Test.YtkajddopjflniaaMatchKey
namespace Go.Proofs.Ytkajddopjflniaa
open Go.RowKit
theorem path_size (l : List UInt8) : (⟨l.toArray⟩ : ByteArray).size = l.length := List.size_toArray ..
set_option maxRecDepth 100000 in
set_option maxHeartbeats 2000000 in
theorem mahead_calls (c d : Ma.Cookie) (ha : c.host.addr.length = 16) (hd : d.host.addr.length = 16) (w : World) :
    Calls Try.prog 11 #[.agg (cookieA c), .agg (cookieA d)] w fun e w' => e = .returned (.bool (Ma.goes c d)) ∧ Below w.heap.size w w' := by
  have k0 := cookieA_path c ha
  have k1 := cookieA_seq c ha
  have l0 := cookieA_path d hd
  have l1 := cookieA_seq d hd
  unfold strV at k0 l0
  have R0 := Row.new w 30 (cookieA c)
  have B0 := (Below.refl w.heap.size w).alloc (Nat.le_refl _) (.cells (cookieA c) 30)
  have hN : (w.alloc (.cells (cookieA c) 30)).heap.size = w.heap.size + 1 := by simp
  have S0 := Row.new (w.alloc (.cells (cookieA c) 30)) 30 (cookieA d)
  rw [hN] at S0
  have R1 := R0.alloc (.cells (cookieA d) 30)
  have C1 := B0.alloc B0.size (.cells (cookieA d) 30)
  have c0 := (R1.cell 21).trans k0
  have c1 := (R1.cell 28).trans k1
  have d0 := (S0.cell 21).trans l0
  have d1 := (S0.cell 28).trans l1
  have HG : Hid (Ma.goes c d = (decide (((⟨d.path.toArray⟩ : ByteArray).size : Int) < ((⟨c.path.toArray⟩ : ByteArray).size : Int)) || (decide (((⟨c.path.toArray⟩ : ByteArray).size : Int) = ((⟨d.path.toArray⟩ : ByteArray).size : Int)) && decide (c.seq < d.seq)))) := Lib.hid (by
    unfold Ma.goes
    rw [path_size, path_size]
    congr 1
    · exact decide_eq_decide.2 (by omega)
    · congr 1
      exact decide_eq_decide.2 (by omega))
  generalize Ma.goes c d = g at *
  generalize c.seq = sc at *
  generalize d.seq = sd at *
  generalize (⟨c.path.toArray⟩ : ByteArray) = p at *
  generalize (⟨d.path.toArray⟩ : ByteArray) = q at *
  clear R0 B0 hN ha hd k0 k1 l0 l1 R1 S0
  generalize cookieA c = U at *
  generalize cookieA d = V at *
  by_cases h : (p.size : Int) = (q.size : Int)
  · have e1 : ((p.size : Int) != (q.size : Int)) = false := by rw [h]; simp
    have HG2 : Hid (g = decide (sc < sd)) := Lib.hid (by rw [HG.out, decide_eq_false (by omega), decide_eq_true h]; rfl)
    clear h HG
    go_enter Try.func11, Try.ntmps11
    go_wp2
    go_ret
    exact ⟨ret_bool HG2.out.symm, C1⟩
  · have e1 : ((p.size : Int) != (q.size : Int)) = true := by rw [bne_iff_ne]; exact h
    have HG2 : Hid (g = decide ((q.size : Int) < (p.size : Int))) := Lib.hid (by rw [HG.out, decide_eq_false h, Bool.false_and, Bool.or_false])
    clear h HG
    go_enter Try.func11, Try.ntmps11
    go_wp2
    go_ret
    exact ⟨ret_bool (by rw [HG2.out]; exact decide_eq_decide.2 (by omega)), C1⟩
set_option maxRecDepth 100000 in
set_option maxHeartbeats 2000000 in
theorem refAhead_calls (c d : Ma.Cookie) (ha : c.host.addr.length = 16) (hd : d.host.addr.length = 16) (w : World) :
    Calls Try.prog 14 #[.agg (cookieA c), .agg (cookieA d)] w fun e w' => e = .returned (.bool (Ma.goes c d)) ∧ Below w.heap.size w w' := by
  have k0 := cookieA_path c ha
  have k1 := cookieA_seq c ha
  have l0 := cookieA_path d hd
  have l1 := cookieA_seq d hd
  unfold strV at k0 l0
  have R0 := Row.new w 30 (cookieA c)
  have B0 := (Below.refl w.heap.size w).alloc (Nat.le_refl _) (.cells (cookieA c) 30)
  have hN : (w.alloc (.cells (cookieA c) 30)).heap.size = w.heap.size + 1 := by simp
  have S0 := Row.new (w.alloc (.cells (cookieA c) 30)) 30 (cookieA d)
  rw [hN] at S0
  have R1 := R0.alloc (.cells (cookieA d) 30)
  have C1 := B0.alloc B0.size (.cells (cookieA d) 30)
  have c0 := (R1.cell 21).trans k0
  have c1 := (R1.cell 28).trans k1
  have d0 := (S0.cell 21).trans l0
  have d1 := (S0.cell 28).trans l1
  have HG : Hid (Ma.goes c d = (decide (((⟨d.path.toArray⟩ : ByteArray).size : Int) < ((⟨c.path.toArray⟩ : ByteArray).size : Int)) || (decide (((⟨c.path.toArray⟩ : ByteArray).size : Int) = ((⟨d.path.toArray⟩ : ByteArray).size : Int)) && decide (c.seq < d.seq)))) := Lib.hid (by
    unfold Ma.goes
    rw [path_size, path_size]
    congr 1
    · exact decide_eq_decide.2 (by omega)
    · congr 1
      exact decide_eq_decide.2 (by omega))
  generalize Ma.goes c d = g at *
  generalize c.seq = sc at *
  generalize d.seq = sd at *
  generalize (⟨c.path.toArray⟩ : ByteArray) = p at *
  generalize (⟨d.path.toArray⟩ : ByteArray) = q at *
  clear R0 B0 hN ha hd k0 k1 l0 l1 R1 S0
  generalize cookieA c = U at *
  generalize cookieA d = V at *
  have h3 : (q.size : Int) < (p.size : Int) ∨ (¬ (q.size : Int) < (p.size : Int) ∧ (p.size : Int) = (q.size : Int)) ∨ (¬ (q.size : Int) < (p.size : Int) ∧ ¬ (p.size : Int) = (q.size : Int)) := by omega
  rcases h3 with h | ⟨h, k⟩ | ⟨h, k⟩
  · have HG2 : Hid (g = true) := Lib.hid (by rw [HG.out, decide_eq_true h, Bool.true_or])
    clear HG
    go_enter Try.func14, Try.ntmps14
    go_wp2
    go_ret
    exact ⟨ret_bool HG2.out.symm, C1⟩
  · have e1 : ((p.size : Int) == (q.size : Int)) = true := by rw [k]; simp
    have HG2 : Hid (g = decide (sc < sd)) := Lib.hid (by rw [HG.out, decide_eq_false h, decide_eq_true k]; rfl)
    clear HG k
    go_enter Try.func14, Try.ntmps14
    go_wp2
    go_ret
    exact ⟨ret_bool HG2.out.symm, C1⟩
  · have e1 : ((p.size : Int) == (q.size : Int)) = false := by rw [beq_eq_false_iff_ne]; exact k
    have HG2 : Hid (g = false) := Lib.hid (by rw [HG.out, decide_eq_false h, decide_eq_false k]; rfl)
    clear HG k
    go_enter Try.func14, Try.ntmps14
    go_wp2
    go_ret
    exact ⟨ret_bool HG2.out.symm, C1⟩
set_option maxRecDepth 100000 in
set_option maxHeartbeats 2000000 in
theorem refKey_calls (c d : Ma.Cookie) (ha : c.host.addr.length = 16) (hd : d.host.addr.length = 16) (w : World) :
    Calls Try.prog 13 #[.agg (cookieA c), .agg (cookieA d)] w fun e w' => e = .returned (.bool (Ma.key c d)) ∧ Below w.heap.size w w' := by
  have HC := Lib.hid (cookieA_size c ha)
  have HD := Lib.hid (cookieA_size d hd)
  have HH := Lib.hid (cookieA_host c ha)
  have HI := Lib.hid (cookieA_host d hd)
  have q := eql_host c.host d.host ha hd
  have k0 := cookieA_name c
  have k1 := cookieA_only c ha
  have k2 := cookieA_path c ha
  have l0 := cookieA_name d
  have l1 := cookieA_only d hd
  have l2 := cookieA_path d hd
  unfold strV at k0 k2 l0 l2
  have R0 := Row.new w 30 (cookieA c)
  have B0 := (Below.refl w.heap.size w).alloc (Nat.le_refl _) (.cells (cookieA c) 30)
  have hN : (w.alloc (.cells (cookieA c) 30)).heap.size = w.heap.size + 1 := by simp
  have S0 := Row.new (w.alloc (.cells (cookieA c) 30)) 30 (cookieA d)
  rw [hN] at S0
  have R1 := R0.alloc (.cells (cookieA d) 30)
  have C1 := B0.alloc B0.size (.cells (cookieA d) 30)
  have c0 := (R1.cell 0).trans k0
  have c1 := (R1.cell 20).trans k1
  have c2 := (R1.cell 21).trans k2
  have d0 := (S0.cell 0).trans l0
  have d1 := (S0.cell 20).trans l1
  have d2 := (S0.cell 21).trans l2
  have e1 : ((⟨c.name.toArray⟩ : ByteArray).toList == (⟨d.name.toArray⟩ : ByteArray).toList) = decide (c.name = d.name) := by
    rw [Oct.bytes_data, Oct.bytes_data, Bool.eq_iff_iff]; simp
  have e2 : ((⟨c.path.toArray⟩ : ByteArray).toList == (⟨d.path.toArray⟩ : ByteArray).toList) = decide (c.path = d.path) := by
    rw [Oct.bytes_data, Oct.bytes_data, Bool.eq_iff_iff]; simp
  have e3 : (c.only == d.only) = decide (c.only = d.only) := by rw [Bool.eq_iff_iff]; simp
  have HG : Hid (Ma.key c d = (decide (c.name = d.name) && decide (c.host = d.host) && decide (c.only = d.only) && decide (c.path = d.path))) := Lib.hid rfl
  generalize Ma.key c d = g at *
  generalize decide (c.name = d.name) = b1 at *
  generalize decide (c.host = d.host) = b2 at *
  generalize decide (c.only = d.only) = b3 at *
  generalize decide (c.path = d.path) = b4 at *
  generalize (⟨c.name.toArray⟩ : ByteArray) = n at *
  generalize (⟨d.name.toArray⟩ : ByteArray) = m at *
  generalize (⟨c.path.toArray⟩ : ByteArray) = p at *
  generalize (⟨d.path.toArray⟩ : ByteArray) = r at *
  generalize c.only = oc at *
  generalize d.only = od at *
  generalize hostA c.host = H at *
  generalize hostA d.host = I at *
  clear R0 B0 hN ha hd k0 k1 k2 l0 l1 l2
  generalize cookieA c = U at *
  generalize cookieA d = V at *
  cases b1
  · have HG2 : Hid (g = false) := Lib.hid (by rw [HG.out]; rfl)
    clear HG
    go_enter Try.func13, Try.ntmps13
    go_wp2
    go_ret
    exact ⟨ret_bool HG2.out.symm, C1⟩
  · cases b2
    · have HG2 : Hid (g = false) := Lib.hid (by rw [HG.out]; rfl)
      clear HG
      go_enter Try.func13, Try.ntmps13
      go_wp2_with (first
        | (refine at_slot 12 rfl ?_; refine load_part rfl 28 _ rfl w.heap.size 2 18 rfl R1 Try.underlying28 rfl infoHost (by rw [HC.out]; decide) H HH.out ?_)
        | (refine at_slot 14 rfl ?_; refine load_part rfl 28 _ rfl (w.heap.size + 1) 2 18 rfl S0 Try.underlying28 rfl infoHost (by rw [HD.out]; decide) I HI.out ?_))
      go_ret
      exact ⟨ret_bool HG2.out.symm, C1⟩
    · cases b3
      · have HG2 : Hid (g = false) := Lib.hid (by rw [HG.out]; rfl)
        clear HG
        go_enter Try.func13, Try.ntmps13
        go_wp2_with (first
          | (refine at_slot 12 rfl ?_; refine load_part rfl 28 _ rfl w.heap.size 2 18 rfl R1 Try.underlying28 rfl infoHost (by rw [HC.out]; decide) H HH.out ?_)
          | (refine at_slot 14 rfl ?_; refine load_part rfl 28 _ rfl (w.heap.size + 1) 2 18 rfl S0 Try.underlying28 rfl infoHost (by rw [HD.out]; decide) I HI.out ?_))
        go_ret
        exact ⟨ret_bool HG2.out.symm, C1⟩
      · have HG2 : Hid (g = b4) := Lib.hid (by rw [HG.out]; rfl)
        clear HG
        go_enter Try.func13, Try.ntmps13
        go_wp2_with (first
          | (refine at_slot 12 rfl ?_; refine load_part rfl 28 _ rfl w.heap.size 2 18 rfl R1 Try.underlying28 rfl infoHost (by rw [HC.out]; decide) H HH.out ?_)
          | (refine at_slot 14 rfl ?_; refine load_part rfl 28 _ rfl (w.heap.size + 1) 2 18 rfl S0 Try.underlying28 rfl infoHost (by rw [HD.out]; decide) I HI.out ?_))
        go_ret
        exact ⟨ret_bool HG2.out.symm, C1⟩
end Go.Proofs.Ytkajddopjflniaa
