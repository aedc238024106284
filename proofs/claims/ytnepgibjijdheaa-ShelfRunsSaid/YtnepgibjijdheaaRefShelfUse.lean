/- The walk of the reference's Use of a shelf. -/
import Derived.Test.YtnepgibjijdheaaRefShelfExpire
import Derived.Test.YtnepgibjijdheaaSpanMore
namespace Go.Proofs.Ytnepgibjijdheaa
open Go.RowKit
set_option maxRecDepth 100000 in
set_option maxHeartbeats 8000000 in
theorem refUse_calls (s : Sh.Shelf) (c : Ma.Cookie) (hc : c.host.addr.length = 16) (now : Int) (v : Value) (w : World) (ho : AllOk s.l) (hv : Lies keptA w v s.l) (hn : s.l.length ≤ 1000000) :
    Calls Try.prog 23 #[.agg #[v, .int .i64 s.last], .agg (cookieA c), .int .i64 now] w (NewKept (Sh.use s c now).1 (.bool (Sh.use s c now).2) w) := by
  have z1 := zeroKept
  have HV := Lib.hid hv
  have HOK := Lib.hid ho
  have HC := Lib.hid (show (Try.prog.info? 34).map (·.size) = some (cookieA c).size by rw [cookieA_size c hc]; exact infoCookie)
  have HAT := Lib.hid (fun W hW => refAt_calls s c hc v W ho hW hn)
  obtain ⟨A, cp, rfl, hcp, _⟩ := hv
  obtain ⟨n, hnn⟩ : ∃ n, s.l.length = n := ⟨_, rfl⟩
  have HNN := Lib.hid hnn
  rw [hnn] at hn hcp HV HAT ⊢
  have hN : (w.alloc (.cells #[Value.slice A n cp, .int .i64 s.last] 28)).heap.size = w.heap.size + 1 := by simp
  have hN2 : ((w.alloc (.cells #[Value.slice A n cp, .int .i64 s.last] 28)).alloc (.cells (cookieA c) 34)).heap.size = w.heap.size + 2 := by simp
  have R0 := ((Row.new w 28 #[Value.slice A n cp, .int .i64 s.last]).alloc (.cells (cookieA c) 34)).alloc (.cells #[.slice none 0 0, .int .i64 0] 28)
  have K0 := (Row.new (w.alloc (.cells #[Value.slice A n cp, .int .i64 s.last] 28)) 34 (cookieA c)).alloc (.cells #[.slice none 0 0, .int .i64 0] 28)
  have O0 := Row.new ((w.alloc (.cells #[Value.slice A n cp, .int .i64 s.last] 28)).alloc (.cells (cookieA c) 34)) 28 #[.slice none 0 0, .int .i64 0]
  rw [hN] at K0
  rw [hN2] at O0
  have C0 := (((Below.refl w.heap.size w).alloc (Nat.le_refl _) (.cells #[Value.slice A n cp, .int .i64 s.last] 28)).alloc (by rw [hN]; omega) (.cells (cookieA c) 34)).alloc (by rw [hN2]; omega) (.cells #[.slice none 0 0, .int .i64 0] 28)
  have HSI : Hid ((Try.prog.info? 28).map (·.size) = some #[Value.slice A n cp, .int .i64 s.last].size) := Lib.hid zeroRefShelf
  have HS1 : Hid (#[Value.slice A n cp, .int .i64 s.last].all (·.oneCell') = true) := Lib.hid (by simp [Value.oneCell'])
  clear hN hN2 ho hnn
  cases hpl : Sh.place s c with
  | none =>
    have hu : Sh.use s c now = (s, false) := by unfold Sh.use; rw [hpl]
    have hpi : Sh.placeI s c = -1 := by unfold Sh.placeI; rw [hpl]
    rw [hu]
    rw [hpi] at HAT
    clear hu hpi hpl
    go_enter Try.func23, Try.ntmps23
    go_wp2_with (first
      | (refine at_slot 11 rfl ?_; refine load_row rfl 28 _ rfl w.heap.size rfl R0 Try.underlying28 rfl HSI.out ?_)
      | (refine at_slot 12 rfl ?_; refine load_row rfl 34 _ rfl (w.heap.size + 1) rfl K0 Try.underlying34 rfl HC.out ?_))
    generalize (((w.alloc (.cells #[Value.slice A n cp, .int .i64 s.last] 28)).alloc (.cells (cookieA c) 34)).alloc (.cells #[.slice none 0 0, .int .i64 0] 28)) = x0 at *
    refine (HAT.out x0 (HV.out.stays C0)).mono ?_
    rintro e x1 ⟨rfl, d1⟩
    have R1 := R0.stays d1
    have K1 := K0.stays d1
    have O1 := O0.stays d1
    have C1 := C0.trans (d1.mono C0.size)
    have V1 := HV.out.stays C1
    have c00 : (x1.alloc (.cells #[] 59)).cell? ⟨w.heap.size, 0, none⟩ = some (.slice A n cp) := (R1.alloc (.cells #[] 59)).cell 0
    clear R0 K0 O0 C0 d1 HAT
    have HVE : Hid (Lies keptA (x1.setRow (w.heap.size + 2) #[Value.slice A n cp, .int .i64 s.last]) (.slice A n cp) s.l) := Lib.hid (HV.out.stays (below_setRow C1 (by omega) _))
    go_wp2_with (first
      | (refine at_slot 16 rfl ?_; refine load_row rfl 28 _ rfl w.heap.size rfl R1 Try.underlying28 rfl HSI.out ?_)
      | (refine wpList_store_row rfl 28 _ _ rfl (w.heap.size + 2) #[Value.slice A n cp, .int .i64 s.last] rfl rfl 28 _ O1 HSI.out rfl HS1.out ?_))
    exact bodyPost_ret (v := .tuple #[.agg #[Value.slice A n cp, .int .i64 s.last], .bool false]) (results_cell_two rfl _ _ (w.heap.size + 2) _ _ _ rfl _ rfl (O1.whole _) Try.underlying28 rfl HSI.out) rfl ⟨_, rfl, HVE.out, below_setRow C1 (by omega) _⟩
  | some i =>
    obtain ⟨k0, hk, hkey, _⟩ := Sh.place_some hpl
    have hil := (List.getElem?_eq_some_iff.1 hk).1
    rw [HNN.out] at hil
    have ko := HOK.out k0 (List.mem_of_getElem? hk)
    have hpi : Sh.placeI s c = (i : Int) := by unfold Sh.placeI; rw [hpl]
    rw [hpi] at HAT
    have HKI := Lib.hid hk
    have HKY := Lib.hid hkey
    have HKA := Lib.hid (keptA_sizes HOK.out)
    have HKO := Lib.hid (show ∀ x ∈ s.l, (keptA x).all (·.oneCell') = true from fun x _ => keptA_one x)
    have hi0 : ¬ ((i : Int) < 0) := by omega
    clear hpi hk hkey
    have hu : Sh.use s c now = (⟨s.l.set i (Sh.used now k0), s.last⟩, true) := by unfold Sh.use; rw [hpl]; dsimp only; rw [modify_set HKI.out]
    have HEND : Hid (∀ W u, W.ownsRow w.heap.size 59 30 u (s.l.set i (Sh.used now k0)).length (flat keptA (s.l.set i (Sh.used now k0))) → Below w.heap.size w W → NewKept (Sh.use s c now).1 (.bool (Sh.use s c now).2) w (.returned (.tuple #[.agg #[u, .int .i64 s.last], .bool true])) W) := Lib.hid (fun W u hO hb => by
      rw [hu]
      exact ⟨u, rfl, lies_own hO, hb⟩)
    generalize NewKept (Sh.use s c now).1 (.bool (Sh.use s c now).2) w = post at *
    clear hu hpl
    go_enter Try.func23, Try.ntmps23
    go_wp2_with (first
      | (refine at_slot 11 rfl ?_; refine load_row rfl 28 _ rfl w.heap.size rfl R0 Try.underlying28 rfl HSI.out ?_)
      | (refine at_slot 12 rfl ?_; refine load_row rfl 34 _ rfl (w.heap.size + 1) rfl K0 Try.underlying34 rfl HC.out ?_))
    generalize (((w.alloc (.cells #[Value.slice A n cp, .int .i64 s.last] 28)).alloc (.cells (cookieA c) 34)).alloc (.cells #[.slice none 0 0, .int .i64 0] 28)) = x0 at *
    refine (HAT.out x0 (HV.out.stays C0)).mono ?_
    rintro e x1 ⟨rfl, d1⟩
    have R1 := R0.stays d1
    have K1 := K0.stays d1
    have O1 := O0.stays d1
    have C1 := C0.trans (d1.mono C0.size)
    have V1 := HV.out.stays C1
    have c00 : (x1.alloc (.cells #[] 59)).cell? ⟨w.heap.size, 0, none⟩ = some (.slice A n cp) := (R1.alloc (.cells #[] 59)).cell 0
    clear R0 K0 O0 C0 d1 HAT
    go_wp2_with (first
      | (refine at_slot 20 rfl ?_; refine append_lies rfl _ _ rfl Try.underlying26 infoKeptZ (by kernel_rfl) (by decide) (by decide) rfl (own_empty (by decide)) rfl HKA.out HKO.out (V1.stays ((Below.refl _ x1).alloc (Nat.le_refl _) (.cells #[] 59))) ?ca ?cb ?_))
    case ca => rw [HNN.out]; omega
    case cb => exact Nat.le_of_lt (by rw [size_allocS]; omega)
    intro v5 x5 ho5 hg5 _
    have hsz1 := C1.size
    have ho1 := O1.lt
    have D5 : Below x1.heap.size x1 x5 := ((Below.refl _ x1).alloc (Nat.le_refl _) (.cells #[] 59)).grown hg5 (by rw [size_allocS]; omega) (fun b e => by
      have e := Option.some.inj e
      have e : x1.heap.size = b := e
      omega)
    have R5 := R1.stays D5
    have K5 := K1.stays D5
    have O5 := O1.stays D5
    have C5 := C1.trans (D5.mono C1.size)
    obtain ⟨g, cap, cur, new, rfl, hBg, hcap, RG, hle, hnew, HOW⟩ := own_set (y := Sh.used now k0) HKA.out ho5 (by rw [HNN.out]; exact hil) (keptA_size (Sh.used now k0) ko.addr)
    have hcells := (lies_own ho5).one HKA.out HKI.out
    rw [HNN.out] at hcap ho5 ⊢
    have HCE : Hid (∀ j u, (keptA k0)[j]? = some u → x5.cell? ⟨g, i * 30 + j, none⟩ = some u) := Lib.hid (fun j u hu => by have := hcells j u hu; rw [Nat.zero_add] at this; exact this)
    obtain ⟨X, hX⟩ : ∃ X, keptA k0 = X := ⟨_, rfl⟩
    rw [hX] at HCE
    have HXN := Lib.hid (show (Try.prog.info? 59).map (·.size) = some X.size by rw [← hX, keptA_size _ ko.addr]; exact infoKeptR)
    have HXZ := Lib.hid (show (keptA Sh.zeroK).size = X.size by rw [← hX, keptA_size _ ko.addr]; rfl)
    have HX1 := Lib.hid (show X.all (·.oneCell') = true by rw [← hX]; exact keptA_one _)
    have hX27 : X[27]? = some (.int .i64 k0.c.used) := by rw [← hX]; exact keptA_cell (cookieA_used k0.c ko.addr)
    have HSU : Hid (X.setIfInBounds 27 (.int .i64 now) = keptA (Sh.used now k0)) := Lib.hid (by rw [← hX]; exact keptA_setUsed k0 ko.addr now)
    have HUI := Lib.hid (show (Try.prog.info? 59).map (·.size) = some (keptA (Sh.used now k0)).size by rw [keptA_size (Sh.used now k0) ko.addr]; exact infoKeptR)
    have HU1 := Lib.hid (keptA_one (Sh.used now k0))
    have HLE := Lib.hid hle
    have HNE := Lib.hid hnew
    have HOWN := Lib.hid HOW
    clear hX hle hnew HOW hcells D5 hg5 V1 R1 K1 O1 C1
    have hgl := RG.lt
    have hN := Lib.hid (show g < x5.heap.size from hgl)
    obtain ⟨Z, U, D, L⟩ := lay_row 59 (keptA Sh.zeroK) X (Below.refl x5.heap.size x5) (Nat.le_refl _)
    have R6 := L _ _ _ R5
    have O6 := L _ _ _ O5
    have RG6 := L _ _ _ RG
    have C6 := C5.trans (D.mono C5.size)
    have u27 := (U.cell 27).trans hX27
    have f27 := U.free 27
    have Z7 := U.set 27 (.int .i64 now)
    rw [HSU.out] at Z7
    have hng : g ≠ x5.heap.size := by omega
    have hnr : w.heap.size ≠ x5.heap.size := by have := R5.lt; omega
    have hno : w.heap.size + 2 ≠ x5.heap.size := by have := O5.lt; omega
    have RG7 := RG6.other (p := ⟨x5.heap.size, 27, none⟩) hng (.int .i64 now)
    have R7 := R6.other (p := ⟨x5.heap.size, 27, none⟩) hnr (.int .i64 now)
    have O7 := O6.other (p := ⟨x5.heap.size, 27, none⟩) hno (.int .i64 now)
    have C7 := C6.setCell (p := ⟨x5.heap.size, 27, none⟩) (show w.heap.size ≤ x5.heap.size from C5.size) (.int .i64 now)
    clear hX27 L D R5 O5 RG C5 R6 O6 RG6 C6 K5
    have hgw : w.heap.size ≤ g := by omega
    have hg0 : g ≠ w.heap.size := by omega
    have hg2 : g ≠ w.heap.size + 2 := by omega
    have R8 := R7.aside (k := g) (Ne.symm hg0) new
    have O8 := O7.aside (k := g) (Ne.symm hg2) new
    have RG8 := RG7.whole new
    have C8 := below_setRow (g := g) C7 hgw new
    have c81 : World.cell? _ ⟨w.heap.size, 1, none⟩ = some (.int .i64 s.last) := R8.cell 1
    have O9 := O8.whole #[.slice (some ⟨g, 0, none⟩) n cap, .int .i64 s.last]
    have RG9 := RG8.aside (k := w.heap.size + 2) hg2 #[.slice (some ⟨g, 0, none⟩) n cap, .int .i64 s.last]
    have C9 := below_setRow (g := w.heap.size + 2) C8 (by omega) #[.slice (some ⟨g, 0, none⟩) n cap, .int .i64 s.last]
    have hown9 := HOWN.out _ RG9
    rw [HNN.out] at hown9
    have HE := Lib.hid (HEND.out _ _ (own_mono hown9 (by have := hsz1; omega)) C9)
    have HBD := Lib.hid (built_refShelf (some ⟨g, 0, none⟩) n cap s.last)
    clear hown9 HEND C9 RG9 RG8 HOWN
    go_wp2_with (first
      | (refine at_slot 24 rfl ?_; refine load_span rfl 59 _ rfl g (i * 30) rfl X HCE.out Try.underlying59 rfl HXN.out ?_)
      | (refine at_store 59 (.tmp 10) (.tmp 24) rfl ?_; refine wpList_store_row rfl 59 _ _ rfl x5.heap.size X rfl rfl 59 _ Z HXN.out HXZ.out HX1.out ?_)
      | (refine at_slot 30 rfl ?_; refine load_row rfl 59 _ rfl x5.heap.size rfl Z7 Try.underlying59 rfl HUI.out ?_)
      | (refine at_store 59 (.tmp 31) (.tmp 30) rfl ?_; refine store_part rfl 59 _ _ rfl g (i * 30) (keptA (Sh.used now k0)) rfl rfl 59 cur RG7 HUI.out HLE.out HU1.out new HNE.out ?_)
      | (refine at_slot 35 rfl ?_; refine build_two rfl 28 0 1 _ _ rfl _ _ rfl rfl #[.slice (some ⟨g, 0, none⟩) n cap, .int .i64 s.last] HBD.out ?_)
      | (refine at_store 28 (.tmp 6) (.tmp 35) rfl ?_; refine wpList_store_row rfl 28 _ _ rfl (w.heap.size + 2) #[.slice (some ⟨g, 0, none⟩) n cap, .int .i64 s.last] rfl rfl 28 _ O8 zeroRefShelf rfl (by simp [Value.oneCell']) ?_))
    exact bodyPost_ret (v := .tuple #[.agg #[.slice (some ⟨g, 0, none⟩) n cap, .int .i64 s.last], .bool true]) (results_cell_two rfl _ _ (w.heap.size + 2) _ _ _ rfl _ rfl O9 Try.underlying28 rfl zeroRefShelf) rfl HE.out
end Go.Proofs.Ytnepgibjijdheaa
