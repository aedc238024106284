/- The walk of the reference's Put of a shelf. -/
import Derived.Test.YtnepgibjijdheaaRefShelfExpire
import Derived.Test.YtnepgibjijdheaaSpanMore
namespace Go.Proofs.Ytnepgibjijdheaa
open Go.RowKit
set_option maxRecDepth 100000 in
set_option maxHeartbeats 8000000 in
theorem refPut_calls (s : Sh.Shelf) (c : Ma.Cookie) (hc : c.host.addr.length = 16) (site : ByteArray) (v : Value) (w : World) (ho : AllOk s.l) (hv : Lies keptA w v s.l) (hn : s.l.length ≤ 1000000) (hl0 : 0 ≤ s.last) (hl1 : s.last ≤ 1000000) :
    Calls Try.prog 21 #[.agg #[v, .int .i64 s.last], .agg (cookieA c), .string site] w (NewKept (Sh.put s c site.data.toList).1 (.bool (Sh.put s c site.data.toList).2) w) := by
  have z1 := zeroKept
  have HV := Lib.hid hv
  have HOK := Lib.hid ho
  have HC := Lib.hid (show (Try.prog.info? 34).map (·.size) = some (cookieA c).size by rw [cookieA_size c hc]; exact infoCookie)
  have HAT := Lib.hid (fun W hW => refAt_calls s c hc v W ho hW hn)
  obtain ⟨A, cp, rfl, hcp, _⟩ := hv
  obtain ⟨n, hnn⟩ : ∃ n, s.l.length = n := ⟨_, rfl⟩
  have HNN := Lib.hid hnn
  rw [hnn] at hn hcp HV HAT ⊢
  have hN : (w.alloc (.cells #[Value.slice A n cp, .int .i64 s.last] 28)).heap.size = w.heap.size + 1 := by simp
  have hN2 : ((w.alloc (.cells #[Value.slice A n cp, .int .i64 s.last] 28)).alloc (.cells (cookieA c) 34)).heap.size = w.heap.size + 2 := by simp
  have R0 := ((Row.new w 28 #[Value.slice A n cp, .int .i64 s.last]).alloc (.cells (cookieA c) 34)).alloc (.cells #[.slice none 0 0, .int .i64 0] 28)
  have K0 := (Row.new (w.alloc (.cells #[Value.slice A n cp, .int .i64 s.last] 28)) 34 (cookieA c)).alloc (.cells #[.slice none 0 0, .int .i64 0] 28)
  have O0 := Row.new ((w.alloc (.cells #[Value.slice A n cp, .int .i64 s.last] 28)).alloc (.cells (cookieA c) 34)) 28 #[.slice none 0 0, .int .i64 0]
  rw [hN] at K0
  rw [hN2] at O0
  have C0 := (((Below.refl w.heap.size w).alloc (Nat.le_refl _) (.cells #[Value.slice A n cp, .int .i64 s.last] 28)).alloc (by rw [hN]; omega) (.cells (cookieA c) 34)).alloc (by rw [hN2]; omega) (.cells #[.slice none 0 0, .int .i64 0] 28)
  have HSI : Hid ((Try.prog.info? 28).map (·.size) = some #[Value.slice A n cp, .int .i64 s.last].size) := Lib.hid zeroRefShelf
  have HS1 : Hid (#[Value.slice A n cp, .int .i64 s.last].all (·.oneCell') = true) := Lib.hid (by simp [Value.oneCell'])
  clear hN hN2 ho hnn
  have HKA := Lib.hid (keptA_sizes HOK.out)
  have HKO := Lib.hid (show ∀ x ∈ s.l, (keptA x).all (·.oneCell') = true from fun x _ => keptA_one x)
  cases hpl : Sh.place s c with
  | some i =>
    obtain ⟨k0, hk, hkey, _⟩ := Sh.place_some hpl
    have hil := (List.getElem?_eq_some_iff.1 hk).1
    rw [HNN.out] at hil
    have ko := HOK.out k0 (List.mem_of_getElem? hk)
    have hpi : Sh.placeI s c = (i : Int) := by unfold Sh.placeI; rw [hpl]
    rw [hpi] at HAT
    have HKI := Lib.hid hk
    obtain ⟨CN, hCN⟩ : ∃ CN : Ma.Cookie, CN = { c with born := k0.c.born, seq := k0.c.seq } := ⟨_, rfl⟩
    obtain ⟨KN, hKN⟩ : ∃ KN : Sh.Kept, KN = ⟨CN, site.data.toList⟩ := ⟨_, rfl⟩
    have hca : CN.host.addr.length = 16 := by rw [hCN]; exact hc
    have hka : KN.c.host.addr.length = 16 := by rw [hKN]; exact hca
    have hu : Sh.put s c site.data.toList = (⟨s.l.set i KN, s.last⟩, true) := by
      unfold Sh.put
      rw [hpl]
      dsimp only
      rw [modify_set HKI.out, hKN, hCN]
      rfl
    have HEND : Hid (∀ W u, W.ownsRow (w.heap.size + 3) 59 30 u (s.l.set i KN).length (flat keptA (s.l.set i KN)) → Below w.heap.size w W → NewKept (Sh.put s c site.data.toList).1 (.bool (Sh.put s c site.data.toList).2) w (.returned (.tuple #[.agg #[u, .int .i64 s.last], .bool true])) W) := Lib.hid (fun W u hO hb => by
      rw [hu]
      exact ⟨u, rfl, lies_own hO, hb⟩)
    generalize NewKept (Sh.put s c site.data.toList).1 (.bool (Sh.put s c site.data.toList).2) w = post at *
    have HSET : Hid (((cookieA c).setIfInBounds 26 (.int .i64 k0.c.born)).setIfInBounds 28 (.int .i64 k0.c.seq) = cookieA CN) := Lib.hid (by rw [hCN, cookieA_setBorn c hc]; exact cookieA_setSeq { c with born := k0.c.born } hc _)
    have HNI := Lib.hid (show (Try.prog.info? 34).map (·.size) = some (cookieA CN).size by rw [cookieA_size CN hca]; exact infoCookie)
    have HBK := Lib.hid (built_keptR CN hca site)
    rw [← hKN] at HBK
    have HUI := Lib.hid (show (Try.prog.info? 59).map (·.size) = some (keptA KN).size by rw [keptA_size KN hka]; exact infoKeptR)
    have HU1 := Lib.hid (keptA_one KN)
    have hi0 : (0 : Int) ≤ (i : Int) := by omega
    clear hu hpl hpi hk hkey hCN hKN
    have V0 := HV.out.stays C0
    have c00 : ((((w.alloc (.cells #[Value.slice A n cp, .int .i64 s.last] 28)).alloc (.cells (cookieA c) 34)).alloc (.cells #[.slice none 0 0, .int .i64 0] 28)).alloc (.cells #[] 59)).cell? ⟨w.heap.size, 0, none⟩ = some (.slice A n cp) := (R0.alloc (.cells #[] 59)).cell 0
    go_enter Try.func21, Try.ntmps21
    go_wp2_with (first
      | (refine at_slot 10 rfl ?_; generalize (((w.alloc (.cells #[Value.slice A n cp, .int .i64 s.last] 28)).alloc (.cells (cookieA c) 34)).alloc (.cells #[.slice none 0 0, .int .i64 0] 28)) = x0 at *; refine build_slice_none rfl rfl Try.underlying26 infoKeptR ?_)
      | (refine at_slot 13 rfl ?_; refine append_lies rfl _ _ rfl Try.underlying26 infoKeptZ (by kernel_rfl) (by decide) (by decide) rfl (own_empty (by decide)) rfl HKA.out HKO.out (V0.stays ((Below.refl _ _).alloc (Nat.le_refl _) (.cells #[] 59))) ?ca ?cb ?_))
    case ca => rw [HNN.out]; omega
    case cb => exact Nat.le_of_lt (by rw [size_allocS]; omega)
    intro v5 x5 ho5 hg5 _
    have hsz0 := C0.size
    have hoo := O0.lt
    have D5 : Below x0.heap.size x0 x5 := ((Below.refl _ x0).alloc (Nat.le_refl _) (.cells #[] 59)).grown hg5 (by rw [size_allocS]; omega) (fun b e => by
      have e := Option.some.inj e
      have e : x0.heap.size = b := e
      omega)
    have R5 := R0.stays D5
    have K5 := K0.stays D5
    have O5 := O0.stays D5
    have C5 := C0.trans (D5.mono C0.size)
    have hbo : ∀ b, v5.ownBlock = some b → w.heap.size + 2 < b ∧ b < x5.heap.size := fun b e => by have := ho5.lt b e; omega
    have ho6 : x5.ownsRow (w.heap.size + 3) 59 30 v5 s.l.length (flat keptA s.l) := own_mono (by simpa using ho5) (by omega)
    clear ho5 hg5 D5 R0 K0 O0 C0 V0 c00
    obtain ⟨A5, c5, rfl⟩ : ∃ A c, v5 = .slice A n c := by
      rcases ho6.2 with ⟨rfl, h0⟩ | ⟨g, cap, cur, rfl, _⟩
      · rw [HNN.out] at h0; exact ⟨none, 0, by rw [h0]⟩
      · rw [HNN.out]; exact ⟨_, _, rfl⟩
    go_wp2_with (first
      | (refine at_slot 14 rfl ?_; refine load_row rfl 28 _ rfl w.heap.size rfl R5 Try.underlying28 rfl HSI.out ?_)
      | (refine at_slot 15 rfl ?_; refine load_row rfl 34 _ rfl (w.heap.size + 1) rfl K5 Try.underlying34 rfl HC.out ?_))
    refine (HAT.out x5 (HV.out.stays C5)).mono ?_
    rintro e x7 ⟨rfl, d7⟩
    have R7 := R5.stays d7
    have K7 := K5.stays d7
    have O7 := O5.stays d7
    have C7 := C5.trans (d7.mono C5.size)
    have ho7 : x7.ownsRow (w.heap.size + 3) 59 30 (.slice A5 n c5) s.l.length (flat keptA s.l) := ho6.kept (below_grown d7) (by
      cases hv : (Value.slice A5 n c5).ownBlock
      · exact .inl rfl
      · exact .inr (by simp))
    clear R5 K5 O5 C5 d7 HAT ho6 hbo
    obtain ⟨g, cap, cur, new, hve, hBg, hcap, RG, hle, hnew, HOW⟩ := own_set (y := KN) HKA.out ho7 (by rw [HNN.out]; exact hil) (keptA_size KN hka)
    rw [HNN.out] at hve
    obtain ⟨rfl, _, rfl⟩ := Value.slice.inj hve
    have ho8 := ho7
    rw [HNN.out] at hcap ho7
    have hcells := (lies_own (xs := s.l) (by rw [HNN.out]; exact ho7)).one (n := 30) (g := g) (off := 0) (c := c5) HKA.out HKI.out
    have hb26 : (keptA k0)[26]? = some (.int .i64 k0.c.born) := keptA_cell (cookieA_born k0.c ko.addr)
    have hb28 : (keptA k0)[28]? = some (.int .i64 k0.c.seq) := keptA_cell (cookieA_seq k0.c ko.addr)
    have e26 : x7.cell? ⟨g, i * 30 + 26, none⟩ = some (.int .i64 k0.c.born) := by have := hcells 26 _ hb26; rw [Nat.zero_add] at this; exact this
    have e28 : x7.cell? ⟨g, i * 30 + 28, none⟩ = some (.int .i64 k0.c.seq) := by have := hcells 28 _ hb28; rw [Nat.zero_add] at this; exact this
    have hg0 : g ≠ w.heap.size := by omega
    have hg1 : g ≠ w.heap.size + 1 := by omega
    have hg2 : g ≠ w.heap.size + 2 := by omega
    generalize k0.c.born = vb at *
    generalize k0.c.seq = vs at *
    have q26 := K7.free 26
    have q28 := K7.free 28
    have p26 := (K7.cell 26).trans (cookieA_born c hc)
    have p28 := (K7.cell 28).trans (cookieA_seq c hc)
    have K8 := K7.set 26 (.int .i64 vb)
    have R8 := R7.other (p := ⟨w.heap.size + 1, 26, none⟩) (show w.heap.size ≠ w.heap.size + 1 by omega) (.int .i64 vb)
    have O8 := O7.other (p := ⟨w.heap.size + 1, 26, none⟩) (show w.heap.size + 2 ≠ w.heap.size + 1 by omega) (.int .i64 vb)
    have G8 := RG.other (p := ⟨w.heap.size + 1, 26, none⟩) hg1 (.int .i64 vb)
    have C8 := C7.setCell (p := ⟨w.heap.size + 1, 26, none⟩) (Nat.le_succ _) (.int .i64 vb)
    have f28 : (x7.setCell ⟨w.heap.size + 1, 26, none⟩ (.int .i64 vb)).cell? ⟨g, i * 30 + 28, none⟩ = some (.int .i64 vs) := (G8.cell _).trans ((RG.cell _).symm.trans e28)
    have K9 := K8.set 28 (.int .i64 vs)
    rw [HSET.out] at K9
    have R9 := R8.other (p := ⟨w.heap.size + 1, 28, none⟩) (show w.heap.size ≠ w.heap.size + 1 by omega) (.int .i64 vs)
    have O9 := O8.other (p := ⟨w.heap.size + 1, 28, none⟩) (show w.heap.size + 2 ≠ w.heap.size + 1 by omega) (.int .i64 vs)
    have G9 := G8.other (p := ⟨w.heap.size + 1, 28, none⟩) hg1 (.int .i64 vs)
    have C9 := C8.setCell (p := ⟨w.heap.size + 1, 28, none⟩) (Nat.le_succ _) (.int .i64 vs)
    have R10 := R9.aside (k := g) (Ne.symm hg0) new
    have O10 := O9.aside (k := g) (Ne.symm hg2) new
    have G10 := G9.whole new
    have C10 := below_setRow (g := g) C9 (by omega) new
    have O11 := O10.whole #[.slice (some ⟨g, 0, none⟩) n c5, .int .i64 s.last]
    have G11 := G10.aside (k := w.heap.size + 2) hg2 #[.slice (some ⟨g, 0, none⟩) n c5, .int .i64 s.last]
    have C11 := below_setRow (g := w.heap.size + 2) C10 (by omega) #[.slice (some ⟨g, 0, none⟩) n c5, .int .i64 s.last]
    have c81 : World.cell? _ ⟨w.heap.size, 1, none⟩ = some (.int .i64 s.last) := R10.cell 1
    have hown9 := HOW _ G11
    have HE := Lib.hid (HEND.out _ _ hown9 C11)
    have HBD := Lib.hid (built_refShelf (some ⟨g, 0, none⟩) n c5 s.last)
    have HLE := Lib.hid hle
    have HNE := Lib.hid hnew
    clear hown9 HEND C11 G11 G10 HOW RG hle hnew hcells hb26 hb28 e28 ho8 ho7 K8 R8 O8 G8 C8 R9 O9 C9 R7 O7 C7 K7
    go_wp2_with (first
      | (refine at_slot 35 rfl ?_; refine load_row rfl 34 _ rfl (w.heap.size + 1) rfl K9 Try.underlying34 rfl HNI.out ?_)
      | (refine at_slot 37 rfl ?_; refine build_two rfl 59 0 1 _ _ rfl _ _ rfl rfl (keptA KN) HBK.out ?_)
      | (refine at_store 59 (.tmp 38) (.tmp 37) rfl ?_; refine store_part rfl 59 _ _ rfl g (i * 30) (keptA KN) rfl rfl 59 cur G9 HUI.out HLE.out HU1.out new HNE.out ?_)
      | (refine at_slot 42 rfl ?_; refine build_two rfl 28 0 1 _ _ rfl _ _ rfl rfl #[.slice (some ⟨g, 0, none⟩) n c5, .int .i64 s.last] HBD.out ?_)
      | (refine at_store 28 (.tmp 6) (.tmp 42) rfl ?_; refine wpList_store_row rfl 28 _ _ rfl (w.heap.size + 2) #[.slice (some ⟨g, 0, none⟩) n c5, .int .i64 s.last] rfl rfl 28 _ O10 zeroRefShelf rfl (by simp [Value.oneCell']) ?_))
    exact bodyPost_ret (v := .tuple #[.agg #[.slice (some ⟨g, 0, none⟩) n c5, .int .i64 s.last], .bool true]) (results_cell_two rfl _ _ (w.heap.size + 2) _ _ _ rfl _ rfl O11 Try.underlying28 rfl zeroRefShelf) rfl HE.out
  | none =>
    have hpi : Sh.placeI s c = -1 := by unfold Sh.placeI; rw [hpl]
    rw [hpi] at HAT
    obtain ⟨CN, hCN⟩ : ∃ CN : Ma.Cookie, CN = { c with seq := s.last + 1 } := ⟨_, rfl⟩
    obtain ⟨KN, hKN⟩ : ∃ KN : Sh.Kept, KN = ⟨CN, site.data.toList⟩ := ⟨_, rfl⟩
    have hca : CN.host.addr.length = 16 := by rw [hCN]; exact hc
    have hka : KN.c.host.addr.length = 16 := by rw [hKN]; exact hca
    have hu : Sh.put s c site.data.toList = (⟨s.l ++ [KN], s.last + 1⟩, false) := by
      unfold Sh.put
      rw [hpl]
      dsimp only
      rw [hKN, hCN]
    have HEND : Hid (∀ W u, W.ownsRow (w.heap.size + 3) 59 30 u (n + 1) (flat keptA s.l ++ flat keptA [KN]) → Below w.heap.size w W → NewKept (Sh.put s c site.data.toList).1 (.bool (Sh.put s c site.data.toList).2) w (.returned (.tuple #[.agg #[u, .int .i64 (s.last + 1)], .bool false])) W) := Lib.hid (fun W u hO hb => by
      rw [hu]
      refine ⟨u, rfl, lies_own (n := 30) (B := w.heap.size + 3) (t := 59) ?_, hb⟩
      dsimp only
      rw [flat_append, List.length_append, HNN.out]
      exact hO)
    generalize NewKept (Sh.put s c site.data.toList).1 (.bool (Sh.put s c site.data.toList).2) w = post at *
    have HSET : Hid ((cookieA c).setIfInBounds 28 (.int .i64 (s.last + 1)) = cookieA CN) := Lib.hid (by rw [hCN]; exact cookieA_setSeq c hc _)
    have HNI := Lib.hid (show (Try.prog.info? 34).map (·.size) = some (cookieA CN).size by rw [cookieA_size CN hca]; exact infoCookie)
    have HBK := Lib.hid (built_keptR CN hca site)
    rw [← hKN] at HBK
    have HUS := Lib.hid (show ∀ x ∈ [KN], (keptA x).size = 30 from fun x hx => by rw [List.mem_singleton.1 hx]; exact keptA_size KN hka)
    have HUO := Lib.hid (show ∀ x ∈ [KN], (keptA x).all (·.oneCell') = true from fun x _ => keptA_one x)
    have HU30 := Lib.hid (keptA_size KN hka)
    clear hu hpl hpi hCN hKN
    have V0 := HV.out.stays C0
    have c00 : ((((w.alloc (.cells #[Value.slice A n cp, .int .i64 s.last] 28)).alloc (.cells (cookieA c) 34)).alloc (.cells #[.slice none 0 0, .int .i64 0] 28)).alloc (.cells #[] 59)).cell? ⟨w.heap.size, 0, none⟩ = some (.slice A n cp) := (R0.alloc (.cells #[] 59)).cell 0
    go_enter Try.func21, Try.ntmps21
    go_wp2_with (first
      | (refine at_slot 10 rfl ?_; generalize (((w.alloc (.cells #[Value.slice A n cp, .int .i64 s.last] 28)).alloc (.cells (cookieA c) 34)).alloc (.cells #[.slice none 0 0, .int .i64 0] 28)) = x0 at *; refine build_slice_none rfl rfl Try.underlying26 infoKeptR ?_)
      | (refine at_slot 13 rfl ?_; refine append_lies rfl _ _ rfl Try.underlying26 infoKeptZ (by kernel_rfl) (by decide) (by decide) rfl (own_empty (by decide)) rfl HKA.out HKO.out (V0.stays ((Below.refl _ _).alloc (Nat.le_refl _) (.cells #[] 59))) ?ca ?cb ?_))
    case ca => rw [HNN.out]; omega
    case cb => exact Nat.le_of_lt (by rw [size_allocS]; omega)
    intro v5 x5 ho5 hg5 _
    have hsz0 := C0.size
    have hoo := O0.lt
    have D5 : Below x0.heap.size x0 x5 := ((Below.refl _ x0).alloc (Nat.le_refl _) (.cells #[] 59)).grown hg5 (by rw [size_allocS]; omega) (fun b e => by
      have e := Option.some.inj e
      have e : x0.heap.size = b := e
      omega)
    have R5 := R0.stays D5
    have K5 := K0.stays D5
    have O5 := O0.stays D5
    have C5 := C0.trans (D5.mono C0.size)
    have hbo : ∀ b, v5.ownBlock = some b → w.heap.size + 2 < b ∧ b < x5.heap.size := fun b e => by have := ho5.lt b e; omega
    have ho6 : x5.ownsRow (w.heap.size + 3) 59 30 v5 s.l.length (flat keptA s.l) := own_mono (by simpa using ho5) (by omega)
    clear ho5 hg5 D5 R0 K0 O0 C0 V0 c00
    obtain ⟨A5, c5, rfl⟩ : ∃ A c, v5 = .slice A n c := by
      rcases ho6.2 with ⟨rfl, h0⟩ | ⟨g, cap, cur, rfl, _⟩
      · rw [HNN.out] at h0; exact ⟨none, 0, by rw [h0]⟩
      · rw [HNN.out]; exact ⟨_, _, rfl⟩
    go_wp2_with (first
      | (refine at_slot 14 rfl ?_; refine load_row rfl 28 _ rfl w.heap.size rfl R5 Try.underlying28 rfl HSI.out ?_)
      | (refine at_slot 15 rfl ?_; refine load_row rfl 34 _ rfl (w.heap.size + 1) rfl K5 Try.underlying34 rfl HC.out ?_))
    refine (HAT.out x5 (HV.out.stays C5)).mono ?_
    rintro e x7 ⟨rfl, d7⟩
    have R7 := R5.stays d7
    have K7 := K5.stays d7
    have O7 := O5.stays d7
    have C7 := C5.trans (d7.mono C5.size)
    have ho7 : x7.ownsRow (w.heap.size + 3) 59 30 (.slice A5 n c5) s.l.length (flat keptA s.l) := ho6.kept (below_grown d7) (by
      cases hv : (Value.slice A5 n c5).ownBlock
      · exact .inl rfl
      · exact .inr (by simp))
    clear R5 K5 O5 C5 d7 HAT ho6 hbo
    have q28 := K7.free 28
    have p28 := (K7.cell 28).trans (cookieA_seq c hc)
    have c71 : x7.cell? ⟨w.heap.size, 1, none⟩ = some (.int .i64 s.last) := R7.cell 1
    have K8 := K7.set 28 (.int .i64 (s.last + 1))
    rw [HSET.out] at K8
    have R8 := R7.other (p := ⟨w.heap.size + 1, 28, none⟩) (show w.heap.size ≠ w.heap.size + 1 by omega) (.int .i64 (s.last + 1))
    have O8 := O7.other (p := ⟨w.heap.size + 1, 28, none⟩) (show w.heap.size + 2 ≠ w.heap.size + 1 by omega) (.int .i64 (s.last + 1))
    have C8 := C7.setCell (p := ⟨w.heap.size + 1, 28, none⟩) (Nat.le_succ _) (.int .i64 (s.last + 1))
    have ho8 := ho7.kept (grownBy_cellS x7 (w.heap.size + 1) 28 (.int .i64 (s.last + 1))) (by
      cases hv : (Value.slice A5 n c5).ownBlock with
      | none => exact .inl rfl
      | some b => exact .inr (fun e => by have := (ho7.lt b hv).1; have := Option.some.inj e; omega))
    clear K7 R7 O7 C7 ho7
    go_wp2_with fail
    generalize x7.setCell ⟨w.heap.size + 1, 28, none⟩ (.int .i64 (s.last + 1)) = x8 at *
    rw [HNN.out] at ho8
    have hwr : IntKind.i64.wrap (s.last + 1) = s.last + 1 := by rw [IntKind.wrap_i64]; omega
    have ho9 : x8.drew.ownsRow (w.heap.size + 3) 59 30 (.slice A5 n c5) n (flat keptA s.l) := ho8
    have O9 := O8.drew
    have C9 := C8.drew
    refine wp_region_held_drew (S := (fun W => Row W w.heap.size 28 #[Value.slice A n cp, .int .i64 s.last] ∧ Row W (w.heap.size + 1) 34 (cookieA CN))) (by kernel_rfl) ⟨R8.drew, K8.drew⟩ (fun hS => ?_)
    generalize x8.drew = u0 at *
    have hu0 := O9.lt
    clear ho8 O8 C8 R8 K8
    refine wpAnyH_take (i := 0) (v := ?_) rfl (by kernel_rfl) (by kernel_rfl) (by kernel_rfl) (fun _ _ _ h => h) (Or.inl ⟨by rfl, ?_⟩) (by assumption) ?_
    rotate_left
    · intro _ _; go_simp; with_reducible rfl
    simp only [Act.put, List.setIfInBounds_toArray, List.set_cons_zero, List.set_cons_succ, List.getElem_toArray, List.getElem_cons_zero]
    refine wpAnyH_take (i := 1) rfl (by kernel_rfl) (by kernel_rfl) (by kernel_rfl) (fun _ _ _ h => h) (yields_row (by rfl) _ _ rfl _ rfl (fun W hW => hW.2) Try.underlying34 rfl HNI.out) (by assumption) ?_
    simp only [Act.put, List.setIfInBounds_toArray, List.set_cons_zero, List.set_cons_succ, List.getElem_toArray, List.getElem_cons_zero, List.getElem_cons_succ]
    refine wpAnyH_take (i := 2) (v := ?_) rfl (by kernel_rfl) (by kernel_rfl) (by kernel_rfl) (fun _ _ _ h => h) (Or.inl ⟨by rfl, ?_⟩) (by assumption) ?_
    rotate_left
    · intro _ _; go_simp; with_reducible rfl
    simp only [Act.put, List.setIfInBounds_toArray, List.set_cons_zero, List.set_cons_succ, List.getElem_toArray, List.getElem_cons_zero, List.getElem_cons_succ]
    refine wpAnyH_take (i := 3) rfl (by kernel_rfl) (by kernel_rfl) (by kernel_rfl) (fun _ _ _ h => h) (yields_built2 (by rfl) 59 0 1 (.tmp 48) (.tmp 49) rfl (.agg (cookieA CN)) (.string site) rfl rfl (keptA KN) HBK.out) (by assumption) ?_
    simp only [Act.put, List.setIfInBounds_toArray, List.set_cons_zero, List.set_cons_succ, List.getElem_toArray, List.getElem_cons_zero, List.getElem_cons_succ]
    refine wpAnyH_take (i := 6) (v := ?_) rfl (by kernel_rfl) (by kernel_rfl) (by kernel_rfl) (fun _ _ _ h => h) (Or.inl ⟨by rfl, ?_⟩) (by assumption) ?_
    rotate_left
    · intro _ _; go_simp; with_reducible rfl
    simp only [Act.put, List.setIfInBounds_toArray, List.set_cons_zero, List.set_cons_succ, List.getElem_toArray, List.getElem_cons_zero, List.getElem_cons_succ]
    refine wpAnyH_take (i := 7) (v := .int .i64 s.last) rfl (by kernel_rfl) (by kernel_rfl) (by kernel_rfl) (fun _ _ _ h => h) (Or.inl ⟨by rfl, fun wq hC => by have hcell := (show wq.cell? ⟨w.heap.size, 1, none⟩ = some (.int .i64 s.last) by rw [hC.1.cell]; rfl); go_simp; try with_reducible rfl⟩) (by assumption) ?_
    simp only [Act.put, List.setIfInBounds_toArray, List.set_cons_zero, List.set_cons_succ, List.getElem_toArray, List.getElem_cons_zero, List.getElem_cons_succ]
    refine wpAnyH_take (i := 8) (v := ?_) rfl (by kernel_rfl) (by kernel_rfl) (by kernel_rfl) (fun _ _ _ h => h) (Or.inl ⟨by rfl, ?_⟩) (by assumption) ?_
    rotate_left
    · intro _ _; go_simp; with_reducible rfl
    simp only [Act.put, List.setIfInBounds_toArray, List.set_cons_zero, List.set_cons_succ, List.getElem_toArray, List.getElem_cons_zero, List.getElem_cons_succ]
    refine wpAnyH_ready (rs := [4]) (by kernel_rfl) (by simp) (AllReadyH.cons rfl (fun K hK => ?_) AllReadyH.nil)
    rw [if_pos (by rfl)]
    refine wp_build_one (.tmp 50) rfl (keptA KN) rfl Try.underlying26 infoKeptZ HU30.out (by decide) (by decide) ?_
    have S1 : Row (u0.alloc (.cells (keptA KN) 59)) w.heap.size 28 #[Value.slice A n cp, .int .i64 s.last] ∧ Row (u0.alloc (.cells (keptA KN) 59)) (w.heap.size + 1) 34 (cookieA CN) := ⟨hS.1.alloc _, hS.2.alloc _⟩
    refine hK.out _ _ S1 (fun _ => ?_)
    clear hK K
    have NR := Row.new u0 59 (keptA KN)
    have O10 := O9.alloc (.cells (keptA KN) 59)
    have C10 := C9.alloc C9.size (.cells (keptA KN) 59)
    have ho10 := ho9.alloc (.cells (keptA KN) 59)
    generalize hu1 : u0.alloc (.cells (keptA KN) 59) = u1 at *
    have hs1 : u1.heap.size = u0.heap.size + 1 := by rw [← hu1]; simp
    generalize u0.heap.size = g0 at *
    simp only [Act.put, List.setIfInBounds_toArray, List.set_cons_zero, List.set_cons_succ, List.getElem_toArray, List.getElem_cons_zero, List.getElem_cons_succ]
    refine wpAnyH_ready (rs := [5]) (by kernel_rfl) (by simp) (AllReadyH.cons rfl (fun K hK => ?_) AllReadyH.nil)
    rw [if_pos (by rfl)]
    refine wp_append_lies (.tmp 47) (.tmp 51) rfl Try.underlying26 infoKeptZ (by kernel_rfl) (by decide) (by decide) rfl ho10 rfl HUS.out HUO.out (lies_single NR) (by simp; omega) (by omega) ?_
    intro v6 u2 ho11 hg6 _
    have hnb : ∀ b, (Value.slice A5 n c5).ownBlock = some b → w.heap.size + 3 ≤ b := fun b e => (ho10.lt b e).1
    have S2 : Row u2 w.heap.size 28 #[Value.slice A n cp, .int .i64 s.last] ∧ Row u2 (w.heap.size + 1) 34 (cookieA CN) :=
      ⟨(hg6.block _ S1.1.lt (fun e => by have := hnb _ e.symm; omega)).trans S1.1, (hg6.block _ S1.2.lt (fun e => by have := hnb _ e.symm; omega)).trans S1.2⟩
    have O11 : Row u2 (w.heap.size + 2) 28 #[.slice none 0 0, .int .i64 0] := (hg6.block _ O10.lt (fun e => by have := hnb _ e.symm; omega)).trans O10
    have C11 := C10.grown hg6 C10.size (fun b e => by have := hnb b e; omega)
    obtain ⟨A6, c6, rfl⟩ : ∃ A c, v6 = .slice A (n + 1) c := by
      rcases ho11.2 with ⟨rfl, h0⟩ | ⟨g, cap, cur, rfl, _⟩
      · simp at h0
      · exact ⟨_, _, rfl⟩
    refine hK.out _ _ S2 (fun _ => ?_)
    clear hK K
    simp only [Act.put, List.setIfInBounds_toArray, List.set_cons_zero, List.set_cons_succ, List.getElem_toArray, List.getElem_cons_zero, List.getElem_cons_succ]
    have HBD := Lib.hid (built_refShelf A6 (n + 1) c6 (s.last + 1))
    refine wpAnyH_take (i := 9) rfl (by kernel_rfl) (by kernel_rfl) (by kernel_rfl) (fun _ _ _ h => h) (yields_built2 (by rfl) 28 0 1 (.tmp 52) (.tmp 55) rfl (.slice A6 (n + 1) c6) (.int .i64 (s.last + 1)) rfl rfl #[.slice A6 (n + 1) c6, .int .i64 (s.last + 1)] HBD.out) (by assumption) ?_
    simp only [Act.put, List.setIfInBounds_toArray, List.set_cons_zero, List.set_cons_succ, List.getElem_toArray, List.getElem_cons_zero, List.getElem_cons_succ]
    refine wpAnyH_ready (rs := [10]) (by kernel_rfl) (by simp) (AllReadyH.cons rfl (fun K hK => ?_) AllReadyH.nil)
    rw [if_pos (by rfl)]
    refine wp_store_row 28 _ _ rfl (w.heap.size + 2) #[.slice A6 (n + 1) c6, .int .i64 (s.last + 1)] rfl rfl 28 _ O11 zeroRefShelf rfl (by simp [Value.oneCell']) ?_
    have S3 : Row (u2.setRow (w.heap.size + 2) #[.slice A6 (n + 1) c6, .int .i64 (s.last + 1)]) w.heap.size 28 #[Value.slice A n cp, .int .i64 s.last] ∧ Row (u2.setRow (w.heap.size + 2) #[.slice A6 (n + 1) c6, .int .i64 (s.last + 1)]) (w.heap.size + 1) 34 (cookieA CN) := ⟨S2.1.aside (by omega) _, S2.2.aside (by omega) _⟩
    have O12 := O11.whole #[.slice A6 (n + 1) c6, .int .i64 (s.last + 1)]
    have C12 := below_setRow (g := w.heap.size + 2) C11 (by omega) #[.slice A6 (n + 1) c6, .int .i64 (s.last + 1)]
    have ho12 := ho11.kept (grownBy_rowS u2 (w.heap.size + 2) #[.slice A6 (n + 1) c6, .int .i64 (s.last + 1)]) (by
      cases hv : (Value.slice A6 (n + 1) c6).ownBlock with
      | none => exact .inl rfl
      | some b => exact .inr (fun e => by have := (ho11.lt b hv).1; have := Option.some.inj e; omega))
    refine hK.out _ _ S3 (fun _ => ?_)
    clear hK K
    have HE := Lib.hid (HEND.out _ _ ho12 C12)
    refine wpAnyH_take (i := 11) (v := ?_) rfl (by kernel_rfl) (by kernel_rfl) (by kernel_rfl) (fun _ _ _ h => h) (Or.inl ⟨by rfl, ?_⟩) (by assumption) ?_
    rotate_left
    · intro _ _; go_simp; with_reducible rfl
    simp only [Act.put, List.setIfInBounds_toArray, List.set_cons_zero, List.set_cons_succ, List.getElem_toArray, List.getElem_cons_zero, List.getElem_cons_succ]
    refine wpAnyH_done (by kernel_rfl) ?_ _
    go_wp2_with fail
    exact bodyPost_ret (v := .tuple #[.agg #[.slice A6 (n + 1) c6, .int .i64 (s.last + 1)], .bool false]) (results_cell_two rfl _ _ (w.heap.size + 2) _ _ _ rfl _ rfl O12 Try.underlying28 rfl zeroRefShelf) rfl HE.out
end Go.Proofs.Ytnepgibjijdheaa
