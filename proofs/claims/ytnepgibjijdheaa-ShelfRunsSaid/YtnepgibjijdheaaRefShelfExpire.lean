/- The walk of the reference's Expire of a shelf. -/
import Derived.Test.YtnepgibjijdheaaRefShelfAt
import Derived.Test.YtnepgibjijdheaaShelfAll
import Derived.Test.YtnepgibjijdheaaShelfOldest
namespace Go.Proofs.Ytnepgibjijdheaa
open Go.RowKit
/-- A new list of the reference's, and what else is answered. -/
def NewKept (s : Sh.Shelf) (u : Value) (w : World) (e : Ending) (w' : World) : Prop :=
  ∃ v, e = .returned (.tuple #[.agg #[v, .int .i64 s.last], u]) ∧ Lies keptA w' v s.l ∧ Below w.heap.size w w'
theorem zeroRefShelf : (Try.prog.info? 28).map (·.size) = some 2 := by kernel_rfl
set_option maxRecDepth 100000 in
set_option maxHeartbeats 4000000 in
theorem refExpire_calls (s : Sh.Shelf) (now : Int) (v : Value) (w : World) (ho : AllOk s.l) (hv : Lies keptA w v s.l) (hn : s.l.length ≤ 1000000) :
    Calls Try.prog 24 #[.agg #[v, .int .i64 s.last], .int .i64 now] w (NewKept (Sh.expire s now).1 (.int .i64 ((Sh.expire s now).2 : Int)) w) := by
  have z1 := zeroKept
  have HV := Lib.hid hv
  have HOK := Lib.hid ho
  obtain ⟨A, cp, rfl, hcp, _⟩ := hv
  obtain ⟨x1, x2, _⟩ := Sh.expire_is s now
  have x3 : (Sh.expire s now).2 = s.l.length - (s.l.filter (Sh.alive now)).length := rfl
  have HEND : Hid (∀ k W u m, k = s.l.length → m = ((s.l.take k).filter (Sh.alive now)).length → W.ownsRow (w.heap.size + 2) 59 30 u m (flat keptA ((s.l.take k).filter (Sh.alive now))) → Below w.heap.size w W → NewKept (Sh.expire s now).1 (.int .i64 ((Sh.expire s now).2 : Int)) w (.returned (.tuple #[.agg #[u, .int .i64 s.last], .int .i64 ((s.l.length : Int) - (m : Int))])) W) := Lib.hid (fun k W u m hk hm hO hb => by
    rw [hk, List.take_length] at hO hm
    refine ⟨u, ?_, ?_, hb⟩
    · rw [x2, x3, hm]
      have := List.length_filter_le (Sh.alive now) s.l
      rw [Int.ofNat_sub this]
    · rw [x1]
      refine lies_own (n := 30) (B := w.heap.size + 2) (t := 59) ?_
      rw [← hm]
      exact hO)
  generalize NewKept (Sh.expire s now).1 (.int .i64 ((Sh.expire s now).2 : Int)) w = post at *
  clear x1 x2 x3
  have HLE : Hid (∀ k, ((s.l.take k).filter (Sh.alive now)).length ≤ 1000000) := Lib.hid (fun k => by
    have h2 := List.length_filter_le (Sh.alive now) (s.l.take k)
    rw [List.length_take] at h2
    omega)
  have HLS : Hid (∀ k, k ≤ s.l.length → ((s.l.take k).filter (Sh.alive now)).length ≤ k) := Lib.hid (fun k hk => by
    have h2 := List.length_filter_le (Sh.alive now) (s.l.take k)
    rw [List.length_take] at h2
    omega)
  obtain ⟨n, hnn⟩ : ∃ n, s.l.length = n := ⟨_, rfl⟩
  have HNN := Lib.hid hnn
  rw [hnn] at hn hcp HV HEND HLS ⊢
  have C0 := (Below.refl w.heap.size w).alloc (Nat.le_refl _) (.cells #[.slice A n cp, .int .i64 s.last] 28)
  have hN : (w.alloc (.cells #[.slice A n cp, .int .i64 s.last] 28)).heap.size = w.heap.size + 1 := by simp
  have hN2 : ((w.alloc (.cells #[.slice A n cp, .int .i64 s.last] 28)).alloc (.cells #[.slice none 0 0, .int .i64 0] 28)).heap.size = w.heap.size + 2 := by simp
  have C1 := (C0.alloc C0.size (.cells #[.slice none 0 0, .int .i64 0] 28))
  have C2 := C1.alloc C1.size (.cells #[] 59)
  have R0 := ((Row.new w 28 #[.slice A n cp, .int .i64 s.last]).alloc (.cells #[.slice none 0 0, .int .i64 0] 28)).alloc (.cells #[] 59)
  have O0 := (Row.new (w.alloc (.cells #[.slice A n cp, .int .i64 s.last] 28)) 28 #[.slice none 0 0, .int .i64 0]).alloc (.cells #[] 59)
  rw [hN] at O0
  have E0 := own_empty (w := (w.alloc (.cells #[.slice A n cp, .int .i64 s.last] 28)).alloc (.cells #[.slice none 0 0, .int .i64 0] 28)) (E := 59) (n := 30) (by decide)
  rw [hN2] at E0
  have c0 : (((w.alloc (.cells #[.slice A n cp, .int .i64 s.last] 28)).alloc (.cells #[.slice none 0 0, .int .i64 0] 28)).alloc (.cells #[] 59)).cell? ⟨w.heap.size, 0, none⟩ = some (.slice A n cp) := R0.cell 0
  have hsz : w.heap.size + 2 ≤ (((w.alloc (.cells #[.slice A n cp, .int .i64 s.last] 28)).alloc (.cells #[.slice none 0 0, .int .i64 0] 28)).alloc (.cells #[] 59)).heap.size := by simp
  clear hnn ho hN hN2 C0 C1
  go_enter Try.func24, Try.ntmps24
  go_wp2_with fail
  go_loopw [6, 13] (fun u i wr => ∃ (k : Nat) (v : Value), v = u ∧ k ≤ n ∧ i = .int .i64 (k : Int) ∧ wr.ownsRow (w.heap.size + 2) 59 30 v ((s.l.take k).filter (Sh.alive now)).length (flat keptA ((s.l.take k).filter (Sh.alive now))) ∧ Below w.heap.size w wr ∧ w.heap.size + 2 ≤ wr.heap.size ∧ Row wr w.heap.size 28 #[.slice A n cp, .int .i64 s.last] ∧ Row wr (w.heap.size + 1) 28 #[.slice none 0 0, .int .i64 0]) (fun _ i _ => n - (intOf i).toNat)
  case atStart => exact ⟨0, _, rfl, Nat.zero_le _, rfl, E0, C2, hsz, R0, O0⟩
  case round =>
    obtain ⟨k, v, rfl, hk, rfl, hown, hb, hsz2, hR, hO⟩ := hrel
    clear C2 c0 E0 hsz R0 O0
    have hle := HLE.out k
    by_cases hlt : k < n
    · obtain ⟨x, hx⟩ : ∃ x, s.l[k]? = some x := ⟨_, List.getElem?_eq_getElem (by rw [HNN.out]; exact hlt)⟩
      have hxm := List.mem_of_getElem? hx
      have ko := HOK.out x hxm
      have hv2 := HV.out.stays hb
      have hcc := hv2.block.2.1
      obtain ⟨g, off, rfl, hg⟩ := hv2.block.2.2 (by rw [HNN.out]; omega)
      rw [← HNN.out] at hv2
      have HCE := Lib.hid (hv2.one (keptA_sizes HOK.out) hx)
      have HXI := Lib.hid hx
      obtain ⟨X, hX⟩ : ∃ X, keptA x = X := ⟨_, rfl⟩
      rw [hX] at HCE
      have HXN := Lib.hid (show (Try.prog.info? 59).map (·.size) = some X.size by rw [← hX, keptA_size _ ko.addr]; exact infoKeptR)
      have HXZ := Lib.hid (show (keptA Sh.zeroK).size = X.size by rw [← hX, keptA_size _ ko.addr]; rfl)
      have HX1 := Lib.hid (show X.all (·.oneCell') = true by rw [← hX]; exact keptA_one _)
      have HX30 := Lib.hid (show X.size = 30 by rw [← hX, keptA_size _ ko.addr])
      obtain ⟨Z, U, D, L⟩ := lay_row 59 (keptA Sh.zeroK) X (Below.refl wr.heap.size wr) (Nat.le_refl _)
      have b2 := hb.trans (D.mono hb.size)
      have hX25 : X[25]? = some (.int .i64 x.c.expires) := by rw [← hX]; exact keptA_cell (cookieA_expires x.c ko.addr)
      have u25 := (U.cell 25).trans hX25
      have R2 := L _ _ _ hR
      have O2 := L _ _ _ hO
      have hown3 := hown.kept (below_grown D) (by
        cases hv : v.ownBlock
        · exact .inl rfl
        · exact .inr (by simp))
      have hsz3 : w.heap.size + 2 ≤ ((wr.alloc (.cells (keptA Sh.zeroK) 59)).setRow wr.heap.size X).heap.size := by have := D.size; omega
      have HFN : Hid ((s.l.take (k + 1)).filter (Sh.alive now) = (s.l.take k).filter (Sh.alive now) ++ (if Sh.alive now x then [x] else [])) := Lib.hid (by
        rw [List.take_add_one, hx, List.filter_append]; cases h : Sh.alive now x <;> simp [h])
      have HAL : Hid (Sh.alive now x = decide (now < x.c.expires)) := Lib.hid rfl
      have HXS := Lib.hid (show ∀ c ∈ [x], (keptA c).size = 30 from fun c hc => by rw [List.mem_singleton.1 hc]; exact keptA_size _ ko.addr)
      have HXO := Lib.hid (show ∀ c ∈ [x], (keptA c).all (·.oneCell') = true from fun c _ => keptA_one c)
      have HRY : Hid (∀ W : World, Row (W.alloc (.cells X 59)) W.heap.size 59 (keptA x)) := Lib.hid (fun W => by rw [hX]; exact Row.new W _ _)
      clear L D hx hv2 hX hX25 hb hown hR hO
      generalize x.c.expires = ex at *
      by_cases hq : now < ex
      · rw [decide_eq_true hq] at HAL
        have HF2 : Hid ((s.l.take (k + 1)).filter (Sh.alive now) = (s.l.take k).filter (Sh.alive now) ++ [x]) := Lib.hid (by rw [HFN.out, HAL.out]; rfl)
        clear HFN
        generalize (s.l.take k).filter (Sh.alive now) = FL at *
        obtain ⟨m, hm⟩ : ∃ m, FL.length = m := ⟨_, rfl⟩
        have HM := Lib.hid hm
        rw [hm] at hown3 hle
        clear hm
        obtain ⟨A2, c2, rfl⟩ : ∃ A c, v = .slice A m c := by
          rcases hown3.2 with ⟨rfl, h0⟩ | ⟨g, cap, cur, rfl, _⟩
          · exact ⟨none, 0, by rw [h0]⟩
          · exact ⟨_, _, rfl⟩
        go_wp2_with (first
          | (refine at_slot 16 rfl ?_; refine load_span rfl 59 _ rfl g (off + k * 30) rfl X HCE.out Try.underlying59 rfl HXN.out ?_)
          | (refine at_store 59 (.tmp 8) (.tmp 16) rfl ?_; refine wpList_store_row rfl 59 _ _ rfl wr.heap.size X rfl rfl 59 _ Z HXN.out HXZ.out HX1.out ?_)
          | (refine at_slot 23 rfl ?_; refine load_row rfl 59 _ rfl wr.heap.size rfl U Try.underlying59 rfl HXN.out ?_)
          | (refine at_slot 24 rfl ?_; generalize (World.setRow _ wr.heap.size X) = x3 at *; refine build_slice_one rfl _ rfl X rfl Try.underlying26 infoKeptZ HX30.out (by decide) (by decide) ?_)
          | (refine at_slot 25 rfl ?_; refine append_lies rfl _ _ rfl Try.underlying26 infoKeptZ (by kernel_rfl) (by decide) (by decide) rfl (hown3.alloc _) rfl HXS.out HXO.out (lies_single (HRY.out _)) ?ca ?cb ?_))
        case ca => first | omega | (simp; omega)
        case cb => first | omega | (simp; omega)
        intro v' x5 ho5 hg5 hat5
        have C5 := (b2.alloc b2.size (.cells X 59)).grown hg5 (by have := b2.size; rw [size_allocS]; omega) (fun b e => by have := (hown3.lt b e).1; omega)
        have hnb : ∀ b, (Value.slice A2 m c2).ownBlock = some b → w.heap.size + 2 ≤ b := fun b e => (hown3.lt b e).1
        have R5 := (hg5.block _ (R2.alloc (.cells X 59)).lt (fun e => by have := hnb _ e.symm; omega)).trans (R2.alloc (.cells X 59))
        have O5 := (hg5.block _ (O2.alloc (.cells X 59)).lt (fun e => by have := hnb _ e.symm; omega)).trans (O2.alloc (.cells X 59))
        have ho6 : x5.ownsRow (w.heap.size + 2) 59 30 v' ((s.l.take (k + 1)).filter (Sh.alive now)).length (flat keptA ((s.l.take (k + 1)).filter (Sh.alive now))) := by
          rw [HF2.out, flat_append, List.length_append, HM.out]; exact ho5
        have hsz5 : w.heap.size + 2 ≤ x5.heap.size := by have := hg5.size; rw [size_allocS] at this; omega
        clear ho5 hown3 hg5 hat5 b2 R2 O2
        go_wp2
        go_roundw
        case rel => exact ⟨k + 1, v', rfl, by omega, by go_num, ho6, C5, hsz5, R5, O5⟩
        case measure => simp [intOf]; omega
      · rw [decide_eq_false hq] at HAL
        have HF2 : Hid ((s.l.take (k + 1)).filter (Sh.alive now) = (s.l.take k).filter (Sh.alive now)) := Lib.hid (by rw [HFN.out, HAL.out]; simp)
        clear HFN
        go_wp2_with (first
          | (refine at_slot 16 rfl ?_; refine load_span rfl 59 _ rfl g (off + k * 30) rfl X HCE.out Try.underlying59 rfl HXN.out ?_)
          | (refine at_store 59 (.tmp 8) (.tmp 16) rfl ?_; refine wpList_store_row rfl 59 _ _ rfl wr.heap.size X rfl rfl 59 _ Z HXN.out HXZ.out HX1.out ?_))
        go_roundw
        case rel => exact ⟨k + 1, v, rfl, by omega, by go_num, by rw [HF2.out]; exact hown3, b2, hsz3, R2, O2⟩
        case measure => simp [intOf]; omega
    · obtain rfl : k = n := by omega
      obtain ⟨m, hm⟩ : ∃ m, ((s.l.take k).filter (Sh.alive now)).length = m := ⟨_, rfl⟩
      rw [hm] at hown
      have hmk : m ≤ k := by rw [← hm]; exact HLS.out k (Nat.le_refl _)
      obtain ⟨A2, c2, rfl⟩ : ∃ A c, v = .slice A m c := by
        rcases hown.2 with ⟨rfl, h0⟩ | ⟨g, cap, cur, rfl, _⟩
        · exact ⟨none, 0, by rw [h0]⟩
        · exact ⟨_, _, rfl⟩
      have HE := Lib.hid (fun W (hO : W.ownsRow (w.heap.size + 2) 59 30 (.slice A2 m c2) m (flat keptA ((s.l.take k).filter (Sh.alive now)))) hb => HEND.out k W (.slice A2 m c2) m rfl hm.symm hO hb)
      have HBD := Lib.hid (built_refShelf A2 m c2 s.last)
      have hwr : IntKind.i64.wrap ((k : Int) - (m : Int)) = (k : Int) - (m : Int) := by rw [IntKind.wrap_i64]; omega
      clear HEND hm HLS
      go_wp2_with fail
      have O4 := hO.drew
      have hO4 : wr.drew.ownsRow (w.heap.size + 2) 59 30 (.slice A2 m c2) m (flat keptA ((s.l.take k).filter (Sh.alive now))) := hown
      have C4 := hb.drew
      refine wp_region_held_drew (S := (fun W => Row W w.heap.size 28 #[.slice A k cp, .int .i64 s.last])) (by kernel_rfl) hR.drew (fun hS => ?_)
      generalize wr.drew = u0 at *
      refine wpAnyH_take (i := 0) (v := ?_) rfl (by kernel_rfl) (by kernel_rfl) (by kernel_rfl) (fun _ _ _ h => h) (Or.inl ⟨by rfl, ?_⟩) (by assumption) ?_
      rotate_left
      · intro _ _; go_simp; with_reducible rfl
      simp only [Act.put, List.setIfInBounds_toArray, List.set_cons_zero, List.set_cons_succ, List.getElem_toArray, List.getElem_cons_zero]
      refine wpAnyH_take (i := 1) (v := ?_) rfl (by kernel_rfl) (by kernel_rfl) (by kernel_rfl) (fun _ _ _ h => h) (Or.inl ⟨by rfl, ?_⟩) (by assumption) ?_
      rotate_left
      · intro _ _; go_simp; with_reducible rfl
      simp only [Act.put, List.setIfInBounds_toArray, List.set_cons_zero, List.set_cons_succ, List.getElem_toArray, List.getElem_cons_zero, List.getElem_cons_succ]
      refine wpAnyH_take (i := 2) (v := .int .i64 s.last) rfl (by kernel_rfl) (by kernel_rfl) (by kernel_rfl) (fun _ _ _ h => h) (Or.inl ⟨by rfl, fun wq hC => by have hcell := (show wq.cell? ⟨w.heap.size, 1, none⟩ = some (.int .i64 s.last) by rw [hC.cell]; rfl); go_simp; try with_reducible rfl⟩) (by assumption) ?_
      simp only [Act.put, List.setIfInBounds_toArray, List.set_cons_zero, List.set_cons_succ, List.getElem_toArray, List.getElem_cons_zero, List.getElem_cons_succ]
      refine wpAnyH_take (i := 3) rfl (by kernel_rfl) (by kernel_rfl) (by kernel_rfl) (fun _ _ _ h => h) (yields_built2 (by rfl) 28 0 1 (.tmp 27) (.tmp 29) rfl (.slice A2 m c2) (.int .i64 s.last) rfl rfl #[.slice A2 m c2, .int .i64 s.last] HBD.out) (by assumption) ?_
      simp only [Act.put, List.setIfInBounds_toArray, List.set_cons_zero, List.set_cons_succ, List.getElem_toArray, List.getElem_cons_zero, List.getElem_cons_succ]
      refine wpAnyH_take (i := 4) (v := ?_) rfl (by kernel_rfl) (by kernel_rfl) (by kernel_rfl) (fun _ _ _ h => h) (Or.inl ⟨by rfl, ?_⟩) (by assumption) ?_
      rotate_left
      · intro _ _; go_simp; with_reducible rfl
      simp only [Act.put, List.setIfInBounds_toArray, List.set_cons_zero, List.set_cons_succ, List.getElem_toArray, List.getElem_cons_zero, List.getElem_cons_succ]
      refine wpAnyH_take (i := 5) (v := .slice A k cp) rfl (by kernel_rfl) (by kernel_rfl) (by kernel_rfl) (fun _ _ _ h => h) (Or.inl ⟨by rfl, fun wq hC => by have hcell := (show wq.cell? ⟨w.heap.size, 0, none⟩ = some (.slice A k cp) by rw [hC.cell]; rfl); go_simp; try with_reducible rfl⟩) (by assumption) ?_
      simp only [Act.put, List.setIfInBounds_toArray, List.set_cons_zero, List.set_cons_succ, List.getElem_toArray, List.getElem_cons_zero, List.getElem_cons_succ]
      refine wpAnyH_take (i := 6) (v := ?_) rfl (by kernel_rfl) (by kernel_rfl) (by kernel_rfl) (fun _ _ _ h => h) (Or.inl ⟨by rfl, ?_⟩) (by assumption) ?_
      rotate_left
      · intro _ _; go_simp; with_reducible rfl
      simp only [Act.put, List.setIfInBounds_toArray, List.set_cons_zero, List.set_cons_succ, List.getElem_toArray, List.getElem_cons_zero, List.getElem_cons_succ]
      refine wpAnyH_take (i := 7) (v := ?_) rfl (by kernel_rfl) (by kernel_rfl) (by kernel_rfl) (fun _ _ _ h => h) (Or.inl ⟨by rfl, ?_⟩) (by assumption) ?_
      rotate_left
      · intro _ _; go_simp; with_reducible rfl
      simp only [Act.put, List.setIfInBounds_toArray, List.set_cons_zero, List.set_cons_succ, List.getElem_toArray, List.getElem_cons_zero, List.getElem_cons_succ]
      refine wpAnyH_take (i := 8) (v := ?_) rfl (by kernel_rfl) (by kernel_rfl) (by kernel_rfl) (fun _ _ _ h => h) (Or.inl ⟨by rfl, ?_⟩) (by assumption) ?_
      rotate_left
      · intro _ _; go_simp; with_reducible rfl
      simp only [Act.put, List.setIfInBounds_toArray, List.set_cons_zero, List.set_cons_succ, List.getElem_toArray, List.getElem_cons_zero, List.getElem_cons_succ]
      refine wpAnyH_take (i := 9) (v := ?_) rfl (by kernel_rfl) (by kernel_rfl) (by kernel_rfl) (fun _ _ _ h => h) (Or.inl ⟨by rfl, ?_⟩) (by assumption) ?_
      rotate_left
      · intro _ _; go_simp; with_reducible rfl
      simp only [Act.put, List.setIfInBounds_toArray, List.set_cons_zero, List.set_cons_succ, List.getElem_toArray, List.getElem_cons_zero, List.getElem_cons_succ]
      refine wpAnyH_ready (rs := [10]) (by kernel_rfl) (by simp) (AllReadyH.cons rfl (fun K hK => ?_) AllReadyH.nil)
      rw [if_pos (by rfl)]
      refine wp_store_row 28 _ _ rfl (w.heap.size + 1) #[.slice A2 m c2, .int .i64 s.last] rfl rfl 28 _ O4 zeroRefShelf rfl (by simp [Value.oneCell']) ?_
      have S2 : Row (u0.setRow (w.heap.size + 1) #[.slice A2 m c2, .int .i64 s.last]) w.heap.size 28 #[.slice A k cp, .int .i64 s.last] := Row.aside hS (by omega) _
      have O5 := O4.whole #[.slice A2 m c2, .int .i64 s.last]
      have C5 := below_setRow (g := w.heap.size + 1) C4 (by omega) #[.slice A2 m c2, .int .i64 s.last]
      have hO5 := hO4.kept (grownBy_rowS u0 (w.heap.size + 1) #[.slice A2 m c2, .int .i64 s.last]) (by
        cases hv : (Value.slice A2 m c2).ownBlock with
        | none => exact .inl rfl
        | some b => exact .inr (fun e => by have := (hO4.lt b hv).1; have := Option.some.inj e; omega))
      refine hK.out _ _ S2 (fun _ => ?_)
      clear hK K
      refine wpAnyH_take (i := 11) (v := ?_) rfl (by kernel_rfl) (by kernel_rfl) (by kernel_rfl) (fun _ _ _ h => h) (Or.inl ⟨by rfl, ?_⟩) (by assumption) ?_
      rotate_left
      · intro _ _; go_simp; with_reducible rfl
      simp only [Act.put, List.setIfInBounds_toArray, List.set_cons_zero, List.set_cons_succ, List.getElem_toArray, List.getElem_cons_zero, List.getElem_cons_succ]
      refine wpAnyH_done (by kernel_rfl) ?_ _
      have HF := Lib.hid (HE.out _ hO5 C5)
      go_wp2_with fail
      exact bodyPost_ret (v := .tuple #[.agg #[.slice A2 m c2, .int .i64 s.last], .int .i64 ((k : Int) - (m : Int))]) (results_cell_two rfl _ _ (w.heap.size + 1) _ _ _ rfl _ rfl O5 Try.underlying28 rfl zeroRefShelf) rfl HF.out
end Go.Proofs.Ytnepgibjijdheaa
