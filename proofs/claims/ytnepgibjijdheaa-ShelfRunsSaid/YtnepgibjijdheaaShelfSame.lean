/- The walk of the law's 'same': a shelf tells what the reference's list does. -/
import Derived.Test.YtnepgibjijdheaaShelfBoth
import Derived.Test.YtnepgibjijdheaaShelfCount
import Derived.Test.YtnepgibjijdheaaShelfOldest
import Derived.Test.YtnepgibjijdheaaShelfAll
import Derived.Test.YtnepgibjijdheaaRefShelfCount
import Derived.Test.YtnepgibjijdheaaRefShelfAll
import Derived.Test.YtnepgibjijdheaaRefShelfOldest
import Derived.Test.YtnepgibjijdheaaRefShelfSame
import Derived.Test.YtnepgibjijdheaaRefShelfExpire
namespace Go.Proofs.Ytnepgibjijdheaa
open Go.RowKit
set_option maxRecDepth 100000 in
set_option maxHeartbeats 16000000 in
theorem tells_alike (site : ByteArray) {sb mb : Nat} {s : Sh.Shelf} (w : World) (h : ShelfAt w sb mb s) (v : Value) (hv : Lies keptA w v s.l) :
    Calls Try.prog 10 #[.pointer (some ⟨sb, 0, none⟩), .agg #[v, .int .i64 s.last], .string site] w fun e w' => e = .returned (.bool true) ∧ Below w.heap.size w w' := by
  have z1 := zeroCookie
  have hsl := h.length
  have HV := Lib.hid hv
  have H1 := Lib.hid (fun W (k : ShelfAt W sb mb s) => oldestSite_calls site W k)
  have H2 := Lib.hid (fun W hW => refOldest_calls s site false v W h.okay hW hsl)
  have H3 := Lib.hid (fun W (k : ShelfAt W sb mb s) => oldestAll_calls W k)
  have H4 := Lib.hid (fun W hW => refOldest_calls s ⟨#[]⟩ true v W h.okay hW hsl)
  have HLN := Lib.hid (fun W (k : ShelfAt W sb mb s) => lenShelf_calls W k)
  have HC1 := Lib.hid (fun W (k : ShelfAt W sb mb s) => countShelf_calls site W k)
  have HC2 := Lib.hid (fun W hW => refCount_calls s site v W h.okay hW hsl)
  have HA1 := Lib.hid (fun W (k : ShelfAt W sb mb s) => allShelf_calls W k)
  have HA2 := Lib.hid (fun W hW => refAll_calls s v W h.okay hW hsl)
  have HSM := Lib.hid (fun v1 v2 W h1 h2 => refSame_calls (Sh.all s) v1 v2 W (fun c hc => by
    obtain ⟨k, hk, rfl⟩ := List.mem_map.1 hc
    exact (h.okay k hk).addr) h1 h2 (by unfold Sh.all; rw [List.length_map]; exact hsl))
  rw [wants_site] at H2
  rw [wants_all] at H4
  unfold OldPost at H1 H2 H3 H4
  unfold NewCookies at HA1 HA2
  obtain ⟨X, hX⟩ : ∃ X, cookieA ((Sh.oldest (ofSite site.data.toList) s).getD Ma.zeroC) = X := ⟨_, rfl⟩
  obtain ⟨Y, hY⟩ : ∃ Y, cookieA ((Sh.oldest everyK s).getD Ma.zeroC) = Y := ⟨_, rfl⟩
  have hXE : ∀ W, (binOp .eql 34 (.agg X) (.agg X)).run Try.prog W = .ok (.bool true) W := fun W => by rw [← hX]; exact eql_cookie _ (oldest_addr h.okay) W
  have hYE : ∀ W, (binOp .eql 34 (.agg Y) (.agg Y)).run Try.prog W = .ok (.bool true) W := fun W => by rw [← hY]; exact eql_cookie _ (oldest_addr h.okay) W
  have NX := Lib.hid (show (Try.prog.info? 34).map (·.size) = some X.size by rw [← hX, cookieA_size _ (oldest_addr h.okay)]; exact infoCookie)
  have NY := Lib.hid (show (Try.prog.info? 34).map (·.size) = some Y.size by rw [← hY, cookieA_size _ (oldest_addr h.okay)]; exact infoCookie)
  have ZX := Lib.hid (show (cookieA Ma.zeroC).size = X.size by rw [← hX, cookieA_size _ (oldest_addr h.okay)]; rfl)
  have ZY := Lib.hid (show (cookieA Ma.zeroC).size = Y.size by rw [← hY, cookieA_size _ (oldest_addr h.okay)]; rfl)
  have OX := Lib.hid (show X.all (·.oneCell') = true by rw [← hX]; exact cookieA_one _)
  have OY := Lib.hid (show Y.all (·.oneCell') = true by rw [← hY]; exact cookieA_one _)
  rw [hX] at H1 H2
  rw [hY] at H3 H4
  generalize (Sh.oldest (ofSite site.data.toList) s).isSome = f1 at *
  generalize (Sh.oldest everyK s).isSome = f2 at *
  generalize ((Sh.count s site.data.toList : Nat) : Int) = cnt at *
  obtain ⟨A, cp, rfl, hcp, _⟩ := hv
  obtain ⟨n, hnn⟩ : ∃ n, s.l.length = n := ⟨_, rfl⟩
  rw [hnn] at HV H2 H4 HLN HC2 HA2 hcp hsl ⊢
  have R0 := Row.new w 28 #[Value.slice A n cp, .int .i64 s.last]
  have C0 := (Below.refl w.heap.size w).alloc (Nat.le_refl _) (.cells #[Value.slice A n cp, .int .i64 s.last] 28)
  have K0 := h.stays C0
  clear hnn hX hY h
  generalize cookieA Ma.zeroC = ZC at *
  go_enter Try.func10, Try.ntmps10
  go_wp2_with fail
  generalize w.alloc (.cells #[Value.slice A n cp, .int .i64 s.last] 28) = x0 at *
  refine (H1.out _ K0).mono ?_
  rintro e x1 ⟨rfl, d1⟩
  have R1 := R0.stays d1
  have K1 := K0.stays d1
  have C1 := C0.trans (d1.mono C0.size)
  clear R0 K0 C0 d1
  obtain ⟨Z2, P2, D2, L2⟩ := lay_row 34 ZC X (Below.refl x1.heap.size x1) (Nat.le_refl _)
  have R2 := L2 _ _ _ R1
  have K2 := K1.stays D2
  have C2 := C1.trans (D2.mono C1.size)
  clear L2 D2 R1 K1 C1
  go_wp2_with (first
    | (refine at_slot 22 rfl ?_; refine load_row rfl 28 _ rfl w.heap.size rfl R2 Try.underlying28 rfl zeroRefShelf ?_)
    | (refine at_store 34 (.tmp 7) (.tmp 19) rfl ?_; refine wpList_store_row rfl 34 _ _ rfl x1.heap.size X rfl rfl 34 _ Z2 NX.out ZX.out OX.out ?_))
  clear Z2
  generalize (x1.alloc (.cells ZC 34)).setRow x1.heap.size X = x2 at *
  generalize x1.heap.size = g7 at *
  refine (H2.out _ (HV.out.stays C2)).mono ?_
  rintro e x3 ⟨rfl, d3⟩
  have R3 := R2.stays d3
  have K3 := K2.stays d3
  have C3 := C2.trans (d3.mono C2.size)
  have P3 := P2.stays d3
  clear R2 K2 C2 d3 P2
  obtain ⟨Z4, Q4, D4, L4⟩ := lay_row 34 ZC X (Below.refl x3.heap.size x3) (Nat.le_refl _)
  have R4 := L4 _ _ _ R3
  have K4 := K3.stays D4
  have C4 := C3.trans (D4.mono C3.size)
  have P4 := L4 _ _ _ P3
  clear L4 D4 R3 K3 C3 P3
  go_wp2_with (first
    | (refine at_store 34 (.tmp 9) (.tmp 25) rfl ?_; refine wpList_store_row rfl 34 _ _ rfl x3.heap.size X rfl rfl 34 _ Z4 NX.out ZX.out OX.out ?_))
  clear Z4
  generalize (x3.alloc (.cells ZC 34)).setRow x3.heap.size X = x4 at *
  generalize x3.heap.size = g9 at *
  refine (H3.out _ K4).mono ?_
  rintro e x5 ⟨rfl, d5⟩
  have R5 := R4.stays d5
  have K5 := K4.stays d5
  have C5 := C4.trans (d5.mono C4.size)
  have P5 := P4.stays d5
  have Q5 := Q4.stays d5
  clear R4 K4 C4 d5 P4 Q4
  obtain ⟨Z6, S6, D6, L6⟩ := lay_row 34 ZC Y (Below.refl x5.heap.size x5) (Nat.le_refl _)
  have R6 := L6 _ _ _ R5
  have K6 := K5.stays D6
  have C6 := C5.trans (D6.mono C5.size)
  have P6 := L6 _ _ _ P5
  have Q6 := L6 _ _ _ Q5
  clear L6 D6 R5 K5 C5 P5 Q5
  go_wp2_with (first
    | (refine at_slot 33 rfl ?_; refine load_row rfl 28 _ rfl w.heap.size rfl R6 Try.underlying28 rfl zeroRefShelf ?_)
    | (refine at_store 34 (.tmp 11) (.tmp 30) rfl ?_; refine wpList_store_row rfl 34 _ _ rfl x5.heap.size Y rfl rfl 34 _ Z6 NY.out ZY.out OY.out ?_))
  clear Z6
  generalize (x5.alloc (.cells ZC 34)).setRow x5.heap.size Y = x6 at *
  generalize x5.heap.size = g11 at *
  refine (H4.out _ (HV.out.stays C6)).mono ?_
  rintro e x7 ⟨rfl, d7⟩
  have R7 := R6.stays d7
  have K7 := K6.stays d7
  have C7 := C6.trans (d7.mono C6.size)
  have P7 := P6.stays d7
  have Q7 := Q6.stays d7
  have S7 := S6.stays d7
  clear R6 K6 C6 d7 P6 Q6 S6
  obtain ⟨Z8, T8, D8, L8⟩ := lay_row 34 ZC Y (Below.refl x7.heap.size x7) (Nat.le_refl _)
  have R8 := L8 _ _ _ R7
  have K8 := K7.stays D8
  have C8 := C7.trans (D8.mono C7.size)
  have P8 := L8 _ _ _ P7
  have Q8 := L8 _ _ _ Q7
  have S8 := L8 _ _ _ S7
  clear L8 D8 R7 K7 C7 P7 Q7 S7
  go_wp2_with (first
    | (refine at_store 34 (.tmp 13) (.tmp 35) rfl ?_; refine wpList_store_row rfl 34 _ _ rfl x7.heap.size Y rfl rfl 34 _ Z8 NY.out ZY.out OY.out ?_))
  clear Z8
  generalize (x7.alloc (.cells ZC 34)).setRow x7.heap.size Y = x8 at *
  generalize x7.heap.size = g13 at *
  refine wp_region_held_drew (S := (fun W => Below x8.heap.size x8 W)) (by kernel_rfl) (Below.refl _ _).drew (fun hS => ?_)
  generalize x8.drew = u0 at *
  refine wpAnyH_take (i := 0) rfl (by kernel_rfl) (by kernel_rfl) (by kernel_rfl) (fun _ _ _ h => h) (yields_row (by rfl) _ _ rfl _ rfl (fun W hW => P8.stays hW) Try.underlying34 rfl NX.out) (by assumption) ?_
  simp only [Act.put, List.setIfInBounds_toArray, List.set_cons_zero, List.set_cons_succ, List.getElem_toArray, List.getElem_cons_zero]
  refine wpAnyH_take (i := 1) rfl (by kernel_rfl) (by kernel_rfl) (by kernel_rfl) (fun _ _ _ h => h) (yields_row (by rfl) _ _ rfl _ rfl (fun W hW => Q8.stays hW) Try.underlying34 rfl NX.out) (by assumption) ?_
  simp only [Act.put, List.setIfInBounds_toArray, List.set_cons_zero, List.set_cons_succ, List.getElem_toArray, List.getElem_cons_zero, List.getElem_cons_succ]
  refine wpAnyH_take (i := 2) (v := ?_) rfl (by kernel_rfl) (by kernel_rfl) (by kernel_rfl) (fun _ _ _ h => h) (Or.inl ⟨by rfl, ?_⟩) (by assumption) ?_
  rotate_left
  · intro _ _; go_simp; with_reducible rfl
  simp only [Act.put, List.setIfInBounds_toArray, List.set_cons_zero, List.set_cons_succ, List.getElem_toArray, List.getElem_cons_zero, List.getElem_cons_succ]
  refine wpAnyH_take (i := 3) (v := ?_) rfl (by kernel_rfl) (by kernel_rfl) (by kernel_rfl) (fun _ _ _ h => h) (Or.inl ⟨by rfl, ?_⟩) (by assumption) ?_
  rotate_left
  · intro _ _; go_simp; with_reducible rfl
  simp only [Act.put, List.setIfInBounds_toArray, List.set_cons_zero, List.set_cons_succ, List.getElem_toArray, List.getElem_cons_zero, List.getElem_cons_succ]
  refine wpAnyH_take (i := 4) (v := ?_) rfl (by kernel_rfl) (by kernel_rfl) (by kernel_rfl) (fun _ _ _ h => h) (Or.inl ⟨by rfl, ?_⟩) (by assumption) ?_
  rotate_left
  · intro _ _; go_simp; with_reducible rfl
  simp only [Act.put, List.setIfInBounds_toArray, List.set_cons_zero, List.set_cons_succ, List.getElem_toArray, List.getElem_cons_zero, List.getElem_cons_succ]
  refine wpAnyH_take (i := 5) (v := ?_) rfl (by kernel_rfl) (by kernel_rfl) (by kernel_rfl) (fun _ _ _ h => h) (Or.inl ⟨by rfl, ?_⟩) (by assumption) ?_
  rotate_left
  · intro _ _; go_simp; with_reducible rfl
  simp only [Act.put, List.setIfInBounds_toArray, List.set_cons_zero, List.set_cons_succ, List.getElem_toArray, List.getElem_cons_zero, List.getElem_cons_succ]
  refine wpAnyH_take (i := 6) (v := ?_) rfl (by kernel_rfl) (by kernel_rfl) (by kernel_rfl) (fun _ _ _ h => h) (Or.inl ⟨by rfl, ?_⟩) (by assumption) ?_
  rotate_left
  · intro _ _; go_simp; with_reducible rfl
  simp only [Act.put, List.setIfInBounds_toArray, List.set_cons_zero, List.set_cons_succ, List.getElem_toArray, List.getElem_cons_zero, List.getElem_cons_succ]
  refine wpAnyH_take (i := 7) (v := ?_) rfl (by kernel_rfl) (by kernel_rfl) (by kernel_rfl) (fun _ _ _ h => h) (Or.inl ⟨by rfl, ?_⟩) (by assumption) ?_
  rotate_left
  · intro _ _; go_simp; with_reducible rfl
  simp only [Act.put, List.setIfInBounds_toArray, List.set_cons_zero, List.set_cons_succ, List.getElem_toArray, List.getElem_cons_zero, List.getElem_cons_succ]
  refine wpAnyH_take (i := 8) (v := ?_) rfl (by kernel_rfl) (by kernel_rfl) (by kernel_rfl) (fun _ _ _ h => h) (Or.inl ⟨by rfl, ?_⟩) (by assumption) ?_
  rotate_left
  · intro _ _; go_simp; with_reducible rfl
  simp only [Act.put, List.setIfInBounds_toArray, List.set_cons_zero, List.set_cons_succ, List.getElem_toArray, List.getElem_cons_zero, List.getElem_cons_succ]
  refine wpAnyH_take (i := 9) rfl (by kernel_rfl) (by kernel_rfl) (by kernel_rfl) (fun _ _ _ h => h) (yields_row (by rfl) _ _ rfl _ rfl (fun W hW => S8.stays hW) Try.underlying34 rfl NY.out) (by assumption) ?_
  simp only [Act.put, List.setIfInBounds_toArray, List.set_cons_zero, List.set_cons_succ, List.getElem_toArray, List.getElem_cons_zero, List.getElem_cons_succ]
  refine wpAnyH_take (i := 10) rfl (by kernel_rfl) (by kernel_rfl) (by kernel_rfl) (fun _ _ _ h => h) (yields_row (by rfl) _ _ rfl _ rfl (fun W hW => T8.stays hW) Try.underlying34 rfl NY.out) (by assumption) ?_
  simp only [Act.put, List.setIfInBounds_toArray, List.set_cons_zero, List.set_cons_succ, List.getElem_toArray, List.getElem_cons_zero, List.getElem_cons_succ]
  refine wpAnyH_take (i := 11) (v := ?_) rfl (by kernel_rfl) (by kernel_rfl) (by kernel_rfl) (fun _ _ _ h => h) (Or.inl ⟨by rfl, ?_⟩) (by assumption) ?_
  rotate_left
  · intro _ _; go_simp; with_reducible rfl
  simp only [Act.put, List.setIfInBounds_toArray, List.set_cons_zero, List.set_cons_succ, List.getElem_toArray, List.getElem_cons_zero, List.getElem_cons_succ]
  refine wpAnyH_take (i := 12) (v := ?_) rfl (by kernel_rfl) (by kernel_rfl) (by kernel_rfl) (fun _ _ _ h => h) (Or.inl ⟨by rfl, ?_⟩) (by assumption) ?_
  rotate_left
  · intro _ _; go_simp; with_reducible rfl
  simp only [Act.put, List.setIfInBounds_toArray, List.set_cons_zero, List.set_cons_succ, List.getElem_toArray, List.getElem_cons_zero, List.getElem_cons_succ]
  refine wpAnyH_take (i := 13) (v := ?_) rfl (by kernel_rfl) (by kernel_rfl) (by kernel_rfl) (fun _ _ _ h => h) (Or.inl ⟨by rfl, ?_⟩) (by assumption) ?_
  rotate_left
  · intro _ _; go_simp; with_reducible rfl
  simp only [Act.put, List.setIfInBounds_toArray, List.set_cons_zero, List.set_cons_succ, List.getElem_toArray, List.getElem_cons_zero, List.getElem_cons_succ]
  refine wpAnyH_take (i := 14) (v := ?_) rfl (by kernel_rfl) (by kernel_rfl) (by kernel_rfl) (fun _ _ _ h => h) (Or.inl ⟨by rfl, ?_⟩) (by assumption) ?_
  rotate_left
  · intro _ _; go_simp; with_reducible rfl
  simp only [Act.put, List.setIfInBounds_toArray, List.set_cons_zero, List.set_cons_succ, List.getElem_toArray, List.getElem_cons_zero, List.getElem_cons_succ]
  refine wpAnyH_take (i := 15) (v := ?_) rfl (by kernel_rfl) (by kernel_rfl) (by kernel_rfl) (fun _ _ _ h => h) (Or.inl ⟨by rfl, ?_⟩) (by assumption) ?_
  rotate_left
  · intro _ _; go_simp; with_reducible rfl
  simp only [Act.put, List.setIfInBounds_toArray, List.set_cons_zero, List.set_cons_succ, List.getElem_toArray, List.getElem_cons_zero, List.getElem_cons_succ]
  refine wpAnyH_take (i := 16) (v := ?_) rfl (by kernel_rfl) (by kernel_rfl) (by kernel_rfl) (fun _ _ _ h => h) (Or.inl ⟨by rfl, ?_⟩) (by assumption) ?_
  rotate_left
  · intro _ _; go_simp; with_reducible rfl
  simp only [Act.put, List.setIfInBounds_toArray, List.set_cons_zero, List.set_cons_succ, List.getElem_toArray, List.getElem_cons_zero, List.getElem_cons_succ]
  refine wpAnyH_take (i := 17) (v := ?_) rfl (by kernel_rfl) (by kernel_rfl) (by kernel_rfl) (fun _ _ _ h => h) (Or.inl ⟨by rfl, ?_⟩) (by assumption) ?_
  rotate_left
  · intro _ _; go_simp; with_reducible rfl
  simp only [Act.put, List.setIfInBounds_toArray, List.set_cons_zero, List.set_cons_succ, List.getElem_toArray, List.getElem_cons_zero, List.getElem_cons_succ]
  refine wpAnyH_take (i := 18) (v := ?_) rfl (by kernel_rfl) (by kernel_rfl) (by kernel_rfl) (fun _ _ _ h => h) (Or.inl ⟨by rfl, ?_⟩) (by assumption) ?_
  rotate_left
  · intro _ _; go_simp; with_reducible rfl
  simp only [Act.put, List.setIfInBounds_toArray, List.set_cons_zero, List.set_cons_succ, List.getElem_toArray, List.getElem_cons_zero, List.getElem_cons_succ]
  refine wpAnyH_take (i := 19) (v := ?_) rfl (by kernel_rfl) (by kernel_rfl) (by kernel_rfl) (fun _ _ _ h => h) (Or.inl ⟨by rfl, ?_⟩) (by assumption) ?_
  rotate_left
  · intro _ _; go_simp; with_reducible rfl
  simp only [Act.put, List.setIfInBounds_toArray, List.set_cons_zero, List.set_cons_succ, List.getElem_toArray, List.getElem_cons_zero, List.getElem_cons_succ]
  refine wpAnyH_take (i := 21) (v := ?_) rfl (by kernel_rfl) (by kernel_rfl) (by kernel_rfl) (fun _ _ _ h => h) (Or.inl ⟨by rfl, ?_⟩) (by assumption) ?_
  rotate_left
  · intro _ _; go_simp; with_reducible rfl
  simp only [Act.put, List.setIfInBounds_toArray, List.set_cons_zero, List.set_cons_succ, List.getElem_toArray, List.getElem_cons_zero, List.getElem_cons_succ]
  refine wpAnyH_take (i := 22) (v := .slice A n cp) rfl (by kernel_rfl) (by kernel_rfl) (by kernel_rfl) (fun _ _ _ h => h) (Or.inl ⟨by rfl, fun wq hC => by have hcell := (show wq.cell? ⟨w.heap.size, 0, none⟩ = some (.slice A n cp) by rw [(R8.stays hC).cell]; rfl); go_simp; try with_reducible rfl⟩) (by assumption) ?_
  simp only [Act.put, List.setIfInBounds_toArray, List.set_cons_zero, List.set_cons_succ, List.getElem_toArray, List.getElem_cons_zero, List.getElem_cons_succ]
  refine wpAnyH_take (i := 23) (v := ?_) rfl (by kernel_rfl) (by kernel_rfl) (by kernel_rfl) (fun _ _ _ h => h) (Or.inl ⟨by rfl, ?_⟩) (by assumption) ?_
  rotate_left
  · intro _ _; go_simp; with_reducible rfl
  simp only [Act.put, List.setIfInBounds_toArray, List.set_cons_zero, List.set_cons_succ, List.getElem_toArray, List.getElem_cons_zero, List.getElem_cons_succ]
  refine wpAnyH_ready (rs := [20]) (by kernel_rfl) (by simp) (AllReadyH.cons rfl (fun K hK => ?_) AllReadyH.nil)
  rw [if_pos (by rfl)]
  go_simp
  refine (HLN.out _ (K8.stays hS)).mono ?_
  rintro e x9 ⟨rfl, d9⟩
  have S9 := Below.trans hS (d9.mono (Below.size hS))
  go_wp2_with fail
  refine hK.out _ _ S9 (fun _ => ?_)
  clear hK K
  refine wpAnyH_take (i := 24) (v := ?_) rfl (by kernel_rfl) (by kernel_rfl) (by kernel_rfl) (fun _ _ _ h => h) (Or.inl ⟨by rfl, ?_⟩) (by assumption) ?_
  rotate_left
  · intro _ _; go_simp; with_reducible rfl
  simp only [Act.put, List.setIfInBounds_toArray, List.set_cons_zero, List.set_cons_succ, List.getElem_toArray, List.getElem_cons_zero, List.getElem_cons_succ]
  refine wpAnyH_take (i := 25) (v := ?_) rfl (by kernel_rfl) (by kernel_rfl) (by kernel_rfl) (fun _ _ _ h => h) (Or.inl ⟨by rfl, ?_⟩) (by assumption) ?_
  rotate_left
  · intro _ _; go_simp; with_reducible rfl
  simp only [Act.put, List.setIfInBounds_toArray, List.set_cons_zero, List.set_cons_succ, List.getElem_toArray, List.getElem_cons_zero, List.getElem_cons_succ]
  refine wpAnyH_take (i := 26) (v := ?_) rfl (by kernel_rfl) (by kernel_rfl) (by kernel_rfl) (fun _ _ _ h => h) (Or.inl ⟨by rfl, ?_⟩) (by assumption) ?_
  rotate_left
  · intro _ _; go_simp; with_reducible rfl
  simp only [Act.put, List.setIfInBounds_toArray, List.set_cons_zero, List.set_cons_succ, List.getElem_toArray, List.getElem_cons_zero, List.getElem_cons_succ]
  refine wpAnyH_take (i := 27) (v := ?_) rfl (by kernel_rfl) (by kernel_rfl) (by kernel_rfl) (fun _ _ _ h => h) (Or.inl ⟨by rfl, ?_⟩) (by assumption) ?_
  rotate_left
  · intro _ _; go_simp; with_reducible rfl
  simp only [Act.put, List.setIfInBounds_toArray, List.set_cons_zero, List.set_cons_succ, List.getElem_toArray, List.getElem_cons_zero, List.getElem_cons_succ]
  refine wpAnyH_take (i := 28) (v := ?_) rfl (by kernel_rfl) (by kernel_rfl) (by kernel_rfl) (fun _ _ _ h => h) (Or.inl ⟨by rfl, ?_⟩) (by assumption) ?_
  rotate_left
  · intro _ _; go_simp; with_reducible rfl
  simp only [Act.put, List.setIfInBounds_toArray, List.set_cons_zero, List.set_cons_succ, List.getElem_toArray, List.getElem_cons_zero, List.getElem_cons_succ]
  refine wpAnyH_take (i := 30) rfl (by kernel_rfl) (by kernel_rfl) (by kernel_rfl) (fun _ _ _ h => h) (yields_row (by rfl) _ _ rfl _ rfl (fun W hW => R8.stays hW) Try.underlying28 rfl zeroRefShelf) (by assumption) ?_
  simp only [Act.put, List.setIfInBounds_toArray, List.set_cons_zero, List.set_cons_succ, List.getElem_toArray, List.getElem_cons_zero, List.getElem_cons_succ]
  refine wpAnyH_take (i := 31) (v := ?_) rfl (by kernel_rfl) (by kernel_rfl) (by kernel_rfl) (fun _ _ _ h => h) (Or.inl ⟨by rfl, ?_⟩) (by assumption) ?_
  rotate_left
  · intro _ _; go_simp; with_reducible rfl
  simp only [Act.put, List.setIfInBounds_toArray, List.set_cons_zero, List.set_cons_succ, List.getElem_toArray, List.getElem_cons_zero, List.getElem_cons_succ]
  refine wpAnyH_ready (rs := [29]) (by kernel_rfl) (by simp) (AllReadyH.cons rfl (fun K hK => ?_) AllReadyH.nil)
  rw [if_pos (by rfl)]
  go_simp
  refine (HC1.out _ (K8.stays S9)).mono ?_
  rintro e x10 ⟨rfl, d10⟩
  have S10 := Below.trans S9 (d10.mono (Below.size S9))
  go_wp2_with fail
  refine hK.out _ _ S10 (fun _ => ?_)
  clear hK K
  refine wpAnyH_ready (rs := [32]) (by kernel_rfl) (by simp) (AllReadyH.cons rfl (fun K hK => ?_) AllReadyH.nil)
  rw [if_pos (by rfl)]
  go_simp
  refine (HC2.out _ (HV.out.stays (C8.trans (S10.mono C8.size)))).mono ?_
  rintro e x11 ⟨rfl, d11⟩
  have S11 := Below.trans S10 (d11.mono (Below.size S10))
  go_wp2_with fail
  refine hK.out _ _ S11 (fun _ => ?_)
  clear hK K
  refine wpAnyH_take (i := 33) (v := ?_) rfl (by kernel_rfl) (by kernel_rfl) (by kernel_rfl) (fun _ _ _ h => h) (Or.inl ⟨by rfl, ?_⟩) (by assumption) ?_
  rotate_left
  · intro _ _; go_simp; with_reducible rfl
  simp only [Act.put, List.setIfInBounds_toArray, List.set_cons_zero, List.set_cons_succ, List.getElem_toArray, List.getElem_cons_zero, List.getElem_cons_succ]
  refine wpAnyH_take (i := 34) (v := ?_) rfl (by kernel_rfl) (by kernel_rfl) (by kernel_rfl) (fun _ _ _ h => h) (Or.inl ⟨by rfl, ?_⟩) (by assumption) ?_
  rotate_left
  · intro _ _; go_simp; with_reducible rfl
  simp only [Act.put, List.setIfInBounds_toArray, List.set_cons_zero, List.set_cons_succ, List.getElem_toArray, List.getElem_cons_zero, List.getElem_cons_succ]
  refine wpAnyH_take (i := 35) (v := ?_) rfl (by kernel_rfl) (by kernel_rfl) (by kernel_rfl) (fun _ _ _ h => h) (Or.inl ⟨by rfl, ?_⟩) (by assumption) ?_
  rotate_left
  · intro _ _; go_simp; with_reducible rfl
  simp only [Act.put, List.setIfInBounds_toArray, List.set_cons_zero, List.set_cons_succ, List.getElem_toArray, List.getElem_cons_zero, List.getElem_cons_succ]
  refine wpAnyH_take (i := 36) (v := ?_) rfl (by kernel_rfl) (by kernel_rfl) (by kernel_rfl) (fun _ _ _ h => h) (Or.inl ⟨by rfl, ?_⟩) (by assumption) ?_
  rotate_left
  · intro _ _; go_simp; with_reducible rfl
  simp only [Act.put, List.setIfInBounds_toArray, List.set_cons_zero, List.set_cons_succ, List.getElem_toArray, List.getElem_cons_zero, List.getElem_cons_succ]
  refine wpAnyH_take (i := 38) rfl (by kernel_rfl) (by kernel_rfl) (by kernel_rfl) (fun _ _ _ h => h) (yields_row (by rfl) _ _ rfl _ rfl (fun W hW => R8.stays hW) Try.underlying28 rfl zeroRefShelf) (by assumption) ?_
  simp only [Act.put, List.setIfInBounds_toArray, List.set_cons_zero, List.set_cons_succ, List.getElem_toArray, List.getElem_cons_zero, List.getElem_cons_succ]
  refine wpAnyH_ready (rs := [37]) (by kernel_rfl) (by simp) (AllReadyH.cons rfl (fun K hK => ?_) AllReadyH.nil)
  rw [if_pos (by rfl)]
  go_simp
  refine (HA1.out _ (K8.stays S11)).mono ?_
  rintro e x12 ⟨v1, rfl, hL1, d12⟩
  have S12 := Below.trans S11 (d12.mono (Below.size S11))
  go_wp2_with fail
  refine hK.out _ _ S12 (fun _ => ?_)
  clear hK K
  refine wpAnyH_ready (rs := [39]) (by kernel_rfl) (by simp) (AllReadyH.cons rfl (fun K hK => ?_) AllReadyH.nil)
  rw [if_pos (by rfl)]
  go_simp
  refine (HA2.out _ (HV.out.stays (C8.trans (S12.mono C8.size)))).mono ?_
  rintro e x13 ⟨v2, rfl, hL2, d13⟩
  have S13 := Below.trans S12 (d13.mono (Below.size S12))
  go_wp2_with fail
  refine hK.out _ _ S13 (fun _ => ?_)
  clear hK K
  refine wpAnyH_ready (rs := [40]) (by kernel_rfl) (by simp) (AllReadyH.cons rfl (fun K hK => ?_) AllReadyH.nil)
  rw [if_pos (by rfl)]
  go_simp
  refine (HSM.out v1 v2 _ (hL1.stays d13) hL2).mono ?_
  rintro e x14 ⟨rfl, d14⟩
  have S14 := Below.trans S13 (d14.mono (Below.size S13))
  go_wp2_with fail
  refine hK.out _ _ S14 (fun _ => ?_)
  clear hK K
  refine wpAnyH_take (i := 41) (v := ?_) rfl (by kernel_rfl) (by kernel_rfl) (by kernel_rfl) (fun _ _ _ h => h) (Or.inl ⟨by rfl, ?_⟩) (by assumption) ?_
  rotate_left
  · intro _ _; go_simp; with_reducible rfl
  simp only [Act.put, List.setIfInBounds_toArray, List.set_cons_zero, List.set_cons_succ, List.getElem_toArray, List.getElem_cons_zero, List.getElem_cons_succ]
  refine wpAnyH_take (i := 42) (v := ?_) rfl (by kernel_rfl) (by kernel_rfl) (by kernel_rfl) (fun _ _ _ h => h) (Or.inl ⟨by rfl, ?_⟩) (by assumption) ?_
  rotate_left
  · intro _ _; go_simp; with_reducible rfl
  simp only [Act.put, List.setIfInBounds_toArray, List.set_cons_zero, List.set_cons_succ, List.getElem_toArray, List.getElem_cons_zero, List.getElem_cons_succ]
  refine wpAnyH_done (by kernel_rfl) ?_ _
  go_wp2_with fail
  go_ret
  exact ⟨rfl, C8.trans (S14.mono C8.size)⟩
end Go.Proofs.Ytnepgibjijdheaa
