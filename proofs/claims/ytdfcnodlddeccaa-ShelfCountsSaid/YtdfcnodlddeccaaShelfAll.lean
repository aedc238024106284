/- The walk of a shelf's All. -/
import Derived.Test.YtdfcnodlddeccaaShelfSort
namespace Go.Proofs.Ytdfcnodlddeccaa
open Go.RowKit Go.Maps
theorem own_mono {w : World} {B B' : Nat} {e : TypeId} {size : Nat} {v : Value} {n : Nat} {xs : List Value} (h : w.ownsRow B e size v n xs) (hb : B' ≤ B) : w.ownsRow B' e size v n xs :=
  ⟨h.1, h.2.imp id (fun ⟨g, cap, cur, h1, h2, h3⟩ => ⟨g, cap, cur, h1, Nat.le_trans hb h2, h3⟩)⟩
theorem size_allocS (w : World) (o : Obj) : (w.alloc o).heap.size = w.heap.size + 1 := by simp
theorem row_own {w : World} {B n : Nat} {t : TypeId} {size : Nat} {v : Value} {xs : List Value} {mb : Nat} {L : List Sh.Kept} (hO : w.ownsRow B t size v n xs) (hM : MapAt w mb L) : v.ownBlock ≠ some mb := by
  intro e
  rcases hO.2 with ⟨rfl, _⟩ | ⟨g, cap, cur, rfl, _, hg, _⟩
  · cases e
  · obtain rfl : g = mb := Option.some.inj e
    obtain ⟨D, ⟨es, clock, hb, _⟩, _⟩ := hM
    rw [hb] at hg
    cases hg
def NewCookies (cs : List Ma.Cookie) (w : World) (e : Ending) (w' : World) : Prop :=
  ∃ v, e = .returned v ∧ Lies cookieA w' v cs ∧ Below w.heap.size w w'
set_option maxRecDepth 100000 in
set_option maxHeartbeats 4000000 in
theorem allShelf_calls {sb mb : Nat} {s : Sh.Shelf} (w : World) (h : ShelfAt w sb mb s) :
    Calls Try.prog 14 #[.pointer (some ⟨sb, 0, none⟩)] w (NewCookies (Sh.all s) w) := by
  have z1 := zeroKept
  have c0 := h.cell0
  have hle := h.length
  have HOK := Lib.hid h.okay
  have HM := Lib.hid h
  have HLE : Hid (∀ S T : List Sh.Kept, (S ++ T).Perm s.l → S.length + T.length ≤ 1000000) := Lib.hid (fun S T hp => by
    have h1 := hp.length_eq
    rw [List.length_append] at h1
    omega)
  have HSO : Hid (∀ (S : List Sh.Kept) W v, (S ++ []).Perm s.l → W.ownsRow (w.heap.size + 1) 34 29 v S.length (flat cookieA (S.map (·.c))) → Below w.heap.size w W → w.heap.size + 1 ≤ W.heap.size → Calls Try.prog 32 #[v, .func (.func 33) #[] #[]] W fun e w' => e = .returned (.tuple #[]) ∧ NewCookies (Sh.all s) w (.returned v) w') := Lib.hid (fun S W v hp ho hb hW => by
    rw [List.append_nil] at hp
    have hl := hp.length_eq
    have hs : ∀ c ∈ S.map (·.c), c.host.addr.length = 16 := by
      intro c hc
      obtain ⟨k, hk, rfl⟩ := List.mem_map.1 hc
      exact (h.okay k (hp.mem_iff.1 hk)).addr
    have hbb : Below w.heap.size w W := hb
    have ho2 : W.ownsRow (w.heap.size + 1) 34 29 v (S.map (·.c)).length (flat cookieA (S.map (·.c))) := by rw [List.length_map]; exact ho
    exact (sort_calls (B := w.heap.size) (out := Sh.all s) w W hs (own_mono ho2 (Nat.le_succ _)) (by rw [List.length_map]; omega) hbb (by omega) (hp.map _) (Sh.all_rise h.well)).mono (fun e w' ⟨h1, h2, h3⟩ => ⟨h1, v, rfl, h2, h3⟩))
  generalize NewCookies (Sh.all s) w = post at *
  have hCI : ∀ v w', post (.returned v) w' → post (.returned v) w' := fun _ _ h => h
  clear hle h
  go_enter Try.func14, Try.ntmps14
  go_wp2_with (at_range; refine range_shelf rfl _ rfl rfl HM.out.map HM.out.keys HM.out.okay ?_; intro w1 hr1 hg1 hs1)
  go_frame
  have C1 : Below w.heap.size w w1 := (Below.refl _ w).grown hg1 (Nat.le_refl _) (fun _ e => by cases e)
  have HS1 := Lib.hid hs1
  clear hs1 c0
  go_loopw [3] (fun u wr => ∃ S T v, v = u ∧ (S ++ T).Perm s.l ∧ wr.ownsRow (w.heap.size + 1) 34 29 v S.length (flat cookieA (S.map (·.c))) ∧ Rng wr mb w.heap.size s.l.length s.l T ∧ Below w.heap.size w wr ∧ w.heap.size + 1 ≤ wr.heap.size)
    (fun _ wr => wr.rangeLeft mb w.heap.size)
  case atStart => exact ⟨[], s.l, _, rfl, List.Perm.refl _, World.ownsRow_nil w1 _ _ _, hr1, C1, by rw [HS1.out]; exact Nat.le_refl _⟩
  case round =>
    obtain ⟨S, T, v, rfl, hp, hown, hr, hb, hsz⟩ := hrel
    clear hr1 C1 hg1 HS1
    have hle := HLE.out S T hp
    go_wp2_with (first | (at_next; refine next_shelf rfl _ rfl rfl hr ?_ ?_))
    · rintro rfl
      have HC := Lib.hid (HSO.out S wr v hp hown hb hsz)
      clear hown hr hb HSO
      go_wp2_with fail
      refine HC.out.mono ?_
      rintro e w5 ⟨rfl, h5⟩
      have H5 := Lib.hid h5
      clear h5
      go_wp2
      exact H5.out
    · intro k T' w2 hpt hr2 hlt hg2 hs2 hen
      obtain ⟨hp2, hkm⟩ := mem_left hp hpt
      have ko := HOK.out k hkm
      have HLT := Lib.hid hlt
      have C2 := hb.grown hg2 hb.size (fun b e => by have := Option.some.inj e; omega)
      have hown2 := hown.kept hg2 (by
        rcases hown.2 with ⟨rfl, _⟩ | ⟨g, cap, cur, rfl, hB, _⟩
        · exact .inl rfl
        · refine .inr (fun e => ?_)
          have e : g = w.heap.size := Option.some.inj e
          omega)
      obtain ⟨X, hX⟩ : ∃ X, keptA k = X := ⟨_, rfl⟩
      rw [hX] at hen
      have HX := Lib.hid (show (Try.prog.info? 75).map (·.size) = some X.size by rw [← hX, keptA_size _ ko.addr]; exact infoKept)
      have HXZ := Lib.hid (show (keptA Sh.zeroK).size = X.size by rw [← hX, keptA_size _ ko.addr]; rfl)
      have HX1 := Lib.hid (show X.all (·.oneCell') = true by rw [← hX]; exact keptA_one _)
      have HX29 := Lib.hid (show 0 + 29 ≤ X.size by rw [← hX, keptA_size _ ko.addr]; decide)
      obtain ⟨Y, hY⟩ : ∃ Y, cookieA k.c = Y := ⟨_, rfl⟩
      have HXY := Lib.hid (show X.extract 0 (0 + 29) = Y by rw [← hX, ← hY]; exact keptA_cookie _ ko.addr)
      obtain ⟨Z, U, C3, _⟩ := lay_row 75 (keptA Sh.zeroK) X (Below.refl w2.heap.size w2) (Nat.le_refl _)
      have hr3 := hr2.stays C3
      have hown3 := hown2.kept (below_grown C3) (by
        cases hv : v.ownBlock
        · exact .inl rfl
        · exact .inr (by simp))
      have HL3 : Hid (World.rangeLeft _ mb w.heap.size < wr.rangeLeft mb w.heap.size) := Lib.hid (by rw [hr2.left_stays C3]; exact HLT.out)
      have C4 := C2.trans (C3.mono C2.size)
      have hsz3 : w.heap.size + 1 ≤ ((w2.alloc (.cells (keptA Sh.zeroK) 75)).setRow w2.heap.size X).heap.size := by have := U.lt; have := hs2; omega
      clear hs2 hlt hg2 hr2 C3 hX C2 hown2 hown hr hb
      have HYS := Lib.hid (show Y.size = 29 by rw [← hY]; exact cookieA_size _ ko.addr)
      have HY1 := Lib.hid (show ∀ c ∈ [k.c], (cookieA c).all (·.oneCell') = true from fun c _ => cookieA_one c)
      have HYL := Lib.hid (show ∀ c ∈ [k.c], (cookieA c).size = 29 from fun c hc => by rw [List.mem_singleton.1 hc]; exact cookieA_size _ ko.addr)
      have HRY : Hid (∀ W : World, Row (W.alloc (.cells Y 34)) W.heap.size 34 (cookieA k.c)) := Lib.hid (fun W => by rw [hY]; exact Row.new W _ _)
      have HSN : Hid (flat cookieA ((S ++ [k]).map (·.c)) = flat cookieA (S.map (·.c)) ++ flat cookieA [k.c]) := Lib.hid (by rw [List.map_append, flat_append]; rfl)
      obtain ⟨A, c0, rfl⟩ : ∃ A c, v = .slice A S.length c := by
        rcases hown3.2 with ⟨rfl, h0⟩ | ⟨g, cap, cur, rfl, _⟩
        · exact ⟨none, 0, by rw [h0]⟩
        · exact ⟨_, _, rfl⟩
      go_wp2_with (first
        | (refine at_store 75 (.tmp 5) (.tmp 14) rfl ?_; refine wpList_store_row rfl 75 _ _ rfl w2.heap.size X rfl rfl 75 _ Z HX.out HXZ.out HX1.out ?_)
        | (refine at_slot 17 rfl ?_; refine load_part rfl 34 _ rfl w2.heap.size 0 29 rfl U Try.underlying34 rfl infoCookie HX29.out Y HXY.out ?_)
        | (refine at_slot 18 rfl ?_; generalize (World.setRow _ w2.heap.size X) = x3 at *; refine build_slice_one rfl _ rfl Y rfl Try.underlying45 infoCookieZ HYS.out (by decide) (by decide) ?_)
        | (refine at_slot 19 rfl ?_; refine append_lies rfl _ _ rfl Try.underlying45 infoCookieZ (by kernel_rfl) (by decide) (by decide) rfl (hown3.alloc _) rfl HYL.out HY1.out (lies_single (HRY.out _)) ?ca ?cb ?_))
      case ca => omega
      case cb => omega
      intro v' x5 ho5 hg5 hat5
      have C5 := (C4.alloc C4.size (.cells Y 34)).grown hg5 (by have := C4.size; rw [size_allocS]; omega) (fun b e => by have := (hown3.lt b e).1; omega)
      have hne : (Value.slice A S.length c0).ownBlock ≠ some w.heap.size := fun e => by have := (hown3.lt _ e).1; omega
      have hmb := hr3.map
      have hr5 := (hr3.stays ((Below.refl _ x3).alloc (Nat.le_refl _) (.cells Y 34))).kept hg5 (fun e => row_own hown3 hmb e.symm) (fun e => hne e.symm)
      have HL5 : Hid (x5.rangeLeft mb w.heap.size < wr.rangeLeft mb w.heap.size) := Lib.hid (by
        rw [rangeLeft_kept (hr3.stays ((Below.refl _ x3).alloc (Nat.le_refl _) (.cells Y 34))) hg5 (fun e => row_own hown3 hmb e.symm) (fun e => hne e.symm), hr3.left_stays ((Below.refl _ x3).alloc (Nat.le_refl _) (.cells Y 34))]
        exact HL3.out)
      have ho6 : x5.ownsRow (w.heap.size + 1) 34 29 v' (S ++ [k]).length (flat cookieA ((S ++ [k]).map (·.c))) := by
        rw [HSN.out, List.length_append]; exact ho5
      have hsz5 : w.heap.size + 1 ≤ x5.heap.size := by have := hg5.size; rw [size_allocS] at this; omega
      clear ho5 hown3 hg5 hat5 C4 hr3 hmb
      go_wp2
      go_roundw
      case rel => exact ⟨S ++ [k], T', v', rfl, hp2, ho6, hr5, C5, hsz5⟩
      case measure => exact HL5.out
end Go.Proofs.Ytdfcnodlddeccaa
