/- The walks of a shelf's Oldest and OldestOfAll. -/
import Derived.Test.YtdfcnodlddeccaaShelfAt
import Derived.Test.YtdfcnodlddeccaaShelfCount
import Derived.Shelf.Abstract
namespace Go.Proofs.Ytdfcnodlddeccaa
open Go.RowKit Go.Maps Go.Shelf
set_option maxRecDepth 100000 in
set_option maxHeartbeats 2000000 in
theorem older_calls (a b : Sh.Kept) (ha : a.c.host.addr.length = 16) (hb : b.c.host.addr.length = 16) (w : World) :
    Calls Try.prog 41 #[.agg (keptA a), .agg (keptA b)] w fun e w' => e = .returned (.bool (Sh.less a b)) ∧ Below w.heap.size w w' := by
  have k0 := keptA_cell (cookieA_used a.c ha)
  have k1 := keptA_cell (cookieA_seq a.c ha)
  have l0 := keptA_cell (cookieA_used b.c hb)
  have l1 := keptA_cell (cookieA_seq b.c hb)
  have R0 := Row.new w 75 (keptA a)
  have B0 := (Below.refl w.heap.size w).alloc (Nat.le_refl _) (.cells (keptA a) 75)
  have hN : (w.alloc (.cells (keptA a) 75)).heap.size = w.heap.size + 1 := by simp
  have S0 := Row.new (w.alloc (.cells (keptA a) 75)) 75 (keptA b)
  rw [hN] at S0
  have R1 := R0.alloc (.cells (keptA b) 75)
  have C1 := B0.alloc B0.size (.cells (keptA b) 75)
  have c0 := (R1.cell 27).trans k0
  have c1 := (R1.cell 28).trans k1
  have d0 := (S0.cell 27).trans l0
  have d1 := (S0.cell 28).trans l1
  have HG : Hid (Sh.less a b = (decide (a.c.used < b.c.used) || (decide (a.c.used = b.c.used) && decide (a.c.seq < b.c.seq)))) := Lib.hid (by
    unfold Sh.less
    rw [Bool.eq_iff_iff]; simp)
  generalize Sh.less a b = g at *
  generalize a.c.used = ua at *
  generalize b.c.used = ub at *
  generalize a.c.seq = sa at *
  generalize b.c.seq = sb at *
  clear R0 B0 hN ha hb k0 k1 l0 l1 R1 S0
  generalize keptA a = U at *
  generalize keptA b = V at *
  by_cases h : ua = ub
  · have e1 : (ua != ub) = false := by rw [h]; simp
    have HG2 : Hid (g = decide (sa < sb)) := Lib.hid (by rw [HG.out, decide_eq_false (by omega), decide_eq_true h]; rfl)
    clear h HG
    go_enter Try.func41, Try.ntmps41
    go_wp2
    go_ret
    exact ⟨by rw [HG2.out]; rfl, C1⟩
  · have e1 : (ua != ub) = true := by rw [bne_iff_ne]; exact h
    have HG2 : Hid (g = decide (ua < ub)) := Lib.hid (by rw [HG.out, decide_eq_false h, Bool.false_and, Bool.or_false])
    clear h HG
    go_enter Try.func41, Try.ntmps41
    go_wp2
    go_ret
    exact ⟨by rw [HG2.out]; rfl, C1⟩
/-- Which are asked for: all. -/
theorem every_calls (k : Sh.Kept) (w : World) :
    Calls Try.prog 36 #[.agg (keptA k)] w fun e w' => e = .returned (.bool true) ∧ Below w.heap.size w w' := by
  have C1 := (Below.refl w.heap.size w).alloc (Nat.le_refl _) (.cells (keptA k) 75)
  generalize keptA k = U at *
  go_enter Try.func36, Try.ntmps36
  go_wp2
  go_ret
  exact ⟨rfl, C1⟩
/-- Which are asked for: those of a site. -/
theorem ofSite_calls (k : Sh.Kept) (ha : k.c.host.addr.length = 16) (site : ByteArray) (g : Nat) (w : World) (hg : w.cell? ⟨g, 0, none⟩ = some (.string site)) (hgl : g < w.heap.size) :
    Calls Try.prog 37 #[.agg (keptA k), .pointer (some ⟨g, 0, none⟩)] w fun e w' => e = .returned (.bool (decide (k.site = site.data.toList))) ∧ Below w.heap.size w w' := by
  have C1 := (Below.refl w.heap.size w).alloc (Nat.le_refl _) (.cells (keptA k) 75)
  have R1 := Row.new w 75 (keptA k)
  have c29 : (w.alloc (.cells (keptA k) 75)).cell? ⟨w.heap.size, 29, none⟩ = some (.string ⟨k.site.toArray⟩) := (R1.cell 29).trans (keptA_site k ha)
  have d0 := (C1.cell (p := ⟨g, 0, none⟩) hgl).trans hg
  have he := text_eqb k.site site
  have HQ : Hid (∀ b, decide (k.site = site.data.toList) = b → Ending.returned (.bool b) = .returned (.bool (decide (k.site = site.data.toList)))) := Lib.hid (fun b h => by rw [h])
  clear R1
  generalize decide (k.site = site.data.toList) = q at *
  generalize (⟨k.site.toArray⟩ : ByteArray) = u at *
  generalize keptA k = U at *
  go_enter Try.func37, Try.ntmps37
  go_wp2
  go_ret
  exact ⟨HQ.out _ rfl, C1⟩
theorem grownBy_rowS (w : World) (b : Nat) (cs : Array Value) : w.grownBy (w.setRow b cs) (some b) :=
  ⟨rfl, rfl, rfl, by rw [size_setRow]; exact Nat.le_refl _, fun k _ hk => setRow_other w b k cs (fun e => hk (by rw [e]))⟩
theorem apart_of {S T' L : List Sh.Kept} {k first : Sh.Kept} (hp : ((S ++ [k]) ++ T').Perm L) (hL : Apart L) (hf : first ∈ S) : Ma.key first.c k.c = false := by
  have h := hL.perm hp.symm
  have h2 := (List.pairwise_append.1 h).1
  exact (List.pairwise_append.1 h2).2.2 first hf k (by simp)
theorem seq_apart {S T' : List Sh.Kept} {s : Sh.Shelf} {k first : Sh.Kept} (hw : Sh.Well s) (hp : ((S ++ [k]) ++ T').Perm s.l) (hf : first ∈ S) : k.c.seq ≠ first.c.seq := by
  intro e
  have hk : k ∈ s.l := hp.mem_iff.1 (by simp)
  have hfl : first ∈ s.l := hp.mem_iff.1 (by simp [hf])
  have := hw.one hk hfl e
  subst this
  have h := apart_of hp hw.keys hf
  rw [Ma.key_self] at h
  cases h
def OldPost (p : Sh.Kept → Bool) (s : Sh.Shelf) (w : World) (e : Ending) (w' : World) : Prop :=
  e = .returned (.tuple #[.agg (cookieA ((Sh.oldest p s).getD Ma.zeroC)), .bool (Sh.oldest p s).isSome]) ∧ Below w.heap.size w w'
/-- What the loop keeps. -/
structure OldAt (p : Sh.Kept → Bool) (s : Sh.Shelf) (w : World) (mb rb : Nat) (S T : List Sh.Kept) (first : Sh.Kept) (found : Bool) (wr : World) : Prop where
  perm : (S ++ T).Perm s.l
  least : Sh.Least p S first found
  zero : found = false → first = Sh.zeroK
  row : Row wr (w.heap.size + 1) 75 (keptA first)
  out : Row wr w.heap.size 34 (cookieA Ma.zeroC)
  rng : Rng wr mb rb s.l.length s.l T
  below : Below w.heap.size w wr
theorem OldAt.in_ {p : Sh.Kept → Bool} {s : Sh.Shelf} {w : World} {mb rb : Nat} {S T : List Sh.Kept} {first : Sh.Kept} {found : Bool} {wr : World} (h : OldAt p s w mb rb S T first found wr) (hf : found = true) : first ∈ S := by
  rcases h.least with ⟨h0, _⟩ | ⟨_, h1, _⟩
  · rw [hf] at h0; cases h0
  · exact h1
theorem OldAt.addr {p : Sh.Kept → Bool} {s : Sh.Shelf} {w : World} {mb rb : Nat} {S T : List Sh.Kept} {first : Sh.Kept} {found : Bool} {wr : World} (h : OldAt p s w mb rb S T first found wr) (ho : AllOk s.l) : first.c.host.addr.length = 16 := by
  cases found with
  | false => rw [h.zero rfl]; rfl
  | true => exact (ho first (h.perm.mem_iff.1 (by simp [h.in_ rfl]))).addr
set_option maxRecDepth 100000 in
set_option maxHeartbeats 8000000 in
theorem oldest_calls (p : Sh.Kept → Bool) (g : Nat) (cb : Array Value) {sb mb : Nat} {s : Sh.Shelf} (w : World) (h : ShelfAt w sb mb s) (eg : ∀ args w, (callFunc g args).run Try.prog w = .ok (.enter g args) w)
    (HF : ∀ k ∈ s.l, ∀ W, Below w.heap.size w W → Calls Try.prog g (#[.agg (keptA k)] ++ cb) W fun e w' => e = .returned (.bool (p k)) ∧ Below W.heap.size W w') :
    Calls Try.prog 35 #[.pointer (some ⟨sb, 0, none⟩), .func (.func g) #[] cb] w (OldPost p s w) := by
  have z1 := zeroKept
  have z2 := zeroCookie
  have HM := Lib.hid h
  have HW := Lib.hid h.well
  have HOK := Lib.hid h.okay
  have HP : Hid (∀ S first found W Y, (S ++ []).Perm s.l → Sh.Least p S first found → (found = false → first = Sh.zeroK) → Y = cookieA first.c → Below w.heap.size w W → OldPost p s w (.returned (.tuple #[.agg Y, .bool found])) W) := Lib.hid (fun S first found W Y hp hl hz hY hb => by
    rw [List.append_nil] at hp
    have e := Sh.oldest_least h.well (hl.perm hp)
    unfold OldPost
    rw [e, hY]
    cases found with
    | false => rw [hz rfl]; exact ⟨rfl, hb⟩
    | true => exact ⟨rfl, hb⟩)
  generalize OldPost p s w = post at *
  have HG := Lib.hid HF
  have c0 := h.cell0
  -- the two variables
  have T4 := Row.new w 34 (cookieA Ma.zeroC)
  have B4 := (Below.refl w.heap.size w).alloc (Nat.le_refl _) (.cells (cookieA Ma.zeroC) 34)
  have hN : (w.alloc (.cells (cookieA Ma.zeroC) 34)).heap.size = w.heap.size + 1 := by simp
  have T6 := Row.new (w.alloc (.cells (cookieA Ma.zeroC) 34)) 75 (keptA Sh.zeroK)
  rw [hN] at T6
  have T5 := T4.alloc (.cells (keptA Sh.zeroK) 75)
  have B6 := B4.alloc B4.size (.cells (keptA Sh.zeroK) 75)
  have HS2 : Hid (((w.alloc (.cells (cookieA Ma.zeroC) 34)).alloc (.cells (keptA Sh.zeroK) 75)).heap.size = w.heap.size + 2) := Lib.hid (by simp)
  have H6 := h.stays B6
  have c6 := H6.cell0
  clear HF h c0 T4 B4 hN
  go_enter Try.func35, Try.ntmps35
  go_wp2_with (at_range; refine range_shelf rfl _ rfl rfl H6.map H6.keys H6.okay ?_; intro w1 hr1 hg1 hs1)
  go_frame
  have C1 : Below w.heap.size w w1 := B6.grown hg1 (by rw [HS2.out]; omega) (fun _ e => by cases e)
  have R1 := (hg1.block _ T6.lt (by simp)).trans T6
  have O1 := (hg1.block _ T5.lt (by simp)).trans T5
  generalize hrb : ((w.alloc (.cells (cookieA Ma.zeroC) 34)).alloc (.cells (keptA Sh.zeroK) 75)).heap.size = rb at *
  have HRB : Hid (rb = w.heap.size + 2) := HS2
  have HST : Hid (OldAt p s w mb rb [] s.l Sh.zeroK false w1) := Lib.hid ⟨List.Perm.refl _, Sh.least_start p _, fun _ => rfl, R1, O1, hr1, C1⟩
  clear hs1 c6 hg1 H6 B6 T5 T6 C1 R1 O1 hr1 hrb HS2
  go_loopw [7] (fun v wr => ∃ S T first found, v = .bool found ∧ OldAt p s w mb rb S T first found wr) (fun _ wr => wr.rangeLeft mb rb)
  case atStart => exact ⟨_, _, _, _, rfl, HST.out⟩
  case round =>
    obtain ⟨S, T, first, found, rfl, hat⟩ := hrel
    clear HST
    have fa := hat.addr HOK.out
    have HA := Lib.hid hat
    obtain ⟨XF, hXF⟩ : ∃ X, keptA first = X := ⟨_, rfl⟩
    have HXF := Lib.hid (show (Try.prog.info? 75).map (·.size) = some XF.size by rw [← hXF, keptA_size _ fa]; exact infoKept)
    have HX30 := Lib.hid (show XF.size = 30 by rw [← hXF, keptA_size _ fa])
    have R0 := hat.row
    rw [hXF] at R0
    have O0 := hat.out
    have hr0 := hat.rng
    have b0 := hat.below
    clear hat
    go_wp2_with (first | (at_next; refine next_shelf rfl _ rfl rfl hr0 ?_ ?_))
    · rintro rfl
      obtain ⟨Y, hY⟩ : ∃ Y, cookieA first.c = Y := ⟨_, rfl⟩
      have HXY := Lib.hid (show XF.extract 0 (0 + 29) = Y by rw [← hXF, ← hY]; exact keptA_cookie _ fa)
      have HY := Lib.hid (show (Try.prog.info? 34).map (·.size) = some Y.size by rw [← hY, cookieA_size _ fa]; exact infoCookie)
      have HYZ := Lib.hid (show (cookieA Ma.zeroC).size = Y.size by rw [← hY, cookieA_size _ fa]; rfl)
      have HY1 := Lib.hid (show Y.all (·.oneCell') = true by rw [← hY]; exact cookieA_one _)
      have HE := Lib.hid (fun W hb => HP.out S first found W Y HA.out.perm HA.out.least HA.out.zero hY.symm hb)
      clear hY hXF HP
      go_wp2_with (first
        | (refine at_slot 33 rfl ?_; refine load_part rfl 34 _ rfl (w.heap.size + 1) 0 29 rfl R0 Try.underlying34 rfl infoCookie (by rw [HX30.out]; decide) Y HXY.out ?_)
        | (refine wpList_store_row rfl 34 _ _ rfl w.heap.size Y rfl rfl 34 _ O0 HY.out HYZ.out HY1.out ?_))
      exact bodyPost_ret (v := .tuple #[.agg Y, .bool found]) (results_cell_two rfl _ _ w.heap.size _ _ _ rfl _ rfl (O0.whole _) Try.underlying34 rfl HY.out) rfl (HE.out _ (below_setRow b0 (Nat.le_refl _) _))
    · intro k T' w2 hpt hr2 hlt hg2 hs2 hen
      obtain ⟨hp2, hkm⟩ := mem_left HA.out.perm hpt
      have ko := HOK.out k hkm
      have HLT := Lib.hid hlt
      have hb0s := b0.size
      have C2 : Below w.heap.size w w2 := b0.grown hg2 b0.size (fun b e => by have := Option.some.inj e; have := HRB.out; omega)
      have R2 := (hg2.block _ R0.lt (fun e => by have := Option.some.inj e; have := HRB.out; omega)).trans R0
      have O2 := (hg2.block _ O0.lt (fun e => by have := Option.some.inj e; have := HRB.out; omega)).trans O0
      obtain ⟨X, hX⟩ : ∃ X, keptA k = X := ⟨_, rfl⟩
      rw [hX] at hen
      have HX := Lib.hid (show (Try.prog.info? 75).map (·.size) = some X.size by rw [← hX, keptA_size _ ko.addr]; exact infoKept)
      have HXZ := Lib.hid (show (keptA Sh.zeroK).size = X.size by rw [← hX, keptA_size _ ko.addr]; rfl)
      have HX1 := Lib.hid (show X.all (·.oneCell') = true by rw [← hX]; exact keptA_one _)
      have HXX := Lib.hid (show XF.size = X.size by rw [HX30.out, ← hX, keptA_size _ ko.addr])
      have HC1 := Lib.hid (fun W hW => HG.out k hkm W hW)
      rw [hX] at HC1
      have HC2 := Lib.hid (fun W => older_calls k first ko.addr fa W)
      rw [hX, hXF] at HC2
      have HNE := Lib.hid (fun hf : found = true => seq_apart HW.out hp2 (HA.out.in_ hf))
      have HLS := Lib.hid (Sh.least_step HA.out.least HNE.out)
      obtain ⟨Z, U, C3, L3⟩ := lay_row 75 (keptA Sh.zeroK) X (Below.refl w2.heap.size w2) (Nat.le_refl _)
      have R3 := L3 _ _ _ R2
      have O3 := L3 _ _ _ O2
      have hr3 := hr2.stays C3
      have HL3 : Hid (World.rangeLeft _ mb rb < wr.rangeLeft mb rb) := Lib.hid (by rw [hr2.left_stays C3]; exact HLT.out)
      have C4 := C2.trans (C3.mono C2.size)
      clear hs2 hlt hg2 hr2 L3 C3 C2 R2 O2 R0 O0 hr0 b0 hb0s HLT HG HP
      go_wp2_with (first
        | (refine at_store 75 (.tmp 9) (.tmp 18) rfl ?_; refine wpList_store_row rfl 75 _ _ rfl w2.heap.size X rfl rfl 75 _ Z HX.out HXZ.out HX1.out ?_)
        | (refine at_slot 20 rfl ?_; refine load_row rfl 75 _ rfl w2.heap.size rfl U Try.underlying75 rfl HX.out ?_))
      have hg9 := U.lt
      generalize (World.setRow _ w2.heap.size X) = x3 at *
      generalize w2.heap.size = g9 at *
      have hU0 : w.heap.size + 1 < x3.heap.size := R3.lt
      cases hpk : p k with
      | false =>
        rw [hpk] at HC1 HLS
        have HLS2 : Hid (Sh.Least p (S ++ [k]) first found) := Lib.hid (by have := HLS.out; simpa using this)
        clear HLS
        refine (HC1.out x3 C4).mono ?_
        rintro e x4 ⟨rfl, d4⟩
        have HR : Hid (OldAt p s w mb rb (S ++ [k]) T' first found x4) := Lib.hid ⟨hp2, HLS2.out, HA.out.zero, by rw [hXF]; exact R3.stays d4, O3.stays d4, hr3.stays d4, C4.trans (d4.mono C4.size)⟩
        have HM4 : Hid (x4.rangeLeft mb rb < wr.rangeLeft mb rb) := Lib.hid (by rw [hr3.left_stays d4]; exact HL3.out)
        clear d4 hr3 C4 R3 O3 U Z HL3
        go_wp2
        go_roundw
        case rel => exact ⟨_, _, _, _, rfl, HR.out⟩
        case measure => exact HM4.out
      | true =>
        rw [hpk] at HC1 HLS
        have HSTO : Hid (∀ y, Below x3.heap.size x3 y → Row y (w.heap.size + 1) 75 XF → Below w.heap.size w y → Sh.Least p (S ++ [k]) k true → OldAt p s w mb rb (S ++ [k]) T' k true (y.setRow (w.heap.size + 1) X) ∧ (y.setRow (w.heap.size + 1) X).rangeLeft mb rb < wr.rangeLeft mb rb) := Lib.hid (fun y hy hR hw hl => by
          have hry := hr3.stays hy
          have hMl := hry.map.lt
          have hgr := grownBy_rowS y (w.heap.size + 1) X
          have hmne : mb ≠ w.heap.size + 1 := by have := HM.out.map.lt; omega
          have hrne : rb ≠ w.heap.size + 1 := by have := HRB.out; omega
          refine ⟨⟨hp2, hl, (fun h => by cases h), by rw [hX]; exact hR.whole X, (O3.stays hy).aside (by omega) X, hry.kept hgr (fun e => hmne (Option.some.inj e)) (fun e => hrne (Option.some.inj e)), below_setRow hw (by omega) X⟩, ?_⟩
          rw [rangeLeft_kept hry hgr (fun e => hmne (Option.some.inj e)) (fun e => hrne (Option.some.inj e)), hr3.left_stays hy]
          exact HL3.out)
        cases found with
        | false =>
          have HLS2 : Hid (Sh.Least p (S ++ [k]) k true) := Lib.hid (by have := HLS.out; simpa using this)
          clear HLS
          refine (HC1.out x3 C4).mono ?_
          rintro e x4 ⟨rfl, d4⟩
          have R4 := R3.stays d4
          have U4 := U.stays d4
          have HSS := Lib.hid (HSTO.out x4 d4 R4 (C4.trans (d4.mono C4.size)) HLS2.out)
          clear d4 hr3 C4 R3 O3 U Z HL3 HSTO HLS2
          go_wp2_with (first
            | (refine at_slot 31 rfl ?_; refine load_row rfl 75 _ rfl g9 rfl U4 Try.underlying75 rfl HX.out ?_)
            | (refine at_store 75 (.tmp 6) (.tmp 31) rfl ?_; refine wpList_store_row rfl 75 _ _ rfl (w.heap.size + 1) X rfl rfl 75 _ R4 HX.out HXX.out HX1.out ?_))
          go_roundw
          case rel => exact ⟨_, _, _, _, rfl, HSS.out.1⟩
          case measure => exact HSS.out.2
        | true =>
          obtain ⟨q, hq⟩ : ∃ q, Sh.less k first = q := ⟨_, rfl⟩
          rw [hq] at HC2 HLS
          refine (HC1.out x3 C4).mono ?_
          rintro e x4 ⟨rfl, d4⟩
          have R4 := R3.stays d4
          have U4 := U.stays d4
          have C5 := C4.trans (d4.mono C4.size)
          clear HC1
          go_wp2_with (first
            | (refine at_slot 26 rfl ?_; refine load_row rfl 75 _ rfl g9 rfl U4 Try.underlying75 rfl HX.out ?_)
            | (refine at_slot 27 rfl ?_; refine load_row rfl 75 _ rfl (w.heap.size + 1) rfl R4 Try.underlying75 rfl HXF.out ?_))
          cases q with
          | false =>
            have HLS2 : Hid (Sh.Least p (S ++ [k]) first true) := Lib.hid (by have := HLS.out; simpa using this)
            clear HLS
            refine (HC2.out x4).mono ?_
            rintro e x5 ⟨rfl, d5⟩
            have d6 := d4.trans (d5.mono d4.size)
            have HR : Hid (OldAt p s w mb rb (S ++ [k]) T' first true x5) := Lib.hid ⟨hp2, HLS2.out, HA.out.zero, by rw [hXF]; exact R3.stays d6, O3.stays d6, hr3.stays d6, C4.trans (d6.mono C4.size)⟩
            have HM4 : Hid (x5.rangeLeft mb rb < wr.rangeLeft mb rb) := Lib.hid (by rw [hr3.left_stays d6]; exact HL3.out)
            clear d4 d5 d6 hr3 C4 C5 R3 R4 O3 U U4 Z HL3 HSTO
            go_wp2
            go_roundw
            case rel => exact ⟨_, _, _, _, rfl, HR.out⟩
            case measure => exact HM4.out
          | true =>
            have HLS2 : Hid (Sh.Least p (S ++ [k]) k true) := Lib.hid (by have := HLS.out; simpa using this)
            clear HLS
            refine (HC2.out x4).mono ?_
            rintro e x5 ⟨rfl, d5⟩
            have d6 := d4.trans (d5.mono d4.size)
            have R5 := R4.stays d5
            have U5 := U4.stays d5
            have HSS := Lib.hid (HSTO.out x5 d6 R5 (C4.trans (d6.mono C4.size)) HLS2.out)
            clear d4 d5 d6 hr3 C4 C5 R3 R4 O3 U U4 Z HL3 HSTO HLS2
            go_wp2_with (first
              | (refine at_slot 31 rfl ?_; refine load_row rfl 75 _ rfl g9 rfl U5 Try.underlying75 rfl HX.out ?_)
              | (refine at_store 75 (.tmp 6) (.tmp 31) rfl ?_; refine wpList_store_row rfl 75 _ _ rfl (w.heap.size + 1) X rfl rfl 75 _ R5 HX.out HXX.out HX1.out ?_))
            go_roundw
            case rel => exact ⟨_, _, _, _, rfl, HSS.out.1⟩
            case measure => exact HSS.out.2
theorem oldest_addr {p : Sh.Kept → Bool} {s : Sh.Shelf} (ho : AllOk s.l) : ((Sh.oldest p s).getD Ma.zeroC).host.addr.length = 16 := by
  cases e : Sh.oldest p s with
  | none => rfl
  | some c =>
    obtain ⟨⟨k, hk, _, rfl⟩, _⟩ := Sh.oldest_some e
    exact (ho k hk).addr
def ofSite (site : List UInt8) (k : Sh.Kept) : Bool := decide (k.site = site)
def everyK (_ : Sh.Kept) : Bool := true
set_option maxRecDepth 100000 in
set_option maxHeartbeats 4000000 in
theorem oldestSite_calls (site : ByteArray) {sb mb : Nat} {s : Sh.Shelf} (w : World) (h : ShelfAt w sb mb s) :
    Calls Try.prog 26 #[.pointer (some ⟨sb, 0, none⟩), .string site] w (OldPost (ofSite site.data.toList) s w) := by
  have z2 := zeroCookie
  have hY := oldest_addr (p := ofSite site.data.toList) h.okay
  have hN : (w.alloc (.cells #[.string site] 9)).heap.size = w.heap.size + 1 := by simp
  have T4 := Row.new (w.alloc (.cells #[.string site] 9)) 34 (cookieA Ma.zeroC)
  rw [hN] at T4
  have S3 := (Row.new w 9 #[.string site]).alloc (.cells (cookieA Ma.zeroC) 34)
  have C1 := ((Below.refl w.heap.size w).alloc (Nat.le_refl _) (.cells #[.string site] 9)).alloc (by rw [hN]; omega) (.cells (cookieA Ma.zeroC) 34)
  have HC := Lib.hid (oldest_calls (ofSite site.data.toList) 37 #[.pointer (some ⟨w.heap.size, 0, none⟩)] _ (h.stays C1) (enters_of Try.func37 (by kernel_rfl) rfl) (fun k hk W hW =>
    ofSite_calls k (h.okay k hk).addr site w.heap.size W (((S3.stays hW).cell 0).trans rfl) (S3.stays hW).lt))
  unfold OldPost at HC ⊢
  generalize (Sh.oldest (ofSite site.data.toList) s).isSome = b at *
  obtain ⟨Y, hYe⟩ : ∃ Y, cookieA ((Sh.oldest (ofSite site.data.toList) s).getD Ma.zeroC) = Y := ⟨_, rfl⟩
  have HY := Lib.hid (show (Try.prog.info? 34).map (·.size) = some Y.size by rw [← hYe, cookieA_size _ hY]; exact infoCookie)
  have HYZ := Lib.hid (show (cookieA Ma.zeroC).size = Y.size by rw [← hYe, cookieA_size _ hY]; rfl)
  have HY1 := Lib.hid (show Y.all (·.oneCell') = true by rw [← hYe]; exact cookieA_one _)
  rw [hYe] at HC ⊢
  clear hYe hY hN S3
  go_enter Try.func26, Try.ntmps26
  go_wp2_with fail
  generalize (w.alloc (.cells #[.string site] 9)).alloc (.cells (cookieA Ma.zeroC) 34) = x1 at *
  refine HC.out.mono ?_
  rintro e x2 ⟨rfl, d2⟩
  have T5 := T4.stays d2
  have C2 := C1.trans (d2.mono C1.size)
  clear HC T4 C1 d2
  go_wp2_with (refine wpList_store_row rfl 34 _ _ rfl (w.heap.size + 1) Y rfl rfl 34 _ T5 HY.out HYZ.out HY1.out ?_)
  exact bodyPost_ret (v := .tuple #[.agg Y, .bool b]) (results_cell_two rfl _ _ (w.heap.size + 1) _ _ _ rfl _ rfl (T5.whole _) Try.underlying34 rfl HY.out) rfl ⟨rfl, below_setRow C2 (Nat.le_succ _) _⟩
set_option maxRecDepth 100000 in
set_option maxHeartbeats 4000000 in
theorem oldestAll_calls {sb mb : Nat} {s : Sh.Shelf} (w : World) (h : ShelfAt w sb mb s) :
    Calls Try.prog 18 #[.pointer (some ⟨sb, 0, none⟩)] w (OldPost everyK s w) := by
  have z2 := zeroCookie
  have hY := oldest_addr (p := everyK) h.okay
  have T4 := Row.new w 34 (cookieA Ma.zeroC)
  have C1 := (Below.refl w.heap.size w).alloc (Nat.le_refl _) (.cells (cookieA Ma.zeroC) 34)
  have HC := Lib.hid (oldest_calls everyK 36 #[] _ (h.stays C1) (enters_of Try.func36 (by kernel_rfl) rfl) (fun k _ W _ => every_calls k W))
  unfold OldPost at HC ⊢
  generalize (Sh.oldest everyK s).isSome = b at *
  obtain ⟨Y, hYe⟩ : ∃ Y, cookieA ((Sh.oldest everyK s).getD Ma.zeroC) = Y := ⟨_, rfl⟩
  have HY := Lib.hid (show (Try.prog.info? 34).map (·.size) = some Y.size by rw [← hYe, cookieA_size _ hY]; exact infoCookie)
  have HYZ := Lib.hid (show (cookieA Ma.zeroC).size = Y.size by rw [← hYe, cookieA_size _ hY]; rfl)
  have HY1 := Lib.hid (show Y.all (·.oneCell') = true by rw [← hYe]; exact cookieA_one _)
  rw [hYe] at HC ⊢
  clear hYe hY
  go_enter Try.func18, Try.ntmps18
  go_wp2_with fail
  generalize w.alloc (.cells (cookieA Ma.zeroC) 34) = x1 at *
  refine HC.out.mono ?_
  rintro e x2 ⟨rfl, d2⟩
  have T5 := T4.stays d2
  have C2 := C1.trans (d2.mono C1.size)
  clear HC T4 C1 d2
  go_wp2_with (refine wpList_store_row rfl 34 _ _ rfl w.heap.size Y rfl rfl 34 _ T5 HY.out HYZ.out HY1.out ?_)
  exact bodyPost_ret (v := .tuple #[.agg Y, .bool b]) (results_cell_two rfl _ _ w.heap.size _ _ _ rfl _ rfl (T5.whole _) Try.underlying34 rfl HY.out) rfl ⟨rfl, below_setRow C2 (Nat.le_refl _) _⟩
end Go.Proofs.Ytdfcnodlddeccaa
