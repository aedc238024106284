/- The walk of what tells whether a rule can be: the reference's. -/
import Derived.Test.YtnlhniaoaciopaaGreatDoorSuffixes
import Derived.Test.YtnlhniaoaciopaaGreatDoorRefRule
import Derived.Test.YtnlhniaoaciopaaGreatDoorRefRuleLine
import Derived.Test.YtnlhniaoaciopaaGreatDoorSufPlain
import Derived.Test.YtnlhniaoaciopaaGreatDoorRefHostUnder
import Derived.Test.YtnlhniaoaciopaaGreatDoorRefHosts
import Derived.Test.YtnlhniaoaciopaaGreatDoorCells
import Derived.Test.YtnlhniaoaciopaaGreatDoorHosts
import Derived.Test.YtnlhniaoaciopaaGreatDoorRefs6
namespace Go.Proofs.YtnlhniaoaciopaaGreatDoor
open Go.RowKit
set_option maxRecDepth 100000 in
set_option maxHeartbeats 4000000 in
theorem refRuleRight_calls (r : Ru.Rule) (hr : r.name.length ≤ 90000) (w : World) :
    Calls Tryz.prog 27 #[.agg (ruleA r)] w fun e w' => e = .returned (.bool (Sx.right r)) ∧ Below w.heap.size w w' := by
  have z0 := zeroRule
  have htl := Sx.text_size r
  obtain ⟨t, ht⟩ : ∃ t : ByteArray, t = ⟨(Ru.text r).toArray⟩ := ⟨_, rfl⟩
  have htd : t.data.toList = Ru.text r := by rw [ht]
  have hts : t.size ≤ 100000 := by rw [← Oct.length_bytes, htd]; omega
  have H1 := Lib.hid (fun W => refRuleText_calls r W (by omega))
  have H2 := Lib.hid (fun W => refLine_calls t W hts)
  unfold NewText at H1
  rw [← ht] at H1
  rw [htd] at H2
  unfold NewRule at H2
  have HS := Lib.hid (Sx.right_says r)
  have R0 := Row.new w 50 (ruleA r)
  have B0 := (Below.refl w.heap.size w).alloc (Nat.le_refl _) (.cells (ruleA r) 50)
  have HX0 := Lib.hid (show (Tryz.prog.info? 50).map (·.size) = some (ruleA r).size from infoRule)
  rcases Ru.line_cases (Ru.text r) with ⟨x, h1, _⟩ | h1 | h1
  · rw [h1] at H2 HS
    dsimp only at H2 HS
    rw [Bool.true_and] at HS
    rw [HS.out]
    have q := fun W => eql_rule x r W
    obtain ⟨b, hb⟩ : ∃ b, decide (x = r) = b := ⟨_, rfl⟩
    rw [hb] at q ⊢
    have HX1 := Lib.hid (show (Tryz.prog.info? 50).map (·.size) = some (ruleA x).size from infoRule)
    have HZX := Lib.hid (show (ruleA Ru.zero).size = (ruleA x).size from rfl)
    have HO1 := Lib.hid (ruleA_one x)
    generalize ruleA r = R at *
    generalize ruleA x = X at *
    clear ht htd hts h1 HS htl hb
    go_enter Tryz.func27, Tryz.ntmps27
    go_wp2_with (refine at_slot 7 rfl ?_; refine load_row rfl 50 _ rfl w.heap.size rfl R0 Tryz.underlying50 rfl HX0.out ?_)
    generalize w.alloc (.cells R 50) = w0 at *
    refine (H1.out _).mono ?_
    rintro e v1 ⟨rfl, d1⟩
    have R1 := R0.stays d1
    have B1 := B0.trans (d1.mono B0.size)
    clear R0 d1
    go_wp2_with fail
    refine (H2.out _).mono ?_
    rintro e v2 ⟨rfl, d2⟩
    have R2 := R1.stays d2
    have B2 := B1.trans (d2.mono B1.size)
    obtain ⟨T, U, C, L⟩ := lay_row 50 (ruleA Ru.zero) X B2 B2.size
    have R3 := L _ _ _ R2
    clear L R1 R2 B1 d2 B0
    go_wp2_with (first
      | (refine wpList_store_row rfl 50 _ _ rfl v2.heap.size X rfl rfl 50 _ T HX1.out HZX.out HO1.out ?_)
      | (refine at_slot 19 rfl ?_; refine load_row rfl 50 _ rfl v2.heap.size rfl U Tryz.underlying50 rfl HX1.out ?_)
      | (refine at_slot 20 rfl ?_; refine load_row rfl 50 _ rfl w.heap.size rfl R3 Tryz.underlying50 rfl HX0.out ?_))
    go_ret
    exact ⟨rfl, C⟩
  · rw [h1] at H2 HS
    dsimp only at H2 HS
    rw [Bool.false_and] at HS
    rw [HS.out]
    generalize ruleA r = R at *
    clear ht htd hts h1 HS htl
    go_enter Tryz.func27, Tryz.ntmps27
    go_wp2_with (refine at_slot 7 rfl ?_; refine load_row rfl 50 _ rfl w.heap.size rfl R0 Tryz.underlying50 rfl HX0.out ?_)
    generalize w.alloc (.cells R 50) = w0 at *
    refine (H1.out _).mono ?_
    rintro e v1 ⟨rfl, d1⟩
    have B1 := B0.trans (d1.mono B0.size)
    clear R0 d1
    go_wp2_with fail
    refine (H2.out _).mono ?_
    rintro e v2 ⟨rfl, d2⟩
    have B2 := B1.trans (d2.mono B1.size)
    obtain ⟨T, U, C, L⟩ := lay_row 50 (ruleA Ru.zero) (ruleA Ru.zero) B2 B2.size
    clear L B1 d2 B0
    go_wp2_with (first
      | (refine wpList_store_row rfl 50 _ _ rfl v2.heap.size (ruleA Ru.zero) rfl rfl 50 _ T infoRule rfl (ruleA_one _) ?_))
    go_ret
    exact ⟨rfl, C⟩
  · rw [h1] at H2 HS
    dsimp only at H2 HS
    rw [Bool.false_and] at HS
    rw [HS.out]
    generalize ruleA r = R at *
    clear ht htd hts h1 HS htl
    go_enter Tryz.func27, Tryz.ntmps27
    go_wp2_with (refine at_slot 7 rfl ?_; refine load_row rfl 50 _ rfl w.heap.size rfl R0 Tryz.underlying50 rfl HX0.out ?_)
    generalize w.alloc (.cells R 50) = w0 at *
    refine (H1.out _).mono ?_
    rintro e v1 ⟨rfl, d1⟩
    have B1 := B0.trans (d1.mono B0.size)
    clear R0 d1
    go_wp2_with fail
    refine (H2.out _).mono ?_
    rintro e v2 ⟨rfl, d2⟩
    have B2 := B1.trans (d2.mono B1.size)
    obtain ⟨T, U, C, L⟩ := lay_row 50 (ruleA Ru.zero) (ruleA Ru.zero) B2 B2.size
    clear L B1 d2 B0
    go_wp2_with (first
      | (refine wpList_store_row rfl 50 _ _ rfl v2.heap.size (ruleA Ru.zero) rfl rfl 50 _ T infoRule rfl (ruleA_one _) ?_))
    go_ret
    exact ⟨rfl, C⟩
end Go.Proofs.YtnlhniaoaciopaaGreatDoor
/- The walk of the reference's Suffix: all rules are gone through. -/
namespace Go.Proofs.YtnlhniaoaciopaaGreatDoor
open Go.RowKit Go.Maps
def RSufPost (n : Nat) (w : World) (e : Ending) (w' : World) : Prop := e = .returned (.int .i64 (n : Int)) ∧ Below w.heap.size w w'
set_option maxRecDepth 100000 in
set_option maxHeartbeats 8000000 in
theorem refSuffix_calls (rs : List Ru.Rule) (v : Value) (h : Hst.Host) (w : World) (ha : h.addr.length = 16) (hs : h.name.length ≤ 90000) (hv : HoldsRules w v rs) (hn : rs.length ≤ 1000) (hr : ∀ r ∈ rs, r.name.length ≤ 1000) :
    Calls Tryz.prog 12 #[v, .agg (hostA h)] w (RSufPost (Sx.refSuffix rs h) w) := by
  have z0 := zeroRule
  have z1 := zeroHost
  have HH := Lib.hid (show (Tryz.prog.info? 26).map (·.size) = some (hostA h).size by rw [hostA_size h ha]; exact infoHost)
  have HHZ := Lib.hid (show (hostA Hst.zero).size = (hostA h).size by rw [hostA_size h ha]; rfl)
  have H1 := Lib.hid (fun W => refLabels_calls h ha (by omega) W)
  unfold NewTexts at H1
  have R0 := Row.new w 26 (hostA h)
  have B0 := (Below.refl w.heap.size w).alloc (Nat.le_refl _) (.cells (hostA h) 26)
  have HP : Hid (∀ n w', Sx.refSuffix rs h = n → Below w.heap.size w w' → RSufPost (Sx.refSuffix rs h) w (.returned (.int .i64 (n : Int))) w') := Lib.hid (fun n w' e b => by rw [e]; exact ⟨rfl, b⟩)
  generalize RSufPost (Sx.refSuffix rs h) w = post at *
  have HV := Lib.hid hv
  obtain ⟨A, c, rfl, hcells⟩ := hv
  clear hcells
  by_cases hz : Hst.labels h = []
  · have HZ := Lib.hid (HP.out 0 · (by unfold Sx.refSuffix; rw [if_pos hz]))
    rw [hz] at H1
    generalize hostA h = X at *
    clear hz
    go_enter Tryz.func12, Tryz.ntmps12
    go_wp2_with (refine at_slot 12 rfl ?_; refine load_row rfl 26 _ rfl w.heap.size rfl R0 Tryz.underlying26 rfl HH.out ?_)
    generalize w.alloc (.cells X 26) = w0 at *
    refine (H1.out _).mono ?_
    rintro e v1 ⟨v, rfl, hown, d1⟩
    have B1 := B0.trans (d1.mono B0.size)
    obtain ⟨_, ⟨rfl, _⟩ | ⟨g, cap, rfl, _⟩⟩ := texts_two (ls := []) hown
    · go_wp2
      exact HZ.out _ B1
    · go_wp2
      exact HZ.out _ B1
  · have hsu : Sx.refSuffix rs h = Sx.pick (rs.foldl (Sx.refNext h) (1, 0)) := by unfold Sx.refSuffix; rw [if_neg hz]
    have hpos := List.length_pos_iff.2 hz
    obtain ⟨nl, hnl⟩ : ∃ nl, (Hst.labels h).length = nl := ⟨_, rfl⟩
    rw [hnl] at hpos H1
    have hnz : ((nl : Int) == 0) = false := by simp; omega
    have HN : Hid (∀ k r, rs[k]? = some r → (rs.take (k + 1)).foldl (Sx.refNext h) (1, 0) = Sx.refNext h ((rs.take k).foldl (Sx.refNext h) (1, 0)) r) := Lib.hid (fun k r hk => by
      rw [List.take_add_one, hk, List.foldl_append]; rfl)
    obtain ⟨n, hnn⟩ : ∃ n, rs.length = n := ⟨_, rfl⟩
    have HNN := Lib.hid hnn
    have HSU := Lib.hid hsu
    have HRN := Lib.hid hr
    rw [hnn] at hn ⊢
    clear hz hnl hsu hnn hr
    go_enter Tryz.func12, Tryz.ntmps12
    go_wp2_with (refine at_slot 12 rfl ?_; refine load_row rfl 26 _ rfl w.heap.size rfl R0 Tryz.underlying26 rfl HH.out ?_)
    have hlt0 := R0.lt
    generalize w.alloc (.cells (hostA h) 26) = w0 at *
    refine (H1.out _).mono ?_
    rintro e v1 ⟨v, rfl, hown, d1⟩
    have B1 := B0.trans (d1.mono B0.size)
    have R1 := R0.stays d1
    obtain ⟨A2, c2, rfl⟩ : ∃ A2 c2, v = .slice A2 nl c2 := by
      rcases hown.2 with ⟨rfl, h0⟩ | ⟨g, cap, cur, rfl, _⟩
      · exact ⟨none, 0, by rw [h0]⟩
      · exact ⟨_, _, rfl⟩
    clear hown d1 B0 R0 H1 hlt0
    go_wp2_with fail
    go_loopw [5, 6, 18] (fun p s i wr => ∃ (k a b : Nat), k ≤ n ∧ p = .int .i64 (a : Int) ∧ s = .int .i64 (b : Int) ∧ i = .int .i64 (k : Int) ∧ (rs.take k).foldl (Sx.refNext h) (1, 0) = (a, b) ∧ Below w.heap.size w wr ∧ Row wr w.heap.size 26 (hostA h)) (fun _ _ i _ => n - (intOf i).toNat)
    case atStart => exact ⟨0, 1, 0, Nat.zero_le _, rfl, rfl, rfl, rfl, B1, R1⟩
    case round =>
      obtain ⟨k, a, b, hk, rfl, rfl, rfl, hta, hbe, hrow⟩ := hrel
      by_cases hlt : k < n
      · obtain ⟨r, hr⟩ : ∃ r, rs[k]? = some r := ⟨_, List.getElem?_eq_getElem (by rw [HNN.out]; exact hlt)⟩
        obtain ⟨A', c', he, hc'⟩ := HV.out.stays hbe
        have he := Value.slice.inj he
        obtain ⟨rfl, _, rfl⟩ := he
        obtain ⟨g, off, rfl, hgl, hcc, hcell⟩ := hc' (by rw [HNN.out]; omega)
        obtain ⟨h0, h1⟩ := hcell k r hr
        rw [HNN.out] at hcc
        have hrn := HRN.out r (List.mem_of_getElem? hr)
        have HNX := Lib.hid ((HN.out k r hr).trans (by rw [hta]))
        have HRB := Lib.hid (fun W => refRuleRight_calls r (by omega) W)
        clear hc' hcell hta hr
        have HX := Lib.hid (show (Tryz.prog.info? 50).map (·.size) = some (ruleA r).size from infoRule)
        have HZX := Lib.hid (show (ruleA Ru.zero).size = (ruleA r).size from rfl)
        have HO1 := Lib.hid (ruleA_one r)
        obtain ⟨T, U, C, _⟩ := lay_row 50 (ruleA Ru.zero) (ruleA r) (Below.refl wr.heap.size wr) (Nat.le_refl _)
        have hbe2 := hbe.trans (C.mono hbe.size)
        have hrow2 := hrow.stays C
        have HREL : Hid (∀ (pi si : Int) (w' : World), pi = ((Sx.refNext h (a, b) r).1 : Int) → si = ((Sx.refNext h (a, b) r).2 : Int) → Below w.heap.size w w' → Row w' w.heap.size 26 (hostA h) → ∃ (k' a' b' : Nat), k' ≤ n ∧ Value.int .i64 pi = .int .i64 (a' : Int) ∧ Value.int .i64 si = .int .i64 (b' : Int) ∧ Value.int .i64 ((k : Int) + 1) = .int .i64 (k' : Int) ∧ (rs.take k').foldl (Sx.refNext h) (1, 0) = (a', b') ∧ Below w.heap.size w w' ∧ Row w' w.heap.size 26 (hostA h)) :=
          Lib.hid (fun pi si w' h1 h2 hb hR => ⟨k + 1, _, _, by omega, (by rw [h1]; rfl), (by rw [h2]; rfl), by go_num, HNX.out, hb, hR⟩)
        clear HNX hbe
        by_cases hb : Sx.right r = true
        · have hcan := Sx.right_can.1 hb
          have hsl := Oct.split_pos 46 r.name
          have hsf : (Oct.split 46 r.name).length ≤ 254 := by have := Sx.split_few r.name; have := hcan.good.few; omega
          obtain ⟨u, hu⟩ : ∃ u : ByteArray, u = ⟨r.name.toArray⟩ := ⟨_, rfl⟩
          have hud : u.data.toList = r.name := by rw [hu]
          have HSP : Hid (∀ W, Calls Tryz.prog 28 #[.string u, .int .u8 46] W (NewTextsAt W.heap.size (Oct.split 46 r.name) W)) := Lib.hid (fun W => by
            have := (refSplit_calls u 46 W (by have := Oct.length_bytes u; rw [hud] at this; omega)).mono fun _ _ h => h.at_ (Oct.split_pos _ _)
            rw [hud] at this
            exact this)
          have hbh := built_name 1 u
          rw [hud] at hbh
          have HBH := Lib.hid hbh
          have HUN := Lib.hid (fun W => refUnder_calls h ⟨1, r.name, Hst.nil16⟩ ha rfl (by omega) (by show r.name.length ≤ _; omega) W)
          rw [← Hst.under_ref] at HUN
          have HEQ := Lib.hid (fun W => eql_host h ⟨1, r.name, Hst.nil16⟩ ha rfl W)
          have HD := Lib.hid (show (Tryz.prog.info? 26).map (·.size) = some (hostA ⟨1, r.name, Hst.nil16⟩).size by rw [hostA_size _ rfl]; exact infoHost)
          have HDZ := Lib.hid (show (hostA Hst.zero).size = (hostA ⟨1, r.name, Hst.nil16⟩).size by rw [hostA_size _ rfl]; rfl)
          have HDO := Lib.hid (hostA_one ⟨1, r.name, Hst.nil16⟩)
          have HK := Lib.hid hcan.kind
          have HRF : Hid (Sx.refNext h (a, b) r = (if r.kind = 2 ∧ Hst.under h ⟨1, r.name, Hst.nil16⟩ = true then max (if r.kind = 1 ∧ (Hst.under h ⟨1, r.name, Hst.nil16⟩ = true ∨ h = ⟨1, r.name, Hst.nil16⟩) then max a (Oct.split 46 r.name).length else a) ((Oct.split 46 r.name).length + 1)
              else if r.kind = 1 ∧ (Hst.under h ⟨1, r.name, Hst.nil16⟩ = true ∨ h = ⟨1, r.name, Hst.nil16⟩) then max a (Oct.split 46 r.name).length else a,
            if r.kind = 3 ∧ (Hst.under h ⟨1, r.name, Hst.nil16⟩ = true ∨ h = ⟨1, r.name, Hst.nil16⟩) then max b ((Oct.split 46 r.name).length - 1) else b)) := Lib.hid (by unfold Sx.refNext; rw [if_pos hb])
          rw [HRF.out] at HREL
          obtain ⟨un, hun⟩ : ∃ un, Hst.under h ⟨1, r.name, Hst.nil16⟩ = un := ⟨_, rfl⟩
          obtain ⟨eq, heq⟩ : ∃ eq, decide (h = ⟨1, r.name, Hst.nil16⟩) = eq := ⟨_, rfl⟩
          have heq2 : (h = ⟨1, r.name, Hst.nil16⟩) ↔ eq = true := by rw [← heq, decide_eq_true_eq]
          rw [heq] at HEQ
          rw [hun] at HUN
          simp only [hun, heq2] at HREL
          obtain ⟨sc, hsc⟩ : ∃ sc, (Oct.split 46 r.name).length = sc := ⟨_, rfl⟩
          unfold NewTextsAt at HSP
          rw [hsc] at HSP HREL hsl hsf
          have h1u : (ruleA r)[1]? = some (.string u) := by rw [hu]; rfl
          have hku : (ruleA r)[0]? = some (.int .i64 r.kind) := rfl
          rw [hb] at HRB
          have u0 := (U.cell 0).trans hku
          have u1 := (U.cell 1).trans h1u
          clear hun heq heq2 hsc hu hud hcan hb hrow h1u hku hbh HRF
          generalize hostA ⟨1, r.name, Hst.nil16⟩ = D at *
          go_wp2_with (first
            | (refine at_slot 21 rfl ?_; refine load_rule rfl _ rfl g (off + k * 2) rfl r h0 h1 ?_)
            | (refine wpList_store_row rfl 50 _ _ rfl wr.heap.size (ruleA r) rfl rfl 50 _ T HX.out HZX.out HO1.out ?_)
            | (refine at_slot 22 rfl ?_; refine load_row rfl 50 _ rfl wr.heap.size rfl U Tryz.underlying50 rfl HX.out ?_))
          have hg8 := U.lt
          generalize (wr.alloc (.cells (ruleA Ru.zero) 50)).setRow wr.heap.size (ruleA r) = w3 at *
          generalize wr.heap.size = g8 at *
          refine (HRB.out _).mono ?_
          rintro e w4 ⟨rfl, d4⟩
          have hbe4 := hbe2.trans (d4.mono hbe2.size)
          have hrow4 := hrow2.stays d4
          have v0 := (d4.cell (p := ⟨g8, 0, none⟩) hg8).trans u0
          have v1' := (d4.cell (p := ⟨g8, 1, none⟩) hg8).trans u1
          have hg84 : g8 < w4.heap.size := by have := d4.size; omega
          clear T U C hbe2 d4 hrow2 u0 u1 hg8
          go_wp2_with fail
          refine (HSP.out _).mono ?_
          rintro e w5 ⟨gs, cs, rfl, hown5, d5⟩
          have hbe5 := hbe4.trans (d5.mono hbe4.size)
          have hrow5 := hrow4.stays d5
          have x0 := (d5.cell (p := ⟨g8, 0, none⟩) hg84).trans v0
          have x1 := (d5.cell (p := ⟨g8, 1, none⟩) hg84).trans v1'
          have hg85 : g8 < w5.heap.size := by have := d5.size; omega
          clear hbe4 d5 hrow4 v0 v1' hown5 hg84
          obtain ⟨T, U, C, L⟩ := lay_row 26 (hostA Hst.zero) D (Below.refl w5.heap.size w5) (Nat.le_refl _)
          have hbe6 := hbe5.trans (C.mono hbe5.size)
          have hrow6 := hrow5.stays C
          have y0 := (C.cell (p := ⟨g8, 0, none⟩) hg85).trans x0
          have hg86 : g8 < ((w5.alloc (.cells (hostA Hst.zero) 26)).setRow w5.heap.size D).heap.size := by have := C.size; omega
          go_wp2_with (first
            | (refine at_slot 31 rfl ?_; refine build_two rfl 26 0 1 _ _ rfl _ _ rfl rfl D HBH.out ?_)
            | (refine wpList_store_row rfl 26 _ _ rfl w5.heap.size D rfl rfl 26 _ T HD.out HDZ.out HDO.out ?_)
            | (refine at_slot 32 rfl ?_; refine load_row rfl 26 _ rfl w.heap.size rfl hrow6 Tryz.underlying26 rfl HH.out ?_)
            | (refine at_slot 33 rfl ?_; refine load_row rfl 26 _ rfl w5.heap.size rfl U Tryz.underlying26 rfl HD.out ?_))
          have hg10 := U.lt
          generalize (w5.alloc (.cells (hostA Hst.zero) 26)).setRow w5.heap.size D = w6 at *
          generalize w5.heap.size = g10 at *
          refine (HUN.out _).mono ?_
          rintro e w7 ⟨rfl, d7⟩
          have hbe7 := hbe6.trans (d7.mono hbe6.size)
          have hrow7 := hrow6.stays d7
          have U7 := U.stays d7
          have q0 := (d7.cell (p := ⟨g8, 0, none⟩) hg86).trans y0
          clear T U C L hbe6 d7 hrow6 y0 x0 x1 hrow5 hbe5 hg10 hg86 hg85 HSP HRB HUN HBH
          have q := HEQ.out
          rcases HK.out with hk | hk | hk
          · rw [hk] at q0
            simp only [hk] at HREL
            cases un
            · cases eq
              · go_wp2_with (first
                  | (refine at_slot 41 rfl ?_; refine load_row rfl 26 _ rfl w.heap.size rfl hrow7 Tryz.underlying26 rfl HH.out ?_)
                  | (refine at_slot 42 rfl ?_; refine load_row rfl 26 _ rfl g10 rfl U7 Tryz.underlying26 rfl HD.out ?_))
                go_roundw
                case rel => exact HREL.out _ _ _ (by simp <;> omega) (by simp <;> omega) hbe7 hrow7
                case measure => simp [intOf]; omega
              · go_wp2_with (first
                  | (refine at_slot 41 rfl ?_; refine load_row rfl 26 _ rfl w.heap.size rfl hrow7 Tryz.underlying26 rfl HH.out ?_)
                  | (refine at_slot 42 rfl ?_; refine load_row rfl 26 _ rfl g10 rfl U7 Tryz.underlying26 rfl HD.out ?_))
                go_roundw
                case rel => exact HREL.out _ _ _ (by simp <;> omega) (by simp <;> omega) hbe7 hrow7
                case measure => simp [intOf]; omega
            · go_wp2_with (first
                | (refine at_slot 41 rfl ?_; refine load_row rfl 26 _ rfl w.heap.size rfl hrow7 Tryz.underlying26 rfl HH.out ?_)
                | (refine at_slot 42 rfl ?_; refine load_row rfl 26 _ rfl g10 rfl U7 Tryz.underlying26 rfl HD.out ?_))
              go_roundw
              case rel => exact HREL.out _ _ _ (by simp <;> omega) (by simp <;> omega) hbe7 hrow7
              case measure => simp [intOf]; omega
          · rw [hk] at q0
            simp only [hk] at HREL
            cases un
            · go_wp2_with fail
              go_roundw
              case rel => exact HREL.out _ _ _ (by simp <;> omega) (by simp <;> omega) hbe7 hrow7
              case measure => simp [intOf]; omega
            · go_wp2_with fail
              go_roundw
              case rel => exact HREL.out _ _ _ (by simp <;> omega) (by simp <;> omega) hbe7 hrow7
              case measure => simp [intOf]; omega
          · rw [hk] at q0
            simp only [hk] at HREL
            cases un
            · cases eq
              · go_wp2_with (first
                  | (refine at_slot 65 rfl ?_; refine load_row rfl 26 _ rfl w.heap.size rfl hrow7 Tryz.underlying26 rfl HH.out ?_)
                  | (refine at_slot 66 rfl ?_; refine load_row rfl 26 _ rfl g10 rfl U7 Tryz.underlying26 rfl HD.out ?_))
                go_roundw
                case rel => exact HREL.out _ _ _ (by simp <;> omega) (by simp <;> omega) hbe7 hrow7
                case measure => simp [intOf]; omega
              · go_wp2_with (first
                  | (refine at_slot 65 rfl ?_; refine load_row rfl 26 _ rfl w.heap.size rfl hrow7 Tryz.underlying26 rfl HH.out ?_)
                  | (refine at_slot 66 rfl ?_; refine load_row rfl 26 _ rfl g10 rfl U7 Tryz.underlying26 rfl HD.out ?_))
                go_roundw
                case rel => exact HREL.out _ _ _ (by simp <;> omega) (by simp <;> omega) hbe7 hrow7
                case measure => simp [intOf]; omega
            · go_wp2_with (first
                | (refine at_slot 65 rfl ?_; refine load_row rfl 26 _ rfl w.heap.size rfl hrow7 Tryz.underlying26 rfl HH.out ?_)
                | (refine at_slot 66 rfl ?_; refine load_row rfl 26 _ rfl g10 rfl U7 Tryz.underlying26 rfl HD.out ?_))
              go_roundw
              case rel => exact HREL.out _ _ _ (by simp <;> omega) (by simp <;> omega) hbe7 hrow7
              case measure => simp [intOf]; omega
        · have HNO : Hid (Sx.refNext h (a, b) r = (a, b)) := Lib.hid (by unfold Sx.refNext; rw [if_neg hb])
          rw [show Sx.right r = false by simpa using hb] at HRB
          rw [HNO.out] at HREL
          clear hb HNO hrow
          go_wp2_with (first
            | (refine at_slot 21 rfl ?_; refine load_rule rfl _ rfl g (off + k * 2) rfl r h0 h1 ?_)
            | (refine wpList_store_row rfl 50 _ _ rfl wr.heap.size (ruleA r) rfl rfl 50 _ T HX.out HZX.out HO1.out ?_)
            | (refine at_slot 22 rfl ?_; refine load_row rfl 50 _ rfl wr.heap.size rfl U Tryz.underlying50 rfl HX.out ?_))
          generalize (wr.alloc (.cells (ruleA Ru.zero) 50)).setRow wr.heap.size (ruleA r) = w3 at *
          refine (HRB.out _).mono ?_
          rintro e w4 ⟨rfl, d4⟩
          have hbe4 := hbe2.trans (d4.mono hbe2.size)
          have hrow4 := hrow2.stays d4
          clear T U C hbe2 d4 hrow2
          go_wp2
          go_roundw
          case rel => exact HREL.out _ _ _ rfl rfl hbe4 hrow4
          case measure => simp [intOf]; omega
      · obtain rfl : k = n := by omega
        have hfin : Sx.refSuffix rs h = Sx.pick (a, b) := by
          rw [HSU.out, ← hta, List.take_of_length_le (by rw [HNN.out]; exact Nat.le_refl _)]
        by_cases hb0 : 0 < b
        · have hb1 : (0 : Int) < (b : Int) := by omega
          have HF := Lib.hid (HP.out b wr (by rw [hfin]; unfold Sx.pick; rw [if_pos hb0]) hbe)
          clear hfin hta
          go_wp2
          exact HF.out
        · have hb1 : ¬ (0 : Int) < (b : Int) := by omega
          have HF := Lib.hid (HP.out a wr (by rw [hfin]; unfold Sx.pick; rw [if_neg hb0]) hbe)
          clear hfin hta
          go_wp2
          exact HF.out
end Go.Proofs.YtnlhniaoaciopaaGreatDoor
/- The walk of the reference's Tail, of one label at least. -/
namespace Go.Proofs.YtnlhniaoaciopaaGreatDoor
open Go.RowKit
namespace Hst
theorem join_snoc (A : List (List UInt8)) (x : List UInt8) : Lib.join (A ++ [x]) [46] = if A = [] then x else Lib.join A [46] ++ 46 :: x := by
  split
  · rename_i e
    subst e
    rw [List.nil_append, Lib.join_one]
  · rename_i e
    rw [join_app 46 A [x] e (by simp), Lib.join_one]
theorem join_ne {A : List (List UInt8)} (hA : A ≠ []) (h : ∀ p ∈ A, p ≠ []) : Lib.join A [46] ≠ [] := by
  cases A with
  | nil => exact absurd rfl hA
  | cons p r =>
    intro e
    rw [Lib.join_cons] at e
    exact h p (by simp) (List.append_eq_nil_iff.1 e).1
/-- What j of the labels from number m on are joined to. -/
def joined (ls : List (List UInt8)) (m j : Nat) : List UInt8 := Lib.join ((ls.drop m).take j) [46]
theorem joined_step {ls : List (List UInt8)} {m j : Nat} {x : List UInt8} (hx : ls[m + j]? = some x) : joined ls m (j + 1) = if j = 0 then x else joined ls m j ++ 46 :: x := by
  unfold joined
  have e : (ls.drop m).take (j + 1) = (ls.drop m).take j ++ [x] := by rw [List.take_add_one, List.getElem?_drop, hx]; rfl
  rw [e, join_snoc]
  have hl := (List.getElem?_eq_some_iff.1 hx).1
  by_cases hj : j = 0
  · subst hj; rw [if_pos (by simp), if_pos rfl]
  · rw [if_neg hj, if_neg]
    intro k
    have := congrArg List.length k
    rw [List.length_take, List.length_drop, List.length_nil] at this
    omega
theorem joined_ne {ls : List (List UInt8)} {m j : Nat} (h : ∀ p ∈ ls, p ≠ []) (hj : 0 < j) (hm : m < ls.length) : joined ls m j ≠ [] := by
  unfold joined
  refine join_ne ?_ (fun p hp => h p (List.mem_of_mem_drop (List.mem_of_mem_take hp)))
  intro k
  have := congrArg List.length k
  rw [List.length_take, List.length_drop, List.length_nil] at this
  omega
theorem joined_len {ls : List (List UInt8)} {m : Nat} (h : ∀ p ∈ ls, p.length ≤ 63) : ∀ j, (joined ls m j).length ≤ 64 * j
  | 0 => Nat.le_refl _
  | j + 1 => by
    have ih := joined_len (ls := ls) (m := m) h j
    cases hx : ls[m + j]? with
    | none =>
      have e : (ls.drop m).take (j + 1) = (ls.drop m).take j := by rw [List.take_add_one, List.getElem?_drop, hx]; simp
      unfold joined at ih ⊢
      rw [e]; omega
    | some x =>
      have := h x (List.mem_of_getElem? hx)
      rw [joined_step hx]
      split
      · omega
      · rw [List.length_append, List.length_cons]; omega
end Hst
set_option maxRecDepth 100000 in
set_option maxHeartbeats 4000000 in
theorem refTail_calls (h : Hst.Host) (ha : h.addr.length = 16) (hs : h.name.length ≤ 90000) (k : Nat) (hk : 1 ≤ k) (hk2 : k ≤ 1000000) (w : World) :
    Calls Tryz.prog 32 #[.agg (hostA h), .int .i64 (k : Int)] w (TailHost (Hst.tailOf h (k : Int)) w) := by
  have z0 := zeroHost
  have HH := Lib.hid (show (Tryz.prog.info? 26).map (·.size) = some (hostA h).size by rw [hostA_size h ha]; exact infoHost)
  have HHZ := Lib.hid (show (Tryz.prog.info? 26).map (·.size) = some (hostA Hst.zero).size by exact infoHost)
  have H1 := Lib.hid (fun W => refLabels_calls h ha (by omega) W)
  unfold NewTexts at H1
  have hll := Hst.labels_length h
  have hlab : ∀ p ∈ Hst.labels h, p ≠ [] ∧ p.length ≤ 63 := by
    intro p hp
    have hl : Hst.labels h ≠ [] := by intro e; rw [e] at hp; cases hp
    obtain ⟨_, g, _, e⟩ := Hst.labels_good hl
    rw [e] at hp
    have := Hst.lab_facts (List.all_eq_true.1 g.all p hp)
    exact ⟨by intro e; rw [e] at this; simp at this, this.2.1⟩
  have R0 := Row.new w 26 (hostA h)
  have B0 := (Below.refl w.heap.size w).alloc (Nat.le_refl _) (.cells (hostA h) 26)
  by_cases hn : k ≤ (Hst.labels h).length
  · have hT : Hst.tailOf h (k : Int) = some ⟨1, Hst.joined (Hst.labels h) ((Hst.labels h).length - k) k, Hst.nil16⟩ := by
      unfold Hst.tailOf
      rw [if_pos ⟨by omega, by omega⟩]
      unfold Hst.joined
      rw [List.take_of_length_le (by rw [List.length_drop]; omega)]; rfl
    have HPOST : Hid (∀ w' (s : ByteArray), s.data.toList = Hst.joined (Hst.labels h) ((Hst.labels h).length - k) k → Below w.heap.size w w' → TailHost (Hst.tailOf h (k : Int)) w (.returned (.tuple #[.agg (hostA ⟨1, s.data.toList, Hst.nil16⟩), .bool true])) w') := Lib.hid (fun w' s hs hb => by rw [hT, hs]; exact ⟨rfl, hb⟩)
    generalize TailHost (Hst.tailOf h (k : Int)) w = post at *
    clear hT
    generalize Hst.labels h = ls at *
    obtain ⟨L, hL⟩ : ∃ L, ls.length = L := ⟨_, rfl⟩
    rw [hL] at hn hll HPOST H1
    have HL := Lib.hid hL
    have HLB := Lib.hid hlab
    have hn1 : ¬ (k : Int) < 1 := by omega
    have hn2 : ¬ (L : Int) < (k : Int) := by omega
    generalize hostA h = X at *
    clear hL hlab ha
    go_enter Tryz.func32, Tryz.ntmps32
    go_wp2_with (refine at_slot 9 rfl ?_; refine load_row rfl 26 _ rfl w.heap.size rfl (R0.alloc _) Tryz.underlying26 rfl HH.out ?_)
    have hN : (w.alloc (.cells X 26)).heap.size = w.heap.size + 1 := by simp
    generalize w.alloc (.cells X 26) = w0 at *
    have T0 := Row.new w0 26 (hostA Hst.zero)
    have C0 := B0.alloc B0.size (.cells (hostA Hst.zero) 26)
    have s0 : w.heap.size ≤ w.heap.size + 1 := by omega
    generalize w0.alloc (.cells (hostA Hst.zero) 26) = x0 at *
    rw [hN] at T0
    clear hN
    refine (H1.out _).mono ?_
    rintro e v1 ⟨v, rfl, hown, d1⟩
    rcases hown.2 with ⟨_, h0⟩ | ⟨g, cap, cur, rfl, hg, _⟩
    · omega
    have T1 := T0.stays d1
    have C1 := C0.trans (d1.mono C0.size)
    have hcap := own_cap hown
    have HO := Lib.hid hown
    clear hown T0 C0 d1 R0 B0
    go_wp2_with fail
    go_loopw [7, 8] (fun nm i wr => ∃ (j : Nat) (s : ByteArray), j ≤ k ∧ nm = .string s ∧ i = .int .i64 ((L : Int) - (k : Int) + (j : Int)) ∧ s.data.toList = Hst.joined ls (L - k) j ∧ wr = v1) (fun _ i _ => L - (intOf i).toNat)
    case atStart => exact ⟨0, ⟨#[]⟩, Nat.zero_le _, rfl, by go_num, rfl, rfl⟩
    case round =>
      obtain ⟨j, s, hj, rfl, rfl, hsj, rfl⟩ := hrel
      have hlen := Hst.joined_len (m := L - k) (fun p hp => (HLB.out p hp).2) j
      rw [← hsj, Oct.length_bytes] at hlen
      by_cases hlt : j < k
      · obtain ⟨x, hx⟩ : ∃ x, ls[L - k + j]? = some x := ⟨_, List.getElem?_eq_getElem (by rw [HL.out]; omega)⟩
        obtain ⟨t, ht⟩ : ∃ t : ByteArray, t = ⟨x.toArray⟩ := ⟨_, rfl⟩
        have hcell := own_text HO.out hx ht
        have htd : t.data.toList = x := by rw [ht]
        have hts : t.size ≤ 63 := by rw [← Oct.length_bytes, htd]; exact (HLB.out x (List.mem_of_getElem? hx)).2
        have HST := Lib.hid (Hst.joined_step hx)
        have hix : ((L : Int) - (k : Int) + (j : Int)).toNat = L - k + j := by omega
        have hi0 : (0 : Int) ≤ (L : Int) - (k : Int) + (j : Int) := by omega
        have hi1 : (L : Int) - (k : Int) + (j : Int) < (L : Int) := by omega
        have HSJ := Lib.hid hsj
        have HTD := Lib.hid htd
        have hj0 : j = 0 ∨ 0 < j := by omega
        rcases hj0 with rfl | hj0
        · have hs0 : s = ⟨#[]⟩ := by
            have e : s.data.toList = [] := hsj
            cases s with
            | mk d => congr 1; exact Array.ext' e
          subst hs0
          have hcell0 : World.cell? _ ⟨g, L - k, none⟩ = some (.string t) := hcell
          have hix0 : ((L : Int) - (k : Int)).toNat = L - k := by omega
          have hi00 : (0 : Int) ≤ (L : Int) - (k : Int) := by omega
          have hi10 : (L : Int) - (k : Int) < (L : Int) := by omega
          have hc0 : ¬ 9223372036854775807 < (⟨#[]⟩ : ByteArray).size + t.size := by
            show ¬ 9223372036854775807 < 0 + t.size
            omega
          clear hsj ht hx htd hlen hcell hix hi0 hi1
          go_wp2
          go_roundw
          case rel => exact ⟨1, _, by omega, rfl, by go_num, by rw [HST.out, if_pos rfl, ← HTD.out]; simp, trivial⟩
          case measure => simp [intOf]; omega
        · have hne : ¬ s = ⟨#[]⟩ := by
            intro e
            have := Hst.joined_ne (ls := ls) (m := L - k) (j := j) (fun p hp => (HLB.out p hp).1) hj0 (by rw [HL.out]; omega)
            rw [← hsj, e] at this
            exact this rfl
          have hE : s.toList.isEmpty = false := by
            rw [Oct.bytes_data, Bool.eq_false_iff]
            intro e
            rw [List.isEmpty_iff] at e
            have := Hst.joined_ne (ls := ls) (m := L - k) (j := j) (fun p hp => (HLB.out p hp).1) hj0 (by rw [HL.out]; omega)
            rw [← hsj, e] at this
            exact this rfl
          have hc1 : ¬ 9223372036854775807 < s.size + (⟨#[46]⟩ : ByteArray).size := by
            show ¬ 9223372036854775807 < s.size + 1
            omega
          have hc2 : ¬ 9223372036854775807 < (s ++ ⟨#[46]⟩ : ByteArray).size + t.size := by
            rw [ByteArray.size_append]
            show ¬ 9223372036854775807 < s.size + 1 + t.size
            omega
          clear hsj ht hx htd
          go_wp2
          go_roundw
          case rel => exact ⟨j + 1, _, by omega, rfl, by go_num, by rw [HST.out, if_neg (by omega), ← HSJ.out, ← HTD.out]; simp, trivial⟩
          case measure => simp [intOf]; omega
      · obtain rfl : j = k := by omega
        have HB := Lib.hid (built_name 1 s)
        have HXZ := Lib.hid (hostA_size ⟨1, s.data.toList, Hst.nil16⟩ rfl)
        have HF := Lib.hid (HPOST.out _ s hsj (below_setRow C1 s0 (hostA ⟨1, s.data.toList, Hst.nil16⟩)))
        clear hsj
        go_wp2_with (first
          | (refine at_slot 41 rfl ?_; refine build_two rfl 26 0 1 _ _ rfl _ _ rfl rfl (hostA ⟨1, s.data.toList, Hst.nil16⟩) HB.out ?_)
          | (refine wpList_store_row rfl 26 _ _ rfl (w.heap.size + 1) (hostA ⟨1, s.data.toList, Hst.nil16⟩) rfl rfl 26 _ T1 (by rw [HXZ.out]; exact infoHost) rfl (hostA_one _) ?_))
        exact bodyPost_ret (v := .tuple #[.agg (hostA ⟨1, s.data.toList, Hst.nil16⟩), .bool true]) (results_cell_two rfl _ _ (w.heap.size + 1) _ _ _ rfl _ rfl (T1.whole _) Tryz.underlying26 rfl (by rw [HXZ.out]; exact infoHost)) rfl HF.out
  · have hT : Hst.tailOf h (k : Int) = none := Hst.tail_none (by omega)
    have HPOST : Hid (∀ w', Below w.heap.size w w' → TailHost (Hst.tailOf h (k : Int)) w (.returned (.tuple #[.agg (hostA Hst.zero), .bool false])) w') := Lib.hid (fun w' hb => by rw [hT]; exact ⟨rfl, hb⟩)
    generalize TailHost (Hst.tailOf h (k : Int)) w = post at *
    clear hT
    generalize Hst.labels h = ls at *
    obtain ⟨L, hL⟩ : ∃ L, ls.length = L := ⟨_, rfl⟩
    rw [hL] at hn hll H1
    have hn1 : ¬ (k : Int) < 1 := by omega
    have hn2 : (L : Int) < (k : Int) := by omega
    generalize hostA h = X at *
    clear hL hlab ha
    go_enter Tryz.func32, Tryz.ntmps32
    go_wp2_with (refine at_slot 9 rfl ?_; refine load_row rfl 26 _ rfl w.heap.size rfl (R0.alloc _) Tryz.underlying26 rfl HH.out ?_)
    have hN : (w.alloc (.cells X 26)).heap.size = w.heap.size + 1 := by simp
    generalize w.alloc (.cells X 26) = w0 at *
    have T0 := Row.new w0 26 (hostA Hst.zero)
    have C0 := B0.alloc B0.size (.cells (hostA Hst.zero) 26)
    have s0 : w.heap.size ≤ w.heap.size + 1 := by omega
    generalize w0.alloc (.cells (hostA Hst.zero) 26) = x0 at *
    rw [hN] at T0
    clear hN
    refine (H1.out _).mono ?_
    rintro e v1 ⟨v, rfl, hown, d1⟩
    obtain ⟨A, c, rfl⟩ : ∃ A c, v = .slice A L c := by
      rcases hown.2 with ⟨rfl, h0⟩ | ⟨g, cap, cur, rfl, _⟩
      · exact ⟨none, 0, by rw [h0]⟩
      · exact ⟨_, _, rfl⟩
    have T1 := T0.stays d1
    have C1 := C0.trans (d1.mono C0.size)
    clear hown T0 C0 d1 R0 B0
    go_wp2_with (first
      | (refine wpList_store_row rfl 26 _ _ rfl (w.heap.size + 1) (hostA Hst.zero) rfl rfl 26 _ T1 HHZ.out rfl (hostA_one _) ?_))
    exact bodyPost_ret (v := .tuple #[.agg (hostA Hst.zero), .bool false]) (results_cell_two rfl _ _ (w.heap.size + 1) _ _ _ rfl _ rfl (T1.whole _) Tryz.underlying26 rfl HHZ.out) rfl (HPOST.out _ (below_setRow C1 s0 _))
end Go.Proofs.YtnlhniaoaciopaaGreatDoor
/- The walks of the reference's Public and Site. -/
namespace Go.Proofs.YtnlhniaoaciopaaGreatDoor
open Go.RowKit Go.Maps
set_option maxRecDepth 100000 in
set_option maxHeartbeats 8000000 in
theorem refPublic_calls (rs : List Ru.Rule) (v : Value) (h : Hst.Host) (w : World) (ha : h.addr.length = 16) (hs : h.name.length ≤ 90000) (hv : HoldsRules w v rs) (hn : rs.length ≤ 1000) (hr : ∀ r ∈ rs, r.name.length ≤ 1000) :
    Calls Tryz.prog 14 #[v, .agg (hostA h)] w fun e w' => e = .returned (.bool (Sx.isPublic (Sx.refSuffix rs h) h)) ∧ Below w.heap.size w w' := by
  have HH := Lib.hid (show (Tryz.prog.info? 26).map (·.size) = some (hostA h).size by rw [hostA_size h ha]; exact infoHost)
  have H1 := Lib.hid (fun W => refLabels_calls h ha (by omega) W)
  unfold NewTexts at H1
  have H2 := Lib.hid (fun W hV => refSuffix_calls rs v h W ha hs hV hn hr)
  unfold RSufPost at H2
  have R0 := Row.new w 26 (hostA h)
  have B0 := (Below.refl w.heap.size w).alloc (Nat.le_refl _) (.cells (hostA h) 26)
  unfold Sx.isPublic
  generalize Sx.refSuffix rs h = sn at *
  generalize Hst.labels h = ls at *
  obtain ⟨n, hnl⟩ : ∃ n, ls.length = n := ⟨_, rfl⟩
  rw [hnl] at H1 ⊢
  generalize hostA h = X at *
  by_cases hz : 0 < n
  · have hz1 : (0 : Int) < (n : Int) := by omega
    have HE : Hid (((sn : Int) == (n : Int)) = decide (n = sn)) := Lib.hid (by rw [Bool.eq_iff_iff]; simp; omega)
    rw [decide_eq_true hz, Bool.true_and, ← HE.out]
    clear hz hnl
    go_enter Tryz.func14, Tryz.ntmps14
    go_wp2_with (refine at_slot 6 rfl ?_; refine load_row rfl 26 _ rfl w.heap.size rfl R0 Tryz.underlying26 rfl HH.out ?_)
    generalize w.alloc (.cells X 26) = w0 at *
    refine (H1.out _).mono ?_
    rintro e v1 ⟨vl, rfl, hown, d1⟩
    have B1 := B0.trans (d1.mono B0.size)
    have R1 := R0.stays d1
    obtain ⟨A, c, rfl⟩ : ∃ A c, vl = .slice A n c := by
      rcases hown.2 with ⟨rfl, h0⟩ | ⟨g, cap, cur, rfl, _⟩
      · exact ⟨none, 0, by rw [h0]⟩
      · exact ⟨_, _, rfl⟩
    have hV1 := hv.stays B1
    clear hown d1 R0 B0
    go_wp2_with (refine at_slot 13 rfl ?_; refine load_row rfl 26 _ rfl w.heap.size rfl R1 Tryz.underlying26 rfl HH.out ?_)
    refine (H2.out _ hV1).mono ?_
    rintro e v2 ⟨rfl, d2⟩
    have B2 := B1.trans (d2.mono B1.size)
    go_wp2
    go_ret
    exact ⟨rfl, B2⟩
  · have hz1 : ¬ (0 : Int) < (n : Int) := by omega
    rw [decide_eq_false hz, Bool.false_and]
    clear hz hnl
    go_enter Tryz.func14, Tryz.ntmps14
    go_wp2_with (refine at_slot 6 rfl ?_; refine load_row rfl 26 _ rfl w.heap.size rfl R0 Tryz.underlying26 rfl HH.out ?_)
    generalize w.alloc (.cells X 26) = w0 at *
    refine (H1.out _).mono ?_
    rintro e v1 ⟨vl, rfl, hown, d1⟩
    have B1 := B0.trans (d1.mono B0.size)
    obtain ⟨A, c, rfl⟩ : ∃ A c, vl = .slice A n c := by
      rcases hown.2 with ⟨rfl, h0⟩ | ⟨g, cap, cur, rfl, _⟩
      · exact ⟨none, 0, by rw [h0]⟩
      · exact ⟨_, _, rfl⟩
    clear hown d1 R0 B0
    go_wp2
    go_ret
    exact ⟨rfl, B1⟩
set_option maxRecDepth 100000 in
set_option maxHeartbeats 8000000 in
theorem refSite_calls (rs : List Ru.Rule) (v : Value) (h : Hst.Host) (w : World) (ha : h.addr.length = 16) (hs : h.name.length ≤ 2900) (hv : HoldsRules w v rs) (hn : rs.length ≤ 1000) (hr : ∀ r ∈ rs, r.name.length ≤ 1000) :
    Calls Tryz.prog 16 #[v, .agg (hostA h)] w fun e w' => e = .returned (.string ⟨(Sx.site (Sx.refSuffix rs h) h).toArray⟩) ∧ Below w.heap.size w w' := by
  have z0 := zeroHost
  have HH := Lib.hid (show (Tryz.prog.info? 26).map (·.size) = some (hostA h).size by rw [hostA_size h ha]; exact infoHost)
  have R0 := Row.new w 26 (hostA h)
  have B0 := (Below.refl w.heap.size w).alloc (Nat.le_refl _) (.cells (hostA h) 26)
  have c0 : (w.alloc (.cells (hostA h) 26)).cell? ⟨w.heap.size, 0, none⟩ = some (.int .i64 h.kind) := by rw [R0.cell, hostA_kind]
  by_cases hk : h.kind = 1
  · have hsf : Sx.refSuffix rs h ≤ 300000 := by rw [Sx.ref_suffix]; exact Sx.suffix_small _ h
    have H2 := Lib.hid (fun W hV => refSuffix_calls rs v h W ha (by omega) hV hn hr)
    unfold RSufPost at H2
    have hwr : IntKind.i64.wrap ((Sx.refSuffix rs h : Int) + 1) = (Sx.refSuffix rs h : Int) + 1 := by rw [IntKind.wrap_i64]; omega
    have H3 : Hid (∀ W, Calls Tryz.prog 32 #[.agg (hostA h), .int .i64 (IntKind.i64.wrap ((Sx.refSuffix rs h : Int) + 1))] W (TailHost (Hst.tailOf h ((Sx.refSuffix rs h : Int) + 1)) W)) := Lib.hid (fun W => by rw [hwr]; exact refTail_calls h ha (by omega) (Sx.refSuffix rs h + 1) (by omega) (by omega) W)
    clear hwr
    unfold TailHost at H3
    rw [Sx.site_host _ _ hk]
    have hda := Hst.tail_length h ((Sx.refSuffix rs h : Int) + 1)
    generalize Sx.refSuffix rs h = sn at *
    generalize Hst.tailOf h ((sn : Int) + 1) = o at *
    have HD := Lib.hid (show (Tryz.prog.info? 26).map (·.size) = some (hostA (Hst.host o)).size by rw [hostA_size _ hda]; exact infoHost)
    have HZD := Lib.hid (show (hostA Hst.zero).size = (hostA (Hst.host o)).size by rw [hostA_size _ hda]; rfl)
    have HO := Lib.hid (hostA_one (Hst.host o))
    have HN : Hid ((hostA (Hst.host o))[1]? = some (.string ⟨(Hst.host o).name.toArray⟩)) := Lib.hid (hostA_name _)
    generalize (Hst.host o).name = nm at *
    generalize hostA (Hst.host o) = D at *
    have hb0 : ((1 : Int) != 1) = false := rfl
    rw [hk] at c0
    have K0 : KeptS w (hostA h) (w.alloc (.cells (hostA h) 26)) := ⟨R0, B0⟩
    generalize hostA h = X at *
    clear hda
    go_enter Tryz.func16, Tryz.ntmps16
    go_wp2_with fail
    generalize w.alloc (.cells X 26) = w0 at *
    refine wp_region_held_drew (S := KeptS w X) (by kernel_rfl) K0.drew (fun hS => ?_)
    generalize w0.drew = u0 at *
    clear K0 c0 R0 B0
    refine wpAnyH_take (i := 0) rfl (by kernel_rfl) (by kernel_rfl) (by kernel_rfl) (fun _ _ _ h => h) (yields_row (by rfl) _ _ rfl _ rfl (fun _ hS' => hS'.row) Tryz.underlying26 rfl HH.out) (by assumption) ?_
    simp only [Act.put, List.setIfInBounds_toArray, List.set_cons_zero, List.set_cons_succ, List.getElem_toArray, List.getElem_cons_zero]
    refine wpAnyH_take (i := 1) (v := ?_) rfl (by kernel_rfl) (by kernel_rfl) (by kernel_rfl) (fun _ _ _ h => h) (Or.inl ⟨by rfl, ?_⟩) (by assumption) ?_
    rotate_left
    · intro _ _; go_simp; with_reducible rfl
    simp only [Act.put, List.setIfInBounds_toArray, List.set_cons_zero, List.set_cons_succ, List.getElem_toArray, List.getElem_cons_zero, List.getElem_cons_succ]
    refine wpAnyH_take (i := 2) rfl (by kernel_rfl) (by kernel_rfl) (by kernel_rfl) (fun _ _ _ h => h) (yields_row (by rfl) _ _ rfl _ rfl (fun _ hS' => hS'.row) Tryz.underlying26 rfl HH.out) (by assumption) ?_
    simp only [Act.put, List.setIfInBounds_toArray, List.set_cons_zero, List.set_cons_succ, List.getElem_toArray, List.getElem_cons_zero, List.getElem_cons_succ]
    refine wpAnyH_ready (rs := [3, 9]) (by kernel_rfl) (by simp) ((AllReadyH.cons rfl (fun K hK => ?_) (AllReadyH.cons rfl (fun K hK => ?_) AllReadyH.nil)))
    · rw [if_pos (by rfl)]
      go_simp
      refine (H2.out _ (hv.stays hS.below)).mono ?_
      rintro e x1 ⟨rfl, d1⟩
      have S1 := hS.on d1
      go_wp2_with fail
      refine hK.out _ _ S1 (fun _ => ?_)
      clear hK K
      refine wpAnyH_take (i := 4) (v := ?_) rfl (by kernel_rfl) (by kernel_rfl) (by kernel_rfl) (fun _ _ _ h => h) (Or.inl ⟨by rfl, ?_⟩) (by assumption) ?_
      rotate_left
      · intro _ _; go_simp; with_reducible rfl
      simp only [Act.put, List.setIfInBounds_toArray, List.set_cons_zero, List.set_cons_succ, List.getElem_toArray, List.getElem_cons_zero, List.getElem_cons_succ]
      refine wpAnyH_ready (rs := [5, 9]) (by kernel_rfl) (by simp) ((AllReadyH.cons rfl (fun K hK => ?_) (AllReadyH.cons rfl (fun K hK => ?_) AllReadyH.nil)))
      · rw [if_pos (by rfl)]
        go_simp
        refine (H3.out _).mono ?_
        rintro e x2 ⟨rfl, d2⟩
        have S2 := S1.on d2
        go_wp2_with fail
        refine hK.out _ _ S2 (fun _ => ?_)
        clear hK K
        refine wpAnyH_take (i := 6) (v := ?_) rfl (by kernel_rfl) (by kernel_rfl) (by kernel_rfl) (fun _ _ _ h => h) (Or.inl ⟨by rfl, ?_⟩) (by assumption) ?_
        rotate_left
        · intro _ _; go_simp; with_reducible rfl
        simp only [Act.put, List.setIfInBounds_toArray, List.set_cons_zero, List.set_cons_succ, List.getElem_toArray, List.getElem_cons_zero, List.getElem_cons_succ]
        refine wpAnyH_take (i := 7) (v := ?_) rfl (by kernel_rfl) (by kernel_rfl) (by kernel_rfl) (fun _ _ _ h => h) (Or.inl ⟨by rfl, ?_⟩) (by assumption) ?_
        rotate_left
        · intro _ _; go_simp; with_reducible rfl
        simp only [Act.put, List.setIfInBounds_toArray, List.set_cons_zero, List.set_cons_succ, List.getElem_toArray, List.getElem_cons_zero, List.getElem_cons_succ]
        refine wpAnyH_take (i := 8) (v := ?_) rfl (by kernel_rfl) (by kernel_rfl) (by kernel_rfl) (fun _ _ _ h => h) (Or.inl ⟨by rfl, ?_⟩) (by assumption) ?_
        rotate_left
        · intro _ _; go_simp; with_reducible rfl
        simp only [Act.put, List.setIfInBounds_toArray, List.set_cons_zero, List.set_cons_succ, List.getElem_toArray, List.getElem_cons_zero, List.getElem_cons_succ]
        refine wpAnyH_ready (rs := [9]) (by kernel_rfl) (by simp) ((AllReadyH.cons rfl (fun K hK => ?_) AllReadyH.nil))
        rw [if_pos (by rfl)]
        go_simp
        have G3 := Row.new x2 26 (hostA Hst.zero)
        have S3 := S2.alloc (.cells (hostA Hst.zero) 26)
        have L3 := S2.row.lt
        refine hK.out _ _ S3 (fun _ => ?_)
        clear hK K
        obtain ⟨g3, hg3⟩ : ∃ g, g = x2.heap.size := ⟨_, rfl⟩
        rw [← hg3] at G3 L3 ⊢
        clear hg3
        generalize x2.alloc (.cells (hostA Hst.zero) 26) = x3 at *
        refine wpAnyH_ready (rs := [10]) (by kernel_rfl) (by simp) ((AllReadyH.cons rfl (fun K hK => ?_) AllReadyH.nil))
        rw [if_pos (by rfl)]
        refine wp_store_row 26 _ _ rfl g3 D rfl rfl 26 _ G3 HD.out HZD.out HO.out ?_
        have U4 := (G3.whole D).cell 1
        rw [HN.out] at U4
        have S4 := S3.setRow (cs := D) L3
        refine hK.out _ _ S4 (fun _ => ?_)
        clear hK K
        simp only [Act.put]
        refine wpAnyH_take (i := 11) (v := ?_) rfl (by kernel_rfl) (by kernel_rfl) (by kernel_rfl) (fun _ _ _ h => h) (Or.inl ⟨by rfl, ?_⟩) (by assumption) ?_
        rotate_left
        · intro _ _; go_simp; with_reducible rfl
        simp only [Act.put, List.setIfInBounds_toArray, List.set_cons_zero, List.set_cons_succ, List.getElem_toArray, List.getElem_cons_zero, List.getElem_cons_succ]
        refine wpAnyH_done (by kernel_rfl) ?_ _
        go_wp2
        go_ret
        exact ⟨rfl, S4.below⟩
      · rw [if_pos (by rfl)]
        go_simp
        have G5 := Row.new x1 26 (hostA Hst.zero)
        have S5 := S1.alloc (.cells (hostA Hst.zero) 26)
        have L5 := S1.row.lt
        refine hK.out _ _ S5 (fun _ => ?_)
        clear hK K
        obtain ⟨g5, hg5⟩ : ∃ g, g = x1.heap.size := ⟨_, rfl⟩
        rw [← hg5] at G5 L5 ⊢
        clear hg5
        generalize x1.alloc (.cells (hostA Hst.zero) 26) = x5 at *
        refine wpAnyH_ready (rs := [5]) (by kernel_rfl) (by simp) ((AllReadyH.cons rfl (fun K hK => ?_) AllReadyH.nil))
        rw [if_pos (by rfl)]
        go_simp
        refine (H3.out _).mono ?_
        rintro e x6 ⟨rfl, d6⟩
        have S6 := S5.on d6
        have G6 := G5.stays d6
        go_wp2_with fail
        refine hK.out _ _ S6 (fun _ => ?_)
        clear hK K
        refine wpAnyH_take (i := 6) (v := ?_) rfl (by kernel_rfl) (by kernel_rfl) (by kernel_rfl) (fun _ _ _ h => h) (Or.inl ⟨by rfl, ?_⟩) (by assumption) ?_
        rotate_left
        · intro _ _; go_simp; with_reducible rfl
        simp only [Act.put, List.setIfInBounds_toArray, List.set_cons_zero, List.set_cons_succ, List.getElem_toArray, List.getElem_cons_zero, List.getElem_cons_succ]
        refine wpAnyH_take (i := 7) (v := ?_) rfl (by kernel_rfl) (by kernel_rfl) (by kernel_rfl) (fun _ _ _ h => h) (Or.inl ⟨by rfl, ?_⟩) (by assumption) ?_
        rotate_left
        · intro _ _; go_simp; with_reducible rfl
        simp only [Act.put, List.setIfInBounds_toArray, List.set_cons_zero, List.set_cons_succ, List.getElem_toArray, List.getElem_cons_zero, List.getElem_cons_succ]
        refine wpAnyH_take (i := 8) (v := ?_) rfl (by kernel_rfl) (by kernel_rfl) (by kernel_rfl) (fun _ _ _ h => h) (Or.inl ⟨by rfl, ?_⟩) (by assumption) ?_
        rotate_left
        · intro _ _; go_simp; with_reducible rfl
        simp only [Act.put, List.setIfInBounds_toArray, List.set_cons_zero, List.set_cons_succ, List.getElem_toArray, List.getElem_cons_zero, List.getElem_cons_succ]
        refine wpAnyH_ready (rs := [10]) (by kernel_rfl) (by simp) ((AllReadyH.cons rfl (fun K hK => ?_) AllReadyH.nil))
        rw [if_pos (by rfl)]
        refine wp_store_row 26 _ _ rfl g5 D rfl rfl 26 _ G6 HD.out HZD.out HO.out ?_
        have U7 := (G6.whole D).cell 1
        rw [HN.out] at U7
        have S7 := S6.setRow (cs := D) L5
        refine hK.out _ _ S7 (fun _ => ?_)
        clear hK K
        simp only [Act.put]
        refine wpAnyH_take (i := 11) (v := ?_) rfl (by kernel_rfl) (by kernel_rfl) (by kernel_rfl) (fun _ _ _ h => h) (Or.inl ⟨by rfl, ?_⟩) (by assumption) ?_
        rotate_left
        · intro _ _; go_simp; with_reducible rfl
        simp only [Act.put, List.setIfInBounds_toArray, List.set_cons_zero, List.set_cons_succ, List.getElem_toArray, List.getElem_cons_zero, List.getElem_cons_succ]
        refine wpAnyH_done (by kernel_rfl) ?_ _
        go_wp2
        go_ret
        exact ⟨rfl, S7.below⟩
    · rw [if_pos (by rfl)]
      go_simp
      have G8 := Row.new u0 26 (hostA Hst.zero)
      have S8 := hS.alloc (.cells (hostA Hst.zero) 26)
      have L8 := hS.row.lt
      refine hK.out _ _ S8 (fun _ => ?_)
      clear hK K
      obtain ⟨g8, hg8⟩ : ∃ g, g = u0.heap.size := ⟨_, rfl⟩
      rw [← hg8] at G8 L8 ⊢
      clear hg8
      generalize u0.alloc (.cells (hostA Hst.zero) 26) = x8 at *
      refine wpAnyH_ready (rs := [3]) (by kernel_rfl) (by simp) ((AllReadyH.cons rfl (fun K hK => ?_) AllReadyH.nil))
      rw [if_pos (by rfl)]
      go_simp
      refine (H2.out _ (hv.stays S8.below)).mono ?_
      rintro e x9 ⟨rfl, d9⟩
      have S9 := S8.on d9
      have G9 := G8.stays d9
      go_wp2_with fail
      refine hK.out _ _ S9 (fun _ => ?_)
      clear hK K
      refine wpAnyH_take (i := 4) (v := ?_) rfl (by kernel_rfl) (by kernel_rfl) (by kernel_rfl) (fun _ _ _ h => h) (Or.inl ⟨by rfl, ?_⟩) (by assumption) ?_
      rotate_left
      · intro _ _; go_simp; with_reducible rfl
      simp only [Act.put, List.setIfInBounds_toArray, List.set_cons_zero, List.set_cons_succ, List.getElem_toArray, List.getElem_cons_zero, List.getElem_cons_succ]
      refine wpAnyH_ready (rs := [5]) (by kernel_rfl) (by simp) ((AllReadyH.cons rfl (fun K hK => ?_) AllReadyH.nil))
      rw [if_pos (by rfl)]
      go_simp
      refine (H3.out _).mono ?_
      rintro e x10 ⟨rfl, d10⟩
      have S10 := S9.on d10
      have G10 := G9.stays d10
      go_wp2_with fail
      refine hK.out _ _ S10 (fun _ => ?_)
      clear hK K
      refine wpAnyH_take (i := 6) (v := ?_) rfl (by kernel_rfl) (by kernel_rfl) (by kernel_rfl) (fun _ _ _ h => h) (Or.inl ⟨by rfl, ?_⟩) (by assumption) ?_
      rotate_left
      · intro _ _; go_simp; with_reducible rfl
      simp only [Act.put, List.setIfInBounds_toArray, List.set_cons_zero, List.set_cons_succ, List.getElem_toArray, List.getElem_cons_zero, List.getElem_cons_succ]
      refine wpAnyH_take (i := 7) (v := ?_) rfl (by kernel_rfl) (by kernel_rfl) (by kernel_rfl) (fun _ _ _ h => h) (Or.inl ⟨by rfl, ?_⟩) (by assumption) ?_
      rotate_left
      · intro _ _; go_simp; with_reducible rfl
      simp only [Act.put, List.setIfInBounds_toArray, List.set_cons_zero, List.set_cons_succ, List.getElem_toArray, List.getElem_cons_zero, List.getElem_cons_succ]
      refine wpAnyH_take (i := 8) (v := ?_) rfl (by kernel_rfl) (by kernel_rfl) (by kernel_rfl) (fun _ _ _ h => h) (Or.inl ⟨by rfl, ?_⟩) (by assumption) ?_
      rotate_left
      · intro _ _; go_simp; with_reducible rfl
      simp only [Act.put, List.setIfInBounds_toArray, List.set_cons_zero, List.set_cons_succ, List.getElem_toArray, List.getElem_cons_zero, List.getElem_cons_succ]
      refine wpAnyH_ready (rs := [10]) (by kernel_rfl) (by simp) ((AllReadyH.cons rfl (fun K hK => ?_) AllReadyH.nil))
      rw [if_pos (by rfl)]
      refine wp_store_row 26 _ _ rfl g8 D rfl rfl 26 _ G10 HD.out HZD.out HO.out ?_
      have U11 := (G10.whole D).cell 1
      rw [HN.out] at U11
      have S11 := S10.setRow (cs := D) L8
      refine hK.out _ _ S11 (fun _ => ?_)
      clear hK K
      simp only [Act.put]
      refine wpAnyH_take (i := 11) (v := ?_) rfl (by kernel_rfl) (by kernel_rfl) (by kernel_rfl) (fun _ _ _ h => h) (Or.inl ⟨by rfl, ?_⟩) (by assumption) ?_
      rotate_left
      · intro _ _; go_simp; with_reducible rfl
      simp only [Act.put, List.setIfInBounds_toArray, List.set_cons_zero, List.set_cons_succ, List.getElem_toArray, List.getElem_cons_zero, List.getElem_cons_succ]
      refine wpAnyH_done (by kernel_rfl) ?_ _
      go_wp2
      go_ret
      exact ⟨rfl, S11.below⟩
  · have H1 := Lib.hid (fun W => refRight_calls h ha hs W)
    obtain ⟨s, hst⟩ : ∃ s : ByteArray, s = ⟨(Hst.text h).toArray⟩ := ⟨_, rfl⟩
    have H2 := Lib.hid (fun W => refText_calls h ha s hst W)
    have hsi : Sx.site (Sx.refSuffix rs h) h = if Hst.can h = true then Hst.text h else [] := by unfold Sx.site; rw [if_neg hk]
    rw [hsi]
    have hk1 : (h.kind != 1) = true := by simpa using hk
    generalize h.kind = kd at *
    cases hc : Hst.can h with
    | true =>
      rw [hc] at H1
      rw [if_pos rfl, ← hst]
      generalize hostA h = X at *
      clear hc hst hsi hk
      go_enter Tryz.func16, Tryz.ntmps16
      go_wp2_with (refine at_slot 10 rfl ?_; refine load_row rfl 26 _ rfl w.heap.size rfl R0 Tryz.underlying26 rfl HH.out ?_)
      generalize w.alloc (.cells X 26) = w0 at *
      refine (H1.out _).mono ?_
      rintro e v1 ⟨rfl, d1⟩
      have B1 := B0.trans (d1.mono B0.size)
      have R1 := R0.stays d1
      clear d1 R0 B0
      go_wp2_with (refine at_slot 12 rfl ?_; refine load_row rfl 26 _ rfl w.heap.size rfl R1 Tryz.underlying26 rfl HH.out ?_)
      refine (H2.out _).mono ?_
      rintro e v2 ⟨rfl, d2⟩
      have B2 := B1.trans (d2.mono B1.size)
      go_wp2
      go_ret
      exact ⟨rfl, B2⟩
    | false =>
      rw [hc] at H1
      rw [if_neg (by decide)]
      generalize hostA h = X at *
      clear hc hst hsi hk
      go_enter Tryz.func16, Tryz.ntmps16
      go_wp2_with (refine at_slot 10 rfl ?_; refine load_row rfl 26 _ rfl w.heap.size rfl R0 Tryz.underlying26 rfl HH.out ?_)
      generalize w.alloc (.cells X 26) = w0 at *
      refine (H1.out _).mono ?_
      rintro e v1 ⟨rfl, d1⟩
      have B1 := B0.trans (d1.mono B0.size)
      go_wp2
      go_ret
      exact ⟨rfl, B1⟩
end Go.Proofs.YtnlhniaoaciopaaGreatDoor
