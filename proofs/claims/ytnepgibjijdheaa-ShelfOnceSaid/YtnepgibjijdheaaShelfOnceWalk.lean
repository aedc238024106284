/- The walk of the law ShelfOnce. -/
import Derived.Test.YtnepgibjijdheaaShelfAlive
import Derived.Test.YtnepgibjijdheaaShelfBoth
import Derived.Test.YtnepgibjijdheaaShelfActs
import Derived.Test.YtnepgibjijdheaaShelfGet
import Derived.Test.YtnepgibjijdheaaShelfDrop
import Derived.Test.YtnepgibjijdheaaCells
import Derived.Test.YtnepgibjijdheaaMatchAhead
import Derived.Test.YtnepgibjijdheaaSpanMore
namespace Go.Proofs.Ytnepgibjijdheaa
open Go.RowKit
theorem seek_new {s : Sh.Shelf} {c : Ma.Cookie} {site : List UInt8} (h : Sh.place s c = none) : Sh.seek (Sh.put s c site).1 c = some ⟨{ c with seq := s.last + 1 }, site⟩ := by
  have h1 := (Sh.place_none h).1
  unfold Sh.put Sh.seek
  rw [h]
  dsimp only
  rw [List.find?_append, List.find?_eq_none.2 (fun k hk => by unfold Sh.hit; rw [h1 k hk]; simp)]
  have h2 : Sh.hit c ⟨{ c with seq := s.last + 1 }, site⟩ = true := Ma.key_self c
  simp [h2]
theorem drop_last (s : Sh.Shelf) (c : Ma.Cookie) : s.last = (Sh.drop s c).1.last := by unfold Sh.drop; split <;> rfl
theorem put_some {s : Sh.Shelf} {c : Ma.Cookie} {site : List UInt8} {i : Nat} (h : Sh.place s c = some i) : (Sh.put s c site).2 = true ∧ s.last = (Sh.put s c site).1.last := by unfold Sh.put; rw [h]; exact ⟨rfl, rfl⟩
theorem put_none {s : Sh.Shelf} {c : Ma.Cookie} {site : List UInt8} (h : Sh.place s c = none) : (Sh.put s c site).2 = false ∧ s.last + 1 = (Sh.put s c site).1.last := by unfold Sh.put; rw [h]; exact ⟨rfl, rfl⟩
/-- The first of a slice, where the walk stands at it. -/
theorem slice_head_step {P : Program} {ops : Array Oper} {Q : Exit → Act → World → Prop} {rest : List Oper} {o : Oper} {a : Act} {w : World} (hw : Region.wanted o (yielded ops a.tmps) = true) (T : TypeId) (x i : Operand) (ho : o.op = .slice T x none (some i) none) (V : Value) (hx : a.eval x = V) (h : Value) (hi : a.eval i = h) (R : Value)
    (hr : ∀ w, (Instr.sliceAt T V none (some h) none).run P w = .ok R w) (hK : wpList P ops Q rest (a.put o.dst R) w) : wpList P ops Q (o :: rest) a w := by
  refine wpList_step fun K hK' => ?_
  simp only [hw, if_true]
  unfold Oper.wp execOp
  simp only [ho, hx, hi, Option.map_none, Option.map_some, Sem.run_bind, hr, Result.andThen_ok]
  exact hK' _ _ hK
set_option maxRecDepth 100000 in
set_option maxHeartbeats 16000000 in
theorem sonce_walk (acts : List Sh.Act) (w : World) {v : Value} (hv : Lies actA w v acts ∧ acts.length ≤ maxLen ∧ ∀ x ∈ acts, ActOk x) :
    Calls Try.prog 4 #[v] w fun e w' => e = .returned (.bool true) ∧ Below w.heap.size w w' := by
  obtain ⟨hl, hml, hok⟩ := hv
  have z0 := zeroAct
  have z1 := zeroCookie
  have HV := Lib.hid hl
  have HOK := Lib.hid hok
  have HA := Lib.hid shelf_alive
  have HN := Lib.hid (fun W => newShelf_calls W)
  have HLN := Lib.hid (fun sb mb s W k => @lenShelf_calls sb mb s W k)
  have HZA := Lib.hid (actA_size Sh.zeroAct rfl)
  have HZC := Lib.hid (show (cookieA Ma.zeroC).size = 29 from rfl)
  obtain ⟨A, cp, rfl, hcp, _⟩ := hl
  obtain ⟨n, hnn⟩ : ∃ n, acts.length = n := ⟨_, rfl⟩
  have HNN := Lib.hid hnn
  rw [hnn] at hcp HV hml ⊢
  have hmx : n ≤ 9223372036854775807 := hml
  have C0 := Below.refl w.heap.size w
  clear hnn hml hok
  generalize cookieA Ma.zeroC = ZC at *
  go_enter Try.func4, Try.ntmps4
  go_wp2_with fail
  refine (HA.out _).mono ?_
  rintro e x1 ⟨rfl, d1⟩
  have C1 := C0.trans (d1.mono C0.size)
  clear C0 d1 HA
  by_cases hbig : 40 < n
  · have hbig' : (40 : Int) < (n : Int) := by omega
    go_wp2
    go_ret
    exact ⟨rfl, C1⟩
  have hbig' : ¬ ((40 : Int) < (n : Int)) := by omega
  go_wp2_with fail
  refine (HN.out _).mono ?_
  rintro e x2 ⟨sb, mb, rfl, K2, hsb, hmb, d2⟩
  have C2 := C1.trans (d2.mono C1.size)
  have ws : w.heap.size ≤ sb := by have := C1.size; omega
  have wm : w.heap.size ≤ mb := by have := C1.size; omega
  clear C1 d2 HN hsb hmb
  go_wp2_with fail
  go_loopw [4, 22] (fun m i wr => ∃ (k : Nat) (s : Sh.Shelf), k ≤ n ∧ m = .int .i64 s.last ∧ i = .int .i64 (k : Int) ∧ ShelfAt wr sb mb s ∧ s.last ≤ (k : Int) ∧ Below w.heap.size w wr) (fun _ i _ => n - (intOf i).toNat)
  case atStart => exact ⟨0, Sh.empty, Nat.zero_le _, rfl, rfl, K2, Int.le_refl _, C2⟩
  case round =>
    obtain ⟨k, s, hk, rfl, rfl, K, hla, hb⟩ := hrel
    clear C2 K2
    have hl0 := K.well.last
    by_cases hlt : k < n
    · obtain ⟨x, hx⟩ : ∃ x, acts[k]? = some x := ⟨_, List.getElem?_eq_getElem (by rw [HNN.out]; exact hlt)⟩
      have ko := HOK.out x (List.mem_of_getElem? hx)
      have hca := ko.cookie.host.addr
      have hv2 := HV.out.stays hb
      have hcc := hv2.block.2.1
      obtain ⟨g, off, rfl, hg⟩ := hv2.block.2.2 (by rw [HNN.out]; omega)
      rw [← HNN.out] at hv2
      have HCE := Lib.hid (hv2.one (fun y hy => actA_size y (HOK.out y hy).cookie.host.addr) hx)
      have HD := Lib.hid (fun W (q : ShelfAt W sb mb s) => dropShelf_calls x.c ko.cookie.place W q)
      have HP := Lib.hid (fun W (q : ShelfAt W sb mb s) => putShelf_calls x.c ko.cookie.place ⟨x.site.toArray⟩ ko.site W q (by omega))
      rw [show (⟨x.site.toArray⟩ : ByteArray).data.toList = x.site from rfl] at HP
      have HG := Lib.hid (fun W s1 (q : ShelfAt W sb mb s1) => getShelf_calls x.c ko.cookie.place W q)
      have hk0 : (actA x)[0]? = some (.int .i64 x.kind) := rfl
      have hk30 := actA_site x hca
      unfold strV at hk30
      have HLE := Lib.hid (show 1 + 29 ≤ (actA x).size by rw [actA_size x hca]; decide)
      have HCK := Lib.hid (actA_cookie x hca)
      obtain ⟨Cx, hCx⟩ : ∃ Y, cookieA x.c = Y := ⟨_, rfl⟩
      rw [hCx] at HD HP HG HCK
      obtain ⟨X, hX⟩ : ∃ X, actA x = X := ⟨_, rfl⟩
      rw [hX] at HCE hk0 hk30 HLE HCK
      have HXN := Lib.hid (show (Try.prog.info? 36).map (·.size) = some X.size by rw [← hX, actA_size _ hca]; exact infoAct)
      have HXZ := Lib.hid (show (actA Sh.zeroAct).size = X.size by rw [← hX, actA_size _ hca]; exact HZA.out)
      have HX1 := Lib.hid (show X.all (·.oneCell') = true by rw [← hX]; exact actA_one _)
      generalize (⟨x.site.toArray⟩ : ByteArray) = site at *
      obtain ⟨Z, U, D, L⟩ := lay_row 36 (actA Sh.zeroAct) X (Below.refl wr.heap.size wr) (Nat.le_refl _)
      have K4 := K.stays D
      have C4 := hb.trans (D.mono hb.size)
      have hu : wr.heap.size ≠ sb ∧ wr.heap.size ≠ mb := by have := K.row.lt; have := K.map.lt; omega
      have q0 := (U.cell 0).trans hk0
      have q30 := (U.cell 30).trans hk30
      clear L D hx hv2 hX hb K hg hCx
      by_cases hkind : x.kind = 1
      · go_wp2_with (first
          | (refine at_slot 25 rfl ?_; refine load_span rfl 36 _ rfl g (off + k * 32) rfl X HCE.out Try.underlying36 rfl HXN.out ?_)
          | (refine at_store 36 (.tmp 6) (.tmp 25) rfl ?_; refine wpList_store_row rfl 36 _ _ rfl wr.heap.size X rfl rfl 36 _ Z HXN.out HXZ.out HX1.out ?_)
          | (refine at_slot 31 rfl ?_; refine load_part rfl 34 _ rfl wr.heap.size 1 29 rfl U Try.underlying34 rfl infoCookie HLE.out Cx HCK.out ?_))
        clear Z HCE q0 q30
        generalize (wr.alloc (.cells (actA Sh.zeroAct) 36)).setRow wr.heap.size X = x4 at *
        generalize wr.heap.size = g6 at *
        refine (HD.out x4 K4).mono ?_
        rintro e x7 ⟨rfl, K7, t7⟩
        have C7 := C4.trans (t7.below ws wm C4.size)
        have HM := Lib.hid (drop_last s x.c)
        obtain ⟨s1, hs1⟩ : ∃ z, z = (Sh.drop s x.c).1 := ⟨_, rfl⟩
        rw [← hs1] at K7 HM
        have hla1 : s1.last ≤ ((k + 1 : Nat) : Int) := by rw [← HM.out]; omega
        clear hs1 t7 C4 K4 U HD HP HG hk0 hk30 ko HLE HCK HXN HXZ HX1
        have hcl : (Sh.all s1).length = s1.l.length := by unfold Sh.all; rw [List.length_map]
        go_wp2_with fail
        have HAL := Lib.hid (allShelf_calls x7 K7)
        unfold NewCookies at HAL
        refine HAL.out.mono ?_
        rintro e x9 ⟨v9, rfl, hL9, d9⟩
        have K9 := K7.stays d9
        have C9 := C7.trans (d9.mono C7.size)
        have HAP := Lib.hid (List.pairwise_iff_getElem.1 (Sh.all_apart K9.well))
        have HKO : Hid (∀ c ∈ Sh.all s1, c.host.addr.length = 16) := Lib.hid (fun c hc => by
          obtain ⟨y, hy, rfl⟩ := List.mem_map.1 hc
          exact (K9.okay y hy).addr)
        have HL9 := Lib.hid hL9
        obtain ⟨A9, c9, rfl, hc9, _⟩ := hL9
        generalize Sh.all s1 = cs at *
        obtain ⟨n9, hn9⟩ : ∃ m, cs.length = m := ⟨_, rfl⟩
        have HN9 := Lib.hid hn9
        rw [hn9] at HL9 hc9 ⊢
        have HNB := Lib.hid (show n9 ≤ 9223372036854775807 by
          have h1 := HL9.out
          rw [← hn9] at h1 ⊢
          exact Nat.le_trans (show cs.length ≤ 1000000 by rw [hcl]; exact K9.length) (by decide))
        have hnb := HNB.out
        clear hn9 hcl HAL d9 K7 C7
        go_wp2_with fail
        go_loopw [61] (fun i wr => ∃ (k2 : Nat), k2 ≤ n9 ∧ i = .int .i64 (k2 : Int) ∧ Below x9.heap.size x9 wr) (fun i _ => n9 - (intOf i).toNat)
        case atStart => exact ⟨0, Nat.zero_le _, rfl, Below.refl _ _⟩
        case round =>
          obtain ⟨k2, hk2, rfl, hb2⟩ := hrel
          by_cases hlt2 : k2 < n9
          · obtain ⟨c2, hc2⟩ : ∃ c, cs[k2]? = some c := ⟨_, List.getElem?_eq_getElem (by rw [HN9.out]; exact hlt2)⟩
            have ka2 := HKO.out c2 (List.mem_of_getElem? hc2)
            obtain ⟨g9, o9, rfl, hg9⟩ := HL9.out.block.2.2 (by rw [HN9.out]; omega)
            have HLX : Hid (∀ W, Below x9.heap.size x9 W → ∀ (kk : Nat) c, cs[kk]? = some c → ∀ j u, (cookieA c)[j]? = some u → W.cell? ⟨g9, o9 + kk * 29 + j, none⟩ = some u) := Lib.hid (fun W hW kk c hc => by
              have h1 := HL9.out.stays hW
              rw [← HN9.out] at h1
              exact h1.one (fun y hy => cookieA_size y (HKO.out y hy)) hc)
            have HC2 := Lib.hid (HLX.out _ hb2 k2 c2 hc2)
            have e28 := cookieA_seq c2 ka2
            obtain ⟨X2, hX2⟩ : ∃ X, cookieA c2 = X := ⟨_, rfl⟩
            rw [hX2] at HC2 e28
            have N2 := Lib.hid (show (Try.prog.info? 34).map (·.size) = some X2.size by rw [← hX2, cookieA_size _ ka2]; exact infoCookie)
            have Z2 := Lib.hid (show ZC.size = X2.size by rw [← hX2, cookieA_size _ ka2]; exact HZC.out)
            have O2 := Lib.hid (show X2.all (·.oneCell') = true by rw [← hX2]; exact cookieA_one _)
            have HSL := Lib.hid (show ∀ W, (Instr.sliceAt 45 (.slice (some ⟨g9, o9, none⟩) n9 c9) none (some (.int .i64 (k2 : Int))) none).run Try.prog W = .ok (.slice (some ⟨g9, o9, none⟩) k2 c9) W from fun W => run_slice_head Try.underlying45 infoCookie (by omega) W)
            obtain ⟨Zr, Er, Dr, Lr⟩ := lay_row 34 ZC X2 (Below.refl wr.heap.size wr) (Nat.le_refl _)
            have B3 := hb2.trans (Dr.mono hb2.size)
            have HX2 := Lib.hid hX2
            clear Lr Dr hX2 hb2 hg9
            go_wp2_with (first
              | (refine at_slot 65 rfl ?_; refine load_span rfl 34 _ rfl g9 (o9 + k2 * 29) rfl X2 HC2.out Try.underlying34 rfl N2.out ?_)
              | (refine at_store 34 (.tmp 11) (.tmp 65) rfl ?_; refine wpList_store_row rfl 34 _ _ rfl wr.heap.size X2 rfl rfl 34 _ Zr N2.out Z2.out O2.out ?_)
              | (refine at_slot 68 rfl ?_; refine slice_head_step rfl 45 _ _ rfl (.slice (some ⟨g9, o9, none⟩) n9 c9) rfl (.int .i64 (k2 : Int)) rfl _ HSL.out ?_))
            clear Zr HC2 HSL Z2 O2
            generalize (wr.alloc (.cells ZC 34)).setRow wr.heap.size X2 = x3 at *
            generalize wr.heap.size = g11 at *
            go_loopw [70] (fun j wr2 => ∃ (k3 : Nat), k3 ≤ k2 ∧ j = .int .i64 (k3 : Int) ∧ Below x3.heap.size x3 wr2) (fun j _ => k2 - (intOf j).toNat)
            case atStart => exact ⟨0, Nat.zero_le _, rfl, Below.refl _ _⟩
            case round =>
              obtain ⟨k3, hk3, rfl, hb3⟩ := hrel
              by_cases hlt3 : k3 < k2
              · obtain ⟨c3, hc3⟩ : ∃ c, cs[k3]? = some c := ⟨_, List.getElem?_eq_getElem (by rw [HN9.out]; omega)⟩
                have ka3 := HKO.out c3 (List.mem_of_getElem? hc3)
                have B4 := B3.trans (hb3.mono B3.size)
                have HC3 := Lib.hid (HLX.out _ B4 k3 c3 hc3)
                obtain ⟨l2, e2⟩ := List.getElem?_eq_some_iff.1 hc2
                obtain ⟨l3, e3⟩ := List.getElem?_eq_some_iff.1 hc3
                have hap := HAP.out k3 k2 l3 l2 hlt3
                rw [e2, e3] at hap
                have HKY := Lib.hid (fun W => refKey_calls c2 c3 ka2 ka3 W)
                rw [Sh.key_symm, hap.1] at HKY
                have hsq := hap.2
                have f28 := cookieA_seq c3 ka3
                obtain ⟨X3, hX3⟩ : ∃ X, cookieA c3 = X := ⟨_, rfl⟩
                rw [hX3] at HC3 f28 HKY
                rw [HX2.out] at HKY
                have N3 := Lib.hid (show (Try.prog.info? 34).map (·.size) = some X3.size by rw [← hX3, cookieA_size _ ka3]; exact infoCookie)
                have Z3 := Lib.hid (show ZC.size = X3.size by rw [← hX3, cookieA_size _ ka3]; exact HZC.out)
                have O3 := Lib.hid (show X3.all (·.oneCell') = true by rw [← hX3]; exact cookieA_one _)
                obtain ⟨Zs, Es, Ds, Ls⟩ := lay_row 34 ZC X3 (Below.refl wr.heap.size wr) (Nat.le_refl _)
                have E5 := Ls _ _ _ (Er.stays hb3)
                have B5 := hb3.trans (Ds.mono hb3.size)
                clear Ls Ds hX3 hb3 hap e2 e3 l2 l3 B4
                go_wp2_with (first
                  | (refine at_slot 73 rfl ?_; refine load_span rfl 34 _ rfl g9 (o9 + k3 * 29) rfl X3 HC3.out Try.underlying34 rfl N3.out ?_)
                  | (refine at_store 34 (.tmp 13) (.tmp 73) rfl ?_; refine wpList_store_row rfl 34 _ _ rfl wr.heap.size X3 rfl rfl 34 _ Zs N3.out Z3.out O3.out ?_)
                  | (refine at_slot 74 rfl ?_; refine load_row rfl 34 _ rfl g11 rfl E5 Try.underlying34 rfl N2.out ?_)
                  | (refine at_slot 75 rfl ?_; refine load_row rfl 34 _ rfl wr.heap.size rfl Es Try.underlying34 rfl N3.out ?_))
                clear Zs HC3 Z3 O3
                generalize (wr.alloc (.cells ZC 34)).setRow wr.heap.size X3 = x4 at *
                generalize wr.heap.size = g13 at *
                refine (HKY.out x4).mono ?_
                rintro e x5 ⟨rfl, d5⟩
                have B6 := B5.trans (d5.mono B5.size)
                have r28 := ((E5.stays d5).cell 28).trans e28
                have s28 := ((Es.stays d5).cell 28).trans f28
                have hsq1 : ¬ (c2.seq ≤ c3.seq) := by omega
                have hsq2 : ¬ (c3.seq ≥ c2.seq) := by omega
                clear HKY B5 d5 E5 Es
                go_wp2
                go_roundw
                case rel => exact ⟨k3 + 1, by omega, by go_num, B6⟩
                case measure => simp [intOf]; omega
              · obtain rfl : k3 = k2 := by omega
                have B6 := B3.trans (hb3.mono B3.size)
                go_wp2
                go_roundw
                case rel => exact ⟨k3 + 1, by omega, by go_num, B6⟩
                case measure => simp [intOf]; omega
          · obtain rfl : k2 = n9 := by omega
            have K10 := K9.stays hb2
            have C10 := C9.trans (hb2.mono C9.size)
            go_wp2
            go_roundw
            case rel => exact ⟨k + 1, s1, by omega, by rw [HM.out], by go_num, K10, hla1, C10⟩
            case measure => simp [intOf]; omega
      · cases hpl : Sh.place s x.c with
        | some i =>
          go_wp2_with (first
            | (refine at_slot 25 rfl ?_; refine load_span rfl 36 _ rfl g (off + k * 32) rfl X HCE.out Try.underlying36 rfl HXN.out ?_)
            | (refine at_store 36 (.tmp 6) (.tmp 25) rfl ?_; refine wpList_store_row rfl 36 _ _ rfl wr.heap.size X rfl rfl 36 _ Z HXN.out HXZ.out HX1.out ?_)
            | (refine at_slot 35 rfl ?_; refine load_part rfl 34 _ rfl wr.heap.size 1 29 rfl U Try.underlying34 rfl infoCookie HLE.out Cx HCK.out ?_))
          clear Z HCE q0 q30
          generalize (wr.alloc (.cells (actA Sh.zeroAct) 36)).setRow wr.heap.size X = x4 at *
          generalize wr.heap.size = g6 at *
          refine (HP.out x4 K4).mono ?_
          rintro e x7 ⟨rfl, K7, t7⟩
          have C7 := C4.trans (t7.below ws wm C4.size)
          have HM := Lib.hid (put_some (site := x.site) hpl).2
          have hp2 := (put_some (site := x.site) hpl).1
          rw [hp2]
          obtain ⟨s1, hs1⟩ : ∃ z, z = (Sh.put s x.c x.site).1 := ⟨_, rfl⟩
          rw [← hs1] at K7 HM
          have hla1 : s1.last ≤ ((k + 1 : Nat) : Int) := by rw [← HM.out]; omega
          clear hs1 hp2 hpl t7 C4 K4 U HD HP HG hk0 hk30 ko HLE HCK HXN HXZ HX1
          have hcl : (Sh.all s1).length = s1.l.length := by unfold Sh.all; rw [List.length_map]
          go_wp2_with fail
          have HAL := Lib.hid (allShelf_calls x7 K7)
          unfold NewCookies at HAL
          refine HAL.out.mono ?_
          rintro e x9 ⟨v9, rfl, hL9, d9⟩
          have K9 := K7.stays d9
          have C9 := C7.trans (d9.mono C7.size)
          have HAP := Lib.hid (List.pairwise_iff_getElem.1 (Sh.all_apart K9.well))
          have HKO : Hid (∀ c ∈ Sh.all s1, c.host.addr.length = 16) := Lib.hid (fun c hc => by
            obtain ⟨y, hy, rfl⟩ := List.mem_map.1 hc
            exact (K9.okay y hy).addr)
          have HL9 := Lib.hid hL9
          obtain ⟨A9, c9, rfl, hc9, _⟩ := hL9
          generalize Sh.all s1 = cs at *
          obtain ⟨n9, hn9⟩ : ∃ m, cs.length = m := ⟨_, rfl⟩
          have HN9 := Lib.hid hn9
          rw [hn9] at HL9 hc9 ⊢
          have HNB := Lib.hid (show n9 ≤ 9223372036854775807 by
            have h1 := HL9.out
            rw [← hn9] at h1 ⊢
            exact Nat.le_trans (show cs.length ≤ 1000000 by rw [hcl]; exact K9.length) (by decide))
          have hnb := HNB.out
          clear hn9 hcl HAL d9 K7 C7
          go_wp2_with fail
          go_loopw [61] (fun i wr => ∃ (k2 : Nat), k2 ≤ n9 ∧ i = .int .i64 (k2 : Int) ∧ Below x9.heap.size x9 wr) (fun i _ => n9 - (intOf i).toNat)
          case atStart => exact ⟨0, Nat.zero_le _, rfl, Below.refl _ _⟩
          case round =>
            obtain ⟨k2, hk2, rfl, hb2⟩ := hrel
            by_cases hlt2 : k2 < n9
            · obtain ⟨c2, hc2⟩ : ∃ c, cs[k2]? = some c := ⟨_, List.getElem?_eq_getElem (by rw [HN9.out]; exact hlt2)⟩
              have ka2 := HKO.out c2 (List.mem_of_getElem? hc2)
              obtain ⟨g9, o9, rfl, hg9⟩ := HL9.out.block.2.2 (by rw [HN9.out]; omega)
              have HLX : Hid (∀ W, Below x9.heap.size x9 W → ∀ (kk : Nat) c, cs[kk]? = some c → ∀ j u, (cookieA c)[j]? = some u → W.cell? ⟨g9, o9 + kk * 29 + j, none⟩ = some u) := Lib.hid (fun W hW kk c hc => by
                have h1 := HL9.out.stays hW
                rw [← HN9.out] at h1
                exact h1.one (fun y hy => cookieA_size y (HKO.out y hy)) hc)
              have HC2 := Lib.hid (HLX.out _ hb2 k2 c2 hc2)
              have e28 := cookieA_seq c2 ka2
              obtain ⟨X2, hX2⟩ : ∃ X, cookieA c2 = X := ⟨_, rfl⟩
              rw [hX2] at HC2 e28
              have N2 := Lib.hid (show (Try.prog.info? 34).map (·.size) = some X2.size by rw [← hX2, cookieA_size _ ka2]; exact infoCookie)
              have Z2 := Lib.hid (show ZC.size = X2.size by rw [← hX2, cookieA_size _ ka2]; exact HZC.out)
              have O2 := Lib.hid (show X2.all (·.oneCell') = true by rw [← hX2]; exact cookieA_one _)
              have HSL := Lib.hid (show ∀ W, (Instr.sliceAt 45 (.slice (some ⟨g9, o9, none⟩) n9 c9) none (some (.int .i64 (k2 : Int))) none).run Try.prog W = .ok (.slice (some ⟨g9, o9, none⟩) k2 c9) W from fun W => run_slice_head Try.underlying45 infoCookie (by omega) W)
              obtain ⟨Zr, Er, Dr, Lr⟩ := lay_row 34 ZC X2 (Below.refl wr.heap.size wr) (Nat.le_refl _)
              have B3 := hb2.trans (Dr.mono hb2.size)
              have HX2 := Lib.hid hX2
              clear Lr Dr hX2 hb2 hg9
              go_wp2_with (first
                | (refine at_slot 65 rfl ?_; refine load_span rfl 34 _ rfl g9 (o9 + k2 * 29) rfl X2 HC2.out Try.underlying34 rfl N2.out ?_)
                | (refine at_store 34 (.tmp 11) (.tmp 65) rfl ?_; refine wpList_store_row rfl 34 _ _ rfl wr.heap.size X2 rfl rfl 34 _ Zr N2.out Z2.out O2.out ?_)
                | (refine at_slot 68 rfl ?_; refine slice_head_step rfl 45 _ _ rfl (.slice (some ⟨g9, o9, none⟩) n9 c9) rfl (.int .i64 (k2 : Int)) rfl _ HSL.out ?_))
              clear Zr HC2 HSL Z2 O2
              generalize (wr.alloc (.cells ZC 34)).setRow wr.heap.size X2 = x3 at *
              generalize wr.heap.size = g11 at *
              go_loopw [70] (fun j wr2 => ∃ (k3 : Nat), k3 ≤ k2 ∧ j = .int .i64 (k3 : Int) ∧ Below x3.heap.size x3 wr2) (fun j _ => k2 - (intOf j).toNat)
              case atStart => exact ⟨0, Nat.zero_le _, rfl, Below.refl _ _⟩
              case round =>
                obtain ⟨k3, hk3, rfl, hb3⟩ := hrel
                by_cases hlt3 : k3 < k2
                · obtain ⟨c3, hc3⟩ : ∃ c, cs[k3]? = some c := ⟨_, List.getElem?_eq_getElem (by rw [HN9.out]; omega)⟩
                  have ka3 := HKO.out c3 (List.mem_of_getElem? hc3)
                  have B4 := B3.trans (hb3.mono B3.size)
                  have HC3 := Lib.hid (HLX.out _ B4 k3 c3 hc3)
                  obtain ⟨l2, e2⟩ := List.getElem?_eq_some_iff.1 hc2
                  obtain ⟨l3, e3⟩ := List.getElem?_eq_some_iff.1 hc3
                  have hap := HAP.out k3 k2 l3 l2 hlt3
                  rw [e2, e3] at hap
                  have HKY := Lib.hid (fun W => refKey_calls c2 c3 ka2 ka3 W)
                  rw [Sh.key_symm, hap.1] at HKY
                  have hsq := hap.2
                  have f28 := cookieA_seq c3 ka3
                  obtain ⟨X3, hX3⟩ : ∃ X, cookieA c3 = X := ⟨_, rfl⟩
                  rw [hX3] at HC3 f28 HKY
                  rw [HX2.out] at HKY
                  have N3 := Lib.hid (show (Try.prog.info? 34).map (·.size) = some X3.size by rw [← hX3, cookieA_size _ ka3]; exact infoCookie)
                  have Z3 := Lib.hid (show ZC.size = X3.size by rw [← hX3, cookieA_size _ ka3]; exact HZC.out)
                  have O3 := Lib.hid (show X3.all (·.oneCell') = true by rw [← hX3]; exact cookieA_one _)
                  obtain ⟨Zs, Es, Ds, Ls⟩ := lay_row 34 ZC X3 (Below.refl wr.heap.size wr) (Nat.le_refl _)
                  have E5 := Ls _ _ _ (Er.stays hb3)
                  have B5 := hb3.trans (Ds.mono hb3.size)
                  clear Ls Ds hX3 hb3 hap e2 e3 l2 l3 B4
                  go_wp2_with (first
                    | (refine at_slot 73 rfl ?_; refine load_span rfl 34 _ rfl g9 (o9 + k3 * 29) rfl X3 HC3.out Try.underlying34 rfl N3.out ?_)
                    | (refine at_store 34 (.tmp 13) (.tmp 73) rfl ?_; refine wpList_store_row rfl 34 _ _ rfl wr.heap.size X3 rfl rfl 34 _ Zs N3.out Z3.out O3.out ?_)
                    | (refine at_slot 74 rfl ?_; refine load_row rfl 34 _ rfl g11 rfl E5 Try.underlying34 rfl N2.out ?_)
                    | (refine at_slot 75 rfl ?_; refine load_row rfl 34 _ rfl wr.heap.size rfl Es Try.underlying34 rfl N3.out ?_))
                  clear Zs HC3 Z3 O3
                  generalize (wr.alloc (.cells ZC 34)).setRow wr.heap.size X3 = x4 at *
                  generalize wr.heap.size = g13 at *
                  refine (HKY.out x4).mono ?_
                  rintro e x5 ⟨rfl, d5⟩
                  have B6 := B5.trans (d5.mono B5.size)
                  have r28 := ((E5.stays d5).cell 28).trans e28
                  have s28 := ((Es.stays d5).cell 28).trans f28
                  have hsq1 : ¬ (c2.seq ≤ c3.seq) := by omega
                  have hsq2 : ¬ (c3.seq ≥ c2.seq) := by omega
                  clear HKY B5 d5 E5 Es
                  go_wp2
                  go_roundw
                  case rel => exact ⟨k3 + 1, by omega, by go_num, B6⟩
                  case measure => simp [intOf]; omega
                · obtain rfl : k3 = k2 := by omega
                  have B6 := B3.trans (hb3.mono B3.size)
                  go_wp2
                  go_roundw
                  case rel => exact ⟨k3 + 1, by omega, by go_num, B6⟩
                  case measure => simp [intOf]; omega
            · obtain rfl : k2 = n9 := by omega
              have K10 := K9.stays hb2
              have C10 := C9.trans (hb2.mono C9.size)
              go_wp2
              go_roundw
              case rel => exact ⟨k + 1, s1, by omega, by rw [HM.out], by go_num, K10, hla1, C10⟩
              case measure => simp [intOf]; omega
        | none =>
          go_wp2_with (first
            | (refine at_slot 25 rfl ?_; refine load_span rfl 36 _ rfl g (off + k * 32) rfl X HCE.out Try.underlying36 rfl HXN.out ?_)
            | (refine at_store 36 (.tmp 6) (.tmp 25) rfl ?_; refine wpList_store_row rfl 36 _ _ rfl wr.heap.size X rfl rfl 36 _ Z HXN.out HXZ.out HX1.out ?_)
            | (refine at_slot 35 rfl ?_; refine load_part rfl 34 _ rfl wr.heap.size 1 29 rfl U Try.underlying34 rfl infoCookie HLE.out Cx HCK.out ?_))
          clear Z HCE q0 q30
          generalize (wr.alloc (.cells (actA Sh.zeroAct) 36)).setRow wr.heap.size X = x4 at *
          generalize wr.heap.size = g6 at *
          refine (HP.out x4 K4).mono ?_
          rintro e x5 ⟨rfl, K5, t5⟩
          have C5 := C4.trans (t5.below ws wm C4.size)
          have U5 := t5.rows U hu.1 hu.2
          have HM := Lib.hid (put_none (site := x.site) hpl).2
          have hp2 := (put_none (site := x.site) hpl).1
          have hsk := seek_new (site := x.site) hpl
          rw [hp2]
          obtain ⟨s1, hs1⟩ : ∃ z, z = (Sh.put s x.c x.site).1 := ⟨_, rfl⟩
          rw [← hs1] at K5 HM hsk
          have hla1 : s1.last ≤ ((k + 1 : Nat) : Int) := by rw [← HM.out]; omega
          have HG1 := Lib.hid (HG.out x5 s1 K5)
          rw [hsk] at HG1
          have HG1 : Hid (Calls Try.prog 13 #[.pointer (some ⟨sb, 0, none⟩), .agg Cx] x5 fun e w' => e = .returned (.tuple #[.agg (cookieA { x.c with seq := s.last + 1 }), .bool true]) ∧ Below x5.heap.size x5 w') := HG1
          have hgs := cookieA_seq { x.c with seq := s.last + 1 } hca
          have HGN := Lib.hid (show (Try.prog.info? 34).map (·.size) = some (cookieA { x.c with seq := s.last + 1 }).size by rw [cookieA_size { x.c with seq := s.last + 1 } hca]; exact infoCookie)
          have HGZ := Lib.hid (show ZC.size = (cookieA { x.c with seq := s.last + 1 }).size by rw [cookieA_size { x.c with seq := s.last + 1 } hca]; exact HZC.out)
          have HGO := Lib.hid (cookieA_one { x.c with seq := s.last + 1 })
          have hgs : (cookieA { x.c with seq := s.last + 1 })[28]? = some (.int .i64 (s.last + 1)) := hgs
          generalize cookieA { x.c with seq := s.last + 1 } = G at *
          have hwr : IntKind.i64.wrap (s.last + 1) = s.last + 1 := by rw [IntKind.wrap_i64]; omega
          clear hs1 hp2 hpl hsk t5 C4 K4 U HD HP HG hk0 hk30 ko HXN HXZ HX1
          go_wp2_with (refine at_slot 45 rfl ?_; refine load_part rfl 34 _ rfl g6 1 29 rfl U5 Try.underlying34 rfl infoCookie HLE.out Cx HCK.out ?_)
          refine HG1.out.mono ?_
          rintro e x6 ⟨rfl, d6⟩
          have C6 := C5.trans (d6.mono C5.size)
          have K6 := K5.stays d6
          obtain ⟨Z7, E7, D7, L7⟩ := lay_row 34 ZC G (Below.refl x6.heap.size x6) (Nat.le_refl _)
          have K7 := K6.stays D7
          have C7 := C6.trans (D7.mono C6.size)
          have q28 := (E7.cell 28).trans hgs
          clear L7 D7 d6 C6 K6 C5 K5 U5 HG1 HLE HCK
          go_wp2_with (refine at_store 34 (.tmp 7) (.tmp 47) rfl ?_; refine wpList_store_row rfl 34 _ _ rfl x6.heap.size G rfl rfl 34 _ Z7 HGN.out HGZ.out HGO.out ?_)
          clear Z7 q28 hgs HGN HGZ HGO E7
          generalize (x6.alloc (.cells ZC 34)).setRow x6.heap.size G = x7 at *
          generalize x6.heap.size = g7 at *
          have hcl : (Sh.all s1).length = s1.l.length := by unfold Sh.all; rw [List.length_map]
          go_wp2_with fail
          have HAL := Lib.hid (allShelf_calls x7 K7)
          unfold NewCookies at HAL
          refine HAL.out.mono ?_
          rintro e x9 ⟨v9, rfl, hL9, d9⟩
          have K9 := K7.stays d9
          have C9 := C7.trans (d9.mono C7.size)
          have HAP := Lib.hid (List.pairwise_iff_getElem.1 (Sh.all_apart K9.well))
          have HKO : Hid (∀ c ∈ Sh.all s1, c.host.addr.length = 16) := Lib.hid (fun c hc => by
            obtain ⟨y, hy, rfl⟩ := List.mem_map.1 hc
            exact (K9.okay y hy).addr)
          have HL9 := Lib.hid hL9
          obtain ⟨A9, c9, rfl, hc9, _⟩ := hL9
          generalize Sh.all s1 = cs at *
          obtain ⟨n9, hn9⟩ : ∃ m, cs.length = m := ⟨_, rfl⟩
          have HN9 := Lib.hid hn9
          rw [hn9] at HL9 hc9 ⊢
          have HNB := Lib.hid (show n9 ≤ 9223372036854775807 by
            have h1 := HL9.out
            rw [← hn9] at h1 ⊢
            exact Nat.le_trans (show cs.length ≤ 1000000 by rw [hcl]; exact K9.length) (by decide))
          have hnb := HNB.out
          clear hn9 hcl HAL d9 K7 C7
          go_wp2_with fail
          go_loopw [61] (fun i wr => ∃ (k2 : Nat), k2 ≤ n9 ∧ i = .int .i64 (k2 : Int) ∧ Below x9.heap.size x9 wr) (fun i _ => n9 - (intOf i).toNat)
          case atStart => exact ⟨0, Nat.zero_le _, rfl, Below.refl _ _⟩
          case round =>
            obtain ⟨k2, hk2, rfl, hb2⟩ := hrel
            by_cases hlt2 : k2 < n9
            · obtain ⟨c2, hc2⟩ : ∃ c, cs[k2]? = some c := ⟨_, List.getElem?_eq_getElem (by rw [HN9.out]; exact hlt2)⟩
              have ka2 := HKO.out c2 (List.mem_of_getElem? hc2)
              obtain ⟨g9, o9, rfl, hg9⟩ := HL9.out.block.2.2 (by rw [HN9.out]; omega)
              have HLX : Hid (∀ W, Below x9.heap.size x9 W → ∀ (kk : Nat) c, cs[kk]? = some c → ∀ j u, (cookieA c)[j]? = some u → W.cell? ⟨g9, o9 + kk * 29 + j, none⟩ = some u) := Lib.hid (fun W hW kk c hc => by
                have h1 := HL9.out.stays hW
                rw [← HN9.out] at h1
                exact h1.one (fun y hy => cookieA_size y (HKO.out y hy)) hc)
              have HC2 := Lib.hid (HLX.out _ hb2 k2 c2 hc2)
              have e28 := cookieA_seq c2 ka2
              obtain ⟨X2, hX2⟩ : ∃ X, cookieA c2 = X := ⟨_, rfl⟩
              rw [hX2] at HC2 e28
              have N2 := Lib.hid (show (Try.prog.info? 34).map (·.size) = some X2.size by rw [← hX2, cookieA_size _ ka2]; exact infoCookie)
              have Z2 := Lib.hid (show ZC.size = X2.size by rw [← hX2, cookieA_size _ ka2]; exact HZC.out)
              have O2 := Lib.hid (show X2.all (·.oneCell') = true by rw [← hX2]; exact cookieA_one _)
              have HSL := Lib.hid (show ∀ W, (Instr.sliceAt 45 (.slice (some ⟨g9, o9, none⟩) n9 c9) none (some (.int .i64 (k2 : Int))) none).run Try.prog W = .ok (.slice (some ⟨g9, o9, none⟩) k2 c9) W from fun W => run_slice_head Try.underlying45 infoCookie (by omega) W)
              obtain ⟨Zr, Er, Dr, Lr⟩ := lay_row 34 ZC X2 (Below.refl wr.heap.size wr) (Nat.le_refl _)
              have B3 := hb2.trans (Dr.mono hb2.size)
              have HX2 := Lib.hid hX2
              clear Lr Dr hX2 hb2 hg9
              go_wp2_with (first
                | (refine at_slot 65 rfl ?_; refine load_span rfl 34 _ rfl g9 (o9 + k2 * 29) rfl X2 HC2.out Try.underlying34 rfl N2.out ?_)
                | (refine at_store 34 (.tmp 11) (.tmp 65) rfl ?_; refine wpList_store_row rfl 34 _ _ rfl wr.heap.size X2 rfl rfl 34 _ Zr N2.out Z2.out O2.out ?_)
                | (refine at_slot 68 rfl ?_; refine slice_head_step rfl 45 _ _ rfl (.slice (some ⟨g9, o9, none⟩) n9 c9) rfl (.int .i64 (k2 : Int)) rfl _ HSL.out ?_))
              clear Zr HC2 HSL Z2 O2
              generalize (wr.alloc (.cells ZC 34)).setRow wr.heap.size X2 = x3 at *
              generalize wr.heap.size = g11 at *
              go_loopw [70] (fun j wr2 => ∃ (k3 : Nat), k3 ≤ k2 ∧ j = .int .i64 (k3 : Int) ∧ Below x3.heap.size x3 wr2) (fun j _ => k2 - (intOf j).toNat)
              case atStart => exact ⟨0, Nat.zero_le _, rfl, Below.refl _ _⟩
              case round =>
                obtain ⟨k3, hk3, rfl, hb3⟩ := hrel
                by_cases hlt3 : k3 < k2
                · obtain ⟨c3, hc3⟩ : ∃ c, cs[k3]? = some c := ⟨_, List.getElem?_eq_getElem (by rw [HN9.out]; omega)⟩
                  have ka3 := HKO.out c3 (List.mem_of_getElem? hc3)
                  have B4 := B3.trans (hb3.mono B3.size)
                  have HC3 := Lib.hid (HLX.out _ B4 k3 c3 hc3)
                  obtain ⟨l2, e2⟩ := List.getElem?_eq_some_iff.1 hc2
                  obtain ⟨l3, e3⟩ := List.getElem?_eq_some_iff.1 hc3
                  have hap := HAP.out k3 k2 l3 l2 hlt3
                  rw [e2, e3] at hap
                  have HKY := Lib.hid (fun W => refKey_calls c2 c3 ka2 ka3 W)
                  rw [Sh.key_symm, hap.1] at HKY
                  have hsq := hap.2
                  have f28 := cookieA_seq c3 ka3
                  obtain ⟨X3, hX3⟩ : ∃ X, cookieA c3 = X := ⟨_, rfl⟩
                  rw [hX3] at HC3 f28 HKY
                  rw [HX2.out] at HKY
                  have N3 := Lib.hid (show (Try.prog.info? 34).map (·.size) = some X3.size by rw [← hX3, cookieA_size _ ka3]; exact infoCookie)
                  have Z3 := Lib.hid (show ZC.size = X3.size by rw [← hX3, cookieA_size _ ka3]; exact HZC.out)
                  have O3 := Lib.hid (show X3.all (·.oneCell') = true by rw [← hX3]; exact cookieA_one _)
                  obtain ⟨Zs, Es, Ds, Ls⟩ := lay_row 34 ZC X3 (Below.refl wr.heap.size wr) (Nat.le_refl _)
                  have E5 := Ls _ _ _ (Er.stays hb3)
                  have B5 := hb3.trans (Ds.mono hb3.size)
                  clear Ls Ds hX3 hb3 hap e2 e3 l2 l3 B4
                  go_wp2_with (first
                    | (refine at_slot 73 rfl ?_; refine load_span rfl 34 _ rfl g9 (o9 + k3 * 29) rfl X3 HC3.out Try.underlying34 rfl N3.out ?_)
                    | (refine at_store 34 (.tmp 13) (.tmp 73) rfl ?_; refine wpList_store_row rfl 34 _ _ rfl wr.heap.size X3 rfl rfl 34 _ Zs N3.out Z3.out O3.out ?_)
                    | (refine at_slot 74 rfl ?_; refine load_row rfl 34 _ rfl g11 rfl E5 Try.underlying34 rfl N2.out ?_)
                    | (refine at_slot 75 rfl ?_; refine load_row rfl 34 _ rfl wr.heap.size rfl Es Try.underlying34 rfl N3.out ?_))
                  clear Zs HC3 Z3 O3
                  generalize (wr.alloc (.cells ZC 34)).setRow wr.heap.size X3 = x4 at *
                  generalize wr.heap.size = g13 at *
                  refine (HKY.out x4).mono ?_
                  rintro e x5 ⟨rfl, d5⟩
                  have B6 := B5.trans (d5.mono B5.size)
                  have r28 := ((E5.stays d5).cell 28).trans e28
                  have s28 := ((Es.stays d5).cell 28).trans f28
                  have hsq1 : ¬ (c2.seq ≤ c3.seq) := by omega
                  have hsq2 : ¬ (c3.seq ≥ c2.seq) := by omega
                  clear HKY B5 d5 E5 Es
                  go_wp2
                  go_roundw
                  case rel => exact ⟨k3 + 1, by omega, by go_num, B6⟩
                  case measure => simp [intOf]; omega
                · obtain rfl : k3 = k2 := by omega
                  have B6 := B3.trans (hb3.mono B3.size)
                  go_wp2
                  go_roundw
                  case rel => exact ⟨k3 + 1, by omega, by go_num, B6⟩
                  case measure => simp [intOf]; omega
            · obtain rfl : k2 = n9 := by omega
              have K10 := K9.stays hb2
              have C10 := C9.trans (hb2.mono C9.size)
              go_wp2
              go_roundw
              case rel => exact ⟨k + 1, s1, by omega, by rw [HM.out], by go_num, K10, hla1, C10⟩
              case measure => simp [intOf]; omega
    · obtain rfl : k = n := by omega
      have hfew := Sh.few K.well
      have hfew' : ¬ (s.last < (s.l.length : Int)) := by omega
      go_wp2_with fail
      refine (HLN.out sb mb s wr K).mono ?_
      rintro e x8 ⟨rfl, d8⟩
      have C8 := hb.trans (d8.mono hb.size)
      go_wp2
      go_ret
      exact ⟨rfl, C8⟩
end Go.Proofs.Ytnepgibjijdheaa
