/- The walk of the reference's Oldest of a shelf. -/
import Derived.Test.YtnepgibjijdheaaRefShelfAt
import Derived.Test.YtnepgibjijdheaaShelfOldest
namespace Go.Proofs.Ytnepgibjijdheaa
open Go.RowKit
/-- Which are asked for: all, or those of a site. -/
def Sh.wants (all : Bool) (site : List UInt8) (k : Sh.Kept) : Bool := all || decide (k.site = site)
theorem wants_all (site : List UInt8) : Sh.wants true site = everyK := by funext k; rfl
theorem wants_site (site : List UInt8) : Sh.wants false site = ofSite site := by funext k; rfl
/-- The oldest one of the first k. -/
def Sh.fo (p : Sh.Kept → Bool) (s : Sh.Shelf) (k : Nat) : Option Ma.Cookie := ((s.l.take k).filter p).foldl Sh.older none
theorem fo_step {p : Sh.Kept → Bool} {s : Sh.Shelf} {k : Nat} {x : Sh.Kept} (h : s.l[k]? = some x) : Sh.fo p s (k + 1) = if p x then Sh.older (Sh.fo p s k) x else Sh.fo p s k := by
  unfold Sh.fo
  rw [List.take_add_one, h, List.filter_append, List.foldl_append]
  cases hp : p x with
  | true => rw [if_pos rfl]; simp [hp]
  | false => rw [if_neg (by simp)]; simp [hp]
theorem fo_addr {p : Sh.Kept → Bool} {s : Sh.Shelf} (ho : AllOk s.l) (k : Nat) : ((Sh.fo p s k).getD Ma.zeroC).host.addr.length = 16 := by
  cases e : Sh.fo p s k with
  | none => rfl
  | some c =>
    obtain ⟨h1, _⟩ := (Sh.fold_older ((s.l.take k).filter p) none).2 c e
    rcases h1 with h | ⟨x, hx, rfl⟩
    · cases h
    · exact (ho x (List.mem_of_mem_take (List.mem_filter.1 hx).1)).addr
set_option maxRecDepth 100000 in
set_option maxHeartbeats 16000000 in
theorem refOldest_calls (s : Sh.Shelf) (site : ByteArray) (all : Bool) (v : Value) (w : World) (ho : AllOk s.l) (hv : Lies keptA w v s.l) (hn : s.l.length ≤ 1000000) :
    Calls Try.prog 27 #[.agg #[v, .int .i64 s.last], .string site, .bool all] w (OldPost (Sh.wants all site.data.toList) s w) := by
  have z2 := zeroCookie
  have HBZC := built_zeroCookie
  have z1 := zeroKept
  have HV := Lib.hid hv
  have HOK := Lib.hid ho
  obtain ⟨A, cp, rfl, hcp, _⟩ := hv
  obtain ⟨p, hp⟩ : ∃ p, Sh.wants all site.data.toList = p := ⟨_, rfl⟩
  have HWA : Hid (∀ x, p x = (all || decide (x.site = site.data.toList))) := Lib.hid (fun x => by rw [← hp]; rfl)
  rw [hp]
  have HBA := Lib.hid (fun k => fo_addr (p := p) HOK.out k)
  have HEND : Hid (∀ k W, k = s.l.length → Below w.heap.size w W → OldPost p s w (.returned (.tuple #[.agg (cookieA ((Sh.fo p s k).getD Ma.zeroC)), .bool (Sh.fo p s k).isSome])) W) := Lib.hid (fun k W hk hb => by
    have e : Sh.fo p s k = Sh.oldest p s := by unfold Sh.fo Sh.oldest; rw [hk, List.take_length]
    rw [e]
    exact ⟨rfl, hb⟩)
  generalize OldPost p s w = post at *
  obtain ⟨n, hnn⟩ : ∃ n, s.l.length = n := ⟨_, rfl⟩
  have HNN := Lib.hid hnn
  rw [hnn] at hn hcp HV ⊢
  have C0 := (Below.refl w.heap.size w).alloc (Nat.le_refl _) (.cells #[.slice A n cp, .int .i64 s.last] 28)
  have hN : (w.alloc (.cells #[.slice A n cp, .int .i64 s.last] 28)).heap.size = w.heap.size + 1 := by simp
  have hN2 : ((w.alloc (.cells #[.slice A n cp, .int .i64 s.last] 28)).alloc (.cells (cookieA Ma.zeroC) 34)).heap.size = w.heap.size + 2 := by simp
  have C1 := C0.alloc C0.size (.cells (cookieA Ma.zeroC) 34)
  have O1 := Row.new (w.alloc (.cells #[.slice A n cp, .int .i64 s.last] 28)) 34 (cookieA Ma.zeroC)
  rw [hN] at O1
  have S1 := (Row.new w 28 #[.slice A n cp, .int .i64 s.last]).alloc (.cells (cookieA Ma.zeroC) 34)
  obtain ⟨T2, B2, C2, L2⟩ := lay_row 34 (cookieA Ma.zeroC) (cookieA Ma.zeroC) C1 C1.size
  have O2 := L2 _ _ _ O1
  have c0 := (L2 _ _ _ S1).cell 0
  rw [hN2] at T2 B2 O2 c0 C2
  have c0 : (((((w.alloc (.cells #[.slice A n cp, .int .i64 s.last] 28)).alloc (.cells (cookieA Ma.zeroC) 34)).alloc (.cells (cookieA Ma.zeroC) 34)).setRow (w.heap.size + 2) (cookieA Ma.zeroC))).cell? ⟨w.heap.size, 0, none⟩ = some (.slice A n cp) := c0
  have HZI := Lib.hid (show (Try.prog.info? 34).map (·.size) = some (cookieA Ma.zeroC).size from infoCookie)
  have HZ1 := Lib.hid (cookieA_one Ma.zeroC)
  clear hnn ho hN hN2 C0 C1 O1 S1 L2 hp
  go_enter Try.func27, Try.ntmps27
  go_wp2_with (first
    | (refine at_slot 12 rfl ?_; refine build_list rfl 34 _ rfl [] rfl (cookieA Ma.zeroC) HBZC ?_)
    | (refine wpList_store_row rfl 34 _ _ rfl (w.heap.size + 2) (cookieA Ma.zeroC) rfl rfl 34 _ T2 HZI.out rfl HZ1.out ?_))
  generalize World.setRow _ (w.heap.size + 2) (cookieA Ma.zeroC) = x0 at *
  clear T2
  go_loopw [9, 16] (fun f i wr => ∃ k : Nat, k ≤ n ∧ i = .int .i64 (k : Int) ∧ f = .bool (Sh.fo p s k).isSome ∧ Below w.heap.size w wr ∧ Row wr (w.heap.size + 1) 34 (cookieA Ma.zeroC) ∧ Row wr (w.heap.size + 2) 34 (cookieA ((Sh.fo p s k).getD Ma.zeroC))) (fun _ i _ => n - (intOf i).toNat)
  case atStart => exact ⟨0, Nat.zero_le _, rfl, rfl, C2, O2, B2⟩
  case round =>
    obtain ⟨k, hk, rfl, rfl, hb, hO, hB⟩ := hrel
    clear C2 O2 B2 c0
    by_cases hlt : k < n
    · obtain ⟨x, hx⟩ : ∃ x, s.l[k]? = some x := ⟨_, List.getElem?_eq_getElem (by rw [HNN.out]; exact hlt)⟩
      have hxm := List.mem_of_getElem? hx
      have ko := HOK.out x hxm
      have hv2 := HV.out.stays hb
      have hcc := hv2.block.2.1
      obtain ⟨g, off, rfl, hg⟩ := hv2.block.2.2 (by rw [HNN.out]; omega)
      rw [← HNN.out] at hv2
      have HCE := Lib.hid (hv2.one (keptA_sizes HOK.out) hx)
      have HXI := Lib.hid hx
      obtain ⟨X, hX⟩ : ∃ X, keptA x = X := ⟨_, rfl⟩
      rw [hX] at HCE
      have HXN := Lib.hid (show (Try.prog.info? 59).map (·.size) = some X.size by rw [← hX, keptA_size _ ko.addr]; exact infoKeptR)
      have HXZ := Lib.hid (show (keptA Sh.zeroK).size = X.size by rw [← hX, keptA_size _ ko.addr]; rfl)
      have HX1 := Lib.hid (show X.all (·.oneCell') = true by rw [← hX]; exact keptA_one _)
      have HX30 := Lib.hid (show X.size = 30 by rw [← hX, keptA_size _ ko.addr])
      obtain ⟨Z, U, D, L⟩ := lay_row 59 (keptA Sh.zeroK) X (Below.refl wr.heap.size wr) (Nat.le_refl _)
      have b2 := hb.trans (D.mono hb.size)
      obtain ⟨BC, hBC⟩ : ∃ BC, cookieA ((Sh.fo p s k).getD Ma.zeroC) = BC := ⟨_, rfl⟩
      obtain ⟨Y, hY⟩ : ∃ Y, cookieA x.c = Y := ⟨_, rfl⟩
      have HXY := Lib.hid (show X.extract 0 (0 + 29) = Y by rw [← hX, ← hY]; exact keptA_cookie _ ko.addr)
      have HYI := Lib.hid (show (Try.prog.info? 34).map (·.size) = some Y.size by rw [← hY, cookieA_size _ ko.addr]; exact infoCookie)
      have HY1 := Lib.hid (show Y.all (·.oneCell') = true by rw [← hY]; exact cookieA_one _)
      have HBZ := Lib.hid (show BC.size = Y.size by rw [← hY, cookieA_size _ ko.addr, ← hBC, cookieA_size _ (HBA.out k)])
      have hX27 : X[27]? = some (.int .i64 x.c.used) := by rw [← hX]; exact keptA_cell (cookieA_used x.c ko.addr)
      have hX29 : X[29]? = some (.string ⟨x.site.toArray⟩) := by rw [← hX]; exact keptA_site x ko.addr
      have u27 := (U.cell 27).trans hX27
      have u29 := (U.cell 29).trans hX29
      have O2 := L _ _ _ hO
      have B2 := L _ _ _ hB
      rw [hBC] at B2
      have HFS := Lib.hid (fo_step (p := p) hx)
      have HTAKE : Hid (Sh.fo p s (k + 1) = some x.c → (Below w.heap.size w (World.setRow ((wr.alloc (.cells (keptA Sh.zeroK) 59)).setRow wr.heap.size X) (w.heap.size + 2) Y) ∧ Row (World.setRow ((wr.alloc (.cells (keptA Sh.zeroK) 59)).setRow wr.heap.size X) (w.heap.size + 2) Y) (w.heap.size + 1) 34 (cookieA Ma.zeroC) ∧ Row (World.setRow ((wr.alloc (.cells (keptA Sh.zeroK) 59)).setRow wr.heap.size X) (w.heap.size + 2) Y) (w.heap.size + 2) 34 (cookieA ((Sh.fo p s (k + 1)).getD Ma.zeroC)))) := Lib.hid (fun e =>
        ⟨below_setRow b2 (by omega) Y, O2.aside (by omega) Y, by rw [e]; show Row _ _ _ (cookieA x.c); rw [hY]; exact B2.whole Y⟩)
      have HKEEP : Hid (Sh.fo p s (k + 1) = Sh.fo p s k → (Below w.heap.size w ((wr.alloc (.cells (keptA Sh.zeroK) 59)).setRow wr.heap.size X) ∧ Row ((wr.alloc (.cells (keptA Sh.zeroK) 59)).setRow wr.heap.size X) (w.heap.size + 1) 34 (cookieA Ma.zeroC) ∧ Row ((wr.alloc (.cells (keptA Sh.zeroK) 59)).setRow wr.heap.size X) (w.heap.size + 2) 34 (cookieA ((Sh.fo p s (k + 1)).getD Ma.zeroC)))) := Lib.hid (fun e =>
        ⟨b2, O2, by rw [e, hBC]; exact B2⟩)
      have he := text_eqb x.site site
      have hpx0 := HWA.out x
      clear L D hx hv2 hX hY hX29 hX27 hb hB hO
      cases all with
      | true =>
        have hpx : p x = true := by rw [hpx0]; rfl
        clear hpx0 he
        cases hb0 : (Sh.fo p s k) with
        | none =>
          obtain ⟨fb, hfb⟩ : ∃ fb : Bool, (none : Option Ma.Cookie).isSome = fb := ⟨_, rfl⟩
          rw [hfb]
          have HFB : Hid (fb = false) := Lib.hid (by rw [← hfb]; rfl)
          have HFN : Hid (Sh.fo p s (k + 1) = some x.c) := Lib.hid (by rw [HFS.out, hpx, if_pos rfl, hb0]; rfl)
          clear hfb
          have HTK : Hid (_ ∧ _) := Lib.hid (HTAKE.out HFN.out)
          clear HKEEP HTAKE HFS hb0 hpx
          go_wp2_with (first
            | (refine at_slot 19 rfl ?_; refine load_span rfl 59 _ rfl g (off + k * 30) rfl X HCE.out Try.underlying59 rfl HXN.out ?_)
            | (refine at_store 59 (.tmp 11) (.tmp 19) rfl ?_; refine wpList_store_row rfl 59 _ _ rfl wr.heap.size X rfl rfl 59 _ Z HXN.out HXZ.out HX1.out ?_)
            | (refine at_slot 31 rfl ?_; go_must (refine skip_op (by have h := HFB.out; subst h; rfl) ?_; go_simp; refine skip_op (by have h := HFB.out; subst h; rfl) ?_; go_simp; refine skip_op (by have h := HFB.out; subst h; rfl) ?_; go_simp; refine skip_op (by have h := HFB.out; subst h; rfl) ?_; go_simp; refine skip_op (by have h := HFB.out; subst h; rfl) ?_; go_simp; refine skip_op (by have h := HFB.out; subst h; rfl) ?_; go_simp; refine pick_true rfl _ _ _ rfl (by have h := HFB.out; subst h; rfl) (.bool true) rfl ?_; go_simp))
            | (refine at_slot 40 rfl ?_; refine load_part rfl 34 _ rfl wr.heap.size 0 29 rfl U Try.underlying34 rfl infoCookie (by rw [HX30.out]; decide) Y HXY.out ?_)
            | (refine at_store 34 (.tmp 8) (.tmp 40) rfl ?_; refine wpList_store_row rfl 34 _ _ rfl (w.heap.size + 2) Y rfl rfl 34 _ B2 HYI.out HBZ.out HY1.out ?_))
          go_roundw
          case rel => exact ⟨k + 1, by omega, by go_num, by rw [HFN.out]; rfl, HTK.out⟩
          case measure => simp [intOf]; omega
        | some c0 =>
          simp only [Option.isSome_some]
          have hbu : (cookieA ((Sh.fo p s k).getD Ma.zeroC))[27]? = some (.int .i64 c0.used) := by rw [hb0]; exact cookieA_used c0 (by have := HBA.out k; rw [hb0] at this; exact this)
          rw [hBC] at hbu
          have b27 := (B2.cell 27).trans hbu
          by_cases hlu : x.c.used < c0.used
          · have HFN : Hid (Sh.fo p s (k + 1) = some x.c) := Lib.hid (by rw [HFS.out, hpx, if_pos rfl, hb0]; unfold Sh.older; simp only; rw [if_pos hlu])
            have HTK : Hid (_ ∧ _) := Lib.hid (HTAKE.out HFN.out)
            clear HKEEP HTAKE HFS hb0 hpx hbu
            generalize x.c.used = ux at *
            generalize c0.used = uc at *
            go_wp2_with (first
              | (refine at_slot 19 rfl ?_; refine load_span rfl 59 _ rfl g (off + k * 30) rfl X HCE.out Try.underlying59 rfl HXN.out ?_)
              | (refine at_store 59 (.tmp 11) (.tmp 19) rfl ?_; refine wpList_store_row rfl 59 _ _ rfl wr.heap.size X rfl rfl 59 _ Z HXN.out HXZ.out HX1.out ?_)
              | (refine at_slot 40 rfl ?_; refine load_part rfl 34 _ rfl wr.heap.size 0 29 rfl U Try.underlying34 rfl infoCookie (by rw [HX30.out]; decide) Y HXY.out ?_)
              | (refine at_store 34 (.tmp 8) (.tmp 40) rfl ?_; refine wpList_store_row rfl 34 _ _ rfl (w.heap.size + 2) Y rfl rfl 34 _ B2 HYI.out HBZ.out HY1.out ?_))
            go_roundw
            case rel => exact ⟨k + 1, by omega, by go_num, by rw [HFN.out]; rfl, HTK.out⟩
            case measure => simp [intOf]; omega
          · have HFN : Hid (Sh.fo p s (k + 1) = some c0) := Lib.hid (by rw [HFS.out, hpx, if_pos rfl, hb0]; unfold Sh.older; simp only; rw [if_neg hlu])
            have HKP : Hid (_ ∧ _) := Lib.hid (HKEEP.out (by rw [HFN.out, hb0]))
            clear HKEEP HTAKE HFS hb0 hpx hbu
            generalize x.c.used = ux at *
            generalize c0.used = uc at *
            go_wp2_with (first
              | (refine at_slot 19 rfl ?_; refine load_span rfl 59 _ rfl g (off + k * 30) rfl X HCE.out Try.underlying59 rfl HXN.out ?_)
              | (refine at_store 59 (.tmp 11) (.tmp 19) rfl ?_; refine wpList_store_row rfl 59 _ _ rfl wr.heap.size X rfl rfl 59 _ Z HXN.out HXZ.out HX1.out ?_))
            go_roundw
            case rel => exact ⟨k + 1, by omega, by go_num, by rw [HFN.out]; rfl, HKP.out⟩
            case measure => simp [intOf]; omega
      | false =>
        rw [Bool.false_or] at hpx0
        cases hq : decide (x.site = site.data.toList) with
        | true =>
          rw [hq] at he hpx0
          have hpx : p x = true := hpx0
          clear hpx0
          generalize (⟨x.site.toArray⟩ : ByteArray) = u at *
          clear hq
          cases hb0 : (Sh.fo p s k) with
          | none =>
            obtain ⟨fb, hfb⟩ : ∃ fb : Bool, (none : Option Ma.Cookie).isSome = fb := ⟨_, rfl⟩
            rw [hfb]
            have HFB : Hid (fb = false) := Lib.hid (by rw [← hfb]; rfl)
            have HFN : Hid (Sh.fo p s (k + 1) = some x.c) := Lib.hid (by rw [HFS.out, hpx, if_pos rfl, hb0]; rfl)
            clear hfb
            have HTK : Hid (_ ∧ _) := Lib.hid (HTAKE.out HFN.out)
            clear HKEEP HTAKE HFS hb0 hpx
            go_wp2_with (first
              | (refine at_slot 19 rfl ?_; refine load_span rfl 59 _ rfl g (off + k * 30) rfl X HCE.out Try.underlying59 rfl HXN.out ?_)
              | (refine at_store 59 (.tmp 11) (.tmp 19) rfl ?_; refine wpList_store_row rfl 59 _ _ rfl wr.heap.size X rfl rfl 59 _ Z HXN.out HXZ.out HX1.out ?_)
              | (refine at_slot 31 rfl ?_; go_must (refine skip_op (by have h := HFB.out; subst h; rfl) ?_; go_simp; refine skip_op (by have h := HFB.out; subst h; rfl) ?_; go_simp; refine skip_op (by have h := HFB.out; subst h; rfl) ?_; go_simp; refine skip_op (by have h := HFB.out; subst h; rfl) ?_; go_simp; refine skip_op (by have h := HFB.out; subst h; rfl) ?_; go_simp; refine skip_op (by have h := HFB.out; subst h; rfl) ?_; go_simp; refine pick_true rfl _ _ _ rfl (by have h := HFB.out; subst h; rfl) (.bool true) rfl ?_; go_simp))
              | (refine at_slot 40 rfl ?_; refine load_part rfl 34 _ rfl wr.heap.size 0 29 rfl U Try.underlying34 rfl infoCookie (by rw [HX30.out]; decide) Y HXY.out ?_)
              | (refine at_store 34 (.tmp 8) (.tmp 40) rfl ?_; refine wpList_store_row rfl 34 _ _ rfl (w.heap.size + 2) Y rfl rfl 34 _ B2 HYI.out HBZ.out HY1.out ?_))
            go_roundw
            case rel => exact ⟨k + 1, by omega, by go_num, by rw [HFN.out]; rfl, HTK.out⟩
            case measure => simp [intOf]; omega
          | some c0 =>
            simp only [Option.isSome_some]
            have hbu : (cookieA ((Sh.fo p s k).getD Ma.zeroC))[27]? = some (.int .i64 c0.used) := by rw [hb0]; exact cookieA_used c0 (by have := HBA.out k; rw [hb0] at this; exact this)
            rw [hBC] at hbu
            have b27 := (B2.cell 27).trans hbu
            by_cases hlu : x.c.used < c0.used
            · have HFN : Hid (Sh.fo p s (k + 1) = some x.c) := Lib.hid (by rw [HFS.out, hpx, if_pos rfl, hb0]; unfold Sh.older; simp only; rw [if_pos hlu])
              have HTK : Hid (_ ∧ _) := Lib.hid (HTAKE.out HFN.out)
              clear HKEEP HTAKE HFS hb0 hpx hbu
              generalize x.c.used = ux at *
              generalize c0.used = uc at *
              go_wp2_with (first
                | (refine at_slot 19 rfl ?_; refine load_span rfl 59 _ rfl g (off + k * 30) rfl X HCE.out Try.underlying59 rfl HXN.out ?_)
                | (refine at_store 59 (.tmp 11) (.tmp 19) rfl ?_; refine wpList_store_row rfl 59 _ _ rfl wr.heap.size X rfl rfl 59 _ Z HXN.out HXZ.out HX1.out ?_)
                | (refine at_slot 40 rfl ?_; refine load_part rfl 34 _ rfl wr.heap.size 0 29 rfl U Try.underlying34 rfl infoCookie (by rw [HX30.out]; decide) Y HXY.out ?_)
                | (refine at_store 34 (.tmp 8) (.tmp 40) rfl ?_; refine wpList_store_row rfl 34 _ _ rfl (w.heap.size + 2) Y rfl rfl 34 _ B2 HYI.out HBZ.out HY1.out ?_))
              go_roundw
              case rel => exact ⟨k + 1, by omega, by go_num, by rw [HFN.out]; rfl, HTK.out⟩
              case measure => simp [intOf]; omega
            · have HFN : Hid (Sh.fo p s (k + 1) = some c0) := Lib.hid (by rw [HFS.out, hpx, if_pos rfl, hb0]; unfold Sh.older; simp only; rw [if_neg hlu])
              have HKP : Hid (_ ∧ _) := Lib.hid (HKEEP.out (by rw [HFN.out, hb0]))
              clear HKEEP HTAKE HFS hb0 hpx hbu
              generalize x.c.used = ux at *
              generalize c0.used = uc at *
              go_wp2_with (first
                | (refine at_slot 19 rfl ?_; refine load_span rfl 59 _ rfl g (off + k * 30) rfl X HCE.out Try.underlying59 rfl HXN.out ?_)
                | (refine at_store 59 (.tmp 11) (.tmp 19) rfl ?_; refine wpList_store_row rfl 59 _ _ rfl wr.heap.size X rfl rfl 59 _ Z HXN.out HXZ.out HX1.out ?_))
              go_roundw
              case rel => exact ⟨k + 1, by omega, by go_num, by rw [HFN.out]; rfl, HKP.out⟩
              case measure => simp [intOf]; omega
        | false =>
          rw [hq] at he hpx0
          generalize (⟨x.site.toArray⟩ : ByteArray) = u at *
          have HFN : Hid (Sh.fo p s (k + 1) = Sh.fo p s k) := Lib.hid (by rw [HFS.out, hpx0, if_neg (by simp)])
          have HKP : Hid (_ ∧ _) := Lib.hid (HKEEP.out HFN.out)
          clear HKEEP HTAKE HFS hpx0 hq
          go_wp2_with (first
            | (refine at_slot 19 rfl ?_; refine load_span rfl 59 _ rfl g (off + k * 30) rfl X HCE.out Try.underlying59 rfl HXN.out ?_)
            | (refine at_store 59 (.tmp 11) (.tmp 19) rfl ?_; refine wpList_store_row rfl 59 _ _ rfl wr.heap.size X rfl rfl 59 _ Z HXN.out HXZ.out HX1.out ?_))
          go_roundw
          case rel => exact ⟨k + 1, by omega, by go_num, by rw [HFN.out], HKP.out⟩
          case measure => simp [intOf]; omega
    · obtain rfl : k = n := by omega
      obtain ⟨Y, hY⟩ : ∃ Y, cookieA ((Sh.fo p s k).getD Ma.zeroC) = Y := ⟨_, rfl⟩
      have HYI := Lib.hid (show (Try.prog.info? 34).map (·.size) = some Y.size by rw [← hY, cookieA_size _ (HBA.out k)]; exact infoCookie)
      have HYZ := Lib.hid (show (cookieA Ma.zeroC).size = Y.size by rw [← hY, cookieA_size _ (HBA.out k)]; rfl)
      have HY1 := Lib.hid (show Y.all (·.oneCell') = true by rw [← hY]; exact cookieA_one _)
      have HE := Lib.hid (fun W hb => HEND.out k W HNN.out.symm hb)
      rw [hY] at HE hB
      clear hY HEND
      generalize (Sh.fo p s k).isSome = fb at *
      go_wp2_with (first
        | (refine at_slot 42 rfl ?_; refine load_row rfl 34 _ rfl (w.heap.size + 2) rfl hB Try.underlying34 rfl HYI.out ?_)
        | (refine wpList_store_row rfl 34 _ _ rfl (w.heap.size + 1) Y rfl rfl 34 _ hO HYI.out HYZ.out HY1.out ?_))
      exact bodyPost_ret (v := .tuple #[.agg Y, .bool fb]) (results_cell_two rfl _ _ (w.heap.size + 1) _ _ _ rfl _ rfl (hO.whole _) Try.underlying34 rfl HYI.out) rfl (HE.out _ (below_setRow hb (Nat.le_succ _) _))
end Go.Proofs.Ytnepgibjijdheaa
