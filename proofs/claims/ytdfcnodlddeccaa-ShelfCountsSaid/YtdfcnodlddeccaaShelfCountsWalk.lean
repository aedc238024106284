/- The walk of the law ShelfCounts. -/
import Derived.Test.YtdfcnodlddeccaaShelfAlive
import Derived.Test.YtdfcnodlddeccaaShelfBoth
import Derived.Test.YtdfcnodlddeccaaShelfActs
import Derived.Test.YtdfcnodlddeccaaShelfCount
import Derived.Test.YtdfcnodlddeccaaShelfOldest
import Derived.Test.YtdfcnodlddeccaaShelfDrop
import Derived.Test.YtdfcnodlddeccaaCells
import Derived.Test.YtdfcnodlddeccaaYieldsBuilt
import Derived.Maps.AppendAt
namespace Go.Proofs.Ytdfcnodlddeccaa
open Go.RowKit
namespace Sh
theorem put_sites {s : Shelf} {c : Ma.Cookie} {site : List UInt8} {y : Kept} (h : y ∈ (put s c site).1.l) : (y.site = site ∧ y.c.used = c.used) ∨ y ∈ s.l := by
  unfold put at h
  split at h
  · rcases mem_modify h with e | ⟨k, _, rfl⟩
    · exact .inr e
    · exact .inl ⟨rfl, rfl⟩
  · rcases List.mem_append.1 h with e | e
    · exact .inr e
    · rw [List.mem_singleton.1 e]; exact .inl ⟨rfl, rfl⟩
theorem drop_hit {s : Shelf} {y : Kept} (hy : y ∈ s.l) : (drop s y.c).2 = true ∧ (drop s y.c).1.l.length + 1 = s.l.length ∧ ∀ z ∈ (drop s y.c).1.l, z ∈ s.l := by
  unfold drop
  cases e : place s y.c with
  | none =>
    have h1 := (place_none e).1 y hy
    rw [Ma.key_self] at h1
    cases h1
  | some i =>
    obtain ⟨k, hk, _⟩ := place_some e
    have hl := (List.getElem?_eq_some_iff.1 hk).1
    refine ⟨rfl, ?_, fun z hz => List.mem_of_mem_eraseIdx hz⟩
    dsimp only
    rw [List.length_eraseIdx, if_pos hl]
    omega
theorem sum_take {α : Type} (f : α → Nat) (l : List α) (k : Nat) : ((l.take k).map f).sum ≤ (l.map f).sum := by
  have e : (l.map f).sum = ((l.take k).map f).sum + ((l.drop k).map f).sum := by
    rw [← List.sum_append, ← List.map_append, List.take_append_drop]
  omega
theorem sum_step {α : Type} (f : α → Nat) {l : List α} {k : Nat} {x : α} (h : l[k]? = some x) : ((l.take (k + 1)).map f).sum = ((l.take k).map f).sum + f x := by
  rw [List.take_add_one, h, List.map_append, List.sum_append]
  simp
theorem oldest_every {s : Shelf} (h : 0 < s.l.length) : ∃ y, y ∈ s.l ∧ oldest everyK s = some y.c ∧ ∀ z ∈ s.l, y.c.used ≤ z.c.used := by
  cases e : oldest everyK s with
  | none =>
    have h1 := oldest_none.1 e
    rw [List.filter_eq_nil_iff] at h1
    cases hl : s.l with
    | nil => rw [hl] at h; cases h
    | cons y l => exact absurd rfl (h1 y (by rw [hl]; simp))
  | some c =>
    obtain ⟨⟨y, hy, _, rfl⟩, h2⟩ := oldest_some e
    exact ⟨y, hy, rfl, fun z hz => h2 z hz rfl⟩
theorem oldest_empty {s : Shelf} (h : s.l.length = 0) : oldest everyK s = none := by
  rw [oldest_none, List.length_eq_zero_iff.1 h]; rfl
end Sh
theorem own_turned {w w' : World} {B : Nat} {e : TypeId} {n m : Nat} {v : Value} {xs : List Value} (h : w.ownsRow B e n v m xs) {sb mb : Nat} (t : Turn2 sb mb w w') (h1 : sb < B) (h2 : mb < B) : w'.ownsRow B e n v m xs := by
  obtain ⟨hx, hh⟩ := h
  rcases hh with ⟨rfl, h0⟩ | ⟨g, cap, cur, hv, hB, hg, hc⟩
  · exact ⟨hx, .inl ⟨rfl, h0⟩⟩
  · exact ⟨hx, .inr ⟨g, cap, cur, hv, hB, (t.same g (Array.getElem?_eq_some_iff.1 hg).1 (by omega) (by omega)).trans hg, hc⟩⟩
theorem own_stays {w w' : World} {B : Nat} {e : TypeId} {n m : Nat} {v : Value} {xs : List Value} (h : w.ownsRow B e n v m xs) (hb : Below w.heap.size w w') : w'.ownsRow B e n v m xs :=
  h.kept (below_grown hb) (by
    cases hv : v.ownBlock
    · exact .inl rfl
    · exact .inr (by simp))
theorem ShelfAt.grown {w w' : World} {sb mb : Nat} {s : Sh.Shelf} (h : ShelfAt w sb mb s) {row : Option Nat} (hg : w.grownBy w' row) (h1 : some sb ≠ row) (h2 : some mb ≠ row) : ShelfAt w' sb mb s :=
  ⟨h.well, h.okay, h.few, h.apart, (hg.block sb h.row.lt h1).trans h.row, h.map.kept hg h2⟩
theorem info_str : (Try.prog.info? 9).map (fun i => (i.zero, i.size, i.bytes)) = some (some (.string ⟨#[]⟩), 1, 16) := by kernel_rfl
theorem own_word {w : World} {B g cap n : Nat} {ps : List (List UInt8)} (h : w.ownsRow B 9 1 (.slice (some ⟨g, 0, none⟩) n cap) n (ps.map strV)) {k : Nat} {p : List UInt8} (hp : ps[k]? = some p) : w.cell? ⟨g, k, none⟩ = some (.string ⟨p.toArray⟩) := by
  have hk := (List.getElem?_eq_some_iff.1 hp).1
  have hl := h.1
  rw [List.length_map] at hl
  rw [h.cellAt k (by omega), List.getElem?_map, hp]
  rfl
set_option maxRecDepth 100000 in
set_option maxHeartbeats 16000000 in
theorem scounts_walk (acts : List Sh.Act) (w : World) {v : Value} (hv : Lies actA w v acts ∧ acts.length ≤ maxLen ∧ ∀ x ∈ acts, ActOk x) :
    Calls Try.prog 5 #[v] w fun e w' => e = .returned (.bool true) ∧ Below w.heap.size w w' := by
  obtain ⟨hl, hml, hok⟩ := hv
  have z0 := zeroAct
  have z1 := zeroCookie
  have HV := Lib.hid hl
  have HOK := Lib.hid hok
  have HA := Lib.hid shelf_alive
  have HN := Lib.hid (fun W => newShelf_calls W)
  have HLN := Lib.hid (fun sb mb s W k => @lenShelf_calls sb mb s W k)
  have HCT := Lib.hid (fun site sb mb s W k => @countShelf_calls site sb mb s W k)
  have HOA := Lib.hid (fun sb mb s W k => @oldestAll_calls sb mb s W k)
  unfold OldPost at HOA
  have HZA := Lib.hid (actA_size Sh.zeroAct rfl)
  have HZC := Lib.hid (show (cookieA Ma.zeroC).size = 29 from rfl)
  have NZ := Lib.hid (show (Try.prog.info? 34).map (·.size) = some (cookieA Ma.zeroC).size from infoCookie)
  have OZ := Lib.hid (cookieA_one Ma.zeroC)
  obtain ⟨i0, hi, hz0, hz1, hz2⟩ := info_parts info_str
  have HI := Lib.hid hi
  have HZ0 := Lib.hid hz0
  have HZ1 := Lib.hid hz1
  have HZ2 := Lib.hid hz2
  obtain ⟨A, cp, rfl, hcp, _⟩ := hl
  obtain ⟨n, hnn⟩ : ∃ n, acts.length = n := ⟨_, rfl⟩
  have HNN := Lib.hid hnn
  rw [hnn] at hcp HV hml ⊢
  have hmx : n ≤ 9223372036854775807 := hml
  have C0 := Below.refl w.heap.size w
  clear hnn hml hok hi hz0 hz1 hz2
  obtain ⟨ZC, hZC⟩ : ∃ Z, cookieA Ma.zeroC = Z := ⟨_, rfl⟩
  have HZCE := Lib.hid hZC
  rw [hZC] at z1 HZC NZ OZ
  clear hZC
  go_enter Try.func5, Try.ntmps5
  go_wp2_with fail
  refine (HA.out _).mono ?_
  rintro e x1 ⟨rfl, d1⟩
  have C1 := C0.trans (d1.mono C0.size)
  clear C0 d1 HA
  by_cases hbig : 40 < n
  · have hbig' : (40 : Int) < (n : Int) := by omega
    go_wp2
    go_ret
    exact ⟨rfl, C1⟩
  have hbig' : ¬ ((40 : Int) < (n : Int)) := by omega
  go_wp2_with fail
  refine (HN.out _).mono ?_
  rintro e x2 ⟨sb, mb, rfl, K2, hsb, hmb, d2⟩
  have C2 := C1.trans (d2.mono C1.size)
  have ws : w.heap.size ≤ sb := by have := C1.size; omega
  have wm : w.heap.size ≤ mb := by have := C1.size; omega
  have K3 := K2.stays ((Below.refl x2.heap.size x2).alloc (Nat.le_refl _) (.cells #[] 9))
  have C3 := C2.alloc C2.size (.cells #[] 9)
  have W3 : (x2.alloc (.cells #[] 9)).ownsRow x2.heap.size 9 1 (.slice (some ⟨x2.heap.size, 0, none⟩) 0 0) 0 [] := World.ownsRow_made x2 #[] 0 (Nat.le_refl _) (Nat.zero_le _) rfl
  have bs := K2.row.lt
  have bm := K2.map.lt
  have wB := C2.size
  have hB3 : x2.heap.size ≤ (x2.alloc (.cells #[] 9)).heap.size := by simp
  clear C1 d2 HN hsb hmb K2 C2
  go_wp2_with fail
  generalize x2.alloc (.cells #[] 9) = x3 at *
  generalize x2.heap.size = B at *
  go_loopw [4, 28] (fun u i wr => ∃ (k : Nat) (s : Sh.Shelf) (strs : List (List UInt8)) (vv : Value), vv = u ∧ k ≤ n ∧ i = .int .i64 (k : Int) ∧ ShelfAt wr sb mb s ∧ wr.ownsRow B 9 1 vv strs.length (strs.map strV) ∧ strs.Nodup ∧ (∀ y ∈ s.l, y.site ∈ strs ∧ -9223372036854775808 ≤ y.c.used) ∧ strs.length ≤ k ∧ s.last ≤ (k : Int) ∧ Below w.heap.size w wr ∧ B ≤ wr.heap.size) (fun _ i _ => n - (intOf i).toNat)
  case atStart => exact ⟨0, Sh.empty, [], _, rfl, Nat.zero_le _, rfl, K3, W3, List.nodup_nil, (fun y hy => by cases hy), Nat.le_refl _, Int.le_refl _, C3, hB3⟩
  case round =>
    obtain ⟨k, s, strs, vv, rfl, hk, rfl, K, hown, hnd, hsi, hsl, hla, hb, hB⟩ := hrel
    clear C3 K3 W3 hB3
    have hl0 := K.well.last
    by_cases hlt : k < n
    · obtain ⟨x, hx⟩ : ∃ x, acts[k]? = some x := ⟨_, List.getElem?_eq_getElem (by rw [HNN.out]; exact hlt)⟩
      have ko := HOK.out x (List.mem_of_getElem? hx)
      have hca := ko.cookie.host.addr
      have hv2 := HV.out.stays hb
      have hcc := hv2.block.2.1
      obtain ⟨g, off, rfl, hg⟩ := hv2.block.2.2 (by rw [HNN.out]; omega)
      rw [← HNN.out] at hv2
      have HCE := Lib.hid (hv2.one (fun y hy => actA_size y (HOK.out y hy).cookie.host.addr) hx)
      have HP := Lib.hid (fun W (q : ShelfAt W sb mb s) => putShelf_calls x.c ko.cookie.place ⟨x.site.toArray⟩ ko.site W q (by omega))
      rw [show (⟨x.site.toArray⟩ : ByteArray).data.toList = x.site from rfl] at HP
      have hk30 := actA_site x hca
      unfold strV at hk30
      have hub := (bounds_i64 ko.cookie.used).1
      have HLE := Lib.hid (show 1 + 29 ≤ (actA x).size by rw [actA_size x hca]; decide)
      have HCK := Lib.hid (actA_cookie x hca)
      obtain ⟨Cx, hCx⟩ : ∃ Y, cookieA x.c = Y := ⟨_, rfl⟩
      rw [hCx] at HP HCK
      obtain ⟨X, hX⟩ : ∃ X, actA x = X := ⟨_, rfl⟩
      rw [hX] at HCE hk30 HLE HCK
      have HXN := Lib.hid (show (Try.prog.info? 36).map (·.size) = some X.size by rw [← hX, actA_size _ hca]; exact infoAct)
      have HXZ := Lib.hid (show (actA Sh.zeroAct).size = X.size by rw [← hX, actA_size _ hca]; exact HZA.out)
      have HX1 := Lib.hid (show X.all (·.oneCell') = true by rw [← hX]; exact actA_one _)
      obtain ⟨site, hsite⟩ : ∃ b : ByteArray, b = ⟨x.site.toArray⟩ := ⟨_, rfl⟩
      have HSD : Hid (site.data.toList = x.site) := Lib.hid (by rw [hsite])
      have HSV : Hid (Value.string site = strV x.site) := Lib.hid (by rw [hsite]; rfl)
      rw [← hsite] at HP hk30
      obtain ⟨Z, U, D, L⟩ := lay_row 36 (actA Sh.zeroAct) X (Below.refl wr.heap.size wr) (Nat.le_refl _)
      have K4 := K.stays D
      have C4 := hb.trans (D.mono hb.size)
      have own4 := own_stays hown D
      have q30 := (U.cell 30).trans hk30
      have hu : wr.heap.size ≠ sb ∧ wr.heap.size ≠ mb := by have := K.row.lt; have := K.map.lt; omega
      have hB4 : B ≤ ((wr.alloc (.cells (actA Sh.zeroAct) 36)).setRow wr.heap.size X).heap.size := Nat.le_trans hB D.size
      clear L D hx hv2 hX hb K hg hCx hown hsite hB
      go_wp2_with (first
        | (refine at_slot 31 rfl ?_; refine load_span rfl 36 _ rfl g (off + k * 32) rfl X HCE.out Try.underlying36 rfl HXN.out ?_)
        | (refine at_store 36 (.tmp 6) (.tmp 31) rfl ?_; refine wpList_store_row rfl 36 _ _ rfl wr.heap.size X rfl rfl 36 _ Z HXN.out HXZ.out HX1.out ?_)
        | (refine at_slot 34 rfl ?_; refine load_part rfl 34 _ rfl wr.heap.size 1 29 rfl U Try.underlying34 rfl infoCookie HLE.out Cx HCK.out ?_))
      clear Z HCE q30 HXZ HX1
      generalize (wr.alloc (.cells (actA Sh.zeroAct) 36)).setRow wr.heap.size X = x4 at *
      generalize wr.heap.size = g6 at *
      refine (HP.out x4 K4).mono ?_
      rintro e x5 ⟨rfl, K5, t5⟩
      have C5 := C4.trans (t5.below ws wm C4.size)
      have U5 := t5.rows U hu.1 hu.2
      have own5 := own_turned own4 t5 bs bm
      have hB5 : B ≤ x5.heap.size := Nat.le_trans hB4 t5.size
      have hsi5 : ∀ y ∈ (Sh.put s x.c x.site).1.l, (y.site = x.site ∨ y.site ∈ strs) ∧ -9223372036854775808 ≤ y.c.used := fun y hy => by
        rcases Sh.put_sites hy with ⟨e1, e2⟩ | e1
        · exact ⟨.inl e1, by rw [e2]; exact hub⟩
        · exact ⟨.inr (hsi y e1).1, (hsi y e1).2⟩
      have hla5 : (Sh.put s x.c x.site).1.last ≤ ((k + 1 : Nat) : Int) := by
        have h1 : (Sh.put s x.c x.site).1.last ≤ s.last + 1 := by unfold Sh.put; split <;> (dsimp only; omega)
        omega
      generalize (Sh.put s x.c x.site).2 = pb at *
      generalize (Sh.put s x.c x.site).1 = s1 at *
      have HSI := Lib.hid hsi5
      have HND := Lib.hid hnd
      clear t5 K4 C4 U own4 HP hB4 hsi5 hsi hnd hub hla hl0
      obtain ⟨A2, c2, rfl⟩ : ∃ A c, vv = .slice A strs.length c := by
        rcases own5.2 with ⟨rfl, h0⟩ | ⟨g, cap, cur, rfl, _⟩
        · exact ⟨none, 0, by rw [h0]⟩
        · exact ⟨_, _, rfl⟩
      obtain ⟨m, hm⟩ : ∃ m, strs.length = m := ⟨_, rfl⟩
      have HM := Lib.hid hm
      rw [hm] at own5 hsl ⊢
      have hmb : m ≤ 40 := by omega
      have HO5 := Lib.hid own5
      clear hm own5
      go_wp2_with fail
      go_loopw [7, 40] (fun kn i wr => ∃ (k2 : Nat), k2 ≤ m ∧ kn = .bool (decide (x.site ∈ strs.take k2)) ∧ i = .int .i64 (k2 : Int) ∧ Below x5.heap.size x5 wr) (fun _ i _ => m - (intOf i).toNat)
      case atStart => exact ⟨0, Nat.zero_le _, by simp, rfl, Below.refl _ _⟩
      case round =>
        obtain ⟨k2, hk2, rfl, rfl, hb2⟩ := hrel
        by_cases hlt2 : k2 < m
        · obtain ⟨p, hp⟩ : ∃ p, strs[k2]? = some p := ⟨_, List.getElem?_eq_getElem (by rw [HM.out]; exact hlt2)⟩
          have own6 := own_stays HO5.out hb2
          obtain ⟨g2, cap2, hvv⟩ : ∃ g cap, Value.slice A2 m c2 = .slice (some ⟨g, 0, none⟩) m cap := by
            rcases own6.2 with ⟨_, h0⟩ | ⟨g, cap, cur, h, _⟩
            · omega
            · exact ⟨g, cap, h⟩
          obtain ⟨rfl, _, rfl⟩ := Value.slice.inj hvv
          have hcell := own_word own6 hp
          have U6 := (U5.stays hb2)
          have q30 := (U6.cell 30).trans hk30
          have he := text_eqb p site
          rw [HSD.out] at he
          have HST : Hid (decide (x.site ∈ strs.take (k2 + 1)) = (decide (x.site ∈ strs.take k2) || decide (p = x.site))) := Lib.hid (by
            rw [List.take_add_one, hp, Bool.eq_iff_iff, decide_eq_true_iff, Bool.or_eq_true, decide_eq_true_iff, decide_eq_true_iff, List.mem_append]
            exact ⟨fun h => h.imp id (fun e => (List.mem_singleton.1 e).symm), fun h => h.imp id (fun e => List.mem_singleton.2 e.symm)⟩)
          generalize (⟨p.toArray⟩ : ByteArray) = pb2 at *
          clear hp hvv own6 U6
          obtain ⟨kb, hkb⟩ : ∃ kb : Bool, decide (x.site ∈ strs.take k2) = kb := ⟨_, rfl⟩
          rw [hkb] at HST ⊢
          rcases Bool.eq_false_or_eq_true kb with hkt | hkt
          · have HKB : Hid (kb = true) := Lib.hid hkt
            have HSU : Hid (decide (x.site ∈ strs.take (k2 + 1)) = true) := Lib.hid (by rw [HST.out, hkt]; rfl)
            clear hkb hkt he q30 HST
            go_wp2_with (refine at_slot 46 rfl ?_; go_must (refine skip_op (by have h := HKB.out; subst h; rfl) ?_; go_simp; refine skip_op (by have h := HKB.out; subst h; rfl) ?_; go_simp; refine skip_op (by have h := HKB.out; subst h; rfl) ?_; go_simp; refine skip_op (by have h := HKB.out; subst h; rfl) ?_; go_simp; refine pick_true rfl _ _ _ rfl (by have h := HKB.out; subst h; rfl) (.bool true) rfl ?_; go_simp))
            go_roundw
            case rel => exact ⟨k2 + 1, by omega, by rw [HSU.out], by go_num, hb2⟩
            case measure => simp [intOf]; omega
          · subst hkt
            rw [Bool.false_or] at HST
            cases hq : decide (p = x.site) with
            | true =>
              rw [hq] at he HST
              clear hkb hq
              go_wp2
              go_roundw
              case rel => exact ⟨k2 + 1, by omega, by rw [HST.out], by go_num, hb2⟩
              case measure => simp [intOf]; omega
            | false =>
              rw [hq] at he HST
              clear hkb hq
              go_wp2
              go_roundw
              case rel => exact ⟨k2 + 1, by omega, by rw [HST.out], by go_num, hb2⟩
              case measure => simp [intOf]; omega
        · obtain rfl : k2 = m := by omega
          have K6 := K5.stays hb2
          have C6 := C5.trans (hb2.mono C5.size)
          have own6 := own_stays HO5.out hb2
          have hB6 : B ≤ wr.heap.size := Nat.le_trans hB5 hb2.size
          have U6 := U5.stays hb2
          have q30 := (U6.cell 30).trans hk30
          rw [List.take_of_length_le (Nat.le_of_eq HM.out)]
          cases hkn : decide (x.site ∈ strs) with
          | true =>
            have hin := of_decide_eq_true hkn
            have HS6 : Hid (∀ y ∈ s1.l, y.site ∈ strs ∧ -9223372036854775808 ≤ y.c.used) := Lib.hid (fun y hy => by
              obtain ⟨h1, h2⟩ := HSI.out y hy
              exact ⟨h1.elim (fun e => by rw [e]; exact hin) id, h2⟩)
            clear hkn hin q30
            go_wp2
            go_roundw
            case rel => exact ⟨k + 1, s1, strs, _, rfl, by omega, by go_num, K6, by rw [HM.out]; exact own6, HND.out, HS6.out, by rw [HM.out]; omega, hla5, C6, hB6⟩
            case measure => simp [intOf]; omega
          | false =>
            have hin := of_decide_eq_false hkn
            have HS6 : Hid (∀ y ∈ s1.l, y.site ∈ strs ++ [x.site] ∧ -9223372036854775808 ≤ y.c.used) := Lib.hid (fun y hy => by
              obtain ⟨h1, h2⟩ := HSI.out y hy
              exact ⟨h1.elim (fun e => by rw [e]; simp) (fun e => List.mem_append_left _ e), h2⟩)
            have HN6 : Hid ((strs ++ [x.site]).Nodup) := Lib.hid (by
              rw [List.nodup_append]
              exact ⟨HND.out, by simp, fun a ha b hb => by rw [List.mem_singleton.1 hb]; rintro rfl; exact hin ha⟩)
            have HM6 : Hid ((strs ++ [x.site]).length = k2 + 1) := Lib.hid (by rw [List.length_append, HM.out]; rfl)
            clear hkn hin
            go_wp2_with (at_builtin; refine wpList_append_own_at _ rfl _ _ 49 rfl B 9 i0 (.string ⟨#[]⟩) 1 16 Try.underlying49 HI.out HZ0.out HZ1.out HZ2.out rfl (by decide) _ _ _ rfl (own6.alloc _) ⟨wr.heap.size, 0, none⟩ 1 1 [.string site] rfl rfl (cell_one_new _ _ _) ?ca0a ?ca0b ?ca0c ?ca0d ?_)
            case ca0a => intro x hx; simp at hx; subst hx; rfl
            case ca0b => simp only [maxLen]; omega
            case ca0c => omega
            case ca0d => simp; omega
            intro v7 x7 own7 hg7 _ hat7
            have hob := (own6.alloc (.cells #[.string site] 9)).lt
            have K7 := (K6.stays ((Below.refl wr.heap.size wr).alloc (Nat.le_refl _) (.cells #[.string site] 9))).grown hg7 (fun e => by have := (hob _ e.symm).1; omega) (fun e => by have := (hob _ e.symm).1; omega)
            have C7 := (C6.alloc C6.size (.cells #[.string site] 9)).grown hg7 (by have := C6.size; simp; omega) (fun b e => by have := (hob _ e).1; omega)
            have own8 : x7.ownsRow B 9 1 v7 (strs ++ [x.site]).length ((strs ++ [x.site]).map strV) := by
              rw [HM6.out, List.map_append, List.map_singleton, ← HSV.out]
              exact own7
            have hB7 : B ≤ x7.heap.size := by have h1 := hg7.size; rw [size_allocS] at h1; omega
            clear own7 hg7 hat7 hob K6 C6 own6 U6 q30
            go_wp2
            go_roundw
            case rel => exact ⟨k + 1, s1, strs ++ [x.site], v7, rfl, by omega, by go_num, K7, own8, HN6.out, HS6.out, by rw [HM6.out]; omega, hla5, C7, hB7⟩
            case measure => simp [intOf]; omega
    · obtain rfl : k = n := by omega
      obtain ⟨A2, c2, rfl⟩ : ∃ A c, vv = .slice A strs.length c := by
        rcases hown.2 with ⟨rfl, h0⟩ | ⟨g, cap, cur, rfl, _⟩
        · exact ⟨none, 0, by rw [h0]⟩
        · exact ⟨_, _, rfl⟩
      have htot := Sh.count_sum hnd (fun y hy => (hsi y hy).1)
      have hfew := Sh.few K.well
      have hlen := K.length
      have HTK := Lib.hid (fun j => Sh.sum_take (Sh.count s) strs j)
      have HTS := Lib.hid (fun j x h => @Sh.sum_step _ (Sh.count s) strs j x h)
      have HUS : Hid (∀ y ∈ s.l, -9223372036854775808 ≤ y.c.used) := Lib.hid (fun y hy => (hsi y hy).2)
      obtain ⟨N, hN⟩ : ∃ N, s.l.length = N := ⟨_, rfl⟩
      rw [hN] at htot hfew hlen
      have HTOT := Lib.hid htot
      have HNL := Lib.hid hN
      have HC1 := Lib.hid (fun site W q => HCT.out site sb mb s W q)
      have HL1 := Lib.hid (fun W q => HLN.out sb mb s W q)
      rw [hN] at HL1
      obtain ⟨m, hm⟩ : ∃ m, strs.length = m := ⟨_, rfl⟩
      have HM := Lib.hid hm
      rw [hm] at hown hsl ⊢
      have hmb : m ≤ 40 := by omega
      have HO := Lib.hid hown
      clear hm hown hnd hsi htot hN
      go_wp2_with fail
      go_loopw [10, 62] (fun sm i w2 => ∃ (k2 : Nat), k2 ≤ m ∧ sm = .int .i64 ((((strs.take k2).map (Sh.count s)).sum : Nat) : Int) ∧ i = .int .i64 (k2 : Int) ∧ Below wr.heap.size wr w2) (fun _ i _ => m - (intOf i).toNat)
      case atStart => exact ⟨0, Nat.zero_le _, rfl, rfl, Below.refl _ _⟩
      case round =>
        obtain ⟨k2, hk2, rfl, rfl, hb2⟩ := hrel
        by_cases hlt2 : k2 < m
        · obtain ⟨p, hp⟩ : ∃ p, strs[k2]? = some p := ⟨_, List.getElem?_eq_getElem (by rw [HM.out]; exact hlt2)⟩
          have own6 := own_stays HO.out hb2
          obtain ⟨g2, cap2, hvv⟩ : ∃ g cap, Value.slice A2 m c2 = .slice (some ⟨g, 0, none⟩) m cap := by
            rcases own6.2 with ⟨_, h0⟩ | ⟨g, cap, cur, h, _⟩
            · omega
            · exact ⟨g, cap, h⟩
          obtain ⟨rfl, _, rfl⟩ := Value.slice.inj hvv
          have hcell := own_word own6 hp
          have hst := HTS.out k2 p hp
          have hle := HTK.out (k2 + 1)
          rw [HTOT.out] at hle
          have HCP := Lib.hid (fun W q => HC1.out ⟨p.toArray⟩ W q)
          rw [show (⟨p.toArray⟩ : ByteArray).data.toList = p from rfl] at HCP
          have K6 := K.stays hb2
          generalize ((strs.take k2).map (Sh.count s)).sum = a at *
          generalize Sh.count s p = b at *
          have hwr : IntKind.i64.wrap ((a : Int) + (b : Int)) = (a : Int) + (b : Int) := by rw [IntKind.wrap_i64]; omega
          have HST := Lib.hid hst
          generalize (⟨p.toArray⟩ : ByteArray) = pb2 at *
          clear hp hvv own6 hst
          go_wp2_with fail
          refine (HCP.out _ K6).mono ?_
          rintro e x8 ⟨rfl, d8⟩
          have B8 := hb2.trans (d8.mono hb2.size)
          go_wp2
          go_roundw
          case rel => exact ⟨k2 + 1, by omega, by rw [HST.out]; go_num, by go_num, B8⟩
          case measure => simp [intOf]; omega
        · obtain rfl : k2 = m := by omega
          have K6 := K.stays hb2
          have C6 := hb.trans (hb2.mono hb.size)
          rw [List.take_of_length_le (Nat.le_of_eq HM.out), HTOT.out]
          go_wp2_with fail
          refine (HL1.out _ K6).mono ?_
          rintro e x8 ⟨rfl, d8⟩
          have K8 := K6.stays d8
          have C8 := C6.trans (d8.mono C6.size)
          clear K6 C6 d8 K hb
          go_wp2_with fail
          go_loopw [13, 14] (fun la i w2 => ∃ (k3 : Nat) (s3 : Sh.Shelf) (l3 : Int), k3 ≤ N ∧ la = .int .i64 l3 ∧ i = .int .i64 (k3 : Int) ∧ ShelfAt w2 sb mb s3 ∧ s3.l.length + k3 = N ∧ (∀ y ∈ s3.l, l3 ≤ y.c.used) ∧ Below w.heap.size w w2) (fun _ i _ => N - (intOf i).toNat)
          case atStart => exact ⟨0, s, _, Nat.zero_le _, rfl, rfl, K8, HNL.out, HUS.out, C8⟩
          case round =>
            obtain ⟨k3, s3, l3, hk3, rfl, rfl, K9, hl9, hu9, hb9⟩ := hrel
            have HU9 := Lib.hid hu9
            have HL9 := Lib.hid hl9
            clear K8 C8 hu9 hl9
            by_cases hlt3 : k3 < N
            · obtain ⟨y, hy, ho, hmin⟩ := Sh.oldest_every (s := s3) (by have := HL9.out; omega)
              have hly := HU9.out y hy
              have kpl := (K9.okay y hy).cookie
              have kad := (K9.okay y hy).addr
              have HO9 := Lib.hid (HOA.out sb mb s3 wr K9)
              rw [ho] at HO9
              have HO9 : Hid (Calls Try.prog 18 #[.pointer (some ⟨sb, 0, none⟩)] wr fun e w' => e = .returned (.tuple #[.agg (cookieA y.c), .bool true]) ∧ Below wr.heap.size wr w') := HO9
              have HD := Lib.hid (fun W (q : ShelfAt W sb mb s3) => dropShelf_calls y.c kpl W q)
              obtain ⟨hd1, hd2, hd3⟩ := Sh.drop_hit hy
              rw [hd1] at HD
              obtain ⟨s4, hs4⟩ : ∃ z, z = (Sh.drop s3 y.c).1 := ⟨_, rfl⟩
              rw [← hs4] at HD hd2 hd3
              have HL4 : Hid (s4.l.length + (k3 + 1) = N) := Lib.hid (by have := HL9.out; omega)
              have HU4 : Hid (∀ z ∈ s4.l, y.c.used ≤ z.c.used) := Lib.hid (fun z hz => hmin z (hd3 z hz))
              have e27 := cookieA_used y.c kad
              obtain ⟨Y, hY⟩ : ∃ Y, cookieA y.c = Y := ⟨_, rfl⟩
              rw [hY] at HO9 HD e27
              have NY := Lib.hid (show (Try.prog.info? 34).map (·.size) = some Y.size by rw [← hY, cookieA_size _ kad]; exact infoCookie)
              have ZY := Lib.hid (show ZC.size = Y.size by rw [← hY, cookieA_size _ kad]; exact HZC.out)
              have OY := Lib.hid (show Y.all (·.oneCell') = true by rw [← hY]; exact cookieA_one _)
              generalize y.c.used = uy at *
              have hly1 : ¬ (uy < l3) := by omega
              have hly2 : decide (uy < l3) = false := decide_eq_false hly1
              have hls := K9.row.lt
              have hlm := K9.map.lt
              clear hs4 hY hy ho hmin kpl kad hd1 hd2 hd3 HL9 HU9
              go_wp2_with fail
              refine HO9.out.mono ?_
              rintro e x10 ⟨rfl, d10⟩
              have K10 := K9.stays d10
              have C10 := hb9.trans (d10.mono hb9.size)
              have hs10 := d10.size
              obtain ⟨Zb, Eb, Db, Lb⟩ := lay_row 34 ZC Y (Below.refl x10.heap.size x10) (Nat.le_refl _)
              have K11 := K10.stays Db
              have C11 := C10.trans (Db.mono C10.size)
              have q27 := (Eb.cell 27).trans e27
              clear Lb Db K10 C10 d10 K9 HO9
              go_wp2_with (first
                | (refine at_slot 96 rfl ?_; refine load_row rfl 34 _ rfl x10.heap.size rfl Eb Try.underlying34 rfl NY.out ?_)
                | (refine at_store 34 (.tmp 15) (.tmp 84) rfl ?_; refine wpList_store_row rfl 34 _ _ rfl x10.heap.size Y rfl rfl 34 _ Zb NY.out ZY.out OY.out ?_))
              clear Zb q27
              generalize (x10.alloc (.cells ZC 34)).setRow x10.heap.size Y = x11 at *
              generalize x10.heap.size = g15 at *
              refine (HD.out x11 K11).mono ?_
              rintro e x12 ⟨rfl, K12, t12⟩
              have C12 := C11.trans (t12.below ws wm C11.size)
              have q27 := ((t12.rows Eb (by omega) (by omega)).cell 27).trans e27
              clear t12 Eb K11 C11 HD
              go_wp2
              go_roundw
              case rel => exact ⟨k3 + 1, s4, uy, by omega, rfl, by go_num, K12, HL4.out, HU4.out, C12⟩
              case measure => simp [intOf]; omega
            · obtain rfl : k3 = N := by omega
              have hl0 : s3.l.length = 0 := by have := HL9.out; omega
              have HO9 := Lib.hid (HOA.out sb mb s3 wr K9)
              rw [Sh.oldest_empty hl0] at HO9
              have HO9 : Hid (Calls Try.prog 18 #[.pointer (some ⟨sb, 0, none⟩)] wr fun e w' => e = .returned (.tuple #[.agg (cookieA Ma.zeroC), .bool false]) ∧ Below wr.heap.size wr w') := HO9
              rw [HZCE.out] at HO9
              have HL0 := Lib.hid (fun W q => HLN.out sb mb s3 W q)
              rw [hl0] at HL0
              clear hl0 HL9 HU9
              go_wp2_with fail
              refine HO9.out.mono ?_
              rintro e x10 ⟨rfl, d10⟩
              have K10 := K9.stays d10
              have C10 := hb9.trans (d10.mono hb9.size)
              obtain ⟨Zb, Eb, Db, Lb⟩ := lay_row 34 ZC ZC (Below.refl x10.heap.size x10) (Nat.le_refl _)
              have K11 := K10.stays Db
              have C11 := C10.trans (Db.mono C10.size)
              clear Lb Db K10 C10 d10 K9 HO9 Eb
              go_wp2_with (refine at_store 34 (.tmp 17) (.tmp 105) rfl ?_; refine wpList_store_row rfl 34 _ _ rfl x10.heap.size ZC rfl rfl 34 _ Zb NZ.out rfl OZ.out ?_)
              clear Zb
              generalize (x10.alloc (.cells ZC 34)).setRow x10.heap.size ZC = x11 at *
              refine (HL0.out x11 K11).mono ?_
              rintro e x12 ⟨rfl, d12⟩
              have C12 := C11.trans (d12.mono C11.size)
              go_wp2
              go_ret
              exact ⟨rfl, C12⟩
end Go.Proofs.Ytdfcnodlddeccaa
