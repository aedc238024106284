/- The walk of the law SuffixGrows. -/
import Derived.Test.YtnlhniaoaciopaaGreatDoorSuffixAlive
import Derived.Test.YtnlhniaoaciopaaGreatDoorRefHosts
import Derived.Test.YtnlhniaoaciopaaGreatDoorRefRule
import Derived.Test.YtnlhniaoaciopaaGreatDoorSufPlain
import Derived.Maps.AppendAt
import Derived.Deep.AppendLies
import Derived.Deep.RegionHeld
namespace Go.Proofs.YtnlhniaoaciopaaGreatDoor
open Go.RowKit Go.Maps
theorem Hst.parse_few (l : List UInt8) : (Hst.host (Hst.parse l)).name.length ≤ l.length := by
  unfold Hst.parse
  split
  · exact Nat.zero_le _
  · split
    · rw [Hst.v6part_eq]; split <;> exact Nat.zero_le _
    · split
      · rw [Hst.v4part_eq]; split <;> exact Nat.zero_le _
      · split
        · exact Nat.le_of_eq (List.length_map ..)
        · exact Nat.zero_le _
theorem rparse_is (d : ByteArray) (W : World) (hd : d.data.toList.length ≤ 1048576) : Calls Tryz.prog 18 #[.string d] W fun e w' => e = .returned (.tuple #[.agg (hostA (Hst.host (Hst.parse d.data.toList))), .int .i64 (Hst.code (Hst.parse d.data.toList))]) ∧ Below W.heap.size W w' :=
  refParse_calls d W (by simpa using hd)
theorem labels_are (h : Hst.Host) (ha : h.addr.length = 16) (hs : h.name.length ≤ 100000) {n : Nat} (hn : (Hst.labels h).length = n) (W : World) :
    Calls Tryz.prog 22 #[.agg (hostA h)] W fun e w' => (∃ A c, e = .returned (.slice A n c)) ∧ Below W.heap.size W w' :=
  (refLabels_calls h ha hs W).mono fun e w' ⟨v, he, hown, hb⟩ => by
    rw [hn] at hown
    refine ⟨?_, hb⟩
    rcases hown.2 with ⟨rfl, h0⟩ | ⟨g, cap, cur, rfl, _⟩
    · exact ⟨none, 0, by rw [he, h0]⟩
    · exact ⟨_, _, he⟩
/-- The cells that a value holds, as the appended ones. -/
theorem HoldsRules.news {w : World} {v : Value} {rs : List Ru.Rule} (h : HoldsRules w v rs) : (rs.length = 0 ∧ ∃ c, v = .slice none 0 c) ∨ ∃ ad c, v = .slice (some ad) rs.length c ∧ ∀ j u, (rulesL rs)[j]? = some u → w.cell? (ad.add j) = some u := by
  obtain ⟨A, c, rfl, hh⟩ := h
  cases rs with
  | nil =>
    cases A with
    | none => exact .inl ⟨rfl, c, rfl⟩
    | some ad => exact .inr ⟨ad, c, rfl, fun j u hj => by simp [rulesL] at hj⟩
  | cons r0 rs0 =>
    obtain ⟨g, off, rfl, _, _, hcell⟩ := hh (by simp)
    refine .inr ⟨_, c, rfl, fun j u hj => ?_⟩
    have hadd : (⟨g, off, none⟩ : Addr).add j = ⟨g, off + j, none⟩ := by unfold Addr.add; split <;> simp_all
    rw [hadd]
    generalize r0 :: rs0 = rs at *
    have hjl : j < rs.length * 2 := by rw [← rulesL_length]; exact (List.getElem?_eq_some_iff.1 hj).1
    obtain ⟨r, hr⟩ : ∃ r, rs[j / 2]? = some r := ⟨_, List.getElem?_eq_getElem (by omega)⟩
    obtain ⟨h0, h1⟩ := hcell _ r hr
    obtain ⟨k0, k1⟩ := rulesL_at hr
    rcases Nat.mod_two_eq_zero_or_one j with hm | hm
    · have e : j / 2 * 2 = j := by omega
      rw [e] at k0 h0
      rw [hj] at k0
      rw [h0]; exact k0.symm
    · have e : j / 2 * 2 + 1 = j := by omega
      rw [e] at k1
      rw [hj] at k1
      rw [show off + j = off + j / 2 * 2 + 1 by omega, h1]; exact k1.symm
theorem rulesL_one (rs : List Ru.Rule) : ∀ u ∈ rulesL rs, u.oneCell' = true := by
  intro u hu
  unfold rulesL at hu
  obtain ⟨r, _, hr⟩ := List.mem_flatMap.1 hu
  simp at hr
  rcases hr with rfl | rfl <;> rfl
theorem run_append_rules {w : World} {B : Nat} {s : Value} {n : Nat} {xs : List Value} (hown : w.ownsRow B 50 2 s n xs) {v : Value} {rs : List Ru.Rule} (hv : HoldsRules w v rs) (hn : n + rs.length ≤ 1000) (hB : B ≤ w.heap.size) :
    ∃ v' w', (Builtin.append_ #[22, 22] 22 #[s, v]).run Tryz.prog w = .ok v' w' ∧ w'.ownsRow B 50 2 v' (n + rs.length) (xs ++ rulesL rs) ∧ w.grownBy w' s.ownBlock := by
  obtain ⟨i0, hi, hz0, hz1, hz2⟩ := info_parts infoRuleZ
  rcases hv.news with ⟨h0, c, rfl⟩ | ⟨ad, c, rfl, hc⟩
  · have hrs : rs = [] := List.eq_nil_of_length_eq_zero h0
    subst hrs
    refine ⟨s, w, ?_, by simpa [rulesL] using hown, ⟨rfl, rfl, rfl, Nat.le_refl _, fun _ _ _ => rfl⟩⟩
    rcases hown.2 with ⟨rfl, rfl⟩ | ⟨g, cap, cur, rfl, _, _, hc, _⟩
    · simp [Builtin.append_, run_underlying Tryz.underlying22, sizeOf, typeInfo, hi, Builtin.lenOf, Builtin.firstCells]
    · simp [Builtin.append_, run_underlying Tryz.underlying22, sizeOf, typeInfo, hi, Builtin.lenOf, Builtin.firstCells, loadCells, hc, storeCells]
  · obtain ⟨v', w', h1, h2, h3, _, _⟩ := run_append_own_at w B 22 22 50 i0 _ 2 24 Tryz.underlying22 hi hz0 hz1 hz2 rfl (by decide) s n xs hown ad rs.length c (rulesL rs) (rulesL_length rs) hc (rulesL_one rs) (by unfold maxLen; omega) (by omega) hB
    exact ⟨v', w', h1, h2, h3⟩
theorem step_append_rules {w : World} {ops : Array Oper} {o : Oper} {a : Act} {K : Act → World → Prop} {Q : Exit → Act → World → Prop} {E : Prop} (hgd : o.guard = none) (s x : Operand)
    (ho : o.op = .call { callee := .builtin .append, args := #[s, x], argTypes := #[22, 22] }) (hty : o.type = 22) {B : Nat} {S V : Value} {n : Nat} {xs : List Value} (hs : a.eval s = S) (hx : a.eval x = V) (hown : w.ownsRow B 50 2 S n xs) {rs : List Ru.Rule} (hv : HoldsRules w V rs) (hn : n + rs.length ≤ 1000) (hB : B ≤ w.heap.size)
    (h : ∀ v' w', w'.ownsRow B 50 2 v' (n + rs.length) (xs ++ rulesL rs) → w.grownBy w' S.ownBlock → K (a.put o.dst v') w') :
    if Region.wanted o (yielded ops a.tmps) = true then Oper.wp Tryz.prog o a w K Q else E := by
  have hw : Region.wanted o (yielded ops a.tmps) = true := by simp [Region.wanted, hgd]
  rw [if_pos hw]
  obtain ⟨v', w', hr, h2, h3⟩ := run_append_rules hown hv hn hB
  unfold Oper.wp execOp
  simp only [ho, hty, resolve, invoke, builtin, Sem.run_bind, Sem.run_pure, Result.andThen_ok, List.map_toArray, List.map_cons, List.map_nil, hs, hx, hr]
  exact h v' w' h2 h3
/-- One rule in a block of its own. -/
theorem one_rule {w : World} {g : Nat} {u : ByteArray} (h : Row w g 50 #[.int .i64 1, .string u]) : HoldsRules w (.slice (some ⟨g, 0, none⟩) 1 1) [⟨1, u.data.toList⟩] := by
  refine ⟨_, _, rfl, fun _ => ⟨g, 0, rfl, h.lt, Nat.le_refl _, fun k r hk => ?_⟩⟩
  cases k with
  | zero =>
    have e : (⟨1, u.data.toList⟩ : Ru.Rule) = r := by simpa using hk
    subst e
    exact ⟨by rw [h.cell]; rfl, by rw [h.cell]; rfl⟩
  | succ k => simp at hk
set_option maxRecDepth 100000 in
set_option maxHeartbeats 16000000 in
theorem sgrows_walk (rs : List Ru.Rule) (more d : ByteArray) (w : World) (v : Value) (hv : HoldsRules w v rs ∧ rs.length ≤ maxLen ∧ ∀ r ∈ rs, r.name.length ≤ maxLen) (_hm : more.size ≤ maxLen) (_hd : d.size ≤ maxLen) (_hsn : more.data.toList.length ≤ 1048576) (hsm : d.data.toList.length ≤ 1048576) (hw : Std w) :
    Calls Tryz.prog 7 #[v, .string more, .string d] w fun e w' => e = .returned (.bool true) ∧ Below w.heap.size w w' := by
  have HA := Lib.hid suffix_alive
  unfold BoolPost at HA
  have z0 := zeroHost
  have HP := Lib.hid (fun W => rparse_is d W hsm)
  have ha := Hst.parse_length d.data.toList
  have hf0 := Hst.parse_few d.data.toList
  have hds : d.data.toList.length = d.size := by simp
  obtain ⟨o, ho⟩ : ∃ o, Hst.parse d.data.toList = o := ⟨_, rfl⟩
  rw [ho] at HP ha hf0
  have HG := Lib.hid (fun W hV => great_calls rs v (Hst.host o) W hV hv.2.1 (by unfold maxLen; omega) hv.2.2)
  unfold BoolPost at HG
  have HV := hv.1
  have HH := Lib.hid (show (Tryz.prog.info? 26).map (·.size) = some (hostA (Hst.host o)).size by rw [hostA_size _ ha]; exact infoHost)
  have HZ : Hid ((hostA Hst.zero).size = (hostA (Hst.host o)).size) := Lib.hid (by rw [hostA_size _ ha]; rfl)
  have HO := Lib.hid (hostA_one (Hst.host o))
  by_cases hg : greatB rs (Hst.host o) = true
  case pos =>
    rw [hg] at HG
    clear hg hv hf0 ho hds ha _hd hsm _hm _hsn
    generalize Hst.code o = c at *
    generalize hostA (Hst.host o) = X at *
    go_enter Tryz.func7, Tryz.ntmps7
    go_wp2_with fail
    refine (HA.out _ hw).mono ?_
    rintro e x0 ⟨rfl, d0⟩
    have V0 := HV.stays d0
    go_wp2_with fail
    refine (HP.out _).mono ?_
    rintro e x1 ⟨rfl, d1⟩
    have B1 := d0.trans (d1.mono d0.size)
    have V1 := V0.stays d1
    obtain ⟨T2, U2, C2, _⟩ := lay_row 26 (hostA Hst.zero) X B1 B1.size
    have V2 : HoldsRules ((x1.alloc (.cells (hostA Hst.zero) 26)).setRow x1.heap.size X) v rs := V1.stays (below_setRow ((Below.refl _ _).alloc (Nat.le_refl _) _) (Nat.le_refl _) _)
    clear V0 V1 B1 d0 d1
    go_wp2_with (first
      | (refine at_none rfl ?_; refine wpList_store_row rfl 26 _ _ rfl x1.heap.size X rfl rfl 26 _ T2 HH.out HZ.out HO.out ?_)
      | (refine at_slot 19 rfl ?_; refine load_row rfl 26 _ rfl x1.heap.size rfl U2 Tryz.underlying26 rfl HH.out ?_))
    generalize (x1.alloc (.cells (hostA Hst.zero) 26)).setRow x1.heap.size X = x2 at *
    generalize x1.heap.size = g2 at *
    clear T2
    refine (HG.out _ V2).mono ?_
    rintro e x3 ⟨rfl, d3⟩
    have B3 := C2.trans (d3.mono C2.size)
    have U3 := U2.stays d3
    have V3 := V2.stays d3
    clear C2 U2 V2 d3
    go_wp2
    go_ret
    exact ⟨rfl, B3⟩
  have hg : greatB rs (Hst.host o) = false := by simpa using hg
  rw [hg] at HG
  by_cases hlm : 400 < more.size
  case pos =>
    have hlmi : (400 : Int) < (more.size : Int) := by omega
    clear hg hv hf0 ho hds ha _hd hsm _hm _hsn hlm
    generalize Hst.code o = c at *
    generalize hostA (Hst.host o) = X at *
    go_enter Tryz.func7, Tryz.ntmps7
    go_wp2_with fail
    refine (HA.out _ hw).mono ?_
    rintro e x0 ⟨rfl, d0⟩
    have V0 := HV.stays d0
    go_wp2_with fail
    refine (HP.out _).mono ?_
    rintro e x1 ⟨rfl, d1⟩
    have B1 := d0.trans (d1.mono d0.size)
    have V1 := V0.stays d1
    obtain ⟨T2, U2, C2, _⟩ := lay_row 26 (hostA Hst.zero) X B1 B1.size
    have V2 : HoldsRules ((x1.alloc (.cells (hostA Hst.zero) 26)).setRow x1.heap.size X) v rs := V1.stays (below_setRow ((Below.refl _ _).alloc (Nat.le_refl _) _) (Nat.le_refl _) _)
    clear V0 V1 B1 d0 d1
    go_wp2_with (first
      | (refine at_none rfl ?_; refine wpList_store_row rfl 26 _ _ rfl x1.heap.size X rfl rfl 26 _ T2 HH.out HZ.out HO.out ?_)
      | (refine at_slot 19 rfl ?_; refine load_row rfl 26 _ rfl x1.heap.size rfl U2 Tryz.underlying26 rfl HH.out ?_))
    generalize (x1.alloc (.cells (hostA Hst.zero) 26)).setRow x1.heap.size X = x2 at *
    generalize x1.heap.size = g2 at *
    clear T2
    refine (HG.out _ V2).mono ?_
    rintro e x3 ⟨rfl, d3⟩
    have B3 := C2.trans (d3.mono C2.size)
    have U3 := U2.stays d3
    have V3 := V2.stays d3
    clear C2 U2 V2 d3
    go_wp2
    go_ret
    exact ⟨rfl, B3⟩
  have hlmi : ¬ (400 : Int) < (more.size : Int) := by omega
  by_cases hl : 400 < d.size
  case pos =>
    have hli : (400 : Int) < (d.size : Int) := by omega
    clear hg hv hf0 ho hds ha hl _hd hsm _hm _hsn hlm
    generalize Hst.code o = c at *
    generalize hostA (Hst.host o) = X at *
    go_enter Tryz.func7, Tryz.ntmps7
    go_wp2_with fail
    refine (HA.out _ hw).mono ?_
    rintro e x0 ⟨rfl, d0⟩
    have V0 := HV.stays d0
    go_wp2_with fail
    refine (HP.out _).mono ?_
    rintro e x1 ⟨rfl, d1⟩
    have B1 := d0.trans (d1.mono d0.size)
    have V1 := V0.stays d1
    obtain ⟨T2, U2, C2, _⟩ := lay_row 26 (hostA Hst.zero) X B1 B1.size
    have V2 : HoldsRules ((x1.alloc (.cells (hostA Hst.zero) 26)).setRow x1.heap.size X) v rs := V1.stays (below_setRow ((Below.refl _ _).alloc (Nat.le_refl _) _) (Nat.le_refl _) _)
    clear V0 V1 B1 d0 d1
    go_wp2_with (first
      | (refine at_none rfl ?_; refine wpList_store_row rfl 26 _ _ rfl x1.heap.size X rfl rfl 26 _ T2 HH.out HZ.out HO.out ?_)
      | (refine at_slot 19 rfl ?_; refine load_row rfl 26 _ rfl x1.heap.size rfl U2 Tryz.underlying26 rfl HH.out ?_))
    generalize (x1.alloc (.cells (hostA Hst.zero) 26)).setRow x1.heap.size X = x2 at *
    generalize x1.heap.size = g2 at *
    clear T2
    refine (HG.out _ V2).mono ?_
    rintro e x3 ⟨rfl, d3⟩
    have B3 := C2.trans (d3.mono C2.size)
    have U3 := U2.stays d3
    have V3 := V2.stays d3
    clear C2 U2 V2 d3
    go_wp2
    go_ret
    exact ⟨rfl, B3⟩
  have hli : ¬ (400 : Int) < (d.size : Int) := by omega
  cases o with
  | none =>
    have hc : Hst.code none = 31 := rfl
    rw [hc] at HP
    clear hc hg hv hf0 ho hds ha hl _hd hsm _hm _hsn hlm
    generalize hostA (Hst.host none) = X at *
    go_enter Tryz.func7, Tryz.ntmps7
    go_wp2_with fail
    refine (HA.out _ hw).mono ?_
    rintro e x0 ⟨rfl, d0⟩
    have V0 := HV.stays d0
    go_wp2_with fail
    refine (HP.out _).mono ?_
    rintro e x1 ⟨rfl, d1⟩
    have B1 := d0.trans (d1.mono d0.size)
    have V1 := V0.stays d1
    obtain ⟨T2, U2, C2, _⟩ := lay_row 26 (hostA Hst.zero) X B1 B1.size
    have V2 : HoldsRules ((x1.alloc (.cells (hostA Hst.zero) 26)).setRow x1.heap.size X) v rs := V1.stays (below_setRow ((Below.refl _ _).alloc (Nat.le_refl _) _) (Nat.le_refl _) _)
    clear V0 V1 B1 d0 d1
    go_wp2_with (first
      | (refine at_none rfl ?_; refine wpList_store_row rfl 26 _ _ rfl x1.heap.size X rfl rfl 26 _ T2 HH.out HZ.out HO.out ?_)
      | (refine at_slot 19 rfl ?_; refine load_row rfl 26 _ rfl x1.heap.size rfl U2 Tryz.underlying26 rfl HH.out ?_))
    generalize (x1.alloc (.cells (hostA Hst.zero) 26)).setRow x1.heap.size X = x2 at *
    generalize x1.heap.size = g2 at *
    clear T2
    refine (HG.out _ V2).mono ?_
    rintro e x3 ⟨rfl, d3⟩
    have B3 := C2.trans (d3.mono C2.size)
    have U3 := U2.stays d3
    have V3 := V2.stays d3
    clear C2 U2 V2 d3
    go_wp2
    go_ret
    exact ⟨rfl, B3⟩
  | some h =>
    have hc : Hst.code (some h) = 0 := rfl
    have hh : Hst.host (some h) = h := rfl
    rw [hc, hh] at HP
    rw [hh] at HG HH HZ HO hg hf0 ha
    obtain ⟨g1, g2, g3⟩ := great_no hg
    have hrm : ∀ r ∈ rs, r.name.length ≤ 1000 := fun r hr => by have := g1 r hr; omega
    have hms : more.data.toList.length = more.size := by simp
    have hqm : ∀ r ∈ rs ++ [⟨1, more.data.toList⟩], r.name.length ≤ 1000 := fun r hr => by
      rcases List.mem_append.1 hr with hr | hr
      · exact hrm r hr
      · have e : r = ⟨1, more.data.toList⟩ := by simpa using hr
        rw [e]
        show more.data.toList.length ≤ 1000
        omega
    have HN := Lib.hid (fun W hW hV => new_calls rs v W hW hV (by omega) hrm)
    have HN2 := Lib.hid (fun x W hW hV => new_calls (rs ++ [⟨1, more.data.toList⟩]) x W hW hV (by rw [List.length_append]; show rs.length + 1 ≤ 1000; omega) hqm)
    unfold NewTable at HN HN2
    have P1 := Lib.hid (fun n₀ tb mb W hW hT => suffix_calls (Sx.new rs) h n₀ tb mb W hW ha (by omega) hT)
    have Q1 := Lib.hid (fun n₀ tb mb W hW hT => suffix_calls (Sx.new (rs ++ [⟨1, more.data.toList⟩])) h n₀ tb mb W hW ha (by omega) hT)
    unfold SufPost at P1 Q1
    have hgrows := Sx.suffix_grows (rs := rs) (n := more.data.toList) h
    have HOL : Hid (∀ B W x, W.ownsRow B 50 2 x (0 + rs.length + [(⟨1, more.data.toList⟩ : Ru.Rule)].length) (([] ++ rulesL rs) ++ rulesL [⟨1, more.data.toList⟩]) → HoldsRules W x (rs ++ [⟨1, more.data.toList⟩])) := Lib.hid (fun B W x hx => (own_rules (B := B) (t := 50) (by
    have e : rulesL (rs ++ [⟨1, more.data.toList⟩]) = ([] ++ rulesL rs) ++ rulesL [⟨1, more.data.toList⟩] := by simp [rulesL]
    rw [e, List.length_append, ← Nat.zero_add rs.length]; exact hx)).holds)
    have HLM := Lib.hid (show 0 + rs.length ≤ 1000 by omega)
    have HLN := Lib.hid (show 0 + rs.length + [(⟨1, more.data.toList⟩ : Ru.Rule)].length ≤ 1000 by show 0 + rs.length + 1 ≤ 1000; omega)
    have HL := Lib.hid (fun W => lawName_calls more W)
    have hda : (⟨1, more.data.toList, Hst.nil16⟩ : Hst.Host).addr.length = 16 := rfl
    generalize Sx.suffix (Sx.new rs) h = n at *
    generalize Sx.suffix (Sx.new (rs ++ [⟨1, more.data.toList⟩])) h = m at *
    by_cases hmn : m = n
    case pos =>
      subst hmn
      clear hg hv hf0 ho hds ha hl _hd hsm _hm _hsn hlm hrm hqm hc hh g1 g2 g3 hgrows HL hda hms
      generalize hostA h = X at *
      go_enter Tryz.func7, Tryz.ntmps7
      go_wp2_with fail
      refine (HA.out _ hw).mono ?_
      rintro e x0 ⟨rfl, d0⟩
      have V0 := HV.stays d0
      go_wp2_with fail
      refine (HP.out _).mono ?_
      rintro e x1 ⟨rfl, d1⟩
      have B1 := d0.trans (d1.mono d0.size)
      have V1 := V0.stays d1
      obtain ⟨T2, U2, C2, _⟩ := lay_row 26 (hostA Hst.zero) X B1 B1.size
      have V2 : HoldsRules ((x1.alloc (.cells (hostA Hst.zero) 26)).setRow x1.heap.size X) v rs := V1.stays (below_setRow ((Below.refl _ _).alloc (Nat.le_refl _) _) (Nat.le_refl _) _)
      clear V0 V1 B1 d0 d1
      go_wp2_with (first
        | (refine at_none rfl ?_; refine wpList_store_row rfl 26 _ _ rfl x1.heap.size X rfl rfl 26 _ T2 HH.out HZ.out HO.out ?_)
        | (refine at_slot 19 rfl ?_; refine load_row rfl 26 _ rfl x1.heap.size rfl U2 Tryz.underlying26 rfl HH.out ?_))
      generalize (x1.alloc (.cells (hostA Hst.zero) 26)).setRow x1.heap.size X = x2 at *
      generalize x1.heap.size = g2 at *
      clear T2
      refine (HG.out _ V2).mono ?_
      rintro e x3 ⟨rfl, d3⟩
      have B3 := C2.trans (d3.mono C2.size)
      have U3 := U2.stays d3
      have V3 := V2.stays d3
      clear C2 U2 V2 d3
      go_wp2_with fail
      refine wp_region_held_drew (S := fun W => Below x3.heap.size x3 W) (by kernel_rfl) (Below.refl _ _).drew (fun hS => ?_)
      have SX := hw.below B3
      have RX := Lib.hid (fun W (hC : Below x3.heap.size x3 W) => U3.stays hC)
      have HVX := Lib.hid (fun W (hC : Below x3.heap.size x3 W) => V3.stays hC)
      generalize x3.drew = u0 at *
      refine wpAnyH_take (i := 0) (v := ?_) rfl (by kernel_rfl) (by kernel_rfl) (by kernel_rfl) (fun _ _ _ h => h) (Or.inl ⟨by rfl, ?_⟩) (by assumption) ?_
      rotate_left
      · intro _ _; go_simp; with_reducible rfl
      simp only [Act.put, List.setIfInBounds_toArray, List.set_cons_zero, List.set_cons_succ, List.getElem_toArray, List.getElem_cons_zero]
      refine wpAnyH_take (i := 2) rfl (by kernel_rfl) (by kernel_rfl) (by kernel_rfl) (fun _ _ _ h => h) (yields_row (by rfl) _ _ rfl _ rfl RX.out Tryz.underlying26 rfl HH.out) (by assumption) ?_
      simp only [Act.put, List.setIfInBounds_toArray, List.set_cons_zero, List.set_cons_succ, List.getElem_toArray, List.getElem_cons_zero, List.getElem_cons_succ]
      refine wpAnyH_ready (rs := [1]) (by kernel_rfl) (by simp) (AllReadyH.cons rfl (fun K hK => ?_) AllReadyH.nil)
      rw [if_pos (by rfl)]
      go_simp
      refine (HN.out _ (SX.below hS) (HVX.out _ hS)).mono ?_
      rintro e y1 ⟨tb, mb, rfl, T4, d4⟩
      have S1 := hS.trans (d4.mono hS.size)
      go_wp2_with fail
      refine hK.out _ _ S1 (fun _ => ?_)
      clear hK K
      refine wpAnyH_ready (rs := [3]) (by kernel_rfl) (by simp) (AllReadyH.cons rfl (fun K hK => ?_) AllReadyH.nil)
      rw [if_pos (by rfl)]
      go_simp
      refine (P1.out _ tb mb _ (SX.below S1) T4).mono ?_
      rintro e y2 ⟨rfl, d5⟩
      have S2 := S1.trans (d5.mono S1.size)
      go_wp2_with fail
      refine hK.out _ _ S2 (fun _ => ?_)
      clear hK K
      refine wpAnyH_take (i := 4) (v := ?_) rfl (by kernel_rfl) (by kernel_rfl) (by kernel_rfl) (fun _ _ _ h => h) (Or.inl ⟨by rfl, ?_⟩) (by assumption) ?_
      rotate_left
      · intro _ _; go_simp; with_reducible rfl
      simp only [Act.put, List.setIfInBounds_toArray, List.set_cons_zero, List.set_cons_succ, List.getElem_toArray, List.getElem_cons_zero, List.getElem_cons_succ]
      refine wpAnyH_done (by kernel_rfl) ?_ _
      have BY := B3.trans (S2.mono B3.size)
      have SY := SX.below S2
      have RY := Lib.hid (fun W (hC : Below y2.heap.size y2 W) => (RX.out _ S2).stays hC)
      have HVY := Lib.hid (fun W (hC : Below y2.heap.size y2 W) => (HVX.out _ S2).stays hC)
      clear S1 S2 T4 d4 d5 hS RX HVX SX U3 V3 B3 HN P1 HA HP HG
      go_wp2_with fail
      refine wp_region_held_drew (S := fun W => Below y2.heap.size y2 W) (by kernel_rfl) (Below.refl _ _).drew (fun hS => ?_)
      generalize y2.drew = u0 at *
      refine wpAnyH_take (i := 1) (v := ?_) rfl (by kernel_rfl) (by kernel_rfl) (by kernel_rfl) (fun _ _ _ h => h) (Or.inl ⟨by rfl, ?_⟩) (by assumption) ?_
      rotate_left
      · intro _ _; go_simp; with_reducible rfl
      simp only [Act.put, List.setIfInBounds_toArray, List.set_cons_zero, List.set_cons_succ, List.getElem_toArray, List.getElem_cons_zero, List.getElem_cons_succ]
      refine wpAnyH_take (i := 3) (v := ?_) rfl (by kernel_rfl) (by kernel_rfl) (by kernel_rfl) (fun _ _ _ h => h) (Or.inl ⟨by rfl, ?_⟩) (by assumption) ?_
      rotate_left
      · intro _ _; go_simp; with_reducible rfl
      simp only [Act.put, List.setIfInBounds_toArray, List.set_cons_zero, List.set_cons_succ, List.getElem_toArray, List.getElem_cons_zero, List.getElem_cons_succ]
      refine wpAnyH_take (i := 4) (v := ?_) rfl (by kernel_rfl) (by kernel_rfl) (by kernel_rfl) (fun _ _ _ h => h) (Or.inl ⟨by rfl, ?_⟩) (by assumption) ?_
      rotate_left
      · intro _ _; go_simp; with_reducible rfl
      simp only [Act.put, List.setIfInBounds_toArray, List.set_cons_zero, List.set_cons_succ, List.getElem_toArray, List.getElem_cons_zero, List.getElem_cons_succ]
      refine wpAnyH_take (i := 8) rfl (by kernel_rfl) (by kernel_rfl) (by kernel_rfl) (fun _ _ _ h => h) (yields_row (by rfl) _ _ rfl _ rfl RY.out Tryz.underlying26 rfl HH.out) (by assumption) ?_
      simp only [Act.put, List.setIfInBounds_toArray, List.set_cons_zero, List.set_cons_succ, List.getElem_toArray, List.getElem_cons_zero, List.getElem_cons_succ]
      refine wpAnyH_ready (rs := [0, 5]) (by kernel_rfl) (by simp) (AllReadyH.cons rfl (fun K hK => ?_) (AllReadyH.cons rfl (fun K hK => ?_) AllReadyH.nil))
      · rw [if_pos (by rfl)]
        go_simp
        have S1 := hS.alloc hS.size (.cells #[] 50)
        have O1 := World.ownsRow_lit (base := y2.heap.size) (e := 50) (size := 2) u0 #[] 0 hS.size (by decide) rfl
        refine hK.out _ _ S1 (fun _ => ?_)
        clear hK K
        have hz1 := Lib.hid (show (u0.alloc (.cells #[] 50)).heap.size = u0.heap.size + 1 by simp)
        have HU0 := Lib.hid hS.size
        generalize u0.alloc (.cells #[] 50) = u1 at *
        generalize u0.heap.size = g0 at *
        refine wpAnyH_ready (rs := [2, 5]) (by kernel_rfl) (by simp) (AllReadyH.cons rfl (fun K hK => ?_) (AllReadyH.cons rfl (fun K hK => ?_) AllReadyH.nil))
        · refine step_append_rules rfl _ _ rfl rfl rfl rfl O1 (HVY.out _ S1) HLM.out S1.size ?_
          intro v1 u2 hown hgr
          have S2 : Below y2.heap.size y2 u2 := S1.grown hgr S1.size (fun k e => (O1.lt k e).1)
          refine hK.out _ _ S2 (fun _ => ?_)
          clear hK K
          refine wpAnyH_ready (rs := [5]) (by kernel_rfl) (by simp) (AllReadyH.cons rfl (fun K hK => ?_) AllReadyH.nil)
          rw [if_pos (by rfl)]
          go_simp
          have S3 := S2.alloc S2.size (.cells #[.int .i64 1, .string more] 50)
          have LIT := Row.new u2 50 #[.int .i64 1, .string more]
          have O3 := hown.alloc (.cells #[.int .i64 1, .string more] 50)
          refine hK.out _ _ S3 (fun _ => ?_)
          clear hK K
          generalize u2.alloc (.cells #[.int .i64 1, .string more] 50) = u3 at *
          generalize u2.heap.size = g5 at *
          refine wpAnyH_ready (rs := [6]) (by kernel_rfl) (by simp) (AllReadyH.cons rfl (fun K hK => ?_) AllReadyH.nil)
          refine step_append_rules rfl _ _ rfl rfl rfl rfl O3 (one_rule LIT) HLN.out (by have := S3.size; omega) ?_
          intro v2 w4 hown2 hgr2
          have S4 : Below y2.heap.size y2 w4 := S3.grown hgr2 S3.size (fun k e => (O3.lt k e).1)
          refine hK.out _ _ S4 (fun _ => ?_)
          clear hK K
          have O4 := HOL.out _ _ _ hown2
          refine wpAnyH_ready (rs := [7]) (by kernel_rfl) (by simp) (AllReadyH.cons rfl (fun K hK => ?_) AllReadyH.nil)
          rw [if_pos (by rfl)]
          go_simp
          refine (HN2.out _ _ (SY.below S4) O4).mono ?_
          rintro e w5 ⟨tc, mc, rfl, T5, d5⟩
          have S5 := S4.trans (d5.mono S4.size)
          go_wp2_with fail
          refine hK.out _ _ S5 (fun _ => ?_)
          clear hK K
          refine wpAnyH_ready (rs := [9]) (by kernel_rfl) (by simp) (AllReadyH.cons rfl (fun K hK => ?_) AllReadyH.nil)
          rw [if_pos (by rfl)]
          go_simp
          refine (Q1.out _ tc mc _ (SY.below S5) T5).mono ?_
          rintro e w6 ⟨rfl, d6⟩
          have S6 := S5.trans (d6.mono S5.size)
          go_wp2_with fail
          refine hK.out _ _ S6 (fun _ => ?_)
          clear hK K
          refine wpAnyH_take (i := 10) (v := ?_) rfl (by kernel_rfl) (by kernel_rfl) (by kernel_rfl) (fun _ _ _ h => h) (Or.inl ⟨by rfl, ?_⟩) (by assumption) ?_
          rotate_left
          · intro _ _; go_simp; with_reducible rfl
          simp only [Act.put, List.setIfInBounds_toArray, List.set_cons_zero, List.set_cons_succ, List.getElem_toArray, List.getElem_cons_zero, List.getElem_cons_succ]
          refine wpAnyH_done (by kernel_rfl) ?_ _
          have B6 := BY.trans (S6.mono BY.size)
          go_wp2
          go_ret
          exact ⟨rfl, B6⟩
        · rw [if_pos (by rfl)]
          go_simp
          have S2 := S1.alloc S1.size (.cells #[.int .i64 1, .string more] 50)
          have L2 := Row.new u1 50 #[.int .i64 1, .string more]
          have O2 := O1.alloc (.cells #[.int .i64 1, .string more] 50)
          refine hK.out _ _ S2 (fun _ => ?_)
          clear hK K
          have hg1 := Lib.hid (show g0 < u1.heap.size by have := hz1.out; omega)
          generalize u1.alloc (.cells #[.int .i64 1, .string more] 50) = u2 at *
          generalize u1.heap.size = g5 at *
          refine wpAnyH_ready (rs := [2]) (by kernel_rfl) (by simp) (AllReadyH.cons rfl (fun K hK => ?_) AllReadyH.nil)
          refine step_append_rules rfl _ _ rfl rfl rfl rfl O2 (HVY.out _ S2) HLM.out S2.size ?_
          intro v1 u3 hown hgr
          have S3 : Below y2.heap.size y2 u3 := S2.grown hgr S2.size (fun k e => (O2.lt k e).1)
          have LIT : Row u3 g5 50 #[.int .i64 1, .string more] := (hgr.block g5 L2.lt (by intro e; have : g5 = g0 := Option.some.inj e; have := hg1.out; omega)).trans L2
          have O3 := hown
          refine hK.out _ _ S3 (fun _ => ?_)
          clear hK K
          refine wpAnyH_ready (rs := [6]) (by kernel_rfl) (by simp) (AllReadyH.cons rfl (fun K hK => ?_) AllReadyH.nil)
          refine step_append_rules rfl _ _ rfl rfl rfl rfl O3 (one_rule LIT) HLN.out (by have := S3.size; omega) ?_
          intro v2 w4 hown2 hgr2
          have S4 : Below y2.heap.size y2 w4 := S3.grown hgr2 S3.size (fun k e => (O3.lt k e).1)
          refine hK.out _ _ S4 (fun _ => ?_)
          clear hK K
          have O4 := HOL.out _ _ _ hown2
          refine wpAnyH_ready (rs := [7]) (by kernel_rfl) (by simp) (AllReadyH.cons rfl (fun K hK => ?_) AllReadyH.nil)
          rw [if_pos (by rfl)]
          go_simp
          refine (HN2.out _ _ (SY.below S4) O4).mono ?_
          rintro e w5 ⟨tc, mc, rfl, T5, d5⟩
          have S5 := S4.trans (d5.mono S4.size)
          go_wp2_with fail
          refine hK.out _ _ S5 (fun _ => ?_)
          clear hK K
          refine wpAnyH_ready (rs := [9]) (by kernel_rfl) (by simp) (AllReadyH.cons rfl (fun K hK => ?_) AllReadyH.nil)
          rw [if_pos (by rfl)]
          go_simp
          refine (Q1.out _ tc mc _ (SY.below S5) T5).mono ?_
          rintro e w6 ⟨rfl, d6⟩
          have S6 := S5.trans (d6.mono S5.size)
          go_wp2_with fail
          refine hK.out _ _ S6 (fun _ => ?_)
          clear hK K
          refine wpAnyH_take (i := 10) (v := ?_) rfl (by kernel_rfl) (by kernel_rfl) (by kernel_rfl) (fun _ _ _ h => h) (Or.inl ⟨by rfl, ?_⟩) (by assumption) ?_
          rotate_left
          · intro _ _; go_simp; with_reducible rfl
          simp only [Act.put, List.setIfInBounds_toArray, List.set_cons_zero, List.set_cons_succ, List.getElem_toArray, List.getElem_cons_zero, List.getElem_cons_succ]
          refine wpAnyH_done (by kernel_rfl) ?_ _
          have B6 := BY.trans (S6.mono BY.size)
          go_wp2
          go_ret
          exact ⟨rfl, B6⟩
      · rw [if_pos (by rfl)]
        go_simp
        have S1 := hS.alloc hS.size (.cells #[.int .i64 1, .string more] 50)
        have L1 := Row.new u0 50 #[.int .i64 1, .string more]
        refine hK.out _ _ S1 (fun _ => ?_)
        clear hK K
        have hz1 := Lib.hid (show (u0.alloc (.cells #[.int .i64 1, .string more] 50)).heap.size = u0.heap.size + 1 by simp)
        generalize u0.alloc (.cells #[.int .i64 1, .string more] 50) = u1 at *
        generalize u0.heap.size = g5 at *
        refine wpAnyH_ready (rs := [0]) (by kernel_rfl) (by simp) (AllReadyH.cons rfl (fun K hK => ?_) AllReadyH.nil)
        rw [if_pos (by rfl)]
        go_simp
        have S2 := S1.alloc S1.size (.cells #[] 50)
        have O2 := World.ownsRow_lit (base := y2.heap.size) (e := 50) (size := 2) u1 #[] 0 S1.size (by decide) rfl
        have L2 := L1.alloc (.cells #[] 50)
        refine hK.out _ _ S2 (fun _ => ?_)
        clear hK K
        have hg1 := Lib.hid (show g5 < u1.heap.size by have := hz1.out; omega)
        generalize u1.alloc (.cells #[] 50) = u2 at *
        generalize u1.heap.size = g0 at *
        refine wpAnyH_ready (rs := [2]) (by kernel_rfl) (by simp) (AllReadyH.cons rfl (fun K hK => ?_) AllReadyH.nil)
        refine step_append_rules rfl _ _ rfl rfl rfl rfl O2 (HVY.out _ S2) HLM.out S2.size ?_
        intro v1 u3 hown hgr
        have S3 : Below y2.heap.size y2 u3 := S2.grown hgr S2.size (fun k e => (O2.lt k e).1)
        have LIT : Row u3 g5 50 #[.int .i64 1, .string more] := (hgr.block g5 L2.lt (by intro e; have : g5 = g0 := Option.some.inj e; have := hg1.out; omega)).trans L2
        have O3 := hown
        refine hK.out _ _ S3 (fun _ => ?_)
        clear hK K
        refine wpAnyH_ready (rs := [6]) (by kernel_rfl) (by simp) (AllReadyH.cons rfl (fun K hK => ?_) AllReadyH.nil)
        refine step_append_rules rfl _ _ rfl rfl rfl rfl O3 (one_rule LIT) HLN.out (by have := S3.size; omega) ?_
        intro v2 w4 hown2 hgr2
        have S4 : Below y2.heap.size y2 w4 := S3.grown hgr2 S3.size (fun k e => (O3.lt k e).1)
        refine hK.out _ _ S4 (fun _ => ?_)
        clear hK K
        have O4 := HOL.out _ _ _ hown2
        refine wpAnyH_ready (rs := [7]) (by kernel_rfl) (by simp) (AllReadyH.cons rfl (fun K hK => ?_) AllReadyH.nil)
        rw [if_pos (by rfl)]
        go_simp
        refine (HN2.out _ _ (SY.below S4) O4).mono ?_
        rintro e w5 ⟨tc, mc, rfl, T5, d5⟩
        have S5 := S4.trans (d5.mono S4.size)
        go_wp2_with fail
        refine hK.out _ _ S5 (fun _ => ?_)
        clear hK K
        refine wpAnyH_ready (rs := [9]) (by kernel_rfl) (by simp) (AllReadyH.cons rfl (fun K hK => ?_) AllReadyH.nil)
        rw [if_pos (by rfl)]
        go_simp
        refine (Q1.out _ tc mc _ (SY.below S5) T5).mono ?_
        rintro e w6 ⟨rfl, d6⟩
        have S6 := S5.trans (d6.mono S5.size)
        go_wp2_with fail
        refine hK.out _ _ S6 (fun _ => ?_)
        clear hK K
        refine wpAnyH_take (i := 10) (v := ?_) rfl (by kernel_rfl) (by kernel_rfl) (by kernel_rfl) (fun _ _ _ h => h) (Or.inl ⟨by rfl, ?_⟩) (by assumption) ?_
        rotate_left
        · intro _ _; go_simp; with_reducible rfl
        simp only [Act.put, List.setIfInBounds_toArray, List.set_cons_zero, List.set_cons_succ, List.getElem_toArray, List.getElem_cons_zero, List.getElem_cons_succ]
        refine wpAnyH_done (by kernel_rfl) ?_ _
        have B6 := BY.trans (S6.mono BY.size)
        go_wp2
        go_ret
        exact ⟨rfl, B6⟩
    obtain ⟨hlt, hlab⟩ := hgrows.resolve_left hmn
    have HLB := Lib.hid (fun W => labels_are ⟨1, more.data.toList, Hst.nil16⟩ hda (by show more.data.toList.length ≤ _; omega) hlab.symm W)
    have hnb : ((m : Int) == (n : Int)) = false := by simpa using fun e => hmn (by omega)
    have hlti : (n : Int) < (m : Int) := by omega
    clear hg hv hf0 ho hds ha hl _hd hsm _hm _hsn hlm hrm hqm hc hh g1 g2 g3 hlab hda hms hmn hlt
    generalize hostA h = X at *
    generalize hostA ⟨1, more.data.toList, Hst.nil16⟩ = Y at *
    go_enter Tryz.func7, Tryz.ntmps7
    go_wp2_with fail
    refine (HA.out _ hw).mono ?_
    rintro e x0 ⟨rfl, d0⟩
    have V0 := HV.stays d0
    go_wp2_with fail
    refine (HP.out _).mono ?_
    rintro e x1 ⟨rfl, d1⟩
    have B1 := d0.trans (d1.mono d0.size)
    have V1 := V0.stays d1
    obtain ⟨T2, U2, C2, _⟩ := lay_row 26 (hostA Hst.zero) X B1 B1.size
    have V2 : HoldsRules ((x1.alloc (.cells (hostA Hst.zero) 26)).setRow x1.heap.size X) v rs := V1.stays (below_setRow ((Below.refl _ _).alloc (Nat.le_refl _) _) (Nat.le_refl _) _)
    clear V0 V1 B1 d0 d1
    go_wp2_with (first
      | (refine at_none rfl ?_; refine wpList_store_row rfl 26 _ _ rfl x1.heap.size X rfl rfl 26 _ T2 HH.out HZ.out HO.out ?_)
      | (refine at_slot 19 rfl ?_; refine load_row rfl 26 _ rfl x1.heap.size rfl U2 Tryz.underlying26 rfl HH.out ?_))
    generalize (x1.alloc (.cells (hostA Hst.zero) 26)).setRow x1.heap.size X = x2 at *
    generalize x1.heap.size = g2 at *
    clear T2
    refine (HG.out _ V2).mono ?_
    rintro e x3 ⟨rfl, d3⟩
    have B3 := C2.trans (d3.mono C2.size)
    have U3 := U2.stays d3
    have V3 := V2.stays d3
    clear C2 U2 V2 d3
    go_wp2_with fail
    refine wp_region_held_drew (S := fun W => Below x3.heap.size x3 W) (by kernel_rfl) (Below.refl _ _).drew (fun hS => ?_)
    have SX := hw.below B3
    have RX := Lib.hid (fun W (hC : Below x3.heap.size x3 W) => U3.stays hC)
    have HVX := Lib.hid (fun W (hC : Below x3.heap.size x3 W) => V3.stays hC)
    generalize x3.drew = u0 at *
    refine wpAnyH_take (i := 0) (v := ?_) rfl (by kernel_rfl) (by kernel_rfl) (by kernel_rfl) (fun _ _ _ h => h) (Or.inl ⟨by rfl, ?_⟩) (by assumption) ?_
    rotate_left
    · intro _ _; go_simp; with_reducible rfl
    simp only [Act.put, List.setIfInBounds_toArray, List.set_cons_zero, List.set_cons_succ, List.getElem_toArray, List.getElem_cons_zero]
    refine wpAnyH_take (i := 2) rfl (by kernel_rfl) (by kernel_rfl) (by kernel_rfl) (fun _ _ _ h => h) (yields_row (by rfl) _ _ rfl _ rfl RX.out Tryz.underlying26 rfl HH.out) (by assumption) ?_
    simp only [Act.put, List.setIfInBounds_toArray, List.set_cons_zero, List.set_cons_succ, List.getElem_toArray, List.getElem_cons_zero, List.getElem_cons_succ]
    refine wpAnyH_ready (rs := [1]) (by kernel_rfl) (by simp) (AllReadyH.cons rfl (fun K hK => ?_) AllReadyH.nil)
    rw [if_pos (by rfl)]
    go_simp
    refine (HN.out _ (SX.below hS) (HVX.out _ hS)).mono ?_
    rintro e y1 ⟨tb, mb, rfl, T4, d4⟩
    have S1 := hS.trans (d4.mono hS.size)
    go_wp2_with fail
    refine hK.out _ _ S1 (fun _ => ?_)
    clear hK K
    refine wpAnyH_ready (rs := [3]) (by kernel_rfl) (by simp) (AllReadyH.cons rfl (fun K hK => ?_) AllReadyH.nil)
    rw [if_pos (by rfl)]
    go_simp
    refine (P1.out _ tb mb _ (SX.below S1) T4).mono ?_
    rintro e y2 ⟨rfl, d5⟩
    have S2 := S1.trans (d5.mono S1.size)
    go_wp2_with fail
    refine hK.out _ _ S2 (fun _ => ?_)
    clear hK K
    refine wpAnyH_take (i := 4) (v := ?_) rfl (by kernel_rfl) (by kernel_rfl) (by kernel_rfl) (fun _ _ _ h => h) (Or.inl ⟨by rfl, ?_⟩) (by assumption) ?_
    rotate_left
    · intro _ _; go_simp; with_reducible rfl
    simp only [Act.put, List.setIfInBounds_toArray, List.set_cons_zero, List.set_cons_succ, List.getElem_toArray, List.getElem_cons_zero, List.getElem_cons_succ]
    refine wpAnyH_done (by kernel_rfl) ?_ _
    have BY := B3.trans (S2.mono B3.size)
    have SY := SX.below S2
    have RY := Lib.hid (fun W (hC : Below y2.heap.size y2 W) => (RX.out _ S2).stays hC)
    have HVY := Lib.hid (fun W (hC : Below y2.heap.size y2 W) => (HVX.out _ S2).stays hC)
    clear S1 S2 T4 d4 d5 hS RX HVX SX U3 V3 B3 HN P1 HA HP HG
    go_wp2_with fail
    refine wp_region_held_drew (S := fun W => Below y2.heap.size y2 W) (by kernel_rfl) (Below.refl _ _).drew (fun hS => ?_)
    generalize y2.drew = u0 at *
    refine wpAnyH_take (i := 1) (v := ?_) rfl (by kernel_rfl) (by kernel_rfl) (by kernel_rfl) (fun _ _ _ h => h) (Or.inl ⟨by rfl, ?_⟩) (by assumption) ?_
    rotate_left
    · intro _ _; go_simp; with_reducible rfl
    simp only [Act.put, List.setIfInBounds_toArray, List.set_cons_zero, List.set_cons_succ, List.getElem_toArray, List.getElem_cons_zero, List.getElem_cons_succ]
    refine wpAnyH_take (i := 3) (v := ?_) rfl (by kernel_rfl) (by kernel_rfl) (by kernel_rfl) (fun _ _ _ h => h) (Or.inl ⟨by rfl, ?_⟩) (by assumption) ?_
    rotate_left
    · intro _ _; go_simp; with_reducible rfl
    simp only [Act.put, List.setIfInBounds_toArray, List.set_cons_zero, List.set_cons_succ, List.getElem_toArray, List.getElem_cons_zero, List.getElem_cons_succ]
    refine wpAnyH_take (i := 4) (v := ?_) rfl (by kernel_rfl) (by kernel_rfl) (by kernel_rfl) (fun _ _ _ h => h) (Or.inl ⟨by rfl, ?_⟩) (by assumption) ?_
    rotate_left
    · intro _ _; go_simp; with_reducible rfl
    simp only [Act.put, List.setIfInBounds_toArray, List.set_cons_zero, List.set_cons_succ, List.getElem_toArray, List.getElem_cons_zero, List.getElem_cons_succ]
    refine wpAnyH_take (i := 8) rfl (by kernel_rfl) (by kernel_rfl) (by kernel_rfl) (fun _ _ _ h => h) (yields_row (by rfl) _ _ rfl _ rfl RY.out Tryz.underlying26 rfl HH.out) (by assumption) ?_
    simp only [Act.put, List.setIfInBounds_toArray, List.set_cons_zero, List.set_cons_succ, List.getElem_toArray, List.getElem_cons_zero, List.getElem_cons_succ]
    refine wpAnyH_ready (rs := [0, 5]) (by kernel_rfl) (by simp) (AllReadyH.cons rfl (fun K hK => ?_) (AllReadyH.cons rfl (fun K hK => ?_) AllReadyH.nil))
    · rw [if_pos (by rfl)]
      go_simp
      have S1 := hS.alloc hS.size (.cells #[] 50)
      have O1 := World.ownsRow_lit (base := y2.heap.size) (e := 50) (size := 2) u0 #[] 0 hS.size (by decide) rfl
      refine hK.out _ _ S1 (fun _ => ?_)
      clear hK K
      have hz1 := Lib.hid (show (u0.alloc (.cells #[] 50)).heap.size = u0.heap.size + 1 by simp)
      have HU0 := Lib.hid hS.size
      generalize u0.alloc (.cells #[] 50) = u1 at *
      generalize u0.heap.size = g0 at *
      refine wpAnyH_ready (rs := [2, 5]) (by kernel_rfl) (by simp) (AllReadyH.cons rfl (fun K hK => ?_) (AllReadyH.cons rfl (fun K hK => ?_) AllReadyH.nil))
      · refine step_append_rules rfl _ _ rfl rfl rfl rfl O1 (HVY.out _ S1) HLM.out S1.size ?_
        intro v1 u2 hown hgr
        have S2 : Below y2.heap.size y2 u2 := S1.grown hgr S1.size (fun k e => (O1.lt k e).1)
        refine hK.out _ _ S2 (fun _ => ?_)
        clear hK K
        refine wpAnyH_ready (rs := [5]) (by kernel_rfl) (by simp) (AllReadyH.cons rfl (fun K hK => ?_) AllReadyH.nil)
        rw [if_pos (by rfl)]
        go_simp
        have S3 := S2.alloc S2.size (.cells #[.int .i64 1, .string more] 50)
        have LIT := Row.new u2 50 #[.int .i64 1, .string more]
        have O3 := hown.alloc (.cells #[.int .i64 1, .string more] 50)
        refine hK.out _ _ S3 (fun _ => ?_)
        clear hK K
        generalize u2.alloc (.cells #[.int .i64 1, .string more] 50) = u3 at *
        generalize u2.heap.size = g5 at *
        refine wpAnyH_ready (rs := [6]) (by kernel_rfl) (by simp) (AllReadyH.cons rfl (fun K hK => ?_) AllReadyH.nil)
        refine step_append_rules rfl _ _ rfl rfl rfl rfl O3 (one_rule LIT) HLN.out (by have := S3.size; omega) ?_
        intro v2 w4 hown2 hgr2
        have S4 : Below y2.heap.size y2 w4 := S3.grown hgr2 S3.size (fun k e => (O3.lt k e).1)
        refine hK.out _ _ S4 (fun _ => ?_)
        clear hK K
        have O4 := HOL.out _ _ _ hown2
        refine wpAnyH_ready (rs := [7]) (by kernel_rfl) (by simp) (AllReadyH.cons rfl (fun K hK => ?_) AllReadyH.nil)
        rw [if_pos (by rfl)]
        go_simp
        refine (HN2.out _ _ (SY.below S4) O4).mono ?_
        rintro e w5 ⟨tc, mc, rfl, T5, d5⟩
        have S5 := S4.trans (d5.mono S4.size)
        go_wp2_with fail
        refine hK.out _ _ S5 (fun _ => ?_)
        clear hK K
        refine wpAnyH_ready (rs := [9]) (by kernel_rfl) (by simp) (AllReadyH.cons rfl (fun K hK => ?_) AllReadyH.nil)
        rw [if_pos (by rfl)]
        go_simp
        refine (Q1.out _ tc mc _ (SY.below S5) T5).mono ?_
        rintro e w6 ⟨rfl, d6⟩
        have S6 := S5.trans (d6.mono S5.size)
        go_wp2_with fail
        refine hK.out _ _ S6 (fun _ => ?_)
        clear hK K
        refine wpAnyH_take (i := 10) (v := ?_) rfl (by kernel_rfl) (by kernel_rfl) (by kernel_rfl) (fun _ _ _ h => h) (Or.inl ⟨by rfl, ?_⟩) (by assumption) ?_
        rotate_left
        · intro _ _; go_simp; with_reducible rfl
        simp only [Act.put, List.setIfInBounds_toArray, List.set_cons_zero, List.set_cons_succ, List.getElem_toArray, List.getElem_cons_zero, List.getElem_cons_succ]
        refine wpAnyH_done (by kernel_rfl) ?_ _
        have B6 := BY.trans (S6.mono BY.size)
        go_wp2_with fail
        refine (HL.out _).mono ?_
        rintro e w7 ⟨rfl, d7⟩
        have B7 := B6.trans (d7.mono B6.size)
        go_wp2_with fail
        refine (HLB.out _).mono ?_
        rintro e w8 ⟨⟨A8, c8, rfl⟩, d8⟩
        have B8 := B7.trans (d8.mono B7.size)
        go_wp2
        go_ret
        exact ⟨rfl, B8⟩
      · rw [if_pos (by rfl)]
        go_simp
        have S2 := S1.alloc S1.size (.cells #[.int .i64 1, .string more] 50)
        have L2 := Row.new u1 50 #[.int .i64 1, .string more]
        have O2 := O1.alloc (.cells #[.int .i64 1, .string more] 50)
        refine hK.out _ _ S2 (fun _ => ?_)
        clear hK K
        have hg1 := Lib.hid (show g0 < u1.heap.size by have := hz1.out; omega)
        generalize u1.alloc (.cells #[.int .i64 1, .string more] 50) = u2 at *
        generalize u1.heap.size = g5 at *
        refine wpAnyH_ready (rs := [2]) (by kernel_rfl) (by simp) (AllReadyH.cons rfl (fun K hK => ?_) AllReadyH.nil)
        refine step_append_rules rfl _ _ rfl rfl rfl rfl O2 (HVY.out _ S2) HLM.out S2.size ?_
        intro v1 u3 hown hgr
        have S3 : Below y2.heap.size y2 u3 := S2.grown hgr S2.size (fun k e => (O2.lt k e).1)
        have LIT : Row u3 g5 50 #[.int .i64 1, .string more] := (hgr.block g5 L2.lt (by intro e; have : g5 = g0 := Option.some.inj e; have := hg1.out; omega)).trans L2
        have O3 := hown
        refine hK.out _ _ S3 (fun _ => ?_)
        clear hK K
        refine wpAnyH_ready (rs := [6]) (by kernel_rfl) (by simp) (AllReadyH.cons rfl (fun K hK => ?_) AllReadyH.nil)
        refine step_append_rules rfl _ _ rfl rfl rfl rfl O3 (one_rule LIT) HLN.out (by have := S3.size; omega) ?_
        intro v2 w4 hown2 hgr2
        have S4 : Below y2.heap.size y2 w4 := S3.grown hgr2 S3.size (fun k e => (O3.lt k e).1)
        refine hK.out _ _ S4 (fun _ => ?_)
        clear hK K
        have O4 := HOL.out _ _ _ hown2
        refine wpAnyH_ready (rs := [7]) (by kernel_rfl) (by simp) (AllReadyH.cons rfl (fun K hK => ?_) AllReadyH.nil)
        rw [if_pos (by rfl)]
        go_simp
        refine (HN2.out _ _ (SY.below S4) O4).mono ?_
        rintro e w5 ⟨tc, mc, rfl, T5, d5⟩
        have S5 := S4.trans (d5.mono S4.size)
        go_wp2_with fail
        refine hK.out _ _ S5 (fun _ => ?_)
        clear hK K
        refine wpAnyH_ready (rs := [9]) (by kernel_rfl) (by simp) (AllReadyH.cons rfl (fun K hK => ?_) AllReadyH.nil)
        rw [if_pos (by rfl)]
        go_simp
        refine (Q1.out _ tc mc _ (SY.below S5) T5).mono ?_
        rintro e w6 ⟨rfl, d6⟩
        have S6 := S5.trans (d6.mono S5.size)
        go_wp2_with fail
        refine hK.out _ _ S6 (fun _ => ?_)
        clear hK K
        refine wpAnyH_take (i := 10) (v := ?_) rfl (by kernel_rfl) (by kernel_rfl) (by kernel_rfl) (fun _ _ _ h => h) (Or.inl ⟨by rfl, ?_⟩) (by assumption) ?_
        rotate_left
        · intro _ _; go_simp; with_reducible rfl
        simp only [Act.put, List.setIfInBounds_toArray, List.set_cons_zero, List.set_cons_succ, List.getElem_toArray, List.getElem_cons_zero, List.getElem_cons_succ]
        refine wpAnyH_done (by kernel_rfl) ?_ _
        have B6 := BY.trans (S6.mono BY.size)
        go_wp2_with fail
        refine (HL.out _).mono ?_
        rintro e w7 ⟨rfl, d7⟩
        have B7 := B6.trans (d7.mono B6.size)
        go_wp2_with fail
        refine (HLB.out _).mono ?_
        rintro e w8 ⟨⟨A8, c8, rfl⟩, d8⟩
        have B8 := B7.trans (d8.mono B7.size)
        go_wp2
        go_ret
        exact ⟨rfl, B8⟩
    · rw [if_pos (by rfl)]
      go_simp
      have S1 := hS.alloc hS.size (.cells #[.int .i64 1, .string more] 50)
      have L1 := Row.new u0 50 #[.int .i64 1, .string more]
      refine hK.out _ _ S1 (fun _ => ?_)
      clear hK K
      have hz1 := Lib.hid (show (u0.alloc (.cells #[.int .i64 1, .string more] 50)).heap.size = u0.heap.size + 1 by simp)
      generalize u0.alloc (.cells #[.int .i64 1, .string more] 50) = u1 at *
      generalize u0.heap.size = g5 at *
      refine wpAnyH_ready (rs := [0]) (by kernel_rfl) (by simp) (AllReadyH.cons rfl (fun K hK => ?_) AllReadyH.nil)
      rw [if_pos (by rfl)]
      go_simp
      have S2 := S1.alloc S1.size (.cells #[] 50)
      have O2 := World.ownsRow_lit (base := y2.heap.size) (e := 50) (size := 2) u1 #[] 0 S1.size (by decide) rfl
      have L2 := L1.alloc (.cells #[] 50)
      refine hK.out _ _ S2 (fun _ => ?_)
      clear hK K
      have hg1 := Lib.hid (show g5 < u1.heap.size by have := hz1.out; omega)
      generalize u1.alloc (.cells #[] 50) = u2 at *
      generalize u1.heap.size = g0 at *
      refine wpAnyH_ready (rs := [2]) (by kernel_rfl) (by simp) (AllReadyH.cons rfl (fun K hK => ?_) AllReadyH.nil)
      refine step_append_rules rfl _ _ rfl rfl rfl rfl O2 (HVY.out _ S2) HLM.out S2.size ?_
      intro v1 u3 hown hgr
      have S3 : Below y2.heap.size y2 u3 := S2.grown hgr S2.size (fun k e => (O2.lt k e).1)
      have LIT : Row u3 g5 50 #[.int .i64 1, .string more] := (hgr.block g5 L2.lt (by intro e; have : g5 = g0 := Option.some.inj e; have := hg1.out; omega)).trans L2
      have O3 := hown
      refine hK.out _ _ S3 (fun _ => ?_)
      clear hK K
      refine wpAnyH_ready (rs := [6]) (by kernel_rfl) (by simp) (AllReadyH.cons rfl (fun K hK => ?_) AllReadyH.nil)
      refine step_append_rules rfl _ _ rfl rfl rfl rfl O3 (one_rule LIT) HLN.out (by have := S3.size; omega) ?_
      intro v2 w4 hown2 hgr2
      have S4 : Below y2.heap.size y2 w4 := S3.grown hgr2 S3.size (fun k e => (O3.lt k e).1)
      refine hK.out _ _ S4 (fun _ => ?_)
      clear hK K
      have O4 := HOL.out _ _ _ hown2
      refine wpAnyH_ready (rs := [7]) (by kernel_rfl) (by simp) (AllReadyH.cons rfl (fun K hK => ?_) AllReadyH.nil)
      rw [if_pos (by rfl)]
      go_simp
      refine (HN2.out _ _ (SY.below S4) O4).mono ?_
      rintro e w5 ⟨tc, mc, rfl, T5, d5⟩
      have S5 := S4.trans (d5.mono S4.size)
      go_wp2_with fail
      refine hK.out _ _ S5 (fun _ => ?_)
      clear hK K
      refine wpAnyH_ready (rs := [9]) (by kernel_rfl) (by simp) (AllReadyH.cons rfl (fun K hK => ?_) AllReadyH.nil)
      rw [if_pos (by rfl)]
      go_simp
      refine (Q1.out _ tc mc _ (SY.below S5) T5).mono ?_
      rintro e w6 ⟨rfl, d6⟩
      have S6 := S5.trans (d6.mono S5.size)
      go_wp2_with fail
      refine hK.out _ _ S6 (fun _ => ?_)
      clear hK K
      refine wpAnyH_take (i := 10) (v := ?_) rfl (by kernel_rfl) (by kernel_rfl) (by kernel_rfl) (fun _ _ _ h => h) (Or.inl ⟨by rfl, ?_⟩) (by assumption) ?_
      rotate_left
      · intro _ _; go_simp; with_reducible rfl
      simp only [Act.put, List.setIfInBounds_toArray, List.set_cons_zero, List.set_cons_succ, List.getElem_toArray, List.getElem_cons_zero, List.getElem_cons_succ]
      refine wpAnyH_done (by kernel_rfl) ?_ _
      have B6 := BY.trans (S6.mono BY.size)
      go_wp2_with fail
      refine (HL.out _).mono ?_
      rintro e w7 ⟨rfl, d7⟩
      have B7 := B6.trans (d7.mono B6.size)
      go_wp2_with fail
      refine (HLB.out _).mono ?_
      rintro e w8 ⟨⟨A8, c8, rfl⟩, d8⟩
      have B8 := B7.trans (d8.mono B7.size)
      go_wp2
      go_ret
      exact ⟨rfl, B8⟩
end Go.Proofs.YtnlhniaoaciopaaGreatDoor
