/- The walk of rule's Line. -/
import Derived.Test.YtnlhniaoaciopaaGreatDoorRules
import Derived.Test.YtnlhniaoaciopaaGreatDoorHosts
namespace Go.Proofs.YtnlhniaoaciopaaGreatDoor
open Go.RowKit
namespace Ru
theorem rest_length (t : List UInt8) : (rest t).length ≤ t.length := by
  unfold rest
  split
  · rename_i h; have := trimPrefix_length h; omega
  · split
    · rename_i h; have := trimPrefix_length h; omega
    · exact Nat.le_refl _
theorem named_none {k : Int} {n : List UInt8} (h : Hst.parse n = none) : named k n = none := by unfold named; rw [h]
theorem named_kind {k : Int} {n : List UInt8} {x : Hst.Host} (h : Hst.parse n = some x) (hk : x.kind ≠ 1) : named k n = none := by
  unfold named
  rw [h]
  dsimp only
  rw [if_neg (fun e => hk e.1)]
theorem named_few {k : Int} {n : List UInt8} {x : Hst.Host} (h : Hst.parse n = some x) (h3 : k = 3) (hl : (Hst.labels x).length < 2) : named k n = none := by
  unfold named
  rw [h]
  dsimp only
  rw [if_neg (fun e => by have := e.2 h3; omega)]
theorem named_yes {k : Int} {n : List UInt8} {x : Hst.Host} (h : Hst.parse n = some x) (hk : x.kind = 1) (hl : k = 3 → 2 ≤ (Hst.labels x).length) : named k n = some ⟨k, x.name⟩ := by
  unfold named
  rw [h]
  dsimp only
  rw [if_pos ⟨hk, hl⟩]
end Ru
set_option maxRecDepth 100000 in
set_option maxHeartbeats 8000000 in
theorem line_calls (s : ByteArray) (w : World) (hw : Std w) (hs : s.size ≤ 1048576) :
    Calls Tryz.prog 43 #[.string s] w (NewRule (Ru.line s.data.toList) w) := by
  have z0 := zeroRule
  have z1 := zeroHost
  have H1 := Lib.hid (fun W => trim_calls s W (by unfold maxLen; omega))
  have htl := Ru.trim_length s.data.toList
  rw [Oct.length_bytes] at htl
  obtain ⟨t, ht⟩ : ∃ t : ByteArray, t = ⟨(Oct.trim s.data.toList).toArray⟩ := ⟨_, rfl⟩
  have htd : Oct.trim s.data.toList = t.data.toList := by rw [ht]
  have hts : t.size ≤ s.size := by rw [← Oct.length_bytes t, ← htd]; exact htl
  rw [← ht] at H1
  have HPost : Hid (∀ o w', Ru.line s.data.toList = o → Below w.heap.size w w' → NewRule (Ru.line s.data.toList) w (.returned (.tuple #[.agg (ruleA o.2.2), .bool o.2.1, .int .i64 o.1])) w') := Lib.hid (fun o w' h hb => by subst h; exact ⟨rfl, hb⟩)
  have HL : Hid (Ru.line s.data.toList = if Ru.mute t.data.toList = true then (0, false, Ru.zero) else Ru.said (Ru.rule t.data.toList)) := Lib.hid (by unfold Ru.line; rw [htd])
  generalize NewRule (Ru.line s.data.toList) w = post at *
  generalize Ru.line s.data.toList = res at *
  clear ht htd htl
  by_cases he : t.data.toList = []
  · have HR : Hid (res = (0, false, Ru.zero)) := Lib.hid (by rw [HL.out, if_pos (by unfold Ru.mute; rw [decide_eq_true he]; rfl)])
    have he2 : t.toList.isEmpty = true := by rw [Oct.bytes_data, he]; rfl
    clear he HL
    go_enter Tryz.func43, Tryz.ntmps43
    go_wp2_with fail
    have R0 := Row.new w 50 (ruleA Ru.zero)
    have B0 := (Below.refl w.heap.size w).alloc (Nat.le_refl _) (.cells (ruleA Ru.zero) 50)
    generalize w.alloc (.cells (ruleA Ru.zero) 50) = w0 at *
    refine (H1.out _).mono ?_
    rintro e v1 ⟨rfl, rfl⟩
    go_wp2_with (first
      | (refine wpList_store_row rfl 50 _ _ rfl w.heap.size (ruleA Ru.zero) rfl rfl 50 _ R0 infoRule rfl (ruleA_one _) ?_))
    exact bodyPost_ret (v := .tuple #[.agg (ruleA Ru.zero), .bool false, .int .i64 0]) (results_cell_three rfl _ _ w.heap.size _ _ _ rfl _ _ rfl rfl (R0.whole _) Tryz.underlying50 rfl infoRule) rfl (HPost.out _ _ HR.out (below_setRow B0 (Nat.le_refl _) _))
  have he2 : t.toList.isEmpty = false := by
    rw [Oct.bytes_data]
    cases e : t.data.toList with
    | nil => exact absurd e he
    | cons c r => rfl
  have H2 := Lib.hid (fun W => Tryz.strings_HasPrefix t ⟨#[47, 47]⟩ W)
  have e1 : (⟨#[47, 47]⟩ : ByteArray).data.toList = [47, 47] := rfl
  rw [e1] at H2
  clear e1
  have HM : Hid (Ru.mute t.data.toList = Lib.hasPrefix t.data.toList [47, 47]) := Lib.hid (by unfold Ru.mute; rw [decide_eq_false he]; rfl)
  clear he
  cases hpre : Lib.hasPrefix t.data.toList [47, 47] with
  | true =>
    rw [hpre] at H2
    have HR : Hid (res = (0, false, Ru.zero)) := Lib.hid (by rw [HL.out, HM.out, hpre, if_pos rfl])
    clear hpre HL HM
    go_enter Tryz.func43, Tryz.ntmps43
    go_wp2_with fail
    have R0 := Row.new w 50 (ruleA Ru.zero)
    have B0 := (Below.refl w.heap.size w).alloc (Nat.le_refl _) (.cells (ruleA Ru.zero) 50)
    generalize w.alloc (.cells (ruleA Ru.zero) 50) = w0 at *
    refine (H1.out _).mono ?_
    rintro e v1 ⟨rfl, rfl⟩
    go_wp2_with (first
      | (go_at_call 60; refine (H2.out _).mono ?_; rintro e w' ⟨rfl, hq⟩; rw [hq])
      | (refine wpList_store_row rfl 50 _ _ rfl w.heap.size (ruleA Ru.zero) rfl rfl 50 _ R0 infoRule rfl (ruleA_one _) ?_))
    exact bodyPost_ret (v := .tuple #[.agg (ruleA Ru.zero), .bool false, .int .i64 0]) (results_cell_three rfl _ _ w.heap.size _ _ _ rfl _ _ rfl rfl (R0.whole _) Tryz.underlying50 rfl infoRule) rfl (HPost.out _ _ HR.out (below_setRow B0 (Nat.le_refl _) _))
  | false =>
    rw [hpre] at H2
    have HQ : Hid (res = Ru.said (Ru.rule t.data.toList)) := Lib.hid (by rw [HL.out, HM.out, hpre, if_neg (by simp)])
    clear hpre HL HM
    have H3 := Lib.hid (fun W => first_calls t W (by omega))
    obtain ⟨f, hf⟩ : ∃ f : ByteArray, f = ⟨(Ru.first t.data.toList).toArray⟩ := ⟨_, rfl⟩
    have hfd : Ru.first t.data.toList = f.data.toList := by rw [hf]
    have hfs : f.size ≤ t.size := by rw [← Oct.length_bytes f, ← hfd, ← Oct.length_bytes t]; exact Ru.first_length _
    unfold NewText at H3
    rw [← hf] at H3
    have H4 := Lib.hid (fun W => mark_calls f W)
    obtain ⟨n, hn⟩ : ∃ n : ByteArray, n = ⟨(Ru.rest f.data.toList).toArray⟩ := ⟨_, rfl⟩
    have hnd : Ru.rest f.data.toList = n.data.toList := by rw [hn]
    have hns : n.size ≤ f.size := by rw [← Oct.length_bytes n, ← hnd, ← Oct.length_bytes f]; exact Ru.rest_length _
    rw [← hn] at H4
    have HQ2 : Hid (res = Ru.said (Ru.named (Ru.kind f.data.toList) n.data.toList)) := Lib.hid (by rw [HQ.out]; unfold Ru.rule; rw [hfd, hnd])
    clear HQ hf hfd hn hnd
    generalize Ru.kind f.data.toList = K at *
    have H5 := Lib.hid (fun W h => (parse_calls n W h (by omega)).mono fun e w' h => newHost_is h)
    have hx := Hst.parse_length n.data.toList
    cases hp : Hst.parse n.data.toList with
    | none =>
      rw [hp] at H5
      have HR : Hid (res = (51, false, Ru.zero)) := Lib.hid (by rw [HQ2.out, Ru.named_none hp]; rfl)
      have e2 : Hst.host none = Hst.zero := rfl
      have e3 : Hst.code none = 31 := rfl
      rw [e2, e3] at H5
      clear hp HQ2 hx e2 e3
      have HX := Lib.hid (show (hostA Hst.zero).size = 18 from rfl)
      go_enter Tryz.func43, Tryz.ntmps43
      go_wp2_with fail
      have R0 := Row.new w 50 (ruleA Ru.zero)
      have B0 := (Below.refl w.heap.size w).alloc (Nat.le_refl _) (.cells (ruleA Ru.zero) 50)
      generalize w.alloc (.cells (ruleA Ru.zero) 50) = w0 at *
      refine (H1.out _).mono ?_
      rintro e v1 ⟨rfl, rfl⟩
      go_wp2_with fail
      refine (H2.out _).mono ?_
      rintro e v2 ⟨rfl, hq⟩
      rw [hq]
      clear hq
      go_wp2_with fail
      refine (H3.out _).mono ?_
      rintro e v3 ⟨rfl, d3⟩
      have R1 := R0.stays d3
      have B1 := B0.trans (d3.mono B0.size)
      clear R0 B0 d3
      go_wp2_with fail
      refine (H4.out _).mono ?_
      rintro e v4 ⟨rfl, rfl⟩
      go_wp2_with fail
      refine (H5.out _ (hw.below B1)).mono ?_
      rintro e v5 ⟨rfl, d5⟩
      have R2 := R1.stays d5
      have B2 := B1.trans (d5.mono B1.size)
      obtain ⟨T, U, C, L⟩ := lay_row 26 (hostA Hst.zero) (hostA Hst.zero) B2 B2.size
      have R3 := L _ _ _ R2
      clear R1 B1 R2 B2 d5 L
      go_wp2_with (first
        | (refine wpList_store_row rfl 26 _ _ rfl v5.heap.size (hostA Hst.zero) rfl rfl 26 _ T (by rw [HX.out]; exact infoHost) rfl (hostA_one _) ?_)
        | (refine wpList_store_row rfl 50 _ _ rfl w.heap.size (ruleA Ru.zero) rfl rfl 50 _ R3 infoRule rfl (ruleA_one _) ?_))
      exact bodyPost_ret (v := .tuple #[.agg (ruleA Ru.zero), .bool false, .int .i64 51]) (results_cell_three rfl _ _ w.heap.size _ _ _ rfl _ _ rfl rfl (R3.whole _) Tryz.underlying50 rfl infoRule) rfl (HPost.out _ _ HR.out (below_setRow C (Nat.le_refl _) _))
    | some x =>
      rw [hp] at H5 hx
      have e2 : Hst.host (some x) = x := rfl
      have e3 : Hst.code (some x) = 0 := rfl
      rw [e2, e3] at H5
      rw [e2] at hx
      have HX := Lib.hid (hostA_size x hx)
      have HX1 := Lib.hid (hostA_one x)
      have hK : (hostA x)[0]? = some (.int .i64 x.kind) := hostA_kind x
      have hN : (hostA x)[1]? = some (strV x.name) := hostA_name x
      by_cases hk : x.kind = 1
      · have hxn : x.name.length ≤ 1048576 := by have := (Hst.parse_good hp hk).2.2; rw [Oct.length_bytes] at this; omega
        have H6 := Lib.hid (fun W h => labels_calls x hx hxn W h)
        unfold NewTexts at H6
        obtain ⟨u, hu⟩ : ∃ u : ByteArray, u = ⟨x.name.toArray⟩ := ⟨_, rfl⟩
        have hsu : strV x.name = .string u := by rw [hu]; rfl
        rw [hsu] at hN
        have hul : x.name = u.data.toList := by rw [hu]
        by_cases h3 : K = 3
        · have h31 : (K == 3) = true := by simpa using h3
          by_cases hl : (Hst.labels x).length < 2
          · have HR : Hid (res = (51, false, Ru.zero)) := Lib.hid (by rw [HQ2.out, Ru.named_few hp h3 hl]; rfl)
            generalize Hst.labels x = ps at *
            have hl1 : ((ps.length : Int) < 2) := by omega
            rw [hk] at hK
            clear hp HQ2 hx e2 e3 h3 hl hk hxn hul hsu hu
            generalize hostA x = X at *
            go_enter Tryz.func43, Tryz.ntmps43
            go_wp2_with fail
            have R0 := Row.new w 50 (ruleA Ru.zero)
            have B0 := (Below.refl w.heap.size w).alloc (Nat.le_refl _) (.cells (ruleA Ru.zero) 50)
            generalize w.alloc (.cells (ruleA Ru.zero) 50) = w0 at *
            refine (H1.out _).mono ?_
            rintro e v1 ⟨rfl, rfl⟩
            go_wp2_with fail
            refine (H2.out _).mono ?_
            rintro e v2 ⟨rfl, hq⟩
            rw [hq]
            clear hq
            go_wp2_with fail
            refine (H3.out _).mono ?_
            rintro e v3 ⟨rfl, d3⟩
            have R1 := R0.stays d3
            have B1 := B0.trans (d3.mono B0.size)
            clear R0 B0 d3
            go_wp2_with fail
            refine (H4.out _).mono ?_
            rintro e v4 ⟨rfl, rfl⟩
            go_wp2_with fail
            refine (H5.out _ (hw.below B1)).mono ?_
            rintro e v5 ⟨rfl, d5⟩
            have R2 := R1.stays d5
            have B2 := B1.trans (d5.mono B1.size)
            obtain ⟨T, U, C, L⟩ := lay_row 26 (hostA Hst.zero) X B2 B2.size
            have R3 := L _ _ _ R2
            have c0 := (U.cell 0).trans hK
            clear R1 B1 R2 B2 d5 L
            go_wp2_with (first
              | (refine wpList_store_row rfl 26 _ _ rfl v5.heap.size X rfl rfl 26 _ T (by rw [HX.out]; exact infoHost) (by rw [HX.out]; rfl) HX1.out ?_)
              | (refine at_slot 41 rfl ?_; refine load_row rfl 26 _ rfl v5.heap.size rfl U Tryz.underlying26 rfl (by rw [HX.out]; exact infoHost) ?_))
            refine (H6.out _ (hw.below C)).mono ?_
            rintro e v6 ⟨lv, rfl, hown, d6⟩
            obtain ⟨LA, lc, rfl, _⟩ := own_any hown
            have R4 := R3.stays d6
            have C2 := C.trans (d6.mono C.size)
            clear hown c0 U T d6 R3 C
            go_wp2_with (first
              | (refine wpList_store_row rfl 50 _ _ rfl w.heap.size (ruleA Ru.zero) rfl rfl 50 _ R4 infoRule rfl (ruleA_one _) ?_))
            exact bodyPost_ret (v := .tuple #[.agg (ruleA Ru.zero), .bool false, .int .i64 51]) (results_cell_three rfl _ _ w.heap.size _ _ _ rfl _ _ rfl rfl (R4.whole _) Tryz.underlying50 rfl infoRule) rfl (HPost.out _ _ HR.out (below_setRow C2 (Nat.le_refl _) _))
          · have HR : Hid (res = (0, true, ⟨K, u.data.toList⟩)) := Lib.hid (by rw [HQ2.out, Ru.named_yes hp hk (fun _ => by omega), hul]; rfl)
            have HB := Lib.hid (built_rule K u)
            have HB1 := Lib.hid (ruleA_size ⟨K, u.data.toList⟩)
            have HB2 := Lib.hid (ruleA_one ⟨K, u.data.toList⟩)
            generalize Hst.labels x = ps at *
            have hl1 : ¬ ((ps.length : Int) < 2) := by omega
            rw [hk] at hK
            clear hp HQ2 hx e2 e3 h3 hl hk hxn hul hsu hu
            generalize hostA x = X at *
            generalize hY : ruleA ⟨K, u.data.toList⟩ = Y at *
            have HY := Lib.hid hY
            clear hY
            go_enter Tryz.func43, Tryz.ntmps43
            go_wp2_with fail
            have R0 := Row.new w 50 (ruleA Ru.zero)
            have B0 := (Below.refl w.heap.size w).alloc (Nat.le_refl _) (.cells (ruleA Ru.zero) 50)
            generalize w.alloc (.cells (ruleA Ru.zero) 50) = w0 at *
            refine (H1.out _).mono ?_
            rintro e v1 ⟨rfl, rfl⟩
            go_wp2_with fail
            refine (H2.out _).mono ?_
            rintro e v2 ⟨rfl, hq⟩
            rw [hq]
            clear hq
            go_wp2_with fail
            refine (H3.out _).mono ?_
            rintro e v3 ⟨rfl, d3⟩
            have R1 := R0.stays d3
            have B1 := B0.trans (d3.mono B0.size)
            clear R0 B0 d3
            go_wp2_with fail
            refine (H4.out _).mono ?_
            rintro e v4 ⟨rfl, rfl⟩
            go_wp2_with fail
            refine (H5.out _ (hw.below B1)).mono ?_
            rintro e v5 ⟨rfl, d5⟩
            have R2 := R1.stays d5
            have B2 := B1.trans (d5.mono B1.size)
            obtain ⟨T, U, C, L⟩ := lay_row 26 (hostA Hst.zero) X B2 B2.size
            have R3 := L _ _ _ R2
            have c0 := (U.cell 0).trans hK
            clear R1 B1 R2 B2 d5 L
            go_wp2_with (first
              | (refine wpList_store_row rfl 26 _ _ rfl v5.heap.size X rfl rfl 26 _ T (by rw [HX.out]; exact infoHost) (by rw [HX.out]; rfl) HX1.out ?_)
              | (refine at_slot 41 rfl ?_; refine load_row rfl 26 _ rfl v5.heap.size rfl U Tryz.underlying26 rfl (by rw [HX.out]; exact infoHost) ?_))
            refine (H6.out _ (hw.below C)).mono ?_
            rintro e v6 ⟨lv, rfl, hown, d6⟩
            obtain ⟨LA, lc, rfl, _⟩ := own_any hown
            have R4 := R3.stays d6
            have U4 := U.stays d6
            have c1 := (U4.cell 1).trans hN
            have C2 := C.trans (d6.mono C.size)
            clear hown c0 U T d6 R3 C
            generalize v5.heap.size = g5 at *
            go_wp2_with (first
              | (refine at_slot 50 rfl ?_; refine build_two rfl 50 0 1 _ _ rfl _ _ rfl rfl Y HB.out ?_)
              | (refine wpList_store_row rfl 50 _ _ rfl w.heap.size Y rfl rfl 50 _ R4 (by rw [HB1.out]; exact infoRule) (by rw [HB1.out]; rfl) HB2.out ?_))
            exact bodyPost_ret (v := .tuple #[.agg Y, .bool true, .int .i64 0]) (results_cell_three rfl _ _ w.heap.size _ _ _ rfl _ _ rfl rfl (R4.whole _) Tryz.underlying50 rfl (by rw [HB1.out]; exact infoRule)) rfl (by rw [← HY.out]; exact HPost.out _ _ HR.out (below_setRow C2 (Nat.le_refl _) _))
        · have h31 : (K == 3) = false := by simpa using h3
          have HR : Hid (res = (0, true, ⟨K, u.data.toList⟩)) := Lib.hid (by rw [HQ2.out, Ru.named_yes hp hk (fun e => absurd e h3), hul]; rfl)
          have HB := Lib.hid (built_rule K u)
          have HB1 := Lib.hid (ruleA_size ⟨K, u.data.toList⟩)
          have HB2 := Lib.hid (ruleA_one ⟨K, u.data.toList⟩)
          rw [hk] at hK
          clear hp HQ2 hx e2 e3 h3 hk hxn hul hsu hu H6
          generalize hostA x = X at *
          generalize hY : ruleA ⟨K, u.data.toList⟩ = Y at *
          have HY := Lib.hid hY
          clear hY
          go_enter Tryz.func43, Tryz.ntmps43
          go_wp2_with fail
          have R0 := Row.new w 50 (ruleA Ru.zero)
          have B0 := (Below.refl w.heap.size w).alloc (Nat.le_refl _) (.cells (ruleA Ru.zero) 50)
          generalize w.alloc (.cells (ruleA Ru.zero) 50) = w0 at *
          refine (H1.out _).mono ?_
          rintro e v1 ⟨rfl, rfl⟩
          go_wp2_with fail
          refine (H2.out _).mono ?_
          rintro e v2 ⟨rfl, hq⟩
          rw [hq]
          clear hq
          go_wp2_with fail
          refine (H3.out _).mono ?_
          rintro e v3 ⟨rfl, d3⟩
          have R1 := R0.stays d3
          have B1 := B0.trans (d3.mono B0.size)
          clear R0 B0 d3
          go_wp2_with fail
          refine (H4.out _).mono ?_
          rintro e v4 ⟨rfl, rfl⟩
          go_wp2_with fail
          refine (H5.out _ (hw.below B1)).mono ?_
          rintro e v5 ⟨rfl, d5⟩
          have R2 := R1.stays d5
          have B2 := B1.trans (d5.mono B1.size)
          obtain ⟨T, U, C, L⟩ := lay_row 26 (hostA Hst.zero) X B2 B2.size
          have R3 := L _ _ _ R2
          have c0 := (U.cell 0).trans hK
          have c1 := (U.cell 1).trans hN
          clear R1 B1 R2 B2 d5 L
          go_wp2_with (first
            | (refine wpList_store_row rfl 26 _ _ rfl v5.heap.size X rfl rfl 26 _ T (by rw [HX.out]; exact infoHost) (by rw [HX.out]; rfl) HX1.out ?_)
            | (refine at_slot 50 rfl ?_; refine build_two rfl 50 0 1 _ _ rfl _ _ rfl rfl Y HB.out ?_)
            | (refine wpList_store_row rfl 50 _ _ rfl w.heap.size Y rfl rfl 50 _ R3 (by rw [HB1.out]; exact infoRule) (by rw [HB1.out]; rfl) HB2.out ?_))
          exact bodyPost_ret (v := .tuple #[.agg Y, .bool true, .int .i64 0]) (results_cell_three rfl _ _ w.heap.size _ _ _ rfl _ _ rfl rfl (R3.whole _) Tryz.underlying50 rfl (by rw [HB1.out]; exact infoRule)) rfl (by rw [← HY.out]; exact HPost.out _ _ HR.out (below_setRow C (Nat.le_refl _) _))
      · have HR : Hid (res = (51, false, Ru.zero)) := Lib.hid (by rw [HQ2.out, Ru.named_kind hp hk]; rfl)
        have hk1 : (x.kind == 1) = false := by simpa using hk
        clear hp HQ2 hx e2 e3 hk hN
        generalize x.kind = xk at *
        generalize hostA x = X at *
        go_enter Tryz.func43, Tryz.ntmps43
        go_wp2_with fail
        have R0 := Row.new w 50 (ruleA Ru.zero)
        have B0 := (Below.refl w.heap.size w).alloc (Nat.le_refl _) (.cells (ruleA Ru.zero) 50)
        generalize w.alloc (.cells (ruleA Ru.zero) 50) = w0 at *
        refine (H1.out _).mono ?_
        rintro e v1 ⟨rfl, rfl⟩
        go_wp2_with fail
        refine (H2.out _).mono ?_
        rintro e v2 ⟨rfl, hq⟩
        rw [hq]
        clear hq
        go_wp2_with fail
        refine (H3.out _).mono ?_
        rintro e v3 ⟨rfl, d3⟩
        have R1 := R0.stays d3
        have B1 := B0.trans (d3.mono B0.size)
        clear R0 B0 d3
        go_wp2_with fail
        refine (H4.out _).mono ?_
        rintro e v4 ⟨rfl, rfl⟩
        go_wp2_with fail
        refine (H5.out _ (hw.below B1)).mono ?_
        rintro e v5 ⟨rfl, d5⟩
        have R2 := R1.stays d5
        have B2 := B1.trans (d5.mono B1.size)
        obtain ⟨T, U, C, L⟩ := lay_row 26 (hostA Hst.zero) X B2 B2.size
        have R3 := L _ _ _ R2
        have c0 := (U.cell 0).trans hK
        clear R1 B1 R2 B2 d5 L
        go_wp2_with (first
          | (refine wpList_store_row rfl 26 _ _ rfl v5.heap.size X rfl rfl 26 _ T (by rw [HX.out]; exact infoHost) (by rw [HX.out]; rfl) HX1.out ?_)
          | (refine wpList_store_row rfl 50 _ _ rfl w.heap.size (ruleA Ru.zero) rfl rfl 50 _ R3 infoRule rfl (ruleA_one _) ?_))
        exact bodyPost_ret (v := .tuple #[.agg (ruleA Ru.zero), .bool false, .int .i64 51]) (results_cell_three rfl _ _ w.heap.size _ _ _ rfl _ _ rfl rfl (R3.whole _) Tryz.underlying50 rfl infoRule) rfl (HPost.out _ _ HR.out (below_setRow C (Nat.le_refl _) _))
end Go.Proofs.YtnlhniaoaciopaaGreatDoor
