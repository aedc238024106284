/- The walk of header's Parse. -/
import Derived.Test.YtpimaobejjpffaaGreatDoorHeaderTake
namespace Go.Proofs.YtpimaobejjpffaaGreatDoor
open Go.RowKit
theorem head_post {o : Int × Hd.Head} {n : Int} {h : Hd.Head} (e : o = (n, h)) {w w' : World} (hb : Below w.heap.size w w') : NewHead o w (.returned (.tuple #[.agg (headA h), .int .i64 n])) w' := by subst e; exact ⟨rfl, hb⟩
theorem size_mk (l : List UInt8) : (⟨l.toArray⟩ : ByteArray).size = l.length := by show (List.toArray _).size = _; simp
theorem empty_mk (l : List UInt8) : (⟨l.toArray⟩ : ByteArray).toList.isEmpty = decide (l = []) := by
  rw [Oct.bytes_data]
  show List.isEmpty l = _
  cases l <;> rfl
set_option maxRecDepth 100000 in
set_option maxHeartbeats 8000000 in
theorem headParse_calls (s : ByteArray) (w : World) (hw : Hal w) (hs : s.size ≤ maxLen) :
    Calls Tryz.prog 5 #[.string s] w (NewHead (Hd.parse s.data.toList) w) := by
  have z0 := zeroHead
  have HZ : Hid (∀ h : Hd.Head, (headA h).size = 11) := Lib.hid (fun h => rfl)
  have HPost : Hid (∀ n h w', Hd.parse s.data.toList = (n, h) → Below w.heap.size w w' → NewHead (Hd.parse s.data.toList) w (.returned (.tuple #[.agg (headA h), .int .i64 n])) w') := Lib.hid (fun n h w' e hb => head_post e hb)
  generalize hpost : NewHead (Hd.parse s.data.toList) w = post at *
  clear hpost
  have HW : Hid (∀ W, Below w.heap.size w W → Hal W) := Lib.hid (fun W h => hw.below h)
  have C1 := Lib.hid (fun W => hasControl_calls s W hs)
  cases hbad : s.data.toList.any Hd.badB with
  | true =>
    have HQ := Lib.hid (fun w' => HPost.out 81 Hd.zero w' (by unfold Hd.parse; rw [if_pos hbad]))
    rw [hbad] at C1
    clear hbad HPost hs
    go_enter Tryz.func5, Tryz.ntmps5
    go_wp2_with fail
    have R0 := Row.new w 24 (headA Hd.zero)
    have B0 := (Below.refl w.heap.size w).alloc (Nat.le_refl _) (.cells (headA Hd.zero) 24)
    generalize w.alloc (.cells (headA Hd.zero) 24) = w0 at *
    refine (C1.out _).mono ?_
    rintro e v1 ⟨rfl, rfl⟩
    go_wp2_with (refine wpList_store_row rfl 24 _ _ rfl w.heap.size (headA Hd.zero) rfl rfl 24 _ R0 (by rw [HZ.out]; exact infoHead) rfl (headA_one _) ?_)
    exact bodyPost_ret (v := .tuple #[.agg (headA Hd.zero), .int .i64 81]) (results_cell_two rfl _ _ w.heap.size _ _ _ rfl _ rfl (R0.whole _) Tryz.underlying24 rfl (by rw [HZ.out]; exact infoHead)) rfl (HQ.out _ (below_setRow B0 (Nat.le_refl _) _))
  | false =>
  have hparse : Hd.parse s.data.toList = Hd.said (Oct.split 59 s.data.toList) := by unfold Hd.parse; rw [if_neg (by rw [hbad]; simp)]
  rw [Hd.said_cut] at hparse
  rw [hbad] at C1
  have C2 := Lib.hid (fun W => cutOne_calls s 59 W hs)
  unfold CutPost at C2
  obtain ⟨q1, q2⟩ := Hd.cut_piece s.data.toList
  rw [q1, q2] at C2
  have l1 := Hd.piece_le s.data.toList
  have l2 := Hd.rest_le s.data.toList
  have l3 := Hd.pair_le (Hd.pieceOf s.data.toList)
  rw [Oct.length_bytes] at l1 l2
  obtain ⟨p, hp⟩ : ∃ p : ByteArray, (⟨(Hd.pieceOf s.data.toList).toArray⟩ : ByteArray) = p := ⟨_, rfl⟩
  obtain ⟨r, hr⟩ : ∃ p : ByteArray, (⟨(Hd.restOf s.data.toList).toArray⟩ : ByteArray) = p := ⟨_, rfl⟩
  have hp2 : p.data.toList = Hd.pieceOf s.data.toList := by rw [← hp]
  have hr2 : r.data.toList = Hd.restOf s.data.toList := by rw [← hr]
  rw [hp, hr] at C2
  rw [← hp2] at l1 l3 hparse
  rw [← hr2] at l2 hparse
  rw [Oct.length_bytes] at l1 l2 l3
  have C3 := Lib.hid (fun W => readPair_calls p W (Nat.le_trans l1 hs))
  unfold PairPost at C3
  obtain ⟨n, hn⟩ : ∃ p2 : ByteArray, (⟨(Hd.pair p.data.toList).1.toArray⟩ : ByteArray) = p2 := ⟨_, rfl⟩
  obtain ⟨v, hv⟩ : ∃ p2 : ByteArray, (⟨(Hd.pair p.data.toList).2.toArray⟩ : ByteArray) = p2 := ⟨_, rfl⟩
  rw [hn, hv] at C3
  have hn1 : n.toList.isEmpty = decide ((Hd.pair p.data.toList).1 = []) := by rw [← hn, empty_mk]
  have hv1 : v.toList.isEmpty = decide ((Hd.pair p.data.toList).2 = []) := by rw [← hv, empty_mk]
  have hn2 : n.size = (Hd.pair p.data.toList).1.length := by rw [← hn, size_mk]
  have hv2 : v.size = (Hd.pair p.data.toList).2.length := by rw [← hv, size_mk]
  rw [← hn2, ← hv2] at l3 hparse
  have HZ2 : Hid (((headA Hd.zero).setIfInBounds 0 (.string n)).setIfInBounds 1 (.string v) = headA (Hd.start p.data.toList)) := Lib.hid (by rw [← hn, ← hv]; rfl)
  clear hn hv hp hr hp2 hr2 hn2 hv2 q1 q2 hbad
  obtain ⟨bn, hbn⟩ : ∃ b, decide ((Hd.pair p.data.toList).1 = []) = b := ⟨_, rfl⟩
  obtain ⟨bv, hbv⟩ : ∃ b, decide ((Hd.pair p.data.toList).2 = []) = b := ⟨_, rfl⟩
  rw [hbn] at hn1
  rw [hbv] at hv1
  have HE : Hid (((bn && bv) = true ↔ ((Hd.pair p.data.toList).1 = [] ∧ (Hd.pair p.data.toList).2 = []))) := Lib.hid (by rw [← hbn, ← hbv, Bool.and_eq_true, decide_eq_true_iff, decide_eq_true_iff])
  clear hbn hbv
  have HPa := Lib.hid hparse
  clear hparse
  generalize hst : Hd.start p.data.toList = st at *
  clear hst
  have hsm : s.size ≤ 9223372036854775807 := hs
  have HS := Lib.hid hs
  clear hs
  go_enter Tryz.func5, Tryz.ntmps5
  go_wp2_with fail
  have R0 := Row.new w 24 (headA Hd.zero)
  have B0 := (Below.refl w.heap.size w).alloc (Nat.le_refl _) (.cells (headA Hd.zero) 24)
  generalize w.alloc (.cells (headA Hd.zero) 24) = w0 at *
  refine (C1.out _).mono ?_
  rintro e v1 ⟨rfl, rfl⟩
  go_wp2_with fail
  refine (C2.out _).mono ?_
  rintro e v2 ⟨rfl, d2⟩
  have R2 := R0.stays d2
  have B2 := B0.trans (d2.mono B0.size)
  clear R0 B0 d2
  go_wp2_with fail
  refine (C3.out _).mono ?_
  rintro e v3 ⟨rfl, d3⟩
  have R3 := R2.stays d3
  have B3 := B2.trans (d3.mono B2.size)
  clear R2 B2 d3
  go_upto_region 5 with fail
  go_cut [33] (fun sx wx => sx = .bool (bn && bv) ∧ v3 = wx)
  case first =>
    cases bn with
    | false => go_wp2; go_meet; exact ⟨rfl, rfl⟩
    | true =>
    cases bv with
    | false => go_wp2; go_meet; exact ⟨rfl, rfl⟩
    | true => go_wp2; go_meet; exact ⟨rfl, rfl⟩
  case rest =>
  obtain ⟨rfl, rfl⟩ := hcut
  cases hB : (bn && bv) with
  | true =>
    have HQ := Lib.hid (fun w' => HPost.out 82 Hd.zero w' (by rw [HPa.out, if_pos (HE.out.1 hB)]))
    clear hB HE HPa HPost
    go_wp2_with (refine wpList_store_row rfl 24 _ _ rfl w.heap.size (headA Hd.zero) rfl rfl 24 _ R3 (by rw [HZ.out]; exact infoHead) rfl (headA_one _) ?_)
    exact bodyPost_ret (v := .tuple #[.agg (headA Hd.zero), .int .i64 82]) (results_cell_two rfl _ _ w.heap.size _ _ _ rfl _ rfl (R3.whole _) Tryz.underlying24 rfl (by rw [HZ.out]; exact infoHead)) rfl (HQ.out _ (below_setRow B3 (Nat.le_refl _) _))
  | false =>
  have HPb := Lib.hid (HPa.out.trans (if_neg (fun h => by rw [HE.out.2 h] at hB; cases hB)))
  clear hB HE HPa
  by_cases hlong : 4096 < n.size + v.size
  · have HQ := Lib.hid (fun w' => HPost.out 83 Hd.zero w' (by rw [HPb.out, if_pos hlong]))
    have hlong1 : (4096 : Int) < (n.size : Int) + (v.size : Int) := by omega
    have hwr : IntKind.i64.wrap ((n.size : Int) + (v.size : Int)) = (n.size : Int) + (v.size : Int) := by rw [IntKind.wrap_i64]; omega
    clear HPb HPost
    go_wp2_with (refine wpList_store_row rfl 24 _ _ rfl w.heap.size (headA Hd.zero) rfl rfl 24 _ R3 (by rw [HZ.out]; exact infoHead) rfl (headA_one _) ?_)
    exact bodyPost_ret (v := .tuple #[.agg (headA Hd.zero), .int .i64 83]) (results_cell_two rfl _ _ w.heap.size _ _ _ rfl _ rfl (R3.whole _) Tryz.underlying24 rfl (by rw [HZ.out]; exact infoHead)) rfl (HQ.out _ (below_setRow B3 (Nat.le_refl _) _))
  have HPc := Lib.hid (HPb.out.trans (if_neg hlong))
  have hlong1 : ¬ (4096 : Int) < (n.size : Int) + (v.size : Int) := by omega
  have hwr : IntKind.i64.wrap ((n.size : Int) + (v.size : Int)) = (n.size : Int) + (v.size : Int) := by rw [IntKind.wrap_i64]; omega
  have hrs : r.size ≤ s.size := by omega
  have HQ : Hid (∀ res w', (Oct.split 59 r.data.toList).foldl Hd.attr st = res → Below w.heap.size w w' → post (.returned (.tuple #[.agg (headA res), .int .i64 0])) w') := Lib.hid (fun res w' e hb => HPost.out 0 res w' (by rw [HPc.out, e]) hb)
  clear HPb HPc HPost hlong C1 C2 C3 l1 l2 l3
  obtain ⟨T0, U0, V0, W0⟩ := lay_row 24 (headA Hd.zero) (headA st) B3 B3.size
  have z2 := HZ2.out
  go_wp2_with (refine wpList_store_row rfl 24 _ _ rfl v3.heap.size (headA st) rfl rfl 24 _ T0 (by rw [HZ.out]; exact infoHead) rfl (headA_one _) ?_)
  have R4 := W0 _ _ _ R3
  have hlt := R3.lt
  have hgs := B3.size
  generalize (v3.alloc (.cells (headA Hd.zero) 24)).setRow v3.heap.size (headA st) = v4 at *
  have K0 : KeptH v3.heap.size st v4 v4 := ⟨U0, Below.refl _ _⟩
  generalize v3.heap.size = g at *
  have B4 := V0
  clear T0 U0 W0 V0 z2 HZ2 R3 B3
  obtain ⟨res, hres⟩ : ∃ res, (Oct.split 59 r.data.toList).foldl Hd.attr st = res := ⟨_, rfl⟩
  have HR0 := Lib.hid hres
  have HQ2 := Lib.hid (fun w' => HQ.out res w' hres)
  have HG := Lib.hid hgs
  clear hres HQ hgs
  simp only [Act.put]
  go_loopw [5] (fun x wr => ∃ (u : ByteArray) (T : Hd.Head), x = .string u ∧ u.size ≤ s.size ∧ (Oct.split 59 u.data.toList).foldl Hd.attr T = res ∧ KeptH g T v4 wr) (fun x _ => match x with | .string u => u.size | _ => 0)
  case atStart => exact ⟨r, st, rfl, hrs, HR0.out, K0⟩
  case round =>
    clear K0
    obtain ⟨u, T, rfl, hus, hT, K⟩ := hrel
    have hum : u.size ≤ maxLen := Nat.le_trans hus HS.out
    by_cases hu : u.size = 0
    · have hnil : u.data.toList = [] := (Oct.nil_size u).2 hu
      rw [hnil, Hd.fold_nil] at hT
      have hne : u.toList.isEmpty = true := by rw [Oct.bytes_data, hnil]; rfl
      subst hT
      have R5 := K.row
      have R6 := R4.below K.below hlt
      have B6 := B4.trans (K.below.mono HG.out)
      clear hnil hum
      go_wp2_with (first
        | (refine at_slot 65 rfl ?_; refine load_row rfl 24 _ rfl g rfl R5 Tryz.underlying24 rfl (by rw [HZ.out]; exact infoHead) ?_)
        | (refine wpList_store_row rfl 24 _ _ rfl w.heap.size (headA T) rfl rfl 24 _ R6 (by rw [HZ.out]; exact infoHead) rfl (headA_one _) ?_))
      exact bodyPost_ret (v := .tuple #[.agg (headA T), .int .i64 0]) (results_cell_two rfl _ _ w.heap.size _ _ _ rfl _ rfl (R6.whole _) Tryz.underlying24 rfl (by rw [HZ.out]; exact infoHead)) rfl (HQ2.out _ (below_setRow B6 (Nat.le_refl _) _))
    · have hne : u.toList.isEmpty = false := by
        rw [Oct.bytes_data, Bool.eq_false_iff]
        intro h
        exact hu ((Oct.nil_size u).1 (List.isEmpty_iff.1 h))
      have D1 := Lib.hid (fun W => cutOne_calls u 59 W hum)
      unfold CutPost at D1
      obtain ⟨q1, q2⟩ := Hd.cut_piece u.data.toList
      rw [q1, q2] at D1
      have m1 := Hd.piece_le u.data.toList
      have m2 := Hd.rest_le u.data.toList
      have m3 := Hd.ahead_le (Hd.pieceOf u.data.toList)
      rw [Oct.length_bytes] at m1 m2
      rw [Hd.fold_piece] at hT
      obtain ⟨pc, hp⟩ : ∃ p : ByteArray, (⟨(Hd.pieceOf u.data.toList).toArray⟩ : ByteArray) = p := ⟨_, rfl⟩
      obtain ⟨rc, hr⟩ : ∃ p : ByteArray, (⟨(Hd.restOf u.data.toList).toArray⟩ : ByteArray) = p := ⟨_, rfl⟩
      have hp2 : pc.data.toList = Hd.pieceOf u.data.toList := by rw [← hp]
      have hr2 : rc.data.toList = Hd.restOf u.data.toList := by rw [← hr]
      rw [hp, hr] at D1
      rw [← hp2] at m1 m3 hT
      rw [← hr2] at m2 hT
      rw [Oct.length_bytes] at m1 m2 m3
      have D2 := Lib.hid (fun W => cutSign_calls pc W (Nat.le_trans m1 hum))
      unfold SignPost at D2
      obtain ⟨k, hk⟩ : ∃ p2 : ByteArray, (⟨(Hd.ahead pc.data.toList).toArray⟩ : ByteArray) = p2 := ⟨_, rfl⟩
      obtain ⟨v, hv⟩ : ∃ p2 : ByteArray, (⟨(Hd.behind pc.data.toList).toArray⟩ : ByteArray) = p2 := ⟨_, rfl⟩
      have hk2 : k.data.toList = Hd.ahead pc.data.toList := by rw [← hk]
      have hv2 : v.data.toList = Hd.behind pc.data.toList := by rw [← hv]
      rw [hk, hv] at D2
      have hks : k.size ≤ maxLen := by rw [← Oct.length_bytes, hk2]; exact Nat.le_trans m3 (Nat.le_trans m1 hum)
      have hvs : v.size = (Hd.behind pc.data.toList).length := by rw [← Oct.length_bytes, hv2]
      by_cases hlong : 1024 < v.size
      · rw [Hd.attr_long T (by rw [← hvs]; exact hlong)] at hT
        have HT := Lib.hid hT
        have hl1 : ¬ (v.size : Int) ≤ 1024 := by omega
        clear hT hp hr hp2 hr2 hk hv hk2 hv2 hvs hks q1 q2 m3 hum
        go_wp2_with fail
        refine (D1.out _).mono ?_
        rintro e w5 ⟨rfl, d5⟩
        have K5 := K.on d5
        clear d5 K
        go_wp2_with fail
        refine (D2.out _).mono ?_
        rintro e w6 ⟨rfl, d6⟩
        have K6 := K5.on d6
        clear d6 K5
        go_wp2
        go_roundw
        case rel => exact ⟨rc, T, rfl, by omega, HT.out, K6⟩
        case measure => simp; omega
      · have D3 := Lib.hid (fun W hW hR => take_calls T k v g W hW hR hks (by omega))
        unfold TakePost at D3
        rw [Hd.attr_put, ← hk2, ← hv2] at hT
        have HT := Lib.hid hT
        have hl1 : (v.size : Int) ≤ 1024 := by omega
        have HWg : Hid (∀ W, Below g v4 W → Hal W) := Lib.hid (fun W h => HW.out W (B4.trans (h.mono HG.out)))
        clear hT hp hr hp2 hr2 hk hv hk2 hv2 hvs hks q1 q2 m3 hum
        generalize Hd.put T (k.data.toList.map Oct.low) v.data.toList = T2 at *
        go_wp2_with fail
        refine (D1.out _).mono ?_
        rintro e w5 ⟨rfl, d5⟩
        have K5 := K.on d5
        clear d5 K
        go_wp2_with fail
        refine (D2.out _).mono ?_
        rintro e w6 ⟨rfl, d6⟩
        have K6 := K5.on d6
        clear d6 K5
        go_wp2_with fail
        refine (D3.out _ (fun W hW => HWg.out W (K6.below.trans hW)) K6.row).mono ?_
        rintro e w7 ⟨rfl, k7⟩
        have K7 : KeptH g T2 v4 w7 := ⟨k7.row, K6.below.trans k7.below⟩
        go_wp2
        go_roundw
        case rel => exact ⟨rc, T2, rfl, by omega, HT.out, K7⟩
        case measure => simp; omega
end Go.Proofs.YtpimaobejjpffaaGreatDoor
