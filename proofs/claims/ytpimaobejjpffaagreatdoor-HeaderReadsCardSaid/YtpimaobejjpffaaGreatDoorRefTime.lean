/- The walks of the reference's time and month. -/
import Derived.Test.YtpimaobejjpffaaGreatDoorCutToken
import Derived.Test.YtpimaobejjpffaaGreatDoorReadMonth
import Derived.Test.YtpimaobejjpffaaGreatDoorOctets
import Derived.Deep.DeepCutAuto
namespace Go.Proofs.YtpimaobejjpffaaGreatDoor
open Go.RowKit
def intV (n : Nat) : Value := .int .i64 (n : Int)
theorem infoInt : (Tryz.prog.info? 3).map (fun i => (i.zero, i.size, i.bytes)) = some (some (.int .i64 0), 1, 8) := by kernel_rfl
/-- The numbers of a time in a row of the call's own, and whether it is one. -/
def TimePost (o : Option (Nat × Nat × Nat)) (w : World) (e : Ending) (w' : World) : Prop := ∃ v, e = .returned (.tuple #[v, .bool o.isSome]) ∧ w'.ownsRow w.heap.size 3 1 v (clockL o).length ((clockL o).map intV) ∧ Below w.heap.size w w'
theorem time_none {o : Option (Nat × Nat × Nat)} (h : o = none) {w w' : World} (hb : Below w.heap.size w w') : TimePost o w (.returned (.tuple #[.slice none 0 0, .bool false])) w' := by subst h; exact ⟨_, rfl, World.ownsRow_nil _ _ _ _, hb⟩
theorem time_some {o : Option (Nat × Nat × Nat)} {ns : List Nat} {v : Value} (h : clockL o = ns) (hs : o.isSome = true) {w w' : World} (hv : w'.ownsRow w.heap.size 3 1 v ns.length (ns.map intV)) (hb : Below w.heap.size w w') : TimePost o w (.returned (.tuple #[v, .bool true])) w' := by
  subst h
  exact ⟨v, by rw [hs], hv, hb⟩
namespace Dt
theorem Clock.stop {s r q : List UInt8} {k n : Nat} {ns : List Nat} (h : Clock s k ns r) (hk : k < 2) (hn : tnum r = some (n, q)) (hc : tcol q = none) : time3 s = none := by
  have h2 := h.more (by omega) hn
  have h0 := cutN_lt (a := 1) (b := 2) (show cutN r 1 2 = some (n, q) from hn) (by omega)
  rcases skip_cases q with ⟨u, e, _⟩ | ⟨_, e⟩
  · rw [hc] at e; cases e
  · rw [e] at h2
    exact h2.no (by omega) (tnum_none h0.2.2)
theorem Clock.last {s r q : List UInt8} {n : Nat} {ns : List Nat} (h : Clock s 2 ns r) (hn : tnum r = some (n, q)) : Clock s 3 (ns ++ [n]) q := by
  have h2 := h.more (by omega) hn
  have h0 := cutN_lt (a := 1) (b := 2) (show cutN r 1 2 = some (n, q) from hn) (by omega)
  have h3 : Clock s 3 (ns ++ [n]) (skip q) := h2
  obtain ⟨a, b, c, e, ht, _⟩ := h3.done
  have hs := h3.small
  rw [e] at hs ⊢
  exact ⟨rfl, hs, Nat.le_trans h0.2.1 h.shorter, ht⟩
theorem tnum_cases (r : List UInt8) : (tnum r = none ∧ ¬ (1 ≤ lead r ∧ lead r ≤ 2)) ∨ (tnum r = some (Oct.numOf (r.take (lead r)), r.drop (lead r)) ∧ 1 ≤ lead r ∧ lead r ≤ 2) := by
  unfold tnum
  by_cases h : 1 ≤ lead r ∧ lead r ≤ 2
  · rw [if_pos h]; exact .inr ⟨rfl, h⟩
  · rw [if_neg h]; exact .inl ⟨rfl, h⟩
end Dt
theorem col_cases (q : ByteArray) : (q.toList.isEmpty = true ∧ Dt.tcol q.data.toList = none) ∨
    (q.toList.isEmpty = false ∧ ∃ h : 0 < q.size, ((q[0].toNat : Int) != 58) = true ∧ Dt.tcol q.data.toList = none) ∨
    (q.toList.isEmpty = false ∧ ∃ h : 0 < q.size, ((q[0].toNat : Int) != 58) = false ∧ Dt.skip q.data.toList = q.data.toList.drop 1) := by
  rw [Oct.bytes_data]
  by_cases h : 0 < q.size
  · have hc := List.drop_eq_getElem_cons (l := q.data.toList) (i := 0) (by rw [Oct.length_bytes]; exact h)
    rw [List.drop_zero, Oct.getElem_bytes q 0 h] at hc
    by_cases h58 : q[0] = 58
    · refine .inr (.inr ⟨by rw [hc]; rfl, h, by rw [h58]; rfl, ?_⟩)
      rcases Dt.skip_cases q.data.toList with ⟨u, e1, e2⟩ | ⟨e1, _⟩
      · rw [e2]
        rw [hc, Dt.tcol, if_pos h58] at e1
        rw [hc]
        exact (Option.some.inj e1).symm
      · rw [hc, Dt.tcol, if_pos h58] at e1
        cases e1
    · refine .inr (.inl ⟨by rw [hc]; rfl, h, ?_, ?_⟩)
      · rw [bne_iff_ne]
        intro e
        exact h58 (Oct.eq_of_toNat (by show _ = 58; omega))
      · rw [hc, Dt.tcol, if_neg h58]
  · have hn : q.data.toList = [] := (Oct.nil_size q).2 (by omega)
    exact .inl ⟨by rw [hn]; rfl, by rw [hn]; rfl⟩
/-- The value of the digits at a text's beginning. -/
theorem refHead_calls (r : ByteArray) (h2 : Dt.lead r.data.toList ≤ 4) (w : World) :
    Calls Tryz.prog 36 #[.string (r.extract 0 (Dt.lead r.data.toList))] w fun e w' => e = .returned (.int .i64 (Oct.numOf (r.data.toList.take (Dt.lead r.data.toList)) : Nat)) ∧ w = w' := by
  have hl := Dt.lead_le r.data.toList
  rw [Oct.length_bytes] at hl
  have hd : (r.extract 0 (Dt.lead r.data.toList)).data.toList = r.data.toList.take (Dt.lead r.data.toList) := by rw [Lib.extract_data, List.drop_zero, Nat.sub_zero]
  have hs : (r.extract 0 (Dt.lead r.data.toList)).size = Dt.lead r.data.toList := by rw [ByteArray.size_extract]; omega
  have := refValue_calls (r.extract 0 (Dt.lead r.data.toList)) w (fun k hk => by
    rw [hs] at hk
    obtain ⟨hk2, b1, b2⟩ := Dt.lead_at hk
    have e : (r.extract 0 (Dt.lead r.data.toList))[k] = r[k] := by
      rw [ByteArray.getElem_extract]
      congr 1
      omega
    rw [e]
    exact ⟨b1, b2⟩) (by rw [hs]; exact h2)
  rw [hd] at this
  exact this
set_option maxRecDepth 100000 in
set_option maxHeartbeats 8000000 in
theorem refTime_calls (s : ByteArray) (w : World) (hs : s.size ≤ maxLen) : Calls Tryz.prog 35 #[.string s] w (TimePost (Dt.time3 s.data.toList) w) := by
  have HP0 := Lib.hid (fun (h : Dt.time3 s.data.toList = none) w' (hb : Below w.heap.size w w') => time_none h hb)
  have HP1 : Hid (∀ a b c v w', Dt.time3 s.data.toList = some (a, b, c) → w'.ownsRow w.heap.size 3 1 v 3 ([a, b, c].map intV) → Below w.heap.size w w' → TimePost (Dt.time3 s.data.toList) w (.returned (.tuple #[v, .bool true])) w') := Lib.hid (fun a b c v w' h hv hb => time_some (ns := [a, b, c]) (by rw [h]; rfl) (by rw [h]; rfl) hv hb)
  generalize hpost : TimePost (Dt.time3 s.data.toList) w = post at *
  clear hpost
  have HSt := Lib.hid (Dt.Clock.start s.data.toList)
  have hsl := Oct.length_bytes s
  have HS := Lib.hid hs
  clear hs
  obtain ⟨i0, hi, hz0, hz1, hz2⟩ := info_parts infoInt
  go_enter Tryz.func35, Tryz.ntmps35
  go_wp2
  have O0 : (w.alloc (.cells #[] 3)).ownsRow w.heap.size 3 1 (.slice (some ⟨w.heap.size, 0, none⟩) 0 0) 0 [] := World.ownsRow_made w #[] 0 (Nat.le_refl _) (Nat.zero_le _) rfl
  have B0 := (Below.refl w.heap.size w).alloc (Nat.le_refl _) (.cells #[] 3)
  go_loopw [0, 4, 5] (fun sv v i wr => ∃ (k : Nat) (ns : List Nat) (r : ByteArray), k ≤ 3 ∧ sv = .string r ∧ i = .int .i64 k ∧ Dt.Clock s.data.toList k ns r.data.toList ∧ wr.ownsRow w.heap.size 3 1 v ns.length (ns.map intV) ∧ Below w.heap.size w wr) (fun _ _ i _ => 3 - (intOf i).toNat)
  case atStart => exact ⟨0, [], s, Nat.zero_le _, rfl, rfl, HSt.out, O0, B0⟩
  case round =>
    clear O0 B0
    obtain ⟨k, ns, r, hk, rfl, rfl, hcl, hown, hb⟩ := hrel
    have hrl := hcl.shorter
    have hfew := hcl.few
    rw [Oct.length_bytes, hsl] at hrl
    have HCl := Lib.hid hcl
    clear hcl
    by_cases hlt : k < 3
    · have hrm : r.size ≤ maxLen := Nat.le_trans hrl HS.out
      have HD := Lib.hid (fun W => refDigitsAhead_calls r W hrm)
      have hll := Dt.lead_le r.data.toList
      rw [Oct.length_bytes] at hll
      rcases Dt.tnum_cases r.data.toList with ⟨ht, hno⟩ | ⟨ht, h1, h2⟩
      · have HR := Lib.hid (HP0.out (HCl.out.no hlt ht) wr hb)
        have hor : (Dt.lead r.data.toList : Int) < 1 ∨ (¬ (Dt.lead r.data.toList : Int) < 1 ∧ (2 : Int) < (Dt.lead r.data.toList : Int)) := by omega
        generalize Dt.lead r.data.toList = L at *
        clear ht hno hrm HCl hown
        rcases hor with k1 | ⟨k1, k2⟩
        all_goals
          go_wp2_with (go_at_call 34; refine (HD.out _).mono ?_; rintro e w' ⟨rfl, rfl⟩)
          first | exact HR.out | (go_ret2; exact HR.out)
      · have HV := Lib.hid (fun W => refHead_calls r (by omega) W)
        have hdrop : (r.extract (Dt.lead r.data.toList) r.size).data.toList = r.data.toList.drop (Dt.lead r.data.toList) := Lib.extract_to_end r _
        obtain ⟨q, hq⟩ : ∃ q, r.extract (Dt.lead r.data.toList) r.size = q := ⟨_, rfl⟩
        obtain ⟨n, hn⟩ : ∃ n, Oct.numOf (r.data.toList.take (Dt.lead r.data.toList)) = n := ⟨_, rfl⟩
        rw [hq] at hdrop
        rw [← hdrop, hn] at ht
        rw [hn] at HV
        have HT := Lib.hid ht
        have hqs : q.size ≤ r.size := by rw [← hq, ByteArray.size_extract]; omega
        have k1 : ¬ (Dt.lead r.data.toList : Int) < 1 := by omega
        have k2 : ¬ (2 : Int) < (Dt.lead r.data.toList : Int) := by omega
        generalize Dt.lead r.data.toList = L at *
        have kL : L ≤ r.size := hll
        clear ht hdrop hn h1 h2 hrm
        go_wp2_with (first
          | (go_at_call 34; refine (HD.out _).mono ?_; rintro e w' ⟨rfl, rfl⟩)
          | (go_at_call 36; refine (HV.out _).mono ?_; rintro e w' ⟨rfl, rfl⟩)
          | (at_builtin; refine wpList_append_own _ rfl _ _ 50 rfl w.heap.size 3 i0 (.int .i64 0) 1 8 Tryz.underlying50 hi hz0 hz1 hz2 rfl (by decide) _ _ _ rfl (hown.alloc _) ⟨wr.heap.size, 0, none⟩ 1 1 [.int .i64 (n : Int)] rfl rfl (cell_one_new _ _ _) ?c1a ?c1b ?c1c ?c1d ?_))
        case c1a => intro u hu; simp at hu; subst hu; rfl
        case c1b => simp only [maxLen]; omega
        case c1c => omega
        case c1d => have := hb.size; simp; omega
        intro v' w5 hown' hgrow _
        have R : w5.ownsRow w.heap.size 3 1 v' (ns ++ [n]).length ((ns ++ [n]).map intV) := by rw [List.length_append, List.map_append, hfew]; exact hown'
        have B := hb.trans (((Below.refl _ wr).alloc hb.size (.cells #[.int .i64 (n : Int)] 3)).grown hgrow (by have := hb.size; simp; omega) (fun g hg => (hown.lt g hg).1))
        clear hown' hgrow hown
        by_cases hk2 : k < 2
        · have hk2i : (k : Int) < 2 := by omega
          rcases col_cases q with ⟨c1, c2⟩ | ⟨c1, c0, c3, c2⟩ | ⟨c1, c0, c3, c2⟩
          · have HR := Lib.hid (HP0.out (HCl.out.stop hk2 HT.out c2) w5 B)
            clear c2 hb
            go_wp2
            first | exact HR.out | (go_ret2; exact HR.out)
          · have HR := Lib.hid (HP0.out (HCl.out.stop hk2 HT.out c2) w5 B)
            clear c2 hb
            go_wp2
            first | exact HR.out | (go_ret2; exact HR.out)
          · have HM := HCl.out.more hlt HT.out
            rw [c2, ← Lib.extract_to_end q 1] at HM
            have HMH := Lib.hid HM
            clear HM c2 hb
            go_wp2
            go_roundw
            case rel => exact ⟨k + 1, ns ++ [n], q.extract 1 q.size, by omega, rfl, by go_num, HMH.out, R, B⟩
            case measure => simp [intOf]; omega
        · have hk2i : ¬ (k : Int) < 2 := by omega
          have hkk : k = 2 := by omega
          subst hkk
          have HM := Lib.hid (HCl.out.last HT.out)
          clear hb
          go_wp2
          go_roundw
          case rel => exact ⟨3, ns ++ [n], q, by omega, rfl, by go_num, HM.out, R, B⟩
          case measure => simp [intOf]
    · have hk3 : k = 3 := by omega
      subst hk3
      obtain ⟨a, b, c, rfl, ht, _, _, _⟩ := HCl.out.done
      have HY := Lib.hid (HP1.out a b c _ wr ht hown hb)
      clear ht HCl hown
      go_wp2
      first | exact HY.out | (go_ret2; exact HY.out)
end Go.Proofs.YtpimaobejjpffaaGreatDoor
