/- The walk of New: a copy of the texts, in order, each once; their places; the first text that is none. -/
import Derived.Test.YtaaclhgnbdcaaaaSymbolFresh
import Derived.Test.YtaaclhgnbdcaaaaShelf
namespace Go.Proofs.Ytaaclhgnbdcaaaa
open Go.RowKit Go.Maps
theorem strVs_strings (l : List (List UInt8)) : (l.map fun x => (⟨x.toArray⟩ : ByteArray)).map Value.string = strVs l := by unfold strVs strV; rw [List.map_map]; rfl
theorem strVs_enc (l : List (List UInt8)) : l.map encStr = strVs l := rfl
/-- A copy. -/
theorem clone_calls (v : Value) (l : List (List UInt8)) (w : World) (h : Texts w v l) (hn : l.length ≤ 1048576) :
    Calls Try.prog 23 #[v] w fun e w' => ∃ u, e = .returned u ∧ w'.ownsRow w.heap.size 9 1 u l.length (strVs l) ∧ Below w.heap.size w w' := by
  obtain ⟨A, c, rfl⟩ := h.slice
  cases A with
  | none =>
    have h0 : l.length = 0 := by
      obtain ⟨A, c2, hv, _, hh⟩ := h.row
      obtain ⟨rfl, _, _⟩ := Value.slice.inj hv
      rw [strVs_length] at hh
      refine Nat.eq_zero_of_not_pos fun hp => ?_
      obtain ⟨g, off, hA, _⟩ := hh hp
      cases hA
    have hl : l = [] := List.eq_nil_of_length_eq_zero h0
    subst hl
    refine (Try.slices_Clone_string_nil 0 c w).mono ?_
    rintro e w' ⟨rfl, rfl⟩
    exact ⟨_, rfl, World.ownsRow_nil _ _ _ _, Below.refl _ _⟩
  | some a =>
    by_cases h0 : l.length = 0
    · have hl : l = [] := List.eq_nil_of_length_eq_zero h0
      subst hl
      refine (Try.slices_Clone_string_zero a c w).mono ?_
      rintro e w' ⟨u, rfl, hown, _, hb⟩
      exact ⟨_, rfl, hown, hb⟩
    · obtain ⟨A2, c2, hv, _, hh⟩ := h.row
      obtain ⟨hA, _, _⟩ := Value.slice.inj hv
      obtain ⟨g, off, h1, _, h3⟩ := hh (by rw [strVs_length]; omega)
      rw [h1] at hA
      obtain rfl := Option.some.inj hA
      refine (Try.slices_Clone_string g off l.length c (l.map fun x => (⟨x.toArray⟩ : ByteArray)) w (by simp) (by omega) (fun j hj => ?_)).mono ?_
      · have hj' : j < l.length := by simpa using hj
        rw [h3 j _ (strVs_at (List.getElem?_eq_getElem hj'))]
        simp [strV, List.getD, List.getElem?_eq_getElem hj']
      · rintro e w' ⟨u, rfl, hown, _, hb⟩
        rw [List.take_of_length_le (by simp), strVs_strings] at hown
        exact ⟨_, rfl, hown, hb⟩
/-- In order. -/
theorem sort_calls (B : Nat) (v : Value) (l : List (List UInt8)) (w : World) (h : w.ownsRow B 9 1 v l.length (strVs l)) (hn : l.length ≤ 1048576) (hB : B ≤ w.heap.size) :
    Calls Try.prog 24 #[v] w fun e w' => e = .returned (.tuple #[]) ∧ w'.ownsRow B 9 1 v (Sy.sort l).length (strVs (Sy.sort l)) ∧ Below B w w' := by
  by_cases h0 : l.length = 0
  · have hl : l = [] := List.eq_nil_of_length_eq_zero h0
    subst hl
    obtain ⟨A, c, rfl, _⟩ := own_any h
    refine (Try.slices_Sort_string_none A c w).mono ?_
    rintro e w' ⟨rfl, rfl⟩
    exact ⟨rfl, by rw [show Sy.sort [] = [] from by simp [Sy.sort]]; exact h, Below.refl _ _⟩
  · rcases h.2 with ⟨_, k⟩ | ⟨g, cap, cur, rfl, hbase, hb, h1, h2, h3, h4⟩
    · omega
    · have ht : cur.toList.take l.length = l.map encStr := by rw [Nat.mul_one] at h4; exact h4
      refine (Try.slices_Sort_string g 0 cap l w (holds_of_block hb ht) (Array.getElem?_eq_some_iff.1 hb).1 (by omega)).mono ?_
      rintro e w' ⟨rfl, n, os, rfl⟩
      refine ⟨rfl, ?_, (Below.refl B w).grown (grownBy_sorted _) hB (fun k hk => by have hk := Option.some.inj hk; omega)⟩
      have := ownsRow_sorted (n := n) (os := os) (ts := Sy.sort l) (Sy.sort_length l) hbase hb h1 h2 h3
      rw [Sy.sort_length]
      exact this
theorem grow_none (w : World) : Sort.grow w #[] = w := by simp [Sort.grow]
theorem InRow.take {w : World} {A : Option Addr} {n c : Nat} {xs : List Value} (h : InRow w (.slice A n c) xs) {m : Nat} (hm : m ≤ n) : InRow w (.slice A m c) (xs.take m) := by
  obtain ⟨A', c', hv, hc, hh⟩ := h
  obtain ⟨rfl, rfl, rfl⟩ := Value.slice.inj hv
  have hl : (xs.take m).length = m := by rw [List.length_take]; omega
  refine ⟨_, _, by rw [hl], by omega, fun h0 => ?_⟩
  obtain ⟨g, off, h1, h2, h3⟩ := hh (by omega)
  refine ⟨g, off, h1, h2, fun k u hu => h3 k u ?_⟩
  rw [List.getElem?_take] at hu
  split at hu
  · exact hu
  · cases hu
/-- Each once. -/
theorem compact_calls (B : Nat) (v : Value) (l : List (List UInt8)) (w : World) (h : w.ownsRow B 9 1 v l.length (strVs l)) (hn : l.length ≤ 1048576) (hB : B ≤ w.heap.size) :
    Calls Try.prog 25 #[v] w fun e w' => ∃ u, e = .returned u ∧ Texts w' u (Lib.compact l) ∧ Below B w w' := by
  by_cases h0 : l.length = 0
  · have hl : l = [] := List.eq_nil_of_length_eq_zero h0
    subst hl
    obtain ⟨A, c, rfl, _⟩ := own_any h
    refine (Try.slices_Compact_string_empty A c w).mono ?_
    rintro e w' ⟨rfl, rfl⟩
    exact ⟨_, rfl, texts_own h, Below.refl _ _⟩
  · rcases h.2 with ⟨_, k⟩ | ⟨g, cap, cur, rfl, hbase, hb, h1, h2, h3, h4⟩
    · omega
    · have ht : cur.toList.take l.length = l.map encStr := by rw [Nat.mul_one] at h4; exact h4
      refine (Try.slices_Compact_string g 0 cap l w (holds_of_block hb ht) (by omega) h1).mono ?_
      rintro e w' ⟨rfl, q, rfl⟩
      have hcl := Lib.compact_length_le l
      have hown := ownsRow_sorted (n := q) (os := #[]) (ts := Lib.compact l ++ List.replicate (l.length - (Lib.compact l).length) []) (by rw [List.length_append, List.length_replicate]; omega) hbase hb h1 h2 h3
      have hgr := grownBy_sorted (w := w) (g := g) (n := q) (os := #[]) (Lib.compact l ++ List.replicate (l.length - (Lib.compact l).length) []).toArray
      rw [grow_none] at hown hgr
      refine ⟨_, rfl, ⟨?_⟩, (Below.refl B w).grown hgr hB (fun k hk => by have hk := Option.some.inj hk; omega)⟩
      have := (inRow_own hown).take hcl
      rw [strVs_enc] at this
      unfold strVs at this ⊢
      rw [← List.map_take, List.take_left] at this
      exact this
/-- A text more, with its place. -/
theorem run_makeMap_hint (n : Nat) (w : World) : (Instr.makeMap 46 (some (.int .i64 (n : Int)))).run Try.prog w = .ok (.map (some w.heap.size)) (w.alloc (.map #[] 0)) := by
  have hu : ∀ W, Sem.run Try.prog (underlying 3) W = .ok (TypeDesc.int .i64) W := run_underlying Try.underlying3
  simp [Instr.makeMap, asInt, asIntOf, Result.andThen]
theorem places_nil {w : World} {mb : Nat} (h : w.ownsMap Try.prog 9 (plainElem (H := Unit) Try.prog 3) mb 0 (.map [])) : PlacesAt w mb 0 [] :=
  ⟨.map [], h, fun s => by simp [has], fun i s h => by simp at h⟩
theorem places_more {w' : World} {mb n : Nat} {t : List (List UInt8)} {x : List UInt8} {D : DataW Unit} (hhas : ∀ s : List UInt8, has D (.string s) = decide (s ∈ t)) (hat : ∀ (i : Nat) (s : List UInt8), t[i]? = some s → D.atKey (.string s) (.lit (.int .i64 0)) = .lit (.int .i64 i)) (hm : IsMap D) (hx : x ∉ t)
    (h : w'.ownsMap Try.prog 9 (plainElem Try.prog 3) mb n (D.put (.string x) (.lit (.int .i64 (t.length : Int))))) : PlacesAt w' mb n (t ++ [x]) := by
  refine ⟨_, h, fun s => ?_, fun i s hi => ?_⟩
  · by_cases e : s = x
    · subst e
      rw [has_put_same hm (show WideAt.IsKeyLit (.string s) from trivial)]
      exact (decide_eq_true (by simp)).symm
    · rw [has_put_other (by intro k; injection k with k; exact e k), hhas]
      simp [e]
  · by_cases hl : i < t.length
    · rw [List.getElem?_append_left hl] at hi
      rw [atKey_put_other (by intro k; injection k with k; rw [k] at hi; exact hx (List.mem_of_getElem? hi)), hat i s hi]
    · have hlt := (List.getElem?_eq_some_iff.1 hi).1
      rw [List.length_append, List.length_singleton] at hlt
      have hi2 : i = t.length := by omega
      subst hi2
      have e : x = s := by simpa using hi
      subst e
      rw [atKey_put_same hm (show WideAt.IsKeyLit (.string x) from trivial)]
set_option maxRecDepth 100000 in
set_option maxHeartbeats 4000000 in
theorem new_calls14 (v : Value) (l : List (List UInt8)) (w : World) (h : Texts w v l) (hn : l.length ≤ 1048576) (hs : ∀ x ∈ l, x.length ≤ 1048576) :
    Calls Try.prog 9 #[v] w fun e w' => ∃ b t, e = .returned (.pointer (some ⟨b, 0, none⟩)) ∧ w.heap.size ≤ b ∧ AlphaAt w' b l t ∧ Below w.heap.size w w' := by
  have HCL := Lib.hid (clone_calls v l w h hn)
  have HPost : Hid (∀ b t w', w.heap.size ≤ b → AlphaAt w' b l t → Below w.heap.size w w' → ∃ b0 t0, Ending.returned (Value.pointer (some ⟨b, 0, none⟩)) = .returned (.pointer (some ⟨b0, 0, none⟩)) ∧ w.heap.size ≤ b0 ∧ AlphaAt w' b0 l t0 ∧ Below w.heap.size w w') := Lib.hid (fun b t w' h1 h2 h3 => ⟨b, t, rfl, h1, h2, h3⟩)
  generalize hpost : (fun (e : Ending) (w' : World) => ∃ b t, e = .returned (.pointer (some ⟨b, 0, none⟩)) ∧ w.heap.size ≤ b ∧ AlphaAt w' b l t ∧ Below w.heap.size w w') = post at *
  have HPost2 : Hid (∀ b t w', w.heap.size ≤ b → AlphaAt w' b l t → Below w.heap.size w w' → post (.returned (.pointer (some ⟨b, 0, none⟩))) w') := Lib.hid (fun b t w' h1 h2 h3 => by rw [← hpost]; exact ⟨b, t, rfl, h1, h2, h3⟩)
  have HSO := Lib.hid (Sy.sorted_compact l)
  have HSL := Lib.hid (Sy.sort_length l)
  have HCO := Lib.hid (Lib.compact_length_le (Sy.sort l))
  have HSS := Lib.hid hs
  clear hpost h HPost hs
  go_enter Try.func9, Try.ntmps9
  go_wp2_with fail
  refine HCL.out.mono ?_
  rintro e w1 ⟨u, rfl, hown1, hb1⟩
  have HS1 := Lib.hid (sort_calls _ u l w1 hown1 hn hb1.size)
  clear hown1 HCL
  go_wp2_with fail
  refine HS1.out.mono ?_
  rintro e w2 ⟨rfl, hown2, hb2⟩
  have HC2 := Lib.hid (compact_calls _ u _ w2 hown2 (by rw [HSL.out]; exact hn) (Nat.le_trans hb1.size hb2.size))
  have hb12 := hb1.trans hb2
  clear hown2 HS1 hb1 hb2
  generalize Sy.sort l = sl at *
  generalize Lib.compact sl = t at *
  go_wp2_with fail
  refine HC2.out.mono ?_
  rintro e w3 ⟨y, rfl, hT, hb3⟩
  have hb := hb12.trans hb3
  have htn : t.length ≤ 1048576 := by have := HSL.out; have := HCO.out; omega
  obtain ⟨A, c, rfl⟩ := hT.slice
  obtain ⟨n, hn'⟩ : ∃ n, t.length = n := ⟨_, rfl⟩
  rw [hn'] at hT htn ⊢
  have HN := Lib.hid hn'
  have HT := Lib.hid hT
  have hbs := hb.size
  clear hT hb12 hb3 HC2 hn'
  have hmm := run_makeMap_hint n
  have HP0 : Hid (PlacesAt (w3.alloc (.map #[] 0)) w3.heap.size 0 []) := Lib.hid (places_nil (World.ownsMap_made w3 _ _ _))
  have hb0 := hb.alloc hbs (.map #[] 0)
  have HB0 := Lib.hid hb
  have hb3 := (Below.refl w3.heap.size w3).alloc (Nat.le_refl _) (.map #[] 0)
  obtain ⟨mb, hmb⟩ : ∃ mb, w3.heap.size = mb := ⟨_, rfl⟩
  go_wp2_with fail
  rw [hmb] at hb3 HP0 hbs
  have HMB := Lib.hid hmb
  clear hmb hmm hb0 hb
  go_loopw [18] (fun i wr => ∃ k : Nat, k ≤ n ∧ i = .int .i64 k ∧ Hid (PlacesAt wr mb k (t.take k)) ∧ Hid (Below mb w3 wr)) (fun i _ => n - (intOf i).toNat)
  case atStart => exact ⟨0, Nat.zero_le _, rfl, HP0, Lib.hid hb3⟩
  case round =>
    obtain ⟨k, hk, rfl, HP, HB⟩ := hrel
    by_cases hlt : k < n
    · obtain ⟨x, hx⟩ : ∃ x, t[k]? = some x := ⟨_, List.getElem?_eq_getElem (by rw [HN.out]; exact hlt)⟩
      obtain ⟨q, hq, hqd, hqs⟩ := text_of x
      obtain ⟨g, off, rfl, hcell⟩ := (HT.out.later HB.out (Nat.le_of_eq HMB.out)).at hx hq
      have hxl : x.length ≤ 1048576 := HSS.out x ((HSO.out.mem x).1 (List.mem_of_getElem? hx))
      have HKEY := Lib.hid (str_key (s := q) (by unfold maxLen; omega))
      have HTK : Hid (t.take (k + 1) = t.take k ++ [q.data.toList]) := Lib.hid (by rw [List.take_add_one, hx, hqd]; rfl)
      have HNI : Hid (q.data.toList ∉ t.take k) := Lib.hid (by
        rw [hqd]
        intro hm
        obtain ⟨j, hj, e⟩ := List.getElem_of_mem hm
        rw [List.length_take] at hj
        rw [List.getElem_take] at e
        obtain ⟨hkl, h2⟩ := List.getElem?_eq_some_iff.1 hx
        have h3 := List.pairwise_iff_getElem.1 HSO.out.rise j k (by omega) hkl (by omega)
        rw [e, h2, Sy.less_self] at h3
        cases h3)
      have HTL : Hid ((t.take k).length = k) := Lib.hid (by rw [List.length_take]; have := HN.out; omega)
      obtain ⟨D, hown, hhas, hat⟩ := HP.out.map
      have HOWN := Lib.hid hown
      have HM := Lib.hid (hown.isMap)
      have HHAS := Lib.hid hhas
      have HAT := Lib.hid hat
      have hml := HP.out.lt
      clear hx hq hqd hqs hxl hown hhas hat
      go_wp2_with (at_mapUpdate; refine wpList_mapUpdate_own _ rfl _ _ _ 46 rfl 9 3 strLaw Try.underlying46 (plainElem (H := Unit) Try.prog 3) mb k D rfl HOWN.out (by unfold maxLen; omega) _ _ _ rfl rfl HKEY.out (.lit (.int .i64 (k : Int))) [] (plainElem_int Try.underlying3 (WalkArith.wf_i64 (by omega))) ?_; intro w6 hown6 hg6)
      have HP6 : Hid (PlacesAt w6 mb (k + 1) (t.take (k + 1))) := Lib.hid (by
        rw [HTK.out]
        exact places_more HHAS.out HAT.out HM.out HNI.out (by rw [HTL.out]; exact hown6))
      have HB6 := Lib.hid (HB.out.grown hg6 (by omega) (fun j hj => by have hj := Option.some.inj hj; omega))
      go_wp2_with fail
      go_roundw
      case rel => exact ⟨k + 1, by omega, by go_num, HP6, HB6⟩
      case measure => simp [intOf]; omega
    · have HPT : Hid (PlacesAt wr mb n t) := Lib.hid (by
        have h := HP.out
        rw [List.take_of_length_le (by have := HN.out; omega), show k = n by omega] at h
        exact h)
      have HFB := Lib.hid (firstBeside_calls mb n l t wr HPT.out HSO.out hn)
      have HBW := Lib.hid (HB0.out.trans (HB.out.mono hbs))
      have HTW := Lib.hid (HT.out.later HB.out (Nat.le_of_eq HMB.out))
      unfold NewText at HFB
      clear HP hb3
      go_wp2_with fail
      refine HFB.out.mono ?_
      rintro e w7 ⟨rfl, hb7⟩
      have hbs7 := HBW.out.size
      have HB7 := Lib.hid (HBW.out.trans (hb7.mono hbs7))
      have HP7 := Lib.hid (HPT.out.stays hb7)
      have HT7 := Lib.hid (HTW.out.stays hb7)
      clear hb7 HFB
      go_wp2_with fail
      have HA := Lib.hid ((Below.refl w7.heap.size w7).alloc (Nat.le_refl _) (.cells #[.slice A n c, .map (some mb), .string ⟨(Sy.fresh l).toArray⟩] 49))
      exact HPost2.out w7.heap.size t _ HB7.out.size ⟨HSO.out, by rw [HN.out]; exact htn, _, mb, Row.new w7 _ _, HT7.out.stays HA.out, by rw [HN.out]; exact HP7.out.stays HA.out⟩ (HB7.out.alloc HB7.out.size _)
end Go.Proofs.Ytaaclhgnbdcaaaa
