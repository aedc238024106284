/- An alphabet in memory, and the walks of what is asked of it. -/
import Derived.Test.YtaaclhgnbdcaaaaInRow
import Derived.Test.YtaaclhgnbdcaaaaOctets
import Derived.Test.YtaaclhgnbdcaaaaSymbolWays
import Derived.Maps.OwnSet
import Derived.StringKeys
namespace Go.Proofs.Ytaaclhgnbdcaaaa
open Go.RowKit Go.Maps
theorem strLaw : Keyed Try.prog 9 := string_keyed Try.underlying9
theorem str_key {s : ByteArray} (h : s.size ≤ maxLen) : keyOf Try.prog 9 (.string s) = some (.string s.data.toList) := WideMaps.keyOf_string_mk Try.underlying9 h
theorem zeroInt14 (w : World) : (zeroValue 3).run Try.prog w = .ok (.int .i64 0) w := Try.zeroValue3 w
/-- A map of texts, each with its place. -/
structure PlacesAt (w : World) (mb n : Nat) (t : List (List UInt8)) : Prop where
  map : ∃ D : DataW Unit, w.ownsMap Try.prog 9 (plainElem Try.prog 3) mb n D ∧ (∀ s : List UInt8, has D (.string s) = decide (s ∈ t)) ∧ ∀ (i : Nat) (s : List UInt8), t[i]? = some s → D.atKey (.string s) (.lit (.int .i64 0)) = .lit (.int .i64 i)
theorem PlacesAt.stays {w w' : World} {mb n : Nat} {t : List (List UInt8)} (h : PlacesAt w mb n t) (hb : Below w.heap.size w w') : PlacesAt w' mb n t := by
  obtain ⟨D, h1, h2, h3⟩ := h.map
  exact ⟨D, h1.kept (row := none) ⟨hb.os, hb.tape, hb.output, hb.size, fun i hi _ => hb.block i hi⟩ (by simp), h2, h3⟩
theorem PlacesAt.lt {w : World} {mb n : Nat} {t : List (List UInt8)} (h : PlacesAt w mb n t) : mb < w.heap.size := by
  obtain ⟨D, h1, _⟩ := h.map
  exact h1.lt
/-- The alphabet of texts in block b. -/
structure AlphaAt (w : World) (b : Nat) (l t : List (List UInt8)) : Prop where
  sorted : Sy.Sorted l t
  few : t.length ≤ 1048576
  parts : ∃ v mb, Row w b 49 #[v, .map (some mb), strV (Sy.fresh l)] ∧ Texts w v t ∧ PlacesAt w mb t.length t
theorem AlphaAt.stays {w w' : World} {b : Nat} {l t : List (List UInt8)} (h : AlphaAt w b l t) (hb : Below w.heap.size w w') : AlphaAt w' b l t := by
  obtain ⟨v, mb, h1, h2, h3⟩ := h.parts
  exact ⟨h.sorted, h.few, v, mb, h1.stays hb, h2.stays hb, h3.stays hb⟩
theorem AlphaAt.lt {w : World} {b : Nat} {l t : List (List UInt8)} (h : AlphaAt w b l t) : b < w.heap.size := by
  obtain ⟨v, mb, h1, _⟩ := h.parts
  exact h1.lt
set_option maxRecDepth 100000 in
set_option maxHeartbeats 1000000 in
theorem other_calls (b : Nat) (l t : List (List UInt8)) (w : World) (h : AlphaAt w b l t) :
    Calls Try.prog 27 #[.pointer (some ⟨b, 0, none⟩)] w fun e w' => e = .returned (.int .i64 (t.length : Int)) ∧ w' = w := by
  obtain ⟨v, mb, h1, h2, _⟩ := h.parts
  obtain ⟨A, c, rfl⟩ := h2.slice
  have c1 := h1.cell 0
  generalize t.length = n at *
  clear h1 h2 h
  go_enter Try.func27, Try.ntmps27
  go_wp2
  go_ret
  exact ⟨rfl, rfl⟩
set_option maxRecDepth 100000 in
set_option maxHeartbeats 1000000 in
theorem len_calls (b : Nat) (l t : List (List UInt8)) (w : World) (h : AlphaAt w b l t) :
    Calls Try.prog 10 #[.pointer (some ⟨b, 0, none⟩)] w fun e w' => e = .returned (.int .i64 ((t.length : Int) + 1)) ∧ w' = w := by
  have HO := Lib.hid (other_calls b l t w h)
  have hf := h.few
  generalize t.length = n at *
  clear h
  go_enter Try.func10, Try.ntmps10
  go_wp2_with (go_at_call 27; refine HO.out.mono ?_; rintro e w' ⟨rfl, rfl⟩)
  go_ret
  exact ⟨rfl, rfl⟩
set_option maxRecDepth 100000 in
set_option maxHeartbeats 1000000 in
theorem fresh_calls (b : Nat) (l t : List (List UInt8)) (w : World) (h : AlphaAt w b l t) :
    Calls Try.prog 16 #[.pointer (some ⟨b, 0, none⟩)] w fun e w' => e = .returned (strV (Sy.fresh l)) ∧ w' = w := by
  obtain ⟨v, mb, h1, _, _⟩ := h.parts
  have c1 := h1.cell 2
  generalize strV (Sy.fresh l) = z at *
  clear h1 h
  go_enter Try.func16, Try.ntmps16
  go_wp2
  go_ret
  exact ⟨rfl, rfl⟩
set_option maxRecDepth 100000 in
set_option maxHeartbeats 1000000 in
theorem of_calls (b : Nat) (l t : List (List UInt8)) (s : ByteArray) (w : World) (h : AlphaAt w b l t) (hs : s.size ≤ maxLen) :
    Calls Try.prog 12 #[.pointer (some ⟨b, 0, none⟩), .string s] w fun e w' => e = .returned (.int .i64 (Sy.of l s.data.toList : Int)) ∧ w' = w := by
  have HO := Lib.hid (other_calls b l t w h)
  obtain ⟨v, mb, h1, _, h3⟩ := h.parts
  obtain ⟨D, hown, hhas, hat⟩ := h3.map
  have c1 := h1.cell 1
  have HK := Lib.hid (str_key hs)
  have HOWN := Lib.hid hown
  by_cases hm : s.data.toList ∈ l
  · obtain ⟨i, hi⟩ := List.getElem?_of_mem ((h.sorted.mem _).2 hm)
    have HZ := Lib.hid (h.sorted.at hi)
    have HA := Lib.hid (hat i _ hi)
    have HH := Lib.hid (hhas s.data.toList)
    rw [decide_eq_true ((h.sorted.mem _).2 hm)] at HH
    generalize t.length = n at *
    generalize Sy.of l s.data.toList = z at *
    clear h1 h3 h hown hhas hat hm hi hs
    go_enter Try.func12, Try.ntmps12
    go_wp2_with (first
      | (at_lookup; refine wpList_lookup_own_ok_int _ rfl _ _ 46 rfl 9 3 .i64 strLaw Try.underlying46 Try.underlying3 (zeroInt14 _) mb n D rfl HOWN.out _ _ rfl HK.out ?_; intro c hc hwc; rw [HA.out] at hc; injection hc with hc; injection hc with _ hc; subst hc; rw [HH.out]))
    go_ret
    exact ⟨by rw [HZ.out]; rfl, rfl⟩
  · have HZ := Lib.hid (h.sorted.other hm)
    have HH := Lib.hid (hhas s.data.toList)
    rw [decide_eq_false (fun e => hm ((h.sorted.mem _).1 e))] at HH
    generalize t.length = n at *
    generalize Sy.of l s.data.toList = z at *
    clear h1 h3 h hown hhas hat hm hs
    go_enter Try.func12, Try.ntmps12
    go_wp2_with (first
      | (at_lookup; refine wpList_lookup_own_ok_int _ rfl _ _ 46 rfl 9 3 .i64 strLaw Try.underlying46 Try.underlying3 (zeroInt14 _) mb n D rfl HOWN.out _ _ rfl HK.out ?_; intro c hc hwc; clear hc hwc; rw [HH.out])
      | (go_at_call 27; refine HO.out.mono ?_; rintro e w' ⟨rfl, rfl⟩))
    go_ret
    exact ⟨by rw [HZ.out]; rfl, rfl⟩
set_option maxRecDepth 100000 in
set_option maxHeartbeats 1000000 in
theorem text_calls14 (b : Nat) (l t : List (List UInt8)) (i : Int) (w : World) (h : AlphaAt w b l t) (hi : (Lit.int .i64 i).wf = true) :
    Calls Try.prog 14 #[.pointer (some ⟨b, 0, none⟩), .int .i64 i] w fun e w' => e = .returned (strV (Sy.text l i)) ∧ w' = w := by
  have HO := Lib.hid (other_calls b l t w h)
  obtain ⟨v, mb, h1, h2, _⟩ := h.parts
  obtain ⟨A, c, rfl⟩ := h2.slice
  have c0 := h1.cell 0
  have c2 := h1.cell 2
  have hS := h.sorted
  by_cases ha : i < 0
  · have HZ := Lib.hid (hS.text_none (i := i) (.inl ha))
    generalize Sy.text l i = z at *
    clear h1 h2 h hS
    go_enter Try.func14, Try.ntmps14
    go_wp2
    go_ret
    exact ⟨by rw [HZ.out]; rfl, rfl⟩
  by_cases hb : (t.length : Int) < i
  · have HZ := Lib.hid (hS.text_none (i := i) (.inr hb))
    generalize Sy.text l i = z at *
    generalize t.length = n at *
    have hb2 : decide ((n : Int) < i) = true := decide_eq_true hb
    clear h1 h2 h hS
    go_enter Try.func14, Try.ntmps14
    go_wp2_with (go_at_call 27; refine HO.out.mono ?_; rintro e w' ⟨rfl, rfl⟩)
    go_ret
    exact ⟨by rw [HZ.out]; rfl, rfl⟩
  by_cases he : i = (t.length : Int)
  · have HZ := hS.text_other
    rw [← he] at HZ
    have HZ := Lib.hid HZ
    have he1 : (i == (t.length : Int)) = true := by rw [beq_iff_eq]; exact he
    generalize Sy.text l i = z at *
    generalize Sy.fresh l = y at *
    generalize t.length = n at *
    have HE := Lib.hid he
    clear h1 h2 h hS he
    go_enter Try.func14, Try.ntmps14
    go_wp2_with (go_at_call 27; refine HO.out.mono ?_; rintro e w' ⟨rfl, rfl⟩)
    go_ret
    exact ⟨by rw [HZ.out]; rfl, rfl⟩
  · have hlt : i.toNat < t.length := by omega
    obtain ⟨x, hx⟩ : ∃ x, t[i.toNat]? = some x := ⟨_, List.getElem?_eq_getElem hlt⟩
    have HZ := hS.text_at hx
    rw [show ((i.toNat : Nat) : Int) = i by omega] at HZ
    have HZ := Lib.hid HZ
    obtain ⟨q, hq, hqd, _⟩ := text_of x
    obtain ⟨g, off, rfl, hcell⟩ := h2.at hx hq
    have he1 : (i == (t.length : Int)) = false := by rw [beq_eq_false_iff_ne]; exact he
    have HQ := Lib.hid hqd
    generalize Sy.text l i = z at *
    have HE := Lib.hid he
    obtain ⟨k, rfl⟩ : ∃ k : Nat, i = (k : Int) := ⟨i.toNat, by omega⟩
    rw [Int.toNat_natCast] at hcell hlt
    generalize t.length = n at *
    have HX := Lib.hid (show z = q.data.toList by rw [HZ.out, HQ.out])
    clear h1 h2 h hS he hx hq hqd HZ HQ
    go_enter Try.func14, Try.ntmps14
    go_wp2_with (go_at_call 27; refine HO.out.mono ?_; rintro e w' ⟨rfl, rfl⟩)
    go_ret
    exact ⟨by rw [HX.out]; rfl, rfl⟩
end Go.Proofs.Ytaaclhgnbdcaaaa
