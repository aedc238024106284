/- The walk of what tells whether a word's automaton can be. -/
import Derived.Test.YtdidogcgoghdmaaDfaRepeat
namespace Go.Proofs.Ytdidogcgoghdmaa
open Go.RowKit
set_option maxHeartbeats 1000000 in
theorem noSymbol_calls (k x : Int) (b : Nat) (w : World) (hc : w.cell? ⟨b, 0, none⟩ = some (.int .i64 k)) :
    Calls Try.prog 41 #[.int .i64 x, .pointer (some ⟨b, 0, none⟩)] w fun e w' => e = .returned (.bool (!Au.inK k x)) ∧ w' = w := by
  have HC := Lib.hid (fun W => isSymbol_calls k x W)
  go_enter Try.func41, Try.ntmps41
  go_wp2_with (go_at_call 34; refine (HC.out _).mono ?_; rintro e w' ⟨rfl, rfl⟩)
  go_ret
  exact ⟨rfl, rfl⟩
set_option maxRecDepth 100000 in
set_option maxHeartbeats 2000000 in
theorem indexN_calls (k : Int) (b : Nat) (u : Value) (x : List Int) (w : World) (hc : w.cell? ⟨b, 0, none⟩ = some (.int .i64 k)) (hx : Nums w u x) (hxl : x.length ≤ maxLen) :
    Calls Try.prog 47 #[u, .func (.func 41) #[] #[.pointer (some ⟨b, 0, none⟩)]] w fun e w' => (∃ r : Int, e = .returned (.int .i64 r) ∧ decide (0 ≤ r) = !Au.syms k x) ∧ w' = w := by
  have HS := Lib.hid (fun y => noSymbol_calls k y b w hc)
  obtain ⟨B, cb, rfl⟩ := hx.slice
  obtain ⟨nx, hnx⟩ : ∃ nx, x.length = nx := ⟨_, rfl⟩
  rw [hnx] at hx hxl ⊢
  have HX := Lib.hid hx
  have EX := Lib.hid hnx
  have HNo : Hid (∀ y ∈ x, Au.inK k y = false → Au.syms k x = false) := Lib.hid (fun y hy h => Au.syms_no hy h)
  have HYes : Hid (Au.syms k (x.take nx) = true → Au.syms k x = true) := Lib.hid (fun h => by rw [List.take_of_length_le (by omega)] at h; exact h)
  generalize Au.syms k x = r at *
  unfold maxLen at hxl
  clear hx hnx
  go_enter Try.func47, Try.ntmps47
  go_wp2
  go_loopw [5, 8] (fun _ i wr => ∃ j : Nat, j ≤ nx ∧ i = .int .i64 j ∧ Hid (Au.syms k (x.take j) = true) ∧ wr = w) (fun _ i _ => nx - (intOf i).toNat)
  case atStart => exact ⟨0, Nat.zero_le _, rfl, Lib.hid rfl, rfl⟩
  case round =>
    obtain ⟨j, hj, rfl, HA, rfl⟩ := hrel
    by_cases hlt : j < nx
    · obtain ⟨y, hy⟩ : ∃ y, x[j]? = some y := ⟨_, List.getElem?_eq_getElem (by rw [EX.out]; exact hlt)⟩
      obtain ⟨g, off, rfl, hcell⟩ := HX.out.at hy
      have HY := Lib.hid hy
      have HC := Lib.hid (HS.out y)
      clear hy
      cases hq : Au.inK k y with
      | true =>
        rw [hq] at HC
        have HA2 := Lib.hid (syms_more HA.out HY.out hq)
        go_wp2_with (go_at_call 41; refine HC.out.mono ?_; rintro e w' ⟨rfl, rfl⟩)
        go_roundw
        case rel => exact ⟨j + 1, by omega, by go_num, HA2, (by first | rfl | trivial)⟩
        case measure => simp [intOf]; omega
      | false =>
        rw [hq] at HC
        have HZ := Lib.hid (HNo.out y (List.mem_of_getElem? HY.out) hq)
        go_wp2_with (go_at_call 41; refine HC.out.mono ?_; rintro e w' ⟨rfl, rfl⟩)
        go_ret
        exact ⟨⟨j, rfl, by rw [HZ.out]; simp⟩, rfl⟩
    · have HZ : Hid (r = true) := Lib.hid (HYes.out (by rw [show nx = j by omega]; exact HA.out))
      go_wp2
      go_ret
      exact ⟨⟨-1, rfl, by rw [HZ.out]; rfl⟩, rfl⟩
theorem containsN_calls (k : Int) (b : Nat) (u : Value) (x : List Int) (w : World) (hc : w.cell? ⟨b, 0, none⟩ = some (.int .i64 k)) (hx : Nums w u x) (hxl : x.length ≤ maxLen) :
    Calls Try.prog 42 #[u, .func (.func 41) #[] #[.pointer (some ⟨b, 0, none⟩)]] w fun e w' => e = .returned (.bool (!Au.syms k x)) ∧ w' = w := by
  have HC := Lib.hid (indexN_calls k b u x w hc hx hxl)
  clear hx hc
  go_enter Try.func42, Try.ntmps42
  go_wp2_with (go_at_call 47; refine HC.out.mono ?_; rintro e w' ⟨⟨r, rfl, hr⟩, rfl⟩)
  go_ret
  exact ⟨rfl, rfl⟩
/-- What is told of a word. -/
def wordCode (k : Int) (x : List Int) : Int := if 1 ≤ k ∧ k ≤ 512 ∧ Au.syms k x = true then (if 65534 < x.length then 152 else 0) else 151
set_option maxRecDepth 100000 in
set_option maxHeartbeats 2000000 in
theorem rightWord_calls (k : Int) (u : Value) (x : List Int) (w : World) (hx : Nums w u x) (hxl : x.length ≤ maxLen) :
    Calls Try.prog 31 #[.int .i64 k, u] w fun e w' => e = .returned (.int .i64 (wordCode k x)) ∧ Below w.heap.size w w' := by
  have HK := Lib.hid (fun W => rightK_calls k W)
  have hb0 := (Below.refl w.heap.size w).alloc (Nat.le_refl _) (.cells #[.int .i64 k] 3)
  have R0 := Row.new w 3 #[.int .i64 k]
  have HC := Lib.hid (containsN_calls k w.heap.size u x _ (R0.cell 0) (hx.stays hb0) hxl)
  obtain ⟨B, cb, rfl⟩ := hx.slice
  obtain ⟨nx, hnx⟩ : ∃ nx, x.length = nx := ⟨_, rfl⟩
  have HW : Hid (wordCode k x = if 1 ≤ k ∧ k ≤ 512 ∧ Au.syms k x = true then (if 65534 < nx then 152 else 0) else 151) := Lib.hid (by rw [← hnx]; rfl)
  rw [hnx] at hxl HC ⊢
  generalize wordCode k x = r at *
  unfold maxLen at hxl
  have HB0 := Lib.hid hb0
  clear hx hnx hb0 R0
  by_cases h1 : ¬ (1 ≤ k ∧ k ≤ 512)
  · rw [decide_eq_false h1] at HK
    have HZ : Hid (r = 151) := Lib.hid (by rw [HW.out, if_neg (fun h => h1 ⟨h.1, h.2.1⟩)])
    clear h1
    go_enter Try.func31, Try.ntmps31
    go_wp2_with (go_at_call 30; refine (HK.out _).mono ?_; rintro e w' ⟨rfl, rfl⟩)
    go_ret
    exact ⟨by rw [HZ.out]; rfl, HB0.out⟩
  have h1 := Classical.not_not.1 h1
  rw [decide_eq_true h1] at HK
  cases hs : Au.syms k x with
  | false =>
    have HZ : Hid (r = 151) := Lib.hid (by rw [HW.out, if_neg (fun h => by have := h.2.2; rw [hs] at this; cases this)])
    rw [hs] at HC
    clear h1
    go_enter Try.func31, Try.ntmps31
    go_wp2_with (first
      | (go_at_call 30; refine (HK.out _).mono ?_; rintro e w' ⟨rfl, rfl⟩)
      | (go_at_call 42; refine HC.out.mono ?_; rintro e w' ⟨rfl, rfl⟩))
    go_ret
    exact ⟨by rw [HZ.out]; rfl, HB0.out⟩
  | true =>
    have HZ : Hid (r = if 65534 < nx then 152 else 0) := Lib.hid (by rw [HW.out, if_pos ⟨h1.1, h1.2, hs⟩])
    rw [hs] at HC
    clear h1
    by_cases hl : (65534 : Int) < (nx : Int)
    · have HZ2 : Hid (r = 152) := Lib.hid (by rw [HZ.out, if_pos (by omega)])
      have e1 : decide ((65534 : Int) < (nx : Int)) = true := decide_eq_true hl
      go_enter Try.func31, Try.ntmps31
      go_wp2_with (first
        | (go_at_call 30; refine (HK.out _).mono ?_; rintro e w' ⟨rfl, rfl⟩)
        | (go_at_call 42; refine HC.out.mono ?_; rintro e w' ⟨rfl, rfl⟩))
      go_ret
      exact ⟨by rw [HZ2.out]; rfl, HB0.out⟩
    · have HZ2 : Hid (r = 0) := Lib.hid (by rw [HZ.out, if_neg (by omega)])
      have e1 : decide ((65534 : Int) < (nx : Int)) = false := decide_eq_false hl
      go_enter Try.func31, Try.ntmps31
      go_wp2_with (first
        | (go_at_call 30; refine (HK.out _).mono ?_; rintro e w' ⟨rfl, rfl⟩)
        | (go_at_call 42; refine HC.out.mono ?_; rintro e w' ⟨rfl, rfl⟩))
      go_ret
      exact ⟨by rw [HZ2.out]; rfl, HB0.out⟩
end Go.Proofs.Ytdidogcgoghdmaa
