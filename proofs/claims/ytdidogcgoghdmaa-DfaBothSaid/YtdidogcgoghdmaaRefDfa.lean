/- The walks of the reference's Right, Tells, Symbols, Begins. -/
import Derived.Test.YtdidogcgoghdmaaDfaTells
namespace Go.Proofs.Ytdidogcgoghdmaa
open Go.RowKit
set_option maxRecDepth 100000 in
set_option maxHeartbeats 4000000 in
theorem refDRight_calls (v : Value) (d : Au.Dv) (w : World) (h : Auto w v d) :
    Calls Try.prog 17 #[v] w fun e w' => e = .returned (.bool d.right) ∧ Below w.heap.size w w' := by
  obtain ⟨A, c, A', c', rfl, HN, HB⟩ := h.parts
  have hn1 := h.n1
  have hn2 := h.n2
  have HPost : Hid (∀ b w', d.right = b → Below w.heap.size w w' → (fun (e : Ending) (w' : World) => e = .returned (.bool d.right) ∧ Below w.heap.size w w') (.returned (.bool b)) w') := Lib.hid (fun b w' h1 h2 => ⟨by rw [h1], h2⟩)
  have HNo : Hid (¬ Au.Ok d → d.right = false) := Lib.hid Au.right_no
  have HYes : Hid (Au.Ok d → d.right = true) := Lib.hid Au.right_yes
  generalize (fun (e : Ending) (w' : World) => e = .returned (.bool d.right) ∧ Below w.heap.size w w') = post at *
  generalize d.right = r at *
  obtain ⟨k, hk⟩ : ∃ k, d.k = k := ⟨_, rfl⟩
  obtain ⟨s, hs⟩ : ∃ s, d.start = s := ⟨_, rfl⟩
  obtain ⟨m, hm⟩ : ∃ m, d.next.length = m := ⟨_, rfl⟩
  obtain ⟨n, hn⟩ : ∃ n, d.acc.length = n := ⟨_, rfl⟩
  rw [hm] at hn1 HN
  rw [hn] at hn2 HB
  rw [hk, hs, hm, hn]
  have E1 := Lib.hid hk
  have E2 := Lib.hid hs
  have E3 := Lib.hid hm
  have E4 := Lib.hid hn
  clear hk hs hm hn h
  have hb0 := (Below.refl w.heap.size w).alloc (Nat.le_refl _) (.cells #[.int .i64 k, .int .i64 s, .slice A m c, .slice A' n c'] 25)
  unfold maxLen at hn1 hn2
  by_cases h1 : k < 1
  · have HZ : Hid (r = false) := Lib.hid (HNo.out (fun o => by have := o.k1; rw [E1.out] at this; omega))
    go_enter Try.func17, Try.ntmps17
    go_wp2
    exact HPost.out _ _ HZ.out hb0
  by_cases h1' : 512 < k
  · have HZ : Hid (r = false) := Lib.hid (HNo.out (fun o => by have := o.k2; rw [E1.out] at this; omega))
    have e1 : decide (512 < k) = true := decide_eq_true h1'
    go_enter Try.func17, Try.ntmps17
    go_wp2
    exact HPost.out _ _ HZ.out hb0
  have e0 : decide (k < 1) = false := decide_eq_false h1
  have e1 : decide (512 < k) = false := decide_eq_false h1'
  by_cases h2 : n < 1
  · have HZ : Hid (r = false) := Lib.hid (HNo.out (fun o => by have := o.n1; rw [E4.out] at this; omega))
    have e2 : decide ((n : Int) < 1) = true := decide_eq_true (by omega)
    clear h1 h1'
    go_enter Try.func17, Try.ntmps17
    go_wp2
    exact HPost.out _ _ HZ.out hb0
  have e2 : decide ((n : Int) < 1) = false := decide_eq_false (by omega)
  by_cases h3 : 65536 < n
  · have HZ : Hid (r = false) := Lib.hid (HNo.out (fun o => by have := o.n2; rw [E4.out] at this; omega))
    have e3 : decide ((65536 : Int) < (n : Int)) = true := decide_eq_true (by omega)
    clear h1 h1'
    go_enter Try.func17, Try.ntmps17
    go_wp2
    exact HPost.out _ _ HZ.out hb0
  have e3 : decide ((65536 : Int) < (n : Int)) = false := decide_eq_false (by omega)
  have hms := mul_small (k := k) (n := n) (by omega) (by omega) (by omega)
  obtain ⟨z, hz⟩ : ∃ z, k * (n : Int) = z := ⟨_, rfl⟩
  have q1 : wrap64 ((n : Int) * k) = z := by rw [Int.mul_comm]; rw [hz] at hms; rw [hz]; unfold wrap64; omega
  have EZ := Lib.hid hz
  clear hz
  by_cases h4 : ¬ ((m : Int) = z)
  · have HZ : Hid (r = false) := Lib.hid (HNo.out (fun o => h4 (by have := o.len; rw [E1.out, E3.out, E4.out, EZ.out] at this; exact this)))
    have e4 : ((m : Int) != z) = true := by rw [bne_iff_ne]; exact h4
    clear h1 h1' hms
    go_enter Try.func17, Try.ntmps17
    go_wp2
    exact HPost.out _ _ HZ.out hb0
  have h4 := Classical.not_not.1 h4
  have e4 : ((m : Int) != z) = false := by rw [bne_eq_false_iff_eq]; exact h4
  have HOK : Hid ((∀ s ∈ d.next, Au.inK n s = true) → Au.inK n s = true → Au.Ok d) := Lib.hid (fun a b => ⟨by rw [E1.out]; omega, by rw [E1.out]; omega, by rw [E4.out]; omega, by rw [E4.out]; omega, by rw [E1.out, E3.out, E4.out, EZ.out]; exact h4, by rw [E4.out]; exact a, by rw [E4.out, E2.out]; exact b⟩)
  have HNA : Hid (∀ s ∈ d.next, Au.inK n s = false → r = false) := Lib.hid (fun s hs k => HNo.out (fun o => by have := o.all s hs; rw [E4.out, k] at this; cases this))
  have HNS : Hid (Au.inK n s = false → r = false) := Lib.hid (fun k => HNo.out (fun o => by have := o.st; rw [E4.out, E2.out, k] at this; cases this))
  have HM : Hid (m < 4611686018427387904) := Lib.hid (by have h := hms.2; rw [EZ.out] at h; omega)
  have HB0 := Lib.hid hb0
  clear h1 h1' hms h2 h3 h4 hb0
  go_enter Try.func17, Try.ntmps17
  go_wp2
  rw [q1]
  have HM1 := HM.out
  clear q1 e4
  go_loopw [38] (fun i wr => ∃ j : Nat, j ≤ m ∧ i = .int .i64 j ∧ Hid (∀ s ∈ d.next.take j, Au.inK n s = true) ∧ wr = w.alloc (.cells #[.int .i64 k, .int .i64 s, .slice A m c, .slice A' n c'] 25)) (fun i _ => m - (intOf i).toNat)
  case atStart => exact ⟨0, Nat.zero_le _, rfl, Lib.hid (by simp), rfl⟩
  case round =>
    obtain ⟨j, hj, rfl, HA, rfl⟩ := hrel
    by_cases hlt : j < m
    · obtain ⟨x, hx⟩ : ∃ x, d.next[j]? = some x := ⟨_, List.getElem?_eq_getElem (by rw [E3.out]; exact hlt)⟩
      obtain ⟨g, off, rfl, hcell⟩ := (HN.out.later HB0.out (Nat.le_refl _)).at hx
      have HX := Lib.hid hx
      clear hx
      by_cases x0 : x < 0
      · have HZ := Lib.hid (HNA.out x (List.mem_of_getElem? HX.out) (Au.inK_no (.inl x0)))
        go_wp2
        exact HPost.out _ _ HZ.out HB0.out
      by_cases x1 : (n : Int) ≤ x
      · have HZ := Lib.hid (HNA.out x (List.mem_of_getElem? HX.out) (Au.inK_no (.inr x1)))
        have f1 : decide ((n : Int) ≤ x) = true := decide_eq_true x1
        go_wp2
        exact HPost.out _ _ HZ.out HB0.out
      have HA2 := Lib.hid (take_all HA.out HX.out (Au.inK_iff.2 ⟨by omega, by omega⟩))
      have f1 : decide ((n : Int) ≤ x) = false := decide_eq_false x1
      go_wp2
      go_roundw
      case rel => exact ⟨j + 1, by omega, by go_num, HA2, (by first | rfl | trivial)⟩
      case measure => simp [intOf]; omega
    · have HALL : Hid (∀ s ∈ d.next, Au.inK n s = true) := Lib.hid (by
        have := HA.out
        rw [List.take_of_length_le (by have := E3.out; omega)] at this
        exact this)
      by_cases s0 : 0 ≤ s
      · have HZ : Hid (r = decide (s < (n : Int))) := Lib.hid (by
          by_cases k : s < (n : Int)
          · rw [decide_eq_true k]; exact HYes.out (HOK.out HALL.out (Au.inK_iff.2 ⟨s0, k⟩))
          · rw [decide_eq_false k]; exact HNS.out (Au.inK_no (.inr (by omega))))
        go_wp2
        exact HPost.out _ _ HZ.out HB0.out
      · have HZ : Hid (r = false) := Lib.hid (HNS.out (Au.inK_no (.inl (by omega))))
        go_wp2
        exact HPost.out _ _ HZ.out HB0.out
set_option maxRecDepth 100000 in
set_option maxHeartbeats 2000000 in
theorem refSyms_calls (k : Int) (u : Value) (x : List Int) (w : World) (hx : Nums w u x) (hxl : x.length ≤ maxLen) :
    Calls Try.prog 20 #[.int .i64 k, u] w fun e w' => e = .returned (.bool (Au.syms k x)) ∧ w' = w := by
  obtain ⟨B, cb, rfl⟩ := hx.slice
  obtain ⟨nx, hnx⟩ : ∃ nx, x.length = nx := ⟨_, rfl⟩
  rw [hnx] at hx hxl ⊢
  have HX := Lib.hid hx
  have EX := Lib.hid hnx
  have HNo : Hid (∀ y ∈ x, Au.inK k y = false → Au.syms k x = false) := Lib.hid (fun y hy h => Au.syms_no hy h)
  have HYes : Hid (Au.syms k (x.take nx) = true → Au.syms k x = true) := Lib.hid (fun h => by rw [List.take_of_length_le (by omega)] at h; exact h)
  generalize Au.syms k x = r at *
  unfold maxLen at hxl
  clear hx hnx
  go_enter Try.func20, Try.ntmps20
  go_wp2
  go_loopw [9] (fun i wr => ∃ j : Nat, j ≤ nx ∧ i = .int .i64 j ∧ Hid (Au.syms k (x.take j) = true) ∧ wr = w) (fun i _ => nx - (intOf i).toNat)
  case atStart => exact ⟨0, Nat.zero_le _, rfl, Lib.hid rfl, rfl⟩
  case round =>
    obtain ⟨j, hj, rfl, HA, rfl⟩ := hrel
    by_cases hlt : j < nx
    · obtain ⟨y, hy⟩ : ∃ y, x[j]? = some y := ⟨_, List.getElem?_eq_getElem (by rw [EX.out]; exact hlt)⟩
      obtain ⟨g, off, rfl, hcell⟩ := HX.out.at hy
      have HY := Lib.hid hy
      clear hy
      by_cases x0 : y < 0
      · have HZ := Lib.hid (HNo.out y (List.mem_of_getElem? HY.out) (Au.inK_no (.inl x0)))
        go_wp2
        go_ret
        exact ⟨ret_bool HZ.out.symm, rfl⟩
      by_cases x1 : k ≤ y
      · have HZ := Lib.hid (HNo.out y (List.mem_of_getElem? HY.out) (Au.inK_no (.inr x1)))
        have f1 : decide (k ≤ y) = true := decide_eq_true x1
        go_wp2
        go_ret
        exact ⟨ret_bool HZ.out.symm, rfl⟩
      have HA2 := Lib.hid (syms_more HA.out HY.out (Au.inK_iff.2 ⟨by omega, by omega⟩))
      have f1 : decide (k ≤ y) = false := decide_eq_false x1
      go_wp2
      go_roundw
      case rel => exact ⟨j + 1, by omega, by go_num, HA2, (by first | rfl | trivial)⟩
      case measure => simp [intOf]; omega
    · have HZ : Hid (r = true) := Lib.hid (HYes.out (by rw [show nx = j by omega]; exact HA.out))
      go_wp2
      go_ret
      exact ⟨ret_bool HZ.out.symm, rfl⟩
end Go.Proofs.Ytdidogcgoghdmaa
