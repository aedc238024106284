/- The walk of Right. -/
import Derived.Test.YtdidogcgoghdmaaDfaAt
namespace Go.Proofs.Ytdidogcgoghdmaa
open Go.RowKit
theorem mul_small {k : Int} {n : Nat} (h1 : 1 ≤ k) (h2 : k ≤ 512) (h3 : n ≤ 65536) : 0 ≤ k * (n : Int) ∧ k * (n : Int) ≤ 33554432 := by
  obtain ⟨m, rfl⟩ : ∃ m : Nat, k = (m : Int) := ⟨k.toNat, by omega⟩
  rw [← Int.natCast_mul]
  have : m * n ≤ 512 * 65536 := Nat.mul_le_mul (by omega) h3
  omega
theorem take_all {p : Int → Bool} {l : List Int} {k : Nat} {x : Int} (h : ∀ n ∈ l.take k, p n = true) (hc : l[k]? = some x) (hp : p x = true) : ∀ n ∈ l.take (k + 1), p n = true := by
  intro n hn
  rw [List.take_add_one, hc, List.mem_append] at hn
  rcases hn with hn | hn
  · exact h n hn
  · have hn : n = x := by simpa using hn
    rw [hn]; exact hp
set_option maxRecDepth 100000 in
set_option maxHeartbeats 4000000 in
theorem dright_calls (v : Value) (d : Au.Dv) (w : World) (h : Auto w v d) :
    Calls Try.prog 16 #[v] w fun e w' => e = .returned (.bool d.right) ∧ Below w.heap.size w w' := by
  obtain ⟨A, c, A', c', rfl, HN, HB⟩ := h.parts
  have hn1 := h.n1
  have hn2 := h.n2
  have HK := Lib.hid (fun W => rightK_calls d.k W)
  have HPost : Hid (∀ b w', d.right = b → Below w.heap.size w w' → (fun (e : Ending) (w' : World) => e = .returned (.bool d.right) ∧ Below w.heap.size w w') (.returned (.bool b)) w') := Lib.hid (fun b w' h1 h2 => ⟨by rw [h1], h2⟩)
  have HNo : Hid (¬ Au.Ok d → d.right = false) := Lib.hid Au.right_no
  have HYes : Hid (Au.Ok d → d.right = true) := Lib.hid Au.right_yes
  generalize (fun (e : Ending) (w' : World) => e = .returned (.bool d.right) ∧ Below w.heap.size w w') = post at *
  generalize d.right = r at *
  obtain ⟨k, hk⟩ : ∃ k, d.k = k := ⟨_, rfl⟩
  obtain ⟨s, hs⟩ : ∃ s, d.start = s := ⟨_, rfl⟩
  obtain ⟨m, hm⟩ : ∃ m, d.next.length = m := ⟨_, rfl⟩
  obtain ⟨n, hn⟩ : ∃ n, d.acc.length = n := ⟨_, rfl⟩
  rw [hk] at HK
  rw [hm] at hn1 HN
  rw [hn] at hn2 HB
  rw [hk, hs, hm, hn]
  have E1 := Lib.hid hk
  have E2 := Lib.hid hs
  have E3 := Lib.hid hm
  have E4 := Lib.hid hn
  clear hk hs hm hn h
  have hb0 := ((Below.refl w.heap.size w).alloc (Nat.le_refl _) (.cells #[.int .i64 k, .int .i64 s, .slice A m c, .slice A' n c'] 25)).alloc (by simp) (.cells #[.int .i64 (n : Int)] 3)
  unfold maxLen at hn1 hn2
  by_cases h1 : ¬ (1 ≤ k ∧ k ≤ 512)
  · rw [decide_eq_false h1] at HK
    have HZ : Hid (r = false) := Lib.hid (HNo.out (fun o => h1 ⟨by rw [← E1.out]; exact o.k1, by rw [← E1.out]; exact o.k2⟩))
    clear h1
    go_enter Try.func16, Try.ntmps16
    go_wp2_with (go_at_call 30; refine (HK.out _).mono ?_; rintro e w' ⟨rfl, rfl⟩)
    exact HPost.out _ _ HZ.out hb0
  have h1 := Classical.not_not.1 h1
  rw [decide_eq_true h1] at HK
  by_cases h2 : n < 1
  · have HZ : Hid (r = false) := Lib.hid (HNo.out (fun o => by have := o.n1; rw [E4.out] at this; omega))
    have e2 : decide ((n : Int) < 1) = true := decide_eq_true (by omega)
    clear h1
    go_enter Try.func16, Try.ntmps16
    go_wp2_with (go_at_call 30; refine (HK.out _).mono ?_; rintro e w' ⟨rfl, rfl⟩)
    exact HPost.out _ _ HZ.out hb0
  have e2 : decide ((n : Int) < 1) = false := decide_eq_false (by omega)
  by_cases h3 : 65536 < n
  · have HZ : Hid (r = false) := Lib.hid (HNo.out (fun o => by have := o.n2; rw [E4.out] at this; omega))
    have e3 : decide ((65536 : Int) < (n : Int)) = true := decide_eq_true (by omega)
    clear h1
    go_enter Try.func16, Try.ntmps16
    go_wp2_with (go_at_call 30; refine (HK.out _).mono ?_; rintro e w' ⟨rfl, rfl⟩)
    exact HPost.out _ _ HZ.out hb0
  have e3 : decide ((65536 : Int) < (n : Int)) = false := decide_eq_false (by omega)
  have hms := mul_small (n := n) h1.1 h1.2 (by omega)
  obtain ⟨z, hz⟩ : ∃ z, k * (n : Int) = z := ⟨_, rfl⟩
  have q1 : wrap64 (k * (n : Int)) = z := by rw [hz] at hms; rw [hz]; unfold wrap64; omega
  have EZ := Lib.hid hz
  clear hz
  by_cases h4 : ¬ ((m : Int) = z)
  · have HZ : Hid (r = false) := Lib.hid (HNo.out (fun o => h4 (by have := o.len; rw [E1.out, E3.out, E4.out, EZ.out] at this; exact this)))
    have e4 : ((m : Int) != z) = true := by rw [bne_iff_ne]; exact h4
    clear h1 hms
    go_enter Try.func16, Try.ntmps16
    go_wp2_with (go_at_call 30; refine (HK.out _).mono ?_; rintro e w' ⟨rfl, rfl⟩)
    exact HPost.out _ _ HZ.out hb0
  have h4 := Classical.not_not.1 h4
  have e4 : ((m : Int) != z) = false := by rw [bne_eq_false_iff_eq]; exact h4
  have HOK : Hid ((∀ s ∈ d.next, Au.inK n s = true) → Au.inK n s = true → Au.Ok d) := Lib.hid (fun a b => ⟨by rw [E1.out]; exact h1.1, by rw [E1.out]; exact h1.2, by rw [E4.out]; omega, by rw [E4.out]; omega, by rw [E1.out, E3.out, E4.out, EZ.out]; exact h4, by rw [E4.out]; exact a, by rw [E4.out, E2.out]; exact b⟩)
  have HNA : Hid (∀ s ∈ d.next, Au.inK n s = false → r = false) := Lib.hid (fun s hs k => HNo.out (fun o => by have := o.all s hs; rw [E4.out, k] at this; cases this))
  have HNS : Hid (Au.inK n s = false → r = false) := Lib.hid (fun k => HNo.out (fun o => by have := o.st; rw [E4.out, E2.out, k] at this; cases this))
  have HM : Hid (m < 4611686018427387904) := Lib.hid (by have h := hms.2; rw [EZ.out] at h; omega)
  have HIS : Hid (∀ x W, Below w.heap.size w W → W.cell? ⟨w.heap.size + 1, 0, none⟩ = some (.int .i64 (n : Int)) → Calls Try.prog 35 #[.int .i64 x, .pointer (some ⟨w.heap.size + 1, 0, none⟩)] W fun e w' => e = .returned (.bool (Au.inK n x)) ∧ w' = W) := Lib.hid (fun x W _ hc => isState_calls n x _ W hc)
  have HB0 := Lib.hid hb0
  clear h1 hms h2 h3 h4 hb0
  go_enter Try.func16, Try.ntmps16
  go_wp2_with (go_at_call 30; refine (HK.out _).mono ?_; rintro e w' ⟨rfl, rfl⟩)
  rw [q1]
  have HM1 := HM.out
  clear q1 e4
  go_loopw [36] (fun i wr => ∃ j : Nat, j ≤ m ∧ i = .int .i64 j ∧ Hid (∀ s ∈ d.next.take j, Au.inK n s = true) ∧ wr = (w.alloc (.cells #[.int .i64 k, .int .i64 s, .slice A m c, .slice A' n c'] 25)).alloc (.cells #[.int .i64 (n : Int)] 3)) (fun i _ => m - (intOf i).toNat)
  case atStart => exact ⟨0, Nat.zero_le _, rfl, Lib.hid (by simp), rfl⟩
  case round =>
    obtain ⟨j, hj, rfl, HA, rfl⟩ := hrel
    by_cases hlt : j < m
    · obtain ⟨x, hx⟩ : ∃ x, d.next[j]? = some x := ⟨_, List.getElem?_eq_getElem (by rw [E3.out]; exact hlt)⟩
      obtain ⟨g, off, rfl, hcell⟩ := (HN.out.later HB0.out (Nat.le_refl _)).at hx
      have HX := Lib.hid hx
      clear hx
      cases hq : Au.inK n x with
      | true =>
        have HA2 := Lib.hid (take_all HA.out HX.out hq)
        have HC := Lib.hid (fun W => HIS.out x W)
        rw [hq] at HC
        go_wp2_with (go_at_call 35; refine (HC.out _ HB0.out (by go_simp)).mono ?_; rintro e w' ⟨rfl, rfl⟩)
        go_roundw
        case rel => exact ⟨j + 1, by omega, by go_num, HA2, (by first | rfl | trivial)⟩
        case measure => simp [intOf]; omega
      | false =>
        have HZ := Lib.hid (HNA.out x (List.mem_of_getElem? HX.out) hq)
        have HC := Lib.hid (fun W => HIS.out x W)
        rw [hq] at HC
        go_wp2_with (go_at_call 35; refine (HC.out _ HB0.out (by go_simp)).mono ?_; rintro e w' ⟨rfl, rfl⟩)
        exact HPost.out _ _ HZ.out HB0.out
    · have HALL : Hid (∀ s ∈ d.next, Au.inK n s = true) := Lib.hid (by
        have := HA.out
        rw [List.take_of_length_le (by have := E3.out; omega)] at this
        exact this)
      have HC := Lib.hid (fun W => HIS.out s W)
      have HZ : Hid (r = Au.inK n s) := Lib.hid (by
        cases hq : Au.inK n s with
        | true => exact HYes.out (HOK.out HALL.out hq)
        | false => exact HNS.out hq)
      generalize Au.inK n s = b at *
      go_wp2_with (go_at_call 35; refine (HC.out _ HB0.out (by go_simp)).mono ?_; rintro e w' ⟨rfl, rfl⟩)
      exact HPost.out _ _ HZ.out HB0.out
end Go.Proofs.Ytdidogcgoghdmaa
