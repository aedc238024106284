/- The walk of Tells. -/
import Derived.Test.YtdidogcgoghdmaaDfaRight
namespace Go.Proofs.Ytdidogcgoghdmaa
open Go.RowKit
theorem wrapN (a : Nat) (h : a < 9223372036854775808) : wrap64 ((a : Nat) : Int) = ((a : Nat) : Int) := by unfold wrap64; omega
/-- Where a state's going by a symbol stands. -/
theorem place_nums {f : Au.Fa} (h : Au.Sound f) {s x : Nat} (hs : s < f.n) (hx : x < f.k) : ∃ p y : Nat, wrap64 ((s : Int) * (f.k : Int)) = (p : Int) ∧ wrap64 ((p : Int) + (x : Int)) = (y : Int) ∧ y < f.next.length ∧ (Au.ofN f.next)[y]? = some ((Au.step f s x : Nat) : Int) ∧ p = s * f.k ∧ y = s * f.k + x := by
  have h1 := h.k2
  have h2 := h.n2
  have h3 := Au.place (n := f.n) hs hx
  have h4 : f.n * f.k ≤ 65536 * 512 := Nat.mul_le_mul h2 h1
  refine ⟨s * f.k, s * f.k + x, ?_, ?_, by rw [h.len]; exact h3, Au.ofN_at (Au.step_at h.toRight hs hx), rfl, rfl⟩
  · rw [← Int.natCast_mul]; exact wrapN _ (by omega)
  · rw [← Int.natCast_add]; exact wrapN _ (by omega)
/-- Are numbers symbols? -/
theorem syms_more {k : Int} {x : List Int} {j : Nat} {y : Int} (h : Au.syms k (x.take j) = true) (hy : x[j]? = some y) (hq : Au.inK k y = true) : Au.syms k (x.take (j + 1)) = true := by
  rw [List.take_add_one, hy, Au.syms_app, h]
  show (true && Au.syms k [y]) = true
  rw [Au.syms_cons, hq]; rfl
set_option maxRecDepth 100000 in
set_option maxHeartbeats 4000000 in
theorem dtells_calls (v u : Value) (d : Au.Dv) (x : List Int) (w : World) (h : Auto w v d) (hx : Nums w u x) (hxl : x.length ≤ maxLen) :
    Calls Try.prog 14 #[v, u] w fun e w' => e = .returned (.bool (d.tells x)) ∧ Below w.heap.size w w' := by
  have HR := Lib.hid (fun V W h => dright_calls V d W h)
  have HPost : Hid (∀ b w', d.tells x = b → Below w.heap.size w w' → (fun (e : Ending) (w' : World) => e = .returned (.bool (d.tells x)) ∧ Below w.heap.size w w') (.returned (.bool b)) w') := Lib.hid (fun b w' h1 h2 => ⟨by rw [h1], h2⟩)
  generalize (fun (e : Ending) (w' : World) => e = .returned (.bool (d.tells x)) ∧ Below w.heap.size w w') = post at *
  obtain ⟨B, cb, rfl⟩ := hx.slice
  obtain ⟨A, c, A', c', rfl, HN, HB⟩ := h.parts
  have HV := Lib.hid h
  have HX := Lib.hid hx
  obtain ⟨nx, hnx⟩ : ∃ nx, x.length = nx := ⟨_, rfl⟩
  rw [hnx] at HX hxl ⊢
  have EX := Lib.hid hnx
  unfold maxLen at hxl
  rcases Au.ok_cases d with ⟨hr, hno⟩ | ⟨f, rfl, hf⟩
  · have HZ := Lib.hid (Au.tells_no hno x)
    rw [hr] at HR
    clear h hx hnx hno hr
    generalize d.next.length = m at *
    generalize d.acc.length = n at *
    generalize d.k = k at *
    generalize d.start = s at *
    have R0 := Row.new w 25 #[.int .i64 k, .int .i64 s, .slice A m c, .slice A' n c']
    have C0 := (Below.refl w.heap.size w).alloc (Nat.le_refl _) (.cells #[.int .i64 k, .int .i64 s, .slice A m c, .slice A' n c'] 25)
    go_enter Try.func14, Try.ntmps14
    go_wp2_with (go_at_call 16; refine (HR.out _ _ (HV.out.later C0 (Nat.le_refl _))).mono ?_; rintro e w1 ⟨rfl, hb⟩)
    exact HPost.out _ _ HZ.out (C0.trans (hb.mono C0.size))
  have HT := Lib.hid (Au.tells_of hf x)
  have HF := Lib.hid hf
  rw [Au.right_sound hf] at HR
  have hkk : (Au.Dv.of f).k = (f.k : Int) := rfl
  have hss : (Au.Dv.of f).start = (f.start : Int) := rfl
  have hnn : (Au.Dv.of f).next = Au.ofN f.next := rfl
  have haa : (Au.Dv.of f).acc = f.acc := rfl
  rw [hnn, Au.ofN_length] at HN
  rw [haa] at HB
  rw [hkk, hss, hnn, haa, Au.ofN_length] at HV ⊢
  generalize (Au.Dv.of f).tells x = r at *
  clear h hx hnx hkk hss hnn haa hf
  obtain ⟨m, hm⟩ : ∃ m, f.next.length = m := ⟨_, rfl⟩
  obtain ⟨n, hn⟩ : ∃ n, f.acc.length = n := ⟨_, rfl⟩
  obtain ⟨k, hk⟩ : ∃ k, f.k = k := ⟨_, rfl⟩
  obtain ⟨s, hs⟩ : ∃ s, f.start = s := ⟨_, rfl⟩
  have HST : Hid (s < n) := Lib.hid (by rw [← hs, ← hn]; exact HF.out.start)
  have HPL : Hid (∀ t y : Nat, t < n → y < k → ∃ p z : Nat, wrap64 ((t : Int) * (k : Int)) = (p : Int) ∧ wrap64 ((p : Int) + (y : Int)) = (z : Int) ∧ z < m ∧ (Au.ofN f.next)[z]? = some ((Au.step f t y : Nat) : Int)) := Lib.hid (fun t y ht hy => by
    obtain ⟨p, z, a, b, c, d, _⟩ := place_nums HF.out (s := t) (x := y) (by rw [← hn] at ht; exact ht) (by rw [hk]; exact hy)
    rw [hk] at a
    rw [hm] at c
    exact ⟨p, z, a, b, c, d⟩)
  have HLT : Hid (∀ t y : Nat, t < n → y < k → Au.step f t y < n) := Lib.hid (fun t y ht hy => by
    have := Au.step_lt HF.out.toRight (s := t) (x := y) (by rw [← hn] at ht; exact ht) (by rw [hk]; exact hy)
    rw [← hn]; exact this)
  have HAC : Hid (∀ t : Nat, t < n → f.acc[t]? = some (Au.accB f t)) := Lib.hid (fun t ht => Au.accB_at (by rw [← hn] at ht; exact ht))
  rw [hm, hn, hk, hs] at HV ⊢
  rw [hm] at HN
  rw [hn] at HB
  rw [hk, hs] at HT
  clear hm hn hk hs
  have R0 := Row.new w 25 #[.int .i64 (k : Int), .int .i64 (s : Int), .slice A m c, .slice A' n c']
  have C0 := (Below.refl w.heap.size w).alloc (Nat.le_refl _) (.cells #[.int .i64 (k : Int), .int .i64 (s : Int), .slice A m c, .slice A' n c'] 25)
  go_enter Try.func14, Try.ntmps14
  go_wp2_with (go_at_call 16; refine (HR.out _ _ (HV.out.later C0 (Nat.le_refl _))).mono ?_; rintro e w1 ⟨rfl, hb⟩; have R1 := R0.stays hb; have C1 := C0.trans (hb.mono C0.size); have c1 := R1.cell 1)
  have c0 := R1.cell 0
  have c2 := R1.cell 2
  have c3 := R1.cell 3
  have HC1 := Lib.hid C1
  clear R0 C0 hb R1 C1 c1
  go_loopw [5, 15] (fun t i wr => ∃ (q j : Nat), j ≤ nx ∧ i = .int .i64 j ∧ t = .int .i64 q ∧ q < n ∧ Hid (Au.syms k (x.take j) = true ∧ q = Au.run f s (Au.toN (x.take j))) ∧ wr = w1) (fun _ i _ => nx - (intOf i).toNat)
  case atStart => exact ⟨s, 0, Nat.zero_le _, rfl, rfl, HST.out, Lib.hid ⟨rfl, rfl⟩, rfl⟩
  case round =>
    obtain ⟨q, j, hj, rfl, rfl, hq, HA, rfl⟩ := hrel
    by_cases hlt : j < nx
    · obtain ⟨y, hy⟩ : ∃ y, x[j]? = some y := ⟨_, List.getElem?_eq_getElem (by rw [EX.out]; exact hlt)⟩
      obtain ⟨g, off, rfl, hcell⟩ := (HX.out.later HC1.out (Nat.le_refl _)).at hy
      have HY := Lib.hid hy
      clear hy
      have HC := Lib.hid (fun W => isSymbol_calls k y W)
      cases hq2 : Au.inK k y with
      | false =>
        rw [hq2] at HC
        have HZ : Hid (r = false) := Lib.hid (by rw [HT.out, Au.syms_no (List.mem_of_getElem? HY.out) hq2]; rfl)
        go_wp2_with (go_at_call 34; refine (HC.out _).mono ?_; rintro e w' ⟨rfl, rfl⟩)
        exact HPost.out _ _ HZ.out HC1.out
      | true =>
        rw [hq2] at HC
        obtain ⟨y1, y2⟩ := Au.inK_nat hq2
        obtain ⟨z, hz⟩ : ∃ z, y.toNat = z := ⟨_, rfl⟩
        rw [hz] at y1 y2
        have HS1 : Hid (Au.syms k (x.take (j + 1)) = true) := Lib.hid (by
          rw [List.take_add_one, HY.out, Au.syms_app, HA.out.1]
          show (true && Au.syms k [y]) = true
          rw [Au.syms_cons, hq2]; rfl)
        have HR1 : Hid (Au.step f q z = Au.run f s (Au.toN (x.take (j + 1)))) := Lib.hid (by
          rw [Au.toN_take, Au.run_more s (Au.toN_at HY.out), hz, ← Au.toN_take, ← HA.out.2])
        subst y2
        obtain ⟨p, i, q1, q2, q3, q4⟩ := HPL.out q z hq y1
        obtain ⟨g2, off2, rfl, hcell2⟩ := (HN.out.later HC1.out (Nat.le_refl _)).at q4
        have hst := HLT.out q z hq y1
        generalize Au.step f q z = nq at *
        clear q4 hq2 hz y1
        go_wp2_with (go_at_call 34; refine (HC.out _).mono ?_; rintro e w' ⟨rfl, rfl⟩)
        go_roundw
        case rel => exact ⟨nq, j + 1, by omega, by go_num, rfl, hst, Lib.hid ⟨HS1.out, HR1.out⟩, (by first | rfl | trivial)⟩
        case measure => simp [intOf]; omega
    · have HZ : Hid (r = Au.accB f q) := Lib.hid (by
        have h1 := HA.out.1
        have h2 := HA.out.2
        rw [List.take_of_length_le (by have := EX.out; omega)] at h1 h2
        rw [HT.out, h1, h2]; rfl)
      obtain ⟨g2, off2, rfl, hcell2⟩ := (HB.out.later HC1.out (Nat.le_refl _)).at (HAC.out q hq)
      generalize Au.accB f q = b at *
      go_wp2
      exact HPost.out _ _ HZ.out HC1.out
end Go.Proofs.Ytdidogcgoghdmaa
