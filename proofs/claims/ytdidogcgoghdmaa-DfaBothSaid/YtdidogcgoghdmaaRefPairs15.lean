/- The walk of the reference's Pairs: those pairs of states that are come to by the same words. -/
import Derived.Test.YtdidogcgoghdmaaRefHas15
import Derived.Test.YtdidogcgoghdmaaDfaLawsPlain
import Derived.Test.YtdidogcgoghdmaaYieldsBuilt
namespace Go.Proofs.Ytdidogcgoghdmaa
open Go.RowKit Go.Maps
namespace Au
/-- Some of a pair's goings are known. -/
structure Half (a b : Fa) (l : List (Nat × Nat)) (i : Nat) (p : Nat × Nat) (x : Nat) : Prop where
  known : Known a b l i
  at_ : l[i]? = some p
  here : ∀ y, y < x → goPair a b p y ∈ l
theorem half_start {a b : Fa} {l : List (Nat × Nat)} {i : Nat} {p : Nat × Nat} (h : Known a b l i) (hp : l[i]? = some p) : Half a b l i p 0 := ⟨h, hp, fun y hy => by omega⟩
theorem Half.same {a b : Fa} {l : List (Nat × Nat)} {i : Nat} {p : Nat × Nat} {x : Nat} (h : Half a b l i p x) (hm : goPair a b p x ∈ l) : Half a b l i p (x + 1) :=
  ⟨h.known, h.at_, fun y hy => by
    by_cases e : y = x
    · rw [e]; exact hm
    · exact h.here y (by omega)⟩
theorem Half.more {a b : Fa} {l : List (Nat × Nat)} {i : Nat} {p : Nat × Nat} {x : Nat} (h : Half a b l i p x) (hx : x < a.k) (hn : goPair a b p x ∉ l) : Half a b (l ++ [goPair a b p x]) i p (x + 1) := by
  have hil := (List.getElem?_eq_some_iff.1 h.at_).1
  have hpre : l <+: l ++ [goPair a b p x] := List.prefix_append _ _
  refine ⟨⟨at_pre hpre h.known.first, ?_, ?_, ?_⟩, at_pre hpre h.at_, fun y hy => ?_⟩
  · rw [List.nodup_append]
    refine ⟨h.known.once, by simp, ?_⟩
    intro u hu v hv e
    rw [List.mem_singleton.1 hv] at e
    exact hn (e ▸ hu)
  · intro q hq
    rcases List.mem_append.1 hq with k | k
    · exact h.known.come q k
    · rw [List.mem_singleton.1 k]
      exact come_step (h.known.come p (List.mem_of_getElem? h.at_)) hx
  · intro j q y hj hq hy
    have : l[j]? = some q := by rw [List.getElem?_append_left (by omega)] at hq; exact hq
    exact List.mem_append_left _ (h.known.done j q y hj this hy)
  · by_cases e : y = x
    · rw [e]; exact List.mem_append_right _ (by simp)
    · exact List.mem_append_left _ (h.here y (by omega))
theorem Half.all {a b : Fa} {l : List (Nat × Nat)} {i : Nat} {p : Nat × Nat} (h : Half a b l i p a.k) : Known a b l (i + 1) :=
  ⟨h.known.first, h.known.once, h.known.come, fun j q x hj hq hx => by
    by_cases e : j = i
    · rw [e, h.at_] at hq
      rw [← Option.some.inj hq]
      exact h.here x hx
    · exact h.known.done j q x (by omega) hq hx⟩
end Au
theorem built_ref15 (a b : Nat) : Try.prog.built 58 [(0, .int .i64 (a : Int)), (1, .int .i64 (b : Int))] = some (pairA (a, b)) := by kernel_rfl
theorem place_wraps {f : Au.Fa} (h : Au.Sound f) {s x : Nat} (hs : s < f.n) (hx : x < f.k) : ∃ p y : Nat, IntKind.i64.wrap ((s : Int) * (f.k : Int)) = (p : Int) ∧ IntKind.i64.wrap ((p : Int) + (x : Int)) = (y : Int) ∧ y < f.next.length ∧ (Au.ofN f.next)[y]? = some ((Au.step f s x : Nat) : Int) := by
  have h1 := h.k2
  have h2 := h.n2
  have h3 := Au.place (n := f.n) hs hx
  have h4 : f.n * f.k ≤ 65536 * 512 := Nat.mul_le_mul h2 h1
  refine ⟨s * f.k, s * f.k + x, ?_, ?_, by rw [h.len]; exact h3, Au.ofN_at (Au.step_at h.toRight hs hx)⟩
  · rw [← Int.natCast_mul, IntKind.wrap_i64]; omega
  · rw [← Int.natCast_add, IntKind.wrap_i64]; omega
/-- A row of one thing that was laid. -/
theorem own_single {w : World} {g : Nat} {t : TypeId} {cs : Array Value} {n B : Nat} (h : Row w g t cs) (hs : cs.size = n) (hB : B ≤ g) : w.ownsRow B t n (.slice (some ⟨g, 0, none⟩) 1 1) 1 cs.toList :=
  ⟨by rw [Array.length_toList, hs, Nat.one_mul], .inr ⟨g, 1, cs, rfl, hB, h, Nat.le_refl _, by unfold maxLen; omega, by rw [hs, Nat.one_mul], by rw [Nat.one_mul, ← hs, ← Array.length_toList, List.take_length]⟩⟩
theorem own_first {w : World} {g : Nat} {t : TypeId} {cs : Array Value} {n : Nat} (hg : w.heap.size = g) (hs : cs.size = n) : (w.alloc (.cells cs t)).ownsRow g t n (.slice (some ⟨g, 0, none⟩) 1 1) 1 cs.toList := by
  subst hg
  exact own_single (Row.new w t cs) hs (Nat.le_refl _)
theorem flat_pair (p : Nat × Nat) : flat pairA [p] = (pairA p).toList := flat_one p
theorem flat_snoc (l : List (Nat × Nat)) (p : Nat × Nat) : flat pairA l ++ flat pairA [p] = flat pairA (l ++ [p]) := (flat_append l [p]).symm
theorem nums_cell {w : World} {g off n c : Nat} {l : List Int} (h : Nums w (.slice (some ⟨g, off, none⟩) n c) l) {k : Nat} {x : Int} (hk : l[k]? = some x) : w.cell? ⟨g, off + k, none⟩ = some (.int .i64 x) := by
  obtain ⟨g', off', e, hc⟩ := h.at hk
  obtain ⟨rfl, rfl, _⟩ := Addr.mk.inj (Option.some.inj e)
  exact hc
theorem pair_cell0 {w : World} {g : Nat} {t : TypeId} {a b : Nat} (h : Row w g t (pairA (a, b))) : w.cell? ⟨g, 0, none⟩ = some (.int .i64 (a : Int)) := h.cell 0
theorem pair_cell1 {w : World} {g : Nat} {t : TypeId} {a b : Nat} (h : Row w g t (pairA (a, b))) : w.cell? ⟨g, 1, none⟩ = some (.int .i64 (b : Int)) := h.cell 1
/-- What is answered: all pairs that are come to, each once. -/
def PairsOf (a b : Au.Fa) (w : World) (e : Ending) (w' : World) : Prop := ∃ v l, e = .returned v ∧ Au.Known a b l l.length ∧ l.length ≤ a.n * b.n ∧ Lies pairA w' v l ∧ Below w.heap.size w w'
set_option maxRecDepth 100000 in
set_option maxHeartbeats 16000000 in
theorem refPairs_calls (va vb : Value) (fa fb : Au.Fa) (w : World) (ha : Auto w va (Au.Dv.of fa)) (hb : Auto w vb (Au.Dv.of fb)) (hfa : Au.Sound fa) (hfb : Au.Sound fb) (hk : fa.k = fb.k) (hN : fa.n * fb.n ≤ 40000) :
    Calls Try.prog 40 #[va, vb] w (PairsOf fa fb w) := by
  obtain ⟨A, c, A', c', rfl, HNA, _⟩ := ha.parts
  obtain ⟨E, e, E', e', rfl, HNB, _⟩ := hb.parts
  have hla : 0 < (Au.Dv.of fa).next.length := by show 0 < (Au.ofN fa.next).length; rw [Au.ofN_length, hfa.len]; exact Nat.mul_pos (Nat.lt_of_le_of_lt (Nat.zero_le _) hfa.start) hfa.k1
  have hlb : 0 < (Au.Dv.of fb).next.length := by show 0 < (Au.ofN fb.next).length; rw [Au.ofN_length, hfb.len]; exact Nat.mul_pos (Nat.lt_of_le_of_lt (Nat.zero_le _) hfb.start) hfb.k1
  obtain ⟨_, _, ga, oa, rfl⟩ := nums_some HNA.out hla
  obtain ⟨_, _, gb, ob, rfl⟩ := nums_some HNB.out hlb
  obtain ⟨k, hkk⟩ : ∃ k, fa.k = k := ⟨_, rfl⟩
  have hkb : fb.k = k := hk.symm.trans hkk
  have hk2 : k ≤ 512 := by rw [← hkk]; exact hfa.k2
  have HSTEP : Hid (∀ p : Nat × Nat, Au.Come fa fb p → ∀ x, x < k → (∃ P z : Nat, IntKind.i64.wrap ((p.1 : Int) * (k : Int)) = (P : Int) ∧ IntKind.i64.wrap ((P : Int) + (x : Int)) = (z : Int) ∧ z < (Au.Dv.of fa).next.length ∧ (Au.ofN fa.next)[z]? = some ((Au.step fa p.1 x : Nat) : Int)) ∧ ∃ P z : Nat, IntKind.i64.wrap ((p.2 : Int) * (k : Int)) = (P : Int) ∧ IntKind.i64.wrap ((P : Int) + (x : Int)) = (z : Int) ∧ z < (Au.Dv.of fb).next.length ∧ (Au.ofN fb.next)[z]? = some ((Au.step fb p.2 x : Nat) : Int)) := Lib.hid (fun p hp x hx => by
    obtain ⟨h1, h2⟩ := Au.come_lt hfa.toRight hfb.toRight hk hp
    have q1 := place_wraps hfa h1 (x := x) (by rw [hkk]; exact hx)
    have q2 := place_wraps hfb h2 (x := x) (by rw [hkb]; exact hx)
    rw [hkk] at q1
    rw [hkb] at q2
    exact ⟨by rw [show (Au.Dv.of fa).next.length = fa.next.length from Au.ofN_length _]; exact q1, by rw [show (Au.Dv.of fb).next.length = fb.next.length from Au.ofN_length _]; exact q2⟩)
  have HFEW : Hid (∀ l i, Au.Known fa fb l i → l.length ≤ 40000 ∧ l.length ≤ fa.n * fb.n) := Lib.hid (fun l i h => by
    have := h.few hfa.toRight hfb.toRight hk
    exact ⟨by omega, this⟩)
  have HPost : Hid (∀ v l w', Au.Known fa fb l l.length → Lies pairA w' v l → Below w.heap.size w w' → PairsOf fa fb w (.returned v) w') := Lib.hid (fun v l w' h1 h2 h3 => ⟨v, l, rfl, h1, h1.few hfa.toRight hfb.toRight hk, h2, h3⟩)
  generalize PairsOf fa fb w = post at *
  have q1 : (Au.Dv.of fa).k = (k : Int) := by show (fa.k : Int) = k; rw [hkk]
  have q2 : (Au.Dv.of fb).k = (k : Int) := by show (fb.k : Int) = k; rw [hkb]
  have q3 : (Au.Dv.of fa).start = (fa.start : Int) := rfl
  have q4 : (Au.Dv.of fb).start = (fb.start : Int) := rfl
  have q5 : (Au.Dv.of fa).next = Au.ofN fa.next := rfl
  have q6 : (Au.Dv.of fb).next = Au.ofN fb.next := rfl
  have HNA := Lib.hid HNA.out
  have HNB := Lib.hid HNB.out
  rw [q1, q2, q3, q4]
  generalize (Au.Dv.of fa).acc.length = na at *
  generalize (Au.Dv.of fb).acc.length = nb at *
  generalize (Au.Dv.of fa).next.length = ma at *
  generalize (Au.Dv.of fb).next.length = mb at *
  have HKK := Lib.hid hkk
  have HKN := Lib.hid (Au.known_start fa fb)
  clear ha hb hfa hfb hk hkk hkb hN q1 q2 q3 q4 q5 q6 hla hlb
  generalize fa.start = sa at *
  generalize fb.start = sb at *
  have R0 := (Row.new w 25 #[.int .i64 (k : Int), .int .i64 (sa : Int), .slice (some ⟨ga, oa, none⟩) ma c, .slice A' na c']).alloc (.cells #[.int .i64 (k : Int), .int .i64 (sb : Int), .slice (some ⟨gb, ob, none⟩) mb e, .slice E' nb e'] 25)
  have S0 : Row ((w.alloc (.cells #[.int .i64 (k : Int), .int .i64 (sa : Int), .slice (some ⟨ga, oa, none⟩) ma c, .slice A' na c'] 25)).alloc (.cells #[.int .i64 (k : Int), .int .i64 (sb : Int), .slice (some ⟨gb, ob, none⟩) mb e, .slice E' nb e'] 25)) (w.heap.size + 1) 25 #[.int .i64 (k : Int), .int .i64 (sb : Int), .slice (some ⟨gb, ob, none⟩) mb e, .slice E' nb e'] := row_next (by simp)
  have C0 := ((Below.refl w.heap.size w).alloc (Nat.le_refl _) (.cells #[.int .i64 (k : Int), .int .i64 (sa : Int), .slice (some ⟨ga, oa, none⟩) ma c, .slice A' na c'] 25)).alloc (by simp) (.cells #[.int .i64 (k : Int), .int .i64 (sb : Int), .slice (some ⟨gb, ob, none⟩) mb e, .slice E' nb e'] 25)
  have a1 := R0.cell 1
  have b1 := S0.cell 1
  have HZ0 : Hid (((w.alloc (.cells #[.int .i64 (k : Int), .int .i64 (sa : Int), .slice (some ⟨ga, oa, none⟩) ma c, .slice A' na c'] 25)).alloc (.cells #[.int .i64 (k : Int), .int .i64 (sb : Int), .slice (some ⟨gb, ob, none⟩) mb e, .slice E' nb e'] 25)).heap.size = w.heap.size + 2) := Lib.hid (by simp)
  go_enter Try.func40, Try.ntmps40
  go_wp2_with (first
    | (refine at_slot 15 rfl ?_; refine build_slice_one rfl _ rfl (pairA (sa, sb)) rfl Try.underlying52 infoRefF rfl (by decide) (by decide) ?_))
  clear a1 b1
  generalize (w.alloc (.cells #[.int .i64 (k : Int), .int .i64 (sa : Int), .slice (some ⟨ga, oa, none⟩) ma c, .slice A' na c'] 25)).alloc (.cells #[.int .i64 (k : Int), .int .i64 (sb : Int), .slice (some ⟨gb, ob, none⟩) mb e, .slice E' nb e'] 25) = w0 at *
  have HRA := Lib.hid (fun W (h : Below w0.heap.size w0 W) => R0.stays h)
  have HRB := Lib.hid (fun W (h : Below w0.heap.size w0 W) => S0.stays h)
  have HXA := Lib.hid (fun W (h : Below w0.heap.size w0 W) => HNA.out.later (C0.trans (h.mono C0.size)) (Nat.le_refl _))
  have HXB := Lib.hid (fun W (h : Below w0.heap.size w0 W) => HNB.out.later (C0.trans (h.mono C0.size)) (Nat.le_refl _))
  have HC0 := Lib.hid C0
  clear R0 S0 C0
  go_loopw [6, 5] (fun i v wr => ∃ (j n : Nat) (l : List (Nat × Nat)), j ≤ n ∧ i = .int .i64 (j : Int) ∧ Hid (l.length = n) ∧ Hid (Au.Known fa fb l j) ∧ Hid (wr.ownsRow w0.heap.size 58 2 v n (flat pairA l)) ∧ Hid (Below w0.heap.size w0 wr)) (fun i _ _ => 40001 - (intOf i).toNat)
  case atStart => exact ⟨0, 1, [(sa, sb)], by omega, rfl, Lib.hid rfl, HKN, Lib.hid (by rw [HZ0.out, flat_pair]; exact own_first HZ0.out rfl), Lib.hid ((Below.refl _ _).alloc (Nat.le_refl _) _)⟩
  case round =>
    obtain ⟨j, n, l, hj, rfl, HLN, HKN2, HO, HB⟩ := hrel
    obtain ⟨A5, c5, rfl, hc5, hsome⟩ := own_anyN HO.out
    by_cases hlt : j < n
    · obtain ⟨g5, rfl⟩ := hsome (by omega)
      obtain ⟨⟨p1, p2⟩, hp⟩ : ∃ p, l[j]? = some p := ⟨_, List.getElem?_eq_getElem (by rw [HLN.out]; exact hlt)⟩
      have hlies : Lies pairA wr (.slice (some ⟨g5, 0, none⟩) l.length c5) l := lies_own (B := w0.heap.size) (t := 58) (by rw [HLN.out]; exact HO.out)
      have HCE : Hid (∀ jj u, (pairA (p1, p2))[jj]? = some u → wr.cell? ⟨g5, j * 2 + jj, none⟩ = some u) := Lib.hid (fun jj u h => by have := hlies.one (fun x _ => pairA_size x) hp jj u h; rw [Nat.zero_add] at this; exact this)
      have HH0 := Lib.hid (Au.half_start HKN2.out hp)
      have HN4 : Hid (j < 40001) := Lib.hid (by have := (HFEW.out _ _ HKN2.out).1; rw [HLN.out] at this; omega)
      obtain ⟨Z, U, D, L⟩ := lay_row 58 #[.int .i64 0, .int .i64 0] (pairA (p1, p2)) (Below.refl wr.heap.size wr) (Nat.le_refl _)
      have HO1 := Lib.hid (own_below HO.out D)
      have hne : (Value.slice (some ⟨g5, 0, none⟩) n c5).ownBlock ≠ some wr.heap.size := fun h => by
        have h1 := (HO.out.lt g5 rfl).2
        have h2 : g5 = wr.heap.size := Option.some.inj h
        omega
      have HNE := Lib.hid hne
      have HU := Lib.hid U
      have HB1 := Lib.hid (HB.out.trans (D.mono HB.out.size))
      have e1 : decide ((j : Int) < (n : Int)) = true := decide_eq_true (by omega)
      have a0 := (HRA.out _ HB1.out).cell 0
      clear hlies hp L D U hne hsome HO HB
      go_wp2_with (first
        | (refine at_slot 25 rfl ?_; refine load_span rfl 58 _ rfl g5 (j * 2) rfl (pairA (p1, p2)) HCE.out Try.underlying58 rfl infoRef ?_)
        | (refine at_store 58 (.tmp 7) (.tmp 25) rfl ?_; refine wpList_store_row rfl 58 _ _ rfl wr.heap.size (pairA (p1, p2)) rfl rfl 58 _ Z infoRef rfl (pairA_one _) ?_))
      clear a0 Z HCE
      generalize (wr.alloc (.cells #[.int .i64 0, .int .i64 0] 58)).setRow wr.heap.size (pairA (p1, p2)) = w7 at *
      generalize wr.heap.size = b7 at *
      go_loopw [8, 5] (fun i v wi => ∃ (x m : Nat) (l2 : List (Nat × Nat)), x ≤ k ∧ i = .int .i64 (x : Int) ∧ Hid (l2.length = m) ∧ Hid (Au.Half fa fb l2 j (p1, p2) x) ∧ Hid (wi.ownsRow w0.heap.size 58 2 v m (flat pairA l2)) ∧ Hid (v.ownBlock ≠ some b7) ∧ Hid (Row wi b7 58 (pairA (p1, p2))) ∧ Hid (Below w0.heap.size w0 wi)) (fun i _ _ => k - (intOf i).toNat)
      case atStart => exact ⟨0, n, l, Nat.zero_le _, rfl, HLN, HH0, HO1, HNE, HU, HB1⟩
      case round =>
        clear HO1 HNE HU HB1 HH0
        obtain ⟨x, m, l2, hx, rfl, HLM, HH, HO2, HNE, HP7, HB2⟩ := hrel
        have a0 := (HRA.out _ HB2.out).cell 0
        by_cases hx2 : x < k
        · obtain ⟨⟨P1, z1, q1, q2, hz1, s1⟩, P2, z2, q3, q4, hz2, s2⟩ := HSTEP.out (p1, p2) (HH.out.known.come _ (List.mem_of_getElem? HH.out.at_)) x hx2
          obtain ⟨t1, ht1⟩ : ∃ t, Au.step fa p1 x = t := ⟨_, rfl⟩
          obtain ⟨t2, ht2⟩ : ∃ t, Au.step fb p2 x = t := ⟨_, rfl⟩
          have HG : Hid (Au.goPair fa fb (p1, p2) x = (t1, t2)) := Lib.hid (by unfold Au.goPair; rw [ht1, ht2])
          have s1 : (Au.Dv.of fa).next[z1]? = some ((t1 : Nat) : Int) := by rw [← ht1]; exact s1
          have s2 : (Au.Dv.of fb).next[z2]? = some ((t2 : Nat) : Int) := by rw [← ht2]; exact s2
          have KA := Lib.hid (fun W (h : Below w0.heap.size w0 W) => nums_cell (HXA.out W h) s1)
          have KB := Lib.hid (fun W (h : Below w0.heap.size w0 W) => nums_cell (HXB.out W h) s2)
          clear ht1 ht2 s1 s2
          have q1 : IntKind.i64.wrap ((p1 : Int) * (k : Int)) = (P1 : Int) := q1
          have q3 : IntKind.i64.wrap ((p2 : Int) * (k : Int)) = (P2 : Int) := q3
          obtain ⟨A6, c6, rfl, _, _⟩ := own_anyN HO2.out
          have hlen := (HFEW.out _ _ HH.out.known).1
          rw [HLM.out] at hlen
          have HLE := Lib.hid hlen
          clear hlen
          go_wp2_with fail
          clear a0
          have B0 : Below w0.heap.size w0 wr.drew := HB2.out.drew
          have HO3 := Lib.hid (own_below HO2.out (Below.refl wr.heap.size wr).drew)
          have HP3 : Row wr.drew b7 58 (pairA (p1, p2)) := HP7.out.drew
          refine wp_region_held_drew (S := fun W => Below wr.drew.heap.size wr.drew W) (by kernel_rfl) (Below.refl _ _) (fun hS => ?_)
          clear HO2 HB2 HP7
          generalize wr.drew = y0 at *
          have HB0 := Lib.hid B0
          have HRA2 := Lib.hid (fun W (h : Below y0.heap.size y0 W) => HRA.out W (HB0.out.trans (h.mono HB0.out.size)))
          have HRB2 := Lib.hid (fun W (h : Below y0.heap.size y0 W) => HRB.out W (HB0.out.trans (h.mono HB0.out.size)))
          have KA2 := Lib.hid (fun W (h : Below y0.heap.size y0 W) => KA.out W (HB0.out.trans (h.mono HB0.out.size)))
          have KB2 := Lib.hid (fun W (h : Below y0.heap.size y0 W) => KB.out W (HB0.out.trans (h.mono HB0.out.size)))
          have HP4 := Lib.hid (fun W (h : Below y0.heap.size y0 W) => HP3.stays h)
          clear B0
          refine wpAnyH_take (i := 0) (v := ?_) rfl (by kernel_rfl) (by kernel_rfl) (by kernel_rfl) (fun _ _ _ h => h) (Or.inl ⟨by rfl, ?_⟩) (by assumption) ?_
          rotate_left
          · intro _ _; go_simp; with_reducible rfl
          simp only [Act.put, List.setIfInBounds_toArray, List.set_cons_zero, List.set_cons_succ, List.getElem_toArray, List.getElem_cons_zero]
          refine wpAnyH_take (i := 1) (v := .slice (some ⟨ga, oa, none⟩) ma c) rfl (by kernel_rfl) (by kernel_rfl) (by kernel_rfl) (fun _ _ _ h => h) (Or.inl ⟨by rfl, fun wq hC => by have hcell := (HRA2.out wq hC).cell 2; go_simp; try with_reducible rfl⟩) (by assumption) ?_
          simp only [Act.put, List.setIfInBounds_toArray, List.set_cons_zero, List.set_cons_succ, List.getElem_toArray, List.getElem_cons_zero, List.getElem_cons_succ]
          refine wpAnyH_take (i := 2) (v := ?_) rfl (by kernel_rfl) (by kernel_rfl) (by kernel_rfl) (fun _ _ _ h => h) (Or.inl ⟨by rfl, ?_⟩) (by assumption) ?_
          rotate_left
          · intro _ _; go_simp; with_reducible rfl
          simp only [Act.put, List.setIfInBounds_toArray, List.set_cons_zero, List.set_cons_succ, List.getElem_toArray, List.getElem_cons_zero, List.getElem_cons_succ]
          refine wpAnyH_take (i := 3) (v := .int .i64 (p1 : Int)) rfl (by kernel_rfl) (by kernel_rfl) (by kernel_rfl) (fun _ _ _ h => h) (Or.inl ⟨by rfl, fun wq hC => by have hcell := pair_cell0 (HP4.out wq hC); go_simp; try with_reducible rfl⟩) (by assumption) ?_
          simp only [Act.put, List.setIfInBounds_toArray, List.set_cons_zero, List.set_cons_succ, List.getElem_toArray, List.getElem_cons_zero, List.getElem_cons_succ]
          refine wpAnyH_take (i := 4) (v := ?_) rfl (by kernel_rfl) (by kernel_rfl) (by kernel_rfl) (fun _ _ _ h => h) (Or.inl ⟨by rfl, ?_⟩) (by assumption) ?_
          rotate_left
          · intro _ _; go_simp; with_reducible rfl
          simp only [Act.put, List.setIfInBounds_toArray, List.set_cons_zero, List.set_cons_succ, List.getElem_toArray, List.getElem_cons_zero, List.getElem_cons_succ]
          refine wpAnyH_take (i := 5) (v := .int .i64 (k : Int)) rfl (by kernel_rfl) (by kernel_rfl) (by kernel_rfl) (fun _ _ _ h => h) (Or.inl ⟨by rfl, fun wq hC => by have hcell := (HRA2.out wq hC).cell 0; go_simp; try with_reducible rfl⟩) (by assumption) ?_
          simp only [Act.put, List.setIfInBounds_toArray, List.set_cons_zero, List.set_cons_succ, List.getElem_toArray, List.getElem_cons_zero, List.getElem_cons_succ]
          refine wpAnyH_take (i := 6) (v := ?_) rfl (by kernel_rfl) (by kernel_rfl) (by kernel_rfl) (fun _ _ _ h => h) (Or.inl ⟨by rfl, ?_⟩) (by assumption) ?_
          rotate_left
          · intro _ _; go_simp; with_reducible rfl
          simp only [Act.put, List.setIfInBounds_toArray, List.set_cons_zero, List.set_cons_succ, List.getElem_toArray, List.getElem_cons_zero, List.getElem_cons_succ]
          refine wpAnyH_take (i := 7) (v := ?_) rfl (by kernel_rfl) (by kernel_rfl) (by kernel_rfl) (fun _ _ _ h => h) (Or.inl ⟨by rfl, ?_⟩) (by assumption) ?_
          rotate_left
          · intro _ _; go_simp; with_reducible rfl
          simp only [Act.put, List.setIfInBounds_toArray, List.set_cons_zero, List.set_cons_succ, List.getElem_toArray, List.getElem_cons_zero, List.getElem_cons_succ]
          refine wpAnyH_take (i := 8) (v := ?_) rfl (by kernel_rfl) (by kernel_rfl) (by kernel_rfl) (fun _ _ _ h => h) (Or.inl ⟨by rfl, ?_⟩) (by assumption) ?_
          rotate_left
          · intro _ _; go_simp; with_reducible rfl
          simp only [Act.put, List.setIfInBounds_toArray, List.set_cons_zero, List.set_cons_succ, List.getElem_toArray, List.getElem_cons_zero, List.getElem_cons_succ]
          refine wpAnyH_take (i := 9) (v := ?_) rfl (by kernel_rfl) (by kernel_rfl) (by kernel_rfl) (fun _ _ _ h => h) (Or.inl ⟨by rfl, ?_⟩) (by assumption) ?_
          rotate_left
          · intro _ _; go_simp; with_reducible rfl
          simp only [Act.put, List.setIfInBounds_toArray, List.set_cons_zero, List.set_cons_succ, List.getElem_toArray, List.getElem_cons_zero, List.getElem_cons_succ]
          refine wpAnyH_take (i := 10) (v := .int .i64 (t1 : Int)) rfl (by kernel_rfl) (by kernel_rfl) (by kernel_rfl) (fun _ _ _ h => h) (Or.inl ⟨by rfl, fun wq hC => by have hcell := KA2.out wq hC; go_simp; try with_reducible rfl⟩) (by assumption) ?_
          simp only [Act.put, List.setIfInBounds_toArray, List.set_cons_zero, List.set_cons_succ, List.getElem_toArray, List.getElem_cons_zero, List.getElem_cons_succ]
          refine wpAnyH_take (i := 11) (v := ?_) rfl (by kernel_rfl) (by kernel_rfl) (by kernel_rfl) (fun _ _ _ h => h) (Or.inl ⟨by rfl, ?_⟩) (by assumption) ?_
          rotate_left
          · intro _ _; go_simp; with_reducible rfl
          simp only [Act.put, List.setIfInBounds_toArray, List.set_cons_zero, List.set_cons_succ, List.getElem_toArray, List.getElem_cons_zero, List.getElem_cons_succ]
          refine wpAnyH_take (i := 12) (v := .slice (some ⟨gb, ob, none⟩) mb e) rfl (by kernel_rfl) (by kernel_rfl) (by kernel_rfl) (fun _ _ _ h => h) (Or.inl ⟨by rfl, fun wq hC => by have hcell := (HRB2.out wq hC).cell 2; go_simp; try with_reducible rfl⟩) (by assumption) ?_
          simp only [Act.put, List.setIfInBounds_toArray, List.set_cons_zero, List.set_cons_succ, List.getElem_toArray, List.getElem_cons_zero, List.getElem_cons_succ]
          refine wpAnyH_take (i := 13) (v := ?_) rfl (by kernel_rfl) (by kernel_rfl) (by kernel_rfl) (fun _ _ _ h => h) (Or.inl ⟨by rfl, ?_⟩) (by assumption) ?_
          rotate_left
          · intro _ _; go_simp; with_reducible rfl
          simp only [Act.put, List.setIfInBounds_toArray, List.set_cons_zero, List.set_cons_succ, List.getElem_toArray, List.getElem_cons_zero, List.getElem_cons_succ]
          refine wpAnyH_take (i := 14) (v := .int .i64 (p2 : Int)) rfl (by kernel_rfl) (by kernel_rfl) (by kernel_rfl) (fun _ _ _ h => h) (Or.inl ⟨by rfl, fun wq hC => by have hcell := pair_cell1 (HP4.out wq hC); go_simp; try with_reducible rfl⟩) (by assumption) ?_
          simp only [Act.put, List.setIfInBounds_toArray, List.set_cons_zero, List.set_cons_succ, List.getElem_toArray, List.getElem_cons_zero, List.getElem_cons_succ]
          refine wpAnyH_take (i := 15) (v := ?_) rfl (by kernel_rfl) (by kernel_rfl) (by kernel_rfl) (fun _ _ _ h => h) (Or.inl ⟨by rfl, ?_⟩) (by assumption) ?_
          rotate_left
          · intro _ _; go_simp; with_reducible rfl
          simp only [Act.put, List.setIfInBounds_toArray, List.set_cons_zero, List.set_cons_succ, List.getElem_toArray, List.getElem_cons_zero, List.getElem_cons_succ]
          refine wpAnyH_take (i := 16) (v := .int .i64 (k : Int)) rfl (by kernel_rfl) (by kernel_rfl) (by kernel_rfl) (fun _ _ _ h => h) (Or.inl ⟨by rfl, fun wq hC => by have hcell := (HRB2.out wq hC).cell 0; go_simp; try with_reducible rfl⟩) (by assumption) ?_
          simp only [Act.put, List.setIfInBounds_toArray, List.set_cons_zero, List.set_cons_succ, List.getElem_toArray, List.getElem_cons_zero, List.getElem_cons_succ]
          refine wpAnyH_take (i := 17) (v := ?_) rfl (by kernel_rfl) (by kernel_rfl) (by kernel_rfl) (fun _ _ _ h => h) (Or.inl ⟨by rfl, ?_⟩) (by assumption) ?_
          rotate_left
          · intro _ _; go_simp; with_reducible rfl
          simp only [Act.put, List.setIfInBounds_toArray, List.set_cons_zero, List.set_cons_succ, List.getElem_toArray, List.getElem_cons_zero, List.getElem_cons_succ]
          refine wpAnyH_take (i := 18) (v := ?_) rfl (by kernel_rfl) (by kernel_rfl) (by kernel_rfl) (fun _ _ _ h => h) (Or.inl ⟨by rfl, ?_⟩) (by assumption) ?_
          rotate_left
          · intro _ _; go_simp; with_reducible rfl
          simp only [Act.put, List.setIfInBounds_toArray, List.set_cons_zero, List.set_cons_succ, List.getElem_toArray, List.getElem_cons_zero, List.getElem_cons_succ]
          refine wpAnyH_take (i := 19) (v := ?_) rfl (by kernel_rfl) (by kernel_rfl) (by kernel_rfl) (fun _ _ _ h => h) (Or.inl ⟨by rfl, ?_⟩) (by assumption) ?_
          rotate_left
          · intro _ _; go_simp; with_reducible rfl
          simp only [Act.put, List.setIfInBounds_toArray, List.set_cons_zero, List.set_cons_succ, List.getElem_toArray, List.getElem_cons_zero, List.getElem_cons_succ]
          refine wpAnyH_take (i := 20) (v := ?_) rfl (by kernel_rfl) (by kernel_rfl) (by kernel_rfl) (fun _ _ _ h => h) (Or.inl ⟨by rfl, ?_⟩) (by assumption) ?_
          rotate_left
          · intro _ _; go_simp; with_reducible rfl
          simp only [Act.put, List.setIfInBounds_toArray, List.set_cons_zero, List.set_cons_succ, List.getElem_toArray, List.getElem_cons_zero, List.getElem_cons_succ]
          refine wpAnyH_take (i := 21) (v := .int .i64 (t2 : Int)) rfl (by kernel_rfl) (by kernel_rfl) (by kernel_rfl) (fun _ _ _ h => h) (Or.inl ⟨by rfl, fun wq hC => by have hcell := KB2.out wq hC; go_simp; try with_reducible rfl⟩) (by assumption) ?_
          simp only [Act.put, List.setIfInBounds_toArray, List.set_cons_zero, List.set_cons_succ, List.getElem_toArray, List.getElem_cons_zero, List.getElem_cons_succ]
          refine wpAnyH_take (i := 22) rfl (by kernel_rfl) (by kernel_rfl) (by kernel_rfl) (fun _ _ _ h => h) (yields_built2 (by rfl) 58 0 1 (.tmp 42) (.tmp 53) rfl (.int .i64 (t1 : Int)) (.int .i64 (t2 : Int)) rfl rfl (pairA (t1, t2)) (built_ref15 t1 t2)) (by assumption) ?_
          simp only [Act.put, List.setIfInBounds_toArray, List.set_cons_zero, List.set_cons_succ, List.getElem_toArray, List.getElem_cons_zero, List.getElem_cons_succ]
          have le0 := Below.size hS
          have Z3 := Row.new y0 58 #[.int .i64 0, .int .i64 0]
          refine wpAnyH_ready (rs := [23]) (by kernel_rfl) (by simp) (AllReadyH.cons rfl (fun K hK => ?_) AllReadyH.nil)
          rw [if_pos (by rfl)]
          go_simp
          have S1 := Below.alloc hS (Below.size hS) (.cells #[.int .i64 0, .int .i64 0] 58)
          refine hK.out _ _ S1 (fun _ => ?_)
          clear hK K
          refine wpAnyH_ready (rs := [24]) (by kernel_rfl) (by simp) (AllReadyH.cons rfl (fun K hK => ?_) AllReadyH.nil)
          rw [if_pos (by rfl)]
          refine wp_store_row 58 _ _ rfl y0.heap.size (pairA (t1, t2)) rfl rfl 58 _ Z3 infoRef rfl (pairA_one _) ?_
          have S2 := below_setRow (g := y0.heap.size) S1 (by first | exact Below.size S1 | (have := Below.size S1; simp at this; omega) | assumption | omega) (pairA (t1, t2))
          have Z4 := Row.whole Z3 (pairA (t1, t2))
          refine hK.out _ _ S2 (fun _ => ?_)
          clear hK K
          refine wpAnyH_done (by kernel_rfl) ?_ _
          have HP5 := HP3.stays S2
          have HO4 := own_below HO3.out S2
          have B1 := HB0.out.trans (S2.mono HB0.out.size)
          generalize (y0.alloc (.cells #[.int .i64 0, .int .i64 0] 58)).setRow y0.heap.size (pairA (t1, t2)) = y1 at *
          generalize y0.heap.size = b9 at *
          clear S1 S2 hS le0 Z3 HP3 HO3 HB0 HRA2 HRB2 KA2 KB2 HP4 KA KB q1 q2 q3 q4 hz1 hz2
          have HC := Lib.hid (has_calls15 _ l2 (t1, t2) y1 (lies_own (B := w0.heap.size) (t := 58) (by rw [HLM.out]; exact HO4)) (by rw [HLM.out]; have := HLE.out; omega))
          go_wp2_with (refine at_slot 56 rfl ?_; refine load_row rfl 58 _ rfl b9 rfl Z4 Try.underlying58 rfl infoRef ?_)
          refine HC.out.mono ?_
          rintro e y2 ⟨rfl, hb2⟩
          have HP6 := Lib.hid (HP5.stays hb2)
          have HO5 := Lib.hid (own_below HO4 hb2)
          have HB3 := Lib.hid (B1.trans (hb2.mono B1.size))
          have Z5 := Z4.stays hb2
          clear HP5 HO4 B1 Z4 hb2 HC
          cases hm : decide ((t1, t2) ∈ l2) with
          | true =>
            have HH2 := Lib.hid (HH.out.same (by rw [HG.out]; exact of_decide_eq_true hm))
            clear hm Z5
            go_wp2
            go_roundw
            case rel => exact ⟨x + 1, m, l2, by omega, by go_num, HLM, HH2, HO5, HNE, HP6, HB3⟩
            case measure => simp [intOf]; omega
          | false =>
            have HH2 := Lib.hid (HH.out.more (by rw [HKK.out]; exact hx2) (by rw [HG.out]; exact of_decide_eq_false hm))
            rw [HG.out] at HH2
            have HLM2 : Hid ((l2 ++ [(t1, t2)]).length = m + 1) := Lib.hid (by rw [List.length_append, HLM.out]; rfl)
            have HLE2 : Hid (m + [(t1, t2)].length ≤ 1048576) := Lib.hid (by have := HLE.out; simp; omega)
            have HSZ : Hid (w0.heap.size ≤ (y2.alloc (.cells (pairA (t1, t2)) 58)).heap.size) := Lib.hid (by have := HB3.out.size; simp; omega)
            have HP7 := Lib.hid (HP6.out.alloc (.cells (pairA (t1, t2)) 58))
            have HB4 := Lib.hid (HB3.out.alloc HB3.out.size (.cells (pairA (t1, t2)) 58))
            have hb7 := HP6.out.lt
            clear hm
            go_wp2_with (first
              | (refine at_slot 60 rfl ?_; refine load_row rfl 58 _ rfl b9 rfl Z5 Try.underlying58 rfl infoRef ?_)
              | (refine at_slot 61 rfl ?_; refine build_slice_one rfl _ rfl (pairA (t1, t2)) rfl Try.underlying52 infoRefF rfl (by decide) (by decide) ?_)
              | (refine at_slot 62 rfl ?_; refine append_lies (sv := .slice A6 m c6) (enc := pairA) (xs := [(t1, t2)]) rfl _ _ rfl Try.underlying52 infoRefF rfl (by decide) (by decide) rfl (HO5.out.alloc _) rfl (fun x _ => pairA_size x) (fun x _ => pairA_one x) (lies_single (Row.new _ _ _)) HLE2.out HSZ.out ?_; intro v9 y9 O9 g9 hv9))
            have HO9 : Hid (y9.ownsRow w0.heap.size 58 2 v9 (m + 1) (flat pairA (l2 ++ [(t1, t2)]))) := Lib.hid (by rw [flat_snoc] at O9; exact O9)
            have HNE9 : Hid (v9.ownBlock ≠ some b7) := Lib.hid (fun h => by
              rcases hv9 with k | k
              · exact HNE.out (by rw [← k]; exact h)
              · rw [k] at h
                have h := Option.some.inj h
                simp at h
                omega)
            have HP9 := Lib.hid (HP7.out.kept g9 (fun h => HNE.out h.symm))
            have HB9 := Lib.hid (HB4.out.grown g9 HSZ.out (fun q hq => (HO5.out.lt q hq).1))
            clear O9 g9 hv9
            go_wp2
            go_roundw
            case rel => exact ⟨x + 1, m + 1, l2 ++ [(t1, t2)], by omega, by go_num, HLM2, HH2, HO9, HNE9, HP9, HB9⟩
            case measure => simp [intOf]; omega
        · have hxk : x = k := by omega
          have HK2 := Lib.hid (Au.Half.all (by rw [HKK.out, ← hxk]; exact HH.out))
          have hjm : j < m := by rw [← HLM.out]; exact (List.getElem?_eq_some_iff.1 HH.out.at_).1
          clear hxk
          have hj4 := HN4.out
          go_wp2
          go_roundw
          case rel => exact ⟨j + 1, m, l2, by omega, by go_num, HLM, HK2, HO2, HB2⟩
          case measure => have := HN4.out; simp [intOf]; omega
    · obtain rfl : j = n := by omega
      have HV : Hid (Lies pairA wr (.slice A5 j c5) l) := Lib.hid (lies_own (B := w0.heap.size) (t := 58) (by rw [HLN.out]; exact HO.out))
      have HKF : Hid (Au.Known fa fb l l.length) := Lib.hid (by rw [HLN.out]; exact HKN2.out)
      go_wp2
      exact HPost.out _ l _ HKF.out HV.out (HC0.out.trans (HB.out.mono HC0.out.size))
end Go.Proofs.Ytdidogcgoghdmaa
