/- The walk of what makes an automaton of two that can be, whatever it accepts by. -/
import Derived.Test.YtdidogcgoghdmaaDfaPairs
import Derived.Test.YtdidogcgoghdmaaDfaWord
import Derived.Deep.DeepCutAuto
import Derived.Test.YtdidogcgoghdmaaCells
namespace Go.Proofs.Ytdidogcgoghdmaa
open Go.RowKit Go.Maps
/-- What is answered. -/
def PairsPost (op : Bool → Bool → Bool) (a b : Au.Fa) (w : World) (e : Ending) (w' : World) : Prop :=
  ∃ l, (l.length ≤ 65536 ∧ ∃ c, Au.Prod op a b c l ∧ OwnAuto w c e w') ∨ (65536 < l.length ∧ l.Nodup ∧ (∀ p ∈ l, Au.Come a b p) ∧ NewAuto w Au.Dv.zero 152 e w')
/-- The accepting closure, whatever it is. -/
def Accepts (op : Bool → Bool → Bool) (a b : Au.Fa) (w : World) (f : FuncId) (cap : Array Value) : Prop :=
  ∀ (W : World) (p : Nat × Nat), Below w.heap.size w W → p.1 < a.n → p.2 < b.n → Calls Try.prog f (#[.agg (pairA p)] ++ cap) W fun e w' => e = .returned (.bool (op (Au.accB a p.1) (Au.accB b p.2))) ∧ Below W.heap.size W w'
theorem built_dfa0 (k : Int) : Try.prog.built 25 [(0, .int .i64 k)] = some #[.int .i64 k, .int .i64 0, .slice none 0 0, .slice none 0 0] := by kernel_rfl
theorem nums_some {w : World} {A : Option Addr} {m c : Nat} {l : List Int} (h : Nums w (.slice A m c) l) (h0 : 0 < l.length) : m = l.length ∧ m ≤ c ∧ ∃ g off, A = some ⟨g, off, none⟩ := by
  obtain ⟨A', c', e, hc, hh⟩ := h.row
  obtain ⟨rfl, rfl, rfl⟩ := Value.slice.inj e
  rw [intVs_length] at hc hh ⊢
  obtain ⟨g, off, rfl, _⟩ := hh h0
  exact ⟨rfl, hc, g, off, rfl⟩
theorem sub_nums {w : World} {g off m c : Nat} {l : List Int} (h : Nums w (.slice (some ⟨g, off, none⟩) m c) l) {p k : Nat} (hk : p + k ≤ l.length) : Nums w (.slice (some ⟨g, off + p, none⟩) k (c - p)) ((l.drop p).take k) := by
  obtain ⟨A', c', e, hc, hh⟩ := h.row
  obtain ⟨rfl, rfl, rfl⟩ := Value.slice.inj e
  rw [intVs_length] at hc hh
  have hl : (intVs ((l.drop p).take k)).length = k := by rw [intVs_length, List.length_take, List.length_drop]; omega
  refine ⟨⟨some ⟨g, off + p, none⟩, c - p, by rw [hl], by rw [hl]; omega, fun h0 => ?_⟩⟩
  obtain ⟨g', off', ea, hlt, hcell⟩ := hh (by rw [hl] at h0; omega)
  obtain ⟨rfl, rfl, _⟩ := Addr.mk.inj (Option.some.inj ea)
  refine ⟨g, off + p, rfl, hlt, fun j u hu => ?_⟩
  rw [Nat.add_assoc]
  refine hcell (p + j) u ?_
  unfold intVs at hu ⊢
  rw [List.map_take, List.map_drop] at hu
  have hj : j < k := by
    have := (List.getElem?_eq_some_iff.1 hu).1
    rw [List.length_take] at this
    omega
  rw [List.getElem?_take, if_pos hj, List.getElem?_drop] at hu
  exact hu
/-- A state's goings, cut out of all. -/
theorem row_slices {f : Au.Fa} {w : World} {g off m c k : Nat} (hf : Au.Sound f) (hk : f.k = k) (h : Nums w (.slice (some ⟨g, off, none⟩) m c) (Au.ofN f.next)) {s : Nat} (hs : s < f.n) :
    ∃ P ma ca : Nat, IntKind.i64.wrap ((s : Int) * (k : Int)) = (P : Int) ∧ (∀ W, (Instr.sliceAt 22 (.slice (some ⟨g, off, none⟩) m c) (some (.int .i64 (P : Int))) none none).run Try.prog W = .ok (.slice (some ⟨g, off + P, none⟩) ma ca) W) ∧
      (∀ W, (Instr.sliceAt 22 (.slice (some ⟨g, off + P, none⟩) ma ca) none (some (.int .i64 (k : Int))) none).run Try.prog W = .ok (.slice (some ⟨g, off + P, none⟩) k ca) W) ∧ Nums w (.slice (some ⟨g, off + P, none⟩) k ca) (Au.ofN (Au.rowOf f s)) := by
  have hk1 := hf.k1
  have hlen := hf.len
  have hn2 := hf.n2
  have hk2 := hf.k2
  have hmul : (s + 1) * f.k ≤ f.n * f.k := Nat.mul_le_mul_right f.k hs
  have hbig : f.n * f.k ≤ 65536 * 512 := Nat.mul_le_mul hn2 hk2
  rw [Nat.add_mul, Nat.one_mul] at hmul
  have h0 : 0 < (Au.ofN f.next).length := by rw [Au.ofN_length, hlen]; omega
  obtain ⟨hm, hc, _⟩ := nums_some h h0
  rw [Au.ofN_length] at hm
  rw [hk] at hmul hk1 hlen hbig
  refine ⟨s * k, m - s * k, c - s * k, ?_, fun W => ?_, fun W => ?_, ?_⟩
  · rw [← Int.natCast_mul, IntKind.wrap_i64]; omega
  · have := run_slice_tail (P := Try.prog) (g := g) (off := off) (len := m) (cap := c) (k := s * k) Try.underlying22 (by kernel_rfl : (Try.prog.info? 3).map (·.size) = some 1) (by omega) W
    rw [if_neg (by omega), Nat.mul_one] at this
    exact this
  · exact run_slice_head Try.underlying22 (by kernel_rfl : (Try.prog.info? 3).map (·.size) = some 1) (by omega) W
  · have := sub_nums h (p := s * k) (k := k) (by rw [Au.ofN_length]; omega)
    unfold Au.rowOf Au.ofN at *
    rw [List.map_take, List.map_drop, hk]
    exact this
/-- A new maker. -/
theorem maker_new (w : World) (k : Int) : MakerAt NoB ((w.alloc (.map #[] 0)).alloc (.cells #[.int .i64 k, .int .i64 0, .slice none 0 0, .slice none 0 0, .slice none 0 0, .map (some w.heap.size)] 66)) w.heap.size (w.heap.size + 1) w.heap.size k 0 [] [] [] := by
  have M0 : PairsAt (w.alloc (.map #[] 0)) w.heap.size [] := pairs_nil (World.ownsMap_made w Try.prog 50 (plainElem Try.prog 3))
  have hs : (w.alloc (.map #[] 0)).heap.size = w.heap.size + 1 := by simp
  have R := Row.new (w.alloc (.map #[] 0)) 66 #[.int .i64 k, .int .i64 0, .slice none 0 0, .slice none 0 0, .slice none 0 0, .map (some w.heap.size)]
  rw [hs] at R
  exact ⟨⟨_, _, _, R, ⟨rfl, .inl ⟨rfl, rfl⟩⟩, ⟨rfl, .inl ⟨rfl, rfl⟩⟩, ⟨rfl, .inl ⟨rfl, rfl⟩⟩, fun b hb => hb.elim⟩, M0.stays ((Below.refl _ _).alloc (Nat.le_refl _) _), by omega, Nat.le_refl _, fun p hp => by cases hp⟩
theorem maker_begin {X : Nat → Prop} {w : World} {B g mb : Nat} {k st : Int} {nx : List Nat} {ac : List Bool} {l : List (Nat × Nat)} (h : MakerAt X w B g mb k st nx ac l) (s : Int) : MakerAt X (w.setCell ⟨g, 1, none⟩ (.int .i64 s)) B g mb k s nx ac l ∧ Below B w (w.setCell ⟨g, 1, none⟩ (.int .i64 s)) := by
  obtain ⟨nv, av, pv, G, N, A, L, F⟩ := h.parts
  have gc := grown_cell w g 1 (.int .i64 s)
  exact ⟨⟨⟨nv, av, pv, G.set 1 _, N.kept gc (own_row_ne N G (by decide)), A.kept gc (own_row_ne A G (by decide)), L.kept gc (own_row_ne L G (by decide)), F⟩, h.map.kept gc (fun e => row_pairs_ne G h.map (Option.some.inj e).symm), h.hg, h.hmb, h.ok⟩, (Below.refl _ _).setCell (p := ⟨g, 1, none⟩) h.hg _⟩
set_option maxRecDepth 100000 in
set_option maxHeartbeats 8000000 in
theorem ofPairs_calls (op : Bool → Bool → Bool) (va vb : Value) (fa fb : Au.Fa) (f : FuncId) (cap : Array Value) (w : World) (ha : Auto w va (Au.Dv.of fa)) (hb : Auto w vb (Au.Dv.of fb)) (hfa : Au.Sound fa) (hfb : Au.Sound fb) (hk : fa.k = fb.k)
    (eg : ∀ args w, (callFunc f args).run Try.prog w = .ok (.enter f args) w) (hacc : Accepts op fa fb w f cap) :
    Calls Try.prog 36 #[va, vb, .func (.func f) #[] cap] w (PairsPost op fa fb w) := by
  have HRA := Lib.hid (fun V W h => dright_calls V (Au.Dv.of fa) W h)
  have HRB := Lib.hid (fun V W h => dright_calls V (Au.Dv.of fb) W h)
  rw [Au.right_sound hfa] at HRA
  rw [Au.right_sound hfb] at HRB
  have HVA := Lib.hid ha
  have HVB := Lib.hid hb
  obtain ⟨A, c, A', c', rfl, HNA, HBA⟩ := ha.parts
  obtain ⟨E, e, E', e', rfl, HNB, HBB⟩ := hb.parts
  have q1 : (Au.Dv.of fa).k = (fa.k : Int) := rfl
  have q2 : (Au.Dv.of fa).start = (fa.start : Int) := rfl
  have q3 : (Au.Dv.of fa).next = Au.ofN fa.next := rfl
  have q4 : (Au.Dv.of fb).k = (fb.k : Int) := rfl
  have q5 : (Au.Dv.of fb).start = (fb.start : Int) := rfl
  have q6 : (Au.Dv.of fb).next = Au.ofN fb.next := rfl
  rw [q3, Au.ofN_length] at HNA
  rw [q6, Au.ofN_length] at HNB
  rw [q1, q2, q3, Au.ofN_length] at HVA ⊢
  rw [q4, q5, q6, Au.ofN_length] at HVB ⊢
  rw [← hk] at HVB ⊢
  have HPost : Hid (∀ l e w', l.length ≤ 65536 → (∃ c, Au.Prod op fa fb c l ∧ OwnAuto w c e w') → PairsPost op fa fb w e w') := Lib.hid (fun l e w' h1 h2 => ⟨l, .inl ⟨h1, h2⟩⟩)
  have HPoNo : Hid (∀ (l : List (Nat × Nat)) w', 65536 < l.length → l.Nodup → (∀ p ∈ l, Au.Come fa fb p) → Below w.heap.size w w' → PairsPost op fa fb w (.returned (.tuple #[.agg zeroD, .int .i64 152])) w') := Lib.hid (fun l w' h1 h2 h3 h4 => ⟨l, .inr ⟨h1, h2, h3, _, rfl, zero_auto w', h4⟩⟩)
  generalize PairsPost op fa fb w = post at *
  obtain ⟨_, _, ga, oa, rfl⟩ := nums_some HNA.out (by rw [Au.ofN_length, hfa.len]; exact Nat.mul_pos (Nat.lt_of_le_of_lt (Nat.zero_le _) hfa.start) hfa.k1)
  obtain ⟨_, _, gb, ob, rfl⟩ := nums_some HNB.out (by rw [Au.ofN_length, hfb.len]; exact Nat.mul_pos (Nat.lt_of_le_of_lt (Nat.zero_le _) hfb.start) hfb.k1)
  have hk1 := hfa.k1
  have hk2 := hfa.k2
  have HFA := Lib.hid hfa
  have HFB := Lib.hid hfb
  have HK := Lib.hid hk
  have HACC := Lib.hid hacc
  have ma := hfa.len
  have mb0 := hfb.len
  rw [← hk] at mb0
  clear ha hb q1 q2 q3 q4 q5 q6 hfa hfb hk hacc
  obtain ⟨k, hkk⟩ : ∃ k, fa.k = k := ⟨_, rfl⟩
  rw [hkk] at hk1 hk2 ma mb0 HVA HVB ⊢
  have HKK := Lib.hid hkk
  clear hkk
  obtain ⟨m, hm⟩ : ∃ m, fa.next.length = m := ⟨_, rfl⟩
  obtain ⟨m2, hm2⟩ : ∃ m, fb.next.length = m := ⟨_, rfl⟩
  have hcD : (Au.Dv.of fa).acc.length = fa.n := rfl
  have hcD2 : (Au.Dv.of fb).acc.length = fb.n := rfl
  rw [hcD] at HBA
  rw [hcD2] at HBB
  rw [hm] at HNA ma
  rw [hm2] at HNB mb0
  rw [hm, hm2, hcD, hcD2]
  rw [hm, hcD] at HVA
  rw [hm2, hcD2] at HVB
  clear hm hm2 hcD hcD2
  have HMA := Lib.hid ma
  have HMB := Lib.hid mb0
  clear ma mb0
  obtain ⟨oA, hA⟩ : ∃ o, o = Obj.cells #[.int .i64 (k : Int), .int .i64 (fa.start : Int), .slice (some ⟨ga, oa, none⟩) m c, .slice A' fa.n c'] 25 := ⟨_, rfl⟩
  obtain ⟨oB, hB⟩ : ∃ o, o = Obj.cells #[.int .i64 (k : Int), .int .i64 (fb.start : Int), .slice (some ⟨gb, ob, none⟩) m2 e, .slice E' fb.n e'] 25 := ⟨_, rfl⟩
  have C0 := (((Below.refl w.heap.size w).alloc (Nat.le_refl _) oA).alloc (by simp) oB).alloc (by simp; omega) (.cells zeroD 25)
  have RA : Row (((w.alloc oA).alloc oB).alloc (.cells zeroD 25)) w.heap.size 25 #[.int .i64 (k : Int), .int .i64 (fa.start : Int), .slice (some ⟨ga, oa, none⟩) m c, .slice A' fa.n c'] := by rw [hA]; exact ((Row.new w _ _).alloc _).alloc _
  have RB : Row (((w.alloc oA).alloc oB).alloc (.cells zeroD 25)) (w.heap.size + 1) 25 #[.int .i64 (k : Int), .int .i64 (fb.start : Int), .slice (some ⟨gb, ob, none⟩) m2 e, .slice E' fb.n e'] := by rw [hB]; exact (row_next (by simp)).alloc _
  have RZ : Row (((w.alloc oA).alloc oB).alloc (.cells zeroD 25)) (w.heap.size + 1 + 1) 25 zeroD := row_next2 (by simp)
  rw [hA, hB] at C0 RA RB RZ
  clear hA hB
  go_enter Try.func36, Try.ntmps36
  go_wp2_with fail
  refine (HRA.out _ _ (HVA.out.later C0 (Nat.le_refl _))).mono ?_
  rintro e w1 ⟨rfl, hb⟩
  have D1 := C0.trans (hb.mono C0.size)
  have R1 := RZ.stays hb
  have A1 := RA.stays hb
  have B1 := RB.stays hb
  clear hb C0 RZ RA RB
  go_wp2_with (refine at_slot 15 rfl ?_; refine load_row rfl 25 _ rfl (w.heap.size + 1) rfl B1 Try.underlying25 rfl infoDfa ?_)
  refine (HRB.out _ _ (HVB.out.later D1 (Nat.le_refl _))).mono ?_
  rintro e w2 ⟨rfl, hb2⟩
  have D2 := D1.trans (hb2.mono D1.size)
  have R2 := R1.stays hb2
  have A2 := A1.stays hb2
  have B2 := B1.stays hb2
  have a0 := A2.cell 0
  have a1 := A2.cell 1
  have b0 := B2.cell 0
  have b1 := B2.cell 1
  clear hb2 D1 R1 A1 B1 HRA HRB HVA HVB
  have hmm := @run_makeMap Try.prog
  have E0 : Below w2.heap.size w2 ((w2.alloc (.map #[] 0)).alloc (.cells #[.int .i64 (k : Int), .int .i64 0, .slice none 0 0, .slice none 0 0, .slice none 0 0, .map (some w2.heap.size)] 66)) := ((Below.refl _ w2).alloc (Nat.le_refl _) _).alloc (by simp) _
  have M0 := maker_new w2 (k : Int)
  have R3 := R2.stays E0
  have A3 := A2.stays E0
  have B3 := B2.stays E0
  have D3 := D2.trans (E0.mono D2.size)
  have e1 := A3.cell 1
  have e2 := B3.cell 1
  have hs3 : w2.heap.size < ((w2.alloc (.map #[] 0)).alloc (.cells #[.int .i64 (k : Int), .int .i64 0, .slice none 0 0, .slice none 0 0, .slice none 0 0, .map (some w2.heap.size)] 66)).heap.size := by simp; omega
  have hkk : ((k : Int) != (k : Int)) = false := by simp
  have hs1 := HFA.out.start
  have hs2 := HFB.out.start
  have hn1 := HFA.out.n2
  have hn2 := HFB.out.n2
  have HST := Lib.hid (state_calls _ M0 (fun b hb => hb.elim) (fa.start, fb.start) ⟨by omega, by omega⟩ (by simp))
  go_wp2_with fail
  refine HST.out.mono ?_
  rintro e w4 ⟨i0, l0, rfl, hseat, M4, _, d4⟩
  have D4 := E0.trans d4
  obtain ⟨rfl, rfl⟩ := Au.seat_nil hseat
  clear hseat d4 HST M0 E0 R3 A3 B3 D3 e1 e2 hs3 a0 a1 b0 b1 hmm hkk hs1 hs2
  obtain ⟨_, _, _, G4, _⟩ := M4.parts
  have f1 := G4.free 1
  have c1 := G4.cell 1
  go_wp2_with fail
  clear f1 c1 G4
  obtain ⟨M5, d5⟩ := maker_begin M4 0
  have D5 := D4.trans d5
  clear M4 d5 D4
  generalize w4.setCell ⟨w2.heap.size + 1, 1, none⟩ (.int .i64 0) = w5 at *
  have HM5 : Hid (MakerAt NoB w5 w2.heap.size (w2.heap.size + 1) w2.heap.size (k : Int) 0 [] [] [(fa.start, fb.start)]) := Lib.hid M5
  have HK5 := Lib.hid (Au.mk_start op fa fb)
  have HD5 := Lib.hid D5
  have HD2 := Lib.hid D2
  have HA2 := Lib.hid A2
  have HB2 := Lib.hid B2
  have HR2 := Lib.hid R2
  have HLT := Lib.hid (show w.heap.size + 1 + 1 < w2.heap.size from R2.lt)
  clear M5 D5 D2 A2 B2 R2
  go_loopw [9] (fun i wr => ∃ (x : Nat) (l : List (Nat × Nat)) (nx : List Nat) (ac : List Bool), x ≤ 65536 ∧ i = .int .i64 x ∧ Hid (Au.Mk op fa fb l nx ac x) ∧ Hid (MakerAt NoB wr w2.heap.size (w2.heap.size + 1) w2.heap.size (k : Int) 0 nx ac l) ∧ Hid (Below w2.heap.size w2 wr)) (fun i _ => 65536 - (intOf i).toNat)
  case atStart => exact ⟨0, _, [], [], Nat.zero_le _, rfl, HK5, HM5, HD5⟩
  case round =>
    obtain ⟨x, l, nx, ac, hx65, rfl, HMKK, HM, HB⟩ := hrel
    obtain ⟨nv, av, pv, G, N, AA, L, F⟩ := HM.out.parts
    obtain ⟨Ap, cp, rfl, hcp, hAp⟩ := own_anyN L
    have c4 := G.cell 4
    obtain ⟨ln, hln⟩ : ∃ n, l.length = n := ⟨_, rfl⟩
    have hfew : ln ≤ 4294967296 := by
      have h1 := Au.Known.few HFA.out.toRight HFB.out.toRight HK.out HMKK.out.known
      have h2 : fa.n * fb.n ≤ 65536 * 65536 := Nat.mul_le_mul hn1 hn2
      omega
    have hx0 : x ≤ ln := by rw [← hln]; exact HMKK.out.alen
    have HNN := Lib.hid N
    have HAA := Lib.hid AA
    have HLL := Lib.hid L
    have HGG := Lib.hid G
    have HLN := Lib.hid hln
    have HAP := Lib.hid hAp
    clear N AA L F hcp hAp G
    rw [hln] at c4
    clear hln
    by_cases hlt : x < ln
    · by_cases hbig : 65536 < ln
      · have R5 := HR2.out.stays HB.out
        go_wp2_with (refine wpList_store_row rfl 25 _ _ rfl (w.heap.size + 1 + 1) zeroD rfl rfl 25 _ R5 infoDfa rfl zeroD_one ?_)
        exact bodyPost_ret (v := .tuple #[.agg zeroD, .int .i64 152]) (results_cell_two rfl _ _ (w.heap.size + 1 + 1) _ _ _ rfl _ rfl (R5.whole _) Try.underlying25 rfl infoDfa) rfl (HPoNo.out l _ (by rw [HLN.out]; exact hbig) HMKK.out.known.once HMKK.out.known.come (below_setRow (HD2.out.trans (HB.out.mono HD2.out.size)) (by omega) _))
      · obtain ⟨gp, rfl⟩ := HAP.out (by rw [HLN.out]; omega)
        obtain ⟨p, hp⟩ : ∃ p, l[x]? = some p := ⟨_, List.getElem?_eq_getElem (by rw [HLN.out]; exact hlt)⟩
        have HP := Lib.hid hp
        have hco := Au.come_lt HFA.out.toRight HFB.out.toRight HK.out (HMKK.out.known.come p (List.mem_of_getElem? hp))
        have hp1 := hco.1
        have hp2 := hco.2
        have HCP : Hid (∀ j u, (pairA p)[j]? = some u → wr.cell? ⟨gp, x * 2 + j, none⟩ = some u) := Lib.hid (fun j u h => by
          have := (lies_own HLL.out).one (fun q _ => pairA_size q) hp j u h
          rwa [Nat.zero_add] at this)
        clear hp hco
        have R6 := Row.new wr 50 #[.int .i64 0, .int .i64 0]
        go_wp2_with (first
          | (refine at_slot 56 rfl ?_; refine load_span rfl 50 _ rfl gp (x * 2) rfl (pairA p) HCP.out Try.underlying50 rfl infoPair15 ?_)
          | (refine wpList_store_row rfl 50 _ _ rfl wr.heap.size (pairA p) rfl rfl 50 _ R6 infoPair15 rfl (pairA_one _) ?_))
        simp only [Act.put]
        have DN : Below wr.heap.size wr ((wr.alloc (.cells #[.int .i64 0, .int .i64 0] 50)).setRow wr.heap.size (pairA p)) := below_setRow ((Below.refl _ _).alloc (Nat.le_refl _) _) (Nat.le_refl _) _
        have M1 := ((HM.out.one (Nat.le_refl _)).stays DN).stays (Below.refl _ _).drew
        have R7 := (R6.whole (pairA p)).drew
        have HB1 := Lib.hid (HB.out.trans ((DN.drew).mono (Nat.le_of_lt HM.out.lt)))
        clear DN c4 R6 HCP HM HB HNN HAA HLL HGG HAP
        generalize ((wr.alloc (.cells #[.int .i64 0, .int .i64 0] 50)).setRow wr.heap.size (pairA p)) = u1 at *
        generalize wr.heap.size = b10 at *
        have HM1 := Lib.hid M1
        clear M1
        have HB0 : Hid (Below w.heap.size w u1.drew) := Lib.hid (HD2.out.trans (HB1.out.mono HD2.out.size))
        obtain ⟨BV, hBV⟩ : ∃ b, op (Au.accB fa p.1) (Au.accB fb p.2) = b := ⟨_, rfl⟩
        have HBV := Lib.hid hBV
        clear hBV
        go_cut [] (fun wx => MakerAt (OneB b10) wx w2.heap.size (w2.heap.size + 1) w2.heap.size (k : Int) 0 nx (ac ++ [BV]) l ∧ Row wx b10 50 (pairA p) ∧ Below w2.heap.size w2 wx)
        case first => as_aux_lemma =>
          refine wp_region_held_drew (S := fun W => Row W b10 50 (pairA p)) (by kernel_rfl) R7 (fun hS => ?_)
          generalize u1.drew = v1 at *
          obtain ⟨nv, av, pv, G, N, AA, L, F⟩ := HM1.out.parts
          obtain ⟨Aa, ca, rfl, _⟩ := own_anyN AA
          have HG := Lib.hid G
          have HN := Lib.hid N
          have HAA := Lib.hid AA
          have HL := Lib.hid L
          have HF := Lib.hid F
          have HC7 := Lib.hid (fun W (hW : Below v1.heap.size v1 W) => HACC.out W p (HB0.out.trans (hW.mono HB0.out.size)) hp1 hp2)
          have D0 : Below v1.heap.size v1 v1 := Below.refl _ _
          clear G N AA L F R7
          rw [HBV.out] at HC7
          have HACL : Hid (ac.length + [BV].length ≤ 1048576) := Lib.hid (by
            have e := congrArg List.length HMKK.out.ends
            rw [List.length_map, List.length_take] at e
            have := HLN.out
            rw [e]
            show min x l.length + 1 ≤ 1048576
            omega)
          refine wpAnyH_take (i := 0) (v := ?_) rfl (by kernel_rfl) (by kernel_rfl) (by kernel_rfl) (fun _ _ _ h => h) (Or.inl ⟨by rfl, ?_⟩) (by assumption) ?_
          rotate_left
          · intro _ _; go_simp; with_reducible rfl
          simp only [Act.put, List.setIfInBounds_toArray, List.set_cons_zero, List.set_cons_succ, List.getElem_toArray, List.getElem_cons_zero]
          refine wpAnyH_take (i := 1) (v := ?_) rfl (by kernel_rfl) (by kernel_rfl) (by kernel_rfl) (fun _ _ _ h => h) (Or.inl ⟨by rfl, ?_⟩) (by assumption) ?_
          rotate_left
          · intro _ _; go_simp; with_reducible rfl
          simp only [Act.put, List.setIfInBounds_toArray, List.set_cons_zero, List.set_cons_succ, List.getElem_toArray, List.getElem_cons_zero, List.getElem_cons_succ]
          refine wpAnyH_take (i := 3) (v := ?_) rfl (by kernel_rfl) (by kernel_rfl) (by kernel_rfl) (fun _ _ _ h => h) (Or.inl ⟨by rfl, ?_⟩) (by assumption) ?_
          rotate_left
          · intro _ _; go_simp; with_reducible rfl
          simp only [Act.put, List.setIfInBounds_toArray, List.set_cons_zero, List.set_cons_succ, List.getElem_toArray, List.getElem_cons_zero, List.getElem_cons_succ]
          refine wpAnyH_take (i := 4) rfl (by kernel_rfl) (by kernel_rfl) (by kernel_rfl) (fun _ _ _ h => h) (yields_row (by rfl) _ _ rfl _ rfl (fun _ h => h) Try.underlying50 rfl infoPair15) (by assumption) ?_
          simp only [Act.put, List.setIfInBounds_toArray, List.set_cons_zero, List.set_cons_succ, List.getElem_toArray, List.getElem_cons_zero, List.getElem_cons_succ]
          refine wpAnyH_ready (rs := [2, 5]) (by kernel_rfl) (by simp) (AllReadyH.cons rfl (fun K hK => ?_) (AllReadyH.cons rfl (fun K hK => ?_) AllReadyH.nil))
          · rw [if_pos (by rfl)]
            have c3 := HG.out.cell 3
            go_wp2_with fail
            refine hK.out _ _ hS (fun _ => ?_)
            clear hK K c3
            refine wpAnyH_ready (rs := [5]) (by kernel_rfl) (by simp) (AllReadyH.cons rfl (fun K hK => ?_) AllReadyH.nil)
            rw [if_pos (by rfl)]
            go_simp
            refine (HC7.out v1 D0).mono ?_
            rintro e v2 ⟨rfl, dd⟩
            have D2 := D0.trans (dd.mono D0.size)
            have S2 := hS.stays dd
            go_wp2_with fail
            refine hK.out _ _ S2 (fun _ => ?_)
            clear hK K dd
            refine wpAnyH_ready (rs := [6]) (by kernel_rfl) (by simp) (AllReadyH.cons rfl (fun K hK => ?_) AllReadyH.nil)
            rw [if_pos (by rfl)]
            go_simp
            have D3 := D2.alloc D2.size (.cells #[.bool BV] 4)
            have S3 := S2.stays ((Below.refl _ v2).alloc (Nat.le_refl _) (.cells #[.bool BV] 4))
            have RN := Row.new v2 4 #[.bool BV]
            refine hK.out _ _ S3 (fun _ => ?_)
            clear hK K D2 S2
            generalize v2.alloc (.cells #[.bool BV] 4) = Y2 at *
            generalize v2.heap.size = bN at *
            have YG := HG.out.stays D3
            have YN := own_below HN.out D3
            have YA := own_below HAA.out D3
            have YL := own_below HL.out D3
            have YM := HM1.out.map.stays D3
            have hXX : ∀ b, OneB b10 b → b < Y2.heap.size := fun b hb => by rw [show b = b10 from hb]; exact S3.lt
            have hnv := (HF.out b10 rfl).2.2.2.1
            have hB2 : w2.heap.size ≤ Y2.heap.size := Nat.le_trans (Nat.le_of_lt HM1.out.lt) D3.size
            refine wpAnyH_ready (rs := [7]) (by kernel_rfl) (by simp) (AllReadyH.cons rfl (fun K hK => ?_) AllReadyH.nil)
            rw [if_pos (by rfl)]
            refine wp_append_lies (enc := fun b : Bool => #[.bool b]) (n := 1) (by8 := 1) (E := 4) (z := .bool false) _ _ rfl Try.underlying23 infoBool15 rfl (by decide) (by decide) (sv := .slice Aa ac.length ca) rfl YA (v := .slice (some ⟨bN, 0, none⟩) 1 1) rfl (xs := [BV]) (fun _ _ => rfl) (fun _ _ => by simp [Value.oneCell']) (lies_single RN) HACL.out hB2 ?_
            intro v9 w9 O9 g9 hv9
            obtain ⟨A9, c9, rfl, _⟩ := own_anyN O9
            have NM := acc_more YG YN YA YL YM HF.out hXX HM1.out.hg HM1.out.hmb HM1.out.ok O9 g9 hv9
            have S9 : Row w9 b10 50 (pairA p) := S3.kept g9 (fun e => hnv e.symm)
            have D9 := (HB1.out.trans (D3.mono (Nat.le_of_lt HM1.out.lt))).grown g9 hB2 (fun j hj => (YA.lt j hj).1)
            have D10 := D9.setCell (p := ⟨w2.heap.size + 1, 3, none⟩) HM1.out.hg (.slice A9 (ac.length + [BV].length) c9)
            have c3 := NM.1.cell 3
            have f3 := NM.1.free 3
            have SX : Row (w9.setCell ⟨w2.heap.size + 1, 3, none⟩ (.slice A9 (ac.length + [BV].length) c9)) b10 50 (pairA p) := (NM.2.2 b10 rfl).trans S3
            refine hK.out _ _ S9 (fun _ => ?_)
            clear hK K D9 YG YN YA YL YM g9 hv9 O9 RN
            refine wpAnyH_take (i := 8) (v := ?_) rfl (by kernel_rfl) (by kernel_rfl) (by kernel_rfl) (fun _ _ _ h => h) (Or.inl ⟨by rfl, ?_⟩) (by assumption) ?_
            rotate_left
            · intro _ _; go_simp; with_reducible rfl
            simp only [Act.put, List.setIfInBounds_toArray, List.set_cons_zero, List.set_cons_succ, List.getElem_toArray, List.getElem_cons_zero, List.getElem_cons_succ]
            refine wpAnyH_take (i := 9) (v := ?_) rfl (by kernel_rfl) (by kernel_rfl) (by kernel_rfl) (fun _ _ _ h => h) (Or.inl ⟨by rfl, ?_⟩) (by assumption) ?_
            rotate_left
            · intro _ _; go_simp; with_reducible rfl
            simp only [Act.put, List.setIfInBounds_toArray, List.set_cons_zero, List.set_cons_succ, List.getElem_toArray, List.getElem_cons_zero, List.getElem_cons_succ]
            refine wpAnyH_ready (rs := [10]) (by kernel_rfl) (by simp) (AllReadyH.cons rfl (fun K hK => ?_) AllReadyH.nil)
            rw [if_pos (by rfl)]
            go_wp2_with fail
            refine hK.out _ _ SX (fun _ => ?_)
            clear hK K
            refine wpAnyH_done (by kernel_rfl) ?_ _
            go_wp2
            go_meet
            exact ⟨NM.2.1, SX, D10⟩
          ·
            rw [if_pos (by rfl)]
            go_simp
            refine (HC7.out v1 D0).mono ?_
            rintro e v2 ⟨rfl, dd⟩
            have D2 := D0.trans (dd.mono D0.size)
            have S2 := hS.stays dd
            go_wp2_with fail
            refine hK.out _ _ S2 (fun _ => ?_)
            clear hK K dd
            refine wpAnyH_ready (rs := [2, 6]) (by kernel_rfl) (by simp) (AllReadyH.cons rfl (fun K hK => ?_) (AllReadyH.cons rfl (fun K hK => ?_) AllReadyH.nil))
            · rw [if_pos (by rfl)]
              have c3 := (HG.out.stays D2).cell 3
              go_wp2_with fail
              refine hK.out _ _ S2 (fun _ => ?_)
              clear hK K c3
              refine wpAnyH_ready (rs := [6]) (by kernel_rfl) (by simp) (AllReadyH.cons rfl (fun K hK => ?_) AllReadyH.nil)
              rw [if_pos (by rfl)]
              go_simp
              have D3 := D2.alloc D2.size (.cells #[.bool BV] 4)
              have S3 := S2.stays ((Below.refl _ v2).alloc (Nat.le_refl _) (.cells #[.bool BV] 4))
              have RN := Row.new v2 4 #[.bool BV]
              refine hK.out _ _ S3 (fun _ => ?_)
              clear hK K D2 S2
              generalize v2.alloc (.cells #[.bool BV] 4) = Y2 at *
              generalize v2.heap.size = bN at *
              have YG := HG.out.stays D3
              have YN := own_below HN.out D3
              have YA := own_below HAA.out D3
              have YL := own_below HL.out D3
              have YM := HM1.out.map.stays D3
              have hXX : ∀ b, OneB b10 b → b < Y2.heap.size := fun b hb => by rw [show b = b10 from hb]; exact S3.lt
              have hnv := (HF.out b10 rfl).2.2.2.1
              have hB2 : w2.heap.size ≤ Y2.heap.size := Nat.le_trans (Nat.le_of_lt HM1.out.lt) D3.size
              refine wpAnyH_ready (rs := [7]) (by kernel_rfl) (by simp) (AllReadyH.cons rfl (fun K hK => ?_) AllReadyH.nil)
              rw [if_pos (by rfl)]
              refine wp_append_lies (enc := fun b : Bool => #[.bool b]) (n := 1) (by8 := 1) (E := 4) (z := .bool false) _ _ rfl Try.underlying23 infoBool15 rfl (by decide) (by decide) (sv := .slice Aa ac.length ca) rfl YA (v := .slice (some ⟨bN, 0, none⟩) 1 1) rfl (xs := [BV]) (fun _ _ => rfl) (fun _ _ => by simp [Value.oneCell']) (lies_single RN) HACL.out hB2 ?_
              intro v9 w9 O9 g9 hv9
              obtain ⟨A9, c9, rfl, _⟩ := own_anyN O9
              have NM := acc_more YG YN YA YL YM HF.out hXX HM1.out.hg HM1.out.hmb HM1.out.ok O9 g9 hv9
              have S9 : Row w9 b10 50 (pairA p) := S3.kept g9 (fun e => hnv e.symm)
              have D9 := (HB1.out.trans (D3.mono (Nat.le_of_lt HM1.out.lt))).grown g9 hB2 (fun j hj => (YA.lt j hj).1)
              have D10 := D9.setCell (p := ⟨w2.heap.size + 1, 3, none⟩) HM1.out.hg (.slice A9 (ac.length + [BV].length) c9)
              have c3 := NM.1.cell 3
              have f3 := NM.1.free 3
              have SX : Row (w9.setCell ⟨w2.heap.size + 1, 3, none⟩ (.slice A9 (ac.length + [BV].length) c9)) b10 50 (pairA p) := (NM.2.2 b10 rfl).trans S3
              refine hK.out _ _ S9 (fun _ => ?_)
              clear hK K D9 YG YN YA YL YM g9 hv9 O9 RN
              refine wpAnyH_take (i := 8) (v := ?_) rfl (by kernel_rfl) (by kernel_rfl) (by kernel_rfl) (fun _ _ _ h => h) (Or.inl ⟨by rfl, ?_⟩) (by assumption) ?_
              rotate_left
              · intro _ _; go_simp; with_reducible rfl
              simp only [Act.put, List.setIfInBounds_toArray, List.set_cons_zero, List.set_cons_succ, List.getElem_toArray, List.getElem_cons_zero, List.getElem_cons_succ]
              refine wpAnyH_take (i := 9) (v := ?_) rfl (by kernel_rfl) (by kernel_rfl) (by kernel_rfl) (fun _ _ _ h => h) (Or.inl ⟨by rfl, ?_⟩) (by assumption) ?_
              rotate_left
              · intro _ _; go_simp; with_reducible rfl
              simp only [Act.put, List.setIfInBounds_toArray, List.set_cons_zero, List.set_cons_succ, List.getElem_toArray, List.getElem_cons_zero, List.getElem_cons_succ]
              refine wpAnyH_ready (rs := [10]) (by kernel_rfl) (by simp) (AllReadyH.cons rfl (fun K hK => ?_) AllReadyH.nil)
              rw [if_pos (by rfl)]
              go_wp2_with fail
              refine hK.out _ _ SX (fun _ => ?_)
              clear hK K
              refine wpAnyH_done (by kernel_rfl) ?_ _
              go_wp2
              go_meet
              exact ⟨NM.2.1, SX, D10⟩
            ·
              rw [if_pos (by rfl)]
              go_simp
              have D3 := D2.alloc D2.size (.cells #[.bool BV] 4)
              have S3 := S2.stays ((Below.refl _ v2).alloc (Nat.le_refl _) (.cells #[.bool BV] 4))
              have RN := Row.new v2 4 #[.bool BV]
              refine hK.out _ _ S3 (fun _ => ?_)
              clear hK K D2 S2
              generalize v2.alloc (.cells #[.bool BV] 4) = Y2 at *
              generalize v2.heap.size = bN at *
              refine wpAnyH_ready (rs := [2]) (by kernel_rfl) (by simp) (AllReadyH.cons rfl (fun K hK => ?_) AllReadyH.nil)
              rw [if_pos (by rfl)]
              have c3 := (HG.out.stays D3).cell 3
              go_wp2_with fail
              refine hK.out _ _ S3 (fun _ => ?_)
              clear hK K c3
              have YG := HG.out.stays D3
              have YN := own_below HN.out D3
              have YA := own_below HAA.out D3
              have YL := own_below HL.out D3
              have YM := HM1.out.map.stays D3
              have hXX : ∀ b, OneB b10 b → b < Y2.heap.size := fun b hb => by rw [show b = b10 from hb]; exact S3.lt
              have hnv := (HF.out b10 rfl).2.2.2.1
              have hB2 : w2.heap.size ≤ Y2.heap.size := Nat.le_trans (Nat.le_of_lt HM1.out.lt) D3.size
              refine wpAnyH_ready (rs := [7]) (by kernel_rfl) (by simp) (AllReadyH.cons rfl (fun K hK => ?_) AllReadyH.nil)
              rw [if_pos (by rfl)]
              refine wp_append_lies (enc := fun b : Bool => #[.bool b]) (n := 1) (by8 := 1) (E := 4) (z := .bool false) _ _ rfl Try.underlying23 infoBool15 rfl (by decide) (by decide) (sv := .slice Aa ac.length ca) rfl YA (v := .slice (some ⟨bN, 0, none⟩) 1 1) rfl (xs := [BV]) (fun _ _ => rfl) (fun _ _ => by simp [Value.oneCell']) (lies_single RN) HACL.out hB2 ?_
              intro v9 w9 O9 g9 hv9
              obtain ⟨A9, c9, rfl, _⟩ := own_anyN O9
              have NM := acc_more YG YN YA YL YM HF.out hXX HM1.out.hg HM1.out.hmb HM1.out.ok O9 g9 hv9
              have S9 : Row w9 b10 50 (pairA p) := S3.kept g9 (fun e => hnv e.symm)
              have D9 := (HB1.out.trans (D3.mono (Nat.le_of_lt HM1.out.lt))).grown g9 hB2 (fun j hj => (YA.lt j hj).1)
              have D10 := D9.setCell (p := ⟨w2.heap.size + 1, 3, none⟩) HM1.out.hg (.slice A9 (ac.length + [BV].length) c9)
              have c3 := NM.1.cell 3
              have f3 := NM.1.free 3
              have SX : Row (w9.setCell ⟨w2.heap.size + 1, 3, none⟩ (.slice A9 (ac.length + [BV].length) c9)) b10 50 (pairA p) := (NM.2.2 b10 rfl).trans S3
              refine hK.out _ _ S9 (fun _ => ?_)
              clear hK K D9 YG YN YA YL YM g9 hv9 O9 RN
              refine wpAnyH_take (i := 8) (v := ?_) rfl (by kernel_rfl) (by kernel_rfl) (by kernel_rfl) (fun _ _ _ h => h) (Or.inl ⟨by rfl, ?_⟩) (by assumption) ?_
              rotate_left
              · intro _ _; go_simp; with_reducible rfl
              simp only [Act.put, List.setIfInBounds_toArray, List.set_cons_zero, List.set_cons_succ, List.getElem_toArray, List.getElem_cons_zero, List.getElem_cons_succ]
              refine wpAnyH_take (i := 9) (v := ?_) rfl (by kernel_rfl) (by kernel_rfl) (by kernel_rfl) (fun _ _ _ h => h) (Or.inl ⟨by rfl, ?_⟩) (by assumption) ?_
              rotate_left
              · intro _ _; go_simp; with_reducible rfl
              simp only [Act.put, List.setIfInBounds_toArray, List.set_cons_zero, List.set_cons_succ, List.getElem_toArray, List.getElem_cons_zero, List.getElem_cons_succ]
              refine wpAnyH_ready (rs := [10]) (by kernel_rfl) (by simp) (AllReadyH.cons rfl (fun K hK => ?_) AllReadyH.nil)
              rw [if_pos (by rfl)]
              go_wp2_with fail
              refine hK.out _ _ SX (fun _ => ?_)
              clear hK K
              refine wpAnyH_done (by kernel_rfl) ?_ _
              go_wp2
              go_meet
              exact ⟨NM.2.1, SX, D10⟩
        case rest =>
          obtain ⟨M, Z, D⟩ := hcut
          have HM2 := Lib.hid M.none
          have HD := Lib.hid D
          obtain ⟨_, _, _, G2, _⟩ := M.parts
          have HZ0 : Hid (∀ W, Below wc.heap.size wc W → W.cell? ⟨b10, 0, none⟩ = some (.int .i64 (p.1 : Int))) := Lib.hid (fun W hW => (Z.stays hW).cell 0)
          have HZ1 : Hid (∀ W, Below wc.heap.size wc W → W.cell? ⟨b10, 1, none⟩ = some (.int .i64 (p.2 : Int))) := Lib.hid (fun W hW => (Z.stays hW).cell 1)
          have HG0 : Hid (∀ W, Below wc.heap.size wc W → W.cell? ⟨w2.heap.size + 1, 0, none⟩ = some (.int .i64 (k : Int))) := Lib.hid (fun W hW => (G2.stays hW).cell 0)
          have HA3 : Hid (∀ W, Below wc.heap.size wc W → W.cell? ⟨w.heap.size, 2, none⟩ = some (.slice (some ⟨ga, oa, none⟩) m c)) := Lib.hid (fun W hW => (HA2.out.stays (HD.out.trans (hW.mono HD.out.size))).cell 2)
          have HB3 : Hid (∀ W, Below wc.heap.size wc W → W.cell? ⟨w.heap.size + 1, 2, none⟩ = some (.slice (some ⟨gb, ob, none⟩) m2 e)) := Lib.hid (fun W hW => (HB2.out.stays (HD.out.trans (hW.mono HD.out.size))).cell 2)
          obtain ⟨P1, ma, ca, W1, SA1, SA2, NA⟩ := row_slices HFA.out HKK.out HNA.out hp1
          obtain ⟨P2, mb, cb, W2, SB1, SB2, NB⟩ := row_slices HFB.out (HK.out.symm.trans HKK.out) HNB.out hp2
          have HW1 := Lib.hid W1
          have HW2 := Lib.hid W2
          have HSA1 := Lib.hid SA1
          have HSA2 := Lib.hid SA2
          have HSB1 := Lib.hid SB1
          have HSB2 := Lib.hid SB2
          have HRA := Lib.hid NA
          have HRB := Lib.hid NB
          clear M Z D G2 W1 W2 SA1 SA2 SB1 SB2 NA NB
          go_wp2
          refine region_quiet_tail (C := fun W => Below wc.heap.size wc W) 26 (by kernel_rfl) (by kernel_rfl) (Below.refl _ _).drew ?_
          simp only [List.take_succ_cons, List.take_zero]
          refine q_yields (v := ?_) (Or.inl ⟨by rfl, ?_⟩) ?_
          rotate_left
          · intro _ _; go_simp; with_reducible rfl
          simp only [Act.put, List.setIfInBounds_toArray, List.set_cons_zero, List.set_cons_succ]
          refine q_yields (v := .slice (some ⟨ga, oa, none⟩) m c) (Or.inl ⟨by rfl, fun wq hC => by have hcell := HA3.out wq hC; go_simp; try with_reducible rfl⟩) ?_
          simp only [Act.put, List.setIfInBounds_toArray, List.set_cons_zero, List.set_cons_succ]
          refine q_yields (v := ?_) (Or.inl ⟨by rfl, ?_⟩) ?_
          rotate_left
          · intro _ _; go_simp; with_reducible rfl
          simp only [Act.put, List.setIfInBounds_toArray, List.set_cons_zero, List.set_cons_succ]
          refine q_yields (v := .int .i64 (p.1 : Int)) (Or.inl ⟨by rfl, fun wq hC => by have hcell := HZ0.out wq hC; go_simp; try with_reducible rfl⟩) ?_
          simp only [Act.put, List.setIfInBounds_toArray, List.set_cons_zero, List.set_cons_succ]
          refine q_yields (v := ?_) (Or.inl ⟨by rfl, ?_⟩) ?_
          rotate_left
          · intro _ _; go_simp; with_reducible rfl
          simp only [Act.put, List.setIfInBounds_toArray, List.set_cons_zero, List.set_cons_succ]
          refine q_yields (v := ?_) (Or.inl ⟨by rfl, ?_⟩) ?_
          rotate_left
          · intro _ _; go_simp; with_reducible rfl
          simp only [Act.put, List.setIfInBounds_toArray, List.set_cons_zero, List.set_cons_succ]
          refine q_yields (v := .int .i64 (k : Int)) (Or.inl ⟨by rfl, fun wq hC => by have hcell := HG0.out wq hC; go_simp; try with_reducible rfl⟩) ?_
          simp only [Act.put, List.setIfInBounds_toArray, List.set_cons_zero, List.set_cons_succ]
          refine q_yields (v := .int .i64 (P1 : Int)) (Or.inl ⟨by rfl, fun wq hC => by have hcell := HW1.out; go_simp; try with_reducible rfl⟩) ?_
          simp only [Act.put, List.setIfInBounds_toArray, List.set_cons_zero, List.set_cons_succ]
          refine q_yields (yields_slice (by rfl) 22 (.tmp 68) (some (.tmp 74)) none rfl _ rfl _ _ rfl rfl _ HSA1.out) ?_
          simp only [Act.put, List.setIfInBounds_toArray, List.set_cons_zero, List.set_cons_succ]
          refine q_yields (v := ?_) (Or.inl ⟨by rfl, ?_⟩) ?_
          rotate_left
          · intro _ _; go_simp; with_reducible rfl
          simp only [Act.put, List.setIfInBounds_toArray, List.set_cons_zero, List.set_cons_succ]
          refine q_yields (v := ?_) (Or.inl ⟨by rfl, ?_⟩) ?_
          rotate_left
          · intro _ _; go_simp; with_reducible rfl
          simp only [Act.put, List.setIfInBounds_toArray, List.set_cons_zero, List.set_cons_succ]
          refine q_yields (v := .int .i64 (k : Int)) (Or.inl ⟨by rfl, fun wq hC => by have hcell := HG0.out wq hC; go_simp; try with_reducible rfl⟩) ?_
          simp only [Act.put, List.setIfInBounds_toArray, List.set_cons_zero, List.set_cons_succ]
          refine q_yields (yields_slice (by rfl) 22 (.tmp 75) none (some (.tmp 78)) rfl _ rfl _ _ rfl rfl _ HSA2.out) ?_
          simp only [Act.put, List.setIfInBounds_toArray, List.set_cons_zero, List.set_cons_succ]
          refine q_yields (v := ?_) (Or.inl ⟨by rfl, ?_⟩) ?_
          rotate_left
          · intro _ _; go_simp; with_reducible rfl
          simp only [Act.put, List.setIfInBounds_toArray, List.set_cons_zero, List.set_cons_succ]
          refine q_yields (v := .slice (some ⟨gb, ob, none⟩) m2 e) (Or.inl ⟨by rfl, fun wq hC => by have hcell := HB3.out wq hC; go_simp; try with_reducible rfl⟩) ?_
          simp only [Act.put, List.setIfInBounds_toArray, List.set_cons_zero, List.set_cons_succ]
          refine q_yields (v := ?_) (Or.inl ⟨by rfl, ?_⟩) ?_
          rotate_left
          · intro _ _; go_simp; with_reducible rfl
          simp only [Act.put, List.setIfInBounds_toArray, List.set_cons_zero, List.set_cons_succ]
          refine q_yields (v := .int .i64 (p.2 : Int)) (Or.inl ⟨by rfl, fun wq hC => by have hcell := HZ1.out wq hC; go_simp; try with_reducible rfl⟩) ?_
          simp only [Act.put, List.setIfInBounds_toArray, List.set_cons_zero, List.set_cons_succ]
          refine q_yields (v := ?_) (Or.inl ⟨by rfl, ?_⟩) ?_
          rotate_left
          · intro _ _; go_simp; with_reducible rfl
          simp only [Act.put, List.setIfInBounds_toArray, List.set_cons_zero, List.set_cons_succ]
          refine q_yields (v := ?_) (Or.inl ⟨by rfl, ?_⟩) ?_
          rotate_left
          · intro _ _; go_simp; with_reducible rfl
          simp only [Act.put, List.setIfInBounds_toArray, List.set_cons_zero, List.set_cons_succ]
          refine q_yields (v := .int .i64 (k : Int)) (Or.inl ⟨by rfl, fun wq hC => by have hcell := HG0.out wq hC; go_simp; try with_reducible rfl⟩) ?_
          simp only [Act.put, List.setIfInBounds_toArray, List.set_cons_zero, List.set_cons_succ]
          refine q_yields (v := .int .i64 (P2 : Int)) (Or.inl ⟨by rfl, fun wq hC => by have hcell := HW2.out; go_simp; try with_reducible rfl⟩) ?_
          simp only [Act.put, List.setIfInBounds_toArray, List.set_cons_zero, List.set_cons_succ]
          refine q_yields (yields_slice (by rfl) 22 (.tmp 81) (some (.tmp 87)) none rfl _ rfl _ _ rfl rfl _ HSB1.out) ?_
          simp only [Act.put, List.setIfInBounds_toArray, List.set_cons_zero, List.set_cons_succ]
          refine q_yields (v := ?_) (Or.inl ⟨by rfl, ?_⟩) ?_
          rotate_left
          · intro _ _; go_simp; with_reducible rfl
          simp only [Act.put, List.setIfInBounds_toArray, List.set_cons_zero, List.set_cons_succ]
          refine q_yields (v := ?_) (Or.inl ⟨by rfl, ?_⟩) ?_
          rotate_left
          · intro _ _; go_simp; with_reducible rfl
          simp only [Act.put, List.setIfInBounds_toArray, List.set_cons_zero, List.set_cons_succ]
          refine q_yields (v := .int .i64 (k : Int)) (Or.inl ⟨by rfl, fun wq hC => by have hcell := HG0.out wq hC; go_simp; try with_reducible rfl⟩) ?_
          simp only [Act.put, List.setIfInBounds_toArray, List.set_cons_zero, List.set_cons_succ]
          refine q_yields (yields_slice (by rfl) 22 (.tmp 88) none (some (.tmp 91)) rfl _ rfl _ _ rfl rfl _ HSB2.out) ?_
          simp only [Act.put, List.setIfInBounds_toArray, List.set_cons_zero, List.set_cons_succ]
          refine wpQuiet_nil ?_
          intro w3 C3
          simp only [List.drop_succ_cons, List.drop_zero]
          have D3 := HD.out.trans (C3.mono HD.out.size)
          have hl16 : l.length ≤ 1000000 := by have := HLN.out; omega
          have hnx16 : nx.length ≤ 4000000000 := by
            have e1 := HMKK.out.nlen
            have e2 := HKK.out
            rw [e2] at e1
            have e3 : x * k ≤ 65536 * 512 := Nat.mul_le_mul (by omega) hk2
            omega
          have HLV := Lib.hid (leave_calls w w3 (HM2.out.stays C3) (HD2.out.trans (D3.mono HD2.out.size)) HD2.out.size HRA.out HRB.out (by rw [Au.rowOf_length HFA.out.toRight hp1]; exact HKK.out) (by rw [Au.rowOf_length HFB.out.toRight hp2]; exact HK.out.symm.trans HKK.out) (fun a ha => by have := Au.rowOf_lt HFA.out.toRight a ha; omega) (fun a ha => by have := Au.rowOf_lt HFB.out.toRight a ha; omega) hk1 hk2 hl16 HMKK.out.known.once hnx16)
          have HGZ := Lib.hid (Au.goings_zip HFA.out.toRight HFB.out.toRight HK.out hp1 hp2)
          clear hl16 hnx16 C3
          go_wp2_with fail
          refine HLV.out.mono ?_
          rintro e w4 ⟨l', tos, rfl, hl, hM4, d4⟩
          rw [HGZ.out] at hl
          have HM4 := Lib.hid hM4
          have HMK4 := Lib.hid (HMKK.out.more HP.out (by rw [HKK.out]; exact hl))
          have HD4 := Lib.hid (D3.trans d4)
          rw [HBV.out] at HMK4
          clear hM4 hl d4 D3
          go_wp2
          go_roundw
          case rel => exact ⟨x + 1, l', nx ++ tos, ac ++ [BV], by omega, by go_num, HMK4, HM4, HD4⟩
          case measure => simp [intOf]; omega
    · have R5 := HR2.out.stays HB.out
      have hxl : x = ln := by omega
      obtain ⟨An, cn, rfl, _⟩ := own_anyN HNN.out
      obtain ⟨Aa, ca, rfl, _⟩ := own_anyN HAA.out
      have G := HGG.out
      have hgs : Hid (ln ≤ 65536) := Lib.hid (by omega)
      obtain ⟨AG, hAG⟩ : ∃ X : Array Value, X = #[.int .i64 (k : Int), .int .i64 0, .slice An nx.length cn, .slice Aa ac.length ca] := ⟨_, rfl⟩
      have hS4 : Hid ((Try.prog.info? 25).map (·.size) = some AG.size) := Lib.hid (by rw [hAG]; exact infoDfa)
      have hZ4 : Hid (zeroD.size = AG.size) := Lib.hid (by rw [hAG]; rfl)
      have hO4 : Hid (AG.all (·.oneCell') = true) := Lib.hid (by rw [hAG]; simp [Value.oneCell'])
      have hX4 : Hid ((#[.int .i64 (k : Int), .int .i64 0, .slice An nx.length cn, .slice Aa ac.length ca, .slice Ap l.length cp, .map (some w2.heap.size)] : Array Value).extract 0 (0 + 4) = AG) := Lib.hid (by rw [hAG]; rfl)
      have HAG := Lib.hid hAG
      clear hAG
      go_wp2_with (first
        | (refine at_slot 95 rfl ?_; refine load_part rfl 25 _ rfl (w2.heap.size + 1) 0 4 rfl G Try.underlying25 rfl infoDfa (by simp) AG hX4.out ?_)
        | (refine wpList_store_row rfl 25 _ _ rfl (w.heap.size + 1 + 1) AG rfl rfl 25 _ R5 hS4.out hZ4.out hO4.out ?_))
      have PR := HMKK.out.all HFA.out (by rw [HLN.out]; omega) (by rw [HLN.out]; exact hgs.out)
      rw [HKK.out] at PR
      have gs := grown_setRow wr (w.heap.size + 1 + 1) AG
      have NF := HNN.out.kept gs (by
        by_cases h : (Value.slice An nx.length cn).ownBlock = some (w.heap.size + 1 + 1)
        · have h1 := (HNN.out.lt _ h).1
          have h2 := HLT.out
          omega
        · exact .inr h)
      have AF := HAA.out.kept gs (by
        by_cases h : (Value.slice Aa ac.length ca).ownBlock = some (w.heap.size + 1 + 1)
        · have h1 := (HAA.out.lt _ h).1
          have h2 := HLT.out
          omega
        · exact .inr h)
      have hwB := HD2.out.size
      refine bodyPost_ret (v := .tuple #[.agg AG, .int .i64 0]) (results_cell_two rfl _ _ (w.heap.size + 1 + 1) _ _ _ rfl _ rfl (R5.whole _) Try.underlying25 rfl hS4.out) rfl (HPost.out l _ _ (by rw [HLN.out]; exact hgs.out) ⟨_, PR, _, _, _, _, ?_, own_base NF hwB, own_base AF hwB, below_setRow (HD2.out.trans (HB.out.mono HD2.out.size)) (by omega) _⟩)
      rw [HAG.out]
      rfl
end Go.Proofs.Ytdidogcgoghdmaa
