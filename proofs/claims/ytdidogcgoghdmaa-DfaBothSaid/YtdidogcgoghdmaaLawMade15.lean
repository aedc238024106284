/- The walk of what the law DfaBoth asks of what is made of two: each of its states is come to together with those of both. -/
import Derived.Test.YtdidogcgoghdmaaRefLike15
import Derived.Test.YtdidogcgoghdmaaDfaWordsPlain
namespace Go.Proofs.Ytdidogcgoghdmaa
open Go.RowKit Go.Maps
namespace Au
theorem Prod.here {op : Bool → Bool → Bool} {a b c : Fa} {l : List (Nat × Nat)} (h : Prod op a b c l) (ha : Sound a) (hb : Sound b) (hk : a.k = b.k) {s x y : Nat} (hg : l[s]? = some (x, y)) : s < c.n ∧ x < a.n ∧ y < b.n ∧ accB c s = op (accB a x) (accB b y) := by
  obtain ⟨h1, h2⟩ := come_lt ha.toRight hb.toRight hk (h.known.come _ (List.mem_of_getElem? hg))
  exact ⟨by rw [h.nn]; exact (List.getElem?_eq_some_iff.1 hg).1, h1, h2, h.ends _ _ hg⟩
/-- States of all three that are come to together. -/
def Good (l : List (Nat × Nat)) (t : Nat × Nat × Nat) : Prop := l[t.1]? = some (t.2.1, t.2.2)
end Au
theorem infoTripleZ : (Try.prog.info? 55).map (·.size) = some 3 := infoTriple
theorem built_triple15 (a b c : Nat) : Try.prog.built 55 [(0, .int .i64 (a : Int)), (1, .int .i64 (b : Int)), (2, .int .i64 (c : Int))] = some (tripleA (a, b, c)) := by kernel_rfl
theorem yields_built3 {P : Program} {ops : Array Oper} {S : World → Prop} {o : Oper} {a : Act} (hw : Region.wanted o (yielded ops a.tmps) = true) (t : TypeId) (i j k : Nat) (x y z : Operand) (ho : o.op = .build t #[(i, x), (j, y), (k, z)]) (u v r : Value) (hx : a.eval x = u) (hy : a.eval y = v) (hz : a.eval z = r) (cells : Array Value)
    (hc : P.built t [(i, u), (j, v), (k, r)] = some cells) : YieldsIf P ops S o (.agg cells) a :=
  .inl ⟨hw, fun w _ => by
    have e : ((#[(i, x), (j, y), (k, z)] : Array (Nat × Operand)).map fun (i, x) => (i, a.eval x)).toList = [(i, u), (j, v), (k, r)] := by simp [hx, hy, hz]
    unfold execOp
    simp only [ho, Sem.run_bind, run_build w t _ cells (by rw [e]; exact hc), Result.andThen_ok]
    rfl⟩
theorem triple_cell0 {w : World} {g : Nat} {t : TypeId} {a b c : Nat} (h : Row w g t (tripleA (a, b, c))) : w.cell? ⟨g, 0, none⟩ = some (.int .i64 (a : Int)) := h.cell 0
theorem triple_cell1 {w : World} {g : Nat} {t : TypeId} {a b c : Nat} (h : Row w g t (tripleA (a, b, c))) : w.cell? ⟨g, 1, none⟩ = some (.int .i64 (b : Int)) := h.cell 1
theorem triple_cell2 {w : World} {g : Nat} {t : TypeId} {a b c : Nat} (h : Row w g t (tripleA (a, b, c))) : w.cell? ⟨g, 2, none⟩ = some (.int .i64 (c : Int)) := h.cell 2
theorem flat_snoc3 (l : List (Nat × Nat × Nat)) (p : Nat × Nat × Nat) : flat tripleA l ++ flat tripleA [p] = flat tripleA (l ++ [p]) := (flat_append l [p]).symm
theorem take_in {L : List (Nat × Nat × Nat)} {p x : Nat × Nat × Nat} {k : Nat} (hk : L[k]? = some x) : decide (p ∈ L.take (k + 1)) = (decide (p ∈ L.take k) || decide (x = p)) := by
  rw [List.take_add_one, hk, Bool.eq_iff_iff, Bool.or_eq_true, decide_eq_true_eq, decide_eq_true_eq, decide_eq_true_eq, List.mem_append]
  simp only [Option.toList_some, List.mem_singleton]
  exact or_congr Iff.rfl eq_comm
set_option maxRecDepth 100000 in
set_option maxHeartbeats 32000000 in
theorem made_calls (op : Bool → Bool → Bool) (fn : FuncId) (vd va vb : Value) (fd fa fb : Au.Fa) (lp : List (Nat × Nat)) (w : World) (hd : Auto w vd (Au.Dv.of fd)) (ha : Auto w va (Au.Dv.of fa)) (hb : Auto w vb (Au.Dv.of fb)) (hP : Au.Prod op fa fb fd lp) (hfa : Au.Sound fa) (hfb : Au.Sound fb) (hk : fa.k = fb.k) (hN : fa.n * fb.n ≤ 40000) (hk9 : fa.k ≤ 9)
    (eg : ∀ args w, (callFunc fn args).run Try.prog w = .ok (.enter fn args) w) (hw : ∀ x y W, Calls Try.prog fn #[.bool x, .bool y] W fun e w' => e = .returned (.bool (op x y)) ∧ w' = W) :
    Calls Try.prog 25 #[vd, .int .i64 0, va, vb, .func (.func fn) #[] #[]] w fun e w' => e = .returned (.bool true) ∧ Below w.heap.size w w' := by
  have HPR := Lib.hid (fun V U W h h' => refPairs_calls V U fa fb W h h' hfa hfb hk hN)
  have HRR := Lib.hid (right_as hP.toSound)
  have HVD := Lib.hid hd
  have HVA := Lib.hid ha
  have HVB := Lib.hid hb
  have HW := Lib.hid hw
  obtain ⟨D, d, D', d', rfl, HND, HBD⟩ := hd.parts
  obtain ⟨A, c, A', c', rfl, HNA, HBA⟩ := ha.parts
  obtain ⟨E, e, E', e', rfl, HNB, HBB⟩ := hb.parts
  have lens : ∀ f : Au.Fa, Au.Sound f → 0 < (Au.Dv.of f).next.length ∧ 0 < (Au.Dv.of f).acc.length := fun f h => ⟨by show 0 < (Au.ofN f.next).length; rw [Au.ofN_length, h.len]; exact Nat.mul_pos (Nat.lt_of_le_of_lt (Nat.zero_le _) h.start) h.k1, Nat.lt_of_le_of_lt (Nat.zero_le _) h.start⟩
  obtain ⟨_, _, gd, od, rfl⟩ := nums_some HND.out (lens fd hP.toSound).1
  obtain ⟨_, _, ga, oa, rfl⟩ := nums_some HNA.out (lens fa hfa).1
  obtain ⟨_, _, gb, ob, rfl⟩ := nums_some HNB.out (lens fb hfb).1
  obtain ⟨_, _, gd', od', rfl⟩ := bools_some HBD.out (lens fd hP.toSound).2
  obtain ⟨_, _, ga', oa', rfl⟩ := bools_some HBA.out (lens fa hfa).2
  obtain ⟨_, _, gb', ob', rfl⟩ := bools_some HBB.out (lens fb hfb).2
  obtain ⟨k, hkk⟩ : ∃ k, fa.k = k := ⟨_, rfl⟩
  have hkb : fb.k = k := hk.symm.trans hkk
  have hkd : fd.k = k := hP.kk.trans hkk
  rw [hkk] at hk9
  have nl : ∀ f : Au.Fa, (Au.Dv.of f).next.length = f.next.length := fun f => Au.ofN_length _
  have HSTEP : Hid (∀ s x y : Nat, Au.Good lp (s, x, y) → ∀ q, q < k →
      (∃ P z : Nat, IntKind.i64.wrap ((s : Int) * (k : Int)) = (P : Int) ∧ IntKind.i64.wrap ((P : Int) + (q : Int)) = (z : Int) ∧ z < (Au.Dv.of fd).next.length ∧ (Au.ofN fd.next)[z]? = some ((Au.step fd s q : Nat) : Int)) ∧
      (∃ P z : Nat, IntKind.i64.wrap ((x : Int) * (k : Int)) = (P : Int) ∧ IntKind.i64.wrap ((P : Int) + (q : Int)) = (z : Int) ∧ z < (Au.Dv.of fa).next.length ∧ (Au.ofN fa.next)[z]? = some ((Au.step fa x q : Nat) : Int)) ∧
      (∃ P z : Nat, IntKind.i64.wrap ((y : Int) * (k : Int)) = (P : Int) ∧ IntKind.i64.wrap ((P : Int) + (q : Int)) = (z : Int) ∧ z < (Au.Dv.of fb).next.length ∧ (Au.ofN fb.next)[z]? = some ((Au.step fb y q : Nat) : Int)) ∧
      Au.Good lp (Au.step fd s q, Au.step fa x q, Au.step fb y q)) := Lib.hid (fun s x y hg q hq => by
    obtain ⟨h1, h2, h3, _⟩ := hP.here hfa hfb hk hg
    have q0 := place_wraps hP.toSound h1 (x := q) (by rw [hkd]; exact hq)
    have q1 := place_wraps hfa h2 (x := q) (by rw [hkk]; exact hq)
    have q2 := place_wraps hfb h3 (x := q) (by rw [hkb]; exact hq)
    rw [hkd] at q0
    rw [hkk] at q1
    rw [hkb] at q2
    exact ⟨by rw [nl]; exact q0, by rw [nl]; exact q1, by rw [nl]; exact q2, hP.go s (x, y) q hg (by rw [hkd]; exact hq)⟩)
  have HHERE : Hid (∀ s x y : Nat, Au.Good lp (s, x, y) → ∃ z u v : Bool, op u v = z ∧ (s < (Au.Dv.of fd).acc.length ∧ (Au.Dv.of fd).acc[s]? = some z) ∧ (x < (Au.Dv.of fa).acc.length ∧ (Au.Dv.of fa).acc[x]? = some u) ∧ (y < (Au.Dv.of fb).acc.length ∧ (Au.Dv.of fb).acc[y]? = some v)) := Lib.hid (fun s x y hg => by
    obtain ⟨h1, h2, h3, h4⟩ := hP.here hfa hfb hk hg
    exact ⟨_, _, _, h4.symm, ⟨h1, Au.accB_at h1⟩, ⟨h2, Au.accB_at h2⟩, ⟨h3, Au.accB_at h3⟩⟩)
  have HFEW : Hid (∀ l : List (Nat × Nat), Au.Known fa fb l l.length → (Au.Dv.of fd).acc.length ≤ l.length) := Lib.hid (fun l h => by
    show fd.n ≤ l.length
    rw [hP.nn]
    exact hP.known.same h)
  have HG0 : Hid (Au.Good lp (0, fa.start, fb.start)) := Lib.hid hP.known.first
  have qd : (Au.Dv.of fd).k = (k : Int) := by show (fd.k : Int) = k; rw [hkd]
  have qa : (Au.Dv.of fa).k = (k : Int) := by show (fa.k : Int) = k; rw [hkk]
  have qb : (Au.Dv.of fb).k = (k : Int) := by show (fb.k : Int) = k; rw [hkb]
  have sd : (Au.Dv.of fd).start = 0 := by show ((fd.start : Nat) : Int) = _; rw [hP.zero]; rfl
  have sa : (Au.Dv.of fa).start = (fa.start : Int) := rfl
  have sb : (Au.Dv.of fb).start = (fb.start : Int) := rfl
  have HND := Lib.hid HND.out
  have HNA := Lib.hid HNA.out
  have HNB := Lib.hid HNB.out
  have HBD := Lib.hid HBD.out
  have HBA := Lib.hid HBA.out
  have HBB := Lib.hid HBB.out
  rw [qd, sd] at HVD ⊢
  rw [qa, sa] at HVA ⊢
  rw [qb, sb] at HVB ⊢
  have HK9 := Lib.hid hk9
  clear hd ha hb hP hfa hfb hk hN hw lens hkk hkb hkd nl qd qa qb sd sa sb
  generalize (Au.Dv.of fd).next.length = nd at *
  generalize (Au.Dv.of fa).next.length = na at *
  generalize (Au.Dv.of fb).next.length = nb at *
  generalize (Au.Dv.of fd).acc.length = md at *
  generalize (Au.Dv.of fa).acc.length = ma at *
  generalize (Au.Dv.of fb).acc.length = mb at *
  generalize fa.start = sa at *
  generalize fb.start = sb at *
  obtain ⟨CD, hCD⟩ : ∃ C, C = Obj.cells #[.int .i64 (k : Int), .int .i64 0, .slice (some ⟨gd, od, none⟩) nd d, .slice (some ⟨gd', od', none⟩) md d'] 25 := ⟨_, rfl⟩
  obtain ⟨CA, hCA⟩ : ∃ C, C = Obj.cells #[.int .i64 (k : Int), .int .i64 (sa : Int), .slice (some ⟨ga, oa, none⟩) na c, .slice (some ⟨ga', oa', none⟩) ma c'] 25 := ⟨_, rfl⟩
  obtain ⟨CB, hCB⟩ : ∃ C, C = Obj.cells #[.int .i64 (k : Int), .int .i64 (sb : Int), .slice (some ⟨gb, ob, none⟩) nb e, .slice (some ⟨gb', ob', none⟩) mb e'] 25 := ⟨_, rfl⟩
  have RD : Row (((w.alloc CD).alloc CA).alloc CB) w.heap.size 25 #[.int .i64 (k : Int), .int .i64 0, .slice (some ⟨gd, od, none⟩) nd d, .slice (some ⟨gd', od', none⟩) md d'] := by rw [hCD]; exact ((Row.new w _ _).alloc _).alloc _
  have RA : Row (((w.alloc CD).alloc CA).alloc CB) (w.heap.size + 1) 25 #[.int .i64 (k : Int), .int .i64 (sa : Int), .slice (some ⟨ga, oa, none⟩) na c, .slice (some ⟨ga', oa', none⟩) ma c'] := by rw [hCA]; exact (row_next (by simp)).alloc _
  have RB : Row (((w.alloc CD).alloc CA).alloc CB) (w.heap.size + 1 + 1) 25 #[.int .i64 (k : Int), .int .i64 (sb : Int), .slice (some ⟨gb, ob, none⟩) nb e, .slice (some ⟨gb', ob', none⟩) mb e'] := by rw [hCB]; exact row_next2 (by simp)
  have C0 := (((Below.refl w.heap.size w).alloc (Nat.le_refl _) CD).alloc (by simp) CA).alloc (by simp; omega) CB
  rw [hCD, hCA, hCB] at RD RA RB C0
  clear hCD hCA hCB
  go_enter Try.func25, Try.ntmps25
  go_wp2_with fail
  generalize ((w.alloc (.cells #[.int .i64 (k : Int), .int .i64 0, .slice (some ⟨gd, od, none⟩) nd d, .slice (some ⟨gd', od', none⟩) md d'] 25)).alloc (.cells #[.int .i64 (k : Int), .int .i64 (sa : Int), .slice (some ⟨ga, oa, none⟩) na c, .slice (some ⟨ga', oa', none⟩) ma c'] 25)).alloc (.cells #[.int .i64 (k : Int), .int .i64 (sb : Int), .slice (some ⟨gb, ob, none⟩) nb e, .slice (some ⟨gb', ob', none⟩) mb e'] 25) = w0 at *
  refine (HPR.out _ _ _ (HVA.out.later C0 (Nat.le_refl _)) (HVB.out.later C0 (Nat.le_refl _))).mono ?_
  rintro e2 w1 ⟨v, l, rfl, hkn, _, hlies, hb1⟩
  have hmd := HFEW.out l hkn
  obtain ⟨A5, c5, rfl, _, _⟩ := hlies
  generalize l.length = nl at *
  have e1 : decide ((nl : Int) < (md : Int)) = false := decide_eq_false (by omega)
  have C1 := C0.trans (hb1.mono C0.size)
  have RD1 := RD.stays hb1
  have RA1 := RA.stays hb1
  have RB1 := RB.stays hb1
  have hlt0 : ¬ nl < md := by omega
  clear C0 RD RA RB hb1 hkn hmd HFEW HPR
  go_wp2_with (first
    | (refine at_slot 26 rfl ?_; refine load_row rfl 25 _ rfl w.heap.size rfl RD1 Try.underlying25 rfl infoDfa ?_))
  refine (HRR.out _ _ (HVD.out.later C1 (Nat.le_refl _))).mono ?_
  rintro e3 w2 ⟨rfl, hb2⟩
  have C2 := C1.trans (hb2.mono C1.size)
  have RD2 := RD1.stays hb2
  have RA2 := RA1.stays hb2
  have RB2 := RB1.stays hb2
  have d0 := RD2.cell 0
  have d1 := RD2.cell 1
  have d3 := RD2.cell 3
  have a0 := RA2.cell 0
  have a1 := RA2.cell 1
  have b1 := RB2.cell 1
  clear C1 RD1 RA1 RB1 hb2 HRR HVD HVA HVB
  go_wp2_with (first
    | (refine at_slot 52 rfl ?_; refine build_slice_one rfl _ rfl (tripleA (0, sa, sb)) rfl Try.underlying56 infoTripleF rfl (by decide) (by decide) ?_))
  clear d0 d1 d3 a0 a1 b1 e1 hlt0
  have HRD := Lib.hid (fun W (h : Below w2.heap.size w2 W) => RD2.stays h)
  have HRA := Lib.hid (fun W (h : Below w2.heap.size w2 W) => RA2.stays h)
  have HRB := Lib.hid (fun W (h : Below w2.heap.size w2 W) => RB2.stays h)
  have XND := Lib.hid (fun W (h : Below w2.heap.size w2 W) => HND.out.later (C2.trans (h.mono C2.size)) (Nat.le_refl _))
  have XNA := Lib.hid (fun W (h : Below w2.heap.size w2 W) => HNA.out.later (C2.trans (h.mono C2.size)) (Nat.le_refl _))
  have XNB := Lib.hid (fun W (h : Below w2.heap.size w2 W) => HNB.out.later (C2.trans (h.mono C2.size)) (Nat.le_refl _))
  have XBD := Lib.hid (fun W (h : Below w2.heap.size w2 W) => HBD.out.later (C2.trans (h.mono C2.size)) (Nat.le_refl _))
  have XBA := Lib.hid (fun W (h : Below w2.heap.size w2 W) => HBA.out.later (C2.trans (h.mono C2.size)) (Nat.le_refl _))
  have XBB := Lib.hid (fun W (h : Below w2.heap.size w2 W) => HBB.out.later (C2.trans (h.mono C2.size)) (Nat.le_refl _))
  have HC2 := Lib.hid C2
  clear RD2 RA2 RB2 C2 HND HNA HNB HBD HBA HBB
  go_loopw [13, 12] (fun i v wr => ∃ (j n : Nat) (L : List (Nat × Nat × Nat)), j ≤ 4000 ∧ j ≤ n ∧ i = .int .i64 (j : Int) ∧ Hid (L.length = n) ∧ Hid (n ≤ 1 + 9 * j) ∧ Hid (∀ t ∈ L, Au.Good lp t) ∧ Hid (wr.ownsRow w2.heap.size 55 3 v n (flat tripleA L)) ∧ Hid (Below w2.heap.size w2 wr)) (fun i _ _ => 4001 - (intOf i).toNat)
  case atStart => exact ⟨0, 1, [(0, sa, sb)], by omega, by omega, rfl, Lib.hid rfl, Lib.hid (by omega), Lib.hid (fun t ht => by rw [List.mem_singleton.1 ht]; exact HG0.out), Lib.hid (by rw [flat_one]; exact own_first rfl rfl), Lib.hid ((Below.refl _ _).alloc (Nat.le_refl _) _)⟩
  case round =>
    obtain ⟨j, n, L, hj, hjn, rfl, HLN, HN9, HGD, HO, HB⟩ := hrel
    obtain ⟨A6, c6, rfl, hc6, hsome⟩ := own_anyN HO.out
    by_cases hlt : j < n
    · by_cases h4 : j < 4000
      · obtain ⟨g6, rfl⟩ := hsome (by omega)
        obtain ⟨⟨s, x, y⟩, ht⟩ : ∃ p, L[j]? = some p := ⟨_, List.getElem?_eq_getElem (by rw [HLN.out]; exact hlt)⟩
        have hgood := HGD.out _ (List.mem_of_getElem? ht)
        have HGOOD := Lib.hid hgood
        obtain ⟨z, u1, v1, hop, ⟨hs1, hs2⟩, ⟨hx1, hx2⟩, hy1, hy2⟩ := HHERE.out s x y hgood
        have hlies : Lies tripleA wr (.slice (some ⟨g6, 0, none⟩) L.length c6) L := lies_own (B := w2.heap.size) (t := 55) (by rw [HLN.out]; exact HO.out)
        have HCE : Hid (∀ jj u, (tripleA (s, x, y))[jj]? = some u → wr.cell? ⟨g6, j * 3 + jj, none⟩ = some u) := Lib.hid (fun jj u h => by have := hlies.one (fun x _ => tripleA_size x) ht jj u h; rw [Nat.zero_add] at this; exact this)
        obtain ⟨Z, U, DL, LL⟩ := lay_row 55 #[.int .i64 0, .int .i64 0, .int .i64 0] (tripleA (s, x, y)) (Below.refl wr.heap.size wr) (Nat.le_refl _)
        have HO1 := Lib.hid (own_below HO.out DL)
        have hne : (Value.slice (some ⟨g6, 0, none⟩) n c6).ownBlock ≠ some wr.heap.size := fun h => by
          have h1 := (HO.out.lt g6 rfl).2
          have h2 : g6 = wr.heap.size := Option.some.inj h
          omega
        have HNE := Lib.hid hne
        have hB1 := HB.out.trans (DL.mono HB.out.size)
        have HWZ : Hid (∀ W, Calls Try.prog fn #[.bool u1, .bool v1] W fun e w' => e = .returned (.bool z) ∧ w' = W) := Lib.hid (fun W => by rw [← hop]; exact HW.out u1 v1 W)
        have hzz : (z != z) = false := by cases z <;> rfl
        have f1 : decide ((j : Int) < (n : Int)) = true := decide_eq_true (by omega)
        have f2 : decide ((j : Int) < 4000) = true := decide_eq_true (by omega)
        clear hgood hlies ht LL DL hne hsome HO HB hop
        go_wp2_with (first
          | (refine at_slot 66 rfl ?_; refine load_span rfl 55 _ rfl g6 (j * 3) rfl (tripleA (s, x, y)) HCE.out Try.underlying55 rfl infoTripleZ ?_)
          | (refine at_store 55 (.tmp 14) (.tmp 66) rfl ?_; refine wpList_store_row rfl 55 _ _ rfl wr.heap.size (tripleA (s, x, y)) rfl rfl 55 _ Z infoTripleZ rfl (tripleA_one _) ?_))
        clear Z HCE
        generalize (wr.alloc (.cells #[.int .i64 0, .int .i64 0, .int .i64 0] 55)).setRow wr.heap.size (tripleA (s, x, y)) = w3 at *
        generalize wr.heap.size = b14 at *
        have QP := Lib.hid (fun W (h : Below w3.heap.size w3 W) => U.stays h)
        have QD := Lib.hid (fun W (h : Below w3.heap.size w3 W) => HRD.out W (hB1.trans (h.mono hB1.size)))
        have QA := Lib.hid (fun W (h : Below w3.heap.size w3 W) => HRA.out W (hB1.trans (h.mono hB1.size)))
        have QB := Lib.hid (fun W (h : Below w3.heap.size w3 W) => HRB.out W (hB1.trans (h.mono hB1.size)))
        have KD := Lib.hid (fun W (h : Below w3.heap.size w3 W) => bools_cell (XBD.out W (hB1.trans (h.mono hB1.size))) hs2)
        have KA := Lib.hid (fun W (h : Below w3.heap.size w3 W) => bools_cell (XBA.out W (hB1.trans (h.mono hB1.size))) hx2)
        have KB := Lib.hid (fun W (h : Below w3.heap.size w3 W) => bools_cell (XBB.out W (hB1.trans (h.mono hB1.size))) hy2)
        have HU := Lib.hid U
        have HB1 := Lib.hid hB1
        clear U hB1 hs2 hx2 hy2
        refine region_quiet (C := fun W => Below w3.heap.size w3 W) (by kernel_rfl) (by kernel_rfl) (Below.refl _ _).drew ?_
        refine q_yields (v := ?_) (Or.inl ⟨by rfl, ?_⟩) ?_
        rotate_left
        · intro _ _; go_simp; with_reducible rfl
        simp only [Act.put, List.setIfInBounds_toArray, List.set_cons_zero, List.set_cons_succ]
        refine q_yields (v := .slice (some ⟨gd', od', none⟩) md d') (Or.inl ⟨by rfl, fun wq hC => by have hcell := (QD.out wq hC).cell 3; go_simp; try with_reducible rfl⟩) ?_
        simp only [Act.put, List.setIfInBounds_toArray, List.set_cons_zero, List.set_cons_succ]
        refine q_yields (v := ?_) (Or.inl ⟨by rfl, ?_⟩) ?_
        rotate_left
        · intro _ _; go_simp; with_reducible rfl
        simp only [Act.put, List.setIfInBounds_toArray, List.set_cons_zero, List.set_cons_succ]
        refine q_yields (v := .int .i64 (s : Int)) (Or.inl ⟨by rfl, fun wq hC => by have hcell := triple_cell0 (QP.out wq hC); go_simp; try with_reducible rfl⟩) ?_
        simp only [Act.put, List.setIfInBounds_toArray, List.set_cons_zero, List.set_cons_succ]
        refine q_yields (v := ?_) (Or.inl ⟨by rfl, ?_⟩) ?_
        rotate_left
        · intro _ _; go_simp; with_reducible rfl
        simp only [Act.put, List.setIfInBounds_toArray, List.set_cons_zero, List.set_cons_succ]
        refine q_yields (v := .bool z) (Or.inl ⟨by rfl, fun wq hC => by have hcell := KD.out wq hC; go_simp; try with_reducible rfl⟩) ?_
        simp only [Act.put, List.setIfInBounds_toArray, List.set_cons_zero, List.set_cons_succ]
        refine q_yields (v := ?_) (Or.inl ⟨by rfl, ?_⟩) ?_
        rotate_left
        · intro _ _; go_simp; with_reducible rfl
        simp only [Act.put, List.setIfInBounds_toArray, List.set_cons_zero, List.set_cons_succ]
        refine q_yields (v := ?_) (Or.inl ⟨by rfl, ?_⟩) ?_
        rotate_left
        · intro _ _; go_simp; with_reducible rfl
        simp only [Act.put, List.setIfInBounds_toArray, List.set_cons_zero, List.set_cons_succ]
        refine q_yields (v := .slice (some ⟨ga', oa', none⟩) ma c') (Or.inl ⟨by rfl, fun wq hC => by have hcell := (QA.out wq hC).cell 3; go_simp; try with_reducible rfl⟩) ?_
        simp only [Act.put, List.setIfInBounds_toArray, List.set_cons_zero, List.set_cons_succ]
        refine q_yields (v := ?_) (Or.inl ⟨by rfl, ?_⟩) ?_
        rotate_left
        · intro _ _; go_simp; with_reducible rfl
        simp only [Act.put, List.setIfInBounds_toArray, List.set_cons_zero, List.set_cons_succ]
        refine q_yields (v := .int .i64 (x : Int)) (Or.inl ⟨by rfl, fun wq hC => by have hcell := triple_cell1 (QP.out wq hC); go_simp; try with_reducible rfl⟩) ?_
        simp only [Act.put, List.setIfInBounds_toArray, List.set_cons_zero, List.set_cons_succ]
        refine q_yields (v := ?_) (Or.inl ⟨by rfl, ?_⟩) ?_
        rotate_left
        · intro _ _; go_simp; with_reducible rfl
        simp only [Act.put, List.setIfInBounds_toArray, List.set_cons_zero, List.set_cons_succ]
        refine q_yields (v := .bool u1) (Or.inl ⟨by rfl, fun wq hC => by have hcell := KA.out wq hC; go_simp; try with_reducible rfl⟩) ?_
        simp only [Act.put, List.setIfInBounds_toArray, List.set_cons_zero, List.set_cons_succ]
        refine q_yields (v := ?_) (Or.inl ⟨by rfl, ?_⟩) ?_
        rotate_left
        · intro _ _; go_simp; with_reducible rfl
        simp only [Act.put, List.setIfInBounds_toArray, List.set_cons_zero, List.set_cons_succ]
        refine q_yields (v := .slice (some ⟨gb', ob', none⟩) mb e') (Or.inl ⟨by rfl, fun wq hC => by have hcell := (QB.out wq hC).cell 3; go_simp; try with_reducible rfl⟩) ?_
        simp only [Act.put, List.setIfInBounds_toArray, List.set_cons_zero, List.set_cons_succ]
        refine q_yields (v := ?_) (Or.inl ⟨by rfl, ?_⟩) ?_
        rotate_left
        · intro _ _; go_simp; with_reducible rfl
        simp only [Act.put, List.setIfInBounds_toArray, List.set_cons_zero, List.set_cons_succ]
        refine q_yields (v := .int .i64 (y : Int)) (Or.inl ⟨by rfl, fun wq hC => by have hcell := triple_cell2 (QP.out wq hC); go_simp; try with_reducible rfl⟩) ?_
        simp only [Act.put, List.setIfInBounds_toArray, List.set_cons_zero, List.set_cons_succ]
        refine q_yields (v := ?_) (Or.inl ⟨by rfl, ?_⟩) ?_
        rotate_left
        · intro _ _; go_simp; with_reducible rfl
        simp only [Act.put, List.setIfInBounds_toArray, List.set_cons_zero, List.set_cons_succ]
        refine q_yields (v := .bool v1) (Or.inl ⟨by rfl, fun wq hC => by have hcell := KB.out wq hC; go_simp; try with_reducible rfl⟩) ?_
        simp only [Act.put, List.setIfInBounds_toArray, List.set_cons_zero, List.set_cons_succ]
        refine q_call (by rfl) (.bool z) (fun wq hC => by unfold Oper.quietAt; go_simp; exact is_class15 hC (HWZ.out _)) ?_
        simp only [Act.put, List.setIfInBounds_toArray, List.set_cons_zero, List.set_cons_succ]
        refine q_yields (v := ?_) (Or.inl ⟨by rfl, ?_⟩) ?_
        rotate_left
        · intro _ _; go_simp; with_reducible rfl
        simp only [Act.put, List.setIfInBounds_toArray, List.set_cons_zero, List.set_cons_succ]
        refine wpQuiet_nil ?_
        intro w' hC
        have HB4 := Lib.hid (HB1.out.trans (hC.mono HB1.out.size))
        have HU4 := Lib.hid (HU.out.stays hC)
        have HO4 := Lib.hid (own_below HO1.out hC)
        clear hC HU HB1 HO1 QP QD QA QB KD KA KB HWZ
        go_wp2_with fail
        clear hzz
        go_loopw [15, 12] (fun i v wi => ∃ (q m : Nat) (L2 : List (Nat × Nat × Nat)), q ≤ k ∧ i = .int .i64 (q : Int) ∧ Hid (L2.length = m) ∧ Hid (n ≤ m ∧ m ≤ 1 + 9 * j + q) ∧ Hid (∀ t ∈ L2, Au.Good lp t) ∧ Hid (wi.ownsRow w2.heap.size 55 3 v m (flat tripleA L2)) ∧ Hid (v.ownBlock ≠ some b14) ∧ Hid (Row wi b14 55 (tripleA (s, x, y))) ∧ Hid (Below w2.heap.size w2 wi)) (fun i _ _ => k - (intOf i).toNat)
        case atStart => exact ⟨0, n, L, Nat.zero_le _, rfl, HLN, Lib.hid ⟨Nat.le_refl _, HN9.out⟩, HGD, HO4, HNE, HU4, HB4⟩
        case round =>
          clear HO4 HNE HU4 HB4
          obtain ⟨q, m, L2, hq, rfl, HLM, HMB, HGD2, HO2, HNE, HP7, HB2⟩ := hrel
          have a0 := (HRA.out _ HB2.out).cell 0
          by_cases hq2 : q < k
          · obtain ⟨⟨P1, z1, p1, p2, hz1, s1⟩, ⟨P2, z2, p3, p4, hz2, s2⟩, ⟨P3, z3, p5, p6, hz3, s3⟩, hgt⟩ := HSTEP.out s x y HGOOD.out q hq2
            generalize Au.step fd s q = t1 at *
            generalize Au.step fa x q = t2 at *
            generalize Au.step fb y q = t3 at *
            have HGT := Lib.hid hgt
            have KD := Lib.hid (fun W (h : Below w2.heap.size w2 W) => nums_cell (XND.out W h) s1)
            have KA := Lib.hid (fun W (h : Below w2.heap.size w2 W) => nums_cell (XNA.out W h) s2)
            have KB := Lib.hid (fun W (h : Below w2.heap.size w2 W) => nums_cell (XNB.out W h) s3)
            obtain ⟨A7, c7, rfl, _, _⟩ := own_anyN HO2.out
            clear s1 s2 s3 hgt
            go_wp2_with fail
            clear a0
            have B0 : Below w2.heap.size w2 wr.drew := HB2.out.drew
            have HO3 := Lib.hid (own_below HO2.out (Below.refl wr.heap.size wr).drew)
            have HP3 : Row wr.drew b14 55 (tripleA (s, x, y)) := HP7.out.drew
            refine wp_region_held_drew (S := fun W => Below wr.drew.heap.size wr.drew W) (by kernel_rfl) (Below.refl _ _) (fun hS => ?_)
            clear HO2 HB2 HP7
            generalize wr.drew = y0 at *
            have HB0 := Lib.hid B0
            have QD := Lib.hid (fun W (h : Below y0.heap.size y0 W) => HRD.out W (HB0.out.trans (h.mono HB0.out.size)))
            have QA := Lib.hid (fun W (h : Below y0.heap.size y0 W) => HRA.out W (HB0.out.trans (h.mono HB0.out.size)))
            have QB := Lib.hid (fun W (h : Below y0.heap.size y0 W) => HRB.out W (HB0.out.trans (h.mono HB0.out.size)))
            have KD2 := Lib.hid (fun W (h : Below y0.heap.size y0 W) => KD.out W (HB0.out.trans (h.mono HB0.out.size)))
            have KA2 := Lib.hid (fun W (h : Below y0.heap.size y0 W) => KA.out W (HB0.out.trans (h.mono HB0.out.size)))
            have KB2 := Lib.hid (fun W (h : Below y0.heap.size y0 W) => KB.out W (HB0.out.trans (h.mono HB0.out.size)))
            have QP := Lib.hid (fun W (h : Below y0.heap.size y0 W) => HP3.stays h)
            clear B0 KD KA KB
            refine wpAnyH_take (i := 0) (v := ?_) rfl (by kernel_rfl) (by kernel_rfl) (by kernel_rfl) (fun _ _ _ h => h) (Or.inl ⟨by rfl, ?_⟩) (by assumption) ?_
            rotate_left
            · intro _ _; go_simp; with_reducible rfl
            simp only [Act.put, List.setIfInBounds_toArray, List.set_cons_zero, List.set_cons_succ, List.getElem_toArray, List.getElem_cons_zero]
            refine wpAnyH_take (i := 1) (v := .slice (some ⟨gd, od, none⟩) nd d) rfl (by kernel_rfl) (by kernel_rfl) (by kernel_rfl) (fun _ _ _ h => h) (Or.inl ⟨by rfl, fun wq hC => by have hcell := (QD.out wq hC).cell 2; go_simp; try with_reducible rfl⟩) (by assumption) ?_
            simp only [Act.put, List.setIfInBounds_toArray, List.set_cons_zero, List.set_cons_succ, List.getElem_toArray, List.getElem_cons_zero, List.getElem_cons_succ]
            refine wpAnyH_take (i := 2) (v := ?_) rfl (by kernel_rfl) (by kernel_rfl) (by kernel_rfl) (fun _ _ _ h => h) (Or.inl ⟨by rfl, ?_⟩) (by assumption) ?_
            rotate_left
            · intro _ _; go_simp; with_reducible rfl
            simp only [Act.put, List.setIfInBounds_toArray, List.set_cons_zero, List.set_cons_succ, List.getElem_toArray, List.getElem_cons_zero, List.getElem_cons_succ]
            refine wpAnyH_take (i := 3) (v := .int .i64 (s : Int)) rfl (by kernel_rfl) (by kernel_rfl) (by kernel_rfl) (fun _ _ _ h => h) (Or.inl ⟨by rfl, fun wq hC => by have hcell := triple_cell0 (QP.out wq hC); go_simp; try with_reducible rfl⟩) (by assumption) ?_
            simp only [Act.put, List.setIfInBounds_toArray, List.set_cons_zero, List.set_cons_succ, List.getElem_toArray, List.getElem_cons_zero, List.getElem_cons_succ]
            refine wpAnyH_take (i := 4) (v := ?_) rfl (by kernel_rfl) (by kernel_rfl) (by kernel_rfl) (fun _ _ _ h => h) (Or.inl ⟨by rfl, ?_⟩) (by assumption) ?_
            rotate_left
            · intro _ _; go_simp; with_reducible rfl
            simp only [Act.put, List.setIfInBounds_toArray, List.set_cons_zero, List.set_cons_succ, List.getElem_toArray, List.getElem_cons_zero, List.getElem_cons_succ]
            refine wpAnyH_take (i := 5) (v := .int .i64 (k : Int)) rfl (by kernel_rfl) (by kernel_rfl) (by kernel_rfl) (fun _ _ _ h => h) (Or.inl ⟨by rfl, fun wq hC => by have hcell := (QD.out wq hC).cell 0; go_simp; try with_reducible rfl⟩) (by assumption) ?_
            simp only [Act.put, List.setIfInBounds_toArray, List.set_cons_zero, List.set_cons_succ, List.getElem_toArray, List.getElem_cons_zero, List.getElem_cons_succ]
            refine wpAnyH_take (i := 6) (v := ?_) rfl (by kernel_rfl) (by kernel_rfl) (by kernel_rfl) (fun _ _ _ h => h) (Or.inl ⟨by rfl, ?_⟩) (by assumption) ?_
            rotate_left
            · intro _ _; go_simp; with_reducible rfl
            simp only [Act.put, List.setIfInBounds_toArray, List.set_cons_zero, List.set_cons_succ, List.getElem_toArray, List.getElem_cons_zero, List.getElem_cons_succ]
            refine wpAnyH_take (i := 7) (v := ?_) rfl (by kernel_rfl) (by kernel_rfl) (by kernel_rfl) (fun _ _ _ h => h) (Or.inl ⟨by rfl, ?_⟩) (by assumption) ?_
            rotate_left
            · intro _ _; go_simp; with_reducible rfl
            simp only [Act.put, List.setIfInBounds_toArray, List.set_cons_zero, List.set_cons_succ, List.getElem_toArray, List.getElem_cons_zero, List.getElem_cons_succ]
            refine wpAnyH_take (i := 8) (v := ?_) rfl (by kernel_rfl) (by kernel_rfl) (by kernel_rfl) (fun _ _ _ h => h) (Or.inl ⟨by rfl, ?_⟩) (by assumption) ?_
            rotate_left
            · intro _ _; go_simp; with_reducible rfl
            simp only [Act.put, List.setIfInBounds_toArray, List.set_cons_zero, List.set_cons_succ, List.getElem_toArray, List.getElem_cons_zero, List.getElem_cons_succ]
            refine wpAnyH_take (i := 9) (v := ?_) rfl (by kernel_rfl) (by kernel_rfl) (by kernel_rfl) (fun _ _ _ h => h) (Or.inl ⟨by rfl, ?_⟩) (by assumption) ?_
            rotate_left
            · intro _ _; go_simp; with_reducible rfl
            simp only [Act.put, List.setIfInBounds_toArray, List.set_cons_zero, List.set_cons_succ, List.getElem_toArray, List.getElem_cons_zero, List.getElem_cons_succ]
            refine wpAnyH_take (i := 10) (v := .int .i64 (t1 : Int)) rfl (by kernel_rfl) (by kernel_rfl) (by kernel_rfl) (fun _ _ _ h => h) (Or.inl ⟨by rfl, fun wq hC => by have hcell := KD2.out wq hC; go_simp; try with_reducible rfl⟩) (by assumption) ?_
            simp only [Act.put, List.setIfInBounds_toArray, List.set_cons_zero, List.set_cons_succ, List.getElem_toArray, List.getElem_cons_zero, List.getElem_cons_succ]
            refine wpAnyH_take (i := 11) (v := ?_) rfl (by kernel_rfl) (by kernel_rfl) (by kernel_rfl) (fun _ _ _ h => h) (Or.inl ⟨by rfl, ?_⟩) (by assumption) ?_
            rotate_left
            · intro _ _; go_simp; with_reducible rfl
            simp only [Act.put, List.setIfInBounds_toArray, List.set_cons_zero, List.set_cons_succ, List.getElem_toArray, List.getElem_cons_zero, List.getElem_cons_succ]
            refine wpAnyH_take (i := 12) (v := .slice (some ⟨ga, oa, none⟩) na c) rfl (by kernel_rfl) (by kernel_rfl) (by kernel_rfl) (fun _ _ _ h => h) (Or.inl ⟨by rfl, fun wq hC => by have hcell := (QA.out wq hC).cell 2; go_simp; try with_reducible rfl⟩) (by assumption) ?_
            simp only [Act.put, List.setIfInBounds_toArray, List.set_cons_zero, List.set_cons_succ, List.getElem_toArray, List.getElem_cons_zero, List.getElem_cons_succ]
            refine wpAnyH_take (i := 13) (v := ?_) rfl (by kernel_rfl) (by kernel_rfl) (by kernel_rfl) (fun _ _ _ h => h) (Or.inl ⟨by rfl, ?_⟩) (by assumption) ?_
            rotate_left
            · intro _ _; go_simp; with_reducible rfl
            simp only [Act.put, List.setIfInBounds_toArray, List.set_cons_zero, List.set_cons_succ, List.getElem_toArray, List.getElem_cons_zero, List.getElem_cons_succ]
            refine wpAnyH_take (i := 14) (v := .int .i64 (x : Int)) rfl (by kernel_rfl) (by kernel_rfl) (by kernel_rfl) (fun _ _ _ h => h) (Or.inl ⟨by rfl, fun wq hC => by have hcell := triple_cell1 (QP.out wq hC); go_simp; try with_reducible rfl⟩) (by assumption) ?_
            simp only [Act.put, List.setIfInBounds_toArray, List.set_cons_zero, List.set_cons_succ, List.getElem_toArray, List.getElem_cons_zero, List.getElem_cons_succ]
            refine wpAnyH_take (i := 15) (v := ?_) rfl (by kernel_rfl) (by kernel_rfl) (by kernel_rfl) (fun _ _ _ h => h) (Or.inl ⟨by rfl, ?_⟩) (by assumption) ?_
            rotate_left
            · intro _ _; go_simp; with_reducible rfl
            simp only [Act.put, List.setIfInBounds_toArray, List.set_cons_zero, List.set_cons_succ, List.getElem_toArray, List.getElem_cons_zero, List.getElem_cons_succ]
            refine wpAnyH_take (i := 16) (v := .int .i64 (k : Int)) rfl (by kernel_rfl) (by kernel_rfl) (by kernel_rfl) (fun _ _ _ h => h) (Or.inl ⟨by rfl, fun wq hC => by have hcell := (QA.out wq hC).cell 0; go_simp; try with_reducible rfl⟩) (by assumption) ?_
            simp only [Act.put, List.setIfInBounds_toArray, List.set_cons_zero, List.set_cons_succ, List.getElem_toArray, List.getElem_cons_zero, List.getElem_cons_succ]
            refine wpAnyH_take (i := 17) (v := ?_) rfl (by kernel_rfl) (by kernel_rfl) (by kernel_rfl) (fun _ _ _ h => h) (Or.inl ⟨by rfl, ?_⟩) (by assumption) ?_
            rotate_left
            · intro _ _; go_simp; with_reducible rfl
            simp only [Act.put, List.setIfInBounds_toArray, List.set_cons_zero, List.set_cons_succ, List.getElem_toArray, List.getElem_cons_zero, List.getElem_cons_succ]
            refine wpAnyH_take (i := 18) (v := ?_) rfl (by kernel_rfl) (by kernel_rfl) (by kernel_rfl) (fun _ _ _ h => h) (Or.inl ⟨by rfl, ?_⟩) (by assumption) ?_
            rotate_left
            · intro _ _; go_simp; with_reducible rfl
            simp only [Act.put, List.setIfInBounds_toArray, List.set_cons_zero, List.set_cons_succ, List.getElem_toArray, List.getElem_cons_zero, List.getElem_cons_succ]
            refine wpAnyH_take (i := 19) (v := ?_) rfl (by kernel_rfl) (by kernel_rfl) (by kernel_rfl) (fun _ _ _ h => h) (Or.inl ⟨by rfl, ?_⟩) (by assumption) ?_
            rotate_left
            · intro _ _; go_simp; with_reducible rfl
            simp only [Act.put, List.setIfInBounds_toArray, List.set_cons_zero, List.set_cons_succ, List.getElem_toArray, List.getElem_cons_zero, List.getElem_cons_succ]
            refine wpAnyH_take (i := 20) (v := ?_) rfl (by kernel_rfl) (by kernel_rfl) (by kernel_rfl) (fun _ _ _ h => h) (Or.inl ⟨by rfl, ?_⟩) (by assumption) ?_
            rotate_left
            · intro _ _; go_simp; with_reducible rfl
            simp only [Act.put, List.setIfInBounds_toArray, List.set_cons_zero, List.set_cons_succ, List.getElem_toArray, List.getElem_cons_zero, List.getElem_cons_succ]
            refine wpAnyH_take (i := 21) (v := .int .i64 (t2 : Int)) rfl (by kernel_rfl) (by kernel_rfl) (by kernel_rfl) (fun _ _ _ h => h) (Or.inl ⟨by rfl, fun wq hC => by have hcell := KA2.out wq hC; go_simp; try with_reducible rfl⟩) (by assumption) ?_
            simp only [Act.put, List.setIfInBounds_toArray, List.set_cons_zero, List.set_cons_succ, List.getElem_toArray, List.getElem_cons_zero, List.getElem_cons_succ]
            refine wpAnyH_take (i := 22) (v := ?_) rfl (by kernel_rfl) (by kernel_rfl) (by kernel_rfl) (fun _ _ _ h => h) (Or.inl ⟨by rfl, ?_⟩) (by assumption) ?_
            rotate_left
            · intro _ _; go_simp; with_reducible rfl
            simp only [Act.put, List.setIfInBounds_toArray, List.set_cons_zero, List.set_cons_succ, List.getElem_toArray, List.getElem_cons_zero, List.getElem_cons_succ]
            refine wpAnyH_take (i := 23) (v := .slice (some ⟨gb, ob, none⟩) nb e) rfl (by kernel_rfl) (by kernel_rfl) (by kernel_rfl) (fun _ _ _ h => h) (Or.inl ⟨by rfl, fun wq hC => by have hcell := (QB.out wq hC).cell 2; go_simp; try with_reducible rfl⟩) (by assumption) ?_
            simp only [Act.put, List.setIfInBounds_toArray, List.set_cons_zero, List.set_cons_succ, List.getElem_toArray, List.getElem_cons_zero, List.getElem_cons_succ]
            refine wpAnyH_take (i := 24) (v := ?_) rfl (by kernel_rfl) (by kernel_rfl) (by kernel_rfl) (fun _ _ _ h => h) (Or.inl ⟨by rfl, ?_⟩) (by assumption) ?_
            rotate_left
            · intro _ _; go_simp; with_reducible rfl
            simp only [Act.put, List.setIfInBounds_toArray, List.set_cons_zero, List.set_cons_succ, List.getElem_toArray, List.getElem_cons_zero, List.getElem_cons_succ]
            refine wpAnyH_take (i := 25) (v := .int .i64 (y : Int)) rfl (by kernel_rfl) (by kernel_rfl) (by kernel_rfl) (fun _ _ _ h => h) (Or.inl ⟨by rfl, fun wq hC => by have hcell := triple_cell2 (QP.out wq hC); go_simp; try with_reducible rfl⟩) (by assumption) ?_
            simp only [Act.put, List.setIfInBounds_toArray, List.set_cons_zero, List.set_cons_succ, List.getElem_toArray, List.getElem_cons_zero, List.getElem_cons_succ]
            refine wpAnyH_take (i := 26) (v := ?_) rfl (by kernel_rfl) (by kernel_rfl) (by kernel_rfl) (fun _ _ _ h => h) (Or.inl ⟨by rfl, ?_⟩) (by assumption) ?_
            rotate_left
            · intro _ _; go_simp; with_reducible rfl
            simp only [Act.put, List.setIfInBounds_toArray, List.set_cons_zero, List.set_cons_succ, List.getElem_toArray, List.getElem_cons_zero, List.getElem_cons_succ]
            refine wpAnyH_take (i := 27) (v := .int .i64 (k : Int)) rfl (by kernel_rfl) (by kernel_rfl) (by kernel_rfl) (fun _ _ _ h => h) (Or.inl ⟨by rfl, fun wq hC => by have hcell := (QB.out wq hC).cell 0; go_simp; try with_reducible rfl⟩) (by assumption) ?_
            simp only [Act.put, List.setIfInBounds_toArray, List.set_cons_zero, List.set_cons_succ, List.getElem_toArray, List.getElem_cons_zero, List.getElem_cons_succ]
            refine wpAnyH_take (i := 28) (v := ?_) rfl (by kernel_rfl) (by kernel_rfl) (by kernel_rfl) (fun _ _ _ h => h) (Or.inl ⟨by rfl, ?_⟩) (by assumption) ?_
            rotate_left
            · intro _ _; go_simp; with_reducible rfl
            simp only [Act.put, List.setIfInBounds_toArray, List.set_cons_zero, List.set_cons_succ, List.getElem_toArray, List.getElem_cons_zero, List.getElem_cons_succ]
            refine wpAnyH_take (i := 29) (v := ?_) rfl (by kernel_rfl) (by kernel_rfl) (by kernel_rfl) (fun _ _ _ h => h) (Or.inl ⟨by rfl, ?_⟩) (by assumption) ?_
            rotate_left
            · intro _ _; go_simp; with_reducible rfl
            simp only [Act.put, List.setIfInBounds_toArray, List.set_cons_zero, List.set_cons_succ, List.getElem_toArray, List.getElem_cons_zero, List.getElem_cons_succ]
            refine wpAnyH_take (i := 30) (v := ?_) rfl (by kernel_rfl) (by kernel_rfl) (by kernel_rfl) (fun _ _ _ h => h) (Or.inl ⟨by rfl, ?_⟩) (by assumption) ?_
            rotate_left
            · intro _ _; go_simp; with_reducible rfl
            simp only [Act.put, List.setIfInBounds_toArray, List.set_cons_zero, List.set_cons_succ, List.getElem_toArray, List.getElem_cons_zero, List.getElem_cons_succ]
            refine wpAnyH_take (i := 31) (v := ?_) rfl (by kernel_rfl) (by kernel_rfl) (by kernel_rfl) (fun _ _ _ h => h) (Or.inl ⟨by rfl, ?_⟩) (by assumption) ?_
            rotate_left
            · intro _ _; go_simp; with_reducible rfl
            simp only [Act.put, List.setIfInBounds_toArray, List.set_cons_zero, List.set_cons_succ, List.getElem_toArray, List.getElem_cons_zero, List.getElem_cons_succ]
            refine wpAnyH_take (i := 32) (v := .int .i64 (t3 : Int)) rfl (by kernel_rfl) (by kernel_rfl) (by kernel_rfl) (fun _ _ _ h => h) (Or.inl ⟨by rfl, fun wq hC => by have hcell := KB2.out wq hC; go_simp; try with_reducible rfl⟩) (by assumption) ?_
            simp only [Act.put, List.setIfInBounds_toArray, List.set_cons_zero, List.set_cons_succ, List.getElem_toArray, List.getElem_cons_zero, List.getElem_cons_succ]
            refine wpAnyH_take (i := 33) rfl (by kernel_rfl) (by kernel_rfl) (by kernel_rfl) (fun _ _ _ h => h) (yields_built3 (by rfl) 55 0 1 2 (.tmp 104) (.tmp 115) (.tmp 126) rfl (.int .i64 (t1 : Int)) (.int .i64 (t2 : Int)) (.int .i64 (t3 : Int)) rfl rfl rfl (tripleA (t1, t2, t3)) (built_triple15 t1 t2 t3)) (by assumption) ?_
            simp only [Act.put, List.setIfInBounds_toArray, List.set_cons_zero, List.set_cons_succ, List.getElem_toArray, List.getElem_cons_zero, List.getElem_cons_succ]
            have le0 := Below.size hS
            have Z3 := Row.new y0 55 #[.int .i64 0, .int .i64 0, .int .i64 0]
            refine wpAnyH_ready (rs := [34]) (by kernel_rfl) (by simp) (AllReadyH.cons rfl (fun K hK => ?_) AllReadyH.nil)
            rw [if_pos (by rfl)]
            go_simp
            have S1 := Below.alloc hS (Below.size hS) (.cells #[.int .i64 0, .int .i64 0, .int .i64 0] 55)
            refine hK.out _ _ S1 (fun _ => ?_)
            clear hK K
            refine wpAnyH_ready (rs := [35]) (by kernel_rfl) (by simp) (AllReadyH.cons rfl (fun K hK => ?_) AllReadyH.nil)
            rw [if_pos (by rfl)]
            refine wp_store_row 55 _ _ rfl y0.heap.size (tripleA (t1, t2, t3)) rfl rfl 55 _ Z3 infoTripleZ rfl (tripleA_one _) ?_
            have S2 := below_setRow (g := y0.heap.size) S1 (by first | exact Below.size S1 | (have := Below.size S1; simp at this; omega) | assumption | omega) (tripleA (t1, t2, t3))
            have Z4 := Row.whole Z3 (tripleA (t1, t2, t3))
            refine hK.out _ _ S2 (fun _ => ?_)
            clear hK K
            refine wpAnyH_done (by kernel_rfl) ?_ _
            have HP5 := HP3.stays S2
            have HO4 := own_below HO3.out S2
            have B1 := HB0.out.trans (S2.mono HB0.out.size)
            generalize (y0.alloc (.cells #[.int .i64 0, .int .i64 0, .int .i64 0] 55)).setRow y0.heap.size (tripleA (t1, t2, t3)) = y1 at *
            generalize y0.heap.size = b16 at *
            clear S1 S2 hS le0 Z3 HP3 HO3 HB0 QD QA QB KD2 KA2 KB2 QP p1 p2 p3 p4 p5 p6 hz1 hz2 hz3
            have HV := Lib.hid (lies_own (B := w2.heap.size) (t := 55) (enc := tripleA) (xs := L2) (by rw [HLM.out]; exact HO4))
            have HP6 := Lib.hid HP5
            have HO5 := Lib.hid HO4
            have HB5 := Lib.hid B1
            have HZ5 := Lib.hid Z4
            clear HP5 HO4 B1 Z4
            go_wp2_with fail
            go_loopw [17, 130] (fun kn i wi => ∃ (r : Nat) (b : Bool), r ≤ m ∧ i = .int .i64 (r : Int) ∧ kn = .bool b ∧ Hid (b = decide ((t1, t2, t3) ∈ L2.take r)) ∧ Hid (Below y1.heap.size y1 wi)) (fun _ i _ => m - (intOf i).toNat)
            case atStart => exact ⟨0, false, Nat.zero_le _, rfl, rfl, Lib.hid (by simp), Lib.hid (Below.refl _ _)⟩
            case round =>
              obtain ⟨r, b, hr, rfl, rfl, HBQ, HB6⟩ := hrel
              by_cases hr2 : r < m
              · obtain ⟨x', hx'⟩ : ∃ p, L2[r]? = some p := ⟨_, List.getElem?_eq_getElem (by rw [HLM.out]; exact hr2)⟩
                have hv2 := HV.out.stays HB6.out
                obtain ⟨g7, o7, rfl, hg⟩ := hv2.block.2.2 (by rw [HLM.out]; omega)
                rw [← HLM.out] at hv2
                have HCE := Lib.hid (hv2.one (fun x _ => tripleA_size x) hx')
                have htk := take_in (p := (t1, t2, t3)) hx'
                rw [← HBQ.out] at htk
                have heq : ∀ W, (binOp .eql 55 (.agg (tripleA x')) (.agg (tripleA (t1, t2, t3)))).run Try.prog W = .ok (.bool (decide (x' = (t1, t2, t3)))) W := fun W => eql_triple x' (t1, t2, t3) W
                generalize decide (x' = (t1, t2, t3)) = bq at *
                obtain ⟨Z, U, DL, LL⟩ := lay_row 55 #[.int .i64 0, .int .i64 0, .int .i64 0] (tripleA x') (Below.refl wr.heap.size wr) (Nat.le_refl _)
                have HB7 := Lib.hid (HB6.out.trans (DL.mono HB6.out.size))
                have Z6 := HZ5.out.stays HB7.out
                have HTK := Lib.hid htk
                obtain ⟨X, hX⟩ : ∃ X, tripleA x' = X := ⟨_, rfl⟩
                have HXN := Lib.hid (show (Try.prog.info? 55).map (·.size) = some X.size by rw [← hX]; exact infoTripleZ)
                have HXZ := Lib.hid (show (#[.int .i64 0, .int .i64 0, .int .i64 0] : Array Value).size = X.size by rw [← hX]; rfl)
                have HX1 := Lib.hid (show X.all (·.oneCell') = true by rw [← hX]; exact tripleA_one _)
                rw [hX] at HCE heq U Z6 HB7
                have hr4 : r < 40000 := by have := HMB.out.2; have := HK9.out; omega
                clear hx' hv2 htk DL LL HB6 hg hX HBQ
                cases b with
                | false =>
                  have HTK2 : Hid (bq = decide ((t1, t2, t3) ∈ L2.take (r + 1))) := Lib.hid (by rw [HTK.out]; rfl)
                  clear HTK
                  go_wp2_with (first
                    | (refine at_slot 133 rfl ?_; refine load_span rfl 55 _ rfl g7 (o7 + r * 3) rfl X HCE.out Try.underlying55 rfl HXN.out ?_)
                    | (refine at_store 55 (.tmp 19) (.tmp 133) rfl ?_; refine wpList_store_row rfl 55 _ _ rfl wr.heap.size X rfl rfl 55 _ Z HXN.out HXZ.out HX1.out ?_)
                    | (refine at_slot 136 rfl ?_; refine load_row rfl 55 _ rfl wr.heap.size rfl U Try.underlying55 rfl HXN.out ?_)
                    | (refine at_slot 137 rfl ?_; refine load_row rfl 55 _ rfl b16 rfl Z6 Try.underlying55 rfl infoTripleZ ?_))
                  go_roundw
                  case rel => exact ⟨r + 1, bq, by omega, by go_num, rfl, HTK2, HB7⟩
                  case measure => simp [intOf]; omega
                | true =>
                  have HTK2 : Hid (true = decide ((t1, t2, t3) ∈ L2.take (r + 1))) := Lib.hid (by rw [HTK.out]; rfl)
                  clear HTK heq
                  go_wp2_with (first
                    | (refine at_slot 133 rfl ?_; refine load_span rfl 55 _ rfl g7 (o7 + r * 3) rfl X HCE.out Try.underlying55 rfl HXN.out ?_)
                    | (refine at_store 55 (.tmp 19) (.tmp 133) rfl ?_; refine wpList_store_row rfl 55 _ _ rfl wr.heap.size X rfl rfl 55 _ Z HXN.out HXZ.out HX1.out ?_))
                  go_roundw
                  case rel => exact ⟨r + 1, true, by omega, by go_num, rfl, HTK2, HB7⟩
                  case measure => simp [intOf]; omega
              · have HBE : Hid (b = decide ((t1, t2, t3) ∈ L2)) := Lib.hid (by rw [HBQ.out, List.take_of_length_le (by rw [HLM.out]; omega)])
                have HP8 := Lib.hid (HP6.out.stays HB6.out)
                have HO6 := Lib.hid (own_below HO5.out HB6.out)
                have HB8 := Lib.hid (HB5.out.trans (HB6.out.mono HB5.out.size))
                have Z8 := HZ5.out.stays HB6.out
                clear HP6 HO5 HB5 HZ5 HB6 HBQ
                cases b with
                | true =>
                  have HMB2 : Hid (n ≤ m ∧ m ≤ 1 + 9 * j + (q + 1)) := Lib.hid ⟨HMB.out.1, by have := HMB.out.2; omega⟩
                  clear Z8 HBE
                  go_wp2
                  go_roundw
                  case rel => exact ⟨q + 1, m, L2, by omega, by go_num, HLM, HMB2, HGD2, HO6, HNE, HP8, HB8⟩
                  case measure => simp [intOf]; omega
                | false =>
                  have HMB2 : Hid (n ≤ m + 1 ∧ m + 1 ≤ 1 + 9 * j + (q + 1)) := Lib.hid ⟨by have := HMB.out.1; omega, by have := HMB.out.2; omega⟩
                  have HLM2 : Hid ((L2 ++ [(t1, t2, t3)]).length = m + 1) := Lib.hid (by rw [List.length_append, HLM.out]; rfl)
                  have HGD3 : Hid (∀ t ∈ L2 ++ [(t1, t2, t3)], Au.Good lp t) := Lib.hid (fun t ht => by
                    rcases List.mem_append.1 ht with h | h
                    · exact HGD2.out t h
                    · rw [List.mem_singleton.1 h]; exact HGT.out)
                  have HLE2 : Hid (m + [(t1, t2, t3)].length ≤ 1048576) := Lib.hid (by have := HMB.out.2; have := HK9.out; show m + 1 ≤ _; omega)
                  have HSZ : Hid (w2.heap.size ≤ (wr.alloc (.cells (tripleA (t1, t2, t3)) 55)).heap.size) := Lib.hid (by have := HB8.out.size; simp; omega)
                  have HP9 := Lib.hid (HP8.out.alloc (.cells (tripleA (t1, t2, t3)) 55))
                  have HB9 := Lib.hid (HB8.out.alloc HB8.out.size (.cells (tripleA (t1, t2, t3)) 55))
                  have hb14 := HP8.out.lt
                  clear HBE
                  go_wp2_with (first
                    | (refine at_slot 144 rfl ?_; refine load_row rfl 55 _ rfl b16 rfl Z8 Try.underlying55 rfl infoTripleZ ?_)
                    | (refine at_slot 145 rfl ?_; refine build_slice_one rfl _ rfl (tripleA (t1, t2, t3)) rfl Try.underlying56 infoTripleF rfl (by decide) (by decide) ?_)
                    | (refine at_slot 146 rfl ?_; refine append_lies (sv := .slice A7 m c7) (enc := tripleA) (xs := [(t1, t2, t3)]) rfl _ _ rfl Try.underlying56 infoTripleF rfl (by decide) (by decide) rfl (HO6.out.alloc _) rfl (fun x _ => tripleA_size x) (fun x _ => tripleA_one x) (lies_single (Row.new _ _ _)) HLE2.out HSZ.out ?_; intro v9 y9 O9 g9 hv9))
                  have HO9 : Hid (y9.ownsRow w2.heap.size 55 3 v9 (m + 1) (flat tripleA (L2 ++ [(t1, t2, t3)]))) := Lib.hid (by rw [flat_snoc3] at O9; exact O9)
                  have HNE9 : Hid (v9.ownBlock ≠ some b14) := Lib.hid (fun h => by
                    rcases hv9 with kk | kk
                    · exact HNE.out (by rw [← kk]; exact h)
                    · rw [kk] at h
                      have h := Option.some.inj h
                      simp at h
                      omega)
                  have HP10 := Lib.hid (HP9.out.kept g9 (fun h => HNE.out h.symm))
                  have HB10 := Lib.hid (HB9.out.grown g9 HSZ.out (fun q hq => (HO6.out.lt q hq).1))
                  clear O9 g9 hv9
                  go_wp2
                  go_roundw
                  case rel => exact ⟨q + 1, m + 1, L2 ++ [(t1, t2, t3)], by omega, by go_num, HLM2, HMB2, HGD3, HO9, HNE9, HP10, HB10⟩
                  case measure => simp [intOf]; omega
          · have HM9 : Hid (m ≤ 1 + 9 * (j + 1)) := Lib.hid (by have := HMB.out.2; have := HK9.out; omega)
            have HJM : Hid (j + 1 ≤ m) := Lib.hid (by have := HMB.out.1; omega)
            go_wp2
            go_roundw
            case rel => exact ⟨j + 1, m, L2, by omega, HJM.out, by go_num, HLM, HM9, HGD2, HO2, HB2⟩
            case measure => simp [intOf]; omega
      · have f1 : decide ((j : Int) < (n : Int)) = true := decide_eq_true (by omega)
        have f2 : decide ((j : Int) < 4000) = false := decide_eq_false (by omega)
        go_wp2
        go_ret
        exact ⟨rfl, HC2.out.trans (HB.out.mono HC2.out.size)⟩
    · have f1 : decide ((j : Int) < (n : Int)) = false := decide_eq_false (by omega)
      go_wp2
      go_ret
      exact ⟨rfl, HC2.out.trans (HB.out.mono HC2.out.size)⟩
end Go.Proofs.Ytdidogcgoghdmaa
