/- The walks of those that make one of two. -/
import Derived.Test.YtdidogcgoghdmaaDfaProduct
namespace Go.Proofs.Ytdidogcgoghdmaa
open Go.RowKit Go.Maps
theorem zero_any {w w' : World} {v : Value} (h : Auto w v Au.Dv.zero) : Auto w' v Au.Dv.zero := by
  obtain ⟨nv, av, rfl, h1, h2⟩ := h.val
  obtain ⟨A, c, e, hc, _⟩ := h1.row
  obtain ⟨A2, c2, e2, hc2, _⟩ := h2.row
  exact ⟨⟨nv, av, rfl, ⟨⟨A, c, e, hc, fun h0 => absurd h0 (by simp [Au.Dv.zero, intVs])⟩⟩, ⟨⟨A2, c2, e2, hc2, fun h0 => absurd h0 (by simp [Au.Dv.zero, boolVs])⟩⟩⟩, h.kw, h.sw, h.n1, h.n2⟩
/-- The world when both are put aside, and the answer's cells are made. -/
def twoW (w : World) (ca cb : Array Value) : World := ((w.alloc (.cells ca 25)).alloc (.cells cb 25)).alloc (.cells zeroD 25)
theorem twoW_below (w : World) (ca cb : Array Value) : Below w.heap.size w (twoW w ca cb) := (((Below.refl w.heap.size w).alloc (Nat.le_refl _) _).alloc (by simp) _).alloc (by simp; omega) _
theorem twoW_size (w : World) (ca cb : Array Value) : (twoW w ca cb).heap.size = w.heap.size + 3 := by simp [twoW]
theorem twoW_a (w : World) (ca cb : Array Value) : Row (twoW w ca cb) w.heap.size 25 ca := ((Row.new w _ _).alloc _).alloc _
theorem twoW_b (w : World) (ca cb : Array Value) : Row (twoW w ca cb) (w.heap.size + 1) 25 cb := (row_next (by simp)).alloc _
theorem twoW_z (w : World) (ca cb : Array Value) : Row (twoW w ca cb) (w.heap.size + 1 + 1) 25 zeroD := row_next2 (by simp)
theorem four_one {k s : Int} {nv av : Value} (h1 : nv.oneCell' = true) (h2 : av.oneCell' = true) : (#[.int .i64 k, .int .i64 s, nv, av] : Array Value).all (·.oneCell') = true := by
  have a : ∀ n : Int, (Value.int .i64 n).oneCell' = true := fun _ => rfl
  simp [a, h1, h2]
def GaveT : Type := Int → Int → Value → Value → Int → World → Prop
def Gave (G : GaveT) (w : World) (e : Ending) (w' : World) : Prop := ∃ k s nv av code, e = .returned (.tuple #[.agg #[.int .i64 k, .int .i64 s, nv, av], .int .i64 code]) ∧ (nv.oneCell' = true ∧ av.oneCell' = true) ∧ Below w.heap.size w w' ∧ G k s nv av code w'
/-- What is given out of own rows. -/
def OwnG (w : World) (f : Au.Fa) : GaveT := fun k s nv av code w' => k = (f.k : Int) ∧ s = (f.start : Int) ∧ code = 0 ∧ ∃ n m, w'.ownsRow w.heap.size 3 1 nv n (natVs f.next) ∧ w'.ownsRow w.heap.size 4 1 av m (boolVs f.acc)
def ZeroG (n : Int) : GaveT := fun k s nv av code w' => code = n ∧ Auto w' (.agg #[.int .i64 k, .int .i64 s, nv, av]) Au.Dv.zero
theorem own_one {w : World} {B n m : Nat} {t : TypeId} {v : Value} {xs : List Value} (h : w.ownsRow B t m v n xs) : v.oneCell' = true := by
  obtain ⟨A, c, rfl, _⟩ := own_anyN h
  rfl
theorem gave_own {w w' : World} {f : Au.Fa} {e : Ending} (h : OwnAuto w f e w') : Gave (OwnG w f) w e w' := by
  obtain ⟨nv, av, n, m, rfl, h1, h2, h3⟩ := h
  exact ⟨_, _, _, _, _, rfl, ⟨own_one h1, own_one h2⟩, h3, rfl, rfl, rfl, n, m, h1, h2⟩
theorem gave_zero {w w' : World} {n : Int} {e : Ending} (h : NewAuto w Au.Dv.zero n e w') : Gave (ZeroG n) w e w' := by
  obtain ⟨v, rfl, ha, hb⟩ := h
  obtain ⟨nv, av, rfl, h1, h2⟩ := ha.val
  obtain ⟨A, c, rfl⟩ := h1.slice
  obtain ⟨A2, c2, rfl⟩ := h2.slice
  exact ⟨_, _, _, _, _, rfl, ⟨rfl, rfl⟩, hb, rfl, ha⟩
theorem Gave.mono {G G' : GaveT} {w w' : World} {e : Ending} (h : Gave G w e w') (hG : ∀ k s nv av code w', G k s nv av code w' → G' k s nv av code w') : Gave G' w e w' := by
  obtain ⟨k, s, nv, av, code, e1, h1, h2, h3⟩ := h
  exact ⟨k, s, nv, av, code, e1, h1, h2, hG _ _ _ _ _ _ h3⟩
theorem OwnG.end_ {w w' : World} {f : Au.Fa} {ca cb : Array Value} {k s code : Int} {nv av : Value} (h : OwnG (twoW w ca cb) f k s nv av code w') (hb : Below (twoW w ca cb).heap.size (twoW w ca cb) w') (cs : Array Value) : OwnAuto w f (.returned (.tuple #[.agg #[.int .i64 k, .int .i64 s, nv, av], .int .i64 code])) (w'.setRow (w.heap.size + 1 + 1) cs) := by
  obtain ⟨rfl, rfl, rfl, n, m, h1, h2⟩ := h
  have hs := twoW_size w ca cb
  have gs := grown_setRow w' (w.heap.size + 1 + 1) cs
  have k1 := h1.kept gs (by
    by_cases h : nv.ownBlock = some (w.heap.size + 1 + 1)
    · have := (h1.lt _ h).1; omega
    · exact .inr h)
  have k2 := h2.kept gs (by
    by_cases h : av.ownBlock = some (w.heap.size + 1 + 1)
    · have := (h2.lt _ h).1; omega
    · exact .inr h)
  exact ⟨nv, av, n, m, rfl, own_base k1 (by omega), own_base k2 (by omega), below_setRow ((twoW_below w ca cb).trans (hb.mono (by omega))) (by omega) _⟩
theorem ZeroG.end_ {w w' : World} {ca cb : Array Value} {k s code n : Int} {nv av : Value} (h : ZeroG n k s nv av code w') (hb : Below (twoW w ca cb).heap.size (twoW w ca cb) w') (cs : Array Value) : NewAuto w Au.Dv.zero n (.returned (.tuple #[.agg #[.int .i64 k, .int .i64 s, nv, av], .int .i64 code])) (w'.setRow (w.heap.size + 1 + 1) cs) := by
  obtain ⟨rfl, ha⟩ := h
  have hs := twoW_size w ca cb
  exact ⟨_, rfl, zero_any ha, below_setRow ((twoW_below w ca cb).trans (hb.mono (by omega))) (by omega) _⟩
/-! ### Both -/
set_option maxRecDepth 100000 in
set_option maxHeartbeats 4000000 in
theorem both1_calls (fa fb : Au.Fa) (w W : World) (ba bb : Nat) {ka sa kb sb : Value} {na nb xa xb : Value} (hw : Below w.heap.size w W) (RA : Row W ba 25 #[ka, sa, na, xa]) (RB : Row W bb 25 #[kb, sb, nb, xb]) (HA : Bools w xa fa.acc) (HB : Bools w xb fb.acc) (p : Nat × Nat) (h1 : p.1 < fa.n) (h2 : p.2 < fb.n) :
    Calls Try.prog 37 (#[.agg (pairA p)] ++ #[.pointer (some ⟨ba, 0, none⟩), .pointer (some ⟨bb, 0, none⟩)]) W fun e w' => e = .returned (.bool ((fun x y => x && y) (Au.accB fa p.1) (Au.accB fb p.2))) ∧ Below W.heap.size W w' := by
  obtain ⟨p1, p2⟩ := p
  have e1 := Au.accB_at h1
  have e2 := Au.accB_at h2
  obtain ⟨A, c, rfl⟩ := HA.slice
  obtain ⟨E, e, rfl⟩ := HB.slice
  obtain ⟨ga, oa, rfl, k1⟩ := HA.at e1
  obtain ⟨gb, ob, rfl, k2⟩ := HB.at e2
  show Calls Try.prog 37 #[.agg #[.int .i64 (p1 : Int), .int .i64 (p2 : Int)], .pointer (some ⟨ba, 0, none⟩), .pointer (some ⟨bb, 0, none⟩)] W _
  have hn1 : p1 < fa.acc.length := h1
  have hn2 : p2 < fb.acc.length := h2
  generalize Au.accB fa p1 = x at *
  generalize Au.accB fb p2 = y at *
  generalize fa.acc.length = m1 at *
  generalize fb.acc.length = m2 at *
  have D0 := (Below.refl W.heap.size W).alloc (Nat.le_refl _) (.cells #[.int .i64 (p1 : Int), .int .i64 (p2 : Int)] 50)
  have D1 := hw.trans (D0.mono hw.size)
  have a3 := (RA.stays D0).cell 3
  have b3 := (RB.stays D0).cell 3
  have c1 := (D1.cell (p := ⟨ga, oa + p1, none⟩) (World.block_lt_of_cell? w _ k1)).trans k1
  have c2 := (D1.cell (p := ⟨gb, ob + p2, none⟩) (World.block_lt_of_cell? w _ k2)).trans k2
  have HD := Lib.hid D0
  clear D0 D1 RA RB HA HB hw e1 e2 h1 h2 k1 k2
  cases x <;> cases y
  all_goals
    go_enter Try.func37, Try.ntmps37
    go_wp2
    go_ret
    exact ⟨rfl, HD.out⟩
/-! ### Either -/
set_option maxRecDepth 100000 in
set_option maxHeartbeats 4000000 in
theorem either1_calls (fa fb : Au.Fa) (w W : World) (ba bb : Nat) {ka sa kb sb : Value} {na nb xa xb : Value} (hw : Below w.heap.size w W) (RA : Row W ba 25 #[ka, sa, na, xa]) (RB : Row W bb 25 #[kb, sb, nb, xb]) (HA : Bools w xa fa.acc) (HB : Bools w xb fb.acc) (p : Nat × Nat) (h1 : p.1 < fa.n) (h2 : p.2 < fb.n) :
    Calls Try.prog 38 (#[.agg (pairA p)] ++ #[.pointer (some ⟨ba, 0, none⟩), .pointer (some ⟨bb, 0, none⟩)]) W fun e w' => e = .returned (.bool ((fun x y => x || y) (Au.accB fa p.1) (Au.accB fb p.2))) ∧ Below W.heap.size W w' := by
  obtain ⟨p1, p2⟩ := p
  have e1 := Au.accB_at h1
  have e2 := Au.accB_at h2
  obtain ⟨A, c, rfl⟩ := HA.slice
  obtain ⟨E, e, rfl⟩ := HB.slice
  obtain ⟨ga, oa, rfl, k1⟩ := HA.at e1
  obtain ⟨gb, ob, rfl, k2⟩ := HB.at e2
  show Calls Try.prog 38 #[.agg #[.int .i64 (p1 : Int), .int .i64 (p2 : Int)], .pointer (some ⟨ba, 0, none⟩), .pointer (some ⟨bb, 0, none⟩)] W _
  have hn1 : p1 < fa.acc.length := h1
  have hn2 : p2 < fb.acc.length := h2
  generalize Au.accB fa p1 = x at *
  generalize Au.accB fb p2 = y at *
  generalize fa.acc.length = m1 at *
  generalize fb.acc.length = m2 at *
  have D0 := (Below.refl W.heap.size W).alloc (Nat.le_refl _) (.cells #[.int .i64 (p1 : Int), .int .i64 (p2 : Int)] 50)
  have D1 := hw.trans (D0.mono hw.size)
  have a3 := (RA.stays D0).cell 3
  have b3 := (RB.stays D0).cell 3
  have c1 := (D1.cell (p := ⟨ga, oa + p1, none⟩) (World.block_lt_of_cell? w _ k1)).trans k1
  have c2 := (D1.cell (p := ⟨gb, ob + p2, none⟩) (World.block_lt_of_cell? w _ k2)).trans k2
  have HD := Lib.hid D0
  clear D0 D1 RA RB HA HB hw e1 e2 h1 h2 k1 k2
  cases x <;> cases y
  all_goals
    go_enter Try.func38, Try.ntmps38
    go_wp2
    go_ret
    exact ⟨rfl, HD.out⟩
/-! ### Less -/
set_option maxRecDepth 100000 in
set_option maxHeartbeats 4000000 in
theorem less1_calls (fa fb : Au.Fa) (w W : World) (ba bb : Nat) {ka sa kb sb : Value} {na nb xa xb : Value} (hw : Below w.heap.size w W) (RA : Row W ba 25 #[ka, sa, na, xa]) (RB : Row W bb 25 #[kb, sb, nb, xb]) (HA : Bools w xa fa.acc) (HB : Bools w xb fb.acc) (p : Nat × Nat) (h1 : p.1 < fa.n) (h2 : p.2 < fb.n) :
    Calls Try.prog 39 (#[.agg (pairA p)] ++ #[.pointer (some ⟨ba, 0, none⟩), .pointer (some ⟨bb, 0, none⟩)]) W fun e w' => e = .returned (.bool ((fun x y => x && !y) (Au.accB fa p.1) (Au.accB fb p.2))) ∧ Below W.heap.size W w' := by
  obtain ⟨p1, p2⟩ := p
  have e1 := Au.accB_at h1
  have e2 := Au.accB_at h2
  obtain ⟨A, c, rfl⟩ := HA.slice
  obtain ⟨E, e, rfl⟩ := HB.slice
  obtain ⟨ga, oa, rfl, k1⟩ := HA.at e1
  obtain ⟨gb, ob, rfl, k2⟩ := HB.at e2
  show Calls Try.prog 39 #[.agg #[.int .i64 (p1 : Int), .int .i64 (p2 : Int)], .pointer (some ⟨ba, 0, none⟩), .pointer (some ⟨bb, 0, none⟩)] W _
  have hn1 : p1 < fa.acc.length := h1
  have hn2 : p2 < fb.acc.length := h2
  generalize Au.accB fa p1 = x at *
  generalize Au.accB fb p2 = y at *
  generalize fa.acc.length = m1 at *
  generalize fb.acc.length = m2 at *
  have D0 := (Below.refl W.heap.size W).alloc (Nat.le_refl _) (.cells #[.int .i64 (p1 : Int), .int .i64 (p2 : Int)] 50)
  have D1 := hw.trans (D0.mono hw.size)
  have a3 := (RA.stays D0).cell 3
  have b3 := (RB.stays D0).cell 3
  have c1 := (D1.cell (p := ⟨ga, oa + p1, none⟩) (World.block_lt_of_cell? w _ k1)).trans k1
  have c2 := (D1.cell (p := ⟨gb, ob + p2, none⟩) (World.block_lt_of_cell? w _ k2)).trans k2
  have HD := Lib.hid D0
  clear D0 D1 RA RB HA HB hw e1 e2 h1 h2 k1 k2
  cases x <;> cases y
  all_goals
    go_enter Try.func39, Try.ntmps39
    go_wp2
    go_ret
    exact ⟨rfl, HD.out⟩
set_option maxRecDepth 100000 in
set_option maxHeartbeats 8000000 in
theorem both_walk (w : World) {ka sa kb sb : Int} {A A' E E' : Option Addr} {n c n' c' m e m' e' : Nat} {G : GaveT} {post : Ending → World → Prop}
    (HC : Calls Try.prog 36 #[.agg #[.int .i64 ka, .int .i64 sa, .slice A n c, .slice A' n' c'], .agg #[.int .i64 kb, .int .i64 sb, .slice E m e, .slice E' m' e'], .func (.func 37) #[] #[.pointer (some ⟨w.heap.size, 0, none⟩), .pointer (some ⟨w.heap.size + 1, 0, none⟩)]] (twoW w #[.int .i64 ka, .int .i64 sa, .slice A n c, .slice A' n' c'] #[.int .i64 kb, .int .i64 sb, .slice E m e, .slice E' m' e']) (Gave G (twoW w #[.int .i64 ka, .int .i64 sa, .slice A n c, .slice A' n' c'] #[.int .i64 kb, .int .i64 sb, .slice E m e, .slice E' m' e'])))
    (HF : ∀ k s nv av code w', G k s nv av code w' → Below (twoW w #[.int .i64 ka, .int .i64 sa, .slice A n c, .slice A' n' c'] #[.int .i64 kb, .int .i64 sb, .slice E m e, .slice E' m' e']).heap.size (twoW w #[.int .i64 ka, .int .i64 sa, .slice A n c, .slice A' n' c'] #[.int .i64 kb, .int .i64 sb, .slice E m e, .slice E' m' e']) w' → post (.returned (.tuple #[.agg #[.int .i64 k, .int .i64 s, nv, av], .int .i64 code])) (w'.setRow (w.heap.size + 1 + 1) #[.int .i64 k, .int .i64 s, nv, av])) :
    Calls Try.prog 22 #[.agg #[.int .i64 ka, .int .i64 sa, .slice A n c, .slice A' n' c'], .agg #[.int .i64 kb, .int .i64 sb, .slice E m e, .slice E' m' e']] w post := by
  have hC := Lib.hid HC
  have hF := Lib.hid HF
  have RZ := twoW_z w #[.int .i64 ka, .int .i64 sa, .slice A n c, .slice A' n' c'] #[.int .i64 kb, .int .i64 sb, .slice E m e, .slice E' m' e']
  clear HC HF
  go_enter Try.func22, Try.ntmps22
  go_wp2_with fail
  refine hC.out.mono ?_
  rintro e w1 ⟨k, s, nv, av, code, rfl, ho, hb, hg⟩
  have R1 := RZ.stays hb
  have hG := Lib.hid hg
  have hB := Lib.hid hb
  have hO : Hid ((#[.int .i64 k, .int .i64 s, nv, av] : Array Value).all (·.oneCell') = true) := Lib.hid (four_one ho.1 ho.2)
  clear RZ hg hb ho
  go_wp2_with (refine wpList_store_row rfl 25 _ _ rfl (w.heap.size + 1 + 1) #[.int .i64 k, .int .i64 s, nv, av] rfl rfl 25 _ R1 infoDfa rfl hO.out ?_)
  exact bodyPost_ret (v := .tuple #[.agg #[.int .i64 k, .int .i64 s, nv, av], .int .i64 code]) (results_cell_two rfl _ _ (w.heap.size + 1 + 1) _ _ _ rfl _ rfl (R1.whole _) Try.underlying25 rfl infoDfa) rfl (hF.out _ _ _ _ _ _ hG.out hB.out)
theorem both_enters : ∀ args w, (callFunc 37 args).run Try.prog w = .ok (.enter 37 args) w := enters_of Try.func37 (by kernel_rfl) rfl
theorem both_no (va vb : Value) (da db : Au.Dv) (w : World) (ha : Auto w va da) (hb : Auto w vb db) (hno : ¬ (Au.Ok da ∧ Au.Ok db ∧ da.k = db.k)) : Calls Try.prog 22 #[va, vb] w (NewAuto w Au.Dv.zero 151) := by
  obtain ⟨A, c, A', c', rfl, _, _⟩ := ha.parts
  obtain ⟨E, e, E', e', rfl, _, _⟩ := hb.parts
  exact both_walk w (G := ZeroG 151) ((pairs_no _ _ _ da db _ (ha.later (twoW_below _ _ _) (Nat.le_refl _)) (hb.later (twoW_below _ _ _) (Nat.le_refl _)) hno).mono fun e w' h => gave_zero h) (fun k s nv av code w' h1 h2 => h1.end_ h2 _)
theorem both_calls (va vb : Value) (fa fb : Au.Fa) (w : World) (ha : Auto w va (Au.Dv.of fa)) (hb : Auto w vb (Au.Dv.of fb)) (hfa : Au.Sound fa) (hfb : Au.Sound fb) (hk : fa.k = fb.k) : Calls Try.prog 22 #[va, vb] w (PairsPost (fun x y => x && y) fa fb w) := by
  obtain ⟨A, c, A', c', rfl, _, HA⟩ := ha.parts
  obtain ⟨E, e, E', e', rfl, _, HB⟩ := hb.parts
  refine both_walk w (G := fun k s nv av code w' => ∃ l, (l.length ≤ 65536 ∧ ∃ g, Au.Prod (fun x y => x && y) fa fb g l ∧ OwnG (twoW w #[.int .i64 (Au.Dv.of fa).k, .int .i64 (Au.Dv.of fa).start, .slice A (Au.Dv.of fa).next.length c, .slice A' (Au.Dv.of fa).acc.length c'] #[.int .i64 (Au.Dv.of fb).k, .int .i64 (Au.Dv.of fb).start, .slice E (Au.Dv.of fb).next.length e, .slice E' (Au.Dv.of fb).acc.length e']) g k s nv av code w') ∨ (65536 < l.length ∧ l.Nodup ∧ (∀ p ∈ l, Au.Come fa fb p) ∧ ZeroG 152 k s nv av code w')) ?_ ?_
  · refine (ofPairs_calls (fun x y => x && y) _ _ fa fb _ _ _ (ha.later (twoW_below _ _ _) (Nat.le_refl _)) (hb.later (twoW_below _ _ _) (Nat.le_refl _)) hfa hfb hk both_enters ?_).mono ?_
    · intro W p hW h1 h2
      have hW2 := (twoW_below w _ _).trans (hW.mono (twoW_below w _ _).size)
      have ra := Row.stays (twoW_a w _ _) hW
      have rb := Row.stays (twoW_b w _ _) hW
      exact both1_calls fa fb w W _ _ hW2 ra rb HA.out HB.out p h1 h2
    · rintro e w' ⟨l, ⟨h1, c, h2, h3⟩ | ⟨h1, h2, h3, h4⟩⟩
      · exact (gave_own h3).mono fun k s nv av code w' h => ⟨l, .inl ⟨h1, c, h2, h⟩⟩
      · exact (gave_zero h4).mono fun k s nv av code w' h => ⟨l, .inr ⟨h1, h2, h3, h⟩⟩
  · rintro k s nv av code w' ⟨l, ⟨h1, c, h2, h3⟩ | ⟨h1, h2, h3, h4⟩⟩ hb
    · exact ⟨l, .inl ⟨h1, c, h2, h3.end_ hb _⟩⟩
    · exact ⟨l, .inr ⟨h1, h2, h3, h4.end_ hb _⟩⟩
set_option maxRecDepth 100000 in
set_option maxHeartbeats 8000000 in
theorem either_walk (w : World) {ka sa kb sb : Int} {A A' E E' : Option Addr} {n c n' c' m e m' e' : Nat} {G : GaveT} {post : Ending → World → Prop}
    (HC : Calls Try.prog 36 #[.agg #[.int .i64 ka, .int .i64 sa, .slice A n c, .slice A' n' c'], .agg #[.int .i64 kb, .int .i64 sb, .slice E m e, .slice E' m' e'], .func (.func 38) #[] #[.pointer (some ⟨w.heap.size, 0, none⟩), .pointer (some ⟨w.heap.size + 1, 0, none⟩)]] (twoW w #[.int .i64 ka, .int .i64 sa, .slice A n c, .slice A' n' c'] #[.int .i64 kb, .int .i64 sb, .slice E m e, .slice E' m' e']) (Gave G (twoW w #[.int .i64 ka, .int .i64 sa, .slice A n c, .slice A' n' c'] #[.int .i64 kb, .int .i64 sb, .slice E m e, .slice E' m' e'])))
    (HF : ∀ k s nv av code w', G k s nv av code w' → Below (twoW w #[.int .i64 ka, .int .i64 sa, .slice A n c, .slice A' n' c'] #[.int .i64 kb, .int .i64 sb, .slice E m e, .slice E' m' e']).heap.size (twoW w #[.int .i64 ka, .int .i64 sa, .slice A n c, .slice A' n' c'] #[.int .i64 kb, .int .i64 sb, .slice E m e, .slice E' m' e']) w' → post (.returned (.tuple #[.agg #[.int .i64 k, .int .i64 s, nv, av], .int .i64 code])) (w'.setRow (w.heap.size + 1 + 1) #[.int .i64 k, .int .i64 s, nv, av])) :
    Calls Try.prog 23 #[.agg #[.int .i64 ka, .int .i64 sa, .slice A n c, .slice A' n' c'], .agg #[.int .i64 kb, .int .i64 sb, .slice E m e, .slice E' m' e']] w post := by
  have hC := Lib.hid HC
  have hF := Lib.hid HF
  have RZ := twoW_z w #[.int .i64 ka, .int .i64 sa, .slice A n c, .slice A' n' c'] #[.int .i64 kb, .int .i64 sb, .slice E m e, .slice E' m' e']
  clear HC HF
  go_enter Try.func23, Try.ntmps23
  go_wp2_with fail
  refine hC.out.mono ?_
  rintro e w1 ⟨k, s, nv, av, code, rfl, ho, hb, hg⟩
  have R1 := RZ.stays hb
  have hG := Lib.hid hg
  have hB := Lib.hid hb
  have hO : Hid ((#[.int .i64 k, .int .i64 s, nv, av] : Array Value).all (·.oneCell') = true) := Lib.hid (four_one ho.1 ho.2)
  clear RZ hg hb ho
  go_wp2_with (refine wpList_store_row rfl 25 _ _ rfl (w.heap.size + 1 + 1) #[.int .i64 k, .int .i64 s, nv, av] rfl rfl 25 _ R1 infoDfa rfl hO.out ?_)
  exact bodyPost_ret (v := .tuple #[.agg #[.int .i64 k, .int .i64 s, nv, av], .int .i64 code]) (results_cell_two rfl _ _ (w.heap.size + 1 + 1) _ _ _ rfl _ rfl (R1.whole _) Try.underlying25 rfl infoDfa) rfl (hF.out _ _ _ _ _ _ hG.out hB.out)
theorem either_enters : ∀ args w, (callFunc 38 args).run Try.prog w = .ok (.enter 38 args) w := enters_of Try.func38 (by kernel_rfl) rfl
theorem either_no (va vb : Value) (da db : Au.Dv) (w : World) (ha : Auto w va da) (hb : Auto w vb db) (hno : ¬ (Au.Ok da ∧ Au.Ok db ∧ da.k = db.k)) : Calls Try.prog 23 #[va, vb] w (NewAuto w Au.Dv.zero 151) := by
  obtain ⟨A, c, A', c', rfl, _, _⟩ := ha.parts
  obtain ⟨E, e, E', e', rfl, _, _⟩ := hb.parts
  exact either_walk w (G := ZeroG 151) ((pairs_no _ _ _ da db _ (ha.later (twoW_below _ _ _) (Nat.le_refl _)) (hb.later (twoW_below _ _ _) (Nat.le_refl _)) hno).mono fun e w' h => gave_zero h) (fun k s nv av code w' h1 h2 => h1.end_ h2 _)
theorem either_calls (va vb : Value) (fa fb : Au.Fa) (w : World) (ha : Auto w va (Au.Dv.of fa)) (hb : Auto w vb (Au.Dv.of fb)) (hfa : Au.Sound fa) (hfb : Au.Sound fb) (hk : fa.k = fb.k) : Calls Try.prog 23 #[va, vb] w (PairsPost (fun x y => x || y) fa fb w) := by
  obtain ⟨A, c, A', c', rfl, _, HA⟩ := ha.parts
  obtain ⟨E, e, E', e', rfl, _, HB⟩ := hb.parts
  refine either_walk w (G := fun k s nv av code w' => ∃ l, (l.length ≤ 65536 ∧ ∃ g, Au.Prod (fun x y => x || y) fa fb g l ∧ OwnG (twoW w #[.int .i64 (Au.Dv.of fa).k, .int .i64 (Au.Dv.of fa).start, .slice A (Au.Dv.of fa).next.length c, .slice A' (Au.Dv.of fa).acc.length c'] #[.int .i64 (Au.Dv.of fb).k, .int .i64 (Au.Dv.of fb).start, .slice E (Au.Dv.of fb).next.length e, .slice E' (Au.Dv.of fb).acc.length e']) g k s nv av code w') ∨ (65536 < l.length ∧ l.Nodup ∧ (∀ p ∈ l, Au.Come fa fb p) ∧ ZeroG 152 k s nv av code w')) ?_ ?_
  · refine (ofPairs_calls (fun x y => x || y) _ _ fa fb _ _ _ (ha.later (twoW_below _ _ _) (Nat.le_refl _)) (hb.later (twoW_below _ _ _) (Nat.le_refl _)) hfa hfb hk either_enters ?_).mono ?_
    · intro W p hW h1 h2
      have hW2 := (twoW_below w _ _).trans (hW.mono (twoW_below w _ _).size)
      have ra := Row.stays (twoW_a w _ _) hW
      have rb := Row.stays (twoW_b w _ _) hW
      exact either1_calls fa fb w W _ _ hW2 ra rb HA.out HB.out p h1 h2
    · rintro e w' ⟨l, ⟨h1, c, h2, h3⟩ | ⟨h1, h2, h3, h4⟩⟩
      · exact (gave_own h3).mono fun k s nv av code w' h => ⟨l, .inl ⟨h1, c, h2, h⟩⟩
      · exact (gave_zero h4).mono fun k s nv av code w' h => ⟨l, .inr ⟨h1, h2, h3, h⟩⟩
  · rintro k s nv av code w' ⟨l, ⟨h1, c, h2, h3⟩ | ⟨h1, h2, h3, h4⟩⟩ hb
    · exact ⟨l, .inl ⟨h1, c, h2, h3.end_ hb _⟩⟩
    · exact ⟨l, .inr ⟨h1, h2, h3, h4.end_ hb _⟩⟩
set_option maxRecDepth 100000 in
set_option maxHeartbeats 8000000 in
theorem less_walk (w : World) {ka sa kb sb : Int} {A A' E E' : Option Addr} {n c n' c' m e m' e' : Nat} {G : GaveT} {post : Ending → World → Prop}
    (HC : Calls Try.prog 36 #[.agg #[.int .i64 ka, .int .i64 sa, .slice A n c, .slice A' n' c'], .agg #[.int .i64 kb, .int .i64 sb, .slice E m e, .slice E' m' e'], .func (.func 39) #[] #[.pointer (some ⟨w.heap.size, 0, none⟩), .pointer (some ⟨w.heap.size + 1, 0, none⟩)]] (twoW w #[.int .i64 ka, .int .i64 sa, .slice A n c, .slice A' n' c'] #[.int .i64 kb, .int .i64 sb, .slice E m e, .slice E' m' e']) (Gave G (twoW w #[.int .i64 ka, .int .i64 sa, .slice A n c, .slice A' n' c'] #[.int .i64 kb, .int .i64 sb, .slice E m e, .slice E' m' e'])))
    (HF : ∀ k s nv av code w', G k s nv av code w' → Below (twoW w #[.int .i64 ka, .int .i64 sa, .slice A n c, .slice A' n' c'] #[.int .i64 kb, .int .i64 sb, .slice E m e, .slice E' m' e']).heap.size (twoW w #[.int .i64 ka, .int .i64 sa, .slice A n c, .slice A' n' c'] #[.int .i64 kb, .int .i64 sb, .slice E m e, .slice E' m' e']) w' → post (.returned (.tuple #[.agg #[.int .i64 k, .int .i64 s, nv, av], .int .i64 code])) (w'.setRow (w.heap.size + 1 + 1) #[.int .i64 k, .int .i64 s, nv, av])) :
    Calls Try.prog 24 #[.agg #[.int .i64 ka, .int .i64 sa, .slice A n c, .slice A' n' c'], .agg #[.int .i64 kb, .int .i64 sb, .slice E m e, .slice E' m' e']] w post := by
  have hC := Lib.hid HC
  have hF := Lib.hid HF
  have RZ := twoW_z w #[.int .i64 ka, .int .i64 sa, .slice A n c, .slice A' n' c'] #[.int .i64 kb, .int .i64 sb, .slice E m e, .slice E' m' e']
  clear HC HF
  go_enter Try.func24, Try.ntmps24
  go_wp2_with fail
  refine hC.out.mono ?_
  rintro e w1 ⟨k, s, nv, av, code, rfl, ho, hb, hg⟩
  have R1 := RZ.stays hb
  have hG := Lib.hid hg
  have hB := Lib.hid hb
  have hO : Hid ((#[.int .i64 k, .int .i64 s, nv, av] : Array Value).all (·.oneCell') = true) := Lib.hid (four_one ho.1 ho.2)
  clear RZ hg hb ho
  go_wp2_with (refine wpList_store_row rfl 25 _ _ rfl (w.heap.size + 1 + 1) #[.int .i64 k, .int .i64 s, nv, av] rfl rfl 25 _ R1 infoDfa rfl hO.out ?_)
  exact bodyPost_ret (v := .tuple #[.agg #[.int .i64 k, .int .i64 s, nv, av], .int .i64 code]) (results_cell_two rfl _ _ (w.heap.size + 1 + 1) _ _ _ rfl _ rfl (R1.whole _) Try.underlying25 rfl infoDfa) rfl (hF.out _ _ _ _ _ _ hG.out hB.out)
theorem less_enters : ∀ args w, (callFunc 39 args).run Try.prog w = .ok (.enter 39 args) w := enters_of Try.func39 (by kernel_rfl) rfl
theorem less_no (va vb : Value) (da db : Au.Dv) (w : World) (ha : Auto w va da) (hb : Auto w vb db) (hno : ¬ (Au.Ok da ∧ Au.Ok db ∧ da.k = db.k)) : Calls Try.prog 24 #[va, vb] w (NewAuto w Au.Dv.zero 151) := by
  obtain ⟨A, c, A', c', rfl, _, _⟩ := ha.parts
  obtain ⟨E, e, E', e', rfl, _, _⟩ := hb.parts
  exact less_walk w (G := ZeroG 151) ((pairs_no _ _ _ da db _ (ha.later (twoW_below _ _ _) (Nat.le_refl _)) (hb.later (twoW_below _ _ _) (Nat.le_refl _)) hno).mono fun e w' h => gave_zero h) (fun k s nv av code w' h1 h2 => h1.end_ h2 _)
theorem less_calls (va vb : Value) (fa fb : Au.Fa) (w : World) (ha : Auto w va (Au.Dv.of fa)) (hb : Auto w vb (Au.Dv.of fb)) (hfa : Au.Sound fa) (hfb : Au.Sound fb) (hk : fa.k = fb.k) : Calls Try.prog 24 #[va, vb] w (PairsPost (fun x y => x && !y) fa fb w) := by
  obtain ⟨A, c, A', c', rfl, _, HA⟩ := ha.parts
  obtain ⟨E, e, E', e', rfl, _, HB⟩ := hb.parts
  refine less_walk w (G := fun k s nv av code w' => ∃ l, (l.length ≤ 65536 ∧ ∃ g, Au.Prod (fun x y => x && !y) fa fb g l ∧ OwnG (twoW w #[.int .i64 (Au.Dv.of fa).k, .int .i64 (Au.Dv.of fa).start, .slice A (Au.Dv.of fa).next.length c, .slice A' (Au.Dv.of fa).acc.length c'] #[.int .i64 (Au.Dv.of fb).k, .int .i64 (Au.Dv.of fb).start, .slice E (Au.Dv.of fb).next.length e, .slice E' (Au.Dv.of fb).acc.length e']) g k s nv av code w') ∨ (65536 < l.length ∧ l.Nodup ∧ (∀ p ∈ l, Au.Come fa fb p) ∧ ZeroG 152 k s nv av code w')) ?_ ?_
  · refine (ofPairs_calls (fun x y => x && !y) _ _ fa fb _ _ _ (ha.later (twoW_below _ _ _) (Nat.le_refl _)) (hb.later (twoW_below _ _ _) (Nat.le_refl _)) hfa hfb hk less_enters ?_).mono ?_
    · intro W p hW h1 h2
      have hW2 := (twoW_below w _ _).trans (hW.mono (twoW_below w _ _).size)
      have ra := Row.stays (twoW_a w _ _) hW
      have rb := Row.stays (twoW_b w _ _) hW
      exact less1_calls fa fb w W _ _ hW2 ra rb HA.out HB.out p h1 h2
    · rintro e w' ⟨l, ⟨h1, c, h2, h3⟩ | ⟨h1, h2, h3, h4⟩⟩
      · exact (gave_own h3).mono fun k s nv av code w' h => ⟨l, .inl ⟨h1, c, h2, h⟩⟩
      · exact (gave_zero h4).mono fun k s nv av code w' h => ⟨l, .inr ⟨h1, h2, h3, h⟩⟩
  · rintro k s nv av code w' ⟨l, ⟨h1, c, h2, h3⟩ | ⟨h1, h2, h3, h4⟩⟩ hb
    · exact ⟨l, .inl ⟨h1, c, h2, h3.end_ hb _⟩⟩
    · exact ⟨l, .inr ⟨h1, h2, h3, h4.end_ hb _⟩⟩
end Go.Proofs.Ytdidogcgoghdmaa
