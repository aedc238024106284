/- What a maker is behind one going more, and behind one state more. -/
import Derived.Test.YtdidogcgoghdmaaDfaMaker
namespace Go.Proofs.Ytdidogcgoghdmaa
open Go.RowKit Go.Maps
theorem grown_setRow (w : World) (b : Nat) (cs : Array Value) : w.grownBy (w.setRow b cs) (some b) :=
  ⟨rfl, rfl, rfl, by rw [size_setRow]; exact Nat.le_refl _, fun k _ hk => setRow_other w b k cs (fun e => hk (by rw [e]))⟩
section
variable {X : Nat → Prop} {w w9 : World} {B g mb : Nat} {k st : Int} {nx : List Nat} {ac : List Bool} {l : List (Nat × Nat)} {nv av pv v9 : Value}
theorem MakerAt.less {Y : Nat → Prop} (h : MakerAt X w B g mb k st nx ac l) (hY : ∀ b, Y b → X b) : MakerAt Y w B g mb k st nx ac l := by
  obtain ⟨nv, av, pv, h1, h2, h3, h4, h5⟩ := h.parts
  exact ⟨⟨nv, av, pv, h1, h2, h3, h4, fun b hb => h5 b (hY b hb)⟩, h.map, h.hg, h.hmb, h.ok⟩
theorem MakerAt.more (h : MakerAt X w B g mb k st nx ac l) {b : Nat} (hb : w.heap.size ≤ b) : MakerAt (fun c => X c ∨ c = b) w B g mb k st nx ac l := by
  obtain ⟨nv, av, pv, h1, h2, h3, h4, h5⟩ := h.parts
  refine ⟨⟨nv, av, pv, h1, h2, h3, h4, ?_⟩, h.map, h.hg, h.hmb, h.ok⟩
  rintro c (hc | rfl)
  · exact h5 c hc
  · have g1 := h1.lt
    have g2 := h.map.lt
    exact ⟨by omega, by omega, fun e => by have := (h2.lt c e).2; omega, fun e => by have := (h3.lt c e).2; omega, fun e => by have := (h4.lt c e).2; omega⟩
/-- What lies in X may be written. -/
theorem MakerAt.kept (h : MakerAt X w B g mb k st nx ac l) {b : Nat} (hb : X b) (hg : w.grownBy w9 (some b)) : MakerAt X w9 B g mb k st nx ac l := by
  obtain ⟨nv, av, pv, h1, h2, h3, h4, h5⟩ := h.parts
  obtain ⟨f1, f2, f3, f4, f5⟩ := h5 b hb
  exact ⟨⟨nv, av, pv, h1.kept hg (fun e => f1 (Option.some.inj e).symm), h2.kept hg (.inr f3), h3.kept hg (.inr f4), h4.kept hg (.inr f5), h5⟩, h.map.kept hg (fun e => f2 (Option.some.inj e).symm), h.hg, h.hmb, h.ok⟩
theorem next_more {t : Nat} {o : Obj} (G : Row w g 66 #[.int .i64 k, .int .i64 st, nv, av, pv, .map (some mb)]) (N : w.ownsRow B 3 1 nv nx.length (natVs nx)) (A : w.ownsRow B 4 1 av ac.length (boolVs ac)) (L : w.ownsRow B 50 2 pv l.length (flat pairA l)) (PM : PairsAt w mb l)
    (F : ∀ b, X b → b ≠ g ∧ b ≠ mb ∧ nv.ownBlock ≠ some b ∧ av.ownBlock ≠ some b ∧ pv.ownBlock ≠ some b) (hX : ∀ b, X b → b < w.heap.size) (hg : B ≤ g) (hmb : B ≤ mb) (ok : ∀ p ∈ l, PairOk p)
    (O9 : w9.ownsRow B 3 1 v9 (nx.length + 1) (natVs nx ++ [.int .i64 (t : Int)])) (g9 : (w.alloc o).grownBy w9 nv.ownBlock) (hv9 : v9.ownBlock = nv.ownBlock ∨ v9.ownBlock = some (w.heap.size + 1)) :
    Row w9 g 66 #[.int .i64 k, .int .i64 st, nv, av, pv, .map (some mb)] ∧ MakerAt X (w9.setCell ⟨g, 2, none⟩ v9) B g mb k st (nx ++ [t]) ac l ∧ Aside X w (w9.setCell ⟨g, 2, none⟩ v9) := by
  have DD := (Below.refl w.heap.size w).alloc (Nat.le_refl _) o
  have G6 := G.stays DD
  have N6 := own_below N DD
  have A6 := own_below A DD
  have L6 := own_below L DD
  have P6 := PM.stays DD
  have G7 := G6.kept g9 (some_ne (own_row_ne N6 G6 (by decide)))
  have A7 := A6.kept g9 (own_block_ne A6 N6 (by decide))
  have L7 := L6.kept g9 (own_block_ne L6 N6 (by decide))
  have P7 := P6.kept g9 (some_ne (own_pairs_ne N6 P6))
  have gc := grown_cell w9 g 2 v9
  refine ⟨G7, ⟨⟨v9, av, pv, G7.set 2 v9, ?_, A7.kept gc (own_row_ne A7 G7 (by decide)), L7.kept gc (own_row_ne L7 G7 (by decide)), fun b hb => ?_⟩, P7.kept gc (fun e => row_pairs_ne G7 P7 (Option.some.inj e).symm), hg, hmb, ok⟩, fun b hb => ?_⟩
  · have O := O9.kept gc (own_row_ne O9 G7 (by decide))
    have e : natVs (nx ++ [t]) = natVs nx ++ [.int .i64 (t : Int)] := by unfold natVs intVs Au.ofN intV; rw [List.map_append, List.map_append]; rfl
    rw [e, List.length_append]; exact O
  · obtain ⟨f1, f2, f3, f4, f5⟩ := F b hb
    refine ⟨f1, f2, fun e => ?_, f4, f5⟩
    rcases hv9 with q | q
    · exact f3 (q.symm.trans e)
    · have e2 := Option.some.inj (q.symm.trans e)
      have := hX b hb
      omega
  · obtain ⟨f1, f2, f3, f4, f5⟩ := F b hb
    have hb' := hX b hb
    exact (heap_setCell_other w9 ⟨g, 2, none⟩ b _ f1).trans ((g9.block b (by have := DD.size; omega) (fun e => f3 e.symm)).trans (DD.block b hb'))
theorem acc_more {t : Bool} (G : Row w g 66 #[.int .i64 k, .int .i64 st, nv, av, pv, .map (some mb)]) (N : w.ownsRow B 3 1 nv nx.length (natVs nx)) (A : w.ownsRow B 4 1 av ac.length (boolVs ac)) (L : w.ownsRow B 50 2 pv l.length (flat pairA l)) (PM : PairsAt w mb l)
    (F : ∀ b, X b → b ≠ g ∧ b ≠ mb ∧ nv.ownBlock ≠ some b ∧ av.ownBlock ≠ some b ∧ pv.ownBlock ≠ some b) (hX : ∀ b, X b → b < w.heap.size) (hg : B ≤ g) (hmb : B ≤ mb) (ok : ∀ p ∈ l, PairOk p)
    (O9 : w9.ownsRow B 4 1 v9 (ac.length + 1) (boolVs ac ++ [.bool t])) (g9 : w.grownBy w9 av.ownBlock) (hv9 : v9.ownBlock = av.ownBlock ∨ v9.ownBlock = some w.heap.size) :
    Row w9 g 66 #[.int .i64 k, .int .i64 st, nv, av, pv, .map (some mb)] ∧ MakerAt X (w9.setCell ⟨g, 3, none⟩ v9) B g mb k st nx (ac ++ [t]) l ∧ Aside X w (w9.setCell ⟨g, 3, none⟩ v9) := by
  have G7 := G.kept g9 (some_ne (own_row_ne A G (by decide)))
  have N7 := N.kept g9 (own_block_ne N A (by decide))
  have L7 := L.kept g9 (own_block_ne L A (by decide))
  have P7 := PM.kept g9 (some_ne (own_pairs_ne A PM))
  have gc := grown_cell w9 g 3 v9
  refine ⟨G7, ⟨⟨nv, v9, pv, G7.set 3 v9, N7.kept gc (own_row_ne N7 G7 (by decide)), ?_, L7.kept gc (own_row_ne L7 G7 (by decide)), fun b hb => ?_⟩, P7.kept gc (fun e => row_pairs_ne G7 P7 (Option.some.inj e).symm), hg, hmb, ok⟩, fun b hb => ?_⟩
  · have O := O9.kept gc (own_row_ne O9 G7 (by decide))
    rw [boolVs_snoc, List.length_append]; exact O
  · obtain ⟨f1, f2, f3, f4, f5⟩ := F b hb
    refine ⟨f1, f2, f3, fun e => ?_, f5⟩
    rcases hv9 with q | q
    · exact f4 (q.symm.trans e)
    · have e2 := Option.some.inj (q.symm.trans e)
      have := hX b hb
      omega
  · obtain ⟨f1, f2, f3, f4, f5⟩ := F b hb
    exact (heap_setCell_other w9 ⟨g, 3, none⟩ b _ f1).trans (g9.block b (hX b hb) (fun e => f4 e.symm))
end
end Go.Proofs.Ytdidogcgoghdmaa
