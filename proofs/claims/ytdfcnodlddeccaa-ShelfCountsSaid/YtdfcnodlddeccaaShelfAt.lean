/- A shelf in memory. -/
import Derived.Test.YtdfcnodlddeccaaShelfKey
import Derived.Test.YtdfcnodlddeccaaShelfMore
import Derived.Test.YtdfcnodlddeccaaQuietTail
import Derived.Test.YtdfcnodlddeccaaYieldsBuilt
import Derived.Laws.MakeOwn
import Derived.Carry
import Derived.Deep.RegionHeld
namespace Go.Proofs.Ytdfcnodlddeccaa
open Go.RowKit Go.Maps
/-- A shelf in memory: its row, and its map. -/
structure ShelfAt (w : World) (sb mb : Nat) (s : Sh.Shelf) : Prop where
  well : Sh.Well s
  okay : AllOk s.l
  few : s.last ≤ 1000000
  apart : mb ≠ sb
  row : Row w sb 56 #[.map (some mb), .int .i64 s.last]
  map : MapAt w mb s.l
/-- What a shelf's turns leave as it lay. -/
structure Turn2 (sb mb : Nat) (w w' : World) : Prop where
  os : w'.os = w.os
  tape : w'.tape = w.tape
  output : w'.output = w.output
  size : w.heap.size ≤ w'.heap.size
  same : ∀ b, b < w.heap.size → b ≠ sb → b ≠ mb → w'.heap[b]? = w.heap[b]?
theorem Turn2.refl (sb mb : Nat) (w : World) : Turn2 sb mb w w := ⟨rfl, rfl, rfl, Nat.le_refl _, fun _ _ _ _ => rfl⟩
theorem Turn2.trans {sb mb : Nat} {a b c : World} (h : Turn2 sb mb a b) (k : Turn2 sb mb b c) : Turn2 sb mb a c :=
  ⟨k.os.trans h.os, k.tape.trans h.tape, k.output.trans h.output, Nat.le_trans h.size k.size, fun i hi h1 h2 => (k.same i (Nat.lt_of_lt_of_le hi h.size) h1 h2).trans (h.same i hi h1 h2)⟩
theorem Turn2.of {sb mb n : Nat} {w w' : World} (h : Below n w w') (hn : w.heap.size ≤ n) : Turn2 sb mb w w' := ⟨h.os, h.tape, h.output, h.size, fun b hb _ _ => h.block b (by omega)⟩
theorem Turn2.grown {sb mb : Nat} {w w' : World} {row : Option Nat} (h : w.grownBy w' row) (hr : ∀ b, row = some b → b = sb ∨ b = mb ∨ w.heap.size ≤ b) : Turn2 sb mb w w' :=
  ⟨h.os, h.tape, h.output, h.size, fun b hb h1 h2 => h.block b hb (fun e => by
    rcases hr b e.symm with k | k | k
    · exact h1 k
    · exact h2 k
    · omega)⟩
theorem Turn2.turned {sb mb : Nat} {w w' : World} (h : w.mapTurned w' mb) : Turn2 sb mb w w' := .grown h.grown (fun _ e => .inr (.inl (Option.some.inj e).symm))
theorem Turn2.cell {sb mb : Nat} (w : World) (i : Nat) (u : Value) : Turn2 sb mb w (w.setCell ⟨sb, i, none⟩ u) :=
  ⟨rfl, rfl, rfl, by simp, fun b _ h1 _ => heap_setCell_other w ⟨sb, i, none⟩ b u h1⟩
theorem grownBy_cellS (w : World) (b i : Nat) (u : Value) : w.grownBy (w.setCell ⟨b, i, none⟩ u) (some b) :=
  ⟨rfl, rfl, rfl, by simp, fun k _ hk => heap_setCell_other w ⟨b, i, none⟩ k u (fun e => hk (by rw [e]))⟩
theorem Turn2.setCell {sb mb : Nat} {w x : World} (h : Turn2 sb mb w x) {p : Addr} (hp : w.heap.size ≤ p.block ∨ p.block = sb) (u : Value) : Turn2 sb mb w (x.setCell p u) :=
  ⟨h.os, h.tape, h.output, by simp; exact h.size, fun b hb h1 h2 => (heap_setCell_other x p b u (by rcases hp with k | k <;> omega)).trans (h.same b hb h1 h2)⟩
theorem Turn2.below {sb mb n : Nat} {w w' : World} (h : Turn2 sb mb w w') (h1 : n ≤ sb) (h2 : n ≤ mb) (hn : n ≤ w.heap.size) : Below n w w' :=
  ⟨h.os, h.tape, h.output, h.size, fun i hi => h.same i (by omega) (by omega) (by omega)⟩
theorem ShelfAt.stays {w w' : World} {sb mb : Nat} {s : Sh.Shelf} (h : ShelfAt w sb mb s) (hb : Below w.heap.size w w') : ShelfAt w' sb mb s :=
  ⟨h.well, h.okay, h.few, h.apart, h.row.stays hb, h.map.stays hb⟩
theorem ShelfAt.keys {w : World} {sb mb : Nat} {s : Sh.Shelf} (h : ShelfAt w sb mb s) : Apart s.l := h.well.keys
theorem ShelfAt.length {w : World} {sb mb : Nat} {s : Sh.Shelf} (h : ShelfAt w sb mb s) : s.l.length ≤ 1000000 := by
  have h1 := Sh.few h.well
  have h2 := h.few
  omega
theorem ShelfAt.cell0 {w : World} {sb mb : Nat} {s : Sh.Shelf} (h : ShelfAt w sb mb s) : w.cell? ⟨sb, 0, none⟩ = some (.map (some mb)) := by rw [h.row.cell]; rfl
theorem ShelfAt.cell1 {w : World} {sb mb : Nat} {s : Sh.Shelf} (h : ShelfAt w sb mb s) : w.cell? ⟨sb, 1, none⟩ = some (.int .i64 s.last) := by rw [h.row.cell]; rfl
theorem MapAt.perm {w : World} {mb : Nat} {L L' : List Sh.Kept} (h : MapAt w mb L) (hp : L.Perm L') : MapAt w mb L' := by
  obtain ⟨D, h1, es, hD, h2⟩ := h
  exact ⟨D, by rw [← hp.length_eq]; exact h1, es, hD, h2.trans (hp.map entK)⟩
theorem row_map {w : World} {sb mb : Nat} {t : TypeId} {cs : Array Value} {L : List Sh.Kept} (hR : Row w sb t cs) (hM : MapAt w mb L) : mb ≠ sb := by
  rintro rfl
  obtain ⟨D, ⟨es, clock, hb, _⟩, _⟩ := hM
  have := hR.symm.trans hb
  cases this
/-- What the found one is, and whether there is one. -/
def Sh.seek (s : Sh.Shelf) (c : Ma.Cookie) : Option Sh.Kept := s.l.find? (Sh.hit c)
theorem ShelfAt.look {w : World} {sb mb : Nat} {s : Sh.Shelf} (h : ShelfAt w sb mb s) {c : Ma.Cookie} (hc : PlaceOk c) :
    (Instr.lookup 54 (.map (some mb)) (.agg (placeA c)) true).run Try.prog w = .ok (.tuple #[.agg (keptA ((Sh.seek s c).getD Sh.zeroK)), .bool (Sh.seek s c).isSome]) w :=
  run_look h.map h.keys h.okay hc
theorem zeroK_addr : Sh.zeroK.c.host.addr.length = 16 := rfl
theorem ShelfAt.seek_addr {w : World} {sb mb : Nat} {s : Sh.Shelf} (h : ShelfAt w sb mb s) (c : Ma.Cookie) : ((Sh.seek s c).getD Sh.zeroK).c.host.addr.length = 16 := by
  cases e : Sh.seek s c with
  | none => rfl
  | some k => exact (h.okay k (List.mem_of_find?_eq_some e)).addr
section
variable {w : World} {ops : Array Oper} {rest : List Oper} {o : Oper} {a : Act} {Q : Exit → Act → World → Prop}
/-- Something is put into the map. -/
theorem store_shelf (hg : o.guard = none) (m x v : Operand) (hop : o.op = Op.mapUpdate 54 m x v) {mb : Nat} {L L' : List Sh.Kept} (hm : a.eval m = .map (some mb)) (h : MapAt w mb L) (ho : AllOk L) {c : Ma.Cookie} (hc : PlaceOk c) (hx : a.eval x = .agg (placeA c))
    {k : Sh.Kept} (hv : a.eval v = .agg (keptA k)) (hk : Ma.key k.c c = true) (hko : PlaceOk k.c) (hp : L'.Perm (k :: L.filter fun k => !Sh.hit c k)) (hn : L.length ≤ 1048576)
    (hK : ∀ w', MapAt w' mb L' → w.mapTurned w' mb → wpList Try.prog ops Q rest (a.put o.dst undef) w') : wpList Try.prog ops Q (o :: rest) a w := by
  refine wpList_plain hg fun K' hK' => ?_
  obtain ⟨w', hrun, r1, r2⟩ := run_store h ho hc hk hko hp hn
  unfold Oper.wp
  simp [execOp, hop, hm, hx, hv, hrun, Result.andThen]
  exact hK' _ _ (hK w' r1 r2)
/-- Something is taken out of the map. -/
theorem drop_shelf (hg : o.guard = none) (m x : Operand) (hop : o.op = Op.call { callee := Callee.builtin Builtin.delete, args := #[m, x], argTypes := #[54, 72] }) {mb : Nat} {L L' : List Sh.Kept} (hm : a.eval m = .map (some mb)) (h : MapAt w mb L) (ho : AllOk L) {c : Ma.Cookie} (hc : PlaceOk c) (hx : a.eval x = .agg (placeA c))
    (hp : L'.Perm (L.filter fun k => !Sh.hit c k)) (hK : ∀ w', MapAt w' mb L' → w.mapTurned w' mb → wpList Try.prog ops Q rest (a.put o.dst (.tuple #[])) w') : wpList Try.prog ops Q (o :: rest) a w := by
  refine wpList_plain hg fun K' hK' => ?_
  obtain ⟨w', hrun, r1, r2⟩ := run_drop h ho hc hp o.type
  unfold Oper.wp
  simp [execOp, hop, resolve, invoke, builtin, hm, hx, hrun, Result.andThen]
  exact hK' _ _ (hK w' r1 r2)
/-- One that has come is taken out of the map that is gone through. -/
theorem drop_round (hg : o.guard = none) (m x : Operand) (hop : o.op = Op.call { callee := Callee.builtin Builtin.delete, args := #[m, x], argTypes := #[54, 72] }) {mb rb n : Nat} {L T L' : List Sh.Kept} (hm : a.eval m = .map (some mb)) (h : Rng w mb rb n L T) {k : Sh.Kept} (hk : k ∈ L) (hx : a.eval x = .agg (placeA k.c))
    (hp : L.Perm (k :: L')) (hT : ∀ z ∈ T, Ma.key z.c k.c = false) (hK : ∀ w', Rng w' mb rb n L' T → w'.rangeLeft mb rb ≤ w.rangeLeft mb rb → w.mapTurned w' mb → wpList Try.prog ops Q rest (a.put o.dst (.tuple #[])) w') : wpList Try.prog ops Q (o :: rest) a w := by
  refine wpList_plain hg fun K' hK' => ?_
  obtain ⟨w', hrun, r1, r2, r3⟩ := h.drop hk hp hT o.type
  unfold Oper.wp
  simp [execOp, hop, resolve, invoke, builtin, hm, hx, hrun, Result.andThen]
  exact hK' _ _ (hK w' r1 r2 r3)
end
theorem Rng.left_stays {w w' : World} {mb rb n : Nat} {L T : List Sh.Kept} (h : Rng w mb rb n L T) (hb : Below w.heap.size w w') : w'.rangeLeft mb rb = w.rangeLeft mb rb := rangeLeft_kept h (below_grown hb) (by simp) (by simp)
theorem Rng.fresh {w : World} {mb rb n : Nat} {L T T' : List Sh.Kept} {k : Sh.Kept} (h : Rng w mb rb n L T) (hp : T.Perm (k :: T')) : ∀ z ∈ T', Ma.key z.c k.c = false := by
  obtain ⟨_, _, _, _, _, _, _, h5, _⟩ := h
  have := List.pairwise_cons.1 (h5.perm hp)
  intro z hz
  rw [Sh.key_symm]
  exact this.1 z hz
theorem Rng.in_ {w : World} {mb rb n : Nat} {L T T' : List Sh.Kept} {k : Sh.Kept} (h : Rng w mb rb n L T) (hp : T.Perm (k :: T')) : k ∈ L := by
  obtain ⟨_, _, _, _, _, _, _, _, h6, _⟩ := h
  exact h6 k (hp.mem_iff.2 (by simp))
theorem mem_left {S T T' L : List Sh.Kept} {k : Sh.Kept} (h : (S ++ T).Perm L) (hp : T.Perm (k :: T')) : ((S ++ [k]) ++ T').Perm L ∧ k ∈ L := by
  have e : (S ++ [k]) ++ T' = S ++ (k :: T') := by simp
  have h2 : (S ++ (k :: T')).Perm L := ((List.Perm.append_left S hp).symm).trans h
  exact ⟨by rw [e]; exact h2, h2.mem_iff.1 (by simp)⟩
/-! ### New, Len -/
set_option maxRecDepth 100000 in
set_option maxHeartbeats 2000000 in
theorem newShelf_calls (w : World) : Calls Try.prog 8 #[] w fun e w' => ∃ sb mb, e = .returned (.pointer (some ⟨sb, 0, none⟩)) ∧ ShelfAt w' sb mb Sh.empty ∧ w.heap.size ≤ sb ∧ w.heap.size ≤ mb ∧ Below w.heap.size w w' := by
  have hmm := @run_makeMap Try.prog
  have M0 := World.ownsMap_made w Try.prog 72 eltR
  have C0 := (Below.refl w.heap.size w).alloc (Nat.le_refl _) (.map #[] 0)
  have hs0 : (w.alloc (.map #[] 0)).heap.size = w.heap.size + 1 := by simp
  have M1 : MapAt (w.alloc (.map #[] 0)) w.heap.size [] := ⟨_, M0, [], rfl, List.Perm.refl _⟩
  go_enter Try.func8, Try.ntmps8
  go_wp2
  go_ret
  have R := Row.new (w.alloc (.map #[] 0)) 56 #[.map (some w.heap.size), .int .i64 0]
  rw [hs0] at R
  have M2 := M1.stays ((Below.refl _ (w.alloc (.map #[] 0))).alloc (Nat.le_refl _) (.cells #[.map (some w.heap.size), .int .i64 0] 56))
  exact ⟨_, _, rfl, ⟨Sh.well_empty, (fun k hk => by cases hk), (by decide), by omega, R, M2⟩, by omega, Nat.le_refl _, C0.alloc (by omega) _⟩
set_option maxRecDepth 100000 in
set_option maxHeartbeats 2000000 in
theorem lenShelf_calls {sb mb : Nat} {s : Sh.Shelf} (w : World) (h : ShelfAt w sb mb s) : Calls Try.prog 16 #[.pointer (some ⟨sb, 0, none⟩)] w fun e w' => e = .returned (.int .i64 (s.l.length : Int)) ∧ Below w.heap.size w w' := by
  have c0 := h.cell0
  obtain ⟨D, hD, hT⟩ := h.map
  have hsz := hT.size
  have HD := Lib.hid hD
  rw [← hsz]
  clear hT hsz hD h
  go_enter Try.func16, Try.ntmps16
  go_wp2_with (at_len; refine wpList_len_own _ rfl _ 54 rfl 72 75 Try.underlying54 _ mb s.l.length D rfl HD.out ?_)
  go_ret
  exact ⟨rfl, Below.refl _ _⟩
end Go.Proofs.Ytdfcnodlddeccaa
