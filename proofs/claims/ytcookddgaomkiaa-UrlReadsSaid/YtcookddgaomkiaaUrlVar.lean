/- A URL in a variable: its fields written one by one. -/
import Derived.Test.YtcookddgaomkiaaUrlRow
import Derived.Laws.CopyRow
namespace Go.Proofs.Ytcookddgaomkiaa
open Go.RowKit
theorem urlA_setSecure (u : Ur.URL) (b : Bool) : (urlA u).setIfInBounds 0 (.bool b) = urlA { u with secure := b } := by
  unfold urlA
  rw [List.setIfInBounds_toArray]; rfl
theorem set_behind {α : Type} {l m : List α} {i k : Nat} {v : α} (h : l.length + k = i) : (l ++ m).set i v = l ++ m.set k v := by
  rw [List.set_append_right _ _ (by omega)]
  congr 2
  omega
theorem urlA_setPort (u : Ur.URL) (ha : u.host.addr.length = 16) (n : Int) : (urlA u).setIfInBounds 19 (.int .i64 n) = urlA { u with port := n } := by
  unfold urlA
  rw [List.setIfInBounds_toArray]
  show (Value.bool u.secure :: Value.int .i64 u.host.kind :: strV u.host.name :: (u.host.addr.map byteV ++ [Value.int .i64 u.port, strV u.path]).set 16 (.int .i64 n)).toArray = _
  rw [set_behind (k := 0) (by simp [ha])]; rfl
theorem urlA_setPath (u : Ur.URL) (ha : u.host.addr.length = 16) (s : ByteArray) : (urlA u).setIfInBounds 20 (.string s) = urlA { u with path := s.data.toList } := by
  unfold urlA
  rw [List.setIfInBounds_toArray]
  show (Value.bool u.secure :: Value.int .i64 u.host.kind :: strV u.host.name :: (u.host.addr.map byteV ++ [Value.int .i64 u.port, strV u.path]).set 17 (.string s)).toArray = _
  rw [set_behind (k := 1) (by simp [ha])]; rfl
theorem urlA_setHost (u : Ur.URL) (ha : u.host.addr.length = 16) (h : Hst.Host) (_hh : h.addr.length = 16) : ((urlA u).toList.take 1 ++ (hostA h).toList ++ (urlA u).toList.drop (1 + (hostA h).size)).toArray = urlA { u with host := h } := by
  have e : (urlA u).toList = Value.bool u.secure :: ((hostA u.host).toList ++ [Value.int .i64 u.port, strV u.path]) := rfl
  have h1 : (hostA h).size = 18 := hostA_size h _hh
  have h2 : (hostA u.host).toList.length = 18 := by rw [Array.length_toList, hostA_size u.host ha]
  rw [e, h1]
  show ([Value.bool u.secure] ++ (hostA h).toList ++ ((hostA u.host).toList ++ [Value.int .i64 u.port, strV u.path]).drop 18).toArray = _
  rw [List.drop_append_of_le_length (by omega), List.drop_of_length_le (by omega)]; rfl
/-- A part of a block of cells is written whole. -/
theorem store_part {P : Program} {ops : Array Oper} {rest : List Oper} {o : Oper} {a : Act} {w : World} {Q : Exit → Act → World → Prop} (hgd : o.guard = none) (ty : TypeId) (x y : Operand) (ho : o.op = .store ty x y)
    (g off : Nat) (cells : Array Value) (hx : a.eval x = .pointer (some ⟨g, off, none⟩)) (hy : a.eval y = .agg cells)
    (t : TypeId) (old : Array Value) (hg : Row w g t old) (hi : (P.info? ty).map (·.size) = some cells.size)
    (hle : off + cells.size ≤ old.size) (h1 : cells.all (·.oneCell') = true) (new : Array Value) (hn : (old.toList.take off ++ cells.toList ++ old.toList.drop (off + cells.size)).toArray = new)
    (h : wpList P ops Q rest (a.put o.dst undef) (w.setRow g new)) : wpList P ops Q (o :: rest) a w :=
  wpList_plain hgd fun _ hK => by
    have hs : (storeCells ⟨g, off, none⟩ cells.toList 0).run P w = .ok () (w.setRow g new) := by
      have := run_storeCells_at (P := P) g off t cells.toList 0 old w hg (by rw [Array.length_toList]; omega) (fun v hv => by
        have := Array.all_eq_true'.1 h1 v (Array.mem_toList_iff.1 hv)
        exact this)
      rw [Nat.add_zero, Array.length_toList, hn] at this
      exact this
    have hv : (storeVar ty ⟨g, off, none⟩ (.agg cells)).run P w = .ok () (w.setRow g new) := by
      cases hq : P.info? ty with
      | none => simp [hq] at hi
      | some i =>
        have hsz : cells.size = i.size := by simp [hq] at hi; omega
        simp [storeVar, sizeOf, typeInfo, hq, Value.cells, hsz, hs]
    unfold Oper.wp execOp
    simp only [ho, hx, hy, Instr.storeAt, Instr.sureAddr, Sem.run_bind, Sem.run_pure, Result.andThen_ok, hv]
    exact hK _ _ h
/-- The result's place, and the variable. -/
structure KeptU (r g : Nat) (u : Ur.URL) (w w' : World) : Prop where
  res : Row w' r 27 (urlA Ur.zero)
  var : Row w' g 27 (urlA u)
  ne : r ≠ g
  base : w.heap.size ≤ g
  below : Below w.heap.size w w'
section
variable {r g : Nat} {u u' : Ur.URL} {w w' w'' : World}
theorem KeptU.on (k : KeptU r g u w w') (hb : Below w'.heap.size w' w'') : KeptU r g u w w'' :=
  ⟨k.res.stays hb, k.var.stays hb, k.ne, k.base, k.below.trans (hb.mono k.below.size)⟩
theorem KeptU.put (k : KeptU r g u w w') {i : Nat} {v : Value} (hu : (urlA u).setIfInBounds i v = urlA u') : KeptU r g u' w (w'.setCell ⟨g, i, none⟩ v) :=
  ⟨k.res.other (p := ⟨g, i, none⟩) k.ne v, by have := k.var.set i v; rw [hu] at this; exact this, k.ne, k.base, k.below.setCell (p := ⟨g, i, none⟩) k.base v⟩
theorem KeptU.whole (k : KeptU r g u w w') (u' : Ur.URL) : KeptU r g u' w (w'.setRow g (urlA u')) :=
  ⟨k.res.aside k.ne (urlA u'), k.var.whole (urlA u'), k.ne, k.base, below_setRow k.below k.base _⟩
theorem KeptU.cell (k : KeptU r g u w w') (i : Nat) : w'.cell? ⟨g, i, none⟩ = (urlA u)[i]? := k.var.cell i
theorem KeptU.free (k : KeptU r g u w w') (i : Nat) : w'.frozen? ⟨g, i, none⟩ = false := k.var.free i
theorem KeptU.lay (k : KeptU r g u w w') (t : TypeId) (zs cs : Array Value) : KeptU r g u w ((w'.alloc (.cells zs t)).setRow w'.heap.size cs) := by
  obtain ⟨_, _, C, L⟩ := lay_row t zs cs k.below k.below.size
  exact ⟨L _ _ _ k.res, L _ _ _ k.var, k.ne, k.base, C⟩
end
end Go.Proofs.Ytcookddgaomkiaa
