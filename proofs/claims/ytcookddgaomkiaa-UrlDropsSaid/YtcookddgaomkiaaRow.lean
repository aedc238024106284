/- Blocks of memory that are known whole; arrays of bytes and of numbers of sixteen bits as values; two arrays held against each other. -/
import Derived.Test.YtcookddgaomkiaaBase
import Derived.Test.YtcookddgaomkiaaAdrPlain
import Derived.Below
import Derived.Laws.Rows
import Derived.Laws.Tables
import Derived.Laws.ResultCell
import Derived.Laws.StructEq
import Derived.Laws.NewBlocks
import Derived.Laws.MakeOwn
import Derived.OrdersHeld
namespace Go.Proofs.Ytcookddgaomkiaa
open Go.RowKit
/-- Block g holds just these cells, and they may be written. -/
def Row (w : World) (g : Nat) (t : TypeId) (cs : Array Value) : Prop := w.heap[g]? = some (.cells cs t (0, 0))
section
variable {w w' : World} {g : Nat} {t : TypeId} {cs : Array Value}
theorem Row.lt (h : Row w g t cs) : g < w.heap.size := (Array.getElem?_eq_some_iff.1 h).1
theorem Row.cell (h : Row w g t cs) (i : Nat) : w.cell? ⟨g, i, none⟩ = cs[i]? := cell_of_row w g i cs t (0, 0) h
theorem Row.free (h : Row w g t cs) (i : Nat) : w.frozen? ⟨g, i, none⟩ = false := frozen_of_row w g i cs t h
theorem Row.new (w : World) (t : TypeId) (cs : Array Value) : Row (w.alloc (.cells cs t)) w.heap.size t cs := heap_alloc_new w _
theorem Row.drew (h : Row w g t cs) : Row w.drew g t cs := h
theorem Row.alloc (h : Row w g t cs) (o : Obj) : Row (w.alloc o) g t cs := (Below.heap_alloc w o g h.lt).trans h
theorem Row.set (h : Row w g t cs) (i : Nat) (u : Value) : Row (w.setCell ⟨g, i, none⟩ u) g t (cs.setIfInBounds i u) := heap_setCell_same w g i cs t u h
theorem Row.other (h : Row w g t cs) {p : Addr} (hp : g ≠ p.block) (u : Value) : Row (w.setCell p u) g t cs := (heap_setCell_other w p g u hp).trans h
theorem Row.below {B : Nat} (h : Row w g t cs) (hb : Below B w w') (hg : g < B) : Row w' g t cs := (hb.block g hg).trans h
theorem Row.stays (h : Row w g t cs) (hb : Below w.heap.size w w') : Row w' g t cs := h.below hb h.lt
theorem Row.whole (h : Row w g t cs) (ds : Array Value) : Row (w.setRow g ds) g t ds := setRow_heap w g cs ds t (0, 0) h
theorem Row.aside (h : Row w g t cs) {k : Nat} (hk : g ≠ k) (ds : Array Value) : Row (w.setRow k ds) g t cs := (setRow_other w k g ds hk).trans h
end
theorem below_setRow {B : Nat} {a w : World} (h : Below B a w) {g : Nat} (hg : B ≤ g) (cs : Array Value) : Below B a (w.setRow g cs) :=
  ⟨h.os, h.tape, h.output, by rw [size_setRow]; exact h.size, fun i hi => (setRow_other w g i cs (by omega)).trans (h.block i hi)⟩
/-- A number of sixteen bits. -/
def wordV (x : UInt16) : Value := .int .u16 (x.toNat : Int)
def bytesA (l : List UInt8) : Array Value := (l.map byteV).toArray
def wordsA (l : List UInt16) : Array Value := (l.map wordV).toArray
theorem bytesA_size (l : List UInt8) : (bytesA l).size = l.length := by simp [bytesA]
theorem wordsA_size (l : List UInt16) : (wordsA l).size = l.length := by simp [wordsA]
theorem bytesA_at (l : List UInt8) (i : Nat) : (bytesA l)[i]? = (l[i]?).map byteV := by simp [bytesA]
theorem wordsA_at (l : List UInt16) (i : Nat) : (wordsA l)[i]? = (l[i]?).map wordV := by simp [wordsA]
theorem bytesA_set (l : List UInt8) (i : Nat) (c : UInt8) : (bytesA l).setIfInBounds i (byteV c) = bytesA (l.set i c) := by simp [bytesA, List.map_set]
theorem wordsA_set (l : List UInt16) (i : Nat) (x : UInt16) : (wordsA l).setIfInBounds i (wordV x) = wordsA (l.set i x) := by simp [wordsA, List.map_set]
theorem bytesA_one (l : List UInt8) : (bytesA l).all (·.oneCell') = true := by simp [bytesA, byteV, Value.oneCell']
theorem wordsA_one (l : List UInt16) : (wordsA l).all (·.oneCell') = true := by simp [wordsA, wordV, Value.oneCell']
theorem byteV_inj {a b : UInt8} (h : byteV a = byteV b) : a = b := by
  unfold byteV at h; injection h with _ h; exact Oct.eq_of_toNat (by omega)
theorem wordV_inj {a b : UInt16} (h : wordV a = wordV b) : a = b := by
  unfold wordV at h; injection h with _ h; exact Adr.eq_of_toNat16 (by omega)
theorem infoAddr : (Try.prog.info? 23).map (·.size) = some 16 := by kernel_rfl
theorem infoGroups : (Try.prog.info? 82).map (·.size) = some 8 := by kernel_rfl
theorem zeroBytes : bytesA (List.replicate 16 0) = #[.int .u8 0, .int .u8 0, .int .u8 0, .int .u8 0, .int .u8 0, .int .u8 0, .int .u8 0, .int .u8 0, .int .u8 0, .int .u8 0, .int .u8 0, .int .u8 0, .int .u8 0, .int .u8 0, .int .u8 0, .int .u8 0] := by rfl
theorem zeroWords : wordsA (List.replicate 8 0) = #[.int .u16 0, .int .u16 0, .int .u16 0, .int .u16 0, .int .u16 0, .int .u16 0, .int .u16 0, .int .u16 0] := by rfl
/-- The walk stands at the operation that writes slot t (or fails at once). -/
theorem at_slot {P : Program} {ops : Array Oper} {Q : Exit → Act → World → Prop} {rest : List Oper} {o : Oper} {a : Act} {w : World} (t : Tmp) (_h : o.dst = some t) (k : wpList P ops Q (o :: rest) a w) : wpList P ops Q (o :: rest) a w := k
/-- The load of a whole array, guarded or not, where it runs. -/
theorem load_row {P : Program} {ops : Array Oper} {Q : Exit → Act → World → Prop} {rest : List Oper} {o : Oper} {a : Act} {w : World} (hw : Region.wanted o (yielded ops a.tmps) = true) (ty : TypeId) (x : Operand) (ho : o.op = .load ty x)
    (g : Nat) (hx : a.eval x = .pointer (some ⟨g, 0, none⟩)) {t : TypeId} {cs : Array Value} {d : TypeDesc} (hg : Row w g t cs)
    (hu : P.underlying ty = some d) (hd : (match d with | .struct _ | .array _ _ => true | _ => false) = true) (hi : (P.info? ty).map (·.size) = some cs.size)
    (h : wpList P ops Q rest (a.put o.dst (.agg cs)) w) : wpList P ops Q (o :: rest) a w :=
  wpList_step fun K hK => by
    simp only [hw, if_true]
    exact wp_load_row ty x ho g hx t cs (0, 0) d hg hu hd hi (hK _ _ h)
/-- The load of a whole array in a region that draws its order, under an S that gives the row. -/
theorem yields_row {P : Program} {ops : Array Oper} {S : World → Prop} {o : Oper} {a : Act} (hw : Region.wanted o (yielded ops a.tmps) = true) (ty : TypeId) (x : Operand) (ho : o.op = .load ty x)
    (g : Nat) (hx : a.eval x = .pointer (some ⟨g, 0, none⟩)) {t : TypeId} {cs : Array Value} {d : TypeDesc} (hS : ∀ w, S w → Row w g t cs)
    (hu : P.underlying ty = some d) (hd : (match d with | .struct _ | .array _ _ => true | _ => false) = true) (hi : (P.info? ty).map (·.size) = some cs.size) : YieldsIf P ops S o (.agg cs) a :=
  .inl ⟨hw, fun w hs => by
    unfold execOp
    simp only [ho, hx, Instr.loadAt, Instr.sureAddr, Sem.run_bind, Sem.run_pure, Result.andThen_ok, run_loadVar_row w g t ty cs (0, 0) d (hS w hs) hu hd hi]⟩
/-- Noughts, by a name. -/
def zA : List UInt8 := List.replicate 16 0
def zG : List UInt16 := List.replicate 8 0
theorem zA_length : zA.length = 16 := rfl
theorem zG_length : zG.length = 8 := rfl
theorem zA_eq : zA = List.replicate 16 0 := rfl
theorem zG_eq : zG = List.replicate 8 0 := rfl
theorem bytesA_zA : #[Value.int .u8 0, .int .u8 0, .int .u8 0, .int .u8 0, .int .u8 0, .int .u8 0, .int .u8 0, .int .u8 0, .int .u8 0, .int .u8 0, .int .u8 0, .int .u8 0, .int .u8 0, .int .u8 0, .int .u8 0, .int .u8 0] = bytesA zA := by rfl
theorem wordsA_zG : #[Value.int .u16 0, .int .u16 0, .int .u16 0, .int .u16 0, .int .u16 0, .int .u16 0, .int .u16 0, .int .u16 0] = wordsA zG := by rfl
theorem results_cell_two {P : Program} {fn : Func} {p u : Tmp} {ty : TypeId} (h : fn.results = #[.cell p ty, .tmp u]) (tmps : Array Value) (w : World) (g : Nat) (t : TypeId) (cs : Array Value) (d : TypeDesc)
    (hp : tmps.getD p undef = .pointer (some ⟨g, 0, none⟩)) (v : Value) (hv : tmps.getD u undef = v) (hg : Row w g t cs)
    (hu : P.underlying ty = some d) (hd : (match d with | .struct _ | .array _ _ => true | _ => false) = true) (hi : (P.info? ty).map (·.size) = some cs.size) :
    (results fn tmps).run P w = .ok (.tuple #[.agg cs, v]) w := by
  have hp' : (asAddr (tmps.getD p undef)).run P w = .ok ⟨g, 0, none⟩ w := by rw [hp]; rfl
  rw [results_cell_tmp h, hp', Result.andThen_ok, run_loadVar_row w g t ty cs (0, 0) d hg hu hd hi, Result.andThen_ok, hv]
theorem infoWord : (Try.prog.info? 81).map (fun i => (i.zero, i.size, i.bytes)) = some (some (.int .u16 0), 1, 2) := by kernel_rfl
theorem infoText : (Try.prog.info? 9).map (fun i => (i.zero, i.size, i.bytes)) = some (some (.string ⟨#[]⟩), 1, 16) := by kernel_rfl
theorem madeOne (v : Value) (n : Nat) : madeCells #[v] n = (List.replicate n v).toArray := by
  apply Array.ext
  · simp [madeCells]
  · intro i h1 h2
    simp [madeCells, Nat.mod_one]
theorem make_one {P : Program} {t e : TypeId} {v : Value} {b : Nat} (ht : P.underlying t = some (.slice e)) (hi : (P.info? e).map (fun i => (i.zero, i.size, i.bytes)) = some (some v, 1, b)) (hv : v.cells = #[v])
    (n : Nat) (hn : b * n ≤ 281474976710656) (hb : 0 < b) (W : World) :
    (Instr.makeSlice t (.int .i64 (n : Int)) (.int .i64 (n : Int))).run P W = .ok (.slice (some ⟨W.heap.size, 0, none⟩) n n) (W.alloc (.cells (List.replicate n v).toArray e)) := by
  obtain ⟨i, hi0, hz0, hz1, hz2⟩ := info_parts hi
  have hbn : n ≤ b * n := Nat.le_mul_of_pos_left n hb
  have h := run_make (P := P) W t e i v ht hi0 hz0 .i64 .i64 (n : Int) (n : Int) (by omega) (Int.le_refl _) (by rw [hz2, ← Int.natCast_mul]; omega) (by omega)
  rw [hz1, hv, Int.toNat_natCast, Nat.mul_one, madeOne] at h
  exact h
theorem make_words (n : Nat) (hn : n ≤ 1099511627777) (W : World) :
    (Instr.makeSlice 77 (.int .i64 (n : Int)) (.int .i64 (n : Int))).run Try.prog W = .ok (.slice (some ⟨W.heap.size, 0, none⟩) n n) (W.alloc (.cells (wordsA (List.replicate n 0)) 81)) := by
  have h := make_one Try.underlying77 infoWord rfl n (by omega) (by omega) W
  have e : (List.replicate n (Value.int .u16 0)).toArray = wordsA (List.replicate n 0) := by simp [wordsA, wordV]
  rw [e] at h
  exact h
/-- Texts in a row. -/
def textsA (l : List (List UInt8)) : Array Value := (l.map strV).toArray
theorem textsA_size (l : List (List UInt8)) : (textsA l).size = l.length := by simp [textsA]
theorem textsA_at (l : List (List UInt8)) (i : Nat) : (textsA l)[i]? = (l[i]?).map strV := by simp [textsA]
theorem textsA_set (l : List (List UInt8)) (i : Nat) (x : List UInt8) : (textsA l).setIfInBounds i (strV x) = textsA (l.set i x) := by simp [textsA, List.map_set]
theorem make_texts (n : Nat) (hn : n ≤ 1099511627777) (W : World) :
    (Instr.makeSlice 56 (.int .i64 (n : Int)) (.int .i64 (n : Int))).run Try.prog W = .ok (.slice (some ⟨W.heap.size, 0, none⟩) n n) (W.alloc (.cells (textsA (List.replicate n [])) 9)) := by
  have h := make_one Try.underlying56 infoText rfl n (by omega) (by omega) W
  have e : (List.replicate n (Value.string ⟨#[]⟩)).toArray = textsA (List.replicate n []) := by simp [textsA, strV]
  rw [e] at h
  exact h
end Go.Proofs.Ytcookddgaomkiaa
