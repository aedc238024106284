/- Blocks of memory that are known whole; arrays of bytes and of numbers of sixteen bits as values; two arrays held against each other. -/
import Derived.Test.YtdidogcgoghdmaaOctets
import Derived.Test.YtdidogcgoghdmaaPlains
import Derived.Below
import Derived.Laws.Rows
import Derived.Laws.Tables
import Derived.Laws.ResultCell
import Derived.Laws.StructEq
import Derived.Laws.NewBlocks
import Derived.Laws.MakeOwn
import Derived.OrdersHeld
import Derived.ChangeKeysEq
import Derived.RegionTactic
import Derived.BigRegion
import Derived.IntWalk
import Derived.Laws.BitsAllLaws
namespace Go.Proofs.Ytdidogcgoghdmaa
open Go.RowKit
/-- Block g holds just these cells, and they may be written. -/
def Row (w : World) (g : Nat) (t : TypeId) (cs : Array Value) : Prop := w.heap[g]? = some (.cells cs t (0, 0))
section
variable {w w' : World} {g : Nat} {t : TypeId} {cs : Array Value}
theorem Row.lt (h : Row w g t cs) : g < w.heap.size := (Array.getElem?_eq_some_iff.1 h).1
theorem Row.cell (h : Row w g t cs) (i : Nat) : w.cell? ⟨g, i, none⟩ = cs[i]? := cell_of_row w g i cs t (0, 0) h
theorem Row.free (h : Row w g t cs) (i : Nat) : w.frozen? ⟨g, i, none⟩ = false := frozen_of_row w g i cs t h
theorem Row.new (w : World) (t : TypeId) (cs : Array Value) : Row (w.alloc (.cells cs t)) w.heap.size t cs := heap_alloc_new w _
theorem Row.drew (h : Row w g t cs) : Row w.drew g t cs := h
theorem Row.alloc (h : Row w g t cs) (o : Obj) : Row (w.alloc o) g t cs := (Below.heap_alloc w o g h.lt).trans h
theorem Row.set (h : Row w g t cs) (i : Nat) (u : Value) : Row (w.setCell ⟨g, i, none⟩ u) g t (cs.setIfInBounds i u) := heap_setCell_same w g i cs t u h
theorem Row.other (h : Row w g t cs) {p : Addr} (hp : g ≠ p.block) (u : Value) : Row (w.setCell p u) g t cs := (heap_setCell_other w p g u hp).trans h
theorem Row.below {B : Nat} (h : Row w g t cs) (hb : Below B w w') (hg : g < B) : Row w' g t cs := (hb.block g hg).trans h
theorem Row.stays (h : Row w g t cs) (hb : Below w.heap.size w w') : Row w' g t cs := h.below hb h.lt
theorem Row.whole (h : Row w g t cs) (ds : Array Value) : Row (w.setRow g ds) g t ds := setRow_heap w g cs ds t (0, 0) h
theorem Row.aside (h : Row w g t cs) {k : Nat} (hk : g ≠ k) (ds : Array Value) : Row (w.setRow k ds) g t cs := (setRow_other w k g ds hk).trans h
end
theorem below_setRow {B : Nat} {a w : World} (h : Below B a w) {g : Nat} (hg : B ≤ g) (cs : Array Value) : Below B a (w.setRow g cs) :=
  ⟨h.os, h.tape, h.output, by rw [size_setRow]; exact h.size, fun i hi => (setRow_other w g i cs (by omega)).trans (h.block i hi)⟩
/-- A number of sixteen bits. -/
def wordV (x : UInt16) : Value := .int .u16 (x.toNat : Int)
def bytesA (l : List UInt8) : Array Value := (l.map byteV).toArray
def wordsA (l : List UInt16) : Array Value := (l.map wordV).toArray
theorem bytesA_size (l : List UInt8) : (bytesA l).size = l.length := by simp [bytesA]
theorem wordsA_size (l : List UInt16) : (wordsA l).size = l.length := by simp [wordsA]
theorem bytesA_at (l : List UInt8) (i : Nat) : (bytesA l)[i]? = (l[i]?).map byteV := by simp [bytesA]
theorem wordsA_at (l : List UInt16) (i : Nat) : (wordsA l)[i]? = (l[i]?).map wordV := by simp [wordsA]
theorem bytesA_set (l : List UInt8) (i : Nat) (c : UInt8) : (bytesA l).setIfInBounds i (byteV c) = bytesA (l.set i c) := by simp [bytesA, List.map_set]
theorem wordsA_set (l : List UInt16) (i : Nat) (x : UInt16) : (wordsA l).setIfInBounds i (wordV x) = wordsA (l.set i x) := by simp [wordsA, List.map_set]
theorem bytesA_one (l : List UInt8) : (bytesA l).all (·.oneCell') = true := by simp [bytesA, byteV, Value.oneCell']
theorem wordsA_one (l : List UInt16) : (wordsA l).all (·.oneCell') = true := by simp [wordsA, wordV, Value.oneCell']
theorem byteV_inj {a b : UInt8} (h : byteV a = byteV b) : a = b := by
  unfold byteV at h; injection h with _ h; exact Oct.eq_of_toNat (by omega)
theorem wordV_inj {a b : UInt16} (h : wordV a = wordV b) : a = b := by
  unfold wordV at h; injection h with _ h; exact Adr.eq_of_toNat16 (by omega)
theorem zeroBytes : bytesA (List.replicate 16 0) = #[.int .u8 0, .int .u8 0, .int .u8 0, .int .u8 0, .int .u8 0, .int .u8 0, .int .u8 0, .int .u8 0, .int .u8 0, .int .u8 0, .int .u8 0, .int .u8 0, .int .u8 0, .int .u8 0, .int .u8 0, .int .u8 0] := by rfl
theorem zeroWords : wordsA (List.replicate 8 0) = #[.int .u16 0, .int .u16 0, .int .u16 0, .int .u16 0, .int .u16 0, .int .u16 0, .int .u16 0, .int .u16 0] := by rfl
/-- The walk stands at the operation that writes slot t (or fails at once). -/
theorem at_slot {P : Program} {ops : Array Oper} {Q : Exit → Act → World → Prop} {rest : List Oper} {o : Oper} {a : Act} {w : World} (t : Tmp) (_h : o.dst = some t) (k : wpList P ops Q (o :: rest) a w) : wpList P ops Q (o :: rest) a w := k
/-- The load of a whole array, guarded or not, where it runs. -/
theorem load_row {P : Program} {ops : Array Oper} {Q : Exit → Act → World → Prop} {rest : List Oper} {o : Oper} {a : Act} {w : World} (hw : Region.wanted o (yielded ops a.tmps) = true) (ty : TypeId) (x : Operand) (ho : o.op = .load ty x)
    (g : Nat) (hx : a.eval x = .pointer (some ⟨g, 0, none⟩)) {t : TypeId} {cs : Array Value} {d : TypeDesc} (hg : Row w g t cs)
    (hu : P.underlying ty = some d) (hd : (match d with | .struct _ | .array _ _ => true | _ => false) = true) (hi : (P.info? ty).map (·.size) = some cs.size)
    (h : wpList P ops Q rest (a.put o.dst (.agg cs)) w) : wpList P ops Q (o :: rest) a w :=
  wpList_step fun K hK => by
    simp only [hw, if_true]
    exact wp_load_row ty x ho g hx t cs (0, 0) d hg hu hd hi (hK _ _ h)
/-- The load of a whole array in a region that draws its order, under an S that gives the row. -/
theorem yields_row {P : Program} {ops : Array Oper} {S : World → Prop} {o : Oper} {a : Act} (hw : Region.wanted o (yielded ops a.tmps) = true) (ty : TypeId) (x : Operand) (ho : o.op = .load ty x)
    (g : Nat) (hx : a.eval x = .pointer (some ⟨g, 0, none⟩)) {t : TypeId} {cs : Array Value} {d : TypeDesc} (hS : ∀ w, S w → Row w g t cs)
    (hu : P.underlying ty = some d) (hd : (match d with | .struct _ | .array _ _ => true | _ => false) = true) (hi : (P.info? ty).map (·.size) = some cs.size) : YieldsIf P ops S o (.agg cs) a :=
  .inl ⟨hw, fun w hs => by
    unfold execOp
    simp only [ho, hx, Instr.loadAt, Instr.sureAddr, Sem.run_bind, Sem.run_pure, Result.andThen_ok, run_loadVar_row w g t ty cs (0, 0) d (hS w hs) hu hd hi]⟩
/-- Noughts, by a name. -/
def zA : List UInt8 := List.replicate 16 0
def zG : List UInt16 := List.replicate 8 0
theorem zA_length : zA.length = 16 := rfl
theorem zG_length : zG.length = 8 := rfl
theorem zA_eq : zA = List.replicate 16 0 := rfl
theorem zG_eq : zG = List.replicate 8 0 := rfl
theorem bytesA_zA : #[Value.int .u8 0, .int .u8 0, .int .u8 0, .int .u8 0, .int .u8 0, .int .u8 0, .int .u8 0, .int .u8 0, .int .u8 0, .int .u8 0, .int .u8 0, .int .u8 0, .int .u8 0, .int .u8 0, .int .u8 0, .int .u8 0] = bytesA zA := by rfl
theorem wordsA_zG : #[Value.int .u16 0, .int .u16 0, .int .u16 0, .int .u16 0, .int .u16 0, .int .u16 0, .int .u16 0, .int .u16 0] = wordsA zG := by rfl
theorem results_cell_two {P : Program} {fn : Func} {p u : Tmp} {ty : TypeId} (h : fn.results = #[.cell p ty, .tmp u]) (tmps : Array Value) (w : World) (g : Nat) (t : TypeId) (cs : Array Value) (d : TypeDesc)
    (hp : tmps.getD p undef = .pointer (some ⟨g, 0, none⟩)) (v : Value) (hv : tmps.getD u undef = v) (hg : Row w g t cs)
    (hu : P.underlying ty = some d) (hd : (match d with | .struct _ | .array _ _ => true | _ => false) = true) (hi : (P.info? ty).map (·.size) = some cs.size) :
    (results fn tmps).run P w = .ok (.tuple #[.agg cs, v]) w := by
  have hp' : (asAddr (tmps.getD p undef)).run P w = .ok ⟨g, 0, none⟩ w := by rw [hp]; rfl
  rw [results_cell_tmp h, hp', Result.andThen_ok, run_loadVar_row w g t ty cs (0, 0) d hg hu hd hi, Result.andThen_ok, hv]
theorem infoText : (Try.prog.info? 9).map (fun i => (i.zero, i.size, i.bytes)) = some (some (.string ⟨#[]⟩), 1, 16) := by kernel_rfl
theorem madeOne (v : Value) (n : Nat) : madeCells #[v] n = (List.replicate n v).toArray := by
  apply Array.ext
  · simp [madeCells]
  · intro i h1 h2
    simp [madeCells, Nat.mod_one]
theorem make_one {P : Program} {t e : TypeId} {v : Value} {b : Nat} (ht : P.underlying t = some (.slice e)) (hi : (P.info? e).map (fun i => (i.zero, i.size, i.bytes)) = some (some v, 1, b)) (hv : v.cells = #[v])
    (n : Nat) (hn : b * n ≤ 281474976710656) (hb : 0 < b) (W : World) :
    (Instr.makeSlice t (.int .i64 (n : Int)) (.int .i64 (n : Int))).run P W = .ok (.slice (some ⟨W.heap.size, 0, none⟩) n n) (W.alloc (.cells (List.replicate n v).toArray e)) := by
  obtain ⟨i, hi0, hz0, hz1, hz2⟩ := info_parts hi
  have hbn : n ≤ b * n := Nat.le_mul_of_pos_left n hb
  have h := run_make (P := P) W t e i v ht hi0 hz0 .i64 .i64 (n : Int) (n : Int) (by omega) (Int.le_refl _) (by rw [hz2, ← Int.natCast_mul]; omega) (by omega)
  rw [hz1, hv, Int.toNat_natCast, Nat.mul_one, madeOne] at h
  exact h
/-- Texts in a row. -/
def textsA (l : List (List UInt8)) : Array Value := (l.map strV).toArray
theorem textsA_size (l : List (List UInt8)) : (textsA l).size = l.length := by simp [textsA]
theorem textsA_at (l : List (List UInt8)) (i : Nat) : (textsA l)[i]? = (l[i]?).map strV := by simp [textsA]
theorem textsA_set (l : List (List UInt8)) (i : Nat) (x : List UInt8) : (textsA l).setIfInBounds i (strV x) = textsA (l.set i x) := by simp [textsA, List.map_set]
end Go.Proofs.Ytdidogcgoghdmaa
/- Two arrays of numbers held against each other. -/
namespace Go.Proofs.Ytdidogcgoghdmaa
open Go.RowKit
section
variable {P : Program}
theorem items_ints {e : TypeId} {k : IntKind} (he : P.underlying e = some (.int k)) (hp : P.plainKey e = true) (d : Nat) (zs us : List Int) (w : World) : ∀ is : List Nat, (∀ i ∈ is, i < zs.length ∧ i < us.length) →
    (Op.eqItems (d + 1) e 1 (zs.map fun z => Value.int k z).toArray (us.map fun z => Value.int k z).toArray is).run P w = .ok (decide (∀ i ∈ is, zs[i]? = us[i]?)) w
  | [], _ => by simp [Op.eqItems]
  | i :: is, h => by
    have hi := h i (by simp)
    have ih := items_ints he hp d zs us w is (fun j hj => h j (by simp [hj]))
    have p1 : (part e (zs.map fun z => Value.int k z).toArray (i * 1)).run P w = .ok (.int k zs[i]) w := run_part_plain w hp (by rw [Nat.mul_one]; simp [hi.1])
    have p2 : (part e (us.map fun z => Value.int k z).toArray (i * 1)).run P w = .ok (.int k us[i]) w := run_part_plain w hp (by rw [Nat.mul_one]; simp [hi.2])
    have p3 := run_equalIn_int (P := P) w d e k k zs[i] us[i] he
    simp only [Op.eqItems, Sem.run_bind, p1, p2, p3, Result.andThen_ok]
    by_cases heq : zs[i] = us[i]
    · have hb : (zs[i] == us[i]) = true := by rw [heq]; simp
      rw [hb]
      simp only [Bool.not_true, Bool.false_eq_true, if_false]
      rw [ih]
      congr 1
      rw [decide_eq_decide]
      constructor
      · intro hh j hj
        rcases List.mem_cons.1 hj with rfl | hj
        · rw [List.getElem?_eq_getElem hi.1, List.getElem?_eq_getElem hi.2, heq]
        · exact hh j hj
      · intro hh j hj
        exact hh j (by simp [hj])
    · have hb : (zs[i] == us[i]) = false := by rw [beq_eq_false_iff_ne]; exact heq
      rw [hb]
      simp only [Bool.not_false, if_true, Sem.run_pure]
      congr 1
      symm
      refine decide_eq_false fun hh => heq ?_
      have := hh i (by simp)
      rw [List.getElem?_eq_getElem hi.1, List.getElem?_eq_getElem hi.2] at this
      exact Option.some.inj this
theorem equal_ints {t e : TypeId} {n : Nat} {k : IntKind} {i : TypeInfo} (ht : P.underlying t = some (.array n e)) (he : P.underlying e = some (.int k)) (hp : P.plainKey e = true) (hi : P.info? e = some i) (hc : P.cellsOf e = 1)
    (zs us : List Int) (hz : zs.length = n) (hu : us.length = n) (d : Nat) (w : World) :
    (Op.equalIn (d + 2) t (.agg (zs.map fun z => Value.int k z).toArray) (.agg (us.map fun z => Value.int k z).toArray)).run P w = .ok (decide (zs = us)) w := by
  rw [run_equalIn_array w (d + 1) _ _ ht hi, hc, items_ints he hp d zs us w _ (fun j hj => by rw [hz, hu]; have := List.mem_range.1 hj; exact ⟨this, this⟩)]
  congr 1
  rw [decide_eq_decide]
  constructor
  · intro hh
    apply List.ext_getElem?
    intro j
    by_cases hj : j < n
    · exact hh j (List.mem_range.2 hj)
    · rw [List.getElem?_eq_none (by omega), List.getElem?_eq_none (by omega)]
  · rintro rfl j _
    rfl
end
theorem bytesA_ints (a : List UInt8) : bytesA a = ((a.map fun c => (c.toNat : Int)).map fun z => Value.int .u8 z).toArray := by unfold bytesA; rw [List.map_map]; rfl
theorem wordsA_ints (a : List UInt16) : wordsA a = ((a.map fun c => (c.toNat : Int)).map fun z => Value.int .u16 z).toArray := by unfold wordsA; rw [List.map_map]; rfl
theorem ints_inj8 {a b : List UInt8} : (a.map fun c => (c.toNat : Int)) = (b.map fun c => (c.toNat : Int)) ↔ a = b :=
  ⟨fun h => List.map_inj_right (fun x y e => Oct.eq_of_toNat (by omega)) |>.1 h, fun h => by rw [h]⟩
theorem ints_inj16 {a b : List UInt16} : (a.map fun c => (c.toNat : Int)) = (b.map fun c => (c.toNat : Int)) ↔ a = b :=
  ⟨fun h => List.map_inj_right (fun x y e => Adr.eq_of_toNat16 (by omega)) |>.1 h, fun h => by rw [h]⟩
theorem infoSome8 : ∃ i, Try.prog.info? 5 = some i := Option.isSome_iff_exists.1 (by kernel_rfl)
end Go.Proofs.Ytdidogcgoghdmaa
/- The walks of From and Groups. -/
namespace Go.Proofs.Ytdidogcgoghdmaa
open Go.RowKit
namespace Adr
theorem or_parts (n a b : Nat) (hb : b < 2 ^ n) : a * 2 ^ n ||| b = a * 2 ^ n + b := by
  rw [Nat.mul_comm]; exact (Nat.two_pow_add_eq_or_of_lt hb a).symm
theorem or_mk (a b : UInt8) : bits .or .u16 ((a.toNat : Int) * 256) (b.toNat : Int) = ((mk a b).toNat : Int) := by
  have h1 := a.toNat_lt
  have h2 := b.toNat_lt
  rw [show (a.toNat : Int) * 256 = ((a.toNat * 256 : Nat) : Int) by omega, u16_or_nat _ _ (by omega) (by omega), mk_toNat]
  have := or_parts 8 a.toNat b.toNat (by omega)
  exact congrArg Int.ofNat this
end Adr
end Go.Proofs.Ytdidogcgoghdmaa
/- The walks of hexDigit, group, fits, and of the reference's digit. -/
namespace Go.Proofs.Ytdidogcgoghdmaa
open Go.RowKit
namespace Adr
/-- The group that a text is, or 0. -/
def grpOf (l : List UInt8) : UInt16 := if isGrp l then grp l else 0
theorem grpOf_no {l : List UInt8} (h : isGrp l = false) : grpOf l = 0 := by unfold grpOf; rw [h]; rfl
theorem grpOf_yes {l : List UInt8} (h : isGrp l = true) : grpOf l = grp l := by unfold grpOf; rw [h]; rfl
theorem grpN_small (s : ByteArray) (h4 : s.size ≤ 4) (k : Nat) (hk : k < s.size) : grpN (s.data.toList.take k) ≤ 4095 := by
  have h1 := grpN_lt (s.data.toList.take k)
  have h3 : (s.data.toList.take k).length ≤ 3 := by have := List.length_take_le k s.data.toList; omega
  have h2 : 16 ^ (s.data.toList.take k).length ≤ 16 ^ 3 := Nat.pow_le_pow_right (by omega) h3
  omega
theorem grpN_take (s : ByteArray) (k : Nat) (h : k < s.size) : grpN (s.data.toList.take (k + 1)) = grpN (s.data.toList.take k) * 16 + hexN s[k] := by
  rw [Oct.take_snoc s k h, grpN_snoc]
theorem isGrp_len {s : ByteArray} (h : s.size < 1 ∨ 4 < s.size) : isGrp s.data.toList = false := by
  unfold isGrp; rw [decide_eq_false (by rw [Oct.length_bytes]; omega)]; rfl
theorem isGrp_no {s : ByteArray} (k : Nat) (h : k < s.size) (hp : hexB s[k] = false) : isGrp s.data.toList = false := by
  unfold isGrp; rw [Oct.all_not s k h hp]; simp
theorem isGrp_yes {s : ByteArray} (k : Nat) (h : s.size ≤ k) (ha : (s.data.toList.take k).all hexB = true) (h1 : 1 ≤ s.size) (h4 : s.size ≤ 4) : isGrp s.data.toList = true := by
  rw [Oct.take_all s k h] at ha
  unfold isGrp; rw [ha, decide_eq_true (by rw [Oct.length_bytes]; omega)]; rfl
theorem or_four (n : Nat) (d : Nat) (hn : n ≤ 4095) (hd : d < 16) : bits .or .u16 ((n : Int) * 16) (d : Int) = ((n * 16 + d : Nat) : Int) := by
  rw [show (n : Int) * 16 = ((n * 16 : Nat) : Int) by omega, u16_or_nat _ _ (by omega) (by omega)]
  exact congrArg Int.ofNat (or_parts 4 n d (by omega))
theorem hexN_eq (c : UInt8) : hexN c = if 48 ≤ c.toNat ∧ c.toNat ≤ 57 then c.toNat - 48 else if 97 ≤ c.toNat ∧ c.toNat ≤ 102 then c.toNat - 87 else if 65 ≤ c.toNat ∧ c.toNat ≤ 70 then c.toNat - 55 else 0 := rfl
theorem hexB_eq (c : UInt8) : hexB c = decide ((48 ≤ c.toNat ∧ c.toNat ≤ 57) ∨ (97 ≤ c.toNat ∧ c.toNat ≤ 102) ∨ (65 ≤ c.toNat ∧ c.toNat ≤ 70)) := rfl
def digI (c : UInt8) : Int := if hexB c = true then ((hexN c : Nat) : Int) else -1
theorem digI_eq (c : UInt8) : digI c = if hexB c = true then ((hexN c : Nat) : Int) else -1 := rfl
end Adr

end Go.Proofs.Ytdidogcgoghdmaa
/- The walk of row. -/
namespace Go.Proofs.Ytdidogcgoghdmaa
open Go.RowKit
namespace Adr
theorem row_nil {l : List UInt8} (h : l = []) : isRow l = true ∧ row l = [] := by
  subst h; exact ⟨rfl, rfl⟩
theorem row_no {l : List UInt8} {k : Nat} {p : List UInt8} (h0 : l ≠ []) (hp : (Oct.split 58 l)[k]? = some p) (hn : isGrp p = false) : isRow l = false := by
  unfold isRow
  rw [decide_eq_false h0, Bool.false_or, List.all_eq_false]
  exact ⟨p, List.mem_of_getElem? hp, by rw [hn]; simp⟩
theorem row_yes {l : List UInt8} (h0 : l ≠ []) (ha : (Oct.split 58 l).all isGrp = true) : isRow l = true ∧ row l = (Oct.split 58 l).map grp := by
  unfold isRow row
  rw [ha, if_neg h0]; simp
theorem all_more {ps : List (List UInt8)} {k : Nat} {p : List UInt8} (h : (ps.take k).all isGrp = true) (hp : ps[k]? = some p) (hq : isGrp p = true) : (ps.take (k + 1)).all isGrp = true := by
  rw [List.all_eq_true] at h ⊢
  exact Oct.take_more (Q := fun p => isGrp p = true) h hp hq
end Adr
end Go.Proofs.Ytdidogcgoghdmaa
/- A part of a block of cells is loaded whole. -/
namespace Go.Proofs.Ytdidogcgoghdmaa
open Go.RowKit
/-- A part of a block of cells is loaded whole. -/
theorem load_part {P : Program} {ops : Array Oper} {Q : Exit → Act → World → Prop} {rest : List Oper} {o : Oper} {a : Act} {w : World} (hw : Region.wanted o (yielded ops a.tmps) = true) (ty : TypeId) (x : Operand) (ho : o.op = .load ty x)
    (g off n : Nat) (hx : a.eval x = .pointer (some ⟨g, off, none⟩)) {t : TypeId} {cs : Array Value} {d : TypeDesc} (hg : Row w g t cs)
    (hu : P.underlying ty = some d) (hd : (match d with | .struct _ | .array _ _ => true | _ => false) = true) (hi : (P.info? ty).map (·.size) = some n) (hle : off + n ≤ cs.size) (ds : Array Value) (hds : cs.extract off (off + n) = ds)
    (h : wpList P ops Q rest (a.put o.dst (.agg ds)) w) : wpList P ops Q (o :: rest) a w := by
  have hlen : (cs.extract off (off + n)).toList.length = n := by rw [Array.length_toList, Array.size_extract]; omega
  have hl : (loadCells ⟨g, off, none⟩ (cs.extract off (off + n)).toList.length).run P w = .ok (cs.extract off (off + n)).toList.toArray w :=
    run_loadCells_list (P := P) w ⟨g, off, none⟩ (cs.extract off (off + n)).toList (fun j v hv => by
      have hadd : (⟨g, off, none⟩ : Addr).add j = ⟨g, off + j, none⟩ := by unfold Addr.add; split <;> simp_all
      rw [hadd, hg.cell]
      rw [Array.getElem?_toList] at hv
      rw [Array.getElem?_extract] at hv
      split at hv
      · exact hv
      · cases hv)
  rw [hlen, Array.toArray_toList, hds] at hl
  have hagg : (isAgg ty).run P w = .ok true w := by
    unfold isAgg
    rw [Sem.run_bind, run_underlying hu w]
    cases d <;> simp_all
  have hv : (loadVar ty ⟨g, off, none⟩).run P w = .ok (.agg ds) w := by
    cases hq : P.info? ty with
    | none => simp [hq] at hi
    | some i =>
      have hs : i.size = n := by simpa [hq] using hi
      simp [loadVar, Sem.run_bind, hagg, sizeOf, typeInfo, hq, hs, hl]
  refine wpList_step fun K hK => ?_
  simp only [hw, if_true]
  unfold Oper.wp execOp
  simp only [ho, hx, Instr.loadAt, Instr.sureAddr, Sem.run_bind, Sem.run_pure, Result.andThen_ok, hv]
  exact hK _ _ h
end Go.Proofs.Ytdidogcgoghdmaa
/- Values built of parts where an operation is guarded. -/
namespace Go.Proofs.Ytdidogcgoghdmaa
open Go.RowKit
/-- A value is built of two parts, guarded or not, where it runs. -/
theorem build_two_g {P : Program} {ops : Array Oper} {rest : List Oper} {o : Oper} {a : Act} {w : World} {Q : Exit → Act → World → Prop} (hw : Region.wanted o (yielded ops a.tmps) = true) (t : TypeId) (i j : Nat) (x y : Operand) (ho : o.op = .build t #[(i, x), (j, y)]) (u v : Value) (hx : a.eval x = u) (hy : a.eval y = v) (cells : Array Value)
    (hc : P.built t [(i, u), (j, v)] = some cells) (h : wpList P ops Q rest (a.put o.dst (.agg cells)) w) : wpList P ops Q (o :: rest) a w := by
  have e : ((#[(i, x), (j, y)] : Array (Nat × Operand)).map fun (i, x) => (i, a.eval x)).toList = [(i, u), (j, v)] := by simp [hx, hy]
  refine wpList_step fun K hK => ?_
  simp only [hw, if_true]
  refine wp_build t #[(i, x), (j, y)] ho ?_ (hK _ _ ?_)
  · rw [e, hc]; rfl
  · rw [e, hc]; exact h
theorem build_one_g {P : Program} {ops : Array Oper} {rest : List Oper} {o : Oper} {a : Act} {w : World} {Q : Exit → Act → World → Prop} (hw : Region.wanted o (yielded ops a.tmps) = true) (t : TypeId) (i : Nat) (x : Operand) (ho : o.op = .build t #[(i, x)]) (u : Value) (hx : a.eval x = u) (cells : Array Value)
    (hc : P.built t [(i, u)] = some cells) (h : wpList P ops Q rest (a.put o.dst (.agg cells)) w) : wpList P ops Q (o :: rest) a w := by
  have e : ((#[(i, x)] : Array (Nat × Operand)).map fun (i, x) => (i, a.eval x)).toList = [(i, u)] := by simp [hx]
  refine wpList_step fun K hK => ?_
  simp only [hw, if_true]
  refine wp_build t #[(i, x)] ho ?_ (hK _ _ ?_)
  · rw [e, hc]; rfl
  · rw [e, hc]; exact h
theorem build_four_g {P : Program} {ops : Array Oper} {rest : List Oper} {o : Oper} {a : Act} {w : World} {Q : Exit → Act → World → Prop} (hw : Region.wanted o (yielded ops a.tmps) = true) (t : TypeId) (i0 i1 i2 i3 : Nat) (x0 x1 x2 x3 : Operand) (ho : o.op = .build t #[(i0, x0), (i1, x1), (i2, x2), (i3, x3)])
    (u0 u1 u2 u3 : Value) (h0 : a.eval x0 = u0) (h1 : a.eval x1 = u1) (h2 : a.eval x2 = u2) (h3 : a.eval x3 = u3) (cells : Array Value)
    (hc : P.built t [(i0, u0), (i1, u1), (i2, u2), (i3, u3)] = some cells) (h : wpList P ops Q rest (a.put o.dst (.agg cells)) w) : wpList P ops Q (o :: rest) a w := by
  have e : ((#[(i0, x0), (i1, x1), (i2, x2), (i3, x3)] : Array (Nat × Operand)).map fun (i, x) => (i, a.eval x)).toList = [(i0, u0), (i1, u1), (i2, u2), (i3, u3)] := by simp [h0, h1, h2, h3]
  refine wpList_step fun K hK => ?_
  simp only [hw, if_true]
  refine wp_build t #[(i0, x0), (i1, x1), (i2, x2), (i3, x3)] ho ?_ (hK _ _ ?_)
  · rw [e, hc]; rfl
  · rw [e, hc]; exact h
end Go.Proofs.Ytdidogcgoghdmaa
/- Hosts as values, in memory, and held against each other. -/
namespace Go.Proofs.Ytdidogcgoghdmaa
open Go.RowKit
/-- A host as a value. -/
def hostA (h : Hst.Host) : Array Value := (Value.int .i64 h.kind :: strV h.name :: h.addr.map byteV).toArray
theorem hostA_size (h : Hst.Host) (ha : h.addr.length = 16) : (hostA h).size = 18 := by simp [hostA, ha]
theorem hostA_one (h : Hst.Host) : (hostA h).all (·.oneCell') = true := by simp [hostA, byteV, strV, Value.oneCell']
theorem hostA_kind (h : Hst.Host) : (hostA h)[0]? = some (.int .i64 h.kind) := rfl
theorem hostA_name (h : Hst.Host) : (hostA h)[1]? = some (strV h.name) := rfl
theorem hostA_addr (h : Hst.Host) (ha : h.addr.length = 16) : (hostA h).extract 2 18 = bytesA h.addr := by
  apply Array.ext'
  rw [Array.toList_extract]
  unfold hostA bytesA
  have e : List.take 16 (List.map byteV h.addr) = List.map byteV h.addr := List.take_of_length_le (by simp [ha])
  simp [e]
theorem zeroHost : #[Value.int .i64 0, .string ⟨#[]⟩, .int .u8 0, .int .u8 0, .int .u8 0, .int .u8 0, .int .u8 0, .int .u8 0, .int .u8 0, .int .u8 0, .int .u8 0, .int .u8 0, .int .u8 0, .int .u8 0, .int .u8 0, .int .u8 0, .int .u8 0, .int .u8 0] = hostA Hst.zero := by rfl
theorem nameHost (s : ByteArray) : #[Value.int .i64 1, .string s, .int .u8 0, .int .u8 0, .int .u8 0, .int .u8 0, .int .u8 0, .int .u8 0, .int .u8 0, .int .u8 0, .int .u8 0, .int .u8 0, .int .u8 0, .int .u8 0, .int .u8 0, .int .u8 0, .int .u8 0, .int .u8 0] = hostA ⟨1, s.data.toList, Hst.nil16⟩ := by rfl
theorem sixteen {a : List UInt8} (ha : a.length = 16) : ∃ x0 x1 x2 x3 x4 x5 x6 x7 x8 x9 x10 x11 x12 x13 x14 x15, a = [x0, x1, x2, x3, x4, x5, x6, x7, x8, x9, x10, x11, x12, x13, x14, x15] := by
  match a, ha with
  | [x0, x1, x2, x3, x4, x5, x6, x7, x8, x9, x10, x11, x12, x13, x14, x15], _ => exact ⟨x0, x1, x2, x3, x4, x5, x6, x7, x8, x9, x10, x11, x12, x13, x14, x15, rfl⟩
/-! ### Two hosts -/
theorem run_part_agg {P : Program} {W : World} {t e : TypeId} {n : Nat} {i : TypeInfo} {xs : Array Value} {off : Nat} (ht : P.underlying t = some (.array n e)) (hi : P.info? t = some i) : (part t xs off).run P W = .ok (.agg (xs.extract off (off + P.cellsOf t))) W := by
  have hs := run_sizeOf (w := W) hi
  simp [part, isAgg, run_underlying ht, hs]
theorem eq_fields {P : Program} {f0 f1 f2 : Field} (n0 : f0.name ≠ "_") (n1 : f1.name ≠ "_") (n2 : f2.name ≠ "_") (o0 : f0.offset = 0) (o1 : f1.offset = 1) (o2 : f2.offset = 2)
    (u0 : P.underlying f0.type = some (.int .i64)) (u1 : P.underlying f1.type = some .string) {e : TypeId} (u2 : P.underlying f2.type = some (.array 16 e)) (ue : P.underlying e = some (.int .u8))
    (p0 : P.plainKey f0.type = true) (p1 : P.plainKey f1.type = true) (pe : P.plainKey e = true) {i2 ie : TypeInfo} (i2h : P.info? f2.type = some i2) (ieh : P.info? e = some ie) (ce : P.cellsOf e = 1) (c2 : P.cellsOf f2.type = 16)
    (h g : Hst.Host) (hh : h.addr.length = 16) (hg : g.addr.length = 16) (d : Nat) (W : World) :
    (Op.eqFields (d + 2) (hostA h) (hostA g) [f0, f1, f2]).run P W = .ok (decide (h = g)) W := by
  have a0 : (part f0.type (hostA h) f0.offset).run P W = .ok (.int .i64 h.kind) W := run_part_plain W p0 (by rw [o0]; rfl)
  have b0 : (part f0.type (hostA g) f0.offset).run P W = .ok (.int .i64 g.kind) W := run_part_plain W p0 (by rw [o0]; rfl)
  have a1 : (part f1.type (hostA h) f1.offset).run P W = .ok (strV h.name) W := run_part_plain W p1 (by rw [o1]; rfl)
  have b1 : (part f1.type (hostA g) f1.offset).run P W = .ok (strV g.name) W := run_part_plain W p1 (by rw [o1]; rfl)
  have a2 : (part f2.type (hostA h) f2.offset).run P W = .ok (.agg (bytesA h.addr)) W := by
    rw [run_part_agg u2 i2h, c2, o2, hostA_addr h hh]
  have b2 : (part f2.type (hostA g) f2.offset).run P W = .ok (.agg (bytesA g.addr)) W := by
    rw [run_part_agg u2 i2h, c2, o2, hostA_addr g hg]
  have q0 : (Op.equalIn (d + 2) f0.type (.int .i64 h.kind) (.int .i64 g.kind)).run P W = .ok (h.kind == g.kind) W := run_equalIn_int W (d + 1) f0.type .i64 .i64 h.kind g.kind u0
  have q1 : (Op.equalIn (d + 2) f1.type (strV h.name) (strV g.name)).run P W = .ok (decide (h.name = g.name)) W := by
    unfold strV
    rw [run_equalIn_string W (d + 1) f1.type _ _ u1, Oct.bytes_data, Oct.bytes_data]
    refine congrArg (fun b => Result.ok b W) ?_
    rw [Bool.eq_iff_iff]
    simp
  have q2 : (Op.equalIn (d + 2) f2.type (.agg (bytesA h.addr)) (.agg (bytesA g.addr))).run P W = .ok (decide (h.addr = g.addr)) W := by
    rw [bytesA_ints, bytesA_ints, equal_ints u2 ue pe ieh ce _ _ (by simp [hh]) (by simp [hg]) d W]
    exact congrArg (fun b => Result.ok b W) (decide_eq_decide.2 ints_inj8)
  have hd : decide (h = g) = ((h.kind == g.kind) && (decide (h.name = g.name) && decide (h.addr = g.addr))) := by
    rw [Bool.eq_iff_iff]
    simp only [decide_eq_true_eq, Bool.and_eq_true, beq_iff_eq]
    constructor
    · rintro rfl; exact ⟨rfl, rfl, rfl⟩
    · rintro ⟨e0, e1, e2⟩
      cases h; cases g
      simp at e0 e1 e2
      rw [e0, e1, e2]
  rw [hd]
  simp only [Op.eqFields, Sem.run_bind, a0, b0, a1, b1, a2, b2, q0, q1, q2, Result.andThen_ok, Sem.run_ite, Sem.run_pure, ne_eq, n0, n1, n2, not_false_eq_true, if_true]
  cases (h.kind == g.kind) <;> cases decide (h.name = g.name) <;> cases decide (h.addr = g.addr) <;> rfl
/-- A value of several cells is laid in a block of its own: what lay before lies on. -/
theorem lay_row {w w1 : World} {B : Nat} (t : TypeId) (zs cs : Array Value) (hb : Below B w w1) (hB : B ≤ w1.heap.size) :
    Row (w1.alloc (.cells zs t)) w1.heap.size t zs ∧ Row ((w1.alloc (.cells zs t)).setRow w1.heap.size cs) w1.heap.size t cs ∧ Below B w ((w1.alloc (.cells zs t)).setRow w1.heap.size cs) ∧
    ∀ g t' c, Row w1 g t' c → Row ((w1.alloc (.cells zs t)).setRow w1.heap.size cs) g t' c := by
  have T := Row.new w1 t zs
  refine ⟨T, T.whole cs, below_setRow (hb.alloc hB _) hB cs, fun g t' c R => ?_⟩
  have hne : g ≠ w1.heap.size := by have := R.lt; omega
  exact (R.alloc _).aside hne cs
/-- A value is built of two parts. -/
theorem build_two {P : Program} {ops : Array Oper} {rest : List Oper} {o : Oper} {a : Act} {w : World} {Q : Exit → Act → World → Prop} (hg : o.guard = none) (t : TypeId) (i j : Nat) (x y : Operand) (ho : o.op = .build t #[(i, x), (j, y)]) (u v : Value) (hx : a.eval x = u) (hy : a.eval y = v) (cells : Array Value)
    (hc : P.built t [(i, u), (j, v)] = some cells) (h : wpList P ops Q rest (a.put o.dst (.agg cells)) w) : wpList P ops Q (o :: rest) a w := by
  have e : ((#[(i, x), (j, y)] : Array (Nat × Operand)).map fun (i, x) => (i, a.eval x)).toList = [(i, u), (j, v)] := by simp [hx, hy]
  refine wpList_build hg t #[(i, x), (j, y)] ho ?_ ?_
  · rw [e, hc]; rfl
  · rw [e, hc]; exact h
/-- A host, and whether there is one. -/
def NewHost (o : Option Hst.Host) (w : World) (e : Ending) (w' : World) : Prop := e = .returned (.tuple #[.agg (hostA (o.getD Hst.zero)), .int .i64 (if o.isSome then 0 else 31)]) ∧ Below w.heap.size w w'
end Go.Proofs.Ytdidogcgoghdmaa
/- Two hosts held against each other. -/
namespace Go.Proofs.Ytdidogcgoghdmaa
open Go.RowKit
theorem own_base {w : World} {B B' n : Nat} {t : TypeId} {v : Value} {xs : List Value} (h : w.ownsRow B' t 1 v n xs) (hb : B ≤ B') : w.ownsRow B t 1 v n xs := by
  refine ⟨h.1, ?_⟩
  rcases h.2 with k | ⟨g, cap, cur, e, hg, r⟩
  · exact .inl k
  · exact .inr ⟨g, cap, cur, e, Nat.le_trans hb hg, r⟩
end Go.Proofs.Ytdidogcgoghdmaa
