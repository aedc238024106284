/- What every walk's text imports. -/
import Derived.Test.YtdidogcgoghdmaaRows
import Derived.Test.YtdidogcgoghdmaaPlains
import Derived.WalkKit
import Derived.WalkSpells
import Derived.WalkLawsBesides
import Derived.Lib.Hide
import Derived.ProofKit
import Derived.Below
import Derived.ChangeSame
import Derived.OpenShut
import Derived.Deep.QuietTactic
import Derived.BigQuiet

/- What every law's last step needs: the program's own closed facts; what a law that answers true leaves, where nothing below the heap's size has turned. -/
namespace Go.Proofs.Ytdidogcgoghdmaa
open Go.ChangeShapes Go.WideShapes Go.ChangeAt Go.WideMaps Go.WideElems Go.RowKit
theorem own : ownKnob Try.prog.godebug = none := by kernel_rfl
section
variable {H : Type} {enc : TypeId × Value → H} {P : Program}
/-- A law that made memory of its own, and left all that there was. -/
theorem law_post {f : Func} {s : ChangeSpec} {fresh handsOn : Bool} {W W' : World} {args : Array Value} {v : Value} {ds gs : List (DataW H)} {before pa pv : List MemPlace}
    (hW : DataW.Whole enc P f.params.toList s.vars false W args.toList ds gs before) (hbelow : Below W.heap.size W W')
    (results : ∀ (b : Nat) (sp : Nat → Bool) (hd : Bool), DataW.TrodAll enc P W' b sp hd f.resultTypes.toList (v.resultList f.resultTypes.size) (s.fn H (ds ++ gs)).results [])
    (arguments : DataW.TrodAll enc P W' 0 (fun b => decide (b < W.heap.size)) true f.params.toList args.toList (s.fn H (ds ++ gs)).args pa)
    (variables : DataW.TrodVars enc P W' (fun b => decide (b < W.heap.size)) s.vars (s.fn H (ds ++ gs)).vars pv)
    (places : before = pa ++ pv) : s.post enc P f false fresh handsOn false W args v W' := by
  refine ⟨ds, gs, before, [], pa, pv, hW, results _ _ _, arguments, variables, ?_, fun h => by cases h⟩
  refine World.keptBut_mono (fun p hp => ⟨hp, ?_⟩) (hbelow.frame (· ∈ before))
  rw [places] at hp
  exact .inr (List.mem_append.1 hp)
end
theorem new_trans {a b c : World} (h : Below a.heap.size a b) (k : Below b.heap.size b c) : Below a.heap.size a c := h.trans (k.mono h.size)
/-- A byte that came in. -/
theorem byte_of {n : Int} (h : (Lit.int .u8 n).wf = true) : ∃ c : UInt8, n = (c.toNat : Int) := by
  have hb := bounds_u8 h
  refine ⟨UInt8.ofNat n.toNat, ?_⟩
  rw [UInt8.toNat_ofNat']
  omega
end Go.Proofs.Ytdidogcgoghdmaa
/- The walks of Digits and Number, of octet and of the reference. -/
namespace Go.Proofs.Ytdidogcgoghdmaa
open Go.RowKit

end Go.Proofs.Ytdidogcgoghdmaa
/- The walks of Number, of octet and of the reference. -/
namespace Go.Proofs.Ytdidogcgoghdmaa
open Go.RowKit

end Go.Proofs.Ytdidogcgoghdmaa
/- The walks of the reference's Number. -/
namespace Go.Proofs.Ytdidogcgoghdmaa
open Go.RowKit

end Go.Proofs.Ytdidogcgoghdmaa
/- The walk of Split. -/
namespace Go.Proofs.Ytdidogcgoghdmaa
open Go.RowKit
theorem infoStr : (Try.prog.info? 9).map (fun i => (i.zero, i.size, i.bytes)) = some (some (.string ⟨#[]⟩), 1, 16) := by kernel_rfl

/-- A new list of texts. -/
def NewTexts (B : Nat) (ps : List (List UInt8)) (w : World) (e : Ending) (w' : World) : Prop :=
  ∃ v, e = .returned v ∧ w'.ownsRow B 9 1 v ps.length (ps.map strV) ∧ Below B w w'

theorem own_snoc {w : World} {B : Nat} {v u : Value} {done : List (List UInt8)} {p : List UInt8} (hu : u = strV p) (h : w.ownsRow B 9 1 v (done.length + 1) (done.map strV ++ [u])) :
    w.ownsRow B 9 1 v (done ++ [p]).length ((done ++ [p]).map strV) := by
  rw [List.length_append, List.map_append, List.map_singleton, ← hu]; exact h

/-- A new list of texts that isn't nil. -/
def NewTextsAt (B : Nat) (ps : List (List UInt8)) (w : World) (e : Ending) (w' : World) : Prop :=
  ∃ g cap, e = .returned (.slice (some ⟨g, 0, none⟩) ps.length cap) ∧ w'.ownsRow B 9 1 (.slice (some ⟨g, 0, none⟩) ps.length cap) ps.length (ps.map strV) ∧ Below B w w'
theorem NewTexts.at_ {B : Nat} {ps : List (List UInt8)} {w w' : World} {e : Ending} (h : NewTexts B ps w e w') (hp : 0 < ps.length) : NewTextsAt B ps w e w' := by
  obtain ⟨v, he, hown, hb⟩ := h
  rcases hown.2 with ⟨_, h0⟩ | ⟨g, cap, _, hv, _⟩
  · omega
  · subst hv
    exact ⟨g, cap, he, hown, hb⟩
/-- The cell of a text of a list. -/
theorem own_cell {w : World} {B g cap : Nat} {ps : List (List UInt8)} (h : w.ownsRow B 9 1 (.slice (some ⟨g, 0, none⟩) ps.length cap) ps.length (ps.map strV)) {k : Nat} (hk : k < ps.length) :
    ∃ (p : List UInt8) (s : ByteArray), ps[k]? = some p ∧ w.cell? ⟨g, k, none⟩ = some (.string s) ∧ s.data.toList = p ∧ s.toList.isEmpty = p.isEmpty ∧ s.size = p.length := by
  obtain ⟨p, s, h1, h2, h3, h4, h5⟩ := text_at hk
  refine ⟨p, s, h1, ?_, h3, h4, h5⟩
  rw [h.cellAt k (by omega), List.getElem?_map, h1, ← h2]; rfl
theorem own_text {w : World} {B g cap n : Nat} {ps : List (List UInt8)} (h : w.ownsRow B 9 1 (.slice (some ⟨g, 0, none⟩) n cap) n (ps.map strV)) {k : Nat} {p : List UInt8} {s : ByteArray} (hp : ps[k]? = some p) (hs : s = ⟨p.toArray⟩) :
    w.cell? ⟨g, k, none⟩ = some (.string s) := by
  have hk := (List.getElem?_eq_some_iff.1 hp).1
  have hl := h.1
  rw [List.length_map] at hl
  rw [h.cellAt k (by omega), List.getElem?_map, hp, hs]; rfl
theorem own_cap {w : World} {B g cap n : Nat} {t : TypeId} {xs : List Value} (h : w.ownsRow B t 1 (.slice (some ⟨g, 0, none⟩) n cap) n xs) : n ≤ cap := by
  rcases h.2 with ⟨e, _⟩ | ⟨g', cap', _, e, _, _, hc, _⟩
  · cases e
  · simp only [Value.slice.injEq, Option.some.injEq, Addr.mk.injEq, and_true, true_and] at e
    rw [e.2]; exact hc
/-- The first m of an owned list. -/
theorem own_take {w : World} {B g cap n m : Nat} {t : TypeId} {xs : List Value} (h : w.ownsRow B t 1 (.slice (some ⟨g, 0, none⟩) n cap) n xs) (hm : m ≤ n) : w.ownsRow B t 1 (.slice (some ⟨g, 0, none⟩) m cap) m (xs.take m) := by
  refine ⟨by have := h.1; rw [List.length_take]; omega, ?_⟩
  rcases h.2 with ⟨e, _⟩ | ⟨g', cap', cur, e, hb, hh, hc, hx, hs, ht⟩
  · cases e
  · simp only [Value.slice.injEq, Option.some.injEq, Addr.mk.injEq, and_true, true_and] at e
    obtain ⟨rfl, rfl⟩ := e
    refine .inr ⟨g, cap, cur, rfl, hb, hh, by omega, hx, hs, ?_⟩
    rw [← ht, List.take_take, Nat.mul_one, Nat.mul_one, Nat.min_eq_left hm]
end Go.Proofs.Ytdidogcgoghdmaa
/- The walk of the reference's Split. -/
namespace Go.Proofs.Ytdidogcgoghdmaa
open Go.RowKit
end Go.Proofs.Ytdidogcgoghdmaa
/- Bytes in memory that a call owns, and texts out of them. -/
namespace Go.Proofs.Ytdidogcgoghdmaa
open Go.RowKit
theorem own_keep {w w' : World} {B n : Nat} {t : TypeId} {v : Value} {xs : List Value} (h : w.ownsRow B t 1 v n xs) (hb : Below w.heap.size w w') : w'.ownsRow B t 1 v n xs := by
  refine h.kept (row := none) ⟨hb.os, hb.tape, hb.output, hb.size, fun i hi _ => hb.block i hi⟩ ?_
  cases hv : v.ownBlock
  · exact .inl rfl
  · exact .inr (by simp)
theorem own_far {w : World} {B n : Nat} {t : TypeId} {v : Value} {xs : List Value} (h : w.ownsRow B t 1 v n xs) {p : Addr} (hp : v.ownBlock ≠ some p.block) (u : Value) : (w.setCell p u).ownsRow B t 1 v n xs := by
  refine h.kept (row := some p.block) ⟨rfl, rfl, rfl, by simp [World.setCell], fun i _ hn => Below.heap_setCell w p u i (by intro e; exact hn (by rw [e]))⟩ (.inr hp)
theorem infoByte : (Try.prog.info? 5).map (fun i => (i.zero, i.size, i.bytes)) = some (some (.int .u8 0), 1, 1) := by kernel_rfl
/-- A text, and new memory. -/
def NewText (B : Nat) (l : List UInt8) (w : World) (e : Ending) (w' : World) : Prop := e = .returned (.string ⟨l.toArray⟩) ∧ Below B w w'
/-- The bytes l lie at the head of block g, and may be written. -/
structure Bytes (w : World) (g : Nat) (l : List UInt8) : Prop where
  cell : ∀ j c, l[j]? = some c → w.cell? ⟨g, j, none⟩ = some (byteV c)
  free : ∀ j, j < l.length → w.frozen? ⟨g, j, none⟩ = false
theorem Bytes.set {w : World} {g : Nat} {l : List UInt8} (h : Bytes w g l) (k : Nat) (c : UInt8) : Bytes (w.setCell ⟨g, k, none⟩ (byteV c)) g (l.set k c) := by
  refine ⟨fun j d hj => ?_, fun j hj => ?_⟩
  · by_cases e : j = k
    · subst e
      have hlt : j < l.length := by have := (List.getElem?_eq_some_iff.1 hj).1; simpa using this
      rw [List.getElem?_set_self hlt] at hj
      rw [← Option.some.inj hj]
      exact World.cell?_setCell_same w _ _ (h.cell j _ (List.getElem?_eq_getElem hlt))
    · rw [List.getElem?_set_ne (by omega)] at hj
      rw [World.cell?_setCell_other w _ _ _ (by intro e'; injection e' with _ e'; exact e e'.symm)]
      exact h.cell j d hj
  · rw [World.frozen?_setCell]; exact h.free j (by simpa using hj)
theorem Bytes.new (w : World) (s : ByteArray) (cap : Nat) (t : TypeId) : Bytes (w.drew.alloc (.cells (bytesRow s cap) t ((bytesRow s cap).size, (bytesRow s cap).size + 1))) w.heap.size s.data.toList := by
  refine ⟨fun j c hj => ?_, fun j hj => ?_⟩
  · obtain ⟨hlt, e⟩ := List.getElem?_eq_some_iff.1 hj
    have := World.cell?_alloc_mark w.drew (bytesRow s cap) t ((bytesRow s cap).size, (bytesRow s cap).size + 1) j
    refine Eq.trans this ?_
    rw [bytesRow_at s cap j (by simpa using hlt)]
    rw [← e]; rfl
  · have := World.frozen?_alloc_mark w.drew (bytesRow s cap) t (bytesRow s cap).size ((bytesRow s cap).size + 1) j
    refine Eq.trans this ?_
    have h1 : j < (bytesRow s cap).size := by simp [bytesRow] at hj ⊢; omega
    simp; omega

/-- A text, whether it is one, and new memory. -/
def NewTextIf (B : Nat) (l : List UInt8) (ok : Bool) (w : World) (e : Ending) (w' : World) : Prop := e = .returned (.tuple #[.string ⟨l.toArray⟩, .bool ok]) ∧ Below B w w'

end Go.Proofs.Ytdidogcgoghdmaa
/- Worlds that part by draws alone. -/
namespace Go.Proofs.Ytdidogcgoghdmaa
open Go.RowKit
/-- Nothing but draws. -/
def Drawn (w w' : World) : Prop := ∃ n, w' = w.drewN n
theorem Drawn.refl (w : World) : Drawn w w := ⟨0, rfl⟩
theorem Drawn.more {w w' : World} (h : Drawn w w') (n : Nat) : Drawn w (w'.drewN n) := by
  obtain ⟨k, rfl⟩ := h
  exact ⟨k + n, World.drewN_drewN _ _ _⟩
theorem Drawn.below {w w' : World} (h : Drawn w w') (B : Nat) : Below B w w' := by
  obtain ⟨n, rfl⟩ := h
  induction n with
  | zero => exact Below.refl _ _
  | succ n ih => exact ih.drew
theorem Drawn.size {w w' : World} (h : Drawn w w') : w'.heap.size = w.heap.size := by
  obtain ⟨n, rfl⟩ := h
  induction n with
  | zero => rfl
  | succ n ih => exact ih
theorem quietL {P : Program} {f : FuncId} {args : Array Value} {w : World} {n : Nat} {v : Value} (h : Calls P f args (w.drewN n) fun e w' => e = .returned v ∧ w.drewN n = w') :
    Calls P f args (w.drewN n) fun e w'' => e = .returned v ∧ ∃ m, w'' = w.drewN m := h.mono fun _ _ hh => ⟨hh.1, n, hh.2.symm⟩

def BoolDrawn (b : Bool) (w : World) (e : Ending) (w' : World) : Prop := e = .returned (.bool b) ∧ Drawn w w'

theorem Drawn.cell {w w' : World} (h : Drawn w w') (p : Addr) : w'.cell? p = w.cell? p := by
  obtain ⟨n, rfl⟩ := h
  induction n with
  | zero => rfl
  | succ n ih => exact ih
theorem own_any {w : World} {B n : Nat} {t : TypeId} {v : Value} {xs : List Value} (h : w.ownsRow B t 1 v n xs) :
    ∃ A c, v = .slice A n c ∧ (0 < n → ∃ g, A = some ⟨g, 0, none⟩) := by
  rcases h.2 with ⟨rfl, rfl⟩ | ⟨g, cap, _, rfl, _⟩
  · exact ⟨none, 0, rfl, fun h => absurd h (by omega)⟩
  · exact ⟨some ⟨g, 0, none⟩, cap, rfl, fun _ => ⟨g, rfl⟩⟩
theorem texts_no {ps qs : List (List UInt8)} {k : Nat} {p q : List UInt8} (h1 : ps[k]? = some p) (h2 : qs[k]? = some q) (hne : p ≠ q) : decide (ps = qs) = false :=
  decide_eq_false fun e => hne (by rw [e, h2] at h1; exact (Option.some.inj h1).symm)
theorem texts_more {ps qs : List (List UInt8)} {k : Nat} {p q : List UInt8} (h1 : ps[k]? = some p) (h2 : qs[k]? = some q) (he : p = q) (h : ps.take k = qs.take k) : ps.take (k + 1) = qs.take (k + 1) := by
  rw [List.take_add_one, List.take_add_one, h1, h2, h, he]
theorem texts_yes {ps qs : List (List UInt8)} {k : Nat} (h1 : ps.length ≤ k) (h2 : qs.length ≤ k) (h : ps.take k = qs.take k) : decide (ps = qs) = true := by
  rw [List.take_of_length_le h1, List.take_of_length_le h2] at h
  exact decide_eq_true h

end Go.Proofs.Ytdidogcgoghdmaa
/- The walks of octet's and the reference's functions of one byte. -/
namespace Go.Proofs.Ytdidogcgoghdmaa
open Go.RowKit

end Go.Proofs.Ytdidogcgoghdmaa
/- The walks of octet's and the reference's other functions of one byte. -/
namespace Go.Proofs.Ytdidogcgoghdmaa
open Go.RowKit
end Go.Proofs.Ytdidogcgoghdmaa
/- The walk of Same (two texts). -/
namespace Go.Proofs.Ytdidogcgoghdmaa
open Go.RowKit
end Go.Proofs.Ytdidogcgoghdmaa
/- The walk of the reference's Same (two lists of texts). -/
namespace Go.Proofs.Ytdidogcgoghdmaa
open Go.RowKit
end Go.Proofs.Ytdidogcgoghdmaa
/- The walks of Lower, of octet and of the reference. -/
namespace Go.Proofs.Ytdidogcgoghdmaa
open Go.RowKit
namespace Oct
/-- The first k of a text's bytes made small. -/
def halfLow (l : List UInt8) (k : Nat) : List UInt8 := (l.take k).map low ++ l.drop k
theorem halfLow_zero (l : List UInt8) : halfLow l 0 = l := by simp [halfLow]
theorem halfLow_length (l : List UInt8) (k : Nat) : (halfLow l k).length = l.length := by simp [halfLow]; omega
theorem halfLow_end {l : List UInt8} {k : Nat} (h : l.length ≤ k) : halfLow l k = l.map low := by
  unfold halfLow; rw [List.take_of_length_le h, List.drop_eq_nil_of_le h, List.append_nil]
theorem halfLow_at {l : List UInt8} {k : Nat} (h : k < l.length) : (halfLow l k)[k]? = some l[k] := by
  unfold halfLow
  rw [List.getElem?_append_right (by simp; omega)]
  simp only [List.length_map, List.length_take]
  rw [List.getElem?_drop, List.getElem?_eq_getElem (by omega)]
  congr 1
  have : k + (k - min k l.length) = k := by omega
  simp only [this]
theorem halfLow_set {l : List UInt8} {k : Nat} (h : k < l.length) : (halfLow l k).set k (low l[k]) = halfLow l (k + 1) := by
  unfold halfLow
  rw [List.set_append_right _ _ (by simp; omega), List.take_succ_eq_append_getElem h, List.map_append, List.append_assoc, List.drop_eq_getElem_cons h]
  have : k - ((l.take k).map low).length = 0 := by simp; omega
  rw [this]; rfl
end Oct
end Go.Proofs.Ytdidogcgoghdmaa
