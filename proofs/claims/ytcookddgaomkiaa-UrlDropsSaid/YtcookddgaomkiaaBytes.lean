/- Bytes in memory that a call owns, and texts out of them. -/
import Derived.Test.YtcookddgaomkiaaBase
import Derived.Test.YtcookddgaomkiaaLaw
namespace Go.Proofs.Ytcookddgaomkiaa
open Go.RowKit
theorem own_keep {w w' : World} {B n : Nat} {t : TypeId} {v : Value} {xs : List Value} (h : w.ownsRow B t 1 v n xs) (hb : Below w.heap.size w w') : w'.ownsRow B t 1 v n xs := by
  refine h.kept (row := none) ⟨hb.os, hb.tape, hb.output, hb.size, fun i hi _ => hb.block i hi⟩ ?_
  cases hv : v.ownBlock
  · exact .inl rfl
  · exact .inr (by simp)
theorem own_far {w : World} {B n : Nat} {t : TypeId} {v : Value} {xs : List Value} (h : w.ownsRow B t 1 v n xs) {p : Addr} (hp : v.ownBlock ≠ some p.block) (u : Value) : (w.setCell p u).ownsRow B t 1 v n xs := by
  refine h.kept (row := some p.block) ⟨rfl, rfl, rfl, by simp [World.setCell], fun i _ hn => Below.heap_setCell w p u i (by intro e; exact hn (by rw [e]))⟩ (.inr hp)
theorem infoByte : (Try.prog.info? 5).map (fun i => (i.zero, i.size, i.bytes)) = some (some (.int .u8 0), 1, 1) := by kernel_rfl
/-- A text, and new memory. -/
def NewText (B : Nat) (l : List UInt8) (w : World) (e : Ending) (w' : World) : Prop := e = .returned (.string ⟨l.toArray⟩) ∧ Below B w w'
/-- The text of bytes that the call owns. -/
theorem own_string {w : World} {B g cap n : Nat} {l : List UInt8} (h : w.ownsRow B 5 1 (.slice (some ⟨g, 0, none⟩) n cap) n (l.map byteV)) :
    (convert 60 9 (.slice (some ⟨g, 0, none⟩) n cap)).run Try.prog w = .ok (.string ⟨l.toArray⟩) w := by
  have hl : l.length = n := by have := h.1; rw [List.length_map] at this; omega
  subst hl
  refine run_convert_bytes_back w 60 9 5 ⟨g, 0, none⟩ cap l Try.underlying60 Try.underlying5 Try.underlying9 (fun j hj => ?_)
  exact h.cells (g := g) rfl j _ (by rw [List.getElem?_map, List.getElem?_eq_getElem hj]; rfl)

/-- The bytes l lie at the head of block g, and may be written. -/
structure Bytes (w : World) (g : Nat) (l : List UInt8) : Prop where
  cell : ∀ j c, l[j]? = some c → w.cell? ⟨g, j, none⟩ = some (byteV c)
  free : ∀ j, j < l.length → w.frozen? ⟨g, j, none⟩ = false
theorem Bytes.set {w : World} {g : Nat} {l : List UInt8} (h : Bytes w g l) (k : Nat) (c : UInt8) : Bytes (w.setCell ⟨g, k, none⟩ (byteV c)) g (l.set k c) := by
  refine ⟨fun j d hj => ?_, fun j hj => ?_⟩
  · by_cases e : j = k
    · subst e
      have hlt : j < l.length := by have := (List.getElem?_eq_some_iff.1 hj).1; simpa using this
      rw [List.getElem?_set_self hlt] at hj
      rw [← Option.some.inj hj]
      exact World.cell?_setCell_same w _ _ (h.cell j _ (List.getElem?_eq_getElem hlt))
    · rw [List.getElem?_set_ne (by omega)] at hj
      rw [World.cell?_setCell_other w _ _ _ (by intro e'; injection e' with _ e'; exact e e'.symm)]
      exact h.cell j d hj
  · rw [World.frozen?_setCell]; exact h.free j (by simpa using hj)
theorem Bytes.string {w : World} {g cap : Nat} {l : List UInt8} (h : Bytes w g l) :
    (convert 60 9 (.slice (some ⟨g, 0, none⟩) l.length cap)).run Try.prog w = .ok (.string ⟨l.toArray⟩) w := by
  refine run_convert_bytes_back w 60 9 5 ⟨g, 0, none⟩ cap l Try.underlying60 Try.underlying5 Try.underlying9 (fun j hj => ?_)
  have hadd : (⟨g, 0, none⟩ : Addr).add j = ⟨g, j, none⟩ := by unfold Addr.add; split <;> simp_all
  rw [hadd]
  exact h.cell j _ (List.getElem?_eq_getElem hj)
theorem Bytes.new (w : World) (s : ByteArray) (cap : Nat) (t : TypeId) : Bytes (w.drew.alloc (.cells (bytesRow s cap) t ((bytesRow s cap).size, (bytesRow s cap).size + 1))) w.heap.size s.data.toList := by
  refine ⟨fun j c hj => ?_, fun j hj => ?_⟩
  · obtain ⟨hlt, e⟩ := List.getElem?_eq_some_iff.1 hj
    have := World.cell?_alloc_mark w.drew (bytesRow s cap) t ((bytesRow s cap).size, (bytesRow s cap).size + 1) j
    refine Eq.trans this ?_
    rw [bytesRow_at s cap j (by simpa using hlt)]
    rw [← e]; rfl
  · have := World.frozen?_alloc_mark w.drew (bytesRow s cap) t (bytesRow s cap).size ((bytesRow s cap).size + 1) j
    refine Eq.trans this ?_
    have h1 : j < (bytesRow s cap).size := by simp [bytesRow] at hj ⊢; omega
    simp; omega

theorem one_string (W : World) (c : UInt8) : (convert 60 9 (.slice (some ⟨W.heap.size, 0, none⟩) 1 1)).run Try.prog (W.alloc (.cells #[.int .u8 (c.toNat : Int)] 5)) = .ok (.string ⟨#[c]⟩) (W.alloc (.cells #[.int .u8 (c.toNat : Int)] 5)) := by
  refine run_convert_bytes_back (W.alloc (.cells #[.int .u8 (c.toNat : Int)] 5)) 60 9 5 ⟨W.heap.size, 0, none⟩ 1 [c] Try.underlying60 Try.underlying5 Try.underlying9 (fun j hj => ?_)
  have : j = 0 := by simp at hj; exact hj
  subst this
  exact cell_one_new W (.int .u8 (c.toNat : Int)) 5 0 _ rfl

theorem nil_string (w : World) : (convert 60 9 (.slice none 0 0)).run Try.prog w = .ok (.string ⟨#[]⟩) w := by
  have := run_convert_bytes_string (P := Try.prog) w 60 9 5 none 0 0 Try.underlying60 Try.underlying5 Try.underlying9
  rw [this]; rfl
theorem own_string_any {w : World} {B n : Nat} {v : Value} {l : List UInt8} (h : w.ownsRow B 5 1 v n (l.map byteV)) :
    ∃ A c, v = .slice A n c ∧ (convert 60 9 v).run Try.prog w = .ok (.string ⟨l.toArray⟩) w := by
  have hl : l.length = n := by have := h.1; rw [List.length_map] at this; omega
  rcases h.2 with ⟨rfl, h0⟩ | ⟨g, cap, _, rfl, _⟩
  · subst h0
    have : l = [] := List.eq_nil_of_length_eq_zero hl
    subst this
    exact ⟨none, 0, rfl, nil_string w⟩
  · exact ⟨_, cap, rfl, own_string h⟩
/-- A text, whether it is one, and new memory. -/
def NewTextIf (B : Nat) (l : List UInt8) (ok : Bool) (w : World) (e : Ending) (w' : World) : Prop := e = .returned (.tuple #[.string ⟨l.toArray⟩, .bool ok]) ∧ Below B w w'

end Go.Proofs.Ytcookddgaomkiaa
