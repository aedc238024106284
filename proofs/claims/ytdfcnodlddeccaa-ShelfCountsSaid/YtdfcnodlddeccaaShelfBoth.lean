/- A shelf, and the reference's list beside it: what the one's turns leave of the other. -/
import Derived.Test.YtdfcnodlddeccaaShelfAt
import Derived.Test.YtdfcnodlddeccaaShelfAll
import Derived.Test.YtdfcnodlddeccaaShelfOldest
import Derived.Test.YtdfcnodlddeccaaActsData
namespace Go.Proofs.Ytdfcnodlddeccaa
open Go.RowKit Go.Maps
/-- A value built of nothing, where the order is open. -/
theorem yields_zero {P : Program} {ops : Array Oper} {S : World → Prop} {o : Oper} {a : Act} (hw : Region.wanted o (yielded ops a.tmps) = true) (t : TypeId) (ho : o.op = .build t #[]) (cells : Array Value) (hc : P.built t [] = some cells) : YieldsIf P ops S o (.agg cells) a :=
  .inl ⟨hw, fun w _ => by
    have e : ((#[] : Array (Nat × Operand)).map fun (i, x) => (i, a.eval x)).toList = [] := by simp
    unfold execOp
    simp only [ho, Sem.run_bind, run_build w t _ cells (by rw [e]; exact hc), Result.andThen_ok]
    rfl⟩
theorem Turn2.rows {sb mb : Nat} {w w' : World} (t : Turn2 sb mb w w') {g : Nat} {T : TypeId} {cs : Array Value} (h : Row w g T cs) (h1 : g ≠ sb) (h2 : g ≠ mb) : Row w' g T cs := (t.same g h.lt h1 h2).trans h
theorem Turn2.rowed {sb mb : Nat} {w x : World} (h : Turn2 sb mb w x) {g : Nat} (hg : w.heap.size ≤ g) (cs : Array Value) : Turn2 sb mb w (x.setRow g cs) :=
  ⟨h.os, h.tape, h.output, by rw [size_setRow]; exact h.size, fun b hb h1 h2 => (setRow_other x g b cs (by omega)).trans (h.same b hb h1 h2)⟩
theorem ShelfAt.rowed {w : World} {sb mb : Nat} {s : Sh.Shelf} (h : ShelfAt w sb mb s) {g : Nat} (h1 : sb ≠ g) (h2 : mb ≠ g) (cs : Array Value) : ShelfAt (w.setRow g cs) sb mb s :=
  ⟨h.well, h.okay, h.few, h.apart, h.row.aside h1 cs, h.map.kept (grownBy_rowS w g cs) (by simpa using h2)⟩
theorem ShelfAt.cell_none {w : World} {sb mb : Nat} {s : Sh.Shelf} (h : ShelfAt w sb mb s) (k : Nat) : w.cell? ⟨mb, k, none⟩ = none := by
  obtain ⟨D, ⟨es, clock, hb, _⟩, _⟩ := h.map
  unfold World.cell?
  simp [hb]
section
variable {α : Type} {enc : α → Array Value} {n : Nat} {w w' : World} {v : Value} {xs : List α}
/-- What stays where the blocks stay that hold at least n cells in a row. -/
theorem Lies.where_ (hs : ∀ x ∈ xs, (enc x).size = n) (h : Lies enc w v xs) (hsz : w.heap.size ≤ w'.heap.size)
    (hP : ∀ g off, g < w.heap.size → (∀ j, j < n → ∃ u, w.cell? ⟨g, off + j, none⟩ = some u) → w'.heap[g]? = w.heap[g]?) : Lies enc w' v xs := by
  obtain ⟨A, c, hv, hc, hh⟩ := h
  refine ⟨A, c, hv, hc, fun h0 => ?_⟩
  obtain ⟨g, off, hA, hg, hcell⟩ := hh h0
  obtain ⟨x, l, rfl⟩ : ∃ x l, xs = x :: l := by
    cases xs with
    | nil => simp at h0
    | cons x l => exact ⟨x, l, rfl⟩
  have e := hP g off hg (fun j hj => by
    have hx := hs x (by simp)
    obtain ⟨u, hu⟩ : ∃ u, (enc x)[j]? = some u := ⟨_, Array.getElem?_eq_getElem (by omega)⟩
    refine ⟨u, hcell j u ?_⟩
    rw [flat_cons, List.getElem?_append_left (by rw [Array.length_toList]; omega), Array.getElem?_toList]
    exact hu)
  exact ⟨g, off, hA, Nat.lt_of_lt_of_le hg hsz, fun j u hu => by
    have := hcell j u hu
    unfold World.cell? at this ⊢
    rw [e]; exact this⟩
theorem Lies.turned (hs : ∀ x ∈ xs, (enc x).size = n) (hn : 3 ≤ n) (h : Lies enc w v xs) {sb mb : Nat} {s : Sh.Shelf} (k : ShelfAt w sb mb s) (t : Turn2 sb mb w w') : Lies enc w' v xs :=
  h.where_ hs t.size fun g off hg hc => t.same g hg
    (fun e => by
      obtain ⟨u, hu⟩ := hc 2 (by omega)
      rw [e, k.row.cell] at hu
      have := (Array.getElem?_eq_some_iff.1 hu).1
      simp at this
      omega)
    (fun e => by
      obtain ⟨u, hu⟩ := hc 2 (by omega)
      rw [e, k.cell_none] at hu
      cases hu)
theorem Lies.rowed (hs : ∀ x ∈ xs, (enc x).size = n) (hn : 3 ≤ n) (h : Lies enc w v xs) {g : Nat} {t : TypeId} {cs : Array Value} (R : Row w g t cs) (h2 : cs.size = 2) (ds : Array Value) : Lies enc (w.setRow g ds) v xs :=
  h.where_ hs (by rw [size_setRow]; exact Nat.le_refl _) fun b off _ hc => setRow_other w g b ds (fun e => by
    obtain ⟨u, hu⟩ := hc 2 (by omega)
    rw [e, R.cell] at hu
    have := (Array.getElem?_eq_some_iff.1 hu).1
    omega)
end
/-! ### What is done -/
def Sh.done (s : Sh.Shelf) (x : Sh.Act) : Sh.Shelf :=
  if x.kind = 0 then (Sh.put s x.c x.site).1 else if x.kind = 1 then (Sh.drop s x.c).1 else if x.kind = 2 then (Sh.use s x.c x.n).1 else if x.kind = 3 then (Sh.expire s x.n).1 else s
theorem done_last (s : Sh.Shelf) (x : Sh.Act) : s.last ≤ (Sh.done s x).last ∧ (Sh.done s x).last ≤ s.last + 1 := by
  unfold Sh.done Sh.put Sh.drop Sh.use Sh.expire
  split
  · split <;> (first | omega | (dsimp only; omega))
  split
  · split <;> (first | omega | (dsimp only; omega))
  split
  · split <;> (first | omega | (dsimp only; omega))
  split <;> (first | omega | (dsimp only; omega))
def DoPost (s : Sh.Shelf) (sb mb : Nat) (w : World) (e : Ending) (w' : World) : Prop :=
  ∃ v, e = .returned (.tuple #[.agg #[v, .int .i64 s.last], .bool true]) ∧ ShelfAt w' sb mb s ∧ Lies keptA w' v s.l ∧ Turn2 sb mb w w'
theorem actA_cookie (x : Sh.Act) (ha : x.c.host.addr.length = 16) : (actA x).extract 1 (1 + 29) = cookieA x.c := by
  apply Array.ext'
  rw [Array.toList_extract]
  unfold actA
  simp only [List.extract, List.drop_succ_cons, List.drop_zero]
  rw [show (1 + 29 - 1 : Nat) = (cookieA x.c).toList.length by rw [cookieA_list x.c ha], List.take_left]
theorem actA_site (x : Sh.Act) (ha : x.c.host.addr.length = 16) : (actA x)[30]? = some (strV x.site) := by
  unfold actA
  rw [List.getElem?_toArray, List.getElem?_cons_succ, List.getElem?_append_right (by rw [cookieA_list x.c ha]; exact Nat.le_refl _), cookieA_list x.c ha]; rfl
theorem actA_n (x : Sh.Act) (ha : x.c.host.addr.length = 16) : (actA x)[31]? = some (.int .i64 x.n) := by
  unfold actA
  rw [List.getElem?_toArray, List.getElem?_cons_succ, List.getElem?_append_right (by rw [cookieA_list x.c ha]; decide), cookieA_list x.c ha]; rfl
theorem actA_one (x : Sh.Act) : (actA x).all (·.oneCell') = true := by
  have h := cookieA_one x.c
  rw [Array.all_eq_true'] at h
  rw [Array.all_eq_true']
  intro v hv
  unfold actA at hv
  simp only [List.mem_toArray, List.mem_cons, List.mem_append, List.not_mem_nil, or_false, Array.mem_toList_iff] at hv
  rcases hv with rfl | hv | rfl | rfl
  · rfl
  · exact h v hv
  · rfl
  · rfl
theorem seek_none {s : Sh.Shelf} {c : Ma.Cookie} (h : Sh.place s c = none) : ((Sh.seek s c).getD Sh.zeroK).c = Ma.zeroC := by
  have := (Sh.place_none h).2
  unfold Sh.get at this
  unfold Sh.seek
  cases e : s.l.find? (Sh.hit c) with
  | none => rfl
  | some k => rw [e] at this; cases this
theorem seek_some {s : Sh.Shelf} {c : Ma.Cookie} {i : Nat} (h : Sh.place s c = some i) : ∃ k, s.l[i]? = some k ∧ ((Sh.seek s c).getD Sh.zeroK).c = k.c := by
  obtain ⟨k, h1, _, h2⟩ := Sh.place_some h
  refine ⟨k, h1, ?_⟩
  unfold Sh.get at h2
  unfold Sh.seek
  cases e : s.l.find? (Sh.hit c) with
  | none => rw [e] at h2; cases h2
  | some y => rw [e] at h2; exact Option.some.inj h2
end Go.Proofs.Ytdfcnodlddeccaa
