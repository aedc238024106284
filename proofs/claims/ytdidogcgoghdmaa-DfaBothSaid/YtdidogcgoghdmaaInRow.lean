/- Lists of things of one cell each: texts, numbers, bytes, Bools, wherever in their block they begin. -/
import Derived.Test.YtdidogcgoghdmaaSpan
import Derived.Test.YtdidogcgoghdmaaOctets
namespace Go.Proofs.Ytdidogcgoghdmaa
open Go.RowKit
/-- The value holds the things, one cell each, wherever in its block they begin. -/
def InRow (w : World) (v : Value) (xs : List Value) : Prop :=
  ∃ A c, v = .slice A xs.length c ∧ xs.length ≤ c ∧ (0 < xs.length → ∃ g off, A = some ⟨g, off, none⟩ ∧ g < w.heap.size ∧ ∀ k u, xs[k]? = some u → w.cell? ⟨g, off + k, none⟩ = some u)
section
variable {w w' : World} {v : Value} {xs : List Value}
theorem inRow_nil (w : World) : InRow w (.slice none 0 0) [] := ⟨none, 0, rfl, Nat.le_refl _, fun h => absurd h (by simp)⟩
theorem InRow.stays (h : InRow w v xs) (hb : Below w.heap.size w w') : InRow w' v xs := by
  obtain ⟨A, c, hv, hc, hh⟩ := h
  refine ⟨A, c, hv, hc, fun h0 => ?_⟩
  obtain ⟨g, off, hA, hg, hcell⟩ := hh h0
  exact ⟨g, off, hA, Nat.lt_of_lt_of_le hg hb.size, fun k u hu => (hb.cell (p := ⟨g, off + k, none⟩) hg).trans (hcell k u hu)⟩
theorem InRow.below {B : Nat} (h : InRow w v xs) (hb : Below B w w') (hB : w.heap.size ≤ B) : InRow w' v xs := h.stays (hb.mono hB)
theorem inRow_own {B n : Nat} {t : TypeId} (h : w.ownsRow B t 1 v n xs) : InRow w v xs := by
  have hl : xs.length = n := by have := h.1; omega
  subst hl
  rcases h.2 with ⟨rfl, h0⟩ | ⟨g, cap, cur, rfl, hB, hg, hc, _⟩
  · exact ⟨none, 0, by rw [h0], Nat.le_of_eq h0, fun h1 => by omega⟩
  · refine ⟨_, _, rfl, hc, fun _ => ⟨g, 0, rfl, (Array.getElem?_eq_some_iff.1 hg).1, fun k u hu => ?_⟩⟩
    have c1 := h.cells (g := g) rfl _ _ hu
    rw [add_at, Nat.zero_add] at c1
    rw [Nat.zero_add]
    exact c1
theorem inRow_row {g : Nat} {t : TypeId} {cs : Array Value} {n c : Nat} (h : Row w g t cs) (hn : xs.length = n) (hc : n ≤ c) (hx : ∀ (k : Nat) (u : Value), xs[k]? = some u → cs[k]? = some u) : InRow w (.slice (some ⟨g, 0, none⟩) n c) xs := by
  subst hn
  refine ⟨_, _, rfl, hc, fun _ => ⟨g, 0, rfl, h.lt, fun k u hu => ?_⟩⟩
  rw [Nat.zero_add, h.cell]
  exact hx k u hu
theorem InRow.parts (h : InRow w v xs) : ∃ A c, v = .slice A xs.length c ∧ Hid (0 < xs.length → ∃ g off, A = some ⟨g, off, none⟩ ∧ ∀ k u, xs[k]? = some u → w.cell? ⟨g, off + k, none⟩ = some u) := by
  obtain ⟨A, c, hv, _, hh⟩ := h
  exact ⟨A, c, hv, Lib.hid (fun h0 => by obtain ⟨g, off, h1, _, h2⟩ := hh h0; exact ⟨g, off, h1, h2⟩)⟩
end
/-- A number. -/
def intV (n : Int) : Value := .int .i64 n
def intVs (l : List Int) : List Value := l.map intV
def strVs (l : List (List UInt8)) : List Value := l.map strV
theorem strVs_length (l : List (List UInt8)) : (strVs l).length = l.length := List.length_map _
theorem intVs_length (l : List Int) : (intVs l).length = l.length := List.length_map _
theorem strVs_at {l : List (List UInt8)} {k : Nat} {s : List UInt8} (h : l[k]? = some s) : (strVs l)[k]? = some (strV s) := by unfold strVs; rw [List.getElem?_map, h]; rfl
theorem intVs_at {l : List Int} {k : Nat} {n : Int} (h : l[k]? = some n) : (intVs l)[k]? = some (.int .i64 n) := by unfold intVs; rw [List.getElem?_map, h]; rfl
/-- The texts of a list lie there. -/
structure Texts (w : World) (v : Value) (l : List (List UInt8)) : Prop where
  row : InRow w v (strVs l)
structure Nums (w : World) (v : Value) (l : List Int) : Prop where
  row : InRow w v (intVs l)
section
variable {w w' : World} {v : Value}
theorem Texts.stays {l : List (List UInt8)} (h : Texts w v l) (hb : Below w.heap.size w w') : Texts w' v l := ⟨h.row.stays hb⟩
theorem Nums.stays {l : List Int} (h : Nums w v l) (hb : Below w.heap.size w w') : Nums w' v l := ⟨h.row.stays hb⟩
theorem Texts.later {w0 : World} {B : Nat} {l : List (List UInt8)} (h : Texts w0 v l) (hb : Below B w0 w) (hB : w0.heap.size ≤ B) : Texts w v l := h.stays (hb.mono hB)
theorem Nums.later {w0 : World} {B : Nat} {l : List Int} (h : Nums w0 v l) (hb : Below B w0 w) (hB : w0.heap.size ≤ B) : Nums w v l := h.stays (hb.mono hB)
theorem texts_nil (w : World) : Texts w (.slice none 0 0) [] := ⟨inRow_nil w⟩
theorem nums_nil (w : World) : Nums w (.slice none 0 0) [] := ⟨inRow_nil w⟩
theorem texts_own {B n : Nat} {l : List (List UInt8)} (h : w.ownsRow B 9 1 v n (strVs l)) : Texts w v l := ⟨inRow_own h⟩
theorem nums_own {B n : Nat} {l : List Int} (h : w.ownsRow B 3 1 v n (intVs l)) : Nums w v l := ⟨inRow_own h⟩
/-- Taken apart: the slice, and its cells where there are any. -/
theorem Texts.parts {l : List (List UInt8)} (h : Texts w v l) : ∃ A c, v = .slice A l.length c ∧ Hid (0 < l.length → ∃ g off, A = some ⟨g, off, none⟩ ∧ ∀ k s, l[k]? = some s → w.cell? ⟨g, off + k, none⟩ = some (strV s)) := by
  obtain ⟨A, c, hv, hh⟩ := h.row.parts
  rw [strVs_length] at hv hh
  exact ⟨A, c, hv, Lib.hid (fun h0 => by
    obtain ⟨g, off, h1, h2⟩ := hh.out h0
    exact ⟨g, off, h1, fun k s hk => h2 k _ (strVs_at hk)⟩)⟩
theorem Nums.parts {l : List Int} (h : Nums w v l) : ∃ A c, v = .slice A l.length c ∧ Hid (0 < l.length → ∃ g off, A = some ⟨g, off, none⟩ ∧ ∀ k n, l[k]? = some n → w.cell? ⟨g, off + k, none⟩ = some (.int .i64 n)) := by
  obtain ⟨A, c, hv, hh⟩ := h.row.parts
  rw [intVs_length] at hv hh
  exact ⟨A, c, hv, Lib.hid (fun h0 => by
    obtain ⟨g, off, h1, h2⟩ := hh.out h0
    exact ⟨g, off, h1, fun k s hk => h2 k _ (intVs_at hk)⟩)⟩
end
theorem InRow.slice {w : World} {v : Value} {xs : List Value} (h : InRow w v xs) : ∃ A c, v = .slice A xs.length c := by
  obtain ⟨A, c, hv, _⟩ := h
  exact ⟨A, c, hv⟩
theorem InRow.at {w : World} {A : Option Addr} {n c : Nat} {xs : List Value} (h : InRow w (.slice A n c) xs) {k : Nat} {u : Value} (hk : xs[k]? = some u) : ∃ g off, A = some ⟨g, off, none⟩ ∧ g < w.heap.size ∧ w.cell? ⟨g, off + k, none⟩ = some u := by
  obtain ⟨A', c', hv, _, hh⟩ := h
  obtain ⟨rfl, _, _⟩ := Value.slice.inj hv
  obtain ⟨g, off, h1, h2, h3⟩ := hh (by have := (List.getElem?_eq_some_iff.1 hk).1; omega)
  exact ⟨g, off, h1, h2, h3 k u hk⟩
theorem Texts.slice {w : World} {v : Value} {l : List (List UInt8)} (h : Texts w v l) : ∃ A c, v = .slice A l.length c := by
  obtain ⟨A, c, hv⟩ := h.row.slice
  exact ⟨A, c, by rw [hv, strVs_length]⟩
theorem Nums.slice {w : World} {v : Value} {l : List Int} (h : Nums w v l) : ∃ A c, v = .slice A l.length c := by
  obtain ⟨A, c, hv⟩ := h.row.slice
  exact ⟨A, c, by rw [hv, intVs_length]⟩
/-- A text of the list, as a value of memory. -/
theorem Texts.at {w : World} {A : Option Addr} {n c : Nat} {l : List (List UInt8)} (h : Texts w (.slice A n c) l) {k : Nat} {s : List UInt8} {t : ByteArray} (hk : l[k]? = some s) (ht : t = ⟨s.toArray⟩) : ∃ g off, A = some ⟨g, off, none⟩ ∧ w.cell? ⟨g, off + k, none⟩ = some (.string t) := by
  obtain ⟨g, off, h1, _, h3⟩ := h.row.at (strVs_at hk)
  exact ⟨g, off, h1, by rw [h3, ht]; rfl⟩
theorem Nums.at {w : World} {A : Option Addr} {n c : Nat} {l : List Int} (h : Nums w (.slice A n c) l) {k : Nat} {m : Int} (hk : l[k]? = some m) : ∃ g off, A = some ⟨g, off, none⟩ ∧ w.cell? ⟨g, off + k, none⟩ = some (.int .i64 m) := by
  obtain ⟨g, off, h1, _, h3⟩ := h.row.at (intVs_at hk)
  exact ⟨g, off, h1, h3⟩
theorem text_of (s : List UInt8) : ∃ t : ByteArray, t = ⟨s.toArray⟩ ∧ t.data.toList = s ∧ t.size = s.length := ⟨_, rfl, rfl, rfl⟩
theorem strV_text (t : ByteArray) : strV t.data.toList = .string t := rfl
theorem strVs_snoc (l : List (List UInt8)) (t : ByteArray) : strVs (l ++ [t.data.toList]) = strVs l ++ [.string t] := by unfold strVs; rw [List.map_append]; rfl
theorem intVs_snoc (l : List Int) (n : Int) : intVs (l ++ [n]) = intVs l ++ [.int .i64 n] := by unfold intVs; rw [List.map_append]; rfl
theorem bytesV_snoc (l : List UInt8) (c : UInt8) : (l ++ [c]).map byteV = l.map byteV ++ [.int .u8 (c.toNat : Int)] := by rw [List.map_append]; rfl
theorem infoU8 : (Try.prog.info? 5).map (fun i => (i.zero, i.size, i.bytes)) = some (some (.int .u8 0), 1, 1) := by kernel_rfl
theorem byte_is {q : Nat} (h : q < 256) : ∃ c : UInt8, c.toNat = q := ⟨UInt8.ofNat q, by rw [UInt8.toNat_ofNat']; omega⟩
theorem infoNum : (Try.prog.info? 3).map (fun i => (i.zero, i.size, i.bytes)) = some (some (.int .i64 0), 1, 8) := by kernel_rfl
/-- `append(s, x)`: x was laid in a block of its own; behind it the call owns one thing more. -/
theorem wpList_append_one {P : Program} {ops : Array Oper} {rest : List Oper} {o : Oper} {a : Act} {Q : Exit → Act → World → Prop} {w : World} {t' : TypeId} {u : Value} (hgd : o.guard = none) (s x : Operand) (t : TypeId)
    (ho : o.op = .call { callee := .builtin .append, args := #[s, x], argTypes := #[t, t] })
    (B : Nat) (e : TypeId) (z : Value) (by8 : Nat) (ht : P.underlying t = some (.slice e)) (hI : (P.info? e).map (fun i => (i.zero, i.size, i.bytes)) = some (some z, 1, by8)) (hz : z.cells.size = 1)
    (v : Value) (n : Nat) (xs : List Value) (hs : a.eval s = v) (hown : w.ownsRow B e 1 v n xs) (hx : a.eval x = .slice (some ⟨w.heap.size, 0, none⟩) 1 1) (h1 : u.oneCell' = true)
    (hn : n < 4398046511104) (hb8 : by8 ≤ 16) (hB : B ≤ w.heap.size)
    (h : ∀ v' w', w'.ownsRow B e 1 v' (n + 1) (xs ++ [u]) → Below B w w' → (v'.ownBlock = v.ownBlock ∨ v'.ownBlock = some (w.heap.size + 1)) → (w.alloc (.cells #[u] t')).grownBy w' v.ownBlock → wpList P ops Q rest (a.put o.dst v') w') :
    wpList P ops Q (o :: rest) a (w.alloc (.cells #[u] t')) := by
  obtain ⟨i0, hi, hz0, hz1, hz2⟩ := info_parts hI
  refine wpList_append_own_at _ hgd s x t ho B e i0 z 1 by8 ht hi hz0 hz1 hz2 hz (by decide) v n xs hs (hown.alloc _) ⟨w.heap.size, 0, none⟩ 1 1 [u] hx rfl (cell_one_new _ _ _) ?_ ?_ ?_ ?_ ?_
  · intro y hy; simp at hy; subst hy; exact h1
  · simp only [maxLen]; omega
  · have : (n + 1) * by8 ≤ (n + 1) * 16 := Nat.mul_le_mul_left _ hb8
    omega
  · simp; omega
  · intro v' w' h1 h2 _ h4
    refine h v' w' h1 ?_ (by simpa using h4) h2
    exact ((Below.refl B w).alloc hB _).grown h2 (by simp; omega) (fun k hk => (hown.lt k hk).1)
theorem own_below {w w' : World} {B n m : Nat} {t : TypeId} {v : Value} {xs : List Value} (h : w.ownsRow B t m v n xs) (hb : Below w.heap.size w w') : w'.ownsRow B t m v n xs := by
  refine h.kept (row := none) ⟨hb.os, hb.tape, hb.output, hb.size, fun i hi _ => hb.block i hi⟩ ?_
  cases hv : v.ownBlock
  · exact .inl rfl
  · exact .inr (by simp)
end Go.Proofs.Ytdidogcgoghdmaa
