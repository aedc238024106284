/- Pairs of states as keys of a map, and as things in a row. -/
import Derived.Test.YtdidogcgoghdmaaDfaNone
import Derived.Test.YtdidogcgoghdmaaSpanMore
import Derived.Maps.OwnSet
import Derived.Maps.Ext
import Derived.DeepKeys4
namespace Go.Proofs.Ytdidogcgoghdmaa
open Go.RowKit Go.Maps
/-- A pair as a value. -/
def pairA (p : Nat × Nat) : Array Value := #[.int .i64 (p.1 : Int), .int .i64 (p.2 : Int)]
theorem pairA_size (p : Nat × Nat) : (pairA p).size = 2 := rfl
theorem pairA_one (p : Nat × Nat) : (pairA p).all (·.oneCell') = true := by simp [pairA, Value.oneCell']
theorem infoPair15 : (Try.prog.info? 50).map (·.size) = some 2 := by kernel_rfl
theorem infoPairF : (Try.prog.info? 50).map (fun i => (i.zero, i.size, i.bytes)) = some (some (.agg #[.int .i64 0, .int .i64 0]), 2, 16) := by kernel_rfl
theorem laidOutD : laidOutB Try.prog = true := by kernel_rfl
theorem pairLaw : Keyed Try.prog 50 := Keyed.of_law (deep_law_laid laidOutD (m := 9) (by omega) (of_decide_eq_true (by kernel_rfl)) (by kernel_rfl) (by kernel_rfl))
theorem pairKeyType : Try.prog.keyType 50 = true := by kernel_rfl
theorem cellsPair15 : Try.prog.cellsOf 50 = 2 := by kernel_rfl
theorem cellsInt15 : Try.prog.cellsOf 3 = 1 := by kernel_rfl
theorem typesTwo : ∃ n, Try.prog.types.size = n + 2 := ⟨Try.prog.types.size - 2, by have : 2 ≤ Try.prog.types.size := of_decide_eq_true (by kernel_rfl); omega⟩
/-- Numbers that a machine holds. -/
def PairOk (p : Nat × Nat) : Prop := p.1 < 9223372036854775808 ∧ p.2 < 9223372036854775808
theorem kl_int15 (n : Nat) (k : Nat) (h : k < 9223372036854775808) : Try.prog.keyLits (n + 1) 3 [.int .i64 (k : Int)] = some [.int .i64 (k : Int)] := by
  have hw : (Lit.int .i64 (k : Int)).wf = true := WalkArith.wf_i64 (by omega)
  simp [Program.keyLits, Try.underlying3, hw]
def pairK (p : Nat × Nat) : Lit := .string (keyBytes [.int .i64 (p.1 : Int), .int .i64 (p.2 : Int)])
theorem pair_key (p : Nat × Nat) (h : PairOk p) : keyOf Try.prog 50 (.agg (pairA p)) = some (pairK p) := by
  obtain ⟨f0, f1, hu, ⟨n0, n1⟩, ⟨o0, o1⟩, t0, t1⟩ : ∃ f0 f1, Try.prog.underlying 50 = some (.struct #[f0, f1]) ∧ (f0.name ≠ "_" ∧ f1.name ≠ "_") ∧ (f0.offset = 0 ∧ f1.offset = 1) ∧ f0.type = 3 ∧ f1.type = 3 :=
    ⟨_, _, Try.underlying50, ⟨by decide, by decide⟩, ⟨rfl, rfl⟩, rfl, rfl⟩
  obtain ⟨n, hn⟩ := typesTwo
  have k0 := kl_int15 (n + 1) p.1 h.1
  have k1 := kl_int15 (n + 1) p.2 h.2
  have hform : (Value.agg (pairA p)).formed Try.prog 50 = true := by simp [Value.formed, hu, cellsPair15, pairA]
  have hl : (Value.agg (pairA p)).cells.toList = [.int .i64 (p.1 : Int), .int .i64 (p.2 : Int)] := rfl
  have hk : Try.prog.keyLits (n + 2 + 1) 50 [.int .i64 (p.1 : Int), .int .i64 (p.2 : Int)] = some [.int .i64 (p.1 : Int), .int .i64 (p.2 : Int)] := by
    unfold Program.keyLits
    rw [hu]
    simp [cellsPair15, cellsInt15, n0, n1, o0, o1, t0, t1, k0, k1]
  unfold keyOf
  rw [hu]
  simp only [pairKeyType, hform, Bool.and_self, if_true]
  rw [hn, hl, hk]
  rfl
theorem pairA_inj {p q : Nat × Nat} (h : pairA p = pairA q) : p = q := by
  have e0 := congrArg (fun c => c[0]?) h
  have e1 := congrArg (fun c => c[1]?) h
  simp only [pairA] at e0 e1
  have f0 : (Value.int .i64 (p.1 : Int)) = .int .i64 (q.1 : Int) := Option.some.inj e0
  have f1 : (Value.int .i64 (p.2 : Int)) = .int .i64 (q.2 : Int) := Option.some.inj e1
  have g0 := (Value.int.inj f0).2
  have g1 := (Value.int.inj f1).2
  exact Prod.ext (by omega) (by omega)
theorem pairK_ne {p q : Nat × Nat} (hp : PairOk p) (hq : PairOk q) (h : p ≠ q) : pairK p ≠ pairK q := by
  intro e
  have := pairLaw.inj (pair_key p hp) (e ▸ pair_key q hq)
  exact h (pairA_inj (Value.agg.inj this))
theorem pairK_lit {p : Nat × Nat} (h : PairOk p) : WideAt.IsKeyLit (pairK p) := pairLaw.key (pair_key p h)
theorem zeroInt15 (w : World) : (zeroValue 3).run Try.prog w = .ok (.int .i64 0) w := Try.zeroValue3 w
/-- A map of pairs, each with its place. -/
structure PairsAt (w : World) (mb : Nat) (l : List (Nat × Nat)) : Prop where
  map : ∃ D : DataW Unit, w.ownsMap Try.prog 50 (plainElem Try.prog 3) mb l.length D ∧ (∀ p, PairOk p → has D (pairK p) = decide (p ∈ l)) ∧ ∀ (i : Nat) (p : Nat × Nat), PairOk p → l[i]? = some p → D.atKey (pairK p) (.lit (.int .i64 0)) = .lit (.int .i64 i)
theorem PairsAt.kept {w w' : World} {mb : Nat} {l : List (Nat × Nat)} {row : Option Nat} (h : PairsAt w mb l) (hg : w.grownBy w' row) (hn : some mb ≠ row) : PairsAt w' mb l := by
  obtain ⟨D, h1, h2, h3⟩ := h.map
  exact ⟨D, h1.kept hg hn, h2, h3⟩
theorem grown_below {w w' : World} (hb : Below w.heap.size w w') : w.grownBy w' none := ⟨hb.os, hb.tape, hb.output, hb.size, fun i hi _ => hb.block i hi⟩
theorem PairsAt.stays {w w' : World} {mb : Nat} {l : List (Nat × Nat)} (h : PairsAt w mb l) (hb : Below w.heap.size w w') : PairsAt w' mb l := h.kept (grown_below hb) (by simp)
theorem PairsAt.lt {w : World} {mb : Nat} {l : List (Nat × Nat)} (h : PairsAt w mb l) : mb < w.heap.size := by
  obtain ⟨D, h1, _⟩ := h.map
  exact h1.lt
theorem pairs_nil {w : World} {mb : Nat} (h : w.ownsMap Try.prog 50 (plainElem (H := Unit) Try.prog 3) mb 0 (.map [])) : PairsAt w mb [] :=
  ⟨.map [], h, fun s _ => by simp [has], fun i s _ h => by simp at h⟩
theorem pairs_more {w' : World} {mb : Nat} {l : List (Nat × Nat)} {x : Nat × Nat} {D : DataW Unit} (hx : PairOk x) (hhas : ∀ p, PairOk p → has D (pairK p) = decide (p ∈ l)) (hat : ∀ (i : Nat) (p : Nat × Nat), PairOk p → l[i]? = some p → D.atKey (pairK p) (.lit (.int .i64 0)) = .lit (.int .i64 i)) (hm : IsMap D) (hn : x ∉ l)
    (h : w'.ownsMap Try.prog 50 (plainElem Try.prog 3) mb (l.length + 1) (D.put (pairK x) (.lit (.int .i64 (l.length : Int))))) : PairsAt w' mb (l ++ [x]) := by
  refine ⟨_, by rw [List.length_append]; exact h, fun p hp => ?_, fun i p hp hi => ?_⟩
  · by_cases e : p = x
    · subst e
      rw [has_put_same hm (pairK_lit hp)]
      exact (decide_eq_true (by simp)).symm
    · rw [has_put_other (pairK_ne hp hx e), hhas p hp]
      simp [e]
  · by_cases hl : i < l.length
    · rw [List.getElem?_append_left hl] at hi
      rw [atKey_put_other (pairK_ne hp hx (by rintro rfl; exact hn (List.mem_of_getElem? hi))), hat i p hp hi]
    · have hlt := (List.getElem?_eq_some_iff.1 hi).1
      rw [List.length_append, List.length_singleton] at hlt
      have hi2 : i = l.length := by omega
      subst hi2
      have e : x = p := by simpa using hi
      subst e
      rw [atKey_put_same hm (pairK_lit hx)]
end Go.Proofs.Ytdidogcgoghdmaa
