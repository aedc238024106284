/- The walk of rule's File. -/
import Derived.Test.YtnlhniaoaciopaaGreatDoorRuleLine
import Derived.Test.YtnlhniaoaciopaaGreatDoorLines
namespace Go.Proofs.YtnlhniaoaciopaaGreatDoor
open Go.RowKit Go.Maps
/-- A value is built of three parts. -/
theorem build_three {P : Program} {ops : Array Oper} {rest : List Oper} {o : Oper} {a : Act} {w : World} {Q : Exit → Act → World → Prop} (hg : o.guard = none) (t : TypeId) (i0 i1 i2 : Nat) (x0 x1 x2 : Operand) (ho : o.op = .build t #[(i0, x0), (i1, x1), (i2, x2)])
    (u0 u1 u2 : Value) (h0 : a.eval x0 = u0) (h1 : a.eval x1 = u1) (h2 : a.eval x2 = u2) (cells : Array Value)
    (hc : P.built t [(i0, u0), (i1, u1), (i2, u2)] = some cells) (h : wpList P ops Q rest (a.put o.dst (.agg cells)) w) : wpList P ops Q (o :: rest) a w := by
  have e : ((#[(i0, x0), (i1, x1), (i2, x2)] : Array (Nat × Operand)).map fun (i, x) => (i, a.eval x)).toList = [(i0, u0), (i1, u1), (i2, u2)] := by simp [h0, h1, h2]
  refine wpList_build hg t #[(i0, x0), (i1, x1), (i2, x2)] ho ?_ ?_
  · rw [e, hc]; rfl
  · rw [e, hc]; exact h
namespace Ru
theorem mem_total {p : List UInt8} : ∀ {ls : List (List UInt8)}, p ∈ ls → p.length + 1 ≤ total ls
  | [], h => by cases h
  | l :: r, h => by
    rw [total]
    rcases List.mem_cons.1 h with rfl | h
    · omega
    · have := mem_total h; omega
theorem lines_small {s p : List UInt8} (h : p ∈ Oct.lines s) : p.length ≤ s.length := by
  have := mem_total h
  have := total_lines s
  omega
theorem lines_few (s : List UInt8) : (Oct.lines s).length ≤ s.length + 1 := by
  have : ∀ ls : List (List UInt8), ls.length ≤ total ls := by
    intro ls
    induction ls with
    | nil => exact Nat.le_refl _
    | cons l r ih => rw [total, List.length_cons]; omega
  have := this (Oct.lines s)
  have := total_lines s
  omega
theorem can_ok {r : Rule} (h : Can r) : (Lit.int .i64 r.kind).wf = true ∧ r.name.length ≤ maxLen := by
  refine ⟨?_, by have := h.good.few; unfold maxLen; omega⟩
  rcases h.kind with e | e | e <;> rw [e] <;> decide
end Ru
theorem has_none (w : World) : HasRules w (.slice none 0 0) [] := ⟨none, 0, rfl, fun h => absurd h (by simp)⟩
theorem new_rules {o : Ru.Fault × List Ru.Rule} {w w' : World} {f : Ru.Fault} {rs : List Ru.Rule} {v : Value} (h : o = (f, rs)) (hv : HasRules w' v rs) (hb : Below w.heap.size w w') : NewRules o w (.returned (.tuple #[v, .agg (faultA f)])) w' := by
  subst h
  exact ⟨v, rfl, hv, hb⟩
/-- Behind k lines: the rules that stand, in a row and in a set; what remains. -/
structure FileAt (w : World) (ls : List (List UInt8)) (res : Ru.Fault × List Ru.Rule) (g3 g5 g n cap BL B2 : Nat) (acc : List Ru.Rule) (k : Nat) (v : Value) (wr : World) : Prop where
  all : Ru.go (ls.drop k) k acc = res
  rules : Ru.Rules acc
  own : wr.ownsRow B2 50 2 v acc.length (rulesL acc)
  set : RuleSet wr g5 acc
  fault : Row wr g3 38 (faultA Ru.fine)
  lines : wr.ownsRow BL 9 1 (.slice (some ⟨g, 0, none⟩) n cap) n (ls.map strV)
  below : Below w.heap.size w wr
  size : B2 ≤ wr.heap.size
theorem FileAt.stays {w : World} {ls : List (List UInt8)} {res : Ru.Fault × List Ru.Rule} {g3 g5 g n cap BL B2 : Nat} {acc : List Ru.Rule} {k : Nat} {v : Value} {wr w' : World} (h : FileAt w ls res g3 g5 g n cap BL B2 acc k v wr) (hb : Below wr.heap.size wr w') : FileAt w ls res g3 g5 g n cap BL B2 acc k v w' :=
  ⟨h.all, h.rules, own_keep2 h.own hb, h.set.stays hb, h.fault.stays hb, own_keep h.lines hb, h.below.trans (hb.mono h.below.size), Nat.le_trans h.size hb.size⟩
theorem row_grown {w w' : World} {g b : Nat} {t : TypeId} {cs : Array Value} (h : Row w g t cs) (hg : w.grownBy w' (some b)) (hne : b < g) : Row w' g t cs :=
  (hg.block g h.lt (by intro e; have : g = b := Option.some.inj e; omega)).trans h
theorem own_apart {w w' : World} {B b n s : Nat} {t : TypeId} {v : Value} {xs : List Value} (h : w.ownsRow B t s v n xs) (hg : w.grownBy w' (some b)) (hb : b < B) : w'.ownsRow B t s v n xs :=
  h.kept hg (.inr fun e => by have := (h.lt b e).1; omega)
theorem own_setRow {w : World} {B b n s : Nat} {t : TypeId} {v : Value} {xs : List Value} (h : w.ownsRow B t s v n xs) (hb : b < B) (cs : Array Value) : (w.setRow b cs).ownsRow B t s v n xs :=
  h.kept (row := some b) ⟨rfl, rfl, rfl, by rw [size_setRow]; exact Nat.le_refl _, fun i _ hn => setRow_other w b i cs (by intro e; exact hn (by rw [e]))⟩ (.inr fun e => by have := (h.lt b e).1; omega)
theorem cell_two_new (w : World) (a b : Value) (t : TypeId) : ∀ j u, [a, b][j]? = some u → (w.alloc (.cells #[a, b] t)).cell? ((⟨w.heap.size, 0, none⟩ : Addr).add j) = some u := by
  intro j u h
  rw [own_add, (Row.new w t #[a, b]).cell]
  rw [← h]
  match j with
  | 0 => rfl
  | 1 => rfl
  | j + 2 => rfl
theorem FileAt.add {w : World} {ls : List (List UInt8)} {res : Ru.Fault × List Ru.Rule} {g3 g5 g n cap BL B2 : Nat} {acc : List Ru.Rule} {k : Nat} {v v' : Value} {w5 w6 w8 : World} {l : List UInt8} {r : Ru.Rule} {o : Obj} (h : FileAt w ls res g3 g5 g n cap BL B2 acc k v w5)
    (h35 : g3 < g5) (h5g : g5 < g) (hg2 : g < B2) (hw5 : w.heap.size ≤ g5) (hl : ls[k]? = some l) (hw : Ru.why acc l = 0) (hm : Ru.more acc l = acc ++ [r]) (hok : RuleOk r)
    (hset : w6.ownsMap Tryz.prog 50 (unitElem (H := Unit)) g5 (acc.length + 1) ((setD acc).put (ruleK r) (.agg []))) (hg6 : w5.grownBy w6 (some g5))
    (hown : w8.ownsRow B2 50 2 v' (acc.length + 1) (rulesL acc ++ [.int .i64 r.kind, strV r.name])) (hg8 : (w6.alloc o).grownBy w8 v.ownBlock) : FileAt w ls res g3 g5 g n cap BL B2 (acc ++ [r]) (k + 1) v' w8 := by
  have hall := Ru.go_on h.all hl hw
  have hru := Ru.more_rules hw h.rules
  rw [hm] at hall hru
  have hs6 := hg6.size
  have hs7 : w6.heap.size < (w6.alloc o).heap.size := by simp
  have hs8 := hg8.size
  have hbelow5 := h.below.size
  have hb2 := h.size
  have hlines := (((h.lines.kept hg6 (.inr (by intro e; have : g = g5 := Option.some.inj e; omega))).alloc o).kept hg8)
  have hvb : ∀ b, v.ownBlock = some b → B2 ≤ b ∧ b < w5.heap.size := h.own.lt
  have hglt : g < w5.heap.size := (h.lines.lt g rfl).2
  have hfault := h.fault.lt
  have hno : ∀ b, b < B2 → some b ≠ v.ownBlock := fun b hb e => by have := (hvb b e.symm).1; omega
  refine ⟨hall, hru, ?_, ?_, ?_, ?_, ?_, by omega⟩
  · rw [List.length_append, rulesL_snoc]; exact hown
  · refine ⟨?_, ?_, hru.once⟩
    · rw [List.length_append, setD_snoc]
      exact (hset.alloc o).kept hg8 (hno g5 (by omega))
    · intro x hx
      rcases List.mem_append.1 hx with hx | hx
      · exact h.set.ok x hx
      · rw [List.mem_singleton] at hx; rw [hx]; exact hok
  · have e1 := (hg6.block g3 hfault (by intro e; have : g3 = g5 := Option.some.inj e; omega)).trans h.fault
    have e2 : Row (w6.alloc o) g3 38 (faultA Ru.fine) := Row.alloc e1 o
    exact (hg8.block g3 e2.lt (hno g3 (by omega))).trans e2
  · exact hlines (.inr (fun e => hno g hg2 e))
  · exact ((h.below.grown hg6 hbelow5 (fun b hb => by have : g5 = b := Option.some.inj hb; omega)).alloc (by omega) o).grown hg8 (by omega) (fun b hb => by have := (hvb b hb).1; omega)
end Go.Proofs.YtnlhniaoaciopaaGreatDoor
