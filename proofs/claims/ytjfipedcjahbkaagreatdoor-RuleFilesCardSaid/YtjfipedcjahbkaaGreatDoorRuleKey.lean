/- Rules as keys of a map: a set of rules in memory. -/
import Derived.Test.YtjfipedcjahbkaaGreatDoorRuleRows
import Derived.Maps.OwnSet
import Derived.DeepKeys4
namespace Go.Proofs.YtjfipedcjahbkaaGreatDoor
open Go.RowKit Go.Maps
/-- What a rule reads as, as a key. -/
def ruleK (r : Ru.Rule) : Lit := .string (keyBytes [.int .i64 r.kind, .string r.name])
/-- A rule that memory can hold. -/
def RuleOk (r : Ru.Rule) : Prop := (Lit.int .i64 r.kind).wf = true ∧ r.name.length ≤ maxLen
theorem laidOut : laidOutB Tryz.prog = true := by kernel_rfl
theorem ruleLaw : Keyed Tryz.prog 24 := Keyed.of_law (deep_law_laid laidOut (m := 3) (by omega) (of_decide_eq_true (by kernel_rfl)) (by kernel_rfl) (by kernel_rfl))
theorem ruleKeyType : Tryz.prog.keyType 24 = true := by kernel_rfl
theorem cellsInt : Tryz.prog.cellsOf 3 = 1 := by kernel_rfl
theorem cellsStr : Tryz.prog.cellsOf 9 = 1 := by kernel_rfl
theorem cellsRule : Tryz.prog.cellsOf 24 = 2 := by kernel_rfl
theorem typesMany : ∃ n, Tryz.prog.types.size = n + 1 := ⟨Tryz.prog.types.size - 1, by have : 0 < Tryz.prog.types.size := of_decide_eq_true (by kernel_rfl); omega⟩
theorem rule_key (r : Ru.Rule) (h : RuleOk r) : keyOf Tryz.prog 24 (.agg (ruleA r)) = some (ruleK r) := by
  obtain ⟨f0, f1, hu, ⟨n0, n1⟩, ⟨o0, o1⟩, t0, t1⟩ : ∃ f0 f1, Tryz.prog.underlying 24 = some (.struct #[f0, f1]) ∧ (f0.name ≠ "_" ∧ f1.name ≠ "_") ∧ (f0.offset = 0 ∧ f1.offset = 1) ∧ f0.type = 3 ∧ f1.type = 9 :=
    ⟨_, _, Tryz.underlying24, ⟨by decide, by decide⟩, ⟨rfl, rfl⟩, rfl, rfl⟩
  obtain ⟨hw, hl⟩ := h
  obtain ⟨n, hn⟩ := typesMany
  have hs : (⟨r.name.toArray⟩ : ByteArray).size ≤ maxLen := by show (List.toArray _).size ≤ _; simp; exact hl
  have k0 : Tryz.prog.keyLits (n + 1) 3 [Value.int .i64 r.kind] = some [.int .i64 r.kind] := by
    simp [Program.keyLits, Tryz.underlying3, hw]
  have k1 : Tryz.prog.keyLits (n + 1) 9 [strV r.name] = some [.string r.name] := by
    simp [Program.keyLits, Tryz.underlying9, strV, hs]
  have hform : (Value.agg (ruleA r)).formed Tryz.prog 24 = true := by
    simp [Value.formed, hu, cellsRule, ruleA]
  have hk : Tryz.prog.keyLits (n + 1 + 1) 24 [Value.int .i64 r.kind, strV r.name] = some [.int .i64 r.kind, .string r.name] := by
    unfold Program.keyLits
    rw [hu]
    simp [cellsRule, cellsInt, cellsStr, n0, n1, o0, o1, t0, t1, k0, k1]
  unfold keyOf
  rw [hu]
  simp only [ruleKeyType, hform, Bool.and_self, if_true]
  rw [hn, show (Value.agg (ruleA r)).cells.toList = [Value.int .i64 r.kind, strV r.name] from rfl, hk]
  rfl
theorem ruleK_inj {r q : Ru.Rule} (hr : RuleOk r) (hq : RuleOk q) (h : ruleK r = ruleK q) : r = q := by
  have e := ruleLaw.inj (rule_key r hr) (h ▸ rule_key q hq)
  have e2 : ruleA r = ruleA q := Value.agg.inj e
  have e0 := congrArg (fun c => c[0]?) e2
  have e1 := congrArg (fun c => c[1]?) e2
  simp only [ruleA_kind, ruleA_name, Option.some.injEq, Value.int.injEq, true_and] at e0 e1
  have e3 : r.name = q.name := by
    unfold strV at e1
    have := congrArg (fun b : ByteArray => b.data.toList) (Value.string.inj e1)
    simpa using this
  cases r; cases q
  simp only at e0 e3
  rw [e0, e3]
/-- The set of the rules acc. -/
def setD (acc : List Ru.Rule) : DataW Unit := setOf (.agg []) (acc.map ruleK)
theorem setD_nil : setD [] = .map [] := rfl
theorem setD_snoc (acc : List Ru.Rule) (r : Ru.Rule) : setD (acc ++ [r]) = (setD acc).put (ruleK r) (.agg []) := by
  unfold setD
  rw [List.map_append, List.map_singleton, setOf_snoc]
theorem keys_lit (acc : List Ru.Rule) : ∀ x ∈ acc.map ruleK, WideAt.IsKeyLit x := by
  intro x hx
  obtain ⟨r, _, rfl⟩ := List.mem_map.1 hx
  trivial
theorem has_setD {acc : List Ru.Rule} (h : ∀ x ∈ acc, RuleOk x) {r : Ru.Rule} (hr : RuleOk r) : Maps.has (setD acc) (ruleK r) = decide (r ∈ acc) := by
  unfold setD
  rw [has_setOf _ _ _ (keys_lit acc), List.any_map, Bool.eq_iff_iff, List.any_eq_true, decide_eq_true_eq]
  constructor
  · rintro ⟨x, hx, he⟩
    have := ruleK_inj (h x hx) hr (WideAt.sameKey_eq he)
    rw [← this]; exact hx
  · intro hm
    exact ⟨r, hm, show (ruleK r).sameKey (ruleK r) = true from WideAt.sameKey_self (show WideAt.IsKeyLit (ruleK r) from trivial)⟩
theorem size_app : ∀ (l acc : List Ru.Rule), (∀ x ∈ acc ++ l, RuleOk x) → (acc ++ l).Nodup → Maps.size (setD acc) = acc.length → Maps.size (setD (acc ++ l)) = (acc ++ l).length
  | [], acc, _, _, hs => by rw [List.append_nil]; exact hs
  | r :: l, acc, h, hd, hs => by
    have e : acc ++ r :: l = (acc ++ [r]) ++ l := by simp
    rw [e] at h hd ⊢
    refine size_app l (acc ++ [r]) h hd ?_
    rw [List.nodup_append, List.nodup_append] at hd
    have hn : r ∉ acc := fun hm => hd.1.2.2 r hm r (by simp) rfl
    rw [setD_snoc, size_put (show Tidy (setD acc) from tidy_setOf _ _ (keys_lit acc)), show has (setD acc) (ruleK r) = decide (r ∈ acc) from has_setD (fun x hx => h x (by simp [hx])) (h r (by simp)), decide_eq_false hn, if_neg (by simp), hs]
    simp
theorem size_setD {acc : List Ru.Rule} (h : ∀ x ∈ acc, RuleOk x) (hd : acc.Nodup) : Maps.size (setD acc) = acc.length := size_app acc [] h hd rfl
theorem zeroUnit (w : World) : (zeroValue 56).run Tryz.prog w = .ok (.agg #[]) w := by kernel_rfl
end Go.Proofs.YtjfipedcjahbkaaGreatDoor
