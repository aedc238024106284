/- The walk of the reference's Same (two lists of rules). -/
import Derived.Test.YtjfipedcjahbkaaGreatDoorRuleRows
import Derived.Test.YtjfipedcjahbkaaGreatDoorOctets
namespace Go.Proofs.YtjfipedcjahbkaaGreatDoor
open Go.RowKit
theorem rules_no {rs qs : List Ru.Rule} {k : Nat} {r q : Ru.Rule} (h1 : rs[k]? = some r) (h2 : qs[k]? = some q) (hne : r ≠ q) : decide (rs = qs) = false :=
  decide_eq_false fun e => hne (by rw [e, h2] at h1; exact (Option.some.inj h1).symm)
theorem rules_more {rs qs : List Ru.Rule} {k : Nat} {r q : Ru.Rule} (h1 : rs[k]? = some r) (h2 : qs[k]? = some q) (he : r = q) (h : rs.take k = qs.take k) : rs.take (k + 1) = qs.take (k + 1) := by
  rw [List.take_add_one, List.take_add_one, h1, h2, h, he]
theorem rules_yes {rs qs : List Ru.Rule} {k : Nat} (h1 : rs.length ≤ k) (h2 : qs.length ≤ k) (h : rs.take k = qs.take k) : decide (rs = qs) = true := by
  rw [List.take_of_length_le h1, List.take_of_length_le h2] at h
  exact decide_eq_true h
set_option maxRecDepth 100000 in
set_option maxHeartbeats 2000000 in
theorem sameRules_calls (rs qs : List Ru.Rule) (va vb : Value) (w : World) (hn : rs.length ≤ 1000000) (ha : HasRules w va rs) (hb : HasRules w vb qs) :
    Calls Tryz.prog 12 #[va, vb] w (BoolDrawn (decide (rs = qs)) w) := by
  obtain ⟨A, ca, rfl, hA⟩ := ha
  obtain ⟨B, cb, rfl, hB⟩ := hb
  have KA := Lib.hid hA
  have KB := Lib.hid hB
  clear hA hB
  by_cases hsz : rs.length = qs.length
  · have hz : ((rs.length : Int) != (qs.length : Int)) = false := by rw [hsz]; simp
    have HZ := Lib.hid hsz
    clear hsz
    go_enter Tryz.func12, Tryz.ntmps12
    go_wp2
    go_loopw [13] (fun i wr => ∃ k : Nat, k ≤ rs.length ∧ i = .int .i64 k ∧ rs.take k = qs.take k ∧ Drawn w wr) (fun i _ => rs.length - (intOf i).toNat)
    case atStart => exact ⟨0, Nat.zero_le _, rfl, by simp, Drawn.refl _⟩
    case round =>
      obtain ⟨k, hk, rfl, hm, hd⟩ := hrel
      have HM := Lib.hid hm
      clear hm hz
      by_cases hlt : k < rs.length
      · have hlb : k < qs.length := by have := HZ.out; omega
        obtain ⟨g, rfl, hg, _, hca⟩ := KA.out (by omega)
        obtain ⟨g', rfl, hg', _, hcb⟩ := KB.out (by omega)
        obtain ⟨r, hr⟩ : ∃ r, rs[k]? = some r := ⟨_, List.getElem?_eq_getElem hlt⟩
        obtain ⟨q, hq⟩ : ∃ q, qs[k]? = some q := ⟨_, List.getElem?_eq_getElem hlb⟩
        obtain ⟨c0, c1⟩ := hca k r hr
        obtain ⟨e0, e1⟩ := hcb k q hq
        rw [← hd.cell] at c0 c1 e0 e1
        have hne := neq_rule r q
        have hX : ruleA r = #[.int .i64 r.kind, strV r.name] := rfl
        have hY : ruleA q = #[.int .i64 q.kind, strV q.name] := rfl
        rw [hX, hY] at hne
        have HP := Lib.hid hr
        have HQ := Lib.hid hq
        clear hr hq hX hY hca hcb
        by_cases hc : r = q
        · rw [decide_eq_true hc] at hne
          have HC := Lib.hid hc
          clear hc
          go_wp2
          go_quiet (fail)
          go_wp2
          go_roundw
          case rel => exact ⟨k + 1, by omega, by go_num, rules_more HP.out HQ.out HC.out HM.out, hd.more _⟩
          case measure => simp [intOf]; omega
        · rw [decide_eq_false hc] at hne
          have HC := Lib.hid hc
          clear hc
          go_wp2
          go_quiet (fail)
          go_wp2
          go_ret
          exact ⟨ret_bool (rules_no HP.out HQ.out HC.out).symm, hd.more _⟩
      · go_wp2
        go_ret
        exact ⟨ret_bool (rules_yes (k := k) (by omega) (by have := HZ.out; omega) HM.out).symm, hd⟩
  · have hz : ((rs.length : Int) != (qs.length : Int)) = true := by rw [bne_iff_ne]; omega
    have HZ := Lib.hid hsz
    clear hsz
    go_enter Tryz.func12, Tryz.ntmps12
    go_wp2
    go_ret
    exact ⟨ret_bool (decide_eq_false fun e => HZ.out (by rw [e])).symm, Drawn.refl _⟩
end Go.Proofs.YtjfipedcjahbkaaGreatDoor
