/- The walks of the reference's small calls on rules, and of its Line. -/
import Derived.Test.YtnlhniaoaciopaaGreatDoorRules
import Derived.Test.YtnlhniaoaciopaaGreatDoorOctets
namespace Go.Proofs.YtnlhniaoaciopaaGreatDoor
open Go.RowKit
/-- The walk stands at an operation that writes no slot (or fails at once). -/
theorem at_none {P : Program} {ops : Array Oper} {Q : Exit → Act → World → Prop} {rest : List Oper} {o : Oper} {a : Act} {w : World} (_h : o.dst = none) (k : wpList P ops Q (o :: rest) a w) : wpList P ops Q (o :: rest) a w := k
/-- The walk stands at an operation whose guard keeps it from running. -/
theorem skip_op {P : Program} {ops : Array Oper} {Q : Exit → Act → World → Prop} {rest : List Oper} {o : Oper} {a : Act} {w : World} (hw : Region.wanted o (yielded ops a.tmps) = false) (k : wpList P ops Q rest (a.put o.dst undef) w) : wpList P ops Q (o :: rest) a w :=
  wpList_step fun K hK => by
    simp only [hw, Bool.false_eq_true, if_false]
    exact hK _ _ k
/-- .. and its slot was empty: nothing turns. -/
theorem skip_same {P : Program} {ops : Array Oper} {Q : Exit → Act → World → Prop} {rest : List Oper} {o : Oper} {a : Act} {w : World} (hw : Region.wanted o (yielded ops a.tmps) = false) (ha : a.put o.dst undef = a) (k : wpList P ops Q rest a w) : wpList P ops Q (o :: rest) a w :=
  skip_op hw (by rw [ha]; exact k)
/-- A pick whose test is known to hold. -/
theorem pick_true {P : Program} {ops : Array Oper} {Q : Exit → Act → World → Prop} {rest : List Oper} {o : Oper} {a : Act} {w : World} (hw : Region.wanted o (yielded ops a.tmps) = true) (c x y : Operand) (ho : o.op = .pick c x y) (hc : a.eval c = .bool true) (v : Value) (hx : a.eval x = v) (h : wpList P ops Q rest (a.put o.dst v) w) : wpList P ops Q (o :: rest) a w :=
  wpList_step fun K hK => by
    simp only [hw, if_true]
    unfold Oper.wp execOp
    simp [ho, hc, hx, asBool]
    exact hK _ _ h
theorem move_op {P : Program} {ops : Array Oper} {Q : Exit → Act → World → Prop} {rest : List Oper} {o : Oper} {a : Act} {w : World} (hw : Region.wanted o (yielded ops a.tmps) = true) (x : Operand) (ho : o.op = .move x) (v : Value) (hx : a.eval x = v) (h : wpList P ops Q rest (a.put o.dst v) w) : wpList P ops Q (o :: rest) a w :=
  wpList_step fun K hK => by
    simp only [hw, if_true]
    unfold Oper.wp execOp
    simp [ho, hx]
    exact hK _ _ h
/-- What follows the region is hidden behind a variable (whnf of a goal whose slots are all known would run through it). -/
theorem hide_Q {P : Program} {ops : Array Oper} {Q : Exit → Act → World → Prop} {l : List Oper} {a : Act} {w : World} (k : ∀ Q', Hid (Q' = Q) → wpList P ops Q' l a w) : wpList P ops Q l a w := k Q (Lib.hid rfl)
namespace Ru
theorem prefix_take (s p : List UInt8) : Lib.hasPrefix s p = (decide (p.length ≤ s.length) && decide (s.take p.length = p)) := by
  rw [Bool.eq_iff_iff, Bool.and_eq_true, decide_eq_true_eq, decide_eq_true_eq]
  show p.isPrefixOf s = true ↔ _
  rw [List.isPrefixOf_iff_prefix]
  constructor
  · rintro ⟨r, rfl⟩
    exact ⟨by simp, by simp⟩
  · rintro ⟨_, h⟩
    exact ⟨s.drop p.length, by have e := List.take_append_drop p.length s; rw [h] at e; exact e⟩
end Ru
set_option maxHeartbeats 1000000 in
theorem begins_calls (s p : ByteArray) (w : World) :
    Calls Tryz.prog 53 #[.string s, .string p] w fun e w' => e = .returned (.bool (Lib.hasPrefix s.data.toList p.data.toList)) ∧ w = w' := by
  have HP := Lib.hid (Ru.prefix_take s.data.toList p.data.toList)
  rw [Oct.length_bytes, Oct.length_bytes] at HP
  have hex : (s.extract 0 p.size).data.toList = s.data.toList.take p.size := by rw [extract_take]
  generalize Lib.hasPrefix s.data.toList p.data.toList = b at *
  by_cases hl : p.size ≤ s.size
  · have hl1 : decide ((p.size : Int) ≤ (s.size : Int)) = true := by simp; exact hl
    have hl2 : (p.size : Int) ≤ (s.size : Int) := by omega
    have HB : Hid (b = decide (s.data.toList.take p.size = p.data.toList)) := Lib.hid (by rw [HP.out, decide_eq_true hl]; rfl)
    have HEQ : Hid (((s.extract 0 p.size).toList == p.toList) = b) := Lib.hid (by
      rw [Oct.bytes_data, Oct.bytes_data, hex, HB.out, Bool.eq_iff_iff]; simp)
    clear HP hex HB
    go_enter Tryz.func53, Tryz.ntmps53
    go_wp2
    go_ret
    exact ⟨ret_bool (by rw [← HEQ.out]), rfl⟩
  · have hl1 : decide ((p.size : Int) ≤ (s.size : Int)) = false := by simp; omega
    have hl2 : ¬ (p.size : Int) ≤ (s.size : Int) := by omega
    have HB : Hid (b = false) := Lib.hid (by rw [HP.out, decide_eq_false hl]; rfl)
    clear HP hex
    go_enter Tryz.func53, Tryz.ntmps53
    go_wp2
    go_ret
    exact ⟨ret_bool HB.out.symm, rfl⟩
/-! ### The column -/
namespace Ru
theorem col_at {l : List UInt8} {k : Nat} (h : (l.take k).all Oct.blankB = true) (hk : k ≤ l.length) (hn : k = l.length ∨ ∃ h : k < l.length, Oct.blankB l[k] = false) : col l = (k : Int) + 1 := by
  unfold col
  have e : l.takeWhile Oct.blankB = l.take k := by
    have e1 : l.takeWhile Oct.blankB = (l.take k ++ l.drop k).takeWhile Oct.blankB := by rw [List.take_append_drop]
    rw [e1, List.takeWhile_append_of_pos (fun c hc => List.all_eq_true.1 h c hc)]
    rcases hn with rfl | ⟨h, hb⟩
    · rw [List.drop_length]; simp
    · rw [List.drop_eq_getElem_cons h, List.takeWhile_cons_of_neg (by rw [hb]; simp), List.append_nil]
  rw [e, List.length_take, Nat.min_eq_left hk]
end Ru
set_option maxHeartbeats 2000000 in
theorem refColumn_calls (s : ByteArray) (w : World) (hs : s.size ≤ 1099511627776) :
    Calls Tryz.prog 35 #[.string s] w fun e w' => e = .returned (.int .i64 (Ru.col s.data.toList)) ∧ w = w' := by
  go_enter Tryz.func35, Tryz.ntmps35
  go_wp2
  go_loop [3] (fun i => ∃ k : Nat, k ≤ s.size ∧ i = .int .i64 ((k : Int) + 1) ∧ (s.data.toList.take k).all Oct.blankB = true) (fun i => s.size + 1 - (intOf i).toNat)
  case atStart => exact ⟨0, Nat.zero_le _, rfl, by simp⟩
  case round =>
    obtain ⟨k, hk, rfl, hall⟩ := hrel
    have HA := Lib.hid hall
    clear hall
    have hkk : ((k : Int) + 1 - 1) = (k : Int) := by omega
    have hkn : ((k : Int) + 1 - 1).toNat = k := by omega
    by_cases hlt : k < s.size
    · have hle : ((k : Int) + 1 ≤ (s.size : Int)) := by omega
      by_cases h32 : (s[k].toNat : Int) = 32
      · have e1 : ((s[k].toNat : Int) == 32) = true := by simpa using h32
        have HB : Hid (Oct.blankB s[k] = true) := Lib.hid (by unfold Oct.blankB; rw [decide_eq_true_eq]; omega)
        clear h32
        go_wp2
        go_round
        case rel => exact ⟨k + 1, by omega, by go_num, Oct.all_snoc s k hlt HA.out HB.out⟩
        case measure => simp [intOf]; omega
      · have e1 : ((s[k].toNat : Int) == 32) = false := by simpa using h32
        by_cases h9 : (s[k].toNat : Int) = 9
        · have e2 : ((s[k].toNat : Int) == 9) = true := by simpa using h9
          have HB : Hid (Oct.blankB s[k] = true) := Lib.hid (by unfold Oct.blankB; rw [decide_eq_true_eq]; omega)
          clear h32 h9
          go_wp2
          go_round
          case rel => exact ⟨k + 1, by omega, by go_num, Oct.all_snoc s k hlt HA.out HB.out⟩
          case measure => simp [intOf]; omega
        · have e2 : ((s[k].toNat : Int) == 9) = false := by simpa using h9
          have HB : Hid (Oct.blankB s[k] = false) := Lib.hid (by unfold Oct.blankB; rw [decide_eq_false_iff_not]; omega)
          clear h32 h9
          have HC := Lib.hid (Ru.col_at HA.out (by rw [Oct.length_bytes]; omega) (.inr ⟨by rw [Oct.length_bytes]; exact hlt, HB.out⟩))
          go_wp2
          go_ret
          exact ⟨ret_int (by rw [HC.out]), rfl⟩
    · have hle : ¬ ((k : Int) + 1 ≤ (s.size : Int)) := by omega
      have HC := Lib.hid (Ru.col_at HA.out (by rw [Oct.length_bytes]; omega) (.inl (by rw [Oct.length_bytes]; omega)))
      go_wp2
      go_ret
      exact ⟨ret_int (by rw [HC.out]), rfl⟩
/-! ### Text -/
set_option maxRecDepth 100000 in
set_option maxHeartbeats 1000000 in
theorem refRuleText_calls (r : Ru.Rule) (w : World) (hr : r.name.length ≤ 1048576) :
    Calls Tryz.prog 49 #[.agg (ruleA r)] w (NewText w.heap.size (Ru.text r) w) := by
  obtain ⟨t, ht⟩ : ∃ t : ByteArray, t = ⟨r.name.toArray⟩ := ⟨_, rfl⟩
  have R0 := Row.new w 50 (ruleA r)
  have c0 : (w.alloc (.cells (ruleA r) 50)).cell? ⟨w.heap.size, 0, none⟩ = some (.int .i64 r.kind) := by rw [R0.cell, ruleA_kind]
  have c1 : (w.alloc (.cells (ruleA r) 50)).cell? ⟨w.heap.size, 1, none⟩ = some (.string t) := by rw [R0.cell, ruleA_name, ht]; rfl
  have B0 := (Below.refl w.heap.size w).alloc (Nat.le_refl _) (.cells (ruleA r) 50)
  have hts : t.size ≤ 1048576 := by rw [ht]; show (List.toArray _).size ≤ _; simp; exact hr
  have hn1 : ¬ 9223372036854775807 < (⟨#[33]⟩ : ByteArray).size + t.size := by show ¬ 9223372036854775807 < 1 + t.size; omega
  have hn2 : ¬ 9223372036854775807 < (⟨#[42, 46]⟩ : ByteArray).size + t.size := by show ¬ 9223372036854775807 < 2 + t.size; omega
  have htl : t.data.toList = r.name := by rw [ht]
  have E1 : Hid ((⟨#[33]⟩ ++ t : ByteArray) = ⟨(33 :: r.name).toArray⟩) := Lib.hid (by apply ByteArray.ext; rw [ht]; simp)
  have E2 : Hid ((⟨#[42, 46]⟩ ++ t : ByteArray) = ⟨(42 :: 46 :: r.name).toArray⟩) := Lib.hid (by apply ByteArray.ext; rw [ht]; simp)
  have E3 := Lib.hid ht
  have HT : Hid (Ru.text r = if r.kind = 3 then 33 :: r.name else if r.kind = 2 then 42 :: 46 :: r.name else r.name) := Lib.hid rfl
  clear ht htl R0 hr
  generalize Ru.text r = T at *
  generalize r.kind = k at *
  generalize r.name = m at *
  generalize ruleA r = X at *
  by_cases h3 : k = 3
  · have h31 : (k == 3) = true := by simpa using h3
    have h21 : (k == 2) = false := by rw [h3]; rfl
    have HY : Hid (T = 33 :: m) := Lib.hid (by rw [HT.out, if_pos h3])
    clear h3 HT
    go_enter Tryz.func49, Tryz.ntmps49
    go_wp2
    go_ret
    exact ⟨ret_str (by rw [HY.out]; exact E1.out), B0⟩
  · have h31 : (k == 3) = false := by simpa using h3
    by_cases h2 : k = 2
    · have h21 : (k == 2) = true := by simpa using h2
      have HY : Hid (T = 42 :: 46 :: m) := Lib.hid (by rw [HT.out, if_neg h3, if_pos h2])
      clear h3 h2 HT
      go_enter Tryz.func49, Tryz.ntmps49
      go_wp2
      go_ret
      exact ⟨ret_str (by rw [HY.out]; exact E2.out), B0⟩
    · have h21 : (k == 2) = false := by simpa using h2
      have HY : Hid (T = m) := Lib.hid (by rw [HT.out, if_neg h3, if_neg h2])
      clear h3 h2 HT
      go_enter Tryz.func49, Tryz.ntmps49
      go_wp2
      go_ret
      exact ⟨ret_str (by rw [HY.out]; exact E3.out), B0⟩
end Go.Proofs.YtnlhniaoaciopaaGreatDoor
