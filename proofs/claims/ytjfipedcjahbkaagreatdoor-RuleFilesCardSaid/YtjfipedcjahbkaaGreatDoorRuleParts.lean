/- The walks of the small calls of package rule. -/
import Derived.Test.YtjfipedcjahbkaaGreatDoorRuleKey
import Derived.Test.YtjfipedcjahbkaaGreatDoorIndexAny
import Derived.Shelf.Strings.SlTrimAscii
namespace Go.Proofs.YtjfipedcjahbkaaGreatDoor
open Go.RowKit Go.Maps
set_option maxHeartbeats 1000000 in
theorem first_calls (s : ByteArray) (w : World) (hs : s.size ≤ 4294967280) :
    Calls Tryz.prog 16 #[.string s] w (NewText w.heap.size (Ru.first s.data.toList) w) := by
  have H1 := Lib.hid (fun W => any_calls s ⟨#[32, 9]⟩ W (by decide) (by decide) (by decide) hs)
  have e1 : (⟨#[32, 9]⟩ : ByteArray).data.toList = [32, 9] := rfl
  rw [e1] at H1
  by_cases hn : Lib.indexAny s.data.toList [32, 9] < 0
  · obtain ⟨e1, _⟩ := Ur.indexAny_at hn
    have HE : Hid ((⟨(Ru.first s.data.toList).toArray⟩ : ByteArray) = s) := Lib.hid (by unfold Ru.first; rw [e1, mk_bytes])
    clear e1
    generalize Ru.first s.data.toList = l at *
    generalize Lib.indexAny s.data.toList [32, 9] = r at *
    go_enter Tryz.func16, Tryz.ntmps16
    go_wp2_with fail
    refine (H1.out _).mono ?_
    rintro e v1 ⟨rfl, d1⟩
    go_wp2
    go_ret
    exact ⟨ret_str HE.out.symm, d1⟩
  · obtain ⟨e1, e2⟩ := Ur.indexAny_hits hn
    rw [e1] at H1
    have hle : Ur.find s.data.toList [32, 9] ≤ s.size := by rw [Oct.length_bytes] at e2; omega
    have HA : Hid (s.extract 0 (Ur.find s.data.toList [32, 9]) = ⟨(Ru.first s.data.toList).toArray⟩) := Lib.hid (extract_take s _)
    clear hn e1 e2
    generalize Ru.first s.data.toList = l at *
    generalize Ur.find s.data.toList [32, 9] = n at *
    have hn0 : ¬ (n : Int) < 0 := by omega
    have hle1 : (n : Int) ≤ (s.size : Int) := by omega
    go_enter Tryz.func16, Tryz.ntmps16
    go_wp2_with fail
    refine (H1.out _).mono ?_
    rintro e v1 ⟨rfl, d1⟩
    go_wp2
    go_ret
    exact ⟨ret_str HA.out, d1⟩
set_option maxHeartbeats 1000000 in
theorem mark_calls (s : ByteArray) (w : World) :
    Calls Tryz.prog 15 #[.string s] w fun e w' => e = .returned (.tuple #[.int .i64 (Ru.kind s.data.toList), .string ⟨(Ru.rest s.data.toList).toArray⟩]) ∧ w = w' := by
  have H1 := Lib.hid (fun W => Tryz.strings_CutPrefix s ⟨#[33]⟩ W)
  have H2 := Lib.hid (fun W => Tryz.strings_CutPrefix s ⟨#[42, 46]⟩ W)
  have e1 : (⟨#[33]⟩ : ByteArray).data.toList = [33] := rfl
  have e2 : (⟨#[42, 46]⟩ : ByteArray).data.toList = [42, 46] := rfl
  rw [e1] at H1
  rw [e2] at H2
  have HK : Hid (Ru.kind s.data.toList = if Lib.hasPrefix s.data.toList [33] = true then 3 else if Lib.hasPrefix s.data.toList [42, 46] = true then 2 else 1) := Lib.hid rfl
  have HR : Hid (Ru.rest s.data.toList = if Lib.hasPrefix s.data.toList [33] = true then Lib.trimPrefix s.data.toList [33] else if Lib.hasPrefix s.data.toList [42, 46] = true then Lib.trimPrefix s.data.toList [42, 46] else s.data.toList) := Lib.hid rfl
  clear e1 e2
  generalize Ru.kind s.data.toList = K at *
  generalize Ru.rest s.data.toList = R at *
  generalize Lib.trimPrefix s.data.toList [33] = t1 at *
  generalize Lib.trimPrefix s.data.toList [42, 46] = t2 at *
  cases h1 : Lib.hasPrefix s.data.toList [33] with
  | true =>
    rw [h1] at H1 HK HR
    have KK : Hid (K = 3) := Lib.hid (by rw [HK.out, if_pos rfl])
    have RR : Hid (R = t1) := Lib.hid (by rw [HR.out, if_pos rfl])
    clear h1 HK HR
    go_enter Tryz.func15, Tryz.ntmps15
    go_wp2_with fail
    refine (H1.out _).mono ?_
    rintro e v1 ⟨rfl, rfl⟩
    go_wp2
    go_ret2
    exact ⟨ret_two (val_int KK.out.symm) (val_str (by rw [RR.out])), rfl⟩
  | false =>
    rw [h1] at H1 HK HR
    clear h1
    cases h2 : Lib.hasPrefix s.data.toList [42, 46] with
    | true =>
      rw [h2] at H2 HK HR
      have KK : Hid (K = 2) := Lib.hid (by rw [HK.out, if_neg (by simp), if_pos rfl])
      have RR : Hid (R = t2) := Lib.hid (by rw [HR.out, if_neg (by simp), if_pos rfl])
      clear h2 HK HR
      go_enter Tryz.func15, Tryz.ntmps15
      go_wp2_with fail
      refine (H1.out _).mono ?_
      rintro e v1 ⟨rfl, rfl⟩
      go_wp2_with fail
      refine (H2.out _).mono ?_
      rintro e v2 ⟨rfl, rfl⟩
      go_wp2
      go_ret2
      exact ⟨ret_two (val_int KK.out.symm) (val_str (by rw [RR.out])), rfl⟩
    | false =>
      rw [h2] at H2 HK HR
      have KK : Hid (K = 1) := Lib.hid (by rw [HK.out, if_neg (by simp), if_neg (by simp)])
      have RR : Hid (R = s.data.toList) := Lib.hid (by rw [HR.out, if_neg (by simp), if_neg (by simp)])
      clear h2 HK HR
      go_enter Tryz.func15, Tryz.ntmps15
      go_wp2_with fail
      refine (H1.out _).mono ?_
      rintro e v1 ⟨rfl, rfl⟩
      go_wp2_with fail
      refine (H2.out _).mono ?_
      rintro e v2 ⟨rfl, rfl⟩
      go_wp2
      go_ret2
      exact ⟨ret_two (val_int KK.out.symm) (val_str (by rw [RR.out, mk_bytes])), rfl⟩
/-- A set of rules in memory. -/
structure RuleSet (w : World) (g : Nat) (acc : List Ru.Rule) : Prop where
  own : w.ownsMap Tryz.prog 24 (unitElem (H := Unit)) g acc.length (setD acc)
  ok : ∀ x ∈ acc, RuleOk x
  once : acc.Nodup
theorem RuleSet.stays {w w' : World} {g : Nat} {acc : List Ru.Rule} (h : RuleSet w g acc) (hb : Below w.heap.size w w') : RuleSet w' g acc :=
  ⟨h.own.kept (row := none) ⟨hb.os, hb.tape, hb.output, hb.size, fun i hi _ => hb.block i hi⟩ (by simp), h.ok, h.once⟩
theorem RuleSet.new (w : World) : RuleSet (w.alloc (.map #[] 0)) w.heap.size [] := ⟨World.ownsMap_made _ _ _ _, by simp, by simp⟩
set_option maxRecDepth 100000 in
set_option maxHeartbeats 1000000 in
theorem whyNot_calls (acc : List Ru.Rule) (r : Ru.Rule) (g : Nat) (w : World) (hS : RuleSet w g acc) (hr : RuleOk r) :
    Calls Tryz.prog 24 #[.agg (ruleA r), .map (some g)] w fun e w' => e = .returned (.int .i64 (Ru.whyNot acc r)) ∧ Below w.heap.size w w' := by
  have HK := Lib.hid (rule_key r hr)
  have HH := Lib.hid (has_setD hS.ok hr)
  have HZ := Lib.hid (size_setD hS.ok hS.once)
  have HW : Hid (Ru.whyNot acc r = if decide (r ∈ acc) = true then 52 else if 200 ≤ acc.length then 53 else 0) := Lib.hid (by unfold Ru.whyNot; simp)
  have HR := Lib.hid (ruleA_size r)
  have hown := hS.own.alloc (.cells (ruleA r) 24)
  have R0 := Row.new w 24 (ruleA r)
  have B0 := (Below.refl w.heap.size w).alloc (Nat.le_refl _) (.cells (ruleA r) 24)
  clear hS hr
  generalize Ru.whyNot acc r = y at *
  generalize decide (r ∈ acc) = b at *
  generalize ruleK r = kl at *
  generalize setD acc = D at *
  generalize acc.length = n at *
  generalize ruleA r = X at *
  cases b with
  | true =>
    have HY : Hid (y = 52) := Lib.hid (by rw [HW.out, if_pos rfl])
    clear HW
    go_enter Tryz.func24, Tryz.ntmps24
    go_wp2_with (first
      | (refine at_slot 9 rfl ?_; refine load_row rfl 24 _ rfl w.heap.size rfl R0 Tryz.underlying24 rfl (by rw [HR.out]; exact infoRule) ?_)
      | (at_lookup; refine wpList_lookup_own_unit _ rfl _ _ 52 rfl 24 56 ruleLaw Tryz.underlying52 (zeroUnit _) g n _ rfl hown _ _ rfl HK.out ?_; rw [HH.out]))
    go_ret
    exact ⟨ret_int HY.out.symm, B0.alloc B0.size _⟩
  | false =>
    by_cases hm : 200 ≤ n
    · have hm1 : decide ((200 : Int) ≤ (n : Int)) = true := by simp; omega
      have HY : Hid (y = 53) := Lib.hid (by rw [HW.out, if_neg (by simp), if_pos hm])
      clear hm HW
      go_enter Tryz.func24, Tryz.ntmps24
      go_wp2_with (first
        | (refine at_slot 9 rfl ?_; refine load_row rfl 24 _ rfl w.heap.size rfl R0 Tryz.underlying24 rfl (by rw [HR.out]; exact infoRule) ?_)
        | (at_lookup; refine wpList_lookup_own_unit _ rfl _ _ 52 rfl 24 56 ruleLaw Tryz.underlying52 (zeroUnit _) g n _ rfl hown _ _ rfl HK.out ?_; rw [HH.out])
        | (at_len; refine wpList_len_own _ rfl _ 52 rfl 24 56 Tryz.underlying52 (unitElem (H := Unit)) g n _ rfl (hown.alloc _) ?_; rw [HZ.out]))
      go_ret
      exact ⟨ret_int HY.out.symm, B0.alloc B0.size _⟩
    · have hm1 : decide ((200 : Int) ≤ (n : Int)) = false := by simp; omega
      have HY : Hid (y = 0) := Lib.hid (by rw [HW.out, if_neg (by simp), if_neg hm])
      clear hm HW
      go_enter Tryz.func24, Tryz.ntmps24
      go_wp2_with (first
        | (refine at_slot 9 rfl ?_; refine load_row rfl 24 _ rfl w.heap.size rfl R0 Tryz.underlying24 rfl (by rw [HR.out]; exact infoRule) ?_)
        | (at_lookup; refine wpList_lookup_own_unit _ rfl _ _ 52 rfl 24 56 ruleLaw Tryz.underlying52 (zeroUnit _) g n _ rfl hown _ _ rfl HK.out ?_; rw [HH.out])
        | (at_len; refine wpList_len_own _ rfl _ 52 rfl 24 56 Tryz.underlying52 (unitElem (H := Unit)) g n _ rfl (hown.alloc _) ?_; rw [HZ.out]))
      go_ret
      exact ⟨ret_int HY.out.symm, B0.alloc B0.size _⟩
theorem trimLeft_calls (s : ByteArray) (w : World) :
    Calls Tryz.prog 48 #[.string s, .string ⟨#[32, 9]⟩] w (NewText w.heap.size (s.data.toList.dropWhile Oct.blankB) w) := by
  have h := Any.strings_TrimLeft_laid Tryz.lays161 (by kernel_rfl) s ⟨#[32, 9]⟩ w (by decide) (Go.Proofs.ascii_of_all (by decide))
  have e : (⟨#[32, 9]⟩ : ByteArray).data.toList = [32, 9] := rfl
  rw [e, Ru.trimLeft_blank] at h
  exact h
set_option maxHeartbeats 1000000 in
theorem column_calls (s : ByteArray) (w : World) (hs : s.size ≤ 1099511627776) :
    Calls Tryz.prog 25 #[.string s] w fun e w' => e = .returned (.int .i64 (Ru.col s.data.toList)) ∧ Below w.heap.size w w' := by
  have H1 := Lib.hid (fun W => trimLeft_calls s W)
  obtain ⟨h1, h2⟩ := Ru.col_drop s.data.toList
  rw [Oct.length_bytes] at h1 h2
  obtain ⟨t, ht⟩ : ∃ t : ByteArray, t = ⟨(s.data.toList.dropWhile Oct.blankB).toArray⟩ := ⟨_, rfl⟩
  have hz : t.size = (s.data.toList.dropWhile Oct.blankB).length := by rw [ht]; show (List.toArray _).size = _; simp
  unfold NewText at H1
  rw [← ht] at H1
  rw [← hz] at h1 h2
  have HC := Lib.hid h2
  have hb1 : (t.size : Int) ≤ (s.size : Int) := by omega
  have hb2 : (s.size : Int) ≤ 1099511627776 := by omega
  clear h2 ht hz
  generalize Ru.col s.data.toList = c at *
  go_enter Tryz.func25, Tryz.ntmps25
  go_wp2_with fail
  refine (H1.out _).mono ?_
  rintro e v1 ⟨rfl, d1⟩
  go_wp2
  go_ret
  exact ⟨ret_int (by rw [HC.out]), d1⟩
/-! ### Text -/
set_option maxRecDepth 100000 in
set_option maxHeartbeats 1000000 in
theorem ruleText_calls (r : Ru.Rule) (w : World) (hr : r.name.length ≤ 1048576) :
    Calls Tryz.prog 8 #[.agg (ruleA r)] w (NewText w.heap.size (Ru.text r) w) := by
  obtain ⟨t, ht⟩ : ∃ t : ByteArray, t = ⟨r.name.toArray⟩ := ⟨_, rfl⟩
  have R0 := Row.new w 24 (ruleA r)
  have c0 : (w.alloc (.cells (ruleA r) 24)).cell? ⟨w.heap.size, 0, none⟩ = some (.int .i64 r.kind) := by rw [R0.cell, ruleA_kind]
  have c1 : (w.alloc (.cells (ruleA r) 24)).cell? ⟨w.heap.size, 1, none⟩ = some (.string t) := by rw [R0.cell, ruleA_name, ht]; rfl
  have B0 := (Below.refl w.heap.size w).alloc (Nat.le_refl _) (.cells (ruleA r) 24)
  have hts : t.size ≤ 1048576 := by rw [ht]; show (List.toArray _).size ≤ _; simp; exact hr
  have hn1 : ¬ 9223372036854775807 < (⟨#[33]⟩ : ByteArray).size + t.size := by show ¬ 9223372036854775807 < 1 + t.size; omega
  have hn2 : ¬ 9223372036854775807 < (⟨#[42, 46]⟩ : ByteArray).size + t.size := by show ¬ 9223372036854775807 < 2 + t.size; omega
  have htl : t.data.toList = r.name := by rw [ht]
  have E1 : Hid ((⟨#[33]⟩ ++ t : ByteArray) = ⟨(33 :: r.name).toArray⟩) := Lib.hid (by apply ByteArray.ext; rw [ht]; simp)
  have E2 : Hid ((⟨#[42, 46]⟩ ++ t : ByteArray) = ⟨(42 :: 46 :: r.name).toArray⟩) := Lib.hid (by apply ByteArray.ext; rw [ht]; simp)
  have E3 := Lib.hid ht
  have HT : Hid (Ru.text r = if r.kind = 3 then 33 :: r.name else if r.kind = 2 then 42 :: 46 :: r.name else r.name) := Lib.hid rfl
  clear ht htl R0 hr
  generalize Ru.text r = T at *
  generalize r.kind = k at *
  generalize r.name = m at *
  generalize ruleA r = X at *
  by_cases h3 : k = 3
  · have h31 : (k == 3) = true := by simpa using h3
    have HY : Hid (T = 33 :: m) := Lib.hid (by rw [HT.out, if_pos h3])
    clear h3 HT
    go_enter Tryz.func8, Tryz.ntmps8
    go_wp2
    go_ret
    exact ⟨ret_str (by rw [HY.out]; exact E1.out), B0⟩
  · have h31 : (k == 3) = false := by simpa using h3
    by_cases h2 : k = 2
    · have h21 : (k == 2) = true := by simpa using h2
      have HY : Hid (T = 42 :: 46 :: m) := Lib.hid (by rw [HT.out, if_neg h3, if_pos h2])
      clear h3 h2 HT
      go_enter Tryz.func8, Tryz.ntmps8
      go_wp2
      go_ret
      exact ⟨ret_str (by rw [HY.out]; exact E2.out), B0⟩
    · have h21 : (k == 2) = false := by simpa using h2
      have HY : Hid (T = m) := Lib.hid (by rw [HT.out, if_neg h3, if_neg h2])
      clear h3 h2 HT
      go_enter Tryz.func8, Tryz.ntmps8
      go_wp2
      go_ret
      exact ⟨ret_str (by rw [HY.out]; exact E3.out), B0⟩
end Go.Proofs.YtjfipedcjahbkaaGreatDoor
