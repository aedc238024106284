/- What an address is written as is read as that address. No program is named here. -/
import Derived.Test.YtcookddgaomkiaaNoughtPlain
import Derived.Test.YtcookddgaomkiaaTextPlain
namespace Go.Proofs.Ytcookddgaomkiaa
namespace Adr
/-! ### Pieces that are joined come apart again -/
theorem join_step (x y : List UInt8) (r : List (List UInt8)) (c : UInt8) : Lib.join (x :: y :: r) [c] = x ++ c :: Lib.join (y :: r) [c] := by
  rw [Lib.join_cons, Lib.join_cons]
  simp [Lib.joinTail]
theorem split_join (c : UInt8) : ∀ (ps : List (List UInt8)), ps ≠ [] → (∀ p ∈ ps, ∀ d ∈ p, d ≠ c) → Oct.split c (Lib.join ps [c]) = ps
  | [], h, _ => absurd rfl h
  | [x], _, h => by rw [Lib.join_one]; exact Oct.split_none c x (h x (by simp))
  | x :: y :: r, _, h => by
    rw [join_step, Oct.split_cons c _ x (h x (by simp)), split_join c (y :: r) (by simp) (fun p hp => h p (by simp [List.mem_cons.1 hp]))]
/-- A colon is followed by something that is none. -/
def Tidy (l : List UInt8) : Prop := ∀ j : Nat, l[j]? = some 58 → ∃ d, l[j + 1]? = some d ∧ d ≠ 58
theorem tidy_join : ∀ (ps : List (List UInt8)), (∀ p ∈ ps, p ≠ [] ∧ ∀ d ∈ p, d ≠ 58) → Tidy (Lib.join ps [58])
  | [], _ => fun j h => by simp [Lib.join_nil] at h
  | [x], h => fun j hj => by
    rw [Lib.join_one] at hj
    exact absurd rfl ((h x (by simp)).2 58 (List.mem_of_getElem? hj))
  | x :: y :: r, h => fun j hj => by
    have ih := tidy_join (y :: r) (fun p hp => h p (by simp [List.mem_cons.1 hp]))
    rw [join_step] at hj ⊢
    rcases Nat.lt_trichotomy j x.length with hlt | heq | hgt
    · rw [List.getElem?_append_left hlt] at hj
      exact absurd rfl ((h x (by simp)).2 58 (List.mem_of_getElem? hj))
    · subst heq
      obtain ⟨hy, hyc⟩ := h y (by simp)
      obtain ⟨d, y', rfl⟩ : ∃ d y', y = d :: y' := by
        cases y with
        | nil => exact absurd rfl hy
        | cons d y' => exact ⟨d, y', rfl⟩
      refine ⟨d, ?_, hyc d (by simp)⟩
      rw [List.getElem?_append_right (by omega), Lib.join_cons]
      simp
    · rw [List.getElem?_append_right (by omega)] at hj ⊢
      have e : j - x.length = (j - x.length - 1) + 1 := by omega
      rw [e, List.getElem?_cons_succ] at hj
      obtain ⟨d, h1, h2⟩ := ih _ hj
      refine ⟨d, ?_, h2⟩
      have e2 : j + 1 - x.length = (j - x.length - 1) + 1 + 1 := by omega
      rw [e2, List.getElem?_cons_succ]
      exact h1
/-! ### Where two colons stand -/
theorem occ_iff (s : List UInt8) (j : Nat) : Lib.occAt s [58, 58] j = true ↔ s[j]? = some 58 ∧ s[j + 1]? = some 58 := by
  unfold Lib.occAt
  rw [List.isPrefixOf_iff_prefix]
  constructor
  · rintro ⟨t, ht⟩
    have h0 := congrArg (fun l => l[0]?) ht
    have h1 := congrArg (fun l => l[1]?) ht
    simp only [List.getElem?_drop, Nat.add_zero] at h0 h1
    exact ⟨h0.symm, h1.symm⟩
  · rintro ⟨h0, h1⟩
    obtain ⟨l0, e0⟩ := List.getElem?_eq_some_iff.1 h0
    obtain ⟨l1, e1⟩ := List.getElem?_eq_some_iff.1 h1
    refine ⟨s.drop (j + 2), ?_⟩
    rw [List.drop_eq_getElem_cons l0, List.drop_eq_getElem_cons l1, e0, e1]
    rfl
theorem occ_false {s : List UInt8} {j : Nat} (h : ¬ (s[j]? = some 58 ∧ s[j + 1]? = some 58)) : Lib.occAt s [58, 58] j = false := by
  cases hb : Lib.occAt s [58, 58] j with
  | false => rfl
  | true => exact absurd ((occ_iff s j).1 hb) h
theorem cut_none {s : List UInt8} (h : ∀ j : Nat, ¬ (s[j]? = some 58 ∧ s[j + 1]? = some 58)) : Lib.cut s [58, 58] = (s, [], false) := by
  unfold Lib.cut
  rw [Lib.index_none (fun j _ => occ_false (h j))]
  rfl
theorem cut_at {b h : List UInt8} (hb : ∀ j : Nat, j < b.length → ¬ ((b ++ 58 :: 58 :: h)[j]? = some 58 ∧ (b ++ 58 :: 58 :: h)[j + 1]? = some 58)) : Lib.cut (b ++ 58 :: 58 :: h) [58, 58] = (b, h, true) := by
  unfold Lib.cut
  rw [Lib.index_first (i := b.length) (by simp) ((occ_iff _ _).2 ⟨by simp, by rw [List.getElem?_append_right (by omega)]; simp⟩) (fun j hj => occ_false (hb j hj))]
  rw [if_pos (by omega)]
  simp
/-! ### Hexadecimal digits -/
theorem hexN_dig (k : Nat) (h : k < 16) : hexN (dig k) = k := by
  unfold hexN
  rw [dig_toNat k h]
  split <;> (split <;> (try split) <;> (try split) <;> omega)
theorem hexB_dig (k : Nat) (h : k < 16) : hexB (dig k) = true := by
  unfold hexB
  rw [dig_toNat k h, decide_eq_true_eq]
  split <;> omega
theorem hexT_digs (n : Nat) (hn : n < 65536) : ∀ c ∈ hexT n, ∃ k, k < 16 ∧ c = dig k := by
  intro c hc
  unfold hexT at hc
  split at hc
  · simp at hc; exact ⟨n, by omega, hc⟩
  · split at hc
    · simp at hc
      rcases hc with rfl | rfl
      · exact ⟨_, by omega, rfl⟩
      · exact ⟨_, by omega, rfl⟩
    · split at hc
      · simp at hc
        rcases hc with rfl | rfl | rfl <;> exact ⟨_, by omega, rfl⟩
      · simp at hc
        rcases hc with rfl | rfl | rfl | rfl <;> exact ⟨_, by omega, rfl⟩
theorem grpN_hexT (n : Nat) (hn : n < 65536) : grpN (hexT n) = n := by
  unfold hexT grpN
  split
  · simp only [List.foldl]; rw [hexN_dig _ (by omega)]; omega
  · split
    · simp only [List.foldl]; rw [hexN_dig _ (by omega), hexN_dig _ (by omega)]; omega
    · split
      · simp only [List.foldl]; rw [hexN_dig _ (by omega), hexN_dig _ (by omega), hexN_dig _ (by omega)]; omega
      · simp only [List.foldl]; rw [hexN_dig _ (by omega), hexN_dig _ (by omega), hexN_dig _ (by omega), hexN_dig _ (by omega)]; omega
theorem isGrp_hexT (n : Nat) (hn : n < 65536) : isGrp (hexT n) = true := by
  unfold isGrp
  rw [decide_eq_true (hexT_length n), Bool.true_and, List.all_eq_true]
  intro c hc
  obtain ⟨k, hk, rfl⟩ := hexT_digs n hn c hc
  exact hexB_dig k hk
theorem grp_hexT (x : UInt16) : grp (hexT x.toNat) = x := by
  refine eq_of_toNat16 ?_
  rw [grp_toNat (hexT_length _).2, grpN_hexT _ (u16_lt x)]
theorem dig_colon (k : Nat) (h : k < 16) : dig k ≠ 58 := by
  intro e
  have := dig_toNat k h
  rw [e] at this
  have h58 : (58 : UInt8).toNat = 58 := rfl
  rw [h58] at this
  split at this <;> omega
theorem hexes_free (g : List UInt16) : ∀ p ∈ g.map fun x => hexT x.toNat, p ≠ [] ∧ ∀ d ∈ p, d ≠ 58 := by
  intro p hp
  obtain ⟨x, _, rfl⟩ := List.mem_map.1 hp
  refine ⟨fun e => by have := (hexT_length x.toNat).1; rw [e] at this; simp at this, fun d hd => ?_⟩
  obtain ⟨k, hk, rfl⟩ := hexT_digs _ (u16_lt x) d hd
  exact dig_colon k hk
theorem rowT_tidy (g : List UInt16) : Tidy (rowT g) := tidy_join _ (hexes_free g)
theorem rowT_nil {g : List UInt16} : rowT g = [] ↔ g = [] := by
  constructor
  · intro h
    cases g with
    | nil => rfl
    | cons x r =>
      unfold rowT at h
      rw [List.map_cons, Lib.join_cons] at h
      have := (hexT_length x.toNat).1
      have h2 := congrArg List.length h
      rw [List.length_append, List.length_nil] at h2
      omega
  · rintro rfl; rfl
theorem row_rowT (g : List UInt16) : isRow (rowT g) = true ∧ row (rowT g) = g := by
  by_cases h0 : g = []
  · subst h0; exact ⟨rfl, rfl⟩
  · have hne : rowT g ≠ [] := fun e => h0 (rowT_nil.1 e)
    have hs : Oct.split 58 (rowT g) = g.map fun x => hexT x.toNat := split_join 58 _ (by simpa using h0) (fun p hp => (hexes_free g p hp).2)
    unfold isRow row
    rw [hs, if_neg hne]
    refine ⟨?_, ?_⟩
    · rw [Bool.or_eq_true]
      right
      rw [List.all_eq_true]
      intro p hp
      obtain ⟨x, _, rfl⟩ := List.mem_map.1 hp
      exact isGrp_hexT _ (u16_lt x)
    · rw [List.map_map]
      have : (grp ∘ fun x : UInt16 => hexT x.toNat) = id := by funext x; exact grp_hexT x
      rw [this, List.map_id]
/-! ### Eight groups come back -/
theorem v6_tx6 {g : List UInt16} (hg : g.length = 8) : v6 (tx6 g) = some g := by
  obtain ⟨h1, h2, h3, hz⟩ := nought_facts hg
  unfold tx6
  split
  · have hc : Lib.cut (rowT g) [58, 58] = (rowT g, [], false) := cut_none fun j ⟨a, b⟩ => by
      obtain ⟨d, hd, hne⟩ := rowT_tidy g j a
      rw [hd] at b
      exact hne (Option.some.inj b)
    have hr := row_rowT g
    unfold v6
    rw [hc]
    simp only
    rw [hr.1, hr.2]
    have e1 : isRow [] = true := rfl
    have e2 : row [] = [] := rfl
    rw [e1, e2, if_pos ⟨rfl, rfl, by rw [hg]; rfl⟩, hg]
    simp
  · rename_i hne
    have h4 : nf g + 2 ≤ nt g := by omega
    have hc : Lib.cut (rowT (g.take (nf g)) ++ 58 :: 58 :: rowT (g.drop (nt g))) [58, 58] = (rowT (g.take (nf g)), rowT (g.drop (nt g)), true) := cut_at fun j hj ⟨a, b⟩ => by
      rw [List.getElem?_append_left hj] at a
      obtain ⟨d, hd, hnd⟩ := rowT_tidy _ j a
      have hj1 := (List.getElem?_eq_some_iff.1 hd).1
      rw [List.getElem?_append_left hj1, hd] at b
      exact hnd (Option.some.inj b)
    have hf := row_rowT (g.take (nf g))
    have hb := row_rowT (g.drop (nt g))
    unfold v6
    rw [hc]
    simp only
    rw [hf.1, hf.2, hb.1, hb.2]
    have hl : (g.take (nf g)).length + (g.drop (nt g)).length = nf g + (8 - nt g) := by rw [List.length_take, List.length_drop, hg]; omega
    rw [hl, if_pos ⟨rfl, rfl, by unfold fits; rw [if_pos rfl]; exact decide_eq_true (by omega)⟩]
    congr 1
    have hm : (g.drop (nf g)).take (nt g - nf g) = List.replicate (8 - (nf g + (8 - nt g))) 0 := by
      apply List.ext_getElem?
      intro i
      by_cases hi : i < nt g - nf g
      · rw [List.getElem?_take_of_lt hi, List.getElem?_drop, hz _ (by omega) (by omega), List.getElem?_replicate, if_pos (by omega)]
      · rw [List.getElem?_eq_none (by simp; omega), List.getElem?_eq_none (by simp; omega)]
    rw [← hm]
    have hd : g.drop (nt g) = (g.drop (nf g)).drop (nt g - nf g) := by rw [List.drop_drop]; congr 1; omega
    rw [hd, List.append_assoc, List.take_append_drop, List.take_append_drop]
/-! ### Four numbers come back -/
def decE (n : Nat) : List UInt8 :=
  if n < 10 then [UInt8.ofNat (48 + n)] else if n < 100 then [UInt8.ofNat (48 + n / 10), UInt8.ofNat (48 + n % 10)] else [UInt8.ofNat (48 + n / 100), UInt8.ofNat (48 + n / 10 % 10), UInt8.ofNat (48 + n % 10)]
theorem decE_eq (n : Nat) (h : n < 256) : Lib.decDigits n = decE n := by
  unfold decE
  split
  · rename_i h1; unfold Lib.decDigits; rw [dif_pos h1]
  · rename_i h1
    split
    · rename_i h2
      unfold Lib.decDigits; rw [dif_neg h1]; unfold Lib.decDigits; rw [dif_pos (by omega)]; rfl
    · rename_i h2
      unfold Lib.decDigits; rw [dif_neg h1]; unfold Lib.decDigits; rw [dif_neg (by omega)]; unfold Lib.decDigits; rw [dif_pos (by omega), Nat.div_div_eq_div_mul]; rfl
theorem decE_facts : ∀ n, n < 256 → okNum (decE n) = true ∧ Oct.number (decE n) = n ∧ (decE n).all (fun c => decide (c ≠ 46)) = true := by decide +kernel
theorem v4_tx4 {l : List UInt8} (hl : l.length = 4) : v4 (tx4 l) = some l := by
  have hm : (l.map fun c => Lib.decDigits c.toNat) = l.map fun c => decE c.toNat := List.map_congr_left fun c _ => decE_eq _ c.toNat_lt
  have hs : Oct.split 46 (tx4 l) = l.map fun c => decE c.toNat := by
    unfold tx4
    rw [hm]
    refine split_join 46 _ (by intro e; have := congrArg List.length e; simp [hl] at this) ?_
    intro p hp d hd
    obtain ⟨c, _, rfl⟩ := List.mem_map.1 hp
    have := List.all_eq_true.1 (decE_facts c.toNat c.toNat_lt).2.2 d hd
    exact of_decide_eq_true this
  unfold v4
  rw [hs, if_pos ⟨by rw [List.length_map, hl], by
    rw [List.all_eq_true]
    intro p hp
    obtain ⟨c, _, rfl⟩ := List.mem_map.1 hp
    exact (decE_facts c.toNat c.toNat_lt).1⟩, List.map_map]
  congr 1
  have : ((fun p => UInt8.ofNat (Oct.number p)) ∘ fun c : UInt8 => decE c.toNat) = id := by
    funext c
    show UInt8.ofNat (Oct.number (decE c.toNat)) = c
    rw [(decE_facts c.toNat c.toNat_lt).2.1]
    refine Oct.eq_of_toNat ?_
    rw [UInt8.toNat_ofNat']
    have := c.toNat_lt
    omega
  rw [this, List.map_id]
end Adr
end Go.Proofs.Ytcookddgaomkiaa
