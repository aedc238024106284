/- The walk of the law AddrApart. -/
import Derived.Test.YtablcpebepcgeaaDoorAddrAlive
import Derived.Test.YtablcpebepcgeaaDoorArrayEq
import Derived.Test.YtablcpebepcgeaaDoorAdrBackPlain
import Derived.Deep.RegionHeld
namespace Go.Proofs.YtablcpebepcgeaaDoor
open Go.RowKit
namespace Adr
theorem mem_join (c : UInt8) : ∀ (ps : List (List UInt8)) (d : UInt8), d ∈ Lib.join ps [c] → d = c ∨ ∃ p ∈ ps, d ∈ p
  | [], d, h => by simp [Lib.join_nil] at h
  | [x], d, h => by rw [Lib.join_one] at h; exact .inr ⟨x, by simp, h⟩
  | x :: y :: r, d, h => by
    rw [join_step] at h
    rcases List.mem_append.1 h with h | h
    · exact .inr ⟨x, by simp, h⟩
    · rcases List.mem_cons.1 h with h | h
      · exact .inl h
      · rcases mem_join c (y :: r) d h with h | ⟨p, hp, hd⟩
        · exact .inl h
        · exact .inr ⟨p, by simp [List.mem_cons.1 hp], hd⟩
theorem rowT_bytes (g : List UInt16) : ∀ d ∈ rowT g, d = 58 ∨ ∃ k, k < 16 ∧ d = dig k := by
  intro d hd
  rcases mem_join 58 _ d hd with h | ⟨p, hp, hdp⟩
  · exact .inl h
  · obtain ⟨x, _, rfl⟩ := List.mem_map.1 hp
    exact .inr (hexT_digs _ (u16_lt x) d hdp)
theorem tx6_bytes (g : List UInt16) : ∀ d ∈ tx6 g, d = 58 ∨ ∃ k, k < 16 ∧ d = dig k := by
  intro d hd
  unfold tx6 at hd
  split at hd
  · exact rowT_bytes g d hd
  · rcases List.mem_append.1 hd with h | h
    · exact rowT_bytes _ d h
    · rcases List.mem_cons.1 h with h | h
      · exact .inl h
      · rcases List.mem_cons.1 h with h | h
        · exact .inl h
        · exact rowT_bytes _ d h
theorem tx6_small (g : List UInt16) : ∀ d ∈ tx6 g, d.toNat < 65 ∨ 90 < d.toNat := by
  intro d hd
  rcases tx6_bytes g d hd with rfl | ⟨k, hk, rfl⟩
  · left; decide
  · rw [dig_toNat k hk]
    split <;> omega
theorem join_more (sep : List UInt8) (hs : sep.length = 1) (m : Nat) (r : List (List UInt8)) (h : ∀ p ∈ r, p.length ≤ m) (h0 : r ≠ []) : (Lib.join r sep).length + 1 ≤ (m + 1) * r.length := by
  cases r with
  | nil => exact absurd rfl h0
  | cons p r =>
    rw [Lib.join_cons, List.length_append, List.length_cons]
    have h1 := joinTail_length sep hs m r (fun q hq => h q (by simp [hq]))
    have h2 := h p (by simp)
    rw [Nat.mul_add]
    omega
theorem join_less : ∀ (ps : List (List UInt8)), (∀ p ∈ ps, p ≠ []) → 2 * ps.length ≤ (Lib.join ps [58]).length + 1
  | [], _ => by simp
  | [x], h => by
    have := List.length_pos_iff.2 (h x (by simp))
    rw [Lib.join_one]; simp; omega
  | x :: y :: r, h => by
    have ih := join_less (y :: r) (fun p hp => h p (by simp [List.mem_cons.1 hp]))
    have := List.length_pos_iff.2 (h x (by simp))
    rw [join_step, List.length_append, List.length_cons]
    simp only [List.length_cons] at ih ⊢
    omega
theorem tx6_length {g : List UInt16} (hg : g.length = 8) : 2 ≤ (tx6 g).length ∧ (tx6 g).length ≤ 39 := by
  obtain ⟨h1, h2, h3, _⟩ := nought_facts hg
  unfold tx6
  split
  · have a := join_more [58] rfl 4 _ (hexes_small g) (by intro e; have := congrArg List.length e; simp [hg] at this)
    have b := join_less _ (fun p hp => (hexes_free g p hp).1)
    rw [List.length_map, hg] at a b
    unfold rowT
    omega
  · have a := rowT_length (g.take (nf g))
    have b := rowT_length (g.drop (nt g))
    rw [List.length_take, hg] at a
    rw [List.length_drop, hg] at b
    rw [List.length_append, List.length_cons, List.length_cons]
    omega
theorem tx6_inj {a b : List UInt8} (ha : a.length = 16) (hb : b.length = 16) : tx6 (groups a) = tx6 (groups b) ↔ a = b := by
  constructor
  · intro h
    have e := v6_tx6 (groups_length 8 a ha)
    rw [h, v6_tx6 (groups_length 8 b hb)] at e
    exact (groups_inj (n := 8) hb ha (Option.some.inj e)).symm
  · rintro rfl; rfl
end Adr
/-- Two addresses lie in their blocks. -/
structure KeptA (n0 n1 : Nat) (a b : List UInt8) (w w' : World) : Prop where
  row0 : Row w' n0 24 (bytesA a)
  row1 : Row w' n1 24 (bytesA b)
  std : Std w'
  below : Below w.heap.size w w'
theorem KeptA.drew {n0 n1 : Nat} {a b : List UInt8} {w w' : World} (h : KeptA n0 n1 a b w w') : KeptA n0 n1 a b w w'.drew := ⟨h.row0.drew, h.row1.drew, h.std.below (Below.refl _ _).drew, h.below.drew⟩
theorem KeptA.on {n0 n1 : Nat} {a b : List UInt8} {w w' w'' : World} (h : KeptA n0 n1 a b w w') (hb : Below w'.heap.size w' w'') : KeptA n0 n1 a b w w'' :=
  ⟨h.row0.stays hb, h.row1.stays hb, h.std.below hb, h.below.trans (hb.mono h.below.size)⟩

set_option maxRecDepth 100000 in
set_option maxHeartbeats 4000000 in
theorem apart_walk (a b : List UInt8) (w : World) (ha : a.length = 16) (hb : b.length = 16) (hw : Std w) :
    Calls Tryd.prog 7 #[.agg (bytesA a), .agg (bytesA b)] w fun e w' => e = .returned (.bool true) ∧ Below w.heap.size w w' := by
  have HA := Lib.hid alive_calls
  have HTA := Lib.hid (fun W h => text6_calls a ha W h)
  have HTB := Lib.hid (fun W h => text6_calls b hb W h)
  have hln := Adr.tx6_length (Adr.groups_length 8 a ha)
  have hsm := Adr.tx6_small (Adr.groups a)
  obtain ⟨X, hX⟩ : ∃ X : ByteArray, X = ⟨(Adr.tx6 (Adr.groups a)).toArray⟩ := ⟨_, rfl⟩
  obtain ⟨Y, hY⟩ : ∃ Y : ByteArray, Y = ⟨(Adr.tx6 (Adr.groups b)).toArray⟩ := ⟨_, rfl⟩
  have hXl : X.data.toList = Adr.tx6 (Adr.groups a) := by rw [hX]
  have hYl : Y.data.toList = Adr.tx6 (Adr.groups b) := by rw [hY]
  have hxy : (X.toList == Y.toList) = decide (a = b) := by
    rw [Oct.bytes_data, Oct.bytes_data, hXl, hYl, Bool.eq_iff_iff, beq_iff_eq, decide_eq_true_iff]
    exact Adr.tx6_inj ha hb
  rw [← hX] at HTA
  rw [← hY] at HTB
  rw [← hXl, Oct.length_bytes] at hln
  rw [← hXl] at hsm
  obtain ⟨hl1, hl2⟩ := hln
  have HSM := Lib.hid hsm
  have q1 : ∀ W, (Op.equalIn 10000 24 (.agg (bytesA a)) (.agg (bytesA b))).run Tryd.prog W = .ok (decide (a = b)) W := fun W => eq_addr a b ha hb W
  have HZA := Lib.hid (show (bytesA a).size = 16 by rw [bytesA_size, ha])
  have HZB := Lib.hid (show (bytesA b).size = 16 by rw [bytesA_size, hb])
  have i1 : (Tryd.prog.info? 24).map (·.size) = some (bytesA a).size := by rw [HZA.out]; exact infoAddr
  have i2 : (Tryd.prog.info? 24).map (·.size) = some (bytesA b).size := by rw [HZB.out]; exact infoAddr
  have I1 := Lib.hid i1
  have I2 := Lib.hid i2
  generalize decide (a = b) = same at *
  clear hX hY hXl hYl hsm i1 i2 ha hb
  have K0 : KeptA w.heap.size (w.heap.size + 1) a b w ((w.alloc (.cells (bytesA a) 24)).alloc (.cells (bytesA b) 24)) := by
    have r1 := Row.new (w.alloc (.cells (bytesA a) 24)) 24 (bytesA b)
    have e : (w.alloc (.cells (bytesA a) 24)).heap.size = w.heap.size + 1 := by simp
    rw [e] at r1
    have bl := ((Below.refl w.heap.size w).alloc (Nat.le_refl _) (.cells (bytesA a) 24)).alloc (by simp) (.cells (bytesA b) 24)
    exact ⟨(Row.new w 24 (bytesA a)).alloc _, r1, hw.below bl, bl⟩
  go_enter Tryd.func7, Tryd.ntmps7
  go_wp2_with fail
  generalize (w.alloc (.cells (bytesA a) 24)).alloc (.cells (bytesA b) 24) = w0 at *
  refine (HA.out _ K0.std).mono ?_
  rintro e w1 ⟨rfl, b1⟩
  have K1 := (K0.on b1).drew
  clear K0 b1
  go_wp2
  refine wp_region_held_drew (S := KeptA w.heap.size (w.heap.size + 1) a b w) (by kernel_rfl) K1 (fun _ => ?_)
  clear K1
  refine wpAnyH_take (i := 0) rfl (by kernel_rfl) (by kernel_rfl) (by kernel_rfl) (fun _ _ _ h => h) (yields_row (by rfl) _ _ rfl _ rfl (fun _ h => h.row0) Tryd.underlying24 rfl I1.out) (by assumption) ?_
  simp only [Act.put, List.setIfInBounds_toArray, List.set_cons_zero, List.set_cons_succ, List.getElem_toArray, List.getElem_cons_zero]
  refine wpAnyH_take (i := 2) rfl (by kernel_rfl) (by kernel_rfl) (by kernel_rfl) (fun _ _ _ h => h) (yields_row (by rfl) _ _ rfl _ rfl (fun _ h => h.row1) Tryd.underlying24 rfl I2.out) (by assumption) ?_
  simp only [Act.put, List.setIfInBounds_toArray, List.set_cons_zero, List.set_cons_succ, List.getElem_toArray, List.getElem_cons_zero, List.getElem_cons_succ]
  refine wpAnyH_ready (rs := [1]) (by kernel_rfl) (by simp) (AllReadyH.cons rfl (fun K hK => ?_) AllReadyH.nil)
  rw [if_pos (by rfl)]
  go_simp
  refine (HTA.out _ (KeptA.std (n0 := w.heap.size) (n1 := w.heap.size + 1) (a := a) (b := b) (w := w) (by assumption))).mono ?_
  rintro e w4 ⟨rfl, b4⟩
  have S4 : KeptA w.heap.size (w.heap.size + 1) a b w w4 := KeptA.on (by assumption) b4
  go_wp2_with fail
  refine hK.out _ _ S4 (fun _ => ?_)
  clear hK K
  refine wpAnyH_ready (rs := [3]) (by kernel_rfl) (by simp) (AllReadyH.cons rfl (fun K hK => ?_) AllReadyH.nil)
  rw [if_pos (by rfl)]
  go_simp
  refine (HTB.out _ (KeptA.std (n0 := w.heap.size) (n1 := w.heap.size + 1) (a := a) (b := b) (w := w) (by assumption))).mono ?_
  rintro e w4 ⟨rfl, b4⟩
  have S4 : KeptA w.heap.size (w.heap.size + 1) a b w w4 := KeptA.on (by assumption) b4
  go_wp2_with fail
  refine hK.out _ _ S4 (fun _ => ?_)
  clear hK K
  refine wpAnyH_take (i := 4) (v := ?_) rfl (by kernel_rfl) (by kernel_rfl) (by kernel_rfl) (fun _ _ _ h => h) (Or.inl ⟨by rfl, ?_⟩) (by assumption) ?_
  rotate_left
  · intro _ _; go_simp; with_reducible rfl
  simp only [Act.put, List.setIfInBounds_toArray, List.set_cons_zero, List.set_cons_succ, List.getElem_toArray, List.getElem_cons_zero, List.getElem_cons_succ]
  refine wpAnyH_take (i := 5) (v := ?_) rfl (by kernel_rfl) (by kernel_rfl) (by kernel_rfl) (fun _ _ _ h => h) (Or.inl ⟨by rfl, ?_⟩) (by assumption) ?_
  rotate_left
  · intro _ _; go_simp; with_reducible rfl
  simp only [Act.put, List.setIfInBounds_toArray, List.set_cons_zero, List.set_cons_succ, List.getElem_toArray, List.getElem_cons_zero, List.getElem_cons_succ]
  refine wpAnyH_done (by kernel_rfl) ?_ _
  clear b4
  go_wp2
  clear HA HTA HTB HZA HZB
  go_loop [7] (fun i => ∃ k : Nat, k ≤ X.size ∧ i = .int .i64 k) (fun i => X.size - (intOf i).toNat)
  case atStart => exact ⟨0, Nat.zero_le _, rfl⟩
  case round =>
    obtain ⟨k, hk, rfl⟩ := hrel
    by_cases hlt : k < X.size
    · rcases HSM.out X[k] (by rw [← Oct.getElem_bytes X k hlt]; exact List.getElem_mem _) with h | h
      · have g1 : ¬ (65 : Int) ≤ (X[k].toNat : Int) := by omega
        clear h HSM
        go_wp2
        go_round
        case rel => exact ⟨k + 1, by omega, by go_num⟩
        case measure => simp [intOf]; omega
      · have g1 : (65 : Int) ≤ (X[k].toNat : Int) := by omega
        have g2 : ¬ (X[k].toNat : Int) ≤ 90 := by omega
        clear h HSM
        go_wp2
        go_round
        case rel => exact ⟨k + 1, by omega, by go_num⟩
        case measure => simp [intOf]; omega
    · clear HSM
      cases same
      all_goals
        go_wp2_with (first
          | (refine at_slot 33 rfl ?_; refine load_row rfl 24 _ rfl w.heap.size rfl S4.row0 Tryd.underlying24 rfl I1.out ?_)
          | (refine at_slot 34 rfl ?_; refine load_row rfl 24 _ rfl (w.heap.size + 1) rfl S4.row1 Tryd.underlying24 rfl I2.out ?_))
        go_ret
        exact ⟨ret_bool (by simp; omega), S4.below⟩
end Go.Proofs.YtablcpebepcgeaaDoor
