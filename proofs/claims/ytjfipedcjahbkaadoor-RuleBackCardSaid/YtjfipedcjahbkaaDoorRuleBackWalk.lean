/- The walk of the law RuleBack. -/
import Derived.Test.YtjfipedcjahbkaaDoorRuleAlive
namespace Go.Proofs.YtjfipedcjahbkaaDoor
open Go.RowKit
theorem about_bytes (x : ByteArray) : (⟨#[9, 32]⟩ ++ x ++ ⟨#[32, 120]⟩ : ByteArray).data.toList = 9 :: 32 :: (x.data.toList ++ [32, 120]) := by simp
set_option maxRecDepth 100000 in
set_option maxHeartbeats 8000000 in
theorem rback_walk (s : ByteArray) (w : World) (_hs : s.size ≤ maxLen) (hw : Std w) :
    Calls Tryd.prog 4 #[.string s] w fun e w' => e = .returned (.bool true) ∧ Below w.heap.size w w' := by
  have HA := Lib.hid rule_alive
  have z0 := zeroRule
  by_cases hlen : s.size ≤ 1000
  · have hlen1 : ¬ (1000 : Int) < (s.size : Int) := by omega
    have H1 := fun W hW => line_calls s W hW (by omega)
    unfold NewRule at H1
    rcases Ru.line_cases s.data.toList with ⟨r, h1, h2⟩ | h1
    · rw [h1] at H1
      dsimp only at H1
      have hcan := Ru.rule_can h2
      have hnl : r.name.length ≤ 253 := hcan.good.few
      have HT := Lib.hid (fun W => ruleText_calls r W (by omega))
      obtain ⟨x, hx⟩ : ∃ x : ByteArray, x = ⟨(Ru.text r).toArray⟩ := ⟨_, rfl⟩
      have hxd : x.data.toList = Ru.text r := by rw [hx]
      have hxs : x.size ≤ 255 := by
        rw [← Oct.length_bytes x, hxd]
        unfold Ru.text
        split
        · simp; omega
        · split
          · simp; omega
          · omega
      unfold NewText at HT
      rw [← hx] at HT
      have H2 := fun W hW => lineR_is x hxd (Ru.line_text hcan) (by omega) W hW
      have hys : (⟨#[9, 32]⟩ ++ x ++ ⟨#[32, 120]⟩ : ByteArray).size ≤ 1000 := by
        rw [← Oct.length_bytes, about_bytes]
        simp
        omega
      have H3 := fun W hW => lineR_is (⟨#[9, 32]⟩ ++ x ++ ⟨#[32, 120]⟩) (by rw [about_bytes, hxd]) (Ru.line_about hcan) (by omega) W hW
      dsimp only at H2 H3
      have H1 := Lib.hid H1
      have H2 := Lib.hid H2
      have H3 := Lib.hid H3
      have q1 := eql_rule r r
      rw [decide_eq_true rfl] at q1
      have HX := Lib.hid (ruleA_size r)
      have HX1 := Lib.hid (ruleA_one r)
      have hn1 : ¬ 9223372036854775807 < (⟨#[9, 32]⟩ : ByteArray).size + x.size := by show ¬ 9223372036854775807 < 2 + x.size; omega
      have hn2 : ¬ 9223372036854775807 < (⟨#[9, 32]⟩ ++ x : ByteArray).size + (⟨#[32, 120]⟩ : ByteArray).size := by rw [ByteArray.size_append]; show ¬ 9223372036854775807 < 2 + x.size + 2; omega
      have hn3 : ¬ 9223372036854775807 < (⟨#[9, 32]⟩ : ByteArray).size + x.size + (⟨#[32, 120]⟩ : ByteArray).size := by show ¬ 9223372036854775807 < 2 + x.size + 2; omega
      clear h1 h2 hcan hx hxd hnl hys
      generalize ruleA r = X at *
      go_enter Tryd.func4, Tryd.ntmps4
      go_wp2_with fail
      refine (HA.out _ hw).mono ?_
      rintro e v0 ⟨rfl, d0⟩
      go_wp2_with fail
      refine (H1.out _ (hw.below d0)).mono ?_
      rintro e v1 ⟨rfl, d1⟩
      have B1 := d0.trans (d1.mono d0.size)
      obtain ⟨T1, U1, C1, _⟩ := lay_row 31 (ruleA Ru.zero) X B1 B1.size
      clear B1 d1 d0
      go_wp2_with (first
        | (refine wpList_store_row rfl 31 _ _ rfl v1.heap.size X rfl rfl 31 _ T1 (by rw [HX.out]; exact infoRule) (by rw [HX.out]; rfl) HX1.out ?_)
        | (refine at_slot 37 rfl ?_; refine load_row rfl 31 _ rfl v1.heap.size rfl U1 Tryd.underlying31 rfl (by rw [HX.out]; exact infoRule) ?_))
      generalize (v1.alloc (.cells (ruleA Ru.zero) 31)).setRow v1.heap.size X = x1 at *
      generalize v1.heap.size = g1 at *
      clear T1
      refine (HT.out _).mono ?_
      rintro e v2 ⟨rfl, d2⟩
      have C2 := C1.trans (d2.mono C1.size)
      have U2 := U1.stays d2
      clear C1 U1 d2
      go_wp2_with fail
      refine (H2.out _ (hw.below C2)).mono ?_
      rintro e v3 ⟨rfl, d3⟩
      have B3 := C2.trans (d3.mono C2.size)
      have U3 := U2.stays d3
      obtain ⟨T4, V4, C4, L4⟩ := lay_row 31 (ruleA Ru.zero) X B3 B3.size
      have U4 := L4 _ _ _ U3
      clear C2 U2 d3 U3 B3 L4
      go_wp2_with (first
        | (refine wpList_store_row rfl 31 _ _ rfl v3.heap.size X rfl rfl 31 _ T4 (by rw [HX.out]; exact infoRule) (by rw [HX.out]; rfl) HX1.out ?_)
        | (refine at_slot 44 rfl ?_; refine load_row rfl 31 _ rfl g1 rfl U4 Tryd.underlying31 rfl (by rw [HX.out]; exact infoRule) ?_))
      generalize (v3.alloc (.cells (ruleA Ru.zero) 31)).setRow v3.heap.size X = x3 at *
      generalize v3.heap.size = g3 at *
      clear T4
      refine (HT.out _).mono ?_
      rintro e v5 ⟨rfl, d5⟩
      have C5 := C4.trans (d5.mono C4.size)
      have U5 := U4.stays d5
      have V5 := V4.stays d5
      clear C4 U4 V4 d5
      go_wp2_with fail
      refine (H3.out _ (hw.below C5)).mono ?_
      rintro e v6 ⟨rfl, d6⟩
      have B6 := C5.trans (d6.mono C5.size)
      have U6 := U5.stays d6
      have V6 := V5.stays d6
      obtain ⟨T7, W7, C7, L7⟩ := lay_row 31 (ruleA Ru.zero) X B6 B6.size
      have U7 := L7 _ _ _ U6
      have V7 := L7 _ _ _ V6
      clear C5 U5 V5 d6 U6 V6 B6 L7
      go_wp2_with (first
        | (refine wpList_store_row rfl 31 _ _ rfl v6.heap.size X rfl rfl 31 _ T7 (by rw [HX.out]; exact infoRule) (by rw [HX.out]; rfl) HX1.out ?_)
        | (refine at_slot 65 rfl ?_; refine load_row rfl 31 _ rfl g3 rfl V7 Tryd.underlying31 rfl (by rw [HX.out]; exact infoRule) ?_)
        | (refine at_slot 66 rfl ?_; refine load_row rfl 31 _ rfl g1 rfl U7 Tryd.underlying31 rfl (by rw [HX.out]; exact infoRule) ?_)
        | (refine at_slot 70 rfl ?_; refine load_row rfl 31 _ rfl v6.heap.size rfl W7 Tryd.underlying31 rfl (by rw [HX.out]; exact infoRule) ?_)
        | (refine at_slot 71 rfl ?_; refine load_row rfl 31 _ rfl g1 rfl U7 Tryd.underlying31 rfl (by rw [HX.out]; exact infoRule) ?_))
      go_ret
      exact ⟨rfl, C7⟩
    · have q1 := eql_rule Ru.zero Ru.zero
      rw [decide_eq_true rfl] at q1
      have HX := Lib.hid (ruleA_size Ru.zero)
      have HX1 := Lib.hid (ruleA_one Ru.zero)
      rcases h1 with h1 | h1
      all_goals
        rw [h1] at H1
        dsimp only at H1
        have H1 := Lib.hid H1
        clear h1
        generalize ruleA Ru.zero = X at *
        go_enter Tryd.func4, Tryd.ntmps4
        go_wp2_with fail
        refine (HA.out _ hw).mono ?_
        rintro e v0 ⟨rfl, d0⟩
        go_wp2_with fail
        refine (H1.out _ (hw.below d0)).mono ?_
        rintro e v1 ⟨rfl, d1⟩
        have B1 := d0.trans (d1.mono d0.size)
        obtain ⟨T1, U1, C1, _⟩ := lay_row 31 X X B1 B1.size
        clear B1 d1 d0
        go_wp2_with (first
          | (refine wpList_store_row rfl 31 _ _ rfl v1.heap.size X rfl rfl 31 _ T1 (by rw [HX.out]; exact infoRule) rfl HX1.out ?_)
          | (refine at_slot 29 rfl ?_; refine load_row rfl 31 _ rfl v1.heap.size rfl U1 Tryd.underlying31 rfl (by rw [HX.out]; exact infoRule) ?_))
        go_ret
        exact ⟨rfl, C1⟩
  · have hlen1 : (1000 : Int) < (s.size : Int) := by omega
    go_enter Tryd.func4, Tryd.ntmps4
    go_wp2_with fail
    refine (HA.out _ hw).mono ?_
    rintro e w1 ⟨rfl, b1⟩
    go_wp2
    go_ret
    exact ⟨rfl, b1⟩
end Go.Proofs.YtjfipedcjahbkaaDoor
