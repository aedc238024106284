/- The walk of the law HeaderKeeps. -/
import Derived.Test.YtpimaobejjpffaaDoorHeaderBackWalk
namespace Go.Proofs.YtpimaobejjpffaaDoor
open Go.RowKit
namespace Hd
/-- The four texts of a header. -/
def texts4 (h : Head) : List (List UInt8) := [h.name, h.value, h.domain, h.path]
theorem texts_fine {h : Head} (hg : Good h) {k : Nat} {x : List UInt8} (hx : (texts4 h)[k]? = some x) : ∀ c ∈ x, fineB c = true := by
  have hk : k < 4 := (List.getElem?_eq_some_iff.1 hx).1
  have : k = 0 ∨ k = 1 ∨ k = 2 ∨ k = 3 := by omega
  rcases this with rfl | rfl | rfl | rfl
  · rw [← Option.some.inj hx]; exact hg.nameB
  · rw [← Option.some.inj hx]; exact hg.valueB
  · rw [← Option.some.inj hx]; exact hg.domB
  · rw [← Option.some.inj hx]; exact hg.pathB
theorem texts_short {h : Head} (hg : Small h) {k : Nat} {x : List UInt8} (hx : (texts4 h)[k]? = some x) : x.length ≤ 4096 := by
  have hk : k < 4 := (List.getElem?_eq_some_iff.1 hx).1
  have : k = 0 ∨ k = 1 ∨ k = 2 ∨ k = 3 := by omega
  rcases this with rfl | rfl | rfl | rfl
  · rw [← Option.some.inj hx]; exact hg.name
  · rw [← Option.some.inj hx]; exact hg.value
  · rw [← Option.some.inj hx]; have := hg.domain; omega
  · rw [← Option.some.inj hx]; have := hg.path; omega
theorem fine_facts {c : UInt8} (h : fineB c = true) : ((c.toNat : Int) == 59) = false ∧ ((¬ (c.toNat : Int) < 32) ∨ ((c.toNat : Int) < 32 ∧ ((c.toNat : Int) != 9) = false)) ∧ ((c.toNat : Int) == 127) = false := by
  obtain ⟨h1, h2⟩ := fineB_eq.1 h
  unfold badB at h1
  have k := of_decide_eq_false h1
  have h59 : c.toNat ≠ 59 := fun e => h2 (Oct.eq_of_toNat e)
  refine ⟨by rw [beq_eq_false_iff_ne]; omega, ?_, by rw [beq_eq_false_iff_ne]; omega⟩
  by_cases h3 : (c.toNat : Int) < 32
  · exact .inr ⟨h3, by rw [bne_eq_false_iff_eq]; omega⟩
  · exact .inl h3
end Hd
theorem index4 (a b c d : Value) (W : World) : (Instr.index 34 (.agg #[a, b, c, d]) (.int .i64 0)).run Tryd.prog W = .ok a W ∧ (Instr.index 34 (.agg #[a, b, c, d]) (.int .i64 1)).run Tryd.prog W = .ok b W ∧ (Instr.index 34 (.agg #[a, b, c, d]) (.int .i64 2)).run Tryd.prog W = .ok c W ∧ (Instr.index 34 (.agg #[a, b, c, d]) (.int .i64 3)).run Tryd.prog W = .ok d W := by
  refine ⟨by kernel_rfl, by kernel_rfl, by kernel_rfl, by kernel_rfl⟩
theorem index_text {h : Hd.Head} {k : Nat} {x : List UInt8} (hx : (Hd.texts4 h)[k]? = some x) (W : World) : (Instr.index 34 (.agg #[.string ⟨h.name.toArray⟩, .string ⟨h.value.toArray⟩, .string ⟨h.domain.toArray⟩, .string ⟨h.path.toArray⟩]) (.int .i64 (k : Int))).run Tryd.prog W = .ok (.string ⟨x.toArray⟩) W := by
  obtain ⟨e0, e1, e2, e3⟩ := index4 (.string ⟨h.name.toArray⟩) (.string ⟨h.value.toArray⟩) (.string ⟨h.domain.toArray⟩) (.string ⟨h.path.toArray⟩) W
  have hk : k < 4 := (List.getElem?_eq_some_iff.1 hx).1
  have : k = 0 ∨ k = 1 ∨ k = 2 ∨ k = 3 := by omega
  rcases this with rfl | rfl | rfl | rfl
  · rw [← Option.some.inj hx]; exact e0
  · rw [← Option.some.inj hx]; exact e1
  · rw [← Option.some.inj hx]; exact e2
  · rw [← Option.some.inj hx]; exact e3
set_option maxRecDepth 100000 in
set_option maxHeartbeats 8000000 in
theorem hkeeps_walk (s : ByteArray) (w : World) (hs : s.size ≤ maxLen) (hw : Hal w) :
    Calls Tryd.prog 6 #[.string s] w fun e w' => e = .returned (.bool true) ∧ Below w.heap.size w w' := by
  have z0 := zeroHead
  have HZ : Hid (∀ h : Hd.Head, (headA h).size = 11) := Lib.hid (fun h => rfl)
  have HA := Lib.hid (fun W hW => header_alive W hW)
  by_cases hbig : 6000 < s.size
  · have hbig1 : (6000 : Int) < (s.size : Int) := by omega
    clear hs
    go_enter Tryd.func6, Tryd.ntmps6
    go_wp2_with fail
    refine (HA.out _ hw).mono ?_
    rintro e w1 ⟨rfl, b1⟩
    go_wp2
    go_ret
    exact ⟨rfl, b1⟩
  have hbig1 : ¬ (6000 : Int) < (s.size : Int) := by omega
  obtain ⟨⟨n, h⟩, hp⟩ : ∃ o, Hd.parse s.data.toList = o := ⟨_, rfl⟩
  have H1 := Lib.hid (fun W hW => parse_calls_is s hp W hW hs)
  by_cases hn : n = 0
  · subst hn
    have hg := Hd.parse_good hp
    have hsm := Hd.good_small hg
    have HSM := Lib.hid (fun k x hx => Hd.texts_short hsm (k := k) (x := x) hx)
    have HFI := Lib.hid (fun k x hx => Hd.texts_fine hg (k := k) (x := x) hx)
    have HIX := Lib.hid (fun k x hx W => index_text (h := h) (k := k) (x := x) hx W)
    have g1 := hg.few
    have g2 := hg.some_
    have g3 := hsm.domain
    have g4 := hsm.path
    have g5 := hg.pathH
    have g6 := hsm.same
    have g7 := (Hd.age_len hg.age).1
    clear hp hg hsm
    have k1 : 0 < h.name.length + h.value.length := by
      rcases Nat.eq_zero_or_pos (h.name.length + h.value.length) with e | e
      · exact absurd ⟨List.eq_nil_of_length_eq_zero (by omega), List.eq_nil_of_length_eq_zero (by omega)⟩ g2
      · exact e
    go_enter Tryd.func6, Tryd.ntmps6
    go_wp2_with fail
    refine (HA.out _ hw).mono ?_
    rintro e w1 ⟨rfl, b1⟩
    go_wp2_with fail
    refine (H1.out _ (hw.below b1)).mono ?_
    rintro e w2 ⟨rfl, b2⟩
    have B2 := b1.trans (b2.mono b1.size)
    obtain ⟨T0, U0, V0, W0⟩ := lay_row 23 (headA Hd.zero) (headA h) B2 B2.size
    have c0 := U0.cell 0
    have c1 := U0.cell 1
    have c2 := U0.cell 2
    have c3 := U0.cell 3
    have c7 := U0.cell 7
    have c10 := U0.cell 10
    rw [show (headA h)[0]? = some (.string ⟨h.name.toArray⟩) from rfl] at c0
    rw [show (headA h)[1]? = some (.string ⟨h.value.toArray⟩) from rfl] at c1
    rw [show (headA h)[2]? = some (.string ⟨h.domain.toArray⟩) from rfl] at c2
    rw [show (headA h)[3]? = some (.string ⟨h.path.toArray⟩) from rfl] at c3
    rw [show (headA h)[7]? = some (.int .i64 ((h.age.getD 0 : Nat) : Int)) from rfl] at c7
    rw [show (headA h)[10]? = some (.int .i64 (h.same : Int)) from rfl] at c10
    go_wp2_with (refine wpList_store_row rfl 23 _ _ rfl w2.heap.size (headA h) rfl rfl 23 _ T0 (by rw [HZ.out]; exact infoHead) rfl (headA_one _) ?_)
    clear T0 W0
    generalize (w2.alloc (.cells (headA Hd.zero) 23)).setRow w2.heap.size (headA h) = w3 at *
    generalize w2.heap.size = g at *
    go_loop [29] (fun i => ∃ k : Nat, k ≤ 4 ∧ i = .int .i64 k) (fun i => 4 - (intOf i).toNat)
    case atStart => exact ⟨0, Nat.zero_le _, rfl⟩
    case round =>
      obtain ⟨k, hk, rfl⟩ := hrel
      by_cases hlt : k < 4
      · have hki : (k : Int) < 4 := by omega
        obtain ⟨x, hx⟩ : ∃ x, (Hd.texts4 h)[k]? = some x := ⟨_, List.getElem?_eq_getElem hlt⟩
        have hidx := HIX.out k x hx
        have hxs := HSM.out k x hx
        have hxf := HFI.out k x hx
        obtain ⟨X, hX⟩ : ∃ X : ByteArray, (⟨x.toArray⟩ : ByteArray) = X := ⟨_, rfl⟩
        have hXl : X.data.toList = x := by rw [← hX]
        have hXs : X.size ≤ 4096 := by rw [← Oct.length_bytes, hXl]; exact hxs
        have HXF : Hid (∀ i (hi : i < X.size), Hd.fineB X[i] = true) := Lib.hid (fun i hi => hxf X[i] (by
          rw [← hXl, ← Oct.getElem_bytes X i hi]; exact List.getElem_mem _))
        rw [hX] at hidx
        clear hX hXl hxs hxf hx
        go_wp2
        go_loop [7] (fun i => ∃ j : Nat, j ≤ X.size ∧ i = .int .i64 j) (fun i => X.size - (intOf i).toNat)
        case atStart => exact ⟨0, Nat.zero_le _, rfl⟩
        case round =>
          obtain ⟨j, hj, rfl⟩ := hrel
          by_cases hjl : j < X.size
          · obtain ⟨f1, f2, f3⟩ := Hd.fine_facts (HXF.out j hjl)
            rcases f2 with f2 | ⟨f2, f4⟩
            all_goals
              go_wp2
              go_round
              case rel => exact ⟨j + 1, by omega, by go_num⟩
              case measure => simp [intOf]; omega
          · go_wp2
            go_round
            case rel => exact ⟨k + 1, by omega, by go_num⟩
            case measure => simp [intOf]; omega
      · have hki : ¬ (k : Int) < 4 := by omega
        obtain ⟨N, hN⟩ : ∃ X : ByteArray, (⟨h.name.toArray⟩ : ByteArray) = X := ⟨_, rfl⟩
        obtain ⟨V, hV⟩ : ∃ X : ByteArray, (⟨h.value.toArray⟩ : ByteArray) = X := ⟨_, rfl⟩
        obtain ⟨D, hD⟩ : ∃ X : ByteArray, (⟨h.domain.toArray⟩ : ByteArray) = X := ⟨_, rfl⟩
        obtain ⟨P, hP⟩ : ∃ X : ByteArray, (⟨h.path.toArray⟩ : ByteArray) = X := ⟨_, rfl⟩
        have sN : N.size = h.name.length := by rw [← hN, size_mk]
        have sV : V.size = h.value.length := by rw [← hV, size_mk]
        have sD : D.size = h.domain.length := by rw [← hD, size_mk]
        have sP : P.size = h.path.length := by rw [← hP, size_mk]
        have hPl : P.data.toList = h.path := by rw [← hP]
        have hPor : P.toList.isEmpty = true ∨ (P.toList.isEmpty = false ∧ ∃ hp : 0 < P.size, ((P[0].toNat : Int) == 47) = true) := by
          rw [Oct.bytes_data, hPl]
          rcases g5 with e | e
          · left; rw [e]; rfl
          · right
            have hp0 : 0 < P.size := by
              rw [sP]
              cases hh : h.path with
              | nil => rw [hh] at e; cases e
              | cons a r => simp
            refine ⟨?_, hp0, ?_⟩
            · cases hh : h.path with
              | nil => rw [hh] at e; cases e
              | cons a r => rfl
            · have h0 := Oct.head_bytes P hp0
              rw [hPl, e] at h0
              rw [← Option.some.inj h0]; rfl
        rw [hN] at c0
        rw [hV] at c1
        rw [hD] at c2
        rw [hP] at c3
        rw [← sN, ← sV] at g1 k1
        rw [← sD] at g3
        rw [← sP] at g4
        have i1 : ((N.size : Int) + (V.size : Int)) ≤ 4096 := by omega
        have i2 : (0 : Int) < (N.size : Int) + (V.size : Int) := by omega
        have i3 : (D.size : Int) ≤ 1024 := by omega
        have i4 : (P.size : Int) ≤ 1024 := by omega
        have i5 : ((h.age.getD 0 : Nat) : Int) ≤ 34560000 := by omega
        have i6 : (h.same : Int) ≤ 3 := by omega
        have i7 : (0 : Int) ≤ ((h.age.getD 0 : Nat) : Int) := by omega
        have i8 : (0 : Int) ≤ (h.same : Int) := by omega
        have iw : IntKind.i64.wrap ((N.size : Int) + (V.size : Int)) = (N.size : Int) + (V.size : Int) := by rw [IntKind.wrap_i64]; omega
        generalize (h.age.getD 0) = ag at *
        generalize h.same = sm at *
        clear hN hV hD hP hPl g5 g2 HIX HSM HFI
        rcases hPor with hP1 | ⟨hP1, hp0, hP2⟩
        all_goals
          go_wp2
          go_ret
          exact ⟨rfl, V0⟩
  · have hn1 : (n != 0) = true := by rw [bne_iff_ne]; exact hn
    clear hp hn
    go_enter Tryd.func6, Tryd.ntmps6
    go_wp2_with fail
    refine (HA.out _ hw).mono ?_
    rintro e w1 ⟨rfl, b1⟩
    go_wp2_with fail
    refine (H1.out _ (hw.below b1)).mono ?_
    rintro e w2 ⟨rfl, b2⟩
    have B2 := b1.trans (b2.mono b1.size)
    obtain ⟨T0, U0, V0, W0⟩ := lay_row 23 (headA Hd.zero) (headA h) B2 B2.size
    go_wp2_with (refine wpList_store_row rfl 23 _ _ rfl w2.heap.size (headA h) rfl rfl 23 _ T0 (by rw [HZ.out]; exact infoHead) rfl (headA_one _) ?_)
    go_ret
    exact ⟨rfl, V0⟩
end Go.Proofs.YtpimaobejjpffaaDoor
