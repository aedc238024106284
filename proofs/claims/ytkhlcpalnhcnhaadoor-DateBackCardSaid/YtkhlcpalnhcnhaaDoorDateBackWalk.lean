/- The walk of the law DateBack. -/
import Derived.Test.YtkhlcpalnhcnhaaDoorDateNextWalk
namespace Go.Proofs.YtkhlcpalnhcnhaaDoor
open Go.RowKit
set_option maxRecDepth 100000 in
set_option maxHeartbeats 8000000 in
theorem dback_walk (n : Int) (w : World) (hn : (Lit.int .i64 n).wf = true) (hw : Cal w) :
    Calls Tryd.prog 6 #[.int .i64 n] w fun e w' => e = .returned (.bool true) ∧ Below w.heap.size w w' := by
  obtain ⟨n1, n2⟩ := bounds_i64 hn
  have hsm := Dt.tdiv_small n1 n2
  have HA := Lib.hid (fun W hW => date_alive W hW)
  unfold BoolPost at HA
  have H1 := Lib.hid (fun W hW => text_calls n W hW n1 n2)
  unfold TextPost at H1
  obtain ⟨T, R, N, hT, hR, hN, hNN, hor⟩ := Dt.cut_moment n
  have hwr : IntKind.i64.wrap (n.tdiv 86400) = n.tdiv 86400 := by rw [IntKind.wrap_i64]; omega
  rw [hT] at hwr hsm
  rw [hR] at hsm
  -- what the text is
  have HText : Hid ((Dt.text n = [] ∧ Dt.civil (n / 86400) = none) ∨ (∃ s : ByteArray, s.data.toList = Dt.text n ∧ s.toList.isEmpty = false ∧ s.size = 29 ∧ Dt.cookie s.data.toList = (n, true))) := Lib.hid (by
    cases hc : Dt.civil (n / 86400) with
    | none => exact .inl ⟨Dt.text_none hc, rfl⟩
    | some t =>
      obtain ⟨y, m, d⟩ := t
      refine .inr ⟨⟨(Dt.text n).toArray⟩, rfl, ?_, ?_, ?_⟩
      · have hl := Dt.date_length (Dt.civil_some.1 hc).1 (n / 86400) (n % 86400).toNat
        rw [Oct.bytes_data, Bool.eq_false_iff]
        intro e
        rw [List.isEmpty_iff] at e
        have e2 : Dt.text n = [] := e
        rw [Dt.text_some hc] at e2
        rw [e2] at hl
        cases hl
      · rw [bytes_size, Dt.text_some hc]
        exact Dt.date_length (Dt.civil_some.1 hc).1 _ _
      · exact Dt.cookie_text hc)
  have HDay : Hid (∀ y m d, Dt.civil T = some (y, m, d) → ∀ W, Cal W → Calls Tryd.prog 10 #[.int .i64 y, .int .i64 m, .int .i64 d] W fun e w' => e = .returned (.tuple #[.int .i64 T, .bool true]) ∧ W = w') := Lib.hid (fun y m d h W hW => by
    have := days_calls y m d W hW
    obtain ⟨hI, hd⟩ := Dt.civil_some.1 h
    rw [Dt.daysO_yes hI, hd] at this
    exact this)
  clear hNN hn
  rcases HText.out with ⟨ht, hcn⟩ | ⟨s, hs, hse, hs29, hck⟩
  · rw [ht] at H1
    have HX : Hid (∀ W, Cal W → Calls Tryd.prog 16 #[.int .i64 n] W fun e w' => e = .returned (.string ⟨#[]⟩) ∧ Below W.heap.size W w') := H1
    cases hc : Dt.civil T with
    | none =>
      have H2 := Lib.hid (civil_no hc)
      clear hc hcn ht HText H1
      go_enter Tryd.func6, Tryd.ntmps6
      go_wp2_with fail
      refine (HA.out _ hw).mono ?_
      rintro e w1 ⟨rfl, b1⟩
      go_wp2_with fail
      refine (HX.out _ (hw.below b1)).mono ?_
      rintro e w2 ⟨rfl, b2⟩
      have B2 := b1.trans (b2.mono b1.size)
      go_wp2_with fail
      refine (H2.out _ (hw.below B2)).mono ?_
      rintro e w3 ⟨rfl, b3⟩
      go_wp2
      go_ret
      exact ⟨rfl, B2.trans (b3.mono B2.size)⟩
    | some t =>
      obtain ⟨y, m, d⟩ := t
      have H2 := Lib.hid (civil_yes hc)
      have H3 := Lib.hid (HDay.out y m d hc)
      have hR0 : R < 0 := by
        rcases hor with ⟨r1, _, _⟩ | ⟨r1, r2, _⟩
        · exact r1
        · rw [r2, hc] at hcn; cases hcn
      clear hc hcn ht HText H1 HDay hor
      go_enter Tryd.func6, Tryd.ntmps6
      go_wp2_with fail
      refine (HA.out _ hw).mono ?_
      rintro e w1 ⟨rfl, b1⟩
      go_wp2_with fail
      refine (HX.out _ (hw.below b1)).mono ?_
      rintro e w2 ⟨rfl, b2⟩
      have B2 := b1.trans (b2.mono b1.size)
      go_wp2_with fail
      refine (H2.out _ (hw.below B2)).mono ?_
      rintro e w3 ⟨rfl, b3⟩
      have B3 := B2.trans (b3.mono B2.size)
      go_wp2_with fail
      refine (H3.out _ (hw.below B3)).mono ?_
      rintro e w4 ⟨rfl, rfl⟩
      go_wp2
      go_ret
      exact ⟨rfl, B3⟩
  · have HX : Hid (∀ W, Cal W → Calls Tryd.prog 16 #[.int .i64 n] W fun e w' => e = .returned (.string s) ∧ Below W.heap.size W w') := Lib.hid (fun W hW => by
      have := H1.out W hW
      rw [← hs, Lib.mk_data] at this
      exact this)
    have HK : Hid (∀ W, Cal W → Calls Tryd.prog 14 #[.string s] W fun e w' => e = .returned (.tuple #[.int .i64 n, .bool true]) ∧ Below W.heap.size W w') := Lib.hid (fun W hW => by
      have := cookie_calls s W hW (by unfold maxLen; omega)
      rw [hck] at this
      exact this)
    have h29 : ((s.size : Int) == 29) = true := by rw [hs29]; rfl
    clear hs hck HText H1 hs29 hor
    cases hc : Dt.civil T with
    | none =>
      have H2 := Lib.hid (civil_no hc)
      clear hc HDay
      go_enter Tryd.func6, Tryd.ntmps6
      go_wp2_with fail
      refine (HA.out _ hw).mono ?_
      rintro e w1 ⟨rfl, b1⟩
      go_wp2_with fail
      refine (HX.out _ (hw.below b1)).mono ?_
      rintro e w2 ⟨rfl, b2⟩
      have B2 := b1.trans (b2.mono b1.size)
      go_wp2_with fail
      refine (H2.out _ (hw.below B2)).mono ?_
      rintro e w3 ⟨rfl, b3⟩
      have B3 := B2.trans (b3.mono B2.size)
      go_wp2_with fail
      refine (HK.out _ (hw.below B3)).mono ?_
      rintro e w4 ⟨rfl, b4⟩
      go_wp2
      go_ret
      exact ⟨rfl, B3.trans (b4.mono B3.size)⟩
    | some t =>
      obtain ⟨y, m, d⟩ := t
      have H2 := Lib.hid (civil_yes hc)
      have H3 := Lib.hid (HDay.out y m d hc)
      clear hc HDay
      go_enter Tryd.func6, Tryd.ntmps6
      go_wp2_with fail
      refine (HA.out _ hw).mono ?_
      rintro e w1 ⟨rfl, b1⟩
      go_wp2_with fail
      refine (HX.out _ (hw.below b1)).mono ?_
      rintro e w2 ⟨rfl, b2⟩
      have B2 := b1.trans (b2.mono b1.size)
      go_wp2_with fail
      refine (H2.out _ (hw.below B2)).mono ?_
      rintro e w3 ⟨rfl, b3⟩
      have B3 := B2.trans (b3.mono B2.size)
      go_wp2_with fail
      refine (H3.out _ (hw.below B3)).mono ?_
      rintro e w4 ⟨rfl, rfl⟩
      go_wp2_with fail
      refine (HK.out _ (hw.below B3)).mono ?_
      rintro e w5 ⟨rfl, b5⟩
      go_wp2
      go_ret
      exact ⟨rfl, B3.trans (b5.mono B3.size)⟩
end Go.Proofs.YtkhlcpalnhcnhaaDoor
