/- The walk of the law MatchDefault. -/
import Derived.Test.YtkajddopjflniaaMatchAlive
namespace Go.Proofs.Ytkajddopjflniaa
open Go.RowKit
theorem size_list (l : List UInt8) : (⟨l.toArray⟩ : ByteArray).size = l.length := List.size_toArray ..
set_option maxRecDepth 100000 in
set_option maxHeartbeats 2000000 in
theorem mdef_walk (a b c : ByteArray) (w : World) (_ha : a.size ≤ maxLen) (_hb : b.size ≤ maxLen) (_hc : c.size ≤ maxLen) :
    Calls Try.prog 5 #[.string a, .string b, .string c] w fun e w' => e = .returned (.bool true) ∧ Below w.heap.size w w' := by
  have HA := Lib.hid match_alive
  have hcase : 2000 < a.size ∨ (¬ 2000 < a.size ∧ 2000 < b.size) ∨ (¬ 2000 < a.size ∧ ¬ 2000 < b.size ∧ 2000 < c.size) ∨ (¬ 2000 < a.size ∧ ¬ 2000 < b.size ∧ ¬ 2000 < c.size) := by omega
  rcases hcase with h | ⟨h1, h2⟩ | ⟨h1, h2, h3⟩ | ⟨h1, h2, h3⟩
  · have k1 : (2000 : Int) < (a.size : Int) := by omega
    clear h
    go_enter Try.func5, Try.ntmps5
    go_wp2_with (go_at_call 6; refine (HA.out _).mono ?_; rintro e w' ⟨rfl, rfl⟩)
    go_ret
    exact ⟨rfl, Below.refl _ _⟩
  · have k1 : ¬ (2000 : Int) < (a.size : Int) := by omega
    have k2 : (2000 : Int) < (b.size : Int) := by omega
    clear h1 h2
    go_enter Try.func5, Try.ntmps5
    go_wp2_with (go_at_call 6; refine (HA.out _).mono ?_; rintro e w' ⟨rfl, rfl⟩)
    go_ret
    exact ⟨rfl, Below.refl _ _⟩
  · have k1 : ¬ (2000 : Int) < (a.size : Int) := by omega
    have k2 : ¬ (2000 : Int) < (b.size : Int) := by omega
    have k3 : (2000 : Int) < (c.size : Int) := by omega
    clear h1 h2 h3
    go_enter Try.func5, Try.ntmps5
    go_wp2_with (go_at_call 6; refine (HA.out _).mono ?_; rintro e w' ⟨rfl, rfl⟩)
    go_ret
    exact ⟨rfl, Below.refl _ _⟩
  · have k1 : ¬ (2000 : Int) < (a.size : Int) := by omega
    have k2 : ¬ (2000 : Int) < (b.size : Int) := by omega
    have k3 : ¬ (2000 : Int) < (c.size : Int) := by omega
    have H1 := Lib.hid (fun W => mpath_calls a b W (by omega))
    have H2 := Lib.hid (fun W => mpath_calls b c W (by omega))
    have H3 := Lib.hid (fun W => mpath_calls a c W (by omega))
    obtain ⟨D, hD⟩ : ∃ D : ByteArray, D = ⟨(Ma.default a.data.toList).toArray⟩ := ⟨_, rfl⟩
    have hDl : D.data.toList = Ma.default a.data.toList := by rw [hD]
    obtain ⟨E, hE⟩ : ∃ E : ByteArray, E = ⟨(Ma.default D.data.toList).toArray⟩ := ⟨_, rfl⟩
    have HD := Lib.hid (fun W => mdefault_calls a W (by omega))
    rw [← hD] at HD
    have hDh : D.data.toList.head? = some 47 := by rw [hDl]; exact Ma.default_head _
    have hED : E.size ≤ D.size := by
      rw [hE, size_list, ← Oct.length_bytes D]
      exact Ma.default_le hDh
    have hcd : a.data.toList.head? = some 47 → D.size ≤ a.size ∧ Ma.path a.data.toList D.data.toList = true := fun h => by
      refine ⟨?_, by rw [hDl]; exact Ma.path_default h⟩
      rw [hD, size_list, ← Oct.length_bytes a]
      exact Ma.default_le h
    have hb : Ma.path a.data.toList b.data.toList = true → Ma.path b.data.toList c.data.toList = true → Ma.path a.data.toList c.data.toList = true := fun x y => Ma.path_trans x y
    have HE : D.size ≤ a.size → ∀ W, Calls Try.prog 9 #[.string D] W fun e w' => e = .returned (.string E) ∧ W = w' := fun hle W => by
      rw [hE]
      exact mdefault_calls D W (by omega)
    have H4 : D.size ≤ a.size → ∀ W, Calls Try.prog 7 #[.string a, .string D] W fun e w' => e = .returned (.bool (Ma.path a.data.toList D.data.toList)) ∧ W = w' := fun hle W => mpath_calls a D W (by omega)
    have HE := Lib.hid HE
    have H4 := Lib.hid H4
    clear h1 h2 h3 hD hDl hE hDh
    generalize hp1 : Ma.path a.data.toList b.data.toList = p1 at *
    generalize hp2 : Ma.path b.data.toList c.data.toList = p2 at *
    generalize hp3 : Ma.path a.data.toList c.data.toList = p3 at *
    clear hp1 hp2 hp3
    have h0case : a.size = 0 ∨ ∃ h0 : 0 < a.size, ((a[0].toNat : Int) == 47) = true ∨ ((a[0].toNat : Int) == 47) = false := by
      rcases Nat.eq_zero_or_pos a.size with h | h
      · exact .inl h
      · refine .inr ⟨h, ?_⟩
        cases ((a[0].toNat : Int) == 47)
        · exact .inr rfl
        · exact .inl rfl
    rcases h0case with h0 | ⟨h0, e1 | e1⟩
    · have k0 : ¬ (0 : Int) < (a.size : Int) := by omega
      clear h0 hcd HE H4 HD
      cases p1 <;> cases p2 <;> cases p3 <;> first | (exact absurd (hb rfl rfl) (by decide)) | skip
      all_goals
        clear hb
        go_enter Try.func5, Try.ntmps5
        go_wp2_with (first
          | (go_at_call 6; refine (HA.out _).mono ?_; rintro e w' ⟨rfl, rfl⟩)
          | (go_at_call 7; (first | (with_reducible refine (H1.out _).mono ?_) | (with_reducible refine (H2.out _).mono ?_) | (with_reducible refine (H3.out _).mono ?_)); rintro e w' ⟨rfl, rfl⟩))
        go_ret
        exact ⟨rfl, Below.refl _ _⟩
    · have k0 : (0 : Int) < (a.size : Int) := by omega
      have hh : a.data.toList.head? = some 47 := by
        rw [Oct.head_bytes a h0]
        congr 1
        rw [beq_iff_eq] at e1
        exact Oct.eq_of_toNat (by have : (47 : UInt8).toNat = 47 := rfl; omega)
      obtain ⟨hle, hpd⟩ := hcd hh
      have HE := Lib.hid (HE.out hle)
      have H4 := H4.out hle
      rw [hpd] at H4
      have H4 := Lib.hid H4
      have k4 : ¬ (a.size : Int) < (D.size : Int) := by omega
      have k5 : ¬ (D.size : Int) < (E.size : Int) := by omega
      clear hcd hh hpd hle hED
      cases p1 <;> cases p2 <;> cases p3 <;> first | (exact absurd (hb rfl rfl) (by decide)) | skip
      all_goals
        clear hb
        go_enter Try.func5, Try.ntmps5
        go_wp2_with (first
          | (go_at_call 6; refine (HA.out _).mono ?_; rintro e w' ⟨rfl, rfl⟩)
          | (go_at_call 9; (first | (with_reducible refine (HD.out _).mono ?_) | (with_reducible refine (HE.out _).mono ?_)); rintro e w' ⟨rfl, rfl⟩)
          | (go_at_call 7; (first | (with_reducible refine (H1.out _).mono ?_) | (with_reducible refine (H2.out _).mono ?_) | (with_reducible refine (H3.out _).mono ?_) | (with_reducible refine (H4.out _).mono ?_)); rintro e w' ⟨rfl, rfl⟩))
        go_ret
        exact ⟨rfl, Below.refl _ _⟩
    · have k0 : (0 : Int) < (a.size : Int) := by omega
      clear hcd HE H4 HD
      cases p1 <;> cases p2 <;> cases p3 <;> first | (exact absurd (hb rfl rfl) (by decide)) | skip
      all_goals
        clear hb
        go_enter Try.func5, Try.ntmps5
        go_wp2_with (first
          | (go_at_call 6; refine (HA.out _).mono ?_; rintro e w' ⟨rfl, rfl⟩)
          | (go_at_call 7; (first | (with_reducible refine (H1.out _).mono ?_) | (with_reducible refine (H2.out _).mono ?_) | (with_reducible refine (H3.out _).mono ?_)); rintro e w' ⟨rfl, rfl⟩))
        go_ret
        exact ⟨rfl, Below.refl _ _⟩
end Go.Proofs.Ytkajddopjflniaa
