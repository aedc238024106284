/- The walk of the law MatchPaths. -/
import Derived.Test.YtkajddopjflniaaMatchAlive
import Derived.Test.YtkajddopjflniaaRefMatchPath
namespace Go.Proofs.Ytkajddopjflniaa
open Go.RowKit
set_option maxRecDepth 100000 in
set_option maxHeartbeats 1000000 in
theorem mpaths_walk (p f : ByteArray) (w : World) (_hp : p.size ≤ maxLen) (_hf : f.size ≤ maxLen) :
    Calls Try.prog 3 #[.string p, .string f] w fun e w' => e = .returned (.bool true) ∧ Below w.heap.size w w' := by
  have HA := Lib.hid match_alive
  have hcase : 3000 < p.size ∨ (¬ 3000 < p.size ∧ 3000 < f.size) ∨ (¬ 3000 < p.size ∧ ¬ 3000 < f.size) := by omega
  rcases hcase with h | ⟨h1, h2⟩ | ⟨h1, h2⟩
  · have h1 : (3000 : Int) < (p.size : Int) := by omega
    clear h
    go_enter Try.func3, Try.ntmps3
    go_wp2_with (go_at_call 6; refine (HA.out _).mono ?_; rintro e w' ⟨rfl, rfl⟩)
    go_ret
    exact ⟨rfl, Below.refl _ _⟩
  · have k1 : ¬ (3000 : Int) < (p.size : Int) := by omega
    have k2 : (3000 : Int) < (f.size : Int) := by omega
    clear h1 h2
    go_enter Try.func3, Try.ntmps3
    go_wp2_with (go_at_call 6; refine (HA.out _).mono ?_; rintro e w' ⟨rfl, rfl⟩)
    go_ret
    exact ⟨rfl, Below.refl _ _⟩
  · have k1 : ¬ (3000 : Int) < (p.size : Int) := by omega
    have k2 : ¬ (3000 : Int) < (f.size : Int) := by omega
    have H1 := Lib.hid (fun W => mpath_calls p f W (by omega))
    have H2 := Lib.hid (fun W => refMPath_calls p f W (by omega))
    have H3 := Lib.hid (fun W => mdefault_calls p W (by omega))
    have H4 := Lib.hid (fun W => refMDefault_calls p W (by omega))
    generalize Ma.path p.data.toList f.data.toList = B at *
    generalize (⟨(Ma.default p.data.toList).toArray⟩ : ByteArray) = D at *
    clear h1 h2
    have e1 : (B == B) = true := by cases B <;> rfl
    have e2 : (D.toList == D.toList) = true := by simp
    go_enter Try.func3, Try.ntmps3
    go_wp2_with (first
      | (go_at_call 6; refine (HA.out _).mono ?_; rintro e w' ⟨rfl, rfl⟩)
      | (go_at_call 7; refine (H1.out _).mono ?_; rintro e w' ⟨rfl, rfl⟩)
      | (go_at_call 8; refine (H2.out _).mono ?_; rintro e w' ⟨rfl, rfl⟩)
      | (go_at_call 9; refine (H3.out _).mono ?_; rintro e w' ⟨rfl, rfl⟩)
      | (go_at_call 10; refine (H4.out _).mono ?_; rintro e w' ⟨rfl, rfl⟩))
    go_ret
    exact ⟨rfl, Below.refl _ _⟩
end Go.Proofs.Ytkajddopjflniaa
