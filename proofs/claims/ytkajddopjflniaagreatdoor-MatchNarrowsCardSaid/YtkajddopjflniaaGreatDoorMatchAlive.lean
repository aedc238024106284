/- The walk of the chapter's examples. -/
import Derived.Test.YtkajddopjflniaaGreatDoorMatchPath
namespace Go.Proofs.YtkajddopjflniaaGreatDoor
open Go.RowKit
namespace Ma
theorem ex1 : path [47, 97, 47, 98] [47, 97] = true := by decide +kernel
theorem ex2 : path [47, 97, 47, 98] [47, 97, 47] = true := by decide +kernel
theorem ex3 : path [47, 97, 98] [47, 97] = false := by decide +kernel
theorem ex4 : default [47, 97, 47, 98] = [47, 97] := by decide +kernel
end Ma
theorem mpath_is (p f : ByteArray) {b : Bool} (hb : Ma.path p.data.toList f.data.toList = b) (hf : f.size ≤ 9223372036854775807) (w : World) :
    Calls Tryz.prog 13 #[.string p, .string f] w fun e w' => e = .returned (.bool b) ∧ w = w' := by
  rw [← hb]; exact mpath_calls p f w hf
theorem mdefault_is (p d : ByteArray) (hb : Ma.default p.data.toList = d.data.toList) (hf : p.size < 4611686018427387904) (w : World) :
    Calls Tryz.prog 14 #[.string p] w fun e w' => e = .returned (.string d) ∧ w = w' := by
  have h := mdefault_calls p w hf
  rw [hb, mk_bytes] at h
  exact h
set_option maxHeartbeats 1000000 in
theorem match_alive (w : World) : Calls Tryz.prog 6 #[] w fun e w' => e = .returned (.bool true) ∧ w = w' := by
  have H1 := Lib.hid (fun W => mpath_is ⟨#[47, 97, 47, 98]⟩ ⟨#[47, 97]⟩ Ma.ex1 (by decide) W)
  have H2 := Lib.hid (fun W => mpath_is ⟨#[47, 97, 47, 98]⟩ ⟨#[47, 97, 47]⟩ Ma.ex2 (by decide) W)
  have H3 := Lib.hid (fun W => mpath_is ⟨#[47, 97, 98]⟩ ⟨#[47, 97]⟩ Ma.ex3 (by decide) W)
  have H4 := Lib.hid (fun W => mdefault_is ⟨#[47, 97, 47, 98]⟩ ⟨#[47, 97]⟩ Ma.ex4 (by decide) W)
  go_enter Tryz.func6, Tryz.ntmps6
  go_wp2_with (first
    | (go_at_call 13; (first | (with_reducible refine (H1.out _).mono ?_) | (with_reducible refine (H2.out _).mono ?_) | (with_reducible refine (H3.out _).mono ?_)); rintro e w' ⟨rfl, rfl⟩)
    | (go_at_call 14; refine (H4.out _).mono ?_; rintro e w' ⟨rfl, rfl⟩))
  go_ret
  exact ⟨rfl, rfl⟩
end Go.Proofs.YtkajddopjflniaaGreatDoor
