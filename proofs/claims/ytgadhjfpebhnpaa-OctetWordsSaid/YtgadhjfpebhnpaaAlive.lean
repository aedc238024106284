/- The walk of the chapter's examples. -/
import Derived.Test.YtgadhjfpebhnpaaLines
import Derived.Test.YtgadhjfpebhnpaaWord
namespace Go.Proofs.Ytgadhjfpebhnpaa
open Go.RowKit
def TwoTexts (B : Nat) (w : World) (e : Ending) (w' : World) : Prop :=
  ∃ g cap, e = .returned (.slice (some ⟨g, 0, none⟩) 2 cap) ∧ w'.cell? ⟨g, 0, none⟩ = some (.string ⟨#[97]⟩) ∧ w'.cell? ⟨g, 1, none⟩ = some (.string ⟨#[98]⟩) ∧ g < w'.heap.size ∧ Below B w w'
theorem lines_example (w : World) : Calls Try.prog 24 #[.string ⟨#[97, 13, 10, 98]⟩] w (TwoTexts w.heap.size w) := by
  refine (lines_calls ⟨#[97, 13, 10, 98]⟩ w (by decide)).mono fun e w' h => ?_
  have e1 : Oct.lines (⟨#[97, 13, 10, 98]⟩ : ByteArray).data.toList = [[97], [98]] := by decide
  rw [e1] at h
  obtain ⟨g, cap, he, hown, hb⟩ := h
  exact ⟨g, cap, he, own_text (k := 0) (p := [97]) hown rfl rfl, own_text (k := 1) (p := [98]) hown rfl rfl, (hown.lt g rfl).2, hb⟩
theorem word_example (w : World) : Calls Try.prog 28 #[.string ⟨#[97, 32, 98, 37]⟩] w fun e w' => e = .returned (.string ⟨#[97, 37, 50, 48, 98, 37, 50, 53]⟩) ∧ Below w.heap.size w w' := by
  refine (word_calls ⟨#[97, 32, 98, 37]⟩ w (by decide)).mono fun e w' h => ?_
  have e1 : Oct.word (⟨#[97, 32, 98, 37]⟩ : ByteArray).data.toList = [97, 37, 50, 48, 98, 37, 50, 53] := by decide
  unfold NewText at h
  rw [e1] at h
  exact h
set_option maxHeartbeats 400000 in
theorem alive_calls (w : World) : Calls Try.prog 9 #[] w fun e w' => e = .returned (.bool true) ∧ Below w.heap.size w w' := by
  have HL := Lib.hid lines_example
  have HW := Lib.hid word_example
  go_enter Try.func9, Try.ntmps9
  go_wp2_with (first
    | (go_at_call 24; refine (HL.out _).mono ?_; rintro e w1 ⟨g, cap, rfl, hc0, hc1, hg, hb⟩)
    | (go_at_call 28; refine (HW.out _).mono ?_; rintro e w2 ⟨rfl, hb2⟩; have hd0 := (hb2.cell (p := ⟨g, 0, none⟩) hg).trans hc0; have hd1 := (hb2.cell (p := ⟨g, 1, none⟩) hg).trans hc1))
  go_ret
  exact ⟨rfl, hb.trans (hb2.mono hb.size)⟩
end Go.Proofs.Ytgadhjfpebhnpaa
