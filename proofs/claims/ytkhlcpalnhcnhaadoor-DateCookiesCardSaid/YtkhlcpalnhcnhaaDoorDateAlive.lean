/- The walk of the chapter's example of dates. -/
import Derived.Test.YtkhlcpalnhcnhaaDoorCookie
import Derived.Test.YtkhlcpalnhcnhaaDoorDateText
namespace Go.Proofs.YtkhlcpalnhcnhaaDoor
open Go.RowKit
namespace Dt
theorem ex_cookie : cookie [49, 45, 102, 101, 98, 45, 55, 48, 32, 48, 58, 48, 58, 57] = (2678409, true) := by decide +kernel
theorem ex_text : text 0 = [84, 104, 117, 44, 32, 48, 49, 32, 74, 97, 110, 32, 49, 57, 55, 48, 32, 48, 48, 58, 48, 48, 58, 48, 48, 32, 71, 77, 84] := by
  have h : civil (0 / 86400) = some (1970, 1, 1) := civil_some.2 ⟨by decide, by decide⟩
  rw [text_some h]
  decide +kernel
end Dt
def BoolPost (b : Bool) (w : World) (e : Ending) (w' : World) : Prop := e = .returned (.bool b) ∧ Below w.heap.size w w'
set_option maxRecDepth 100000 in
set_option maxHeartbeats 4000000 in
theorem date_alive (w : World) (hw : Cal w) : Calls Tryd.prog 9 #[] w (BoolPost true w) := by
  have H1 : Hid (∀ W, Cal W → Calls Tryd.prog 14 #[.string ⟨#[49, 45, 102, 101, 98, 45, 55, 48, 32, 48, 58, 48, 58, 57]⟩] W fun e w' => e = .returned (.tuple #[.int .i64 2678409, .bool true]) ∧ Below W.heap.size W w') := Lib.hid (fun W hW => by
    have h := cookie_calls ⟨#[49, 45, 102, 101, 98, 45, 55, 48, 32, 48, 58, 48, 58, 57]⟩ W hW (by decide)
    have e : (⟨#[49, 45, 102, 101, 98, 45, 55, 48, 32, 48, 58, 48, 58, 57]⟩ : ByteArray).data.toList = [49, 45, 102, 101, 98, 45, 55, 48, 32, 48, 58, 48, 58, 57] := rfl
    rw [e, Dt.ex_cookie] at h
    exact h)
  have H2 : Hid (∀ W, Cal W → Calls Tryd.prog 16 #[.int .i64 0] W fun e w' => e = .returned (.string ⟨#[84, 104, 117, 44, 32, 48, 49, 32, 74, 97, 110, 32, 49, 57, 55, 48, 32, 48, 48, 58, 48, 48, 58, 48, 48, 32, 71, 77, 84]⟩) ∧ Below W.heap.size W w') := Lib.hid (fun W hW => by
    have h := text_calls 0 W hW (by omega) (by omega)
    rw [Dt.ex_text] at h
    exact h)
  go_enter Tryd.func9, Tryd.ntmps9
  go_wp2_with fail
  refine (H1.out _ hw).mono ?_
  rintro e w1 ⟨rfl, b1⟩
  have hw1 := hw.below b1
  go_wp2_with fail
  refine (H2.out _ hw1).mono ?_
  rintro e w2 ⟨rfl, b2⟩
  go_wp2
  go_ret
  exact ⟨rfl, b1.trans (b2.mono b1.size)⟩
end Go.Proofs.YtkhlcpalnhcnhaaDoor
