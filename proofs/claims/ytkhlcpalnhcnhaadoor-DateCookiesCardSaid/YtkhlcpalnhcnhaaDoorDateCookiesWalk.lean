/- The walk of the law DateCookies. -/
import Derived.Test.YtkhlcpalnhcnhaaDoorDateAlive
import Derived.Test.YtkhlcpalnhcnhaaDoorRefCookie
namespace Go.Proofs.YtkhlcpalnhcnhaaDoor
open Go.RowKit
set_option maxRecDepth 100000 in
set_option maxHeartbeats 4000000 in
theorem dcookies_walk (s : ByteArray) (w : World) (hs : s.size ≤ maxLen) (hw : Cal w) :
    Calls Tryd.prog 4 #[.string s] w fun e w' => e = .returned (.bool true) ∧ Below w.heap.size w w' := by
  have HA := Lib.hid (fun W hW => date_alive W hW)
  unfold BoolPost at HA
  by_cases k : (500 : Int) < (s.size : Int)
  · go_enter Tryd.func4, Tryd.ntmps4
    go_wp2_with fail
    refine (HA.out _ hw).mono ?_
    rintro e w1 ⟨rfl, b1⟩
    go_wp2
    go_ret
    exact ⟨rfl, b1⟩
  · have H1 := Lib.hid (fun W hW => cookie_calls s W hW hs)
    have H2 := Lib.hid (fun W => refCookie_calls s W (by omega))
    unfold MomPost at H1 H2
    generalize Dt.cookie s.data.toList = o at *
    obtain ⟨n, b⟩ := o
    have H3 : Hid (∀ W, Cal W → Calls Tryd.prog 14 #[.string s] W fun e w' => e = .returned (.tuple #[.int .i64 n, .bool b]) ∧ Below W.heap.size W w') := H1
    have H4 : Hid (∀ W, Calls Tryd.prog 15 #[.string s] W fun e w' => e = .returned (.tuple #[.int .i64 n, .bool b]) ∧ Below W.heap.size W w') := H2
    clear H1 H2
    go_enter Tryd.func4, Tryd.ntmps4
    go_wp2_with fail
    refine (HA.out _ hw).mono ?_
    rintro e w1 ⟨rfl, b1⟩
    go_wp2_with fail
    refine (H3.out _ (hw.below b1)).mono ?_
    rintro e w2 ⟨rfl, b2⟩
    have B2 := b1.trans (b2.mono b1.size)
    go_wp2_with fail
    refine (H4.out _).mono ?_
    rintro e w3 ⟨rfl, b3⟩
    have B3 := B2.trans (b3.mono B2.size)
    cases b <;> (go_wp2; go_ret; exact ⟨rfl, B3⟩)
end Go.Proofs.YtkhlcpalnhcnhaaDoor
