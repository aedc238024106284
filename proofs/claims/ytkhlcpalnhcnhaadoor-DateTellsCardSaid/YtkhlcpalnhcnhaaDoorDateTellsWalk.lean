/- The walk of the law DateTells. -/
import Derived.Test.YtkhlcpalnhcnhaaDoorDateAlive
import Derived.Test.YtkhlcpalnhcnhaaDoorRefDateText
namespace Go.Proofs.YtkhlcpalnhcnhaaDoor
open Go.RowKit
theorem wf_i64 {n : Int} (h : (Lit.int .i64 n).wf = true) : -9223372036854775808 ≤ n ∧ n ≤ 9223372036854775807 := by
  have := bounds_i64 h
  omega
set_option maxRecDepth 100000 in
set_option maxHeartbeats 4000000 in
theorem dtells_walk (n : Int) (w : World) (hn : (Lit.int .i64 n).wf = true) (hw : Cal w) :
    Calls Tryd.prog 5 #[.int .i64 n] w fun e w' => e = .returned (.bool true) ∧ Below w.heap.size w w' := by
  obtain ⟨n1, n2⟩ := wf_i64 hn
  have HA := Lib.hid (fun W hW => date_alive W hW)
  unfold BoolPost at HA
  have H1 := Lib.hid (fun W hW => text_calls n W hW n1 n2)
  have H2 := Lib.hid (fun W => refText_calls n W n1 n2)
  unfold TextPost at H1 H2
  generalize (⟨(Dt.text n).toArray⟩ : ByteArray) = s at *
  go_enter Tryd.func5, Tryd.ntmps5
  go_wp2_with fail
  refine (HA.out _ hw).mono ?_
  rintro e w1 ⟨rfl, b1⟩
  have hw1 := hw.below b1
  go_wp2_with fail
  refine (H1.out _ hw1).mono ?_
  rintro e w2 ⟨rfl, b2⟩
  have B2 := b1.trans (b2.mono b1.size)
  go_wp2_with fail
  refine (H2.out _).mono ?_
  rintro e w3 ⟨rfl, b3⟩
  have B3 := B2.trans (b3.mono B2.size)
  go_wp2
  go_ret
  exact ⟨rfl, B3⟩
end Go.Proofs.YtkhlcpalnhcnhaaDoor
