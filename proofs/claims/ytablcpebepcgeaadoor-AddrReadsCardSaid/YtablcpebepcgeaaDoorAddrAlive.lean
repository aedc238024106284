/- The walk of the chapter's example. -/
import Derived.Test.YtablcpebepcgeaaDoorV6
import Derived.Test.YtablcpebepcgeaaDoorText6
namespace Go.Proofs.YtablcpebepcgeaaDoor
open Go.RowKit
namespace Adr
def exG : List UInt16 := [0x2001, 0xdb8, 0, 0, 1, 0, 0, 1]
def exA : List UInt8 := from_ exG
theorem ex_read : v6 [50, 48, 48, 49, 58, 68, 66, 56, 58, 48, 58, 48, 58, 49, 58, 48, 58, 48, 58, 49] = some exG := by decide
theorem ex_text : tx6 (groups exA) = [50, 48, 48, 49, 58, 100, 98, 56, 58, 58, 49, 58, 48, 58, 48, 58, 49] := by decide
end Adr
theorem ex_v6 (w : World) (hw : Std w) : Calls Tryd.prog 12 #[.string ⟨#[50, 48, 48, 49, 58, 68, 66, 56, 58, 48, 58, 48, 58, 49, 58, 48, 58, 48, 58, 49]⟩] w fun e w' => e = .returned (.tuple #[.agg (bytesA Adr.exA), .bool true]) ∧ Below w.heap.size w w' := by
  have h := v6_calls ⟨#[50, 48, 48, 49, 58, 68, 66, 56, 58, 48, 58, 48, 58, 49, 58, 48, 58, 48, 58, 49]⟩ w hw (by decide)
  have e : (⟨#[50, 48, 48, 49, 58, 68, 66, 56, 58, 48, 58, 48, 58, 49, 58, 48, 58, 48, 58, 49]⟩ : ByteArray).data.toList = [50, 48, 48, 49, 58, 68, 66, 56, 58, 48, 58, 48, 58, 49, 58, 48, 58, 48, 58, 49] := rfl
  rw [e, Adr.ex_read] at h
  exact h
theorem ex_text6 (w : World) (hw : Std w) : Calls Tryd.prog 18 #[.agg (bytesA Adr.exA)] w fun e w' => e = .returned (.string ⟨#[50, 48, 48, 49, 58, 100, 98, 56, 58, 58, 49, 58, 48, 58, 48, 58, 49]⟩) ∧ Below w.heap.size w w' := by
  have h := text6_calls Adr.exA rfl w hw
  rw [Adr.ex_text] at h
  exact h
set_option maxHeartbeats 1000000 in
theorem alive_calls (w : World) (hw : Std w) : Calls Tryd.prog 9 #[] w fun e w' => e = .returned (.bool true) ∧ Below w.heap.size w w' := by
  have H1 := Lib.hid (ex_v6 w hw)
  have HA := Lib.hid (show (bytesA Adr.exA).size = 16 from rfl)
  have H2 := Lib.hid ex_text6
  have z1 := bytesA_zA
  go_enter Tryd.func9, Tryd.ntmps9
  go_wp2_with fail
  refine H1.out.mono ?_
  rintro e w1 ⟨rfl, b1⟩
  have s1 := b1.size
  have R1 := Row.new w1 24 (bytesA zA)
  have B1 := b1.alloc s1 (.cells (bytesA zA) 24)
  have R2 := R1.whole (bytesA Adr.exA)
  have B2 := below_setRow B1 s1 (bytesA Adr.exA)
  have S2 := hw.below B2
  clear B1 b1 H1
  go_wp2_with (first
    | (refine wpList_store_row rfl 24 _ _ rfl w1.heap.size (bytesA Adr.exA) rfl rfl 24 _ R1 (by rw [HA.out]; exact infoAddr) (by rw [HA.out]; rfl) (bytesA_one _) ?_)
    | (refine at_slot 9 rfl ?_; refine load_row rfl 24 _ rfl w1.heap.size rfl R2 Tryd.underlying24 rfl (by rw [HA.out]; exact infoAddr) ?_)
    | (go_at_call 18; refine (H2.out _ S2).mono ?_; rintro e w3 ⟨rfl, b3⟩))
  go_ret
  exact ⟨rfl, B2.trans (b3.mono B2.size)⟩
end Go.Proofs.YtablcpebepcgeaaDoor
