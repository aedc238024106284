/- The walks of octet's and the reference's functions of one byte. -/
import Derived.Test.YtcookddgaomkiaaBase
namespace Go.Proofs.Ytcookddgaomkiaa
open Go.RowKit

theorem small_calls (c : UInt8) (w : World) :
    Calls Try.prog 57 #[.int .u8 (c.toNat : Int)] w fun e w' => e = .returned (.int .u8 ((Oct.low c).toNat : Int)) ∧ w = w' := by
  have hl := Oct.low_toNat c
  have hc : c.toNat < 256 := c.toNat_lt
  have HL := Lib.hid hl
  clear hl
  by_cases h1 : (65 : Int) ≤ (c.toNat : Int) <;> by_cases h2 : (c.toNat : Int) ≤ (90 : Int)
  all_goals
    go_enter Try.func57, Try.ntmps57
    go_wp2
    go_ret
    exact ⟨ret_int (by rw [HL.out]; split <;> omega), rfl⟩
end Go.Proofs.Ytcookddgaomkiaa
