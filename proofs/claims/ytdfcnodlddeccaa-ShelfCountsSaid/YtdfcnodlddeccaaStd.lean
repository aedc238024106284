/- A seat whose laws read no variable of the library: nothing is asked of the world. -/
import Derived.Test.YtdfcnodlddeccaaOctets
namespace Go.Proofs.Ytdfcnodlddeccaa
open Go.RowKit Go.Lib
theorem below_drawn (B : Nat) (w : World) (n : Nat) : Below B w (w.drewN n) := by
  induction n with
  | zero => exact Below.refl _ _
  | succ n ih => exact ih.drew
end Go.Proofs.Ytdfcnodlddeccaa
