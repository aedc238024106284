/- The walk of host's Under. -/
import Derived.Test.YtnlhniaoaciopaaGreatDoorHosts
namespace Go.Proofs.YtnlhniaoaciopaaGreatDoor
open Go.RowKit
theorem Hst.under_eq (h d : Hst.Host) : Hst.under h d = ((Hst.tailOf h ((Hst.labels d).length : Int)).isSome && (decide (Hst.host (Hst.tailOf h ((Hst.labels d).length : Int)) = d) && !decide (Hst.host (Hst.tailOf h ((Hst.labels d).length : Int)) = h))) := by
  unfold Hst.under
  cases Hst.tailOf h ((Hst.labels d).length : Int) <;> rfl
end Go.Proofs.YtnlhniaoaciopaaGreatDoor
