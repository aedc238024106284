/- The walks of withoutReturn and Lines. -/
import Derived.Test.YtnlhniaoaciopaaGreatDoorOctets
namespace Go.Proofs.YtnlhniaoaciopaaGreatDoor
open Go.RowKit

end Go.Proofs.YtnlhniaoaciopaaGreatDoor
