/- The walks of Words, of octet and of the reference. -/
import Derived.Test.YtnlhniaoaciopaaGreatDoorOctets
namespace Go.Proofs.YtnlhniaoaciopaaGreatDoor
open Go.RowKit
theorem refSplit_at (s : ByteArray) (at_ : UInt8) (w : World) (hs : s.size ≤ 1099511627776) :
    Calls Tryz.prog 28 #[.string s, .int .u8 (at_.toNat : Int)] w (NewTextsAt w.heap.size (Oct.split at_ s.data.toList) w) :=
  (refSplit_calls s at_ w hs).mono fun _ _ h => h.at_ (Oct.split_pos _ _)
/-- A new list of texts, and a bool. -/
def NewTextsIf (B : Nat) (ps : List (List UInt8)) (ok : Bool) (w : World) (e : Ending) (w' : World) : Prop :=
  ∃ v, e = .returned (.tuple #[v, .bool ok]) ∧ w'.ownsRow B 9 1 v ps.length (ps.map strV) ∧ Below B w w'

end Go.Proofs.YtnlhniaoaciopaaGreatDoor
