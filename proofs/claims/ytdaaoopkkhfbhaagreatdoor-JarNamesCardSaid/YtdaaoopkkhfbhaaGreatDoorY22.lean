/- The walks of the reference's Text of headers of any parts, and of its numbers. -/
import Derived.Test.YtdaaoopkkhfbhaaGreatDoorY21
import Derived.StillTailTactics
namespace Go.Proofs.YtdaaoopkkhfbhaaGreatDoor
open Go.RowKit
namespace Hd
end Hd
structure tT(r:Hd.Raw):Prop where
 name:r.name.length<=4200
 value:r.value.length<=4200
 both:r.name.length+r.value.length<=5000
 domain:r.domain.length<=2500
 path:r.path.length<=2500
 exp: -9223372036854775808<=r.exp/\r.exp<=9223372036854775807
 age: -9223372036854775808<=r.age/\r.age<=9223372036854775807
end Go.Proofs.YtdaaoopkkhfbhaaGreatDoor
