/- A region that draws its order, in a round of a range over a function: by the law of the regions that stand outside of one (no defer stands in it). No dump is imported here. -/
import Derived.OrdersHeld
import Derived.OrdersIn
import Derived.CallsIn
import Derived.Deep.RegionHeld
import Derived.RangeFuncCalls
import Derived.Test.YtkdpfjenjcpcfaaGreatDoorCore
namespace Go.Proofs.YtkdpfjenjcpcfaaGreatDoor
open Go.RowKit Mem
namespace RoundHeld
variable {P : Program} {ops : Array Oper} {Q : Exit → Act → World → Prop} {md : Region.Mode} {l n : Nat}
end RoundHeld
end Go.Proofs.YtkdpfjenjcpcfaaGreatDoor
