/- A frame, laid by the document: one contract. -/
import Derived.Test.YtkdpfjenjcpcfaaGreatDoorOne5
namespace Go.Proofs.YtkdpfjenjcpcfaaGreatDoor
open Go.RowKit Mem Be Word Frm
set_option maxRecDepth 10000
set_option maxHeartbeats 1000000
end Go.Proofs.YtkdpfjenjcpcfaaGreatDoor
