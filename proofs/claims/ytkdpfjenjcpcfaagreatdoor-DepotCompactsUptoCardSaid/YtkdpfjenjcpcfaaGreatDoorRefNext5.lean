/- The first frame, found by the document: one contract. -/
import Derived.Test.YtkdpfjenjcpcfaaGreatDoorNext5
import Derived.Test.YtkdpfjenjcpcfaaGreatDoorCore
namespace Go.Proofs.YtkdpfjenjcpcfaaGreatDoor
open Go.RowKit Mem Be Word Frm
set_option maxRecDepth 10000
set_option maxHeartbeats 1000000
set_option linter.unusedVariables false
end Go.Proofs.YtkdpfjenjcpcfaaGreatDoor
