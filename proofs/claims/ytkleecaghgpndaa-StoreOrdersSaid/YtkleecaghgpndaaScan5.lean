/- All frames, found by the program: one contract. -/
import Derived.Test.YtkleecaghgpndaaRefNext5
import Derived.Test.YtkleecaghgpndaaRecs
import Derived.Deep.LoopGhost
namespace Go.Proofs.Ytkleecaghgpndaa
open Go.RowKit Mem Be Word Frm
set_option maxRecDepth 10000
set_option maxHeartbeats 1000000
set_option linter.unusedVariables false
end Go.Proofs.Ytkleecaghgpndaa
