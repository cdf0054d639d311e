/- Two lists of numbers, or of rows, that are the same, are told to be. -/
import Derived.Test.YtndbggkpobcpjaaGreatCore
import Derived.Deep.QuietTactic
import Derived.BigQuiet
namespace Go.Proofs.YtndbggkpobcpjaaGreat
open Go.RowKit Mem
set_option maxRecDepth 10000
set_option maxHeartbeats 1000000
end Go.Proofs.YtndbggkpobcpjaaGreat
