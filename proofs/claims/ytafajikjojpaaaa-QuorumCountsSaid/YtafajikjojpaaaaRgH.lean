/- Who keeps a key; and who keeps each point: by the program. -/
import Derived.Test.YtafajikjojpaaaaRgG
namespace Go.Proofs.Ytafajikjojpaaaa
open Go.RowKit Mem Rg
set_option maxRecDepth 100000
set_option maxHeartbeats 8000000
set_option linter.unusedVariables false
theorem keyN_lt (bs : List UInt8) : Word.U64 (keyN bs) := Word.stir_lt _
end Go.Proofs.Ytafajikjojpaaaa
