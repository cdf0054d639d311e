/- Rows of bytes laid one behind the other, in new memory; the bytes of a string. -/
import Derived.Test.YtmbcdakfnckcmaaMany
import Derived.Test.YtmbcdakfnckcmaaLater
import Derived.Lib.AppendZeros
namespace Go.Proofs.Ytmbcdakfnckcmaa
open Go.RowKit Mem
set_option maxRecDepth 10000
set_option maxHeartbeats 2000000
end Go.Proofs.Ytmbcdakfnckcmaa
