import Derived.Test.YtahnjkkgojfdmaaGreatDoorCore
import Derived.SizedLaws
set_option maxRecDepth 100000
set_option linter.unusedVariables false
namespace Go.Proofs.YtahnjkkgojfdmaaGreatDoor
section
open Go.RowKit Go.ChangeShapes Go.Deep Go.WideShapes
namespace Mem
section
variable {H : Type} {enc : TypeId × Value → H} {P : Program} {w : World} {base : Nat} {held : Bool}
def zm9(P:Program)(t:TypeId)(d:DataW H):Prop:=∀ n∈d.weights P t,n<=reachBytes
theorem sized_each{a:List TypeId}{ds:List (DataW H)}(h:(DataW.weightsEach P a ds).all (·<=reachBytes)=true){j:Nat}{t:TypeId}{d:DataW H}(ht:a[j]?=some t)(b:ds[j]?=some d):zm9 P t d:=fun n c=>by
 have:=List.all_eq_true.1 h _ (DataW.weights_mem_each ht b n c);simpa using this
theorem zm9.len{t e:TypeId}{elems spare:List (DataW H)}(h:zm9 P t (.slice elems spare))(ht:P.underlying t=some (.slice e)):(elems.length+spare.length)*P.bytesOf e<=reachBytes:=
 h _ (by simp [DataW.weights,ht])
end
end Mem
end
end Go.Proofs.YtahnjkkgojfdmaaGreatDoor
