/- What comes in takes no more bytes than an address may reach: rows of bytes, opened with that. No dump is imported here. -/
import Derived.Test.YtndbggkpobcpjaaGreatCore
import Derived.SizedLaws
namespace Go.Proofs.YtndbggkpobcpjaaGreat
open Go.RowKit Go.ChangeShapes Go.Deep Go.WideShapes
namespace Mem
section
variable {H : Type} {enc : TypeId × Value → H} {P : Program} {w : World} {base : Nat} {held : Bool}
def SizedD (P : Program) (t : TypeId) (d : DataW H) : Prop := ∀ n ∈ d.weights P t, n ≤ reachBytes
theorem sized_each {ts : List TypeId} {ds : List (DataW H)} (h : (DataW.weightsEach P ts ds).all (· ≤ reachBytes) = true) {j : Nat} {t : TypeId} {d : DataW H} (ht : ts[j]? = some t) (hd : ds[j]? = some d) : SizedD P t d := fun n hn => by
  have := List.all_eq_true.1 h _ (DataW.weights_mem_each ht hd n hn)
  simpa using this
theorem SizedD.len {t e : TypeId} {elems spare : List (DataW H)} (h : SizedD P t (.slice elems spare)) (ht : P.underlying t = some (.slice e)) : (elems.length + spare.length) * P.bytesOf e ≤ reachBytes :=
  h _ (by simp [DataW.weights, ht])
end
end Mem
end Go.Proofs.YtndbggkpobcpjaaGreat
