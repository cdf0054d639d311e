/- Which entries may be, by the document; how many bytes one has. -/
import Derived.Test.YtmbcdakfnckcmaaEnt
namespace Go.Proofs.Ytmbcdakfnckcmaa
open Go.RowKit Mem
set_option maxRecDepth 10000
set_option maxHeartbeats 2000000
def longE (k m : Nat) : Bool := decide (400 < k ∨ 1000 < m)
theorem longE_no {k m : Nat} (h : longE k m = false) : k ≤ 400 ∧ m ≤ 1000 := by have := of_decide_eq_false h; omega
theorem isB_of {a b : Bool} {w w' : World} (h : a = b) (hb : Below w.heap.size w w') : IsB b w (.returned (.bool a)) w' := ⟨by rw [h], hb⟩
end Go.Proofs.Ytmbcdakfnckcmaa
