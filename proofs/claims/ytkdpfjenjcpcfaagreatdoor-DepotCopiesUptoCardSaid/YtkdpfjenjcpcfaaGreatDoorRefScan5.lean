/- All frames, found by the document: one contract, by what is left. -/
import Derived.Test.YtkdpfjenjcpcfaaGreatDoorScan5
namespace Go.Proofs.YtkdpfjenjcpcfaaGreatDoor
open Go.RowKit Mem Be Word Frm
set_option maxRecDepth 10000
set_option maxHeartbeats 1000000
set_option linter.unusedVariables false
theorem own_litR (w : World) (r : RecV) (n : Nat) (hn : n = r.2.2.1.length) : (w.alloc (.cells #[.int .u8 (r.1.toNat : Int), .slice r.2.1 n r.2.2.2] 168)).ownsRow w.heap.size 168 2 (.slice (some ⟨w.heap.size, 0, none⟩) 1 1) 1 (recsC [r]) := by
  subst hn
  exact ⟨rfl, Or.inr ⟨w.heap.size, 1, _, rfl, Nat.le_refl _, heap_alloc_new w _, Nat.le_refl _, by unfold maxLen; omega, rfl, rfl⟩⟩
end Go.Proofs.YtkdpfjenjcpcfaaGreatDoor
