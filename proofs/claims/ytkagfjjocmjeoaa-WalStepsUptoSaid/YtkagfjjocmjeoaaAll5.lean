/- Frames of many records, laid by the program and by the document; how many bytes they take: one contract each. -/
import Derived.Test.YtkagfjjocmjeoaaSame5
namespace Go.Proofs.Ytkagfjjocmjeoaa
open Go.RowKit Mem Be Word Frm
set_option maxRecDepth 10000
set_option maxHeartbeats 1000000
set_option linter.unusedVariables false
def partB (rs : List RecV) (k : Nat) : List UInt8 := allB ((rs.take k).map rcOf)
theorem all_step (rs : List RecV) (k : Nat) (h : k < rs.length) : partB rs (k + 1) = partB rs k ++ frB (rcOf rs[k]) := by
  unfold partB
  rw [List.take_succ_eq_append_getElem h, List.map_append, all_app]; simp [allB]
theorem all_part (rs : List RecV) (k : Nat) : (partB rs k).length ≤ longN (rs.map rcOf) := by
  unfold partB
  rw [List.map_take]; exact long_le _ k
theorem long_step (rs : List RecV) (k : Nat) (h : k < rs.length) : longN ((rs.take (k + 1)).map rcOf) = longN ((rs.take k).map rcOf) + 10 + rs[k].2.2.1.length := by
  have := long_snoc (rs.map rcOf) k (by simpa using h)
  rw [← List.map_take, ← List.map_take] at this
  rw [this]; simp [rcOf]
end Go.Proofs.Ytkagfjjocmjeoaa
