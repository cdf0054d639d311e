/- The bytes of an entry, by the program. -/
import Derived.Test.YtmbcdakfnckcmaaNewer
import Derived.Test.YtmbcdakfnckcmaaConcat
import Derived.Deep.RegionHeld3
namespace Go.Proofs.Ytmbcdakfnckcmaa
open Go.RowKit Mem Be
set_option maxRecDepth 10000
set_option maxHeartbeats 4000000
def tagB (s u o : Int) : List UInt8 := numB s ++ (numB u ++ numB o)
theorem tagB_le (s u o : Int) : (tagB s u o).length ≤ 27 := by
  have := numB_le s; have := numB_le u; have := numB_le o
  unfold tagB; rw [List.length_append, List.length_append]; omega
def entB (k : List UInt8) (s u o : Int) (has : Bool) (xs : List UInt8) : List UInt8 := rowB k ++ (tagB s u o ++ (truthB has ++ (if has = true then rowB xs else [])))
theorem entB_le (k : List UInt8) (s u o : Int) (has : Bool) (xs : List UInt8) : (entB k s u o has xs).length ≤ k.length + xs.length + 46 := by
  have h1 := numB_le (k.length : Int); have h2 := numB_le (xs.length : Int); have h3 := tagB_le s u o
  unfold entB rowB truthB
  cases has <;> simp only [List.length_append, List.length_cons, List.length_nil, if_true, Bool.false_eq_true, if_false] <;> omega
def bytesE (k : List UInt8) (s u o : Int) (has : Bool) (xs : List UInt8) : List UInt8 × Int := if rightE k.length xs.length s u o has = 0 then (entB k s u o has xs, 0) else ([], 2)
end Go.Proofs.Ytmbcdakfnckcmaa
