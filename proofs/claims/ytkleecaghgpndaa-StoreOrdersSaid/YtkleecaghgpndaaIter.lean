/- slices.Backward over records: its iterator's contract. -/
import Derived.RangeFuncNested
import Derived.RangeFuncBound
import Derived.RangeFuncCalls
import Derived.RangeFuncLeaves
import Derived.RangeFuncBox
import Derived.Shelf.Abstract
import Derived.Shelf.RegionOpen
import Derived.WalkKit
import Derived.OwnWalkIn
import Derived.TacticsInMore
import Derived.LoopNIn
import Derived.LoopIn
import Derived.Test.YtkleecaghgpndaaLog
namespace Go.Proofs.Ytkleecaghgpndaa
open Go.RowKit Mem Be Word Frm
attribute [local go_sem] Oper.semAt_some
set_option maxRecDepth 100000
set_option maxHeartbeats 2000000
set_option linter.unusedVariables false
/-- What comes in round j: the index, counted down, and the record there. -/
def bkF (vs : List RecV) (j : Nat) : Nat × RecV := (vs.length - 1 - j, (vs[vs.length - 1 - j]?).getD (0, none, [], 0))
theorem bkF_at (vs : List RecV) (k : Nat) (h : k < vs.length) : bkF vs k = (vs.length - 1 - k, vs[vs.length - 1 - k]) := by unfold bkF; rw [List.getElem?_eq_getElem (by omega)]; rfl
def bkU (vs : List RecV) (k : Nat) : List (Nat × RecV) := (List.range k).map (bkF vs)
theorem bkU_succ (vs : List RecV) (k : Nat) : bkU vs (k + 1) = bkU vs k ++ [bkF vs k] := by simp [bkU, List.range_succ]
theorem bkU_length (vs : List RecV) (k : Nat) : (bkU vs k).length = k := by simp [bkU]
theorem bkU_mem (vs : List RecV) {j k : Nat} (h : j < k) : bkF vs j ∈ bkU vs k := List.mem_map.2 ⟨j, List.mem_range.2 h, rfl⟩
/-- A record with its index, as they come. -/
abbrev BkR (vs : List RecV) := { x : Nat × RecV // vs[x.1]? = some x.2 }
def encR (x : Nat × RecV) : Array Value := #[.int .i64 (x.1 : Int), .agg #[.int .u8 (x.2.1.toNat : Int), .slice x.2.2.1 x.2.2.2.1.length x.2.2.2.2]]
end Go.Proofs.Ytkleecaghgpndaa
