/- Package wal: Last. -/
import Derived.Test.YtkdpfjenjcpcfaaGreatDoorRoundHeld
import Derived.Test.YtkdpfjenjcpcfaaGreatDoorIter
import Derived.Test.YtkdpfjenjcpcfaaGreatDoorRecsCut
namespace Go.Proofs.YtkdpfjenjcpcfaaGreatDoor
open Go.RowKit Mem Be Word Frm
attribute [local go_sem] Oper.semAt_some
set_option maxRecDepth 100000
set_option maxHeartbeats 4000000
set_option linter.unusedVariables false
variable {J : LgK}
set_option linter.unusedSimpArgs false
/-- p: how many records there are up to the last snapshot, itself counted; 0: there is none. -/
structure LastIs (rs : List Rc) (p : Nat) : Prop where
  le : p ≤ rs.length
  no : ∀ j (h : j < rs.length), p ≤ j → rs[j].1 ≠ 0
  yes : ∀ k, p = k + 1 → ∃ h : k < rs.length, rs[k].1 = 0
end Go.Proofs.YtkdpfjenjcpcfaaGreatDoor
