/-
  NARROWER THAN 'FOR EVERY INPUT', by the rows' own cells (each row's printed sentence says how): DepotSteps: laid · DepotLasts: laid · DepotCopies: laid · DepotLooks: laid · DepotAcks: laid · DepotCompacts: laid.
  DERIVED. THE GIVEN ROWS OF THIS SEAT. 6 by the template 'for every input the law returns true; each argument reads behind the call as it read before'; 0 by the template 'total and deterministic' (their statements: YtahnjkkgojfdmaaGreatDoorTotals.lean).
  GIVEN WITH THE SEED: the statements are not yours to turn. If you find one false, say at which input.
  Laid BY PROGRAM, IN A SANDBOX (cutbox-rows.mjs): the forced cells as the released guide's own fill.sh prints them over the translation d7f9be02a9fc0191… (all of the seat's roots in one cut). By AI agents, Wed Nov 11 2026. No macro, syntax, notation, axiom, sorry.
-/
import Derived.Test.YtahnjkkgojfdmaaGreatDoorChecked
import GoSem.Claim
import GoSem.ClaimJoined
import GoSem.ClaimMapViews
import Derived.JoinedTies
import Derived.KernelRfl
namespace Go.Proofs.YtahnjkkgojfdmaaGreatDoor
/- THE CELL 'sum', in the pinned program and in every row, IS THE sha256 OF THE DUMP (.gsa) THAT YtahnjkkgojfdmaaGreatDoorProg.lean LOADS. Nothing in Lean hashes anything: it is a label: what it is worth is what the hold of that sum in a sandbox is worth. -/
noncomputable def Tryz.pinned : Pinned := { name := "ytahnjkkgojfdmaagreatdoor", sum := "d7f9be02a9fc01916c88608ddd4e641ec05773ea1eb58c50aa364a24f1060856", checked := Tryz.checked }
namespace Rows
def none {H : Type} : Left H := { results := [], args := [] }

/- WHAT THE LISTED PACKAGE-LEVEL VARIABLES READ AS WHEN THE CALL BEGINS. Each datum BY PROGRAM (the guide's laid-datum.mjs) off the statement by which the dump's own 'gosem.cut.vars' lays the variable. In a bare row this is a premise. The card (YtahnjkkgojfdmaaGreatDoorCards.lean) ties it to the program's text. -/
def laid_icehouse_msgs_kinds {H : Type} : DataW H := .agg [.agg [.lit (.bool false), .lit (.bool false), .lit (.bool false), .lit (.bool false), .lit (.bool false)], .agg [.lit (.bool false), .lit (.bool false), .lit (.bool true), .lit (.bool false), .lit (.bool false)], .agg [.lit (.bool true), .lit (.bool true), .lit (.bool true), .lit (.bool false), .lit (.bool false)], .agg [.lit (.bool false), .lit (.bool false), .lit (.bool true), .lit (.bool false), .lit (.bool false)], .agg [.lit (.bool false), .lit (.bool false), .lit (.bool true), .lit (.bool false), .lit (.bool false)], .agg [.lit (.bool false), .lit (.bool false), .lit (.bool true), .lit (.bool false), .lit (.bool false)], .agg [.lit (.bool true), .lit (.bool false), .lit (.bool false), .lit (.bool false), .lit (.bool false)], .agg [.lit (.bool false), .lit (.bool false), .lit (.bool true), .lit (.bool false), .lit (.bool false)], .agg [.lit (.bool false), .lit (.bool false), .lit (.bool true), .lit (.bool false), .lit (.bool false)], .agg [.lit (.bool true), .lit (.bool false), .lit (.bool true), .lit (.bool false), .lit (.bool false)], .agg [.lit (.bool false), .lit (.bool false), .lit (.bool true), .lit (.bool false), .lit (.bool false)], .agg [.lit (.bool false), .lit (.bool false), .lit (.bool true), .lit (.bool false), .lit (.bool false)], .agg [.lit (.bool true), .lit (.bool false), .lit (.bool false), .lit (.bool false), .lit (.bool false)], .agg [.lit (.bool true), .lit (.bool true), .lit (.bool false), .lit (.bool true), .lit (.bool false)], .agg [.lit (.bool true), .lit (.bool true), .lit (.bool false), .lit (.bool true), .lit (.bool false)], .agg [.lit (.bool false), .lit (.bool false), .lit (.bool false), .lit (.bool false), .lit (.bool false)], .agg [.lit (.bool false), .lit (.bool false), .lit (.bool false), .lit (.bool false), .lit (.bool true)], .agg [.lit (.bool false), .lit (.bool false), .lit (.bool false), .lit (.bool false), .lit (.bool false)]]

/-- 'icehouselaw14.DepotSteps': WHATEVER THE INPUT: true; the input reads as it did. -/
def depotStepsSpec : ChangeSpec := { name := "depotSteps", fn := fun _ => fun
  | [d1, d2] => { results := [.lit (.bool true)], args := [d1, d2] }
  | _ => none }
def depotStepsRow : OpenClaim := { program := "ytahnjkkgojfdmaagreatdoor", sum := "d7f9be02a9fc01916c88608ddd4e641ec05773ea1eb58c50aa364a24f1060856", func := "icehouse/icehouselaw14.DepotSteps", spec := "depotSteps", unfollowed := true, recurses := true, named := ["icehouse/msgs.kinds"], apart := false, laid := [("icehouse/msgs.kinds", laid_icehouse_msgs_kinds)] }
def DepotStepsSaid : Prop := depotStepsRow.holds Tryz.pinned (OpenSpec.ofChange depotStepsSpec)

/-- ITS FALSE NEIGHBOUR: 'it returns false'. Refute it at one input. -/
def depotStepsWrong : ChangeSpec := { name := "depotSteps", fn := fun _ => fun
  | [d1, d2] => { results := [.lit (.bool false)], args := [d1, d2] }
  | _ => none }
def DepotStepsWrongFalsely : Prop := depotStepsRow.holds Tryz.pinned (OpenSpec.ofChange depotStepsWrong)

/-- 'icehouselaw14.DepotLasts': WHATEVER THE INPUT: true; the input reads as it did. -/
def depotLastsSpec : ChangeSpec := { name := "depotLasts", fn := fun _ => fun
  | [d] => { results := [.lit (.bool true)], args := [d] }
  | _ => none }
def depotLastsRow : OpenClaim := { program := "ytahnjkkgojfdmaagreatdoor", sum := "d7f9be02a9fc01916c88608ddd4e641ec05773ea1eb58c50aa364a24f1060856", func := "icehouse/icehouselaw14.DepotLasts", spec := "depotLasts", unfollowed := true, recurses := true, named := ["icehouse/msgs.kinds"], apart := false, laid := [("icehouse/msgs.kinds", laid_icehouse_msgs_kinds)] }
def DepotLastsSaid : Prop := depotLastsRow.holds Tryz.pinned (OpenSpec.ofChange depotLastsSpec)

/-- ITS FALSE NEIGHBOUR: 'it returns false'. Refute it at one input. -/
def depotLastsWrong : ChangeSpec := { name := "depotLasts", fn := fun _ => fun
  | [d] => { results := [.lit (.bool false)], args := [d] }
  | _ => none }
def DepotLastsWrongFalsely : Prop := depotLastsRow.holds Tryz.pinned (OpenSpec.ofChange depotLastsWrong)

/-- 'icehouselaw14.DepotCopies': WHATEVER THE INPUT: true; the input reads as it did. -/
def depotCopiesSpec : ChangeSpec := { name := "depotCopies", fn := fun _ => fun
  | [d1, d2] => { results := [.lit (.bool true)], args := [d1, d2] }
  | _ => none }
def depotCopiesRow : OpenClaim := { program := "ytahnjkkgojfdmaagreatdoor", sum := "d7f9be02a9fc01916c88608ddd4e641ec05773ea1eb58c50aa364a24f1060856", func := "icehouse/icehouselaw14.DepotCopies", spec := "depotCopies", unfollowed := true, recurses := true, named := ["icehouse/msgs.kinds"], apart := false, laid := [("icehouse/msgs.kinds", laid_icehouse_msgs_kinds)] }
def DepotCopiesSaid : Prop := depotCopiesRow.holds Tryz.pinned (OpenSpec.ofChange depotCopiesSpec)

/-- ITS FALSE NEIGHBOUR: 'it returns false'. Refute it at one input. -/
def depotCopiesWrong : ChangeSpec := { name := "depotCopies", fn := fun _ => fun
  | [d1, d2] => { results := [.lit (.bool false)], args := [d1, d2] }
  | _ => none }
def DepotCopiesWrongFalsely : Prop := depotCopiesRow.holds Tryz.pinned (OpenSpec.ofChange depotCopiesWrong)

/-- 'icehouselaw14.DepotLooks': WHATEVER THE INPUT: true; the input reads as it did. -/
def depotLooksSpec : ChangeSpec := { name := "depotLooks", fn := fun _ => fun
  | [d1, d2] => { results := [.lit (.bool true)], args := [d1, d2] }
  | _ => none }
def depotLooksRow : OpenClaim := { program := "ytahnjkkgojfdmaagreatdoor", sum := "d7f9be02a9fc01916c88608ddd4e641ec05773ea1eb58c50aa364a24f1060856", func := "icehouse/icehouselaw14.DepotLooks", spec := "depotLooks", unfollowed := true, recurses := true, named := ["icehouse/msgs.kinds"], apart := false, laid := [("icehouse/msgs.kinds", laid_icehouse_msgs_kinds)] }
def DepotLooksSaid : Prop := depotLooksRow.holds Tryz.pinned (OpenSpec.ofChange depotLooksSpec)

/-- ITS FALSE NEIGHBOUR: 'it returns false'. Refute it at one input. -/
def depotLooksWrong : ChangeSpec := { name := "depotLooks", fn := fun _ => fun
  | [d1, d2] => { results := [.lit (.bool false)], args := [d1, d2] }
  | _ => none }
def DepotLooksWrongFalsely : Prop := depotLooksRow.holds Tryz.pinned (OpenSpec.ofChange depotLooksWrong)

/-- 'icehouselaw14.DepotAcks': WHATEVER THE INPUT: true; the input reads as it did. -/
def depotAcksSpec : ChangeSpec := { name := "depotAcks", fn := fun _ => fun
  | [d1, d2] => { results := [.lit (.bool true)], args := [d1, d2] }
  | _ => none }
def depotAcksRow : OpenClaim := { program := "ytahnjkkgojfdmaagreatdoor", sum := "d7f9be02a9fc01916c88608ddd4e641ec05773ea1eb58c50aa364a24f1060856", func := "icehouse/icehouselaw14.DepotAcks", spec := "depotAcks", unfollowed := true, recurses := true, named := ["icehouse/msgs.kinds"], apart := false, laid := [("icehouse/msgs.kinds", laid_icehouse_msgs_kinds)] }
def DepotAcksSaid : Prop := depotAcksRow.holds Tryz.pinned (OpenSpec.ofChange depotAcksSpec)

/-- ITS FALSE NEIGHBOUR: 'it returns false'. Refute it at one input. -/
def depotAcksWrong : ChangeSpec := { name := "depotAcks", fn := fun _ => fun
  | [d1, d2] => { results := [.lit (.bool false)], args := [d1, d2] }
  | _ => none }
def DepotAcksWrongFalsely : Prop := depotAcksRow.holds Tryz.pinned (OpenSpec.ofChange depotAcksWrong)

/-- 'icehouselaw14.DepotCompacts': WHATEVER THE INPUT: true; the input reads as it did. -/
def depotCompactsSpec : ChangeSpec := { name := "depotCompacts", fn := fun _ => fun
  | [d1, d2] => { results := [.lit (.bool true)], args := [d1, d2] }
  | _ => none }
def depotCompactsRow : OpenClaim := { program := "ytahnjkkgojfdmaagreatdoor", sum := "d7f9be02a9fc01916c88608ddd4e641ec05773ea1eb58c50aa364a24f1060856", func := "icehouse/icehouselaw14.DepotCompacts", spec := "depotCompacts", unfollowed := true, recurses := true, named := ["icehouse/msgs.kinds"], apart := false, laid := [("icehouse/msgs.kinds", laid_icehouse_msgs_kinds)] }
def DepotCompactsSaid : Prop := depotCompactsRow.holds Tryz.pinned (OpenSpec.ofChange depotCompactsSpec)

/-- ITS FALSE NEIGHBOUR: 'it returns false'. Refute it at one input. -/
def depotCompactsWrong : ChangeSpec := { name := "depotCompacts", fn := fun _ => fun
  | [d1, d2] => { results := [.lit (.bool false)], args := [d1, d2] }
  | _ => none }
def DepotCompactsWrongFalsely : Prop := depotCompactsRow.holds Tryz.pinned (OpenSpec.ofChange depotCompactsWrong)

/- THE SECOND FORM. 'bulk': how many values and letters a reading holds, each counted each time it is reached (what is shared counts as often as it is met; a slice's spare places count too). A statement '..UptoSaid' is the law's where the arguments, and the package variables that the reading takes, are together of bulk at most 1048576: NARROWER than '..Said'. Prove '..Said' where nothing that the law and all that it calls make is longer than what came in: it says more and counts as full. Else prove '..UptoSaid'. A law counts once. -/
mutual
def uptoBulk {H : Type} : DataW H → Nat
  | .lit (.string bytes) => bytes.length + 1
  | .lit _ => 1
  | .nil => 1
  | .ptr d => uptoBulk d + 1
  | .slice elems spare => uptoBulkAll elems + uptoBulkAll spare + 1
  | .agg parts => uptoBulkAll parts + 1
  | .iface _ d => uptoBulk d + 1
  | .map entries => uptoBulkEntries entries + 1
  | .held _ => 1
def uptoBulkAll {H : Type} : List (DataW H) → Nat
  | [] => 0
  | d :: r => uptoBulk d + uptoBulkAll r
def uptoBulkEntries {H : Type} : List (Lit × DataW H) → Nat
  | [] => 0
  | x :: r => uptoBulkEntry x + uptoBulkEntries r
def uptoBulkEntry {H : Type} : Lit × DataW H → Nat
  | (.string bytes, d) => bytes.length + uptoBulk d + 1
  | (_, d) => uptoBulk d + 1
 end
def uptoSmall : (H : Type) → List (DataW H) → Bool := fun _ ds => decide (uptoBulkAll ds ≤ 1048576)
def OpenSpec.upto (s : _root_.Go.ChangeSpec) : _root_.Go.OpenSpec := { _root_.Go.OpenSpec.ofChange s with cond := some uptoSmall }

/-- 'icehouselaw14.DepotSteps', WHERE WHAT IT READS IS OF BULK AT MOST 1048576: true; the input reads as it did. -/
def depotStepsUptoRow : OpenClaim := { program := "ytahnjkkgojfdmaagreatdoor", sum := "d7f9be02a9fc01916c88608ddd4e641ec05773ea1eb58c50aa364a24f1060856", func := "icehouse/icehouselaw14.DepotSteps", spec := "depotSteps", unfollowed := true, recurses := true, named := ["icehouse/msgs.kinds"], apart := false, laid := [("icehouse/msgs.kinds", laid_icehouse_msgs_kinds)], narrowed := true }
def DepotStepsUptoSaid : Prop := depotStepsUptoRow.holds Tryz.pinned (OpenSpec.upto depotStepsSpec)

/-- 'icehouselaw14.DepotLasts', WHERE WHAT IT READS IS OF BULK AT MOST 1048576: true; the input reads as it did. -/
def depotLastsUptoRow : OpenClaim := { program := "ytahnjkkgojfdmaagreatdoor", sum := "d7f9be02a9fc01916c88608ddd4e641ec05773ea1eb58c50aa364a24f1060856", func := "icehouse/icehouselaw14.DepotLasts", spec := "depotLasts", unfollowed := true, recurses := true, named := ["icehouse/msgs.kinds"], apart := false, laid := [("icehouse/msgs.kinds", laid_icehouse_msgs_kinds)], narrowed := true }
def DepotLastsUptoSaid : Prop := depotLastsUptoRow.holds Tryz.pinned (OpenSpec.upto depotLastsSpec)

/-- 'icehouselaw14.DepotCopies', WHERE WHAT IT READS IS OF BULK AT MOST 1048576: true; the input reads as it did. -/
def depotCopiesUptoRow : OpenClaim := { program := "ytahnjkkgojfdmaagreatdoor", sum := "d7f9be02a9fc01916c88608ddd4e641ec05773ea1eb58c50aa364a24f1060856", func := "icehouse/icehouselaw14.DepotCopies", spec := "depotCopies", unfollowed := true, recurses := true, named := ["icehouse/msgs.kinds"], apart := false, laid := [("icehouse/msgs.kinds", laid_icehouse_msgs_kinds)], narrowed := true }
def DepotCopiesUptoSaid : Prop := depotCopiesUptoRow.holds Tryz.pinned (OpenSpec.upto depotCopiesSpec)

/-- 'icehouselaw14.DepotLooks', WHERE WHAT IT READS IS OF BULK AT MOST 1048576: true; the input reads as it did. -/
def depotLooksUptoRow : OpenClaim := { program := "ytahnjkkgojfdmaagreatdoor", sum := "d7f9be02a9fc01916c88608ddd4e641ec05773ea1eb58c50aa364a24f1060856", func := "icehouse/icehouselaw14.DepotLooks", spec := "depotLooks", unfollowed := true, recurses := true, named := ["icehouse/msgs.kinds"], apart := false, laid := [("icehouse/msgs.kinds", laid_icehouse_msgs_kinds)], narrowed := true }
def DepotLooksUptoSaid : Prop := depotLooksUptoRow.holds Tryz.pinned (OpenSpec.upto depotLooksSpec)

/-- 'icehouselaw14.DepotAcks', WHERE WHAT IT READS IS OF BULK AT MOST 1048576: true; the input reads as it did. -/
def depotAcksUptoRow : OpenClaim := { program := "ytahnjkkgojfdmaagreatdoor", sum := "d7f9be02a9fc01916c88608ddd4e641ec05773ea1eb58c50aa364a24f1060856", func := "icehouse/icehouselaw14.DepotAcks", spec := "depotAcks", unfollowed := true, recurses := true, named := ["icehouse/msgs.kinds"], apart := false, laid := [("icehouse/msgs.kinds", laid_icehouse_msgs_kinds)], narrowed := true }
def DepotAcksUptoSaid : Prop := depotAcksUptoRow.holds Tryz.pinned (OpenSpec.upto depotAcksSpec)

/-- 'icehouselaw14.DepotCompacts', WHERE WHAT IT READS IS OF BULK AT MOST 1048576: true; the input reads as it did. -/
def depotCompactsUptoRow : OpenClaim := { program := "ytahnjkkgojfdmaagreatdoor", sum := "d7f9be02a9fc01916c88608ddd4e641ec05773ea1eb58c50aa364a24f1060856", func := "icehouse/icehouselaw14.DepotCompacts", spec := "depotCompacts", unfollowed := true, recurses := true, named := ["icehouse/msgs.kinds"], apart := false, laid := [("icehouse/msgs.kinds", laid_icehouse_msgs_kinds)], narrowed := true }
def DepotCompactsUptoSaid : Prop := depotCompactsUptoRow.holds Tryz.pinned (OpenSpec.upto depotCompactsSpec)

end Rows
end Go.Proofs.YtahnjkkgojfdmaaGreatDoor
