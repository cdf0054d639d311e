/-
  No cell of these rows narrows 'for every input' (looked for: loops, veiled, ifaces, maps, wideKeys, modest, calm, conditions, laid).
  DERIVED. THE GIVEN ROWS OF THIS SEAT. 6 by the template 'for every input the law returns true; each argument reads behind the call as it read before'; 0 by the template 'total and deterministic' (their statements: YtkleecaghgpndaaGreatTotals.lean).
  GIVEN WITH THE SEED: the statements are not yours to turn. If you find one false, say at which input.
  Laid BY PROGRAM, IN A SANDBOX (cutbox-rows.mjs): the forced cells as the released guide's own fill.sh prints them over the translation 0bc35a049d2f7ae0… (all of the seat's roots in one cut). By AI agents, Wed Nov 11 2026. No macro, syntax, notation, axiom, sorry.
-/
import Derived.Test.YtkleecaghgpndaaGreatChecked
import GoSem.Claim
import GoSem.ClaimJoined
import GoSem.ClaimMapViews
import Derived.JoinedTies
import Derived.KernelRfl
namespace Go.Proofs.YtkleecaghgpndaaGreat
/- THE CELL 'sum', in the pinned program and in every row, IS THE sha256 OF THE DUMP (.gsa) THAT YtkleecaghgpndaaGreatProg.lean LOADS. Nothing in Lean hashes anything: it is a label: what it is worth is what the hold of that sum in a sandbox is worth. -/
noncomputable def Tryz.pinned : Pinned := { name := "ytkleecaghgpndaagreat", sum := "0bc35a049d2f7ae0263098ee370407e214ee16a9b0089fca25b33d756d522812", checked := Tryz.checked }
namespace Rows
def none {H : Type} : Left H := { results := [], args := [] }

/-- 'icehouselaw08.StoreSteps': WHATEVER THE INPUT: true; the input reads as it did. -/
def storeStepsSpec : ChangeSpec := { name := "storeSteps", fn := fun _ => fun
  | [d1, d2] => { results := [.lit (.bool true)], args := [d1, d2] }
  | _ => none }
def storeStepsRow : OpenClaim := { program := "ytkleecaghgpndaagreat", sum := "0bc35a049d2f7ae0263098ee370407e214ee16a9b0089fca25b33d756d522812", func := "icehouse/icehouselaw08.StoreSteps", spec := "storeSteps", unfollowed := true, recurses := true, apart := false }
def StoreStepsSaid : Prop := storeStepsRow.holds Tryz.pinned (OpenSpec.ofChange storeStepsSpec)

/-- ITS FALSE NEIGHBOUR: 'it returns false'. Refute it at one input. -/
def storeStepsWrong : ChangeSpec := { name := "storeSteps", fn := fun _ => fun
  | [d1, d2] => { results := [.lit (.bool false)], args := [d1, d2] }
  | _ => none }
def StoreStepsWrongFalsely : Prop := storeStepsRow.holds Tryz.pinned (OpenSpec.ofChange storeStepsWrong)

/-- 'icehouselaw08.StoreRecovers': WHATEVER THE INPUT: true; the input reads as it did. -/
def storeRecoversSpec : ChangeSpec := { name := "storeRecovers", fn := fun _ => fun
  | [d1, d2] => { results := [.lit (.bool true)], args := [d1, d2] }
  | _ => none }
def storeRecoversRow : OpenClaim := { program := "ytkleecaghgpndaagreat", sum := "0bc35a049d2f7ae0263098ee370407e214ee16a9b0089fca25b33d756d522812", func := "icehouse/icehouselaw08.StoreRecovers", spec := "storeRecovers", unfollowed := true, recurses := true, apart := false }
def StoreRecoversSaid : Prop := storeRecoversRow.holds Tryz.pinned (OpenSpec.ofChange storeRecoversSpec)

/-- ITS FALSE NEIGHBOUR: 'it returns false'. Refute it at one input. -/
def storeRecoversWrong : ChangeSpec := { name := "storeRecovers", fn := fun _ => fun
  | [d1, d2] => { results := [.lit (.bool false)], args := [d1, d2] }
  | _ => none }
def StoreRecoversWrongFalsely : Prop := storeRecoversRow.holds Tryz.pinned (OpenSpec.ofChange storeRecoversWrong)

/-- 'icehouselaw08.StoreAcks': WHATEVER THE INPUT: true; the input reads as it did. -/
def storeAcksSpec : ChangeSpec := { name := "storeAcks", fn := fun _ => fun
  | [d] => { results := [.lit (.bool true)], args := [d] }
  | _ => none }
def storeAcksRow : OpenClaim := { program := "ytkleecaghgpndaagreat", sum := "0bc35a049d2f7ae0263098ee370407e214ee16a9b0089fca25b33d756d522812", func := "icehouse/icehouselaw08.StoreAcks", spec := "storeAcks", unfollowed := true, recurses := true, apart := false }
def StoreAcksSaid : Prop := storeAcksRow.holds Tryz.pinned (OpenSpec.ofChange storeAcksSpec)

/-- ITS FALSE NEIGHBOUR: 'it returns false'. Refute it at one input. -/
def storeAcksWrong : ChangeSpec := { name := "storeAcks", fn := fun _ => fun
  | [d] => { results := [.lit (.bool false)], args := [d] }
  | _ => none }
def StoreAcksWrongFalsely : Prop := storeAcksRow.holds Tryz.pinned (OpenSpec.ofChange storeAcksWrong)

/-- 'icehouselaw08.StoreTwice': WHATEVER THE INPUT: true; the input reads as it did. -/
def storeTwiceSpec : ChangeSpec := { name := "storeTwice", fn := fun _ => fun
  | [d1, d2] => { results := [.lit (.bool true)], args := [d1, d2] }
  | _ => none }
def storeTwiceRow : OpenClaim := { program := "ytkleecaghgpndaagreat", sum := "0bc35a049d2f7ae0263098ee370407e214ee16a9b0089fca25b33d756d522812", func := "icehouse/icehouselaw08.StoreTwice", spec := "storeTwice", unfollowed := true, recurses := true, apart := false }
def StoreTwiceSaid : Prop := storeTwiceRow.holds Tryz.pinned (OpenSpec.ofChange storeTwiceSpec)

/-- ITS FALSE NEIGHBOUR: 'it returns false'. Refute it at one input. -/
def storeTwiceWrong : ChangeSpec := { name := "storeTwice", fn := fun _ => fun
  | [d1, d2] => { results := [.lit (.bool false)], args := [d1, d2] }
  | _ => none }
def StoreTwiceWrongFalsely : Prop := storeTwiceRow.holds Tryz.pinned (OpenSpec.ofChange storeTwiceWrong)

/-- 'icehouselaw08.StoreGets': WHATEVER THE INPUT: true; the input reads as it did. -/
def storeGetsSpec : ChangeSpec := { name := "storeGets", fn := fun _ => fun
  | [d1, d2] => { results := [.lit (.bool true)], args := [d1, d2] }
  | _ => none }
def storeGetsRow : OpenClaim := { program := "ytkleecaghgpndaagreat", sum := "0bc35a049d2f7ae0263098ee370407e214ee16a9b0089fca25b33d756d522812", func := "icehouse/icehouselaw08.StoreGets", spec := "storeGets", unfollowed := true, recurses := true, apart := false }
def StoreGetsSaid : Prop := storeGetsRow.holds Tryz.pinned (OpenSpec.ofChange storeGetsSpec)

/-- ITS FALSE NEIGHBOUR: 'it returns false'. Refute it at one input. -/
def storeGetsWrong : ChangeSpec := { name := "storeGets", fn := fun _ => fun
  | [d1, d2] => { results := [.lit (.bool false)], args := [d1, d2] }
  | _ => none }
def StoreGetsWrongFalsely : Prop := storeGetsRow.holds Tryz.pinned (OpenSpec.ofChange storeGetsWrong)

/-- 'icehouselaw08.StoreSilent': WHATEVER THE INPUT: true; the input reads as it did. -/
def storeSilentSpec : ChangeSpec := { name := "storeSilent", fn := fun _ => fun
  | [d1, d2] => { results := [.lit (.bool true)], args := [d1, d2] }
  | _ => none }
def storeSilentRow : OpenClaim := { program := "ytkleecaghgpndaagreat", sum := "0bc35a049d2f7ae0263098ee370407e214ee16a9b0089fca25b33d756d522812", func := "icehouse/icehouselaw08.StoreSilent", spec := "storeSilent", unfollowed := true, recurses := true, apart := false }
def StoreSilentSaid : Prop := storeSilentRow.holds Tryz.pinned (OpenSpec.ofChange storeSilentSpec)

/-- ITS FALSE NEIGHBOUR: 'it returns false'. Refute it at one input. -/
def storeSilentWrong : ChangeSpec := { name := "storeSilent", fn := fun _ => fun
  | [d1, d2] => { results := [.lit (.bool false)], args := [d1, d2] }
  | _ => none }
def StoreSilentWrongFalsely : Prop := storeSilentRow.holds Tryz.pinned (OpenSpec.ofChange storeSilentWrong)

/- THE SECOND FORM. 'bulk': how many values and letters a reading holds, each counted each time it is reached (what is shared counts as often as it is met; a slice's spare places count too). A statement '..UptoSaid' is the law's where the arguments, and the package variables that the reading takes, are together of bulk at most 1048576: NARROWER than '..Said'. Prove '..Said' where nothing that the law and all that it calls make is longer than what came in: it says more and counts as full. Else prove '..UptoSaid'. A law counts once. -/
mutual
def uptoBulk {H : Type} : DataW H → Nat
  | .lit (.string bytes) => bytes.length + 1
  | .lit _ => 1
  | .nil => 1
  | .ptr d => uptoBulk d + 1
  | .slice elems spare => uptoBulkAll elems + uptoBulkAll spare + 1
  | .agg parts => uptoBulkAll parts + 1
  | .iface _ d => uptoBulk d + 1
  | .map entries => uptoBulkEntries entries + 1
  | .held _ => 1
def uptoBulkAll {H : Type} : List (DataW H) → Nat
  | [] => 0
  | d :: r => uptoBulk d + uptoBulkAll r
def uptoBulkEntries {H : Type} : List (Lit × DataW H) → Nat
  | [] => 0
  | x :: r => uptoBulkEntry x + uptoBulkEntries r
def uptoBulkEntry {H : Type} : Lit × DataW H → Nat
  | (.string bytes, d) => bytes.length + uptoBulk d + 1
  | (_, d) => uptoBulk d + 1
 end
def uptoSmall : (H : Type) → List (DataW H) → Bool := fun _ ds => decide (uptoBulkAll ds ≤ 1048576)
def OpenSpec.upto (s : _root_.Go.ChangeSpec) : _root_.Go.OpenSpec := { _root_.Go.OpenSpec.ofChange s with cond := some uptoSmall }

/-- 'icehouselaw08.StoreSteps', WHERE WHAT IT READS IS OF BULK AT MOST 1048576: true; the input reads as it did. -/
def storeStepsUptoRow : OpenClaim := { program := "ytkleecaghgpndaagreat", sum := "0bc35a049d2f7ae0263098ee370407e214ee16a9b0089fca25b33d756d522812", func := "icehouse/icehouselaw08.StoreSteps", spec := "storeSteps", unfollowed := true, recurses := true, apart := false, narrowed := true }
def StoreStepsUptoSaid : Prop := storeStepsUptoRow.holds Tryz.pinned (OpenSpec.upto storeStepsSpec)

/-- 'icehouselaw08.StoreRecovers', WHERE WHAT IT READS IS OF BULK AT MOST 1048576: true; the input reads as it did. -/
def storeRecoversUptoRow : OpenClaim := { program := "ytkleecaghgpndaagreat", sum := "0bc35a049d2f7ae0263098ee370407e214ee16a9b0089fca25b33d756d522812", func := "icehouse/icehouselaw08.StoreRecovers", spec := "storeRecovers", unfollowed := true, recurses := true, apart := false, narrowed := true }
def StoreRecoversUptoSaid : Prop := storeRecoversUptoRow.holds Tryz.pinned (OpenSpec.upto storeRecoversSpec)

/-- 'icehouselaw08.StoreAcks', WHERE WHAT IT READS IS OF BULK AT MOST 1048576: true; the input reads as it did. -/
def storeAcksUptoRow : OpenClaim := { program := "ytkleecaghgpndaagreat", sum := "0bc35a049d2f7ae0263098ee370407e214ee16a9b0089fca25b33d756d522812", func := "icehouse/icehouselaw08.StoreAcks", spec := "storeAcks", unfollowed := true, recurses := true, apart := false, narrowed := true }
def StoreAcksUptoSaid : Prop := storeAcksUptoRow.holds Tryz.pinned (OpenSpec.upto storeAcksSpec)

/-- 'icehouselaw08.StoreTwice', WHERE WHAT IT READS IS OF BULK AT MOST 1048576: true; the input reads as it did. -/
def storeTwiceUptoRow : OpenClaim := { program := "ytkleecaghgpndaagreat", sum := "0bc35a049d2f7ae0263098ee370407e214ee16a9b0089fca25b33d756d522812", func := "icehouse/icehouselaw08.StoreTwice", spec := "storeTwice", unfollowed := true, recurses := true, apart := false, narrowed := true }
def StoreTwiceUptoSaid : Prop := storeTwiceUptoRow.holds Tryz.pinned (OpenSpec.upto storeTwiceSpec)

/-- 'icehouselaw08.StoreGets', WHERE WHAT IT READS IS OF BULK AT MOST 1048576: true; the input reads as it did. -/
def storeGetsUptoRow : OpenClaim := { program := "ytkleecaghgpndaagreat", sum := "0bc35a049d2f7ae0263098ee370407e214ee16a9b0089fca25b33d756d522812", func := "icehouse/icehouselaw08.StoreGets", spec := "storeGets", unfollowed := true, recurses := true, apart := false, narrowed := true }
def StoreGetsUptoSaid : Prop := storeGetsUptoRow.holds Tryz.pinned (OpenSpec.upto storeGetsSpec)

/-- 'icehouselaw08.StoreSilent', WHERE WHAT IT READS IS OF BULK AT MOST 1048576: true; the input reads as it did. -/
def storeSilentUptoRow : OpenClaim := { program := "ytkleecaghgpndaagreat", sum := "0bc35a049d2f7ae0263098ee370407e214ee16a9b0089fca25b33d756d522812", func := "icehouse/icehouselaw08.StoreSilent", spec := "storeSilent", unfollowed := true, recurses := true, apart := false, narrowed := true }
def StoreSilentUptoSaid : Prop := storeSilentUptoRow.holds Tryz.pinned (OpenSpec.upto storeSilentSpec)

end Rows
end Go.Proofs.YtkleecaghgpndaaGreat
