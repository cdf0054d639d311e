/-
  DERIVED. GIVEN WITH THE SEED: THE CARDS: each row of YtahnjkkgojfdmaaGreatDoorRows.lean that lists a variable, with what it lists TIED to the program's text (the seventh form; the later family's looks); each row that meets fmt, with fmt's text TOLD by the authors' own Lean function (tested against real Go, not proved from fmt's source: count such statements apart). THE CARD IS WHAT COUNTS. Prove the row's statement (the work); the ties are given (YtahnjkkgojfdmaaGreatDoorTie.lean); close each card by the builder's one call (the guide's Derived/Test/ToyasCard.lean, 'card_holds'). Laid BY PROGRAM, IN A SANDBOX (cutbox-door.mjs). By AI agents, Wed Nov 11 2026. No macro, syntax, notation, axiom, sorry.
-/
import Derived.Test.YtahnjkkgojfdmaaGreatDoorRows
import GoSem.ClaimSeven
namespace Go.Proofs.YtahnjkkgojfdmaaGreatDoor
namespace Rows

/-- THE TIED CARD OF 'icehouselaw14.DepotSteps'. -/
def depotStepsCard : Claim7 := { stood := { row := depotStepsRow, standIns := [], harness := (true, "50d1eb5b7fd9a6255dab3d5e2a30ad26cf92a8b6d885209db70749248d02f98f"), looks := false }, kinds := [], alts := [], laidByText := true, laidKinds := [.data], laidTests := true, laidLooks := .later }
def DepotStepsCardSaid : Prop := Claim7.holds Tryz.pinned (.plain (OpenSpec.ofChange depotStepsSpec)) depotStepsCard

/-- THE TIED CARD OF 'icehouselaw14.DepotLasts'. -/
def depotLastsCard : Claim7 := { stood := { row := depotLastsRow, standIns := [], harness := (true, "50d1eb5b7fd9a6255dab3d5e2a30ad26cf92a8b6d885209db70749248d02f98f"), looks := false }, kinds := [], alts := [], laidByText := true, laidKinds := [.data], laidTests := true, laidLooks := .later }
def DepotLastsCardSaid : Prop := Claim7.holds Tryz.pinned (.plain (OpenSpec.ofChange depotLastsSpec)) depotLastsCard

/-- THE TIED CARD OF 'icehouselaw14.DepotCopies'. -/
def depotCopiesCard : Claim7 := { stood := { row := depotCopiesRow, standIns := [], harness := (true, "50d1eb5b7fd9a6255dab3d5e2a30ad26cf92a8b6d885209db70749248d02f98f"), looks := false }, kinds := [], alts := [], laidByText := true, laidKinds := [.data], laidTests := true, laidLooks := .later }
def DepotCopiesCardSaid : Prop := Claim7.holds Tryz.pinned (.plain (OpenSpec.ofChange depotCopiesSpec)) depotCopiesCard

/-- THE TIED CARD OF 'icehouselaw14.DepotLooks'. -/
def depotLooksCard : Claim7 := { stood := { row := depotLooksRow, standIns := [], harness := (true, "50d1eb5b7fd9a6255dab3d5e2a30ad26cf92a8b6d885209db70749248d02f98f"), looks := false }, kinds := [], alts := [], laidByText := true, laidKinds := [.data], laidTests := true, laidLooks := .later }
def DepotLooksCardSaid : Prop := Claim7.holds Tryz.pinned (.plain (OpenSpec.ofChange depotLooksSpec)) depotLooksCard

/-- THE TIED CARD OF 'icehouselaw14.DepotAcks'. -/
def depotAcksCard : Claim7 := { stood := { row := depotAcksRow, standIns := [], harness := (true, "50d1eb5b7fd9a6255dab3d5e2a30ad26cf92a8b6d885209db70749248d02f98f"), looks := false }, kinds := [], alts := [], laidByText := true, laidKinds := [.data], laidTests := true, laidLooks := .later }
def DepotAcksCardSaid : Prop := Claim7.holds Tryz.pinned (.plain (OpenSpec.ofChange depotAcksSpec)) depotAcksCard

/-- THE TIED CARD OF 'icehouselaw14.DepotCompacts'. -/
def depotCompactsCard : Claim7 := { stood := { row := depotCompactsRow, standIns := [], harness := (true, "50d1eb5b7fd9a6255dab3d5e2a30ad26cf92a8b6d885209db70749248d02f98f"), looks := false }, kinds := [], alts := [], laidByText := true, laidKinds := [.data], laidTests := true, laidLooks := .later }
def DepotCompactsCardSaid : Prop := Claim7.holds Tryz.pinned (.plain (OpenSpec.ofChange depotCompactsSpec)) depotCompactsCard

/-- THE SECOND FORM's CARD OF 'icehouselaw14.DepotSteps'. -/
def depotStepsUptoCard : Claim7 := { stood := { row := depotStepsUptoRow, standIns := [], harness := (true, "50d1eb5b7fd9a6255dab3d5e2a30ad26cf92a8b6d885209db70749248d02f98f"), looks := false }, kinds := [], alts := [], laidByText := true, laidKinds := [.data], laidTests := true, laidLooks := .later }
def DepotStepsUptoCardSaid : Prop := Claim7.holds Tryz.pinned (.plain (OpenSpec.upto depotStepsSpec)) depotStepsUptoCard

/-- THE SECOND FORM's CARD OF 'icehouselaw14.DepotLasts'. -/
def depotLastsUptoCard : Claim7 := { stood := { row := depotLastsUptoRow, standIns := [], harness := (true, "50d1eb5b7fd9a6255dab3d5e2a30ad26cf92a8b6d885209db70749248d02f98f"), looks := false }, kinds := [], alts := [], laidByText := true, laidKinds := [.data], laidTests := true, laidLooks := .later }
def DepotLastsUptoCardSaid : Prop := Claim7.holds Tryz.pinned (.plain (OpenSpec.upto depotLastsSpec)) depotLastsUptoCard

/-- THE SECOND FORM's CARD OF 'icehouselaw14.DepotCopies'. -/
def depotCopiesUptoCard : Claim7 := { stood := { row := depotCopiesUptoRow, standIns := [], harness := (true, "50d1eb5b7fd9a6255dab3d5e2a30ad26cf92a8b6d885209db70749248d02f98f"), looks := false }, kinds := [], alts := [], laidByText := true, laidKinds := [.data], laidTests := true, laidLooks := .later }
def DepotCopiesUptoCardSaid : Prop := Claim7.holds Tryz.pinned (.plain (OpenSpec.upto depotCopiesSpec)) depotCopiesUptoCard

/-- THE SECOND FORM's CARD OF 'icehouselaw14.DepotLooks'. -/
def depotLooksUptoCard : Claim7 := { stood := { row := depotLooksUptoRow, standIns := [], harness := (true, "50d1eb5b7fd9a6255dab3d5e2a30ad26cf92a8b6d885209db70749248d02f98f"), looks := false }, kinds := [], alts := [], laidByText := true, laidKinds := [.data], laidTests := true, laidLooks := .later }
def DepotLooksUptoCardSaid : Prop := Claim7.holds Tryz.pinned (.plain (OpenSpec.upto depotLooksSpec)) depotLooksUptoCard

/-- THE SECOND FORM's CARD OF 'icehouselaw14.DepotAcks'. -/
def depotAcksUptoCard : Claim7 := { stood := { row := depotAcksUptoRow, standIns := [], harness := (true, "50d1eb5b7fd9a6255dab3d5e2a30ad26cf92a8b6d885209db70749248d02f98f"), looks := false }, kinds := [], alts := [], laidByText := true, laidKinds := [.data], laidTests := true, laidLooks := .later }
def DepotAcksUptoCardSaid : Prop := Claim7.holds Tryz.pinned (.plain (OpenSpec.upto depotAcksSpec)) depotAcksUptoCard

/-- THE SECOND FORM's CARD OF 'icehouselaw14.DepotCompacts'. -/
def depotCompactsUptoCard : Claim7 := { stood := { row := depotCompactsUptoRow, standIns := [], harness := (true, "50d1eb5b7fd9a6255dab3d5e2a30ad26cf92a8b6d885209db70749248d02f98f"), looks := false }, kinds := [], alts := [], laidByText := true, laidKinds := [.data], laidTests := true, laidLooks := .later }
def DepotCompactsUptoCardSaid : Prop := Claim7.holds Tryz.pinned (.plain (OpenSpec.upto depotCompactsSpec)) depotCompactsUptoCard
end Rows
end Go.Proofs.YtahnjkkgojfdmaaGreatDoor
