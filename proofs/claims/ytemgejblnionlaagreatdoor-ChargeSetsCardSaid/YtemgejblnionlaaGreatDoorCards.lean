/-
  DERIVED. GIVEN WITH THE SEED: THE CARDS: each row of YtemgejblnionlaaGreatDoorRows.lean that lists a variable, with what it lists TIED to the program's text (the seventh form; the later family's looks); each row that meets fmt, with fmt's text TOLD by the authors' own Lean function (tested against real Go, not proved from fmt's source: count such statements apart). THE CARD IS WHAT COUNTS. Prove the row's statement (the work); the ties are given (YtemgejblnionlaaGreatDoorTie.lean); close each card by the builder's one call (the guide's Derived/Test/ToyasCard.lean, 'card_holds'). Laid BY PROGRAM, IN A SANDBOX (cutbox-door.mjs). By AI agents, Wed Nov 11 2026. No macro, syntax, notation, axiom, sorry.
-/
import Derived.Test.YtemgejblnionlaaGreatDoorRows
import GoSem.ClaimSeven
namespace Go.Proofs.YtemgejblnionlaaGreatDoor
namespace Rows

/-- THE TIED CARD OF 'burgagelaw10.ChargeMatchesReference'. -/
def chargeMatchesReferenceCard : Claim7 := { stood := { row := chargeMatchesReferenceRow, standIns := [], harness := (true, "d3aecfa39c078ff39ee734ecf04525d0ca5f709375f2a88ec70128af6de2ab97"), looks := true }, kinds := [], alts := [], laidByText := true, laidKinds := [.data], laidTests := true, laidLooks := .later }
def ChargeMatchesReferenceCardSaid : Prop := Claim7.holds Tryz.pinned (.plain (OpenSpec.ofChange chargeMatchesReferenceSpec)) chargeMatchesReferenceCard

/-- THE TIED CARD OF 'burgagelaw10.ChargeSums'. -/
def chargeSumsCard : Claim7 := { stood := { row := chargeSumsRow, standIns := [], harness := (true, "d3aecfa39c078ff39ee734ecf04525d0ca5f709375f2a88ec70128af6de2ab97"), looks := true }, kinds := [], alts := [], laidByText := true, laidKinds := [.data], laidTests := true, laidLooks := .later }
def ChargeSumsCardSaid : Prop := Claim7.holds Tryz.pinned (.plain (OpenSpec.ofChange chargeSumsSpec)) chargeSumsCard

/-- THE TIED CARD OF 'burgagelaw10.ChargeChanges'. -/
def chargeChangesCard : Claim7 := { stood := { row := chargeChangesRow, standIns := [], harness := (true, "d3aecfa39c078ff39ee734ecf04525d0ca5f709375f2a88ec70128af6de2ab97"), looks := true }, kinds := [], alts := [], laidByText := true, laidKinds := [.data], laidTests := true, laidLooks := .later }
def ChargeChangesCardSaid : Prop := Claim7.holds Tryz.pinned (.plain (OpenSpec.ofChange chargeChangesSpec)) chargeChangesCard

/-- THE TIED CARD OF 'burgagelaw10.ChargeLimits'. -/
def chargeLimitsCard : Claim7 := { stood := { row := chargeLimitsRow, standIns := [], harness := (true, "d3aecfa39c078ff39ee734ecf04525d0ca5f709375f2a88ec70128af6de2ab97"), looks := true }, kinds := [], alts := [], laidByText := true, laidKinds := [.data], laidTests := true, laidLooks := .later }
def ChargeLimitsCardSaid : Prop := Claim7.holds Tryz.pinned (.plain (OpenSpec.ofChange chargeLimitsSpec)) chargeLimitsCard

/-- THE TIED CARD OF 'burgagelaw10.ChargeOwners'. -/
def chargeOwnersCard : Claim7 := { stood := { row := chargeOwnersRow, standIns := [], harness := (true, "d3aecfa39c078ff39ee734ecf04525d0ca5f709375f2a88ec70128af6de2ab97"), looks := true }, kinds := [], alts := [], laidByText := true, laidKinds := [.data], laidTests := true, laidLooks := .later }
def ChargeOwnersCardSaid : Prop := Claim7.holds Tryz.pinned (.plain (OpenSpec.ofChange chargeOwnersSpec)) chargeOwnersCard

/-- THE TIED CARD OF 'burgagelaw10.ChargeHeld'. -/
def chargeHeldCard : Claim7 := { stood := { row := chargeHeldRow, standIns := [], harness := (true, "d3aecfa39c078ff39ee734ecf04525d0ca5f709375f2a88ec70128af6de2ab97"), looks := true }, kinds := [], alts := [], laidByText := true, laidKinds := [.data], laidTests := true, laidLooks := .later }
def ChargeHeldCardSaid : Prop := Claim7.holds Tryz.pinned (.plain (OpenSpec.ofChange chargeHeldSpec)) chargeHeldCard

/-- THE TIED CARD OF 'burgagelaw10.ChargeSets'. -/
def chargeSetsCard : Claim7 := { stood := { row := chargeSetsRow, standIns := [], harness := (true, "d3aecfa39c078ff39ee734ecf04525d0ca5f709375f2a88ec70128af6de2ab97"), looks := true }, kinds := [], alts := [], laidByText := true, laidKinds := [.data], laidTests := true, laidLooks := .later }
def ChargeSetsCardSaid : Prop := Claim7.holds Tryz.pinned (.plain (OpenSpec.ofChange chargeSetsSpec)) chargeSetsCard

/-- THE SECOND FORM's CARD OF 'burgagelaw10.ChargeMatchesReference'. -/
def chargeMatchesReferenceUptoCard : Claim7 := { stood := { row := chargeMatchesReferenceUptoRow, standIns := [], harness := (true, "d3aecfa39c078ff39ee734ecf04525d0ca5f709375f2a88ec70128af6de2ab97"), looks := true }, kinds := [], alts := [], laidByText := true, laidKinds := [.data], laidTests := true, laidLooks := .later }
def ChargeMatchesReferenceUptoCardSaid : Prop := Claim7.holds Tryz.pinned (.plain (OpenSpec.upto chargeMatchesReferenceSpec)) chargeMatchesReferenceUptoCard

/-- THE SECOND FORM's CARD OF 'burgagelaw10.ChargeSums'. -/
def chargeSumsUptoCard : Claim7 := { stood := { row := chargeSumsUptoRow, standIns := [], harness := (true, "d3aecfa39c078ff39ee734ecf04525d0ca5f709375f2a88ec70128af6de2ab97"), looks := true }, kinds := [], alts := [], laidByText := true, laidKinds := [.data], laidTests := true, laidLooks := .later }
def ChargeSumsUptoCardSaid : Prop := Claim7.holds Tryz.pinned (.plain (OpenSpec.upto chargeSumsSpec)) chargeSumsUptoCard

/-- THE SECOND FORM's CARD OF 'burgagelaw10.ChargeChanges'. -/
def chargeChangesUptoCard : Claim7 := { stood := { row := chargeChangesUptoRow, standIns := [], harness := (true, "d3aecfa39c078ff39ee734ecf04525d0ca5f709375f2a88ec70128af6de2ab97"), looks := true }, kinds := [], alts := [], laidByText := true, laidKinds := [.data], laidTests := true, laidLooks := .later }
def ChargeChangesUptoCardSaid : Prop := Claim7.holds Tryz.pinned (.plain (OpenSpec.upto chargeChangesSpec)) chargeChangesUptoCard

/-- THE SECOND FORM's CARD OF 'burgagelaw10.ChargeLimits'. -/
def chargeLimitsUptoCard : Claim7 := { stood := { row := chargeLimitsUptoRow, standIns := [], harness := (true, "d3aecfa39c078ff39ee734ecf04525d0ca5f709375f2a88ec70128af6de2ab97"), looks := true }, kinds := [], alts := [], laidByText := true, laidKinds := [.data], laidTests := true, laidLooks := .later }
def ChargeLimitsUptoCardSaid : Prop := Claim7.holds Tryz.pinned (.plain (OpenSpec.upto chargeLimitsSpec)) chargeLimitsUptoCard

/-- THE SECOND FORM's CARD OF 'burgagelaw10.ChargeOwners'. -/
def chargeOwnersUptoCard : Claim7 := { stood := { row := chargeOwnersUptoRow, standIns := [], harness := (true, "d3aecfa39c078ff39ee734ecf04525d0ca5f709375f2a88ec70128af6de2ab97"), looks := true }, kinds := [], alts := [], laidByText := true, laidKinds := [.data], laidTests := true, laidLooks := .later }
def ChargeOwnersUptoCardSaid : Prop := Claim7.holds Tryz.pinned (.plain (OpenSpec.upto chargeOwnersSpec)) chargeOwnersUptoCard

/-- THE SECOND FORM's CARD OF 'burgagelaw10.ChargeHeld'. -/
def chargeHeldUptoCard : Claim7 := { stood := { row := chargeHeldUptoRow, standIns := [], harness := (true, "d3aecfa39c078ff39ee734ecf04525d0ca5f709375f2a88ec70128af6de2ab97"), looks := true }, kinds := [], alts := [], laidByText := true, laidKinds := [.data], laidTests := true, laidLooks := .later }
def ChargeHeldUptoCardSaid : Prop := Claim7.holds Tryz.pinned (.plain (OpenSpec.upto chargeHeldSpec)) chargeHeldUptoCard

/-- THE SECOND FORM's CARD OF 'burgagelaw10.ChargeSets'. -/
def chargeSetsUptoCard : Claim7 := { stood := { row := chargeSetsUptoRow, standIns := [], harness := (true, "d3aecfa39c078ff39ee734ecf04525d0ca5f709375f2a88ec70128af6de2ab97"), looks := true }, kinds := [], alts := [], laidByText := true, laidKinds := [.data], laidTests := true, laidLooks := .later }
def ChargeSetsUptoCardSaid : Prop := Claim7.holds Tryz.pinned (.plain (OpenSpec.upto chargeSetsSpec)) chargeSetsUptoCard
end Rows
end Go.Proofs.YtemgejblnionlaaGreatDoor
