/-
  DERIVED. GIVEN WITH THE SEED: THE CARDS: each row of YteokghghpmppnaaGreatDoorRows.lean that lists a variable, with what it lists TIED to the program's text (the seventh form; the later family's looks); each row that meets fmt, with fmt's text TOLD by the authors' own Lean function (tested against real Go, not proved from fmt's source: count such statements apart). THE CARD IS WHAT COUNTS. Prove the row's statement (the work); the ties are given (YteokghghpmppnaaGreatDoorTie.lean); close each card by the builder's one call (the guide's Derived/Test/ToyasCard.lean, 'card_holds'). Laid BY PROGRAM, IN A SANDBOX (cutbox-door.mjs). By AI agents, Wed Nov 11 2026. No macro, syntax, notation, axiom, sorry.
-/
import Derived.Test.YteokghghpmppnaaGreatDoorRows
import GoSem.ClaimSeven
namespace Go.Proofs.YteokghghpmppnaaGreatDoor
namespace Rows

/-- THE TIED CARD OF 'weighlocklaw17.BuildNames'. -/
def buildNamesCard : Claim7 := { stood := { row := buildNamesRow, standIns := [], harness := (true, "dfe44f2cff1528f6683de803c5af5c7ec0c1e3640824eb17910bf25056e46ffd"), looks := false }, kinds := [], alts := [], laidByText := true, laidKinds := [.data], laidTests := true, laidLooks := .later }
def BuildNamesCardSaid : Prop := Claim7.holds Tryz.pinned (.plain (OpenSpec.ofChange buildNamesSpec)) buildNamesCard

/-- THE SECOND FORM's CARD OF 'weighlocklaw17.BuildNames'. -/
def buildNamesUptoCard : Claim7 := { stood := { row := buildNamesUptoRow, standIns := [], harness := (true, "dfe44f2cff1528f6683de803c5af5c7ec0c1e3640824eb17910bf25056e46ffd"), looks := false }, kinds := [], alts := [], laidByText := true, laidKinds := [.data], laidTests := true, laidLooks := .later }
def BuildNamesUptoCardSaid : Prop := Claim7.holds Tryz.pinned (.plain (OpenSpec.upto buildNamesSpec)) buildNamesUptoCard
end Rows
end Go.Proofs.YteokghghpmppnaaGreatDoor
