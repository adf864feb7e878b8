/-
  DERIVED. GIVEN WITH THE SEED: THE CARDS: each row of YtdidgddcgjpokaaGreatDoorRows.lean that lists a variable, with what it lists TIED to the program's text (the seventh form; the later family's looks); each row that meets fmt, with fmt's text TOLD by the authors' own Lean function (tested against real Go, not proved from fmt's source: count such statements apart). THE CARD IS WHAT COUNTS. Prove the row's statement (the work); the ties are given (YtdidgddcgjpokaaGreatDoorTie.lean); close each card by the builder's one call (the guide's Derived/Test/ToyasCard.lean, 'card_holds'). Laid BY PROGRAM, IN A SANDBOX (cutbox-door.mjs). By AI agents, Wed Nov 11 2026. No macro, syntax, notation, axiom, sorry.
-/
import Derived.Test.YtdidgddcgjpokaaGreatDoorRows
import GoSem.ClaimSeven
namespace Go.Proofs.YtdidgddcgjpokaaGreatDoor
namespace Rows

/-- THE TIED CARD OF 'paideialaw8.SchemeSays'. -/
def schemeSaysCard : Claim7 := { stood := { row := schemeSaysRow, standIns := [], harness := (true, "db290dc9a6ae298547ca582a913bf1e0c54ae3fe51b3954a6748b029540c816d"), looks := false }, kinds := [], alts := [], laidByText := true, laidKinds := [.data, .data, .data], laidTests := true, laidLooks := .later }
def SchemeSaysCardSaid : Prop := Claim7.holds Tryz.pinned (.plain (OpenSpec.ofChange schemeSaysSpec)) schemeSaysCard

/-- THE TIED CARD OF 'paideialaw8.SchemeNames'. -/
def schemeNamesCard : Claim7 := { stood := { row := schemeNamesRow, standIns := [], harness := (true, "db290dc9a6ae298547ca582a913bf1e0c54ae3fe51b3954a6748b029540c816d"), looks := false }, kinds := [], alts := [], laidByText := true, laidKinds := [.data, .data, .data], laidTests := true, laidLooks := .later }
def SchemeNamesCardSaid : Prop := Claim7.holds Tryz.pinned (.plain (OpenSpec.ofChange schemeNamesSpec)) schemeNamesCard

/-- THE SECOND FORM's CARD OF 'paideialaw8.SchemeSays'. -/
def schemeSaysUptoCard : Claim7 := { stood := { row := schemeSaysUptoRow, standIns := [], harness := (true, "db290dc9a6ae298547ca582a913bf1e0c54ae3fe51b3954a6748b029540c816d"), looks := false }, kinds := [], alts := [], laidByText := true, laidKinds := [.data, .data, .data], laidTests := true, laidLooks := .later }
def SchemeSaysUptoCardSaid : Prop := Claim7.holds Tryz.pinned (.plain (OpenSpec.upto schemeSaysSpec)) schemeSaysUptoCard

/-- THE SECOND FORM's CARD OF 'paideialaw8.SchemeNames'. -/
def schemeNamesUptoCard : Claim7 := { stood := { row := schemeNamesUptoRow, standIns := [], harness := (true, "db290dc9a6ae298547ca582a913bf1e0c54ae3fe51b3954a6748b029540c816d"), looks := false }, kinds := [], alts := [], laidByText := true, laidKinds := [.data, .data, .data], laidTests := true, laidLooks := .later }
def SchemeNamesUptoCardSaid : Prop := Claim7.holds Tryz.pinned (.plain (OpenSpec.upto schemeNamesSpec)) schemeNamesUptoCard
end Rows
end Go.Proofs.YtdidgddcgjpokaaGreatDoor
