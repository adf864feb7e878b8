/-
  DERIVED. GIVEN WITH THE SEED: THE CARDS: each row of YtelkelfpcndckaaGreatDoorRows.lean that lists a variable, with what it lists TIED to the program's text (the seventh form; the later family's looks); each row that meets fmt, with fmt's text TOLD by the authors' own Lean function (tested against real Go, not proved from fmt's source: count such statements apart). THE CARD IS WHAT COUNTS. Prove the row's statement (the work); the ties are given (YtelkelfpcndckaaGreatDoorTie.lean); close each card by the builder's one call (the guide's Derived/Test/ToyasCard.lean, 'card_holds'). Laid BY PROGRAM, IN A SANDBOX (cutbox-door.mjs). By AI agents, Wed Nov 11 2026. No macro, syntax, notation, axiom, sorry.
-/
import Derived.Test.YtelkelfpcndckaaGreatDoorRows
import GoSem.ClaimSeven
namespace Go.Proofs.YtelkelfpcndckaaGreatDoor
namespace Rows

/-- THE TIED CARD OF 'paideialaw2.PrinterTexts'. -/
def printerTextsCard : Claim7 := { stood := { row := printerTextsRow, standIns := [], harness := (true, "861886373d88b49c183fe7d5ac128ccea82efb3c80b48f26cf61f79fb977ca85"), looks := true }, kinds := [], alts := [], laidByText := true, laidKinds := [.data, .data, .data], laidTests := true, laidLooks := .later }
def PrinterTextsCardSaid : Prop := Claim7.holds Tryz.pinned (.plain (OpenSpec.ofChange printerTextsSpec)) printerTextsCard

/-- THE TIED CARD OF 'paideialaw3.ParserDeep'. -/
def parserDeepCard : Claim7 := { stood := { row := parserDeepRow, standIns := [], harness := (true, "861886373d88b49c183fe7d5ac128ccea82efb3c80b48f26cf61f79fb977ca85"), looks := true }, kinds := [], alts := [], laidByText := true, laidKinds := [.sentinel, .sentinel, .sentinel, .sentinel, .sentinel, .sentinel, .sentinel, .sentinel, .sentinel, .sentinel, .sentinel, .sentinel, .sentinel, .sentinel, .sentinel], laidTests := true, laidLooks := .later }
def ParserDeepCardSaid : Prop := Claim7.holds Tryz.pinned (.plain (OpenSpec.ofChange parserDeepSpec)) parserDeepCard

/-- THE TIED CARD OF 'paideialaw3.ParserPlaces'. -/
def parserPlacesCard : Claim7 := { stood := { row := parserPlacesRow, standIns := [], harness := (true, "861886373d88b49c183fe7d5ac128ccea82efb3c80b48f26cf61f79fb977ca85"), looks := true }, kinds := [], alts := [], laidByText := true, laidKinds := [.sentinel, .sentinel, .sentinel], laidTests := true, laidLooks := .later }
def ParserPlacesCardSaid : Prop := Claim7.holds Tryz.pinned (.plain (OpenSpec.ofChange parserPlacesSpec)) parserPlacesCard

/-- THE TIED CARD OF 'paideialaw3.ParserSigs'. -/
def parserSigsCard : Claim7 := { stood := { row := parserSigsRow, standIns := [], harness := (true, "861886373d88b49c183fe7d5ac128ccea82efb3c80b48f26cf61f79fb977ca85"), looks := true }, kinds := [], alts := [], laidByText := true, laidKinds := [.sentinel, .sentinel, .sentinel], laidTests := true, laidLooks := .later }
def ParserSigsCardSaid : Prop := Claim7.holds Tryz.pinned (.plain (OpenSpec.ofChange parserSigsSpec)) parserSigsCard

/-- THE SECOND FORM's CARD OF 'paideialaw2.PrinterTexts'. -/
def printerTextsUptoCard : Claim7 := { stood := { row := printerTextsUptoRow, standIns := [], harness := (true, "861886373d88b49c183fe7d5ac128ccea82efb3c80b48f26cf61f79fb977ca85"), looks := true }, kinds := [], alts := [], laidByText := true, laidKinds := [.data, .data, .data], laidTests := true, laidLooks := .later }
def PrinterTextsUptoCardSaid : Prop := Claim7.holds Tryz.pinned (.plain (OpenSpec.upto printerTextsSpec)) printerTextsUptoCard

/-- THE SECOND FORM's CARD OF 'paideialaw3.ParserDeep'. -/
def parserDeepUptoCard : Claim7 := { stood := { row := parserDeepUptoRow, standIns := [], harness := (true, "861886373d88b49c183fe7d5ac128ccea82efb3c80b48f26cf61f79fb977ca85"), looks := true }, kinds := [], alts := [], laidByText := true, laidKinds := [.sentinel, .sentinel, .sentinel, .sentinel, .sentinel, .sentinel, .sentinel, .sentinel, .sentinel, .sentinel, .sentinel, .sentinel, .sentinel, .sentinel, .sentinel], laidTests := true, laidLooks := .later }
def ParserDeepUptoCardSaid : Prop := Claim7.holds Tryz.pinned (.plain (OpenSpec.upto parserDeepSpec)) parserDeepUptoCard

/-- THE SECOND FORM's CARD OF 'paideialaw3.ParserPlaces'. -/
def parserPlacesUptoCard : Claim7 := { stood := { row := parserPlacesUptoRow, standIns := [], harness := (true, "861886373d88b49c183fe7d5ac128ccea82efb3c80b48f26cf61f79fb977ca85"), looks := true }, kinds := [], alts := [], laidByText := true, laidKinds := [.sentinel, .sentinel, .sentinel], laidTests := true, laidLooks := .later }
def ParserPlacesUptoCardSaid : Prop := Claim7.holds Tryz.pinned (.plain (OpenSpec.upto parserPlacesSpec)) parserPlacesUptoCard

/-- THE SECOND FORM's CARD OF 'paideialaw3.ParserSigs'. -/
def parserSigsUptoCard : Claim7 := { stood := { row := parserSigsUptoRow, standIns := [], harness := (true, "861886373d88b49c183fe7d5ac128ccea82efb3c80b48f26cf61f79fb977ca85"), looks := true }, kinds := [], alts := [], laidByText := true, laidKinds := [.sentinel, .sentinel, .sentinel], laidTests := true, laidLooks := .later }
def ParserSigsUptoCardSaid : Prop := Claim7.holds Tryz.pinned (.plain (OpenSpec.upto parserSigsSpec)) parserSigsUptoCard
end Rows
end Go.Proofs.YtelkelfpcndckaaGreatDoor
