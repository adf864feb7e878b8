/-
  DERIVED. GIVEN WITH THE SEED: THE CARDS: each row of YtdcjkglhhmnjiaaGreatDoorRows.lean that lists a variable, with what it lists TIED to the program's text (the seventh form; the later family's looks); each row that meets fmt, with fmt's text TOLD by the authors' own Lean function (tested against real Go, not proved from fmt's source: count such statements apart). THE CARD IS WHAT COUNTS. Prove the row's statement (the work); the ties are given (YtdcjkglhhmnjiaaGreatDoorTie.lean); close each card by the builder's one call (the guide's Derived/Test/ToyasCard.lean, 'card_holds'). Laid BY PROGRAM, IN A SANDBOX (cutbox-door.mjs). By AI agents, Wed Nov 11 2026. No macro, syntax, notation, axiom, sorry.
-/
import Derived.Test.YtdcjkglhhmnjiaaGreatDoorRows
import GoSem.ClaimSeven
namespace Go.Proofs.YtdcjkglhhmnjiaaGreatDoor
namespace Rows

/-- THE TIED CARD OF 'paideialaw12.ClassesSay'. -/
def classesSayCard : Claim7 := { stood := { row := classesSayRow, standIns := [], harness := (true, "e5c79019ed34517857c2436672e0e350ddefb4ffd8ffb827034e14809167ece1"), looks := true }, kinds := [], alts := [], laidByText := true, laidKinds := [.sentinel, .sentinel, .sentinel, .sentinel, .sentinel, .sentinel, .sentinel, .sentinel, .sentinel, .sentinel, .sentinel, .sentinel, .sentinel, .sentinel, .sentinel], laidTests := true, laidLooks := .later }
def ClassesSayCardSaid : Prop := Claim7.holds Tryz.pinned (.plain (OpenSpec.ofChange classesSaySpec)) classesSayCard

/-- THE TIED CARD OF 'paideialaw12.ClassesSchemes'. -/
def classesSchemesCard : Claim7 := { stood := { row := classesSchemesRow, standIns := [], harness := (true, "e5c79019ed34517857c2436672e0e350ddefb4ffd8ffb827034e14809167ece1"), looks := true }, kinds := [], alts := [], laidByText := true, laidKinds := [.sentinel, .sentinel, .sentinel, .sentinel], laidTests := true, laidLooks := .later }
def ClassesSchemesCardSaid : Prop := Claim7.holds Tryz.pinned (.plain (OpenSpec.ofChange classesSchemesSpec)) classesSchemesCard

/-- THE TIED CARD OF 'paideialaw12.ClassesWrong'. -/
def classesWrongCard : Claim7 := { stood := { row := classesWrongRow, standIns := [], harness := (true, "e5c79019ed34517857c2436672e0e350ddefb4ffd8ffb827034e14809167ece1"), looks := true }, kinds := [], alts := [], laidByText := true, laidKinds := [.sentinel, .sentinel, .sentinel, .sentinel, .sentinel, .sentinel, .sentinel, .sentinel, .sentinel, .sentinel, .sentinel, .sentinel, .sentinel, .sentinel, .sentinel], laidTests := true, laidLooks := .later }
def ClassesWrongCardSaid : Prop := Claim7.holds Tryz.pinned (.plain (OpenSpec.ofChange classesWrongSpec)) classesWrongCard

/-- THE SECOND FORM's CARD OF 'paideialaw12.ClassesSay'. -/
def classesSayUptoCard : Claim7 := { stood := { row := classesSayUptoRow, standIns := [], harness := (true, "e5c79019ed34517857c2436672e0e350ddefb4ffd8ffb827034e14809167ece1"), looks := true }, kinds := [], alts := [], laidByText := true, laidKinds := [.sentinel, .sentinel, .sentinel, .sentinel, .sentinel, .sentinel, .sentinel, .sentinel, .sentinel, .sentinel, .sentinel, .sentinel, .sentinel, .sentinel, .sentinel], laidTests := true, laidLooks := .later }
def ClassesSayUptoCardSaid : Prop := Claim7.holds Tryz.pinned (.plain (OpenSpec.upto classesSaySpec)) classesSayUptoCard

/-- THE SECOND FORM's CARD OF 'paideialaw12.ClassesSchemes'. -/
def classesSchemesUptoCard : Claim7 := { stood := { row := classesSchemesUptoRow, standIns := [], harness := (true, "e5c79019ed34517857c2436672e0e350ddefb4ffd8ffb827034e14809167ece1"), looks := true }, kinds := [], alts := [], laidByText := true, laidKinds := [.sentinel, .sentinel, .sentinel, .sentinel], laidTests := true, laidLooks := .later }
def ClassesSchemesUptoCardSaid : Prop := Claim7.holds Tryz.pinned (.plain (OpenSpec.upto classesSchemesSpec)) classesSchemesUptoCard

/-- THE SECOND FORM's CARD OF 'paideialaw12.ClassesWrong'. -/
def classesWrongUptoCard : Claim7 := { stood := { row := classesWrongUptoRow, standIns := [], harness := (true, "e5c79019ed34517857c2436672e0e350ddefb4ffd8ffb827034e14809167ece1"), looks := true }, kinds := [], alts := [], laidByText := true, laidKinds := [.sentinel, .sentinel, .sentinel, .sentinel, .sentinel, .sentinel, .sentinel, .sentinel, .sentinel, .sentinel, .sentinel, .sentinel, .sentinel, .sentinel, .sentinel], laidTests := true, laidLooks := .later }
def ClassesWrongUptoCardSaid : Prop := Claim7.holds Tryz.pinned (.plain (OpenSpec.upto classesWrongSpec)) classesWrongUptoCard
end Rows
end Go.Proofs.YtdcjkglhhmnjiaaGreatDoor
