/-
  DERIVED. GIVEN WITH THE SEED: THE CARDS: each row of YtnmejeeajidaaaaGreatDoorRows.lean that lists a variable, with what it lists TIED to the program's text (the seventh form; the later family's looks); each row that meets fmt, with fmt's text TOLD by the authors' own Lean function (tested against real Go, not proved from fmt's source: count such statements apart). THE CARD IS WHAT COUNTS. Prove the row's statement (the work); the ties are given (YtnmejeeajidaaaaGreatDoorTie.lean); close each card by the builder's one call (the guide's Derived/Test/ToyasCard.lean, 'card_holds'). Laid BY PROGRAM, IN A SANDBOX (cutbox-door.mjs). By AI agents, Wed Nov 11 2026. No macro, syntax, notation, axiom, sorry.
-/
import Derived.Test.YtnmejeeajidaaaaGreatDoorRows
import GoSem.ClaimSeven
namespace Go.Proofs.YtnmejeeajidaaaaGreatDoor
namespace Rows

/-- THE TIED CARD OF 'paideialaw13.InstsRows'. -/
def instsRowsCard : Claim7 := { stood := { row := instsRowsRow, standIns := [], harness := (true, "9196846c5332798e61d383a091a460cb0d00828154584387c0076cd6a1f06579"), looks := true }, kinds := [], alts := [], laidByText := true, laidKinds := [.sentinel, .sentinel, .sentinel, .sentinel, .sentinel, .sentinel, .sentinel, .sentinel, .sentinel, .sentinel, .sentinel, .sentinel, .sentinel, .sentinel, .sentinel], laidTests := true, laidLooks := .later }
def InstsRowsCardSaid : Prop := Claim7.holds Tryz.pinned (.plain (OpenSpec.ofChange instsRowsSpec)) instsRowsCard

/-- THE TIED CARD OF 'paideialaw13.InstsSay'. -/
def instsSayCard : Claim7 := { stood := { row := instsSayRow, standIns := [], harness := (true, "9196846c5332798e61d383a091a460cb0d00828154584387c0076cd6a1f06579"), looks := true }, kinds := [], alts := [], laidByText := true, laidKinds := [.sentinel, .sentinel, .sentinel, .sentinel, .sentinel, .sentinel, .sentinel, .sentinel, .sentinel, .sentinel, .sentinel, .sentinel, .sentinel, .sentinel, .sentinel], laidTests := true, laidLooks := .later }
def InstsSayCardSaid : Prop := Claim7.holds Tryz.pinned (.plain (OpenSpec.ofChange instsSaySpec)) instsSayCard

/-- THE TIED CARD OF 'paideialaw13.InstsWrong'. -/
def instsWrongCard : Claim7 := { stood := { row := instsWrongRow, standIns := [], harness := (true, "9196846c5332798e61d383a091a460cb0d00828154584387c0076cd6a1f06579"), looks := true }, kinds := [], alts := [], laidByText := true, laidKinds := [.sentinel, .sentinel, .sentinel, .sentinel, .sentinel, .sentinel, .sentinel, .sentinel, .sentinel, .sentinel, .sentinel, .sentinel, .sentinel, .sentinel, .sentinel], laidTests := true, laidLooks := .later }
def InstsWrongCardSaid : Prop := Claim7.holds Tryz.pinned (.plain (OpenSpec.ofChange instsWrongSpec)) instsWrongCard

/-- THE SECOND FORM's CARD OF 'paideialaw13.InstsRows'. -/
def instsRowsUptoCard : Claim7 := { stood := { row := instsRowsUptoRow, standIns := [], harness := (true, "9196846c5332798e61d383a091a460cb0d00828154584387c0076cd6a1f06579"), looks := true }, kinds := [], alts := [], laidByText := true, laidKinds := [.sentinel, .sentinel, .sentinel, .sentinel, .sentinel, .sentinel, .sentinel, .sentinel, .sentinel, .sentinel, .sentinel, .sentinel, .sentinel, .sentinel, .sentinel], laidTests := true, laidLooks := .later }
def InstsRowsUptoCardSaid : Prop := Claim7.holds Tryz.pinned (.plain (OpenSpec.upto instsRowsSpec)) instsRowsUptoCard

/-- THE SECOND FORM's CARD OF 'paideialaw13.InstsSay'. -/
def instsSayUptoCard : Claim7 := { stood := { row := instsSayUptoRow, standIns := [], harness := (true, "9196846c5332798e61d383a091a460cb0d00828154584387c0076cd6a1f06579"), looks := true }, kinds := [], alts := [], laidByText := true, laidKinds := [.sentinel, .sentinel, .sentinel, .sentinel, .sentinel, .sentinel, .sentinel, .sentinel, .sentinel, .sentinel, .sentinel, .sentinel, .sentinel, .sentinel, .sentinel], laidTests := true, laidLooks := .later }
def InstsSayUptoCardSaid : Prop := Claim7.holds Tryz.pinned (.plain (OpenSpec.upto instsSaySpec)) instsSayUptoCard

/-- THE SECOND FORM's CARD OF 'paideialaw13.InstsWrong'. -/
def instsWrongUptoCard : Claim7 := { stood := { row := instsWrongUptoRow, standIns := [], harness := (true, "9196846c5332798e61d383a091a460cb0d00828154584387c0076cd6a1f06579"), looks := true }, kinds := [], alts := [], laidByText := true, laidKinds := [.sentinel, .sentinel, .sentinel, .sentinel, .sentinel, .sentinel, .sentinel, .sentinel, .sentinel, .sentinel, .sentinel, .sentinel, .sentinel, .sentinel, .sentinel], laidTests := true, laidLooks := .later }
def InstsWrongUptoCardSaid : Prop := Claim7.holds Tryz.pinned (.plain (OpenSpec.upto instsWrongSpec)) instsWrongUptoCard
end Rows
end Go.Proofs.YtnmejeeajidaaaaGreatDoor
