/-
  DERIVED. GIVEN WITH THE SEED: THE CARDS: each row of YtdooeghicdaakaaGreatDoorRows.lean that lists a variable, with what it lists TIED to the program's text (the seventh form; the later family's looks); each row that meets fmt, with fmt's text TOLD by the authors' own Lean function (tested against real Go, not proved from fmt's source: count such statements apart). THE CARD IS WHAT COUNTS. Prove the row's statement (the work); the ties are given (YtdooeghicdaakaaGreatDoorTie.lean); close each card by the builder's one call (the guide's Derived/Test/ToyasCard.lean, 'card_holds'). Laid BY PROGRAM, IN A SANDBOX (cutbox-door.mjs). By AI agents, Wed Nov 11 2026. No macro, syntax, notation, axiom, sorry.
-/
import Derived.Test.YtdooeghicdaakaaGreatDoorRows
import GoSem.ClaimSeven
namespace Go.Proofs.YtdooeghicdaakaaGreatDoor
namespace Rows

/-- THE TIED CARD OF 'paideialaw3.ParserBinds'. -/
def parserBindsCard : Claim7 := { stood := { row := parserBindsRow, standIns := [], harness := (true, "7bacddceab4354a29bd5f087a13e36f4b256759143f49b0e8d7fc578b8f323b4"), looks := false }, kinds := [], alts := [], laidByText := true, laidKinds := [.sentinel, .sentinel, .sentinel], laidTests := true, laidLooks := .later }
def ParserBindsCardSaid : Prop := Claim7.holds Tryz.pinned (.plain (OpenSpec.ofChange parserBindsSpec)) parserBindsCard

/-- THE SECOND FORM's CARD OF 'paideialaw3.ParserBinds'. -/
def parserBindsUptoCard : Claim7 := { stood := { row := parserBindsUptoRow, standIns := [], harness := (true, "7bacddceab4354a29bd5f087a13e36f4b256759143f49b0e8d7fc578b8f323b4"), looks := false }, kinds := [], alts := [], laidByText := true, laidKinds := [.sentinel, .sentinel, .sentinel], laidTests := true, laidLooks := .later }
def ParserBindsUptoCardSaid : Prop := Claim7.holds Tryz.pinned (.plain (OpenSpec.upto parserBindsSpec)) parserBindsUptoCard
end Rows
end Go.Proofs.YtdooeghicdaakaaGreatDoor
