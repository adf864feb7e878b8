/-
  DERIVED. GIVEN WITH THE SEED: THE CARDS: each row of YtojlncopehjpiaaDoorRows.lean that lists a variable, with what it lists TIED to the program's text (the seventh form; the later family's looks); each row that meets fmt, with fmt's text TOLD by the authors' own Lean function (tested against real Go, not proved from fmt's source: count such statements apart). THE CARD IS WHAT COUNTS. Prove the row's statement (the work); the ties are given (YtojlncopehjpiaaDoorTie.lean); close each card by the builder's one call (the guide's Derived/Test/ToyasCard.lean, 'card_holds'). Laid BY PROGRAM, IN A SANDBOX (cutbox-door.mjs). By AI agents, Wed Nov 11 2026. No macro, syntax, notation, axiom, sorry.
-/
import Derived.Test.YtojlncopehjpiaaDoorRows
import GoSem.ClaimSeven
namespace Go.Proofs.YtojlncopehjpiaaDoor
namespace Rows

/-- THE TIED CARD OF 'paideialaw11.ConsSchemes'. -/
def consSchemesCard : Claim7 := { stood := { row := consSchemesRow, standIns := [], harness := (true, "fb8733b936153312ac953635b4dfd7e34e347d49cbf8bacbff272022cf4eb103"), looks := false }, kinds := [], alts := [], laidByText := true, laidKinds := [.sentinel, .sentinel, .sentinel], laidTests := true, laidLooks := .later }
def ConsSchemesCardSaid : Prop := Claim7.holds Tryd.pinned (.plain (OpenSpec.ofChange consSchemesSpec)) consSchemesCard

/-- THE TIED CARD OF 'paideialaw11.ConsTwice'. -/
def consTwiceCard : Claim7 := { stood := { row := consTwiceRow, standIns := [], harness := (true, "fb8733b936153312ac953635b4dfd7e34e347d49cbf8bacbff272022cf4eb103"), looks := false }, kinds := [], alts := [], laidByText := true, laidKinds := [.sentinel, .sentinel, .sentinel], laidTests := true, laidLooks := .later }
def ConsTwiceCardSaid : Prop := Claim7.holds Tryd.pinned (.plain (OpenSpec.ofChange consTwiceSpec)) consTwiceCard

/-- THE SECOND FORM's CARD OF 'paideialaw11.ConsSchemes'. -/
def consSchemesUptoCard : Claim7 := { stood := { row := consSchemesUptoRow, standIns := [], harness := (true, "fb8733b936153312ac953635b4dfd7e34e347d49cbf8bacbff272022cf4eb103"), looks := false }, kinds := [], alts := [], laidByText := true, laidKinds := [.sentinel, .sentinel, .sentinel], laidTests := true, laidLooks := .later }
def ConsSchemesUptoCardSaid : Prop := Claim7.holds Tryd.pinned (.plain (OpenSpec.upto consSchemesSpec)) consSchemesUptoCard

/-- THE SECOND FORM's CARD OF 'paideialaw11.ConsTwice'. -/
def consTwiceUptoCard : Claim7 := { stood := { row := consTwiceUptoRow, standIns := [], harness := (true, "fb8733b936153312ac953635b4dfd7e34e347d49cbf8bacbff272022cf4eb103"), looks := false }, kinds := [], alts := [], laidByText := true, laidKinds := [.sentinel, .sentinel, .sentinel], laidTests := true, laidLooks := .later }
def ConsTwiceUptoCardSaid : Prop := Claim7.holds Tryd.pinned (.plain (OpenSpec.upto consTwiceSpec)) consTwiceUptoCard
end Rows
end Go.Proofs.YtojlncopehjpiaaDoor
