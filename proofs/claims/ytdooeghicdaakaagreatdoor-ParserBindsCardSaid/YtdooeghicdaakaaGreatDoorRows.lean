/-
  NARROWER THAN 'FOR EVERY INPUT', by the rows' own cells (each row's printed sentence says how): ParserBinds: laid.
  DERIVED. THE GIVEN ROWS OF THIS SEAT. 1 by the template 'for every input the law returns true; each argument reads behind the call as it read before'; 0 by the template 'total and deterministic' (their statements: YtdooeghicdaakaaGreatDoorTotals.lean).
  GIVEN WITH THE SEED: the statements are not yours to turn. If you find one false, say at which input.
  Laid BY PROGRAM, IN A SANDBOX (cutbox-rows.mjs): the forced cells as the released guide's own fill.sh prints them over the translation e176d2beb5b664ce… (all of the seat's roots in one cut). By AI agents, Wed Nov 11 2026. No macro, syntax, notation, axiom, sorry.
-/
import Derived.Test.YtdooeghicdaakaaGreatDoorChecked
import GoSem.Claim
import GoSem.ClaimJoined
import GoSem.ClaimMapViews
import Derived.JoinedTies
import Derived.KernelRfl
namespace Go.Proofs.YtdooeghicdaakaaGreatDoor
/- THE CELL 'sum', in the pinned program and in every row, IS THE sha256 OF THE DUMP (.gsa) THAT YtdooeghicdaakaaGreatDoorProg.lean LOADS. Nothing in Lean hashes anything: it is a label: what it is worth is what the hold of that sum in a sandbox is worth. -/
noncomputable def Tryz.pinned : Pinned := { name := "ytdooeghicdaakaagreatdoor", sum := "e176d2beb5b664ce603e9dc57fb83d36fd97c56efd49914db7e8a371dae32c6d", checked := Tryz.checked }
namespace Rows
def none {H : Type} : Left H := { results := [], args := [] }

/- WHAT THE LISTED PACKAGE-LEVEL VARIABLES READ AS WHEN THE CALL BEGINS. Each datum BY PROGRAM (the guide's laid-datum.mjs) off the statement by which the dump's own 'gosem.cut.vars' lays the variable. In a bare row this is a premise. The card (YtdooeghicdaakaaGreatDoorCards.lean) ties it to the program's text. -/
def laid_paideia_api_ErrLex {H : Type} : DataW H := .iface "*errors.errorString" (.ptr (.agg [.lit (.string [110, 111, 116, 32, 97, 32, 119, 111, 114, 100])]))
def laid_paideia_api_ErrParse {H : Type} : DataW H := .iface "*errors.errorString" (.ptr (.agg [.lit (.string [110, 111, 116, 32, 97, 32, 112, 114, 111, 103, 114, 97, 109])]))
def laid_paideia_api_ErrLimit {H : Type} : DataW H := .iface "*errors.errorString" (.ptr (.agg [.lit (.string [109, 111, 114, 101, 32, 116, 104, 97, 110, 32, 109, 97, 121, 32, 98, 101])]))

/-- 'paideialaw3.ParserBinds': WHATEVER THE INPUT: true; the input reads as it did. -/
def parserBindsSpec : ChangeSpec := { name := "parserBinds", fn := fun _ => fun
  | [d] => { results := [.lit (.bool true)], args := [d] }
  | _ => none }
def parserBindsRow : OpenClaim := { program := "ytdooeghicdaakaagreatdoor", sum := "e176d2beb5b664ce603e9dc57fb83d36fd97c56efd49914db7e8a371dae32c6d", func := "paideia/paideialaw3.ParserBinds", spec := "parserBinds", inPlace := ["internal/bytealg.IndexByteString"], unfollowed := true, recurses := true, named := ["paideia/api.ErrLimit", "paideia/api.ErrLex", "paideia/api.ErrParse"], apart := false, laid := [("paideia/api.ErrLex", laid_paideia_api_ErrLex), ("paideia/api.ErrParse", laid_paideia_api_ErrParse), ("paideia/api.ErrLimit", laid_paideia_api_ErrLimit)] }
def ParserBindsSaid : Prop := parserBindsRow.holds Tryz.pinned (OpenSpec.ofChange parserBindsSpec)

/-- ITS FALSE NEIGHBOUR: 'it returns false'. Refute it at one input. -/
def parserBindsWrong : ChangeSpec := { name := "parserBinds", fn := fun _ => fun
  | [d] => { results := [.lit (.bool false)], args := [d] }
  | _ => none }
def ParserBindsWrongFalsely : Prop := parserBindsRow.holds Tryz.pinned (OpenSpec.ofChange parserBindsWrong)

/- THE SECOND FORM. 'bulk': how many values and letters a reading holds, each counted each time it is reached (what is shared counts as often as it is met; a slice's spare places count too). A statement '..UptoSaid' is the law's where the arguments, and the package variables that the reading takes, are together of bulk at most 1048576: NARROWER than '..Said'. Prove '..Said' where nothing that the law and all that it calls make is longer than what came in: it says more and counts as full. Else prove '..UptoSaid'. A law counts once. -/
mutual
def uptoBulk {H : Type} : DataW H → Nat
  | .lit (.string bytes) => bytes.length + 1
  | .lit _ => 1
  | .nil => 1
  | .ptr d => uptoBulk d + 1
  | .slice elems spare => uptoBulkAll elems + uptoBulkAll spare + 1
  | .agg parts => uptoBulkAll parts + 1
  | .iface _ d => uptoBulk d + 1
  | .map entries => uptoBulkEntries entries + 1
  | .held _ => 1
def uptoBulkAll {H : Type} : List (DataW H) → Nat
  | [] => 0
  | d :: r => uptoBulk d + uptoBulkAll r
def uptoBulkEntries {H : Type} : List (Lit × DataW H) → Nat
  | [] => 0
  | x :: r => uptoBulkEntry x + uptoBulkEntries r
def uptoBulkEntry {H : Type} : Lit × DataW H → Nat
  | (.string bytes, d) => bytes.length + uptoBulk d + 1
  | (_, d) => uptoBulk d + 1
 end
def uptoSmall : (H : Type) → List (DataW H) → Bool := fun _ ds => decide (uptoBulkAll ds ≤ 1048576)
def OpenSpec.upto (s : _root_.Go.ChangeSpec) : _root_.Go.OpenSpec := { _root_.Go.OpenSpec.ofChange s with cond := some uptoSmall }

/-- 'paideialaw3.ParserBinds', WHERE WHAT IT READS IS OF BULK AT MOST 1048576: true; the input reads as it did. -/
def parserBindsUptoRow : OpenClaim := { program := "ytdooeghicdaakaagreatdoor", sum := "e176d2beb5b664ce603e9dc57fb83d36fd97c56efd49914db7e8a371dae32c6d", func := "paideia/paideialaw3.ParserBinds", spec := "parserBinds", inPlace := ["internal/bytealg.IndexByteString"], unfollowed := true, recurses := true, named := ["paideia/api.ErrLimit", "paideia/api.ErrLex", "paideia/api.ErrParse"], apart := false, laid := [("paideia/api.ErrLex", laid_paideia_api_ErrLex), ("paideia/api.ErrParse", laid_paideia_api_ErrParse), ("paideia/api.ErrLimit", laid_paideia_api_ErrLimit)], narrowed := true }
def ParserBindsUptoSaid : Prop := parserBindsUptoRow.holds Tryz.pinned (OpenSpec.upto parserBindsSpec)

end Rows
end Go.Proofs.YtdooeghicdaakaaGreatDoor
