/-
  NARROWER THAN 'FOR EVERY INPUT', by the rows' own cells (each row's printed sentence says how): ConsSchemes: laid · ConsTwice: laid.
  DERIVED. THE GIVEN ROWS OF THIS SEAT. 2 by the template 'for every input the law returns true; each argument reads behind the call as it read before'; 0 by the template 'total and deterministic' (their statements: YtojlncopehjpiaaDoorTotals.lean).
  GIVEN WITH THE SEED: the statements are not yours to turn. If you find one false, say at which input.
  Laid BY PROGRAM, IN A SANDBOX (cutbox-rows.mjs): the forced cells as the released guide's own fill.sh prints them over the translation 760eb4ce7f80a8f3… (all of the seat's roots in one cut). By AI agents, Wed Nov 11 2026. No macro, syntax, notation, axiom, sorry.
-/
import Derived.Test.YtojlncopehjpiaaDoorChecked
import GoSem.Claim
import GoSem.ClaimJoined
import GoSem.ClaimMapViews
import Derived.JoinedTies
import Derived.KernelRfl
namespace Go.Proofs.YtojlncopehjpiaaDoor
/- THE CELL 'sum', in the pinned program and in every row, IS THE sha256 OF THE DUMP (.gsa) THAT YtojlncopehjpiaaDoorProg.lean LOADS. Nothing in Lean hashes anything: it is a label: what it is worth is what the hold of that sum in a sandbox is worth. -/
noncomputable def Tryd.pinned : Pinned := { name := "ytojlncopehjpiaadoor", sum := "760eb4ce7f80a8f358d810b9ebedb465222cbfe0d93fac9ffd69c48ffed3bfc7", checked := Tryd.checked }
namespace Rows
def none {H : Type} : Left H := { results := [], args := [] }

/- WHAT THE LISTED PACKAGE-LEVEL VARIABLES READ AS WHEN THE CALL BEGINS. Each datum BY PROGRAM (the guide's laid-datum.mjs) off the statement by which the dump's own 'gosem.cut.vars' lays the variable. In a bare row this is a premise. The card (YtojlncopehjpiaaDoorCards.lean) ties it to the program's text. -/
def laid_paideia_api_ErrScope {H : Type} : DataW H := .iface "*errors.errorString" (.ptr (.agg [.lit (.string [97, 32, 110, 97, 109, 101, 32, 116, 104, 97, 116, 32, 105, 115, 32, 110, 111, 98, 111, 100, 121, 39, 115])]))
def laid_paideia_api_ErrTwice {H : Type} : DataW H := .iface "*errors.errorString" (.ptr (.agg [.lit (.string [97, 32, 110, 97, 109, 101, 32, 116, 119, 105, 99, 101])]))
def laid_paideia_api_ErrKind {H : Type} : DataW H := .iface "*errors.errorString" (.ptr (.agg [.lit (.string [97, 32, 116, 121, 112, 101, 32, 119, 105, 116, 104, 32, 111, 116, 104, 101, 114, 32, 97, 114, 103, 117, 109, 101, 110, 116, 115])]))

/-- 'paideialaw11.ConsSchemes': WHATEVER THE INPUT: true; the input reads as it did. -/
def consSchemesSpec : ChangeSpec := { name := "consSchemes", fn := fun _ => fun
  | [d1, d2, d3] => { results := [.lit (.bool true)], args := [d1, d2, d3] }
  | _ => none }
def consSchemesRow : OpenClaim := { program := "ytojlncopehjpiaadoor", sum := "760eb4ce7f80a8f358d810b9ebedb465222cbfe0d93fac9ffd69c48ffed3bfc7", func := "paideia/paideialaw11.ConsSchemes", spec := "consSchemes", unfollowed := true, recurses := true, named := ["paideia/api.ErrTwice", "paideia/api.ErrScope", "paideia/api.ErrKind"], apart := false, laid := [("paideia/api.ErrScope", laid_paideia_api_ErrScope), ("paideia/api.ErrTwice", laid_paideia_api_ErrTwice), ("paideia/api.ErrKind", laid_paideia_api_ErrKind)] }
def ConsSchemesSaid : Prop := consSchemesRow.holds Tryd.pinned (OpenSpec.ofChange consSchemesSpec)

/-- ITS FALSE NEIGHBOUR: 'it returns false'. Refute it at one input. -/
def consSchemesWrong : ChangeSpec := { name := "consSchemes", fn := fun _ => fun
  | [d1, d2, d3] => { results := [.lit (.bool false)], args := [d1, d2, d3] }
  | _ => none }
def ConsSchemesWrongFalsely : Prop := consSchemesRow.holds Tryd.pinned (OpenSpec.ofChange consSchemesWrong)

/-- 'paideialaw11.ConsTwice': WHATEVER THE INPUT: true; the input reads as it did. -/
def consTwiceSpec : ChangeSpec := { name := "consTwice", fn := fun _ => fun
  | [d] => { results := [.lit (.bool true)], args := [d] }
  | _ => none }
def consTwiceRow : OpenClaim := { program := "ytojlncopehjpiaadoor", sum := "760eb4ce7f80a8f358d810b9ebedb465222cbfe0d93fac9ffd69c48ffed3bfc7", func := "paideia/paideialaw11.ConsTwice", spec := "consTwice", unfollowed := true, recurses := true, named := ["paideia/api.ErrTwice", "paideia/api.ErrScope", "paideia/api.ErrKind"], apart := false, laid := [("paideia/api.ErrScope", laid_paideia_api_ErrScope), ("paideia/api.ErrTwice", laid_paideia_api_ErrTwice), ("paideia/api.ErrKind", laid_paideia_api_ErrKind)] }
def ConsTwiceSaid : Prop := consTwiceRow.holds Tryd.pinned (OpenSpec.ofChange consTwiceSpec)

/-- ITS FALSE NEIGHBOUR: 'it returns false'. Refute it at one input. -/
def consTwiceWrong : ChangeSpec := { name := "consTwice", fn := fun _ => fun
  | [d] => { results := [.lit (.bool false)], args := [d] }
  | _ => none }
def ConsTwiceWrongFalsely : Prop := consTwiceRow.holds Tryd.pinned (OpenSpec.ofChange consTwiceWrong)

/- THE SECOND FORM. 'bulk': how many values and letters a reading holds, each counted each time it is reached (what is shared counts as often as it is met; a slice's spare places count too). A statement '..UptoSaid' is the law's where the arguments, and the package variables that the reading takes, are together of bulk at most 1048576: NARROWER than '..Said'. Prove '..Said' where nothing that the law and all that it calls make is longer than what came in: it says more and counts as full. Else prove '..UptoSaid'. A law counts once. -/
mutual
def uptoBulk {H : Type} : DataW H → Nat
  | .lit (.string bytes) => bytes.length + 1
  | .lit _ => 1
  | .nil => 1
  | .ptr d => uptoBulk d + 1
  | .slice elems spare => uptoBulkAll elems + uptoBulkAll spare + 1
  | .agg parts => uptoBulkAll parts + 1
  | .iface _ d => uptoBulk d + 1
  | .map entries => uptoBulkEntries entries + 1
  | .held _ => 1
def uptoBulkAll {H : Type} : List (DataW H) → Nat
  | [] => 0
  | d :: r => uptoBulk d + uptoBulkAll r
def uptoBulkEntries {H : Type} : List (Lit × DataW H) → Nat
  | [] => 0
  | x :: r => uptoBulkEntry x + uptoBulkEntries r
def uptoBulkEntry {H : Type} : Lit × DataW H → Nat
  | (.string bytes, d) => bytes.length + uptoBulk d + 1
  | (_, d) => uptoBulk d + 1
 end
def uptoSmall : (H : Type) → List (DataW H) → Bool := fun _ ds => decide (uptoBulkAll ds ≤ 1048576)
def OpenSpec.upto (s : _root_.Go.ChangeSpec) : _root_.Go.OpenSpec := { _root_.Go.OpenSpec.ofChange s with cond := some uptoSmall }

/-- 'paideialaw11.ConsSchemes', WHERE WHAT IT READS IS OF BULK AT MOST 1048576: true; the input reads as it did. -/
def consSchemesUptoRow : OpenClaim := { program := "ytojlncopehjpiaadoor", sum := "760eb4ce7f80a8f358d810b9ebedb465222cbfe0d93fac9ffd69c48ffed3bfc7", func := "paideia/paideialaw11.ConsSchemes", spec := "consSchemes", unfollowed := true, recurses := true, named := ["paideia/api.ErrTwice", "paideia/api.ErrScope", "paideia/api.ErrKind"], apart := false, laid := [("paideia/api.ErrScope", laid_paideia_api_ErrScope), ("paideia/api.ErrTwice", laid_paideia_api_ErrTwice), ("paideia/api.ErrKind", laid_paideia_api_ErrKind)], narrowed := true }
def ConsSchemesUptoSaid : Prop := consSchemesUptoRow.holds Tryd.pinned (OpenSpec.upto consSchemesSpec)

/-- 'paideialaw11.ConsTwice', WHERE WHAT IT READS IS OF BULK AT MOST 1048576: true; the input reads as it did. -/
def consTwiceUptoRow : OpenClaim := { program := "ytojlncopehjpiaadoor", sum := "760eb4ce7f80a8f358d810b9ebedb465222cbfe0d93fac9ffd69c48ffed3bfc7", func := "paideia/paideialaw11.ConsTwice", spec := "consTwice", unfollowed := true, recurses := true, named := ["paideia/api.ErrTwice", "paideia/api.ErrScope", "paideia/api.ErrKind"], apart := false, laid := [("paideia/api.ErrScope", laid_paideia_api_ErrScope), ("paideia/api.ErrTwice", laid_paideia_api_ErrTwice), ("paideia/api.ErrKind", laid_paideia_api_ErrKind)], narrowed := true }
def ConsTwiceUptoSaid : Prop := consTwiceUptoRow.holds Tryd.pinned (OpenSpec.upto consTwiceSpec)

end Rows
end Go.Proofs.YtojlncopehjpiaaDoor
