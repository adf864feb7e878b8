/-
  No cell of these rows narrows 'for every input' (looked for: loops, veiled, ifaces, maps, wideKeys, modest, calm, conditions, laid).
  DERIVED. THE GIVEN ROWS OF THIS SEAT. 4 by the template 'for every input the law returns true; each argument reads behind the call as it read before'; 0 by the template 'total and deterministic' (their statements: YteoelcefjjmjiaaTotals.lean).
  GIVEN WITH THE SEED: the statements are not yours to turn. If you find one false, say at which input.
  Laid BY PROGRAM, IN A SANDBOX (cutbox-rows.mjs): the forced cells as the released guide's own fill.sh prints them over the translation f335c10cf8629d45… (all of the seat's roots in one cut). By AI agents, Wed Nov 11 2026. No macro, syntax, notation, axiom, sorry.
-/
import Derived.Test.YteoelcefjjmjiaaChecked
import GoSem.Claim
import GoSem.ClaimJoined
import GoSem.ClaimMapViews
import Derived.JoinedTies
import Derived.KernelRfl
namespace Go.Proofs.Yteoelcefjjmjiaa
/- THE CELL 'sum', in the pinned program and in every row, IS THE sha256 OF THE DUMP (.gsa) THAT YteoelcefjjmjiaaProg.lean LOADS. Nothing in Lean hashes anything: it is a label: what it is worth is what the hold of that sum in a sandbox is worth. -/
noncomputable def Try.pinned : Pinned := { name := "yteoelcefjjmjiaa", sum := "f335c10cf8629d4574d60efb29418cc41a9e4d18e2c537c65a8ae4a6bc8c8c2b", checked := Try.checked }
namespace Rows
def none {H : Type} : Left H := { results := [], args := [] }

/-- 'paideialaw4.TypesSay': WHATEVER THE INPUT: true; the input reads as it did. -/
def typesSaySpec : ChangeSpec := { name := "typesSay", fn := fun _ => fun
  | [d1, d2, d3] => { results := [.lit (.bool true)], args := [d1, d2, d3] }
  | _ => none }
def typesSayRow : OpenClaim := { program := "yteoelcefjjmjiaa", sum := "f335c10cf8629d4574d60efb29418cc41a9e4d18e2c537c65a8ae4a6bc8c8c2b", func := "paideia/paideialaw4.TypesSay", spec := "typesSay", unfollowed := true, recurses := true, apart := false }
def TypesSaySaid : Prop := typesSayRow.holds Try.pinned (OpenSpec.ofChange typesSaySpec)

/-- ITS FALSE NEIGHBOUR: 'it returns false'. Refute it at one input. -/
def typesSayWrong : ChangeSpec := { name := "typesSay", fn := fun _ => fun
  | [d1, d2, d3] => { results := [.lit (.bool false)], args := [d1, d2, d3] }
  | _ => none }
def TypesSayWrongFalsely : Prop := typesSayRow.holds Try.pinned (OpenSpec.ofChange typesSayWrong)

/-- 'paideialaw4.TypesFuns': WHATEVER THE INPUT: true; the input reads as it did. -/
def typesFunsSpec : ChangeSpec := { name := "typesFuns", fn := fun _ => fun
  | [d1, d2] => { results := [.lit (.bool true)], args := [d1, d2] }
  | _ => none }
def typesFunsRow : OpenClaim := { program := "yteoelcefjjmjiaa", sum := "f335c10cf8629d4574d60efb29418cc41a9e4d18e2c537c65a8ae4a6bc8c8c2b", func := "paideia/paideialaw4.TypesFuns", spec := "typesFuns", unfollowed := true, recurses := true, apart := false }
def TypesFunsSaid : Prop := typesFunsRow.holds Try.pinned (OpenSpec.ofChange typesFunsSpec)

/-- ITS FALSE NEIGHBOUR: 'it returns false'. Refute it at one input. -/
def typesFunsWrong : ChangeSpec := { name := "typesFuns", fn := fun _ => fun
  | [d1, d2] => { results := [.lit (.bool false)], args := [d1, d2] }
  | _ => none }
def TypesFunsWrongFalsely : Prop := typesFunsRow.holds Try.pinned (OpenSpec.ofChange typesFunsWrong)

/-- 'paideialaw4.TypesOrder': WHATEVER THE INPUT: true; the input reads as it did. -/
def typesOrderSpec : ChangeSpec := { name := "typesOrder", fn := fun _ => fun
  | [d1, d2, d3] => { results := [.lit (.bool true)], args := [d1, d2, d3] }
  | _ => none }
def typesOrderRow : OpenClaim := { program := "yteoelcefjjmjiaa", sum := "f335c10cf8629d4574d60efb29418cc41a9e4d18e2c537c65a8ae4a6bc8c8c2b", func := "paideia/paideialaw4.TypesOrder", spec := "typesOrder", unfollowed := true, recurses := true, apart := false }
def TypesOrderSaid : Prop := typesOrderRow.holds Try.pinned (OpenSpec.ofChange typesOrderSpec)

/-- ITS FALSE NEIGHBOUR: 'it returns false'. Refute it at one input. -/
def typesOrderWrong : ChangeSpec := { name := "typesOrder", fn := fun _ => fun
  | [d1, d2, d3] => { results := [.lit (.bool false)], args := [d1, d2, d3] }
  | _ => none }
def TypesOrderWrongFalsely : Prop := typesOrderRow.holds Try.pinned (OpenSpec.ofChange typesOrderWrong)

/-- 'paideialaw4.TypesParts': WHATEVER THE INPUT: true; the input reads as it did. -/
def typesPartsSpec : ChangeSpec := { name := "typesParts", fn := fun _ => fun
  | [d] => { results := [.lit (.bool true)], args := [d] }
  | _ => none }
def typesPartsRow : OpenClaim := { program := "yteoelcefjjmjiaa", sum := "f335c10cf8629d4574d60efb29418cc41a9e4d18e2c537c65a8ae4a6bc8c8c2b", func := "paideia/paideialaw4.TypesParts", spec := "typesParts", unfollowed := true, recurses := true, apart := false }
def TypesPartsSaid : Prop := typesPartsRow.holds Try.pinned (OpenSpec.ofChange typesPartsSpec)

/-- ITS FALSE NEIGHBOUR: 'it returns false'. Refute it at one input. -/
def typesPartsWrong : ChangeSpec := { name := "typesParts", fn := fun _ => fun
  | [d] => { results := [.lit (.bool false)], args := [d] }
  | _ => none }
def TypesPartsWrongFalsely : Prop := typesPartsRow.holds Try.pinned (OpenSpec.ofChange typesPartsWrong)

/- THE SECOND FORM. 'bulk': how many values and letters a reading holds, each counted each time it is reached (what is shared counts as often as it is met; a slice's spare places count too). A statement '..UptoSaid' is the law's where the arguments, and the package variables that the reading takes, are together of bulk at most 1048576: NARROWER than '..Said'. Prove '..Said' where nothing that the law and all that it calls make is longer than what came in: it says more and counts as full. Else prove '..UptoSaid'. A law counts once. -/
mutual
def uptoBulk {H : Type} : DataW H → Nat
  | .lit (.string bytes) => bytes.length + 1
  | .lit _ => 1
  | .nil => 1
  | .ptr d => uptoBulk d + 1
  | .slice elems spare => uptoBulkAll elems + uptoBulkAll spare + 1
  | .agg parts => uptoBulkAll parts + 1
  | .iface _ d => uptoBulk d + 1
  | .map entries => uptoBulkEntries entries + 1
  | .held _ => 1
def uptoBulkAll {H : Type} : List (DataW H) → Nat
  | [] => 0
  | d :: r => uptoBulk d + uptoBulkAll r
def uptoBulkEntries {H : Type} : List (Lit × DataW H) → Nat
  | [] => 0
  | x :: r => uptoBulkEntry x + uptoBulkEntries r
def uptoBulkEntry {H : Type} : Lit × DataW H → Nat
  | (.string bytes, d) => bytes.length + uptoBulk d + 1
  | (_, d) => uptoBulk d + 1
 end
def uptoSmall : (H : Type) → List (DataW H) → Bool := fun _ ds => decide (uptoBulkAll ds ≤ 1048576)
def OpenSpec.upto (s : _root_.Go.ChangeSpec) : _root_.Go.OpenSpec := { _root_.Go.OpenSpec.ofChange s with cond := some uptoSmall }

/-- 'paideialaw4.TypesSay', WHERE WHAT IT READS IS OF BULK AT MOST 1048576: true; the input reads as it did. -/
def typesSayUptoRow : OpenClaim := { program := "yteoelcefjjmjiaa", sum := "f335c10cf8629d4574d60efb29418cc41a9e4d18e2c537c65a8ae4a6bc8c8c2b", func := "paideia/paideialaw4.TypesSay", spec := "typesSay", unfollowed := true, recurses := true, apart := false, narrowed := true }
def TypesSayUptoSaid : Prop := typesSayUptoRow.holds Try.pinned (OpenSpec.upto typesSaySpec)

/-- 'paideialaw4.TypesFuns', WHERE WHAT IT READS IS OF BULK AT MOST 1048576: true; the input reads as it did. -/
def typesFunsUptoRow : OpenClaim := { program := "yteoelcefjjmjiaa", sum := "f335c10cf8629d4574d60efb29418cc41a9e4d18e2c537c65a8ae4a6bc8c8c2b", func := "paideia/paideialaw4.TypesFuns", spec := "typesFuns", unfollowed := true, recurses := true, apart := false, narrowed := true }
def TypesFunsUptoSaid : Prop := typesFunsUptoRow.holds Try.pinned (OpenSpec.upto typesFunsSpec)

/-- 'paideialaw4.TypesOrder', WHERE WHAT IT READS IS OF BULK AT MOST 1048576: true; the input reads as it did. -/
def typesOrderUptoRow : OpenClaim := { program := "yteoelcefjjmjiaa", sum := "f335c10cf8629d4574d60efb29418cc41a9e4d18e2c537c65a8ae4a6bc8c8c2b", func := "paideia/paideialaw4.TypesOrder", spec := "typesOrder", unfollowed := true, recurses := true, apart := false, narrowed := true }
def TypesOrderUptoSaid : Prop := typesOrderUptoRow.holds Try.pinned (OpenSpec.upto typesOrderSpec)

/-- 'paideialaw4.TypesParts', WHERE WHAT IT READS IS OF BULK AT MOST 1048576: true; the input reads as it did. -/
def typesPartsUptoRow : OpenClaim := { program := "yteoelcefjjmjiaa", sum := "f335c10cf8629d4574d60efb29418cc41a9e4d18e2c537c65a8ae4a6bc8c8c2b", func := "paideia/paideialaw4.TypesParts", spec := "typesParts", unfollowed := true, recurses := true, apart := false, narrowed := true }
def TypesPartsUptoSaid : Prop := typesPartsUptoRow.holds Try.pinned (OpenSpec.upto typesPartsSpec)

end Rows
end Go.Proofs.Yteoelcefjjmjiaa
