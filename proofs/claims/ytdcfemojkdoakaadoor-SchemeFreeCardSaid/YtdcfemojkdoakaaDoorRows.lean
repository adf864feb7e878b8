/-
  NARROWER THAN 'FOR EVERY INPUT', by the rows' own cells (each row's printed sentence says how): UnifySays: laid · UnifyRows: laid · SchemeSorts: laid · SchemeFresh: laid · SchemeFree: laid.
  DERIVED. THE GIVEN ROWS OF THIS SEAT. 5 by the template 'for every input the law returns true; each argument reads behind the call as it read before'; 0 by the template 'total and deterministic' (their statements: YtdcfemojkdoakaaDoorTotals.lean).
  GIVEN WITH THE SEED: the statements are not yours to turn. If you find one false, say at which input.
  Laid BY PROGRAM, IN A SANDBOX (cutbox-rows.mjs): the forced cells as the released guide's own fill.sh prints them over the translation b2c3a6fe9d6d003d… (all of the seat's roots in one cut). By AI agents, Wed Nov 11 2026. No macro, syntax, notation, axiom, sorry.
-/
import Derived.Test.YtdcfemojkdoakaaDoorChecked
import GoSem.Claim
import GoSem.ClaimJoined
import GoSem.ClaimMapViews
import Derived.JoinedTies
import Derived.KernelRfl
namespace Go.Proofs.YtdcfemojkdoakaaDoor
/- THE CELL 'sum', in the pinned program and in every row, IS THE sha256 OF THE DUMP (.gsa) THAT YtdcfemojkdoakaaDoorProg.lean LOADS. Nothing in Lean hashes anything: it is a label: what it is worth is what the hold of that sum in a sandbox is worth. -/
noncomputable def Tryd.pinned : Pinned := { name := "ytdcfemojkdoakaadoor", sum := "b2c3a6fe9d6d003db2c6f4d4c0e8d63c68f96e454f6cb38eddecb900a4aa6542", checked := Tryd.checked }
namespace Rows
def none {H : Type} : Left H := { results := [], args := [] }

/- WHAT THE LISTED PACKAGE-LEVEL VARIABLES READ AS WHEN THE CALL BEGINS. Each datum BY PROGRAM (the guide's laid-datum.mjs) off the statement by which the dump's own 'gosem.cut.vars' lays the variable. In a bare row this is a premise. The card (YtdcfemojkdoakaaDoorCards.lean) ties it to the program's text. -/
def laid_paideia_api_ErrLex {H : Type} : DataW H := .iface "*errors.errorString" (.ptr (.agg [.lit (.string [110, 111, 116, 32, 97, 32, 119, 111, 114, 100])]))
def laid_paideia_api_ErrParse {H : Type} : DataW H := .iface "*errors.errorString" (.ptr (.agg [.lit (.string [110, 111, 116, 32, 97, 32, 112, 114, 111, 103, 114, 97, 109])]))
def laid_paideia_api_ErrScope {H : Type} : DataW H := .iface "*errors.errorString" (.ptr (.agg [.lit (.string [97, 32, 110, 97, 109, 101, 32, 116, 104, 97, 116, 32, 105, 115, 32, 110, 111, 98, 111, 100, 121, 39, 115])]))
def laid_paideia_api_ErrTwice {H : Type} : DataW H := .iface "*errors.errorString" (.ptr (.agg [.lit (.string [97, 32, 110, 97, 109, 101, 32, 116, 119, 105, 99, 101])]))
def laid_paideia_api_ErrClass {H : Type} : DataW H := .iface "*errors.errorString" (.ptr (.agg [.lit (.string [110, 111, 116, 32, 97, 32, 99, 108, 97, 115, 115, 44, 32, 111, 114, 32, 110, 111, 116, 32, 97, 110, 32, 105, 110, 115, 116, 97, 110, 99, 101])]))
def laid_paideia_api_ErrType {H : Type} : DataW H := .iface "*errors.errorString" (.ptr (.agg [.lit (.string [116, 121, 112, 101, 115, 32, 116, 104, 97, 116, 32, 97, 114, 101, 32, 110, 111, 116, 32, 111, 110, 101])]))
def laid_paideia_api_ErrOccur {H : Type} : DataW H := .iface "*errors.errorString" (.ptr (.agg [.lit (.string [97, 32, 116, 121, 112, 101, 32, 119, 105, 116, 104, 105, 110, 32, 105, 116, 115, 101, 108, 102])]))
def laid_paideia_api_ErrKind {H : Type} : DataW H := .iface "*errors.errorString" (.ptr (.agg [.lit (.string [97, 32, 116, 121, 112, 101, 32, 119, 105, 116, 104, 32, 111, 116, 104, 101, 114, 32, 97, 114, 103, 117, 109, 101, 110, 116, 115])]))
def laid_paideia_api_ErrAmbig {H : Type} : DataW H := .iface "*errors.errorString" (.ptr (.agg [.lit (.string [97, 32, 116, 121, 112, 101, 32, 116, 104, 97, 116, 32, 105, 115, 32, 110, 111, 116, 32, 116, 111, 108, 100])]))
def laid_paideia_api_ErrNone {H : Type} : DataW H := .iface "*errors.errorString" (.ptr (.agg [.lit (.string [110, 111, 32, 105, 110, 115, 116, 97, 110, 99, 101])]))
def laid_paideia_api_ErrLimit {H : Type} : DataW H := .iface "*errors.errorString" (.ptr (.agg [.lit (.string [109, 111, 114, 101, 32, 116, 104, 97, 110, 32, 109, 97, 121, 32, 98, 101])]))
def laid_paideia_api_ErrFuel {H : Type} : DataW H := .iface "*errors.errorString" (.ptr (.agg [.lit (.string [116, 104, 101, 32, 102, 117, 101, 108, 32, 105, 115, 32, 117, 115, 101, 100, 32, 117, 112])]))
def laid_paideia_api_ErrHeap {H : Type} : DataW H := .iface "*errors.errorString" (.ptr (.agg [.lit (.string [116, 104, 101, 32, 104, 101, 97, 112, 32, 105, 115, 32, 102, 117, 108, 108])]))
def laid_paideia_api_ErrBlack {H : Type} : DataW H := .iface "*errors.errorString" (.ptr (.agg [.lit (.string [97, 32, 118, 97, 108, 117, 101, 32, 116, 104, 97, 116, 32, 110, 101, 101, 100, 115, 32, 105, 116, 115, 101, 108, 102])]))
def laid_paideia_api_ErrMatch {H : Type} : DataW H := .iface "*errors.errorString" (.ptr (.agg [.lit (.string [110, 111, 32, 97, 108, 116, 101, 114, 110, 97, 116, 105, 118, 101, 32, 102, 105, 116, 115])]))
def laid_math_bits_deBruijn32tab {H : Type} : DataW H := .agg [.lit (.int .u8 0), .lit (.int .u8 1), .lit (.int .u8 28), .lit (.int .u8 2), .lit (.int .u8 29), .lit (.int .u8 14), .lit (.int .u8 24), .lit (.int .u8 3), .lit (.int .u8 30), .lit (.int .u8 22), .lit (.int .u8 20), .lit (.int .u8 15), .lit (.int .u8 25), .lit (.int .u8 17), .lit (.int .u8 4), .lit (.int .u8 8), .lit (.int .u8 31), .lit (.int .u8 27), .lit (.int .u8 13), .lit (.int .u8 23), .lit (.int .u8 21), .lit (.int .u8 19), .lit (.int .u8 16), .lit (.int .u8 7), .lit (.int .u8 26), .lit (.int .u8 12), .lit (.int .u8 18), .lit (.int .u8 6), .lit (.int .u8 11), .lit (.int .u8 5), .lit (.int .u8 10), .lit (.int .u8 9)]
def laid_math_bits_deBruijn64tab {H : Type} : DataW H := .agg [.lit (.int .u8 0), .lit (.int .u8 1), .lit (.int .u8 56), .lit (.int .u8 2), .lit (.int .u8 57), .lit (.int .u8 49), .lit (.int .u8 28), .lit (.int .u8 3), .lit (.int .u8 61), .lit (.int .u8 58), .lit (.int .u8 42), .lit (.int .u8 50), .lit (.int .u8 38), .lit (.int .u8 29), .lit (.int .u8 17), .lit (.int .u8 4), .lit (.int .u8 62), .lit (.int .u8 47), .lit (.int .u8 59), .lit (.int .u8 36), .lit (.int .u8 45), .lit (.int .u8 43), .lit (.int .u8 51), .lit (.int .u8 22), .lit (.int .u8 53), .lit (.int .u8 39), .lit (.int .u8 33), .lit (.int .u8 30), .lit (.int .u8 24), .lit (.int .u8 18), .lit (.int .u8 12), .lit (.int .u8 5), .lit (.int .u8 63), .lit (.int .u8 55), .lit (.int .u8 48), .lit (.int .u8 27), .lit (.int .u8 60), .lit (.int .u8 41), .lit (.int .u8 37), .lit (.int .u8 16), .lit (.int .u8 46), .lit (.int .u8 35), .lit (.int .u8 44), .lit (.int .u8 21), .lit (.int .u8 52), .lit (.int .u8 32), .lit (.int .u8 23), .lit (.int .u8 11), .lit (.int .u8 54), .lit (.int .u8 26), .lit (.int .u8 40), .lit (.int .u8 15), .lit (.int .u8 34), .lit (.int .u8 20), .lit (.int .u8 31), .lit (.int .u8 10), .lit (.int .u8 25), .lit (.int .u8 14), .lit (.int .u8 19), .lit (.int .u8 9), .lit (.int .u8 13), .lit (.int .u8 8), .lit (.int .u8 7), .lit (.int .u8 6)]
def laid_internal_strconv_uint64pow10 {H : Type} : DataW H := .agg [.lit (.int .u64 1), .lit (.int .u64 10), .lit (.int .u64 100), .lit (.int .u64 1000), .lit (.int .u64 10000), .lit (.int .u64 100000), .lit (.int .u64 1000000), .lit (.int .u64 10000000), .lit (.int .u64 100000000), .lit (.int .u64 1000000000), .lit (.int .u64 10000000000), .lit (.int .u64 100000000000), .lit (.int .u64 1000000000000), .lit (.int .u64 10000000000000), .lit (.int .u64 100000000000000), .lit (.int .u64 1000000000000000), .lit (.int .u64 10000000000000000), .lit (.int .u64 100000000000000000), .lit (.int .u64 1000000000000000000), .lit (.int .u64 10000000000000000000)]

/-- 'paideialaw6.UnifySays': WHATEVER THE INPUT: true; the input reads as it did. -/
def unifySaysSpec : ChangeSpec := { name := "unifySays", fn := fun _ => fun
  | [d] => { results := [.lit (.bool true)], args := [d] }
  | _ => none }
def unifySaysRow : OpenClaim := { program := "ytdcfemojkdoakaadoor", sum := "b2c3a6fe9d6d003db2c6f4d4c0e8d63c68f96e454f6cb38eddecb900a4aa6542", func := "paideia/paideialaw6.UnifySays", spec := "unifySays", unfollowed := true, recurses := true, named := ["paideia/api.ErrOccur", "paideia/api.ErrType", "paideia/api.ErrLex", "paideia/api.ErrParse", "paideia/api.ErrScope", "paideia/api.ErrTwice", "paideia/api.ErrClass", "paideia/api.ErrKind", "paideia/api.ErrAmbig", "paideia/api.ErrNone", "paideia/api.ErrLimit", "paideia/api.ErrFuel", "paideia/api.ErrHeap", "paideia/api.ErrBlack", "paideia/api.ErrMatch"], apart := false, laid := [("paideia/api.ErrLex", laid_paideia_api_ErrLex), ("paideia/api.ErrParse", laid_paideia_api_ErrParse), ("paideia/api.ErrScope", laid_paideia_api_ErrScope), ("paideia/api.ErrTwice", laid_paideia_api_ErrTwice), ("paideia/api.ErrClass", laid_paideia_api_ErrClass), ("paideia/api.ErrType", laid_paideia_api_ErrType), ("paideia/api.ErrOccur", laid_paideia_api_ErrOccur), ("paideia/api.ErrKind", laid_paideia_api_ErrKind), ("paideia/api.ErrAmbig", laid_paideia_api_ErrAmbig), ("paideia/api.ErrNone", laid_paideia_api_ErrNone), ("paideia/api.ErrLimit", laid_paideia_api_ErrLimit), ("paideia/api.ErrFuel", laid_paideia_api_ErrFuel), ("paideia/api.ErrHeap", laid_paideia_api_ErrHeap), ("paideia/api.ErrBlack", laid_paideia_api_ErrBlack), ("paideia/api.ErrMatch", laid_paideia_api_ErrMatch)] }
def UnifySaysSaid : Prop := unifySaysRow.holds Tryd.pinned (OpenSpec.ofChange unifySaysSpec)

/-- ITS FALSE NEIGHBOUR: 'it returns false'. Refute it at one input. -/
def unifySaysWrong : ChangeSpec := { name := "unifySays", fn := fun _ => fun
  | [d] => { results := [.lit (.bool false)], args := [d] }
  | _ => none }
def UnifySaysWrongFalsely : Prop := unifySaysRow.holds Tryd.pinned (OpenSpec.ofChange unifySaysWrong)

/-- 'paideialaw6.UnifyRows': WHATEVER THE INPUT: true; the input reads as it did. -/
def unifyRowsSpec : ChangeSpec := { name := "unifyRows", fn := fun _ => fun
  | [d1, d2, d3] => { results := [.lit (.bool true)], args := [d1, d2, d3] }
  | _ => none }
def unifyRowsRow : OpenClaim := { program := "ytdcfemojkdoakaadoor", sum := "b2c3a6fe9d6d003db2c6f4d4c0e8d63c68f96e454f6cb38eddecb900a4aa6542", func := "paideia/paideialaw6.UnifyRows", spec := "unifyRows", unfollowed := true, recurses := true, named := ["paideia/api.ErrOccur", "paideia/api.ErrType"], apart := false, laid := [("paideia/api.ErrType", laid_paideia_api_ErrType), ("paideia/api.ErrOccur", laid_paideia_api_ErrOccur)] }
def UnifyRowsSaid : Prop := unifyRowsRow.holds Tryd.pinned (OpenSpec.ofChange unifyRowsSpec)

/-- ITS FALSE NEIGHBOUR: 'it returns false'. Refute it at one input. -/
def unifyRowsWrong : ChangeSpec := { name := "unifyRows", fn := fun _ => fun
  | [d1, d2, d3] => { results := [.lit (.bool false)], args := [d1, d2, d3] }
  | _ => none }
def UnifyRowsWrongFalsely : Prop := unifyRowsRow.holds Tryd.pinned (OpenSpec.ofChange unifyRowsWrong)

/-- 'paideialaw8.SchemeSorts': WHATEVER THE INPUT: true; the input reads as it did. -/
def schemeSortsSpec : ChangeSpec := { name := "schemeSorts", fn := fun _ => fun
  | [d1, d2] => { results := [.lit (.bool true)], args := [d1, d2] }
  | _ => none }
def schemeSortsRow : OpenClaim := { program := "ytdcfemojkdoakaadoor", sum := "b2c3a6fe9d6d003db2c6f4d4c0e8d63c68f96e454f6cb38eddecb900a4aa6542", func := "paideia/paideialaw8.SchemeSorts", spec := "schemeSorts", unfollowed := true, recurses := true, named := ["internal/strconv.uint64pow10", "math/bits.deBruijn32tab", "math/bits.deBruijn64tab"], apart := false, laid := [("math/bits.deBruijn32tab", laid_math_bits_deBruijn32tab), ("math/bits.deBruijn64tab", laid_math_bits_deBruijn64tab), ("internal/strconv.uint64pow10", laid_internal_strconv_uint64pow10)] }
def SchemeSortsSaid : Prop := schemeSortsRow.holds Tryd.pinned (OpenSpec.ofChange schemeSortsSpec)

/-- ITS FALSE NEIGHBOUR: 'it returns false'. Refute it at one input. -/
def schemeSortsWrong : ChangeSpec := { name := "schemeSorts", fn := fun _ => fun
  | [d1, d2] => { results := [.lit (.bool false)], args := [d1, d2] }
  | _ => none }
def SchemeSortsWrongFalsely : Prop := schemeSortsRow.holds Tryd.pinned (OpenSpec.ofChange schemeSortsWrong)

/-- 'paideialaw8.SchemeFresh': WHATEVER THE INPUT: true; the input reads as it did. -/
def schemeFreshSpec : ChangeSpec := { name := "schemeFresh", fn := fun _ => fun
  | [d1, d2] => { results := [.lit (.bool true)], args := [d1, d2] }
  | _ => none }
def schemeFreshRow : OpenClaim := { program := "ytdcfemojkdoakaadoor", sum := "b2c3a6fe9d6d003db2c6f4d4c0e8d63c68f96e454f6cb38eddecb900a4aa6542", func := "paideia/paideialaw8.SchemeFresh", spec := "schemeFresh", unfollowed := true, recurses := true, named := ["internal/strconv.uint64pow10", "math/bits.deBruijn32tab", "math/bits.deBruijn64tab"], apart := false, laid := [("math/bits.deBruijn32tab", laid_math_bits_deBruijn32tab), ("math/bits.deBruijn64tab", laid_math_bits_deBruijn64tab), ("internal/strconv.uint64pow10", laid_internal_strconv_uint64pow10)] }
def SchemeFreshSaid : Prop := schemeFreshRow.holds Tryd.pinned (OpenSpec.ofChange schemeFreshSpec)

/-- ITS FALSE NEIGHBOUR: 'it returns false'. Refute it at one input. -/
def schemeFreshWrong : ChangeSpec := { name := "schemeFresh", fn := fun _ => fun
  | [d1, d2] => { results := [.lit (.bool false)], args := [d1, d2] }
  | _ => none }
def SchemeFreshWrongFalsely : Prop := schemeFreshRow.holds Tryd.pinned (OpenSpec.ofChange schemeFreshWrong)

/-- 'paideialaw8.SchemeFree': WHATEVER THE INPUT: true; the input reads as it did. -/
def schemeFreeSpec : ChangeSpec := { name := "schemeFree", fn := fun _ => fun
  | [d1, d2] => { results := [.lit (.bool true)], args := [d1, d2] }
  | _ => none }
def schemeFreeRow : OpenClaim := { program := "ytdcfemojkdoakaadoor", sum := "b2c3a6fe9d6d003db2c6f4d4c0e8d63c68f96e454f6cb38eddecb900a4aa6542", func := "paideia/paideialaw8.SchemeFree", spec := "schemeFree", unfollowed := true, recurses := true, named := ["internal/strconv.uint64pow10", "math/bits.deBruijn32tab", "math/bits.deBruijn64tab"], apart := false, laid := [("math/bits.deBruijn32tab", laid_math_bits_deBruijn32tab), ("math/bits.deBruijn64tab", laid_math_bits_deBruijn64tab), ("internal/strconv.uint64pow10", laid_internal_strconv_uint64pow10)] }
def SchemeFreeSaid : Prop := schemeFreeRow.holds Tryd.pinned (OpenSpec.ofChange schemeFreeSpec)

/-- ITS FALSE NEIGHBOUR: 'it returns false'. Refute it at one input. -/
def schemeFreeWrong : ChangeSpec := { name := "schemeFree", fn := fun _ => fun
  | [d1, d2] => { results := [.lit (.bool false)], args := [d1, d2] }
  | _ => none }
def SchemeFreeWrongFalsely : Prop := schemeFreeRow.holds Tryd.pinned (OpenSpec.ofChange schemeFreeWrong)

/- THE SECOND FORM. 'bulk': how many values and letters a reading holds, each counted each time it is reached (what is shared counts as often as it is met; a slice's spare places count too). A statement '..UptoSaid' is the law's where the arguments, and the package variables that the reading takes, are together of bulk at most 1048576: NARROWER than '..Said'. Prove '..Said' where nothing that the law and all that it calls make is longer than what came in: it says more and counts as full. Else prove '..UptoSaid'. A law counts once. -/
mutual
def uptoBulk {H : Type} : DataW H → Nat
  | .lit (.string bytes) => bytes.length + 1
  | .lit _ => 1
  | .nil => 1
  | .ptr d => uptoBulk d + 1
  | .slice elems spare => uptoBulkAll elems + uptoBulkAll spare + 1
  | .agg parts => uptoBulkAll parts + 1
  | .iface _ d => uptoBulk d + 1
  | .map entries => uptoBulkEntries entries + 1
  | .held _ => 1
def uptoBulkAll {H : Type} : List (DataW H) → Nat
  | [] => 0
  | d :: r => uptoBulk d + uptoBulkAll r
def uptoBulkEntries {H : Type} : List (Lit × DataW H) → Nat
  | [] => 0
  | x :: r => uptoBulkEntry x + uptoBulkEntries r
def uptoBulkEntry {H : Type} : Lit × DataW H → Nat
  | (.string bytes, d) => bytes.length + uptoBulk d + 1
  | (_, d) => uptoBulk d + 1
 end
def uptoSmall : (H : Type) → List (DataW H) → Bool := fun _ ds => decide (uptoBulkAll ds ≤ 1048576)
def OpenSpec.upto (s : _root_.Go.ChangeSpec) : _root_.Go.OpenSpec := { _root_.Go.OpenSpec.ofChange s with cond := some uptoSmall }

/-- 'paideialaw6.UnifySays', WHERE WHAT IT READS IS OF BULK AT MOST 1048576: true; the input reads as it did. -/
def unifySaysUptoRow : OpenClaim := { program := "ytdcfemojkdoakaadoor", sum := "b2c3a6fe9d6d003db2c6f4d4c0e8d63c68f96e454f6cb38eddecb900a4aa6542", func := "paideia/paideialaw6.UnifySays", spec := "unifySays", unfollowed := true, recurses := true, named := ["paideia/api.ErrOccur", "paideia/api.ErrType", "paideia/api.ErrLex", "paideia/api.ErrParse", "paideia/api.ErrScope", "paideia/api.ErrTwice", "paideia/api.ErrClass", "paideia/api.ErrKind", "paideia/api.ErrAmbig", "paideia/api.ErrNone", "paideia/api.ErrLimit", "paideia/api.ErrFuel", "paideia/api.ErrHeap", "paideia/api.ErrBlack", "paideia/api.ErrMatch"], apart := false, laid := [("paideia/api.ErrLex", laid_paideia_api_ErrLex), ("paideia/api.ErrParse", laid_paideia_api_ErrParse), ("paideia/api.ErrScope", laid_paideia_api_ErrScope), ("paideia/api.ErrTwice", laid_paideia_api_ErrTwice), ("paideia/api.ErrClass", laid_paideia_api_ErrClass), ("paideia/api.ErrType", laid_paideia_api_ErrType), ("paideia/api.ErrOccur", laid_paideia_api_ErrOccur), ("paideia/api.ErrKind", laid_paideia_api_ErrKind), ("paideia/api.ErrAmbig", laid_paideia_api_ErrAmbig), ("paideia/api.ErrNone", laid_paideia_api_ErrNone), ("paideia/api.ErrLimit", laid_paideia_api_ErrLimit), ("paideia/api.ErrFuel", laid_paideia_api_ErrFuel), ("paideia/api.ErrHeap", laid_paideia_api_ErrHeap), ("paideia/api.ErrBlack", laid_paideia_api_ErrBlack), ("paideia/api.ErrMatch", laid_paideia_api_ErrMatch)], narrowed := true }
def UnifySaysUptoSaid : Prop := unifySaysUptoRow.holds Tryd.pinned (OpenSpec.upto unifySaysSpec)

/-- 'paideialaw6.UnifyRows', WHERE WHAT IT READS IS OF BULK AT MOST 1048576: true; the input reads as it did. -/
def unifyRowsUptoRow : OpenClaim := { program := "ytdcfemojkdoakaadoor", sum := "b2c3a6fe9d6d003db2c6f4d4c0e8d63c68f96e454f6cb38eddecb900a4aa6542", func := "paideia/paideialaw6.UnifyRows", spec := "unifyRows", unfollowed := true, recurses := true, named := ["paideia/api.ErrOccur", "paideia/api.ErrType"], apart := false, laid := [("paideia/api.ErrType", laid_paideia_api_ErrType), ("paideia/api.ErrOccur", laid_paideia_api_ErrOccur)], narrowed := true }
def UnifyRowsUptoSaid : Prop := unifyRowsUptoRow.holds Tryd.pinned (OpenSpec.upto unifyRowsSpec)

/-- 'paideialaw8.SchemeSorts', WHERE WHAT IT READS IS OF BULK AT MOST 1048576: true; the input reads as it did. -/
def schemeSortsUptoRow : OpenClaim := { program := "ytdcfemojkdoakaadoor", sum := "b2c3a6fe9d6d003db2c6f4d4c0e8d63c68f96e454f6cb38eddecb900a4aa6542", func := "paideia/paideialaw8.SchemeSorts", spec := "schemeSorts", unfollowed := true, recurses := true, named := ["internal/strconv.uint64pow10", "math/bits.deBruijn32tab", "math/bits.deBruijn64tab"], apart := false, laid := [("math/bits.deBruijn32tab", laid_math_bits_deBruijn32tab), ("math/bits.deBruijn64tab", laid_math_bits_deBruijn64tab), ("internal/strconv.uint64pow10", laid_internal_strconv_uint64pow10)], narrowed := true }
def SchemeSortsUptoSaid : Prop := schemeSortsUptoRow.holds Tryd.pinned (OpenSpec.upto schemeSortsSpec)

/-- 'paideialaw8.SchemeFresh', WHERE WHAT IT READS IS OF BULK AT MOST 1048576: true; the input reads as it did. -/
def schemeFreshUptoRow : OpenClaim := { program := "ytdcfemojkdoakaadoor", sum := "b2c3a6fe9d6d003db2c6f4d4c0e8d63c68f96e454f6cb38eddecb900a4aa6542", func := "paideia/paideialaw8.SchemeFresh", spec := "schemeFresh", unfollowed := true, recurses := true, named := ["internal/strconv.uint64pow10", "math/bits.deBruijn32tab", "math/bits.deBruijn64tab"], apart := false, laid := [("math/bits.deBruijn32tab", laid_math_bits_deBruijn32tab), ("math/bits.deBruijn64tab", laid_math_bits_deBruijn64tab), ("internal/strconv.uint64pow10", laid_internal_strconv_uint64pow10)], narrowed := true }
def SchemeFreshUptoSaid : Prop := schemeFreshUptoRow.holds Tryd.pinned (OpenSpec.upto schemeFreshSpec)

/-- 'paideialaw8.SchemeFree', WHERE WHAT IT READS IS OF BULK AT MOST 1048576: true; the input reads as it did. -/
def schemeFreeUptoRow : OpenClaim := { program := "ytdcfemojkdoakaadoor", sum := "b2c3a6fe9d6d003db2c6f4d4c0e8d63c68f96e454f6cb38eddecb900a4aa6542", func := "paideia/paideialaw8.SchemeFree", spec := "schemeFree", unfollowed := true, recurses := true, named := ["internal/strconv.uint64pow10", "math/bits.deBruijn32tab", "math/bits.deBruijn64tab"], apart := false, laid := [("math/bits.deBruijn32tab", laid_math_bits_deBruijn32tab), ("math/bits.deBruijn64tab", laid_math_bits_deBruijn64tab), ("internal/strconv.uint64pow10", laid_internal_strconv_uint64pow10)], narrowed := true }
def SchemeFreeUptoSaid : Prop := schemeFreeUptoRow.holds Tryd.pinned (OpenSpec.upto schemeFreeSpec)

end Rows
end Go.Proofs.YtdcfemojkdoakaaDoor
