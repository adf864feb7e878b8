/- What the rows of the parser's laws hand to the walks: the cells of the listed errors. -/
import Derived.Test.YtdooeghicdaakaaGreatDoorRows
import Derived.Test.YtdooeghicdaakaaGreatDoorIter
import Derived.ProofKit
import Derived.LaidMore
import Derived.OpenShut
import Derived.ChangeOld
import Derived.Stop.Joined
import Derived.Stop.LaidErr
namespace Go.Proofs.YtdooeghicdaakaaGreatDoor
open Go.ChangeShapes Go.WideShapes Go.ChangeAt Go.RowKit

theorem own : ownKnob Tryz.prog.godebug = none := by kernel_rfl
theorem laidOut : laidOutB Tryz.prog = true := by kernel_rfl
theorem cellsStr : Tryz.prog.cellsOf 9 = 1 := by kernel_rfl
theorem cellsErrStr : Tryz.prog.cellsOf 151 = 1 := by kernel_rfl
def errName : String := "*errors.errorString"
theorem star : errName = "*" ++ "errors.errorString" := by decide
theorem rowErr (u : TypeId) (h : Tryz.prog.typeName? 3 u = some errName) : u = 133 :=
  typeName_ptr_named (nm := "errors.errorString") (by rw [← star]; kernel_rfl) (by kernel_rfl) (by decide) u (by rw [← star]; exact h)
/-- One listed error, and the list behind it. -/
theorem err_at {r : List (String × DataW Unit)} {n : String} {text : List UInt8} {W : World} {g : Nat} (h : laidMet Tryz.prog ((n, .iface errName (.ptr (.agg [.lit (.string text)]))) :: r) W)
    (hg : Tryz.prog.globalNamed n = some g) (tg : (Tryz.prog.globals[g]?).map (·.type) = some 30) : (∃ a, W.cell? ⟨g, 0, none⟩ = some (errL a)) ∧ laidMet Tryz.prog r W := by
  obtain ⟨a, s, hv, _⟩ := laid_sentinel h hg tg Tryz.underlying30 rowErr Tryz.underlying133 Tryz.underlying151 rfl rfl Tryz.underlying9 cellsErrStr cellsStr
  exact ⟨⟨a, by simpa [errL] using World.var?_cell hg hv 0⟩, h.tail⟩
theorem bounds_i64 {z : Int} (h : (Lit.int .i64 z).wf = true) : -9223372036854775808 ≤ z ∧ z ≤ 9223372036854775807 := by
  have h1 : IntKind.i64.min = -9223372036854775808 := rfl
  have h2 : IntKind.i64.max = 9223372036854775807 := rfl
  simp only [Lit.wf, Bool.and_eq_true, decide_eq_true_eq] at h
  omega
end Go.Proofs.YtdooeghicdaakaaGreatDoor
