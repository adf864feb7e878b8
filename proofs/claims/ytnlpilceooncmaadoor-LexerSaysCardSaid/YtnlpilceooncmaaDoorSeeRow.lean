/- What the rows of the laws that name all of api's errors hand to the walks. -/
import Derived.Test.YtnlpilceooncmaaDoorSee
import Derived.Test.YtnlpilceooncmaaDoorRow
import Derived.Test.YtnlpilceooncmaaDoorRows
namespace Go.Proofs.YtnlpilceooncmaaDoor
open Go.ChangeShapes Go.WideShapes Go.ChangeAt Go.RowKit

/-- One listed error, and the list behind it. -/
theorem err_at {r : List (String × DataW Unit)} {n : String} {text : List UInt8} {W : World} {g : Nat} (h : laidMet Tryd.prog ((n, .iface errName (.ptr (.agg [.lit (.string text)]))) :: r) W)
    (hg : Tryd.prog.globalNamed n = some g) (tg : (Tryd.prog.globals[g]?).map (·.type) = some 26) : (∃ a, W.cell? ⟨g, 0, none⟩ = some (errL a)) ∧ laidMet Tryd.prog r W := by
  obtain ⟨a, s, hv, _⟩ := laid_sentinel h hg tg Tryd.underlying26 rowErr Tryd.underlying82 Tryd.underlying100 rfl rfl Tryd.underlying9 cellsErrStr cellsStr
  exact ⟨⟨a, by simpa [errL] using World.var?_cell hg hv 0⟩, h.tail⟩

theorem errs_of_laid {W : World} (h : laidMet Tryd.prog Rows.lexerNamesRow.laid W) : ∃ a, W.cell? ⟨0, 0, none⟩ = some (errL a) ∧ ErrsAt W := by
  obtain ⟨⟨a, e0⟩, h1⟩ := err_at (g := 0) h (by kernel_rfl) (by kernel_rfl)
  obtain ⟨e1, h2⟩ := err_at (g := 2) h1 (by kernel_rfl) (by kernel_rfl)
  obtain ⟨e2, h3⟩ := err_at (g := 3) h2 (by kernel_rfl) (by kernel_rfl)
  obtain ⟨e3, h4⟩ := err_at (g := 4) h3 (by kernel_rfl) (by kernel_rfl)
  obtain ⟨e4, h5⟩ := err_at (g := 5) h4 (by kernel_rfl) (by kernel_rfl)
  obtain ⟨e5, h6⟩ := err_at (g := 6) h5 (by kernel_rfl) (by kernel_rfl)
  obtain ⟨e6, h7⟩ := err_at (g := 7) h6 (by kernel_rfl) (by kernel_rfl)
  obtain ⟨e7, h8⟩ := err_at (g := 8) h7 (by kernel_rfl) (by kernel_rfl)
  obtain ⟨e8, h9⟩ := err_at (g := 9) h8 (by kernel_rfl) (by kernel_rfl)
  obtain ⟨e9, h10⟩ := err_at (g := 10) h9 (by kernel_rfl) (by kernel_rfl)
  obtain ⟨e10, h11⟩ := err_at (g := 1) h10 (by kernel_rfl) (by kernel_rfl)
  obtain ⟨e11, h12⟩ := err_at (g := 11) h11 (by kernel_rfl) (by kernel_rfl)
  obtain ⟨e12, h13⟩ := err_at (g := 12) h12 (by kernel_rfl) (by kernel_rfl)
  obtain ⟨e13, h14⟩ := err_at (g := 13) h13 (by kernel_rfl) (by kernel_rfl)
  obtain ⟨e14, _⟩ := err_at (g := 14) h14 (by kernel_rfl) (by kernel_rfl)
  refine ⟨a, e0, fun g hg => ?_⟩
  simp only [List.mem_cons, List.not_mem_nil, or_false] at hg
  rcases hg with rfl | rfl | rfl | rfl | rfl | rfl | rfl | rfl | rfl | rfl | rfl | rfl | rfl | rfl <;> assumption

theorem byte_of {x : Int} (h : (Lit.int .u8 x).wf = true) : ∃ c : UInt8, x = (c.toNat : Int) := by
  obtain ⟨h1, h2⟩ := byte_bd h
  refine ⟨UInt8.ofNat x.toNat, ?_⟩
  simp [UInt8.toNat_ofNat']
  omega
end Go.Proofs.YtnlpilceooncmaaDoor
