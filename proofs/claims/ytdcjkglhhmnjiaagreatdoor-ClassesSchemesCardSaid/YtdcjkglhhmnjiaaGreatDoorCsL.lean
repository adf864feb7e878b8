/- ClassesSchemes, whatever the number is. -/
import Derived.Test.YtdcjkglhhmnjiaaGreatDoorCsYa
import Derived.Test.YtdcjkglhhmnjiaaGreatDoorCsYb
import Derived.Test.YtdcjkglhhmnjiaaGreatDoorCsYc
import Derived.Test.YtdcjkglhhmnjiaaGreatDoorCsYd
import Derived.Test.YtdcjkglhhmnjiaaGreatDoorSyDoor
namespace Go.Proofs.YtdcjkglhhmnjiaaGreatDoor
open Go.RowKit
open Go.Proofs.YtdcjkglhhmnjiaaGreatDoor.Sx
set_option maxRecDepth 100000 in
theorem Cs_law (z : Int) (W : World) (hL : laidMet Tryz.prog Rows.classesSchemesRow.laid W) : Calls Tryz.prog 4 #[.int .i64 z] W fun e w' => e = .returned (.bool true) ∧ Below W.heap.size W w' := by
  obtain ⟨⟨⟨g0, e0, a0⟩, s0⟩, h0⟩ := sen_in (g := 2) hL (by kernel_rfl) (by kernel_rfl)
  obtain rfl : g0 = 2 := s0.1
  obtain ⟨⟨⟨g1, e1, a1⟩, s1⟩, h1⟩ := sen_in (g := 0) h0 (by kernel_rfl) (by kernel_rfl)
  obtain rfl : g1 = 0 := s1.1
  obtain ⟨⟨⟨g2, e2, a2⟩, s2⟩, h2⟩ := sen_in (g := 1) h1 (by kernel_rfl) (by kernel_rfl)
  obtain rfl : g2 = 1 := s2.1
  obtain ⟨⟨⟨g3, e3, a3⟩, s3⟩, h3⟩ := sen_in (g := 3) h2 (by kernel_rfl) (by kernel_rfl)
  obtain rfl : g3 = 3 := s3.1
  have hl : Lies 4 291 [⟨2, e0, a0⟩, ⟨0, e1, a1⟩, ⟨1, e2, a2⟩, ⟨3, e3, a3⟩] W := by
    have k0 := s0.lt
    have k1 := s1.lt
    have k2 := s2.lt
    have k3 := s3.lt
    exact lies_of (gl := 4) [(_, ⟨2, e0, a0⟩), (_, ⟨0, e1, a1⟩), (_, ⟨1, e2, a2⟩), (_, ⟨3, e3, a3⟩)] (by omega) (by decide) (by simp) ⟨⟨s0, by dsimp only; omega⟩, ⟨s1, by dsimp only; omega⟩, ⟨s2, by dsimp only; omega⟩, ⟨s3, by dsimp only; omega⟩, trivial⟩ (by simp only [List.map_cons, List.map_nil]; decide)
  have hlo : 0 ≤ z % 4 := Int.emod_nonneg _ (by decide)
  have hhi : z % 4 < 4 := Int.emod_lt_of_pos _ (by decide)
  have hr : z % 4 = 0 ∨ z % 4 = 1 ∨ z % 4 = 2 ∨ z % 4 = 3 := by omega
  have hc : CallsOk Tryz.prog 4 (callI Tryz.prog 54 9 4 400 60) := callI_ok Tryz.laysIns (by kernel_rfl) (by kernel_rfl) good mixed 400 60
  rcases hr with hr | hr | hr | hr
  · exact law_of_yesI hc hl (args := #[.complex .f64 4 0]) (fun ρ => VsR.one (.sym hr)) (Cs_yes0 e0 e1 e2 e3 a0 a1 a2 a3)
  · exact law_of_yesI hc hl (args := #[.complex .f64 4 1]) (fun ρ => VsR.one (.sym hr)) (Cs_yes1 e0 e1 e2 e3 a0 a1 a2 a3)
  · exact law_of_yesI hc hl (args := #[.complex .f64 4 2]) (fun ρ => VsR.one (.sym hr)) (Cs_yes2 e0 e1 e2 e3 a0 a1 a2 a3)
  · exact law_of_yesI hc hl (args := #[.complex .f64 4 3]) (fun ρ => VsR.one (.sym hr)) (Cs_yes3 e0 e1 e2 e3 a0 a1 a2 a3)
end Go.Proofs.YtdcjkglhhmnjiaaGreatDoor
