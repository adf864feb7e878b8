/- ParserSigs, whatever the number is, and the truth. -/
import Derived.Test.YtelkelfpcndckaaGreatDoorPsYa
import Derived.Test.YtelkelfpcndckaaGreatDoorPsYb
import Derived.Test.YtelkelfpcndckaaGreatDoorPsYc
import Derived.Test.YtelkelfpcndckaaGreatDoorPsYd
import Derived.Test.YtelkelfpcndckaaGreatDoorPsYe
import Derived.Test.YtelkelfpcndckaaGreatDoorPsYf
import Derived.Test.YtelkelfpcndckaaGreatDoorSyDoor
namespace Go.Proofs.YtelkelfpcndckaaGreatDoor
open Go.RowKit
open Go.Proofs.YtelkelfpcndckaaGreatDoor.Sx
set_option maxRecDepth 100000 in
theorem Ps_law (z : Int) (b : Bool) (W : World) (hL : laidMet Tryz.prog Rows.parserSigsRow.laid W) : Calls Tryz.prog 6 #[.int .i64 z, .bool b] W fun e w' => e = .returned (.bool true) ∧ Below W.heap.size W w' := by
  obtain ⟨⟨⟨g0, e0, a0⟩, s0⟩, h0⟩ := sen_in (g := 2) hL (by kernel_rfl) (by kernel_rfl)
  obtain rfl : g0 = 2 := s0.1
  obtain ⟨⟨⟨g1, e1, a1⟩, s1⟩, h1⟩ := sen_in (g := 0) h0 (by kernel_rfl) (by kernel_rfl)
  obtain rfl : g1 = 0 := s1.1
  obtain ⟨⟨⟨g2, e2, a2⟩, s2⟩, h2⟩ := sen_in (g := 1) h1 (by kernel_rfl) (by kernel_rfl)
  obtain rfl : g2 = 1 := s2.1
  have hl : Lies 3 266 [⟨2, e0, a0⟩, ⟨0, e1, a1⟩, ⟨1, e2, a2⟩] W := by
    have k0 := s0.lt
    have k1 := s1.lt
    have k2 := s2.lt
    exact lies_of (gl := 3) [(_, ⟨2, e0, a0⟩), (_, ⟨0, e1, a1⟩), (_, ⟨1, e2, a2⟩)] (by omega) (by decide) (by simp) ⟨⟨s0, by dsimp only; omega⟩, ⟨s1, by dsimp only; omega⟩, ⟨s2, by dsimp only; omega⟩, trivial⟩ (by simp only [List.map_cons, List.map_nil]; decide)
  have hlo : 0 ≤ z % 3 := Int.emod_nonneg _ (by decide)
  have hhi : z % 3 < 3 := Int.emod_lt_of_pos _ (by decide)
  have hr : z % 3 = 0 ∨ z % 3 = 1 ∨ z % 3 = 2 := by omega
  rcases hr with hr | hr | hr <;> cases b
  · exact law_of_yes good mixed hl (args := #[.complex .f64 3 0, .bool false]) (fun ρ => VsR.push (VsR.one (VR.sym (ρ := ρ) (k := .f64) (m := 3) (q := 0) (z := z) hr)) (VR.bool (ρ := ρ) false)) (Ps_yes0false e0 e1 e2 a0 a1 a2)
  · exact law_of_yes good mixed hl (args := #[.complex .f64 3 0, .bool true]) (fun ρ => VsR.push (VsR.one (VR.sym (ρ := ρ) (k := .f64) (m := 3) (q := 0) (z := z) hr)) (VR.bool (ρ := ρ) true)) (Ps_yes0true e0 e1 e2 a0 a1 a2)
  · exact law_of_yes good mixed hl (args := #[.complex .f64 3 1, .bool false]) (fun ρ => VsR.push (VsR.one (VR.sym (ρ := ρ) (k := .f64) (m := 3) (q := 1) (z := z) hr)) (VR.bool (ρ := ρ) false)) (Ps_yes1false e0 e1 e2 a0 a1 a2)
  · exact law_of_yes good mixed hl (args := #[.complex .f64 3 1, .bool true]) (fun ρ => VsR.push (VsR.one (VR.sym (ρ := ρ) (k := .f64) (m := 3) (q := 1) (z := z) hr)) (VR.bool (ρ := ρ) true)) (Ps_yes1true e0 e1 e2 a0 a1 a2)
  · exact law_of_yes good mixed hl (args := #[.complex .f64 3 2, .bool false]) (fun ρ => VsR.push (VsR.one (VR.sym (ρ := ρ) (k := .f64) (m := 3) (q := 2) (z := z) hr)) (VR.bool (ρ := ρ) false)) (Ps_yes2false e0 e1 e2 a0 a1 a2)
  · exact law_of_yes good mixed hl (args := #[.complex .f64 3 2, .bool true]) (fun ρ => VsR.push (VsR.one (VR.sym (ρ := ρ) (k := .f64) (m := 3) (q := 2) (z := z) hr)) (VR.bool (ρ := ρ) true)) (Ps_yes2true e0 e1 e2 a0 a1 a2)
end Go.Proofs.YtelkelfpcndckaaGreatDoor
