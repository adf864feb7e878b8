/- ParserPlaces, whatever the number is. -/
import Derived.Test.YtelkelfpcndckaaGreatDoorPpYa
import Derived.Test.YtelkelfpcndckaaGreatDoorPpYb
import Derived.Test.YtelkelfpcndckaaGreatDoorPpYc
import Derived.Test.YtelkelfpcndckaaGreatDoorPpYd
import Derived.Test.YtelkelfpcndckaaGreatDoorPpYe
import Derived.Test.YtelkelfpcndckaaGreatDoorPpYf
import Derived.Test.YtelkelfpcndckaaGreatDoorPpYg
import Derived.Test.YtelkelfpcndckaaGreatDoorPpYh
import Derived.Test.YtelkelfpcndckaaGreatDoorPpYi
import Derived.Test.YtelkelfpcndckaaGreatDoorPpYj
import Derived.Test.YtelkelfpcndckaaGreatDoorPpYk
import Derived.Test.YtelkelfpcndckaaGreatDoorPpYl
import Derived.Test.YtelkelfpcndckaaGreatDoorPpYm
import Derived.Test.YtelkelfpcndckaaGreatDoorPpYn
import Derived.Test.YtelkelfpcndckaaGreatDoorPpYo
import Derived.Test.YtelkelfpcndckaaGreatDoorSxDoor
namespace Go.Proofs.YtelkelfpcndckaaGreatDoor
open Go.RowKit
open Go.Proofs.YtelkelfpcndckaaGreatDoor.Sx
set_option maxRecDepth 100000 in
theorem Pp_law (z : Int) (W : World) (hL : laidMet Tryz.prog Rows.parserPlacesRow.laid W) : Calls Tryz.prog 5 #[.int .i64 z] W fun e w' => e = .returned (.bool true) ∧ Below W.heap.size W w' := by
  obtain ⟨⟨⟨g0, e0, a0⟩, s0⟩, h0⟩ := sen_in (g := 2) hL (by kernel_rfl) (by kernel_rfl)
  obtain rfl : g0 = 2 := s0.1
  obtain ⟨⟨⟨g1, e1, a1⟩, s1⟩, h1⟩ := sen_in (g := 0) h0 (by kernel_rfl) (by kernel_rfl)
  obtain rfl : g1 = 0 := s1.1
  obtain ⟨⟨⟨g2, e2, a2⟩, s2⟩, h2⟩ := sen_in (g := 1) h1 (by kernel_rfl) (by kernel_rfl)
  obtain rfl : g2 = 1 := s2.1
  have hl : Lies 3 266 [⟨2, e0, a0⟩, ⟨0, e1, a1⟩, ⟨1, e2, a2⟩] W := by
    have k0 := s0.lt
    have k1 := s1.lt
    have k2 := s2.lt
    exact lies_of (gl := 3) [(_, ⟨2, e0, a0⟩), (_, ⟨0, e1, a1⟩), (_, ⟨1, e2, a2⟩)] (by omega) (by decide) (by simp) ⟨⟨s0, by dsimp only; omega⟩, ⟨s1, by dsimp only; omega⟩, ⟨s2, by dsimp only; omega⟩, trivial⟩ (by simp only [List.map_cons, List.map_nil]; decide)
  have hlo : 0 ≤ z % 30 := Int.emod_nonneg _ (by decide)
  have hhi : z % 30 < 30 := Int.emod_lt_of_pos _ (by decide)
  have hr : z % 30 = 0 ∨ z % 30 = 1 ∨ z % 30 = 2 ∨ z % 30 = 3 ∨ z % 30 = 4 ∨ z % 30 = 5 ∨ z % 30 = 6 ∨ z % 30 = 7 ∨ z % 30 = 8 ∨ z % 30 = 9 ∨ z % 30 = 10 ∨ z % 30 = 11 ∨ z % 30 = 12 ∨ z % 30 = 13 ∨ z % 30 = 14 ∨ z % 30 = 15 ∨ z % 30 = 16 ∨ z % 30 = 17 ∨ z % 30 = 18 ∨ z % 30 = 19 ∨ z % 30 = 20 ∨ z % 30 = 21 ∨ z % 30 = 22 ∨ z % 30 = 23 ∨ z % 30 = 24 ∨ z % 30 = 25 ∨ z % 30 = 26 ∨ z % 30 = 27 ∨ z % 30 = 28 ∨ z % 30 = 29 := by omega
  rcases hr with hr | hr | hr | hr | hr | hr | hr | hr | hr | hr | hr | hr | hr | hr | hr | hr | hr | hr | hr | hr | hr | hr | hr | hr | hr | hr | hr | hr | hr | hr
  · exact law_of_yes good mixed hl (args := #[.complex .f64 30 0]) (fun ρ => VsR.one (.sym hr)) (Pp_yes0 e0 e1 e2 a0 a1 a2)
  · exact law_of_yes good mixed hl (args := #[.complex .f64 30 1]) (fun ρ => VsR.one (.sym hr)) (Pp_yes1 e0 e1 e2 a0 a1 a2)
  · exact law_of_yes good mixed hl (args := #[.complex .f64 30 2]) (fun ρ => VsR.one (.sym hr)) (Pp_yes2 e0 e1 e2 a0 a1 a2)
  · exact law_of_yes good mixed hl (args := #[.complex .f64 30 3]) (fun ρ => VsR.one (.sym hr)) (Pp_yes3 e0 e1 e2 a0 a1 a2)
  · exact law_of_yes good mixed hl (args := #[.complex .f64 30 4]) (fun ρ => VsR.one (.sym hr)) (Pp_yes4 e0 e1 e2 a0 a1 a2)
  · exact law_of_yes good mixed hl (args := #[.complex .f64 30 5]) (fun ρ => VsR.one (.sym hr)) (Pp_yes5 e0 e1 e2 a0 a1 a2)
  · exact law_of_yes good mixed hl (args := #[.complex .f64 30 6]) (fun ρ => VsR.one (.sym hr)) (Pp_yes6 e0 e1 e2 a0 a1 a2)
  · exact law_of_yes good mixed hl (args := #[.complex .f64 30 7]) (fun ρ => VsR.one (.sym hr)) (Pp_yes7 e0 e1 e2 a0 a1 a2)
  · exact law_of_yes good mixed hl (args := #[.complex .f64 30 8]) (fun ρ => VsR.one (.sym hr)) (Pp_yes8 e0 e1 e2 a0 a1 a2)
  · exact law_of_yes good mixed hl (args := #[.complex .f64 30 9]) (fun ρ => VsR.one (.sym hr)) (Pp_yes9 e0 e1 e2 a0 a1 a2)
  · exact law_of_yes good mixed hl (args := #[.complex .f64 30 10]) (fun ρ => VsR.one (.sym hr)) (Pp_yes10 e0 e1 e2 a0 a1 a2)
  · exact law_of_yes good mixed hl (args := #[.complex .f64 30 11]) (fun ρ => VsR.one (.sym hr)) (Pp_yes11 e0 e1 e2 a0 a1 a2)
  · exact law_of_yes good mixed hl (args := #[.complex .f64 30 12]) (fun ρ => VsR.one (.sym hr)) (Pp_yes12 e0 e1 e2 a0 a1 a2)
  · exact law_of_yes good mixed hl (args := #[.complex .f64 30 13]) (fun ρ => VsR.one (.sym hr)) (Pp_yes13 e0 e1 e2 a0 a1 a2)
  · exact law_of_yes good mixed hl (args := #[.complex .f64 30 14]) (fun ρ => VsR.one (.sym hr)) (Pp_yes14 e0 e1 e2 a0 a1 a2)
  · exact law_of_yes good mixed hl (args := #[.complex .f64 30 15]) (fun ρ => VsR.one (.sym hr)) (Pp_yes15 e0 e1 e2 a0 a1 a2)
  · exact law_of_yes good mixed hl (args := #[.complex .f64 30 16]) (fun ρ => VsR.one (.sym hr)) (Pp_yes16 e0 e1 e2 a0 a1 a2)
  · exact law_of_yes good mixed hl (args := #[.complex .f64 30 17]) (fun ρ => VsR.one (.sym hr)) (Pp_yes17 e0 e1 e2 a0 a1 a2)
  · exact law_of_yes good mixed hl (args := #[.complex .f64 30 18]) (fun ρ => VsR.one (.sym hr)) (Pp_yes18 e0 e1 e2 a0 a1 a2)
  · exact law_of_yes good mixed hl (args := #[.complex .f64 30 19]) (fun ρ => VsR.one (.sym hr)) (Pp_yes19 e0 e1 e2 a0 a1 a2)
  · exact law_of_yes good mixed hl (args := #[.complex .f64 30 20]) (fun ρ => VsR.one (.sym hr)) (Pp_yes20 e0 e1 e2 a0 a1 a2)
  · exact law_of_yes good mixed hl (args := #[.complex .f64 30 21]) (fun ρ => VsR.one (.sym hr)) (Pp_yes21 e0 e1 e2 a0 a1 a2)
  · exact law_of_yes good mixed hl (args := #[.complex .f64 30 22]) (fun ρ => VsR.one (.sym hr)) (Pp_yes22 e0 e1 e2 a0 a1 a2)
  · exact law_of_yes good mixed hl (args := #[.complex .f64 30 23]) (fun ρ => VsR.one (.sym hr)) (Pp_yes23 e0 e1 e2 a0 a1 a2)
  · exact law_of_yes good mixed hl (args := #[.complex .f64 30 24]) (fun ρ => VsR.one (.sym hr)) (Pp_yes24 e0 e1 e2 a0 a1 a2)
  · exact law_of_yes good mixed hl (args := #[.complex .f64 30 25]) (fun ρ => VsR.one (.sym hr)) (Pp_yes25 e0 e1 e2 a0 a1 a2)
  · exact law_of_yes good mixed hl (args := #[.complex .f64 30 26]) (fun ρ => VsR.one (.sym hr)) (Pp_yes26 e0 e1 e2 a0 a1 a2)
  · exact law_of_yes good mixed hl (args := #[.complex .f64 30 27]) (fun ρ => VsR.one (.sym hr)) (Pp_yes27 e0 e1 e2 a0 a1 a2)
  · exact law_of_yes good mixed hl (args := #[.complex .f64 30 28]) (fun ρ => VsR.one (.sym hr)) (Pp_yes28 e0 e1 e2 a0 a1 a2)
  · exact law_of_yes good mixed hl (args := #[.complex .f64 30 29]) (fun ρ => VsR.one (.sym hr)) (Pp_yes29 e0 e1 e2 a0 a1 a2)
end Go.Proofs.YtelkelfpcndckaaGreatDoor
