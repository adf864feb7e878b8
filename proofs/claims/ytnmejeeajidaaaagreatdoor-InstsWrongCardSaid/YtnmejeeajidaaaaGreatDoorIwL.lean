/- InstsWrong, whatever the number is. -/
import Derived.Test.YtnmejeeajidaaaaGreatDoorIwYa
import Derived.Test.YtnmejeeajidaaaaGreatDoorIwYb
import Derived.Test.YtnmejeeajidaaaaGreatDoorIwYc
import Derived.Test.YtnmejeeajidaaaaGreatDoorIwYd
import Derived.Test.YtnmejeeajidaaaaGreatDoorIwYe
import Derived.Test.YtnmejeeajidaaaaGreatDoorIwYf
import Derived.Test.YtnmejeeajidaaaaGreatDoorIwYg
import Derived.Test.YtnmejeeajidaaaaGreatDoorIwYh
import Derived.Test.YtnmejeeajidaaaaGreatDoorIwYi
import Derived.Test.YtnmejeeajidaaaaGreatDoorIwYj
import Derived.Test.YtnmejeeajidaaaaGreatDoorSxDoor
namespace Go.Proofs.YtnmejeeajidaaaaGreatDoor
open Go.RowKit
open Go.Proofs.YtnmejeeajidaaaaGreatDoor.Sx
theorem Iw_all : okAll Tryz.prog 15 = true := by kernel_rfl
set_option maxRecDepth 100000 in
theorem Iw_law (z : Int) (W : World) (hL : laidMet Tryz.prog Rows.instsWrongRow.laid W) : Calls Tryz.prog 5 #[.int .i64 z] W fun e w' => e = .returned (.bool true) ∧ Below W.heap.size W w' := by
  obtain ⟨⟨⟨g0, e0, a0⟩, s0⟩, h0⟩ := sen_in (g := 4) hL (by kernel_rfl) (by kernel_rfl)
  obtain rfl : g0 = 4 := s0.1
  obtain ⟨⟨⟨g1, e1, a1⟩, s1⟩, h1⟩ := sen_in (g := 5) h0 (by kernel_rfl) (by kernel_rfl)
  obtain rfl : g1 = 5 := s1.1
  obtain ⟨⟨⟨g2, e2, a2⟩, s2⟩, h2⟩ := sen_in (g := 2) h1 (by kernel_rfl) (by kernel_rfl)
  obtain rfl : g2 = 2 := s2.1
  obtain ⟨⟨⟨g3, e3, a3⟩, s3⟩, h3⟩ := sen_in (g := 0) h2 (by kernel_rfl) (by kernel_rfl)
  obtain rfl : g3 = 0 := s3.1
  obtain ⟨⟨⟨g4, e4, a4⟩, s4⟩, h4⟩ := sen_in (g := 1) h3 (by kernel_rfl) (by kernel_rfl)
  obtain rfl : g4 = 1 := s4.1
  obtain ⟨⟨⟨g5, e5, a5⟩, s5⟩, h5⟩ := sen_in (g := 6) h4 (by kernel_rfl) (by kernel_rfl)
  obtain rfl : g5 = 6 := s5.1
  obtain ⟨⟨⟨g6, e6, a6⟩, s6⟩, h6⟩ := sen_in (g := 7) h5 (by kernel_rfl) (by kernel_rfl)
  obtain rfl : g6 = 7 := s6.1
  obtain ⟨⟨⟨g7, e7, a7⟩, s7⟩, h7⟩ := sen_in (g := 3) h6 (by kernel_rfl) (by kernel_rfl)
  obtain rfl : g7 = 3 := s7.1
  obtain ⟨⟨⟨g8, e8, a8⟩, s8⟩, h8⟩ := sen_in (g := 8) h7 (by kernel_rfl) (by kernel_rfl)
  obtain rfl : g8 = 8 := s8.1
  obtain ⟨⟨⟨g9, e9, a9⟩, s9⟩, h9⟩ := sen_in (g := 9) h8 (by kernel_rfl) (by kernel_rfl)
  obtain rfl : g9 = 9 := s9.1
  obtain ⟨⟨⟨g10, e10, a10⟩, s10⟩, h10⟩ := sen_in (g := 10) h9 (by kernel_rfl) (by kernel_rfl)
  obtain rfl : g10 = 10 := s10.1
  obtain ⟨⟨⟨g11, e11, a11⟩, s11⟩, h11⟩ := sen_in (g := 11) h10 (by kernel_rfl) (by kernel_rfl)
  obtain rfl : g11 = 11 := s11.1
  obtain ⟨⟨⟨g12, e12, a12⟩, s12⟩, h12⟩ := sen_in (g := 12) h11 (by kernel_rfl) (by kernel_rfl)
  obtain rfl : g12 = 12 := s12.1
  obtain ⟨⟨⟨g13, e13, a13⟩, s13⟩, h13⟩ := sen_in (g := 13) h12 (by kernel_rfl) (by kernel_rfl)
  obtain rfl : g13 = 13 := s13.1
  obtain ⟨⟨⟨g14, e14, a14⟩, s14⟩, h14⟩ := sen_in (g := 14) h13 (by kernel_rfl) (by kernel_rfl)
  obtain rfl : g14 = 14 := s14.1
  have hl : Lies 15 290 [⟨4, e0, a0⟩, ⟨5, e1, a1⟩, ⟨2, e2, a2⟩, ⟨0, e3, a3⟩, ⟨1, e4, a4⟩, ⟨6, e5, a5⟩, ⟨7, e6, a6⟩, ⟨3, e7, a7⟩, ⟨8, e8, a8⟩, ⟨9, e9, a9⟩, ⟨10, e10, a10⟩, ⟨11, e11, a11⟩, ⟨12, e12, a12⟩, ⟨13, e13, a13⟩, ⟨14, e14, a14⟩] W := by
    have k0 := s0.lt
    have k1 := s1.lt
    have k2 := s2.lt
    have k3 := s3.lt
    have k4 := s4.lt
    have k5 := s5.lt
    have k6 := s6.lt
    have k7 := s7.lt
    have k8 := s8.lt
    have k9 := s9.lt
    have k10 := s10.lt
    have k11 := s11.lt
    have k12 := s12.lt
    have k13 := s13.lt
    have k14 := s14.lt
    exact lies_of (gl := 15) [(_, ⟨4, e0, a0⟩), (_, ⟨5, e1, a1⟩), (_, ⟨2, e2, a2⟩), (_, ⟨0, e3, a3⟩), (_, ⟨1, e4, a4⟩), (_, ⟨6, e5, a5⟩), (_, ⟨7, e6, a6⟩), (_, ⟨3, e7, a7⟩), (_, ⟨8, e8, a8⟩), (_, ⟨9, e9, a9⟩), (_, ⟨10, e10, a10⟩), (_, ⟨11, e11, a11⟩), (_, ⟨12, e12, a12⟩), (_, ⟨13, e13, a13⟩), (_, ⟨14, e14, a14⟩)] (by omega) (by decide) (by simp) ⟨⟨s0, by dsimp only; omega⟩, ⟨s1, by dsimp only; omega⟩, ⟨s2, by dsimp only; omega⟩, ⟨s3, by dsimp only; omega⟩, ⟨s4, by dsimp only; omega⟩, ⟨s5, by dsimp only; omega⟩, ⟨s6, by dsimp only; omega⟩, ⟨s7, by dsimp only; omega⟩, ⟨s8, by dsimp only; omega⟩, ⟨s9, by dsimp only; omega⟩, ⟨s10, by dsimp only; omega⟩, ⟨s11, by dsimp only; omega⟩, ⟨s12, by dsimp only; omega⟩, ⟨s13, by dsimp only; omega⟩, ⟨s14, by dsimp only; omega⟩, trivial⟩ (by simp only [List.map_cons, List.map_nil]; decide)
  have hlo : 0 ≤ z % 10 := Int.emod_nonneg _ (by decide)
  have hhi : z % 10 < 10 := Int.emod_lt_of_pos _ (by decide)
  have hr : z % 10 = 0 ∨ z % 10 = 1 ∨ z % 10 = 2 ∨ z % 10 = 3 ∨ z % 10 = 4 ∨ z % 10 = 5 ∨ z % 10 = 6 ∨ z % 10 = 7 ∨ z % 10 = 8 ∨ z % 10 = 9 := by omega
  rcases hr with hr | hr | hr | hr | hr | hr | hr | hr | hr | hr
  · exact law_of_yes good mixed Iw_all hl (args := #[.complex .f64 10 0]) (fun ρ => VsR.one (.sym hr)) (Iw_yes0 e0 e1 e2 e3 e4 e5 e6 e7 e8 e9 e10 e11 e12 e13 e14 a0 a1 a2 a3 a4 a5 a6 a7 a8 a9 a10 a11 a12 a13 a14)
  · exact law_of_yes good mixed Iw_all hl (args := #[.complex .f64 10 1]) (fun ρ => VsR.one (.sym hr)) (Iw_yes1 e0 e1 e2 e3 e4 e5 e6 e7 e8 e9 e10 e11 e12 e13 e14 a0 a1 a2 a3 a4 a5 a6 a7 a8 a9 a10 a11 a12 a13 a14)
  · exact law_of_yes good mixed Iw_all hl (args := #[.complex .f64 10 2]) (fun ρ => VsR.one (.sym hr)) (Iw_yes2 e0 e1 e2 e3 e4 e5 e6 e7 e8 e9 e10 e11 e12 e13 e14 a0 a1 a2 a3 a4 a5 a6 a7 a8 a9 a10 a11 a12 a13 a14)
  · exact law_of_yes good mixed Iw_all hl (args := #[.complex .f64 10 3]) (fun ρ => VsR.one (.sym hr)) (Iw_yes3 e0 e1 e2 e3 e4 e5 e6 e7 e8 e9 e10 e11 e12 e13 e14 a0 a1 a2 a3 a4 a5 a6 a7 a8 a9 a10 a11 a12 a13 a14)
  · exact law_of_yes good mixed Iw_all hl (args := #[.complex .f64 10 4]) (fun ρ => VsR.one (.sym hr)) (Iw_yes4 e0 e1 e2 e3 e4 e5 e6 e7 e8 e9 e10 e11 e12 e13 e14 a0 a1 a2 a3 a4 a5 a6 a7 a8 a9 a10 a11 a12 a13 a14)
  · exact law_of_yes good mixed Iw_all hl (args := #[.complex .f64 10 5]) (fun ρ => VsR.one (.sym hr)) (Iw_yes5 e0 e1 e2 e3 e4 e5 e6 e7 e8 e9 e10 e11 e12 e13 e14 a0 a1 a2 a3 a4 a5 a6 a7 a8 a9 a10 a11 a12 a13 a14)
  · exact law_of_yes good mixed Iw_all hl (args := #[.complex .f64 10 6]) (fun ρ => VsR.one (.sym hr)) (Iw_yes6 e0 e1 e2 e3 e4 e5 e6 e7 e8 e9 e10 e11 e12 e13 e14 a0 a1 a2 a3 a4 a5 a6 a7 a8 a9 a10 a11 a12 a13 a14)
  · exact law_of_yes good mixed Iw_all hl (args := #[.complex .f64 10 7]) (fun ρ => VsR.one (.sym hr)) (Iw_yes7 e0 e1 e2 e3 e4 e5 e6 e7 e8 e9 e10 e11 e12 e13 e14 a0 a1 a2 a3 a4 a5 a6 a7 a8 a9 a10 a11 a12 a13 a14)
  · exact law_of_yes good mixed Iw_all hl (args := #[.complex .f64 10 8]) (fun ρ => VsR.one (.sym hr)) (Iw_yes8 e0 e1 e2 e3 e4 e5 e6 e7 e8 e9 e10 e11 e12 e13 e14 a0 a1 a2 a3 a4 a5 a6 a7 a8 a9 a10 a11 a12 a13 a14)
  · exact law_of_yes good mixed Iw_all hl (args := #[.complex .f64 10 9]) (fun ρ => VsR.one (.sym hr)) (Iw_yes9 e0 e1 e2 e3 e4 e5 e6 e7 e8 e9 e10 e11 e12 e13 e14 a0 a1 a2 a3 a4 a5 a6 a7 a8 a9 a10 a11 a12 a13 a14)
end Go.Proofs.YtnmejeeajidaaaaGreatDoor
