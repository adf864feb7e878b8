/- ConsTwice, whatever the number is. -/
import Derived.Test.YtojlncopehjpiaaDoorCtYa
import Derived.Test.YtojlncopehjpiaaDoorCtYb
import Derived.Test.YtojlncopehjpiaaDoorCtYc
import Derived.Test.YtojlncopehjpiaaDoorSxDoor
namespace Go.Proofs.YtojlncopehjpiaaDoor
open Go.RowKit
open Go.Proofs.YtojlncopehjpiaaDoor.Sx
theorem Ct_all : okAll Tryd.prog 3 = true := by kernel_rfl
set_option maxRecDepth 100000 in
theorem Ct_law (z : Int) (W : World) (hL : laidMet Tryd.prog Rows.consTwiceRow.laid W) : Calls Tryd.prog 4 #[.int .i64 z] W fun e w' => e = .returned (.bool true) ∧ Below W.heap.size W w' := by
  obtain ⟨⟨⟨_, e0, a0⟩, rfl, ⟨c0, u0, v0⟩, _, ⟨d0, t0, x0⟩⟩, h0⟩ := sen_in (g := 1) hL (by kernel_rfl) (by kernel_rfl)
  obtain ⟨⟨⟨_, e1, a1⟩, rfl, ⟨c1, u1, v1⟩, _, ⟨d1, t1, x1⟩⟩, h1⟩ := sen_in (g := 0) h0 (by kernel_rfl) (by kernel_rfl)
  obtain ⟨⟨⟨_, e2, a2⟩, rfl, ⟨c2, u2, v2⟩, _, ⟨d2, t2, x2⟩⟩, h2⟩ := sen_in (g := 2) h1 (by kernel_rfl) (by kernel_rfl)
  have hl : Lies 3 105 [⟨1, e0, a0⟩, ⟨0, e1, a1⟩, ⟨2, e2, a2⟩] W := by
    refine ⟨?_, by decide, by simp, fun x hx => ?_, fun x hx => ?_⟩
    · have hs : ∀ (g : Nat) (o : Obj), W.heap[g]? = some o → g < W.heap.size := fun g o h => (Array.getElem?_eq_some_iff.1 h).1
      have g0 : _ < W.heap.size := hs _ _ u0
      have g1 : _ < W.heap.size := hs _ _ u1
      have g2 : _ < W.heap.size := hs _ _ u2
      dsimp only at *; omega
    · simp only [List.mem_cons, List.not_mem_nil, or_false] at hx
      rcases hx with rfl | rfl | rfl
      · exact ⟨by dsimp only; omega, c0, u0, v0⟩
      · exact ⟨by dsimp only; omega, c1, u1, v1⟩
      · exact ⟨by dsimp only; omega, c2, u2, v2⟩
    · simp only [List.mem_cons, List.not_mem_nil, or_false] at hx
      rcases hx with rfl | rfl | rfl
      · exact (Array.getElem?_eq_some_iff.1 x0).1
      · exact (Array.getElem?_eq_some_iff.1 x1).1
      · exact (Array.getElem?_eq_some_iff.1 x2).1
  have hlo : 0 ≤ z % 6 := Int.emod_nonneg _ (by decide)
  have hhi : z % 6 < 6 := Int.emod_lt_of_pos _ (by decide)
  have hr : z % 6 = 0 ∨ z % 6 = 1 ∨ z % 6 = 2 ∨ z % 6 = 3 ∨ z % 6 = 4 ∨ z % 6 = 5 := by omega
  rcases hr with hr | hr | hr | hr | hr | hr
  · exact law_of_yes good mixed Ct_all hl (args := #[.complex .f64 6 0]) (fun ρ => VsR.one (.sym hr)) (Ct_yes0 e0 e1 e2 a0 a1 a2)
  · exact law_of_yes good mixed Ct_all hl (args := #[.complex .f64 6 1]) (fun ρ => VsR.one (.sym hr)) (Ct_yes1 e0 e1 e2 a0 a1 a2)
  · exact law_of_yes good mixed Ct_all hl (args := #[.complex .f64 6 2]) (fun ρ => VsR.one (.sym hr)) (Ct_yes2 e0 e1 e2 a0 a1 a2)
  · exact law_of_yes good mixed Ct_all hl (args := #[.complex .f64 6 3]) (fun ρ => VsR.one (.sym hr)) (Ct_yes3 e0 e1 e2 a0 a1 a2)
  · exact law_of_yes good mixed Ct_all hl (args := #[.complex .f64 6 4]) (fun ρ => VsR.one (.sym hr)) (Ct_yes4 e0 e1 e2 a0 a1 a2)
  · exact law_of_yes good mixed Ct_all hl (args := #[.complex .f64 6 5]) (fun ρ => VsR.one (.sym hr)) (Ct_yes5 e0 e1 e2 a0 a1 a2)
end Go.Proofs.YtojlncopehjpiaaDoor
