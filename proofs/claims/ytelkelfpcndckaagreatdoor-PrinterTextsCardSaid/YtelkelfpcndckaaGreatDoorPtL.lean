/- PrinterTexts, whatever the number is. -/
import Derived.Test.YtelkelfpcndckaaGreatDoorPtYa
import Derived.Test.YtelkelfpcndckaaGreatDoorPtYb
import Derived.Test.YtelkelfpcndckaaGreatDoorPtYc
import Derived.Test.YtelkelfpcndckaaGreatDoorPtYd
import Derived.Test.YtelkelfpcndckaaGreatDoorPtYe
import Derived.Test.YtelkelfpcndckaaGreatDoorPtA
import Derived.Test.YtelkelfpcndckaaGreatDoorPtB
import Derived.Test.YtelkelfpcndckaaGreatDoorSyDoor
namespace Go.Proofs.YtelkelfpcndckaaGreatDoor
open Go.RowKit
open Go.Proofs.YtelkelfpcndckaaGreatDoor.Sx
theorem Pt_yes5 : yes (call Tryz.prog 0 400 60 true 3 #[.complex .f64 7 5] (st0 266 [])) = true :=
  yes_cut (k := 59) Tryz.func3 (show (Tryz.f3).body = some ((Tryz.f3).body.getD .skip) by kernel_rfl) (by kernel_rfl) 6 Pt_read Pt_print
theorem Pt_law (z : Int) (W : World) : Calls Tryz.prog 3 #[.int .i64 z] W fun e w' => e = .returned (.bool true) ∧ Below W.heap.size W w' := by
  have hl : Lies 0 266 [] W := ⟨Nat.zero_le _, Nat.zero_le _, Nat.zero_le _, fun x hx => (nomatch hx), fun x hx => (nomatch hx), fun i j x y hx => by simp at hx⟩
  have hlo : 0 ≤ z % 7 := Int.emod_nonneg _ (by decide)
  have hhi : z % 7 < 7 := Int.emod_lt_of_pos _ (by decide)
  have hr : z % 7 = 0 ∨ z % 7 = 1 ∨ z % 7 = 2 ∨ z % 7 = 3 ∨ z % 7 = 4 ∨ z % 7 = 5 ∨ z % 7 = 6 := by omega
  rcases hr with hr | hr | hr | hr | hr | hr | hr
  · exact law_of_yes good mixed hl (args := #[.complex .f64 7 0]) (fun ρ => VsR.one (.sym hr)) Pt_yes0
  · exact law_of_yes good mixed hl (args := #[.complex .f64 7 1]) (fun ρ => VsR.one (.sym hr)) Pt_yes1
  · exact law_of_yes good mixed hl (args := #[.complex .f64 7 2]) (fun ρ => VsR.one (.sym hr)) Pt_yes2
  · exact law_of_yes good mixed hl (args := #[.complex .f64 7 3]) (fun ρ => VsR.one (.sym hr)) Pt_yes3
  · exact law_of_yes good mixed hl (args := #[.complex .f64 7 4]) (fun ρ => VsR.one (.sym hr)) Pt_yes4
  · exact law_of_yes good mixed hl (args := #[.complex .f64 7 5]) (fun ρ => VsR.one (.sym hr)) Pt_yes5
  · exact law_of_yes good mixed hl (args := #[.complex .f64 7 6]) (fun ρ => VsR.one (.sym hr)) Pt_yes6
end Go.Proofs.YtelkelfpcndckaaGreatDoor
