/- PrinterTexts on the small memory: what is left is one of [2, 4]. -/
import Derived.Test.YtelkelfpcndckaaGreatDoorSyR
import Derived.Test.YtelkelfpcndckaaGreatDoorProg
import Derived.KernelRfl
namespace Go.Proofs.YtelkelfpcndckaaGreatDoor
open Go.Proofs.YtelkelfpcndckaaGreatDoor.Sx
set_option maxRecDepth 1000000 in
theorem Pt_yes2 : yes (call Tryz.prog 0 400 60 true 3 #[.complex .f64 7 2] (st0 266 [])) = true := by kernel_rfl
set_option maxRecDepth 1000000 in
theorem Pt_yes4 : yes (call Tryz.prog 0 400 60 true 3 #[.complex .f64 7 4] (st0 266 [])) = true := by kernel_rfl
end Go.Proofs.YtelkelfpcndckaaGreatDoor
