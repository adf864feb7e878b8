/- PrinterTexts, its sixth text: it is read. -/
import Derived.Test.YtelkelfpcndckaaGreatDoorPtS
namespace Go.Proofs.YtelkelfpcndckaaGreatDoor
open Go.Proofs.YtelkelfpcndckaaGreatDoor.Sx
set_option maxRecDepth 1000000 in
theorem Pt_read : code Tryz.prog (call Tryz.prog 0 400 59) (Tryz.f3).ntmps none 400 (takeSeq 6 ((Tryz.f3).body.getD .skip)) (params 0 (#[.complex .f64 7 5] : Array Value).toList .nil) (st0 266 []) = some (.normal, Pt.fr1, Pt.st1) := by kernel_rfl
end Go.Proofs.YtelkelfpcndckaaGreatDoor
