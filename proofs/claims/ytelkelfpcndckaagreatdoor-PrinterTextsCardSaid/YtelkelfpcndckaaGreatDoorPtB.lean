/- PrinterTexts, its sixth text: it is printed. -/
import Derived.Test.YtelkelfpcndckaaGreatDoorPtS
namespace Go.Proofs.YtelkelfpcndckaaGreatDoor
open Go.Proofs.YtelkelfpcndckaaGreatDoor.Sx
set_option maxRecDepth 1000000 in
theorem Pt_print : yes (handed Tryz.prog (Tryz.f3) (code Tryz.prog (call Tryz.prog 0 400 59) (Tryz.f3).ntmps none 400 (dropSeq 6 ((Tryz.f3).body.getD .skip)) Pt.fr1 Pt.st1)) = true := by kernel_rfl
end Go.Proofs.YtelkelfpcndckaaGreatDoor
