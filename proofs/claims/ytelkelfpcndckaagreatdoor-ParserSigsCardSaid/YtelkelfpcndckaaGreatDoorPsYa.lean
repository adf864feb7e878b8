/- ParserSigs on the small memory: what is left is 0, the truth is false. -/
import Derived.Test.YtelkelfpcndckaaGreatDoorSyR
import Derived.Test.YtelkelfpcndckaaGreatDoorProg
import Derived.KernelRfl
namespace Go.Proofs.YtelkelfpcndckaaGreatDoor
open Go.Proofs.YtelkelfpcndckaaGreatDoor.Sx
set_option maxRecDepth 1000000 in
theorem Ps_yes0false (e0 e1 e2 : TypeId) (a0 a1 a2 : Addr) : yes (call Tryz.prog 3 400 60 true 6 #[.complex .f64 3 0, .bool false] (st0 266 [⟨2, e0, a0⟩, ⟨0, e1, a1⟩, ⟨1, e2, a2⟩])) = true := by kernel_rfl
end Go.Proofs.YtelkelfpcndckaaGreatDoor
