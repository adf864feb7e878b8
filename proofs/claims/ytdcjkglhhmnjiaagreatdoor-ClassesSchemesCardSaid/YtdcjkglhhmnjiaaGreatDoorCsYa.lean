/- ClassesSchemes on the small memory: what is left is 0. -/
import Derived.Test.YtdcjkglhhmnjiaaGreatDoorSyCall
import Derived.Test.YtdcjkglhhmnjiaaGreatDoorProg
import Derived.KernelRfl
namespace Go.Proofs.YtdcjkglhhmnjiaaGreatDoor
open Go.Proofs.YtdcjkglhhmnjiaaGreatDoor.Sx
set_option maxRecDepth 1000000 in
theorem Cs_yes0 (e0 e1 e2 e3 : TypeId) (a0 a1 a2 a3 : Addr) : yes (callI Tryz.prog 54 9 4 400 60 true 4 #[.complex .f64 4 0] (st0 291 [⟨2, e0, a0⟩, ⟨0, e1, a1⟩, ⟨1, e2, a2⟩, ⟨3, e3, a3⟩])) = true := by kernel_rfl
end Go.Proofs.YtdcjkglhhmnjiaaGreatDoor
