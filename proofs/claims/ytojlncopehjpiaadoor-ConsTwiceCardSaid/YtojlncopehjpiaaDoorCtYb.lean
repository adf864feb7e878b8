/- ConsTwice on the small memory: what is left is 2 and on. -/
import Derived.Test.YtojlncopehjpiaaDoorSxR
import Derived.Test.YtojlncopehjpiaaDoorProg
import Derived.KernelRfl
namespace Go.Proofs.YtojlncopehjpiaaDoor
open Go.Proofs.YtojlncopehjpiaaDoor.Sx
set_option maxRecDepth 1000000 in
theorem Ct_yes2 (e0 e1 e2 : TypeId) (a0 a1 a2 : Addr) : yes (call Tryd.prog 400 60 4 #[.complex .f64 6 2] (st0 105 [⟨1, e0, a0⟩, ⟨0, e1, a1⟩, ⟨2, e2, a2⟩])) = true := by kernel_rfl
set_option maxRecDepth 1000000 in
theorem Ct_yes3 (e0 e1 e2 : TypeId) (a0 a1 a2 : Addr) : yes (call Tryd.prog 400 60 4 #[.complex .f64 6 3] (st0 105 [⟨1, e0, a0⟩, ⟨0, e1, a1⟩, ⟨2, e2, a2⟩])) = true := by kernel_rfl
end Go.Proofs.YtojlncopehjpiaaDoor
