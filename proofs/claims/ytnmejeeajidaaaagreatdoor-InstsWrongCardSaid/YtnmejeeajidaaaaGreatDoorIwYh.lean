/- InstsWrong on the small memory: what is left is 7 and on. -/
import Derived.Test.YtnmejeeajidaaaaGreatDoorSxR
import Derived.Test.YtnmejeeajidaaaaGreatDoorProg
import Derived.KernelRfl
namespace Go.Proofs.YtnmejeeajidaaaaGreatDoor
open Go.Proofs.YtnmejeeajidaaaaGreatDoor.Sx
set_option maxRecDepth 1000000 in
theorem Iw_yes7 (e0 e1 e2 e3 e4 e5 e6 e7 e8 e9 e10 e11 e12 e13 e14 : TypeId) (a0 a1 a2 a3 a4 a5 a6 a7 a8 a9 a10 a11 a12 a13 a14 : Addr) : yes (call Tryz.prog 15 400 60 true 5 #[.complex .f64 10 7] (st0 290 [⟨4, e0, a0⟩, ⟨5, e1, a1⟩, ⟨2, e2, a2⟩, ⟨0, e3, a3⟩, ⟨1, e4, a4⟩, ⟨6, e5, a5⟩, ⟨7, e6, a6⟩, ⟨3, e7, a7⟩, ⟨8, e8, a8⟩, ⟨9, e9, a9⟩, ⟨10, e10, a10⟩, ⟨11, e11, a11⟩, ⟨12, e12, a12⟩, ⟨13, e13, a13⟩, ⟨14, e14, a14⟩])) = true := by kernel_rfl
end Go.Proofs.YtnmejeeajidaaaaGreatDoor
