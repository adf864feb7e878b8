/- The listed errors, as the small memory wants them. -/
import Derived.Test.YtojlncopehjpiaaDoorPlainRow
import Derived.Test.YtojlncopehjpiaaDoorSxR
import Derived.ProofKit
import Derived.LaidMore
import Derived.OpenShut
import Derived.ChangeOld
import Derived.Stop.Joined
import Derived.Stop.LaidTwo
import Derived.Carry
namespace Go.Proofs.YtojlncopehjpiaaDoor
open Go.ChangeShapes Go.WideShapes Go.ChangeAt Go.RowKit
open Go.Proofs.YtojlncopehjpiaaDoor.Sx

theorem cellsStr : Tryd.prog.cellsOf 9 = 1 := by kernel_rfl
theorem cellsErrStr : Tryd.prog.cellsOf 125 = 1 := by kernel_rfl
def errName : String := "*errors.errorString"
theorem star : errName = "*" ++ "errors.errorString" := by decide
theorem rowErr (u : TypeId) (h : Tryd.prog.typeName? 3 u = some errName) : u = 105 :=
  typeName_ptr_named (nm := "errors.errorString") (by rw [← star]; kernel_rfl) (by kernel_rfl) (by decide) u (by rw [← star]; exact h)
/-- A listed error, its rows among what is never written. -/
def SenIn (W : World) (tp : TypeId) (g : Nat) (text : List UInt8) (x : Sen) : Prop :=
  x.g = g ∧ (∃ cs, W.heap[g]? = some (.cells cs x.elem (0, 0)) ∧ cs[0]? = some (.iface tp (.pointer (some x.a)))) ∧ (∃ s : ByteArray, W.cell? x.a = some (.string s) ∧ s.data.toList = text) ∧ ∃ c t, W.heap[x.a.block]? = some (.cells c t (0, 0))
theorem laid_sen {P : Program} {n nm : String} {text : List UInt8} {r : List (String × DataW Unit)} {W : World} {g : Nat} {ti tp te ts : TypeId} {ms : Array (String × TypeId)} {f : Field}
    (h : laidMet P ((n, .iface nm (.ptr (.agg [.lit (.string text)]))) :: r) W)
    (hg : P.globalNamed n = some g) (ht : (P.globals[g]?).map (·.type) = some ti) (hi : P.underlying ti = some (.interface ms)) (hrow : ∀ u, P.typeName? 3 u = some nm → u = tp)
    (hp : P.underlying tp = some (.pointer te)) (he : P.underlying te = some (.struct #[f])) (hft : f.type = ts) (hfo : f.offset = 0) (hs : P.underlying ts = some .string) (hc : P.cellsOf te = 1) (hcs : P.cellsOf ts = 1) :
    ∃ x, SenIn W tp g text x := by
  obtain ⟨ps, ⟨g0, t0, cs0, f0, p0, q0, hg0, ht0, hv0, hd0, _, e0⟩, _, hrows⟩ := h
  obtain rfl := Option.some.inj (hg.symm.trans hg0)
  obtain rfl := Option.some.inj (ht.symm.trans ht0)
  subst e0
  obtain ⟨l0⟩ := cs0
  have ok0 : ∀ u v, l0 = [.iface u v] → Value.okWide P W .any 0 u v := fun u v e => by
    subst e
    exact (hrows g 0 (by simp [MemPlace.row])).2 u v (by simpa using World.var?_cell hg0 hv0 0)
  obtain ⟨a0, s0, rfl, hc0, hs0, hz0, rfl⟩ := errorString_of_trod hi hrow hp he hft hfo hs hc hcs hd0 ok0
  obtain ⟨c, t, hct⟩ := (hrows g 0 (by simp [MemPlace.row])).1
  have hcell : W.cell? ⟨g, 0, none⟩ = some (.iface tp (.pointer (some a0))) := by simpa using World.var?_cell hg0 hv0 0
  refine ⟨⟨g, t, a0⟩, rfl, ⟨c, hct, ?_⟩, ⟨s0, hc0, hs0⟩, (hrows a0.block a0.off (by simp [MemPlace.row])).1⟩
  rw [cell_of hct] at hcell; exact hcell
theorem sen_in {r : List (String × DataW Unit)} {n : String} {text : List UInt8} {W : World} {g : Nat} (h : laidMet Tryd.prog ((n, .iface errName (.ptr (.agg [.lit (.string text)]))) :: r) W)
    (hg : Tryd.prog.globalNamed n = some g) (tg : (Tryd.prog.globals[g]?).map (·.type) = some 47) : (∃ x, SenIn W 105 g text x) ∧ laidMet Tryd.prog r W :=
  ⟨laid_sen h hg tg Tryd.underlying47 rowErr Tryd.underlying105 Tryd.underlying125 rfl rfl Tryd.underlying9 cellsErrStr cellsStr, h.tail⟩

theorem good : Sx.Good Tryd.prog := Sx.good_of _ (by kernel_rfl) (by kernel_rfl) (by kernel_rfl)
theorem mixed : Tryd.prog.follows .mixedOrders = true := by kernel_rfl
end Go.Proofs.YtojlncopehjpiaaDoor
