/- What the rows of this seat hand to the walks: the bytes of an argument, the cell of the listed error. -/
import Derived.Test.YtnlpilceooncmaaDoorBytes
import Derived.ProofKit
import Derived.LaidMore
import Derived.OpenShut
import Derived.ShutString
import Derived.ChangeOld
import Derived.Stop.Joined
import Derived.Stop.LaidErr
namespace Go.Proofs.YtnlpilceooncmaaDoor
open Go.ChangeShapes Go.WideShapes Go.ChangeAt Go.RowKit

theorem own : ownKnob Tryd.prog.godebug = none := by kernel_rfl
theorem laidOut : laidOutB Tryd.prog = true := by kernel_rfl
theorem gLex : Tryd.prog.globalNamed (Rows.lexerRemarksRow.laid.headD ("", .nil)).1 = some 0 := by kernel_rfl
theorem tLex : (Tryd.prog.globals[0]?).map (·.type) = some 26 := by kernel_rfl
theorem cellsStr : Tryd.prog.cellsOf 9 = 1 := by kernel_rfl
theorem cellsErrStr : Tryd.prog.cellsOf 100 = 1 := by kernel_rfl
def errName : String := "*errors.errorString"
theorem star : errName = "*" ++ "errors.errorString" := by decide
theorem rowErr (u : TypeId) (h : Tryd.prog.typeName? 3 u = some errName) : u = 82 :=
  typeName_ptr_named (nm := "errors.errorString") (by rw [← star]; kernel_rfl) (by kernel_rfl) (by decide) u (by rw [← star]; exact h)
/-- The listed error, in the world in which the call begins. -/
theorem lex_of_laid {r : List (String × DataW Unit)} {n : String} {text : List UInt8} {W : World} (h : laidMetH Tryd.prog ((n, .iface errName (.ptr (.agg [.lit (.string text)]))) :: r) W)
    (hp : laidMetH Tryd.prog ((n, .iface errName (.ptr (.agg [.lit (.string text)]))) :: r) W → laidMet Tryd.prog ((n, .iface errName (.ptr (.agg [.lit (.string text)]))) :: r) W)
    (hg : Tryd.prog.globalNamed n = some 0) : ∃ a, W.cell? ⟨0, 0, none⟩ = some (errL a) := by
  obtain ⟨a, s, hv, _⟩ := laid_sentinel (hp h) hg tLex Tryd.underlying26 rowErr Tryd.underlying82 Tryd.underlying100 rfl rfl Tryd.underlying9 cellsErrStr cellsStr
  exact ⟨a, by simpa [errL] using World.var?_cell hg hv 0⟩

theorem byte_bd {x : Int} (h : (Lit.int .u8 x).wf = true) : 0 ≤ x ∧ x < 256 := by
  have h1 : IntKind.u8.min = 0 := rfl
  have h2 : IntKind.u8.max = 255 := rfl
  simp only [Lit.wf, Bool.and_eq_true, decide_eq_true_eq] at h
  omega
/-- A slice of bytes that came in, nil or not, holds some bytes. -/
theorem opened {H : Type} {enc : TypeId × Value → H} {W : World} {a0 : Option Addr} {len cap : Nat} {d0 : DataW H} {p : List MemPlace}
    (h0 : DataW.Trod enc Tryd.prog W 0 (fun _ => true) true 22 (.slice a0 len cap) d0 p) : ∃ s, BytesAt W (.slice a0 len cap) s := by
  obtain ⟨fuel, hf⟩ := h0
  rcases open_ints Tryd.underlying22 Tryd.underlying5 (by kernel_rfl) hf with ⟨hcs, _⟩ | ⟨x, l, c, zs, hcs, _, hl, hm, hz, _, hcell, hwz⟩
  · simp [Value.cells] at hcs
    obtain ⟨rfl, rfl, rfl⟩ := hcs
    exact ⟨ByteArray.empty, none, 0, rfl, .inl rfl⟩
  · simp [Value.cells] at hcs
    obtain ⟨rfl, rfl, rfl⟩ := hcs
    simp only [if_true] at hz
    by_cases hlen : len = 0
    · exact ⟨ByteArray.empty, _, _, by rw [hlen]; rfl, .inl rfl⟩
    · have hs : (strOfNums (zs.take len)).size = len := by rw [strOfNums_size, List.length_take]; omega
      obtain ⟨b, o, spot⟩ := x
      have hc0 := hcell 0 (by omega)
      have hspot : spot = none := by simpa [Addr.add] using World.cell?_spot hc0
      subst hspot
      refine ⟨strOfNums (zs.take len), _, _, by rw [hs], .inr ⟨b, o, rfl, Lib.bytes_of_nums (n := len) (by rw [List.length_take]; omega) (fun y hy => byte_bd (hwz y (List.mem_of_mem_take hy))) fun i hi => ?_⟩⟩
      have := hcell i (by omega)
      have ea : (⟨b, o, none⟩ : Addr).add i = ⟨b, o + i, none⟩ := by unfold Addr.add; split <;> simp_all
      rw [ea] at this
      rw [this]
      simp [List.getD, hi]
end Go.Proofs.YtnlpilceooncmaaDoor
