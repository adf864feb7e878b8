/- Slices of texts that came in, for the plain rows. -/
import Derived.Test.YtmbaolcdjgilpaaPlainRow
import Derived.Test.YtmbaolcdjgilpaaSbRen
import Derived.Deep.Strs
namespace Go.Proofs.Ytmbaolcdjgilpaa
open Go.ChangeShapes Go.WideShapes Go.ChangeAt Go.RowKit

/-- A slice of texts that came in, nil or not, holds some texts. -/
theorem opened_strs {H : Type} {enc : TypeId × Value → H} {W : World} {a0 : Option Addr} {len cap : Nat} {d0 : DataW H} {p : List MemPlace}
    (h0 : DataW.Trod enc Try.prog W 0 (fun _ => true) true 23 (.slice a0 len cap) d0 p) : ∃ F : List ByteArray, F.length = len ∧ StrsP (.slice a0 len cap) F W := by
  obtain ⟨fuel, hf⟩ := h0
  rcases Go.Deep.open_strs Try.underlying23 Try.underlying9 (by kernel_rfl) hf with ⟨hcs, _⟩ | ⟨x, l, c, m, S, hcs, _, hl, hm, hmm, _, hcell⟩
  · simp [Value.cells] at hcs
    obtain ⟨rfl, rfl, rfl⟩ := hcs
    exact ⟨[], rfl, .inl ⟨rfl, none, 0, rfl⟩⟩
  · simp [Value.cells] at hcs
    obtain ⟨rfl, rfl, rfl⟩ := hcs
    have hlm : len ≤ m := by rw [hmm]; split <;> omega
    refine ⟨(List.range len).map S, by simp, ?_⟩
    by_cases h0 : len = 0
    · subst h0; exact .inl ⟨rfl, _, cap, rfl⟩
    · obtain ⟨b, o, spot⟩ := x
      have hc0 := (hcell 0 (by omega)).1
      have hspot : spot = none := by simpa [Addr.add] using World.cell?_spot hc0
      subst hspot
      have ea : ∀ j, (⟨b, o, none⟩ : Addr).add j = ⟨b, o + j, none⟩ := fun j => by unfold Addr.add; split <;> simp_all
      refine .inr ⟨b, o, cap, by simp, World.block_lt_of_cell? _ _ hc0, fun j hj => ?_⟩
      have hj' : j < len := by simpa using hj
      have hc := (hcell j (by omega)).1
      rw [ea] at hc
      rw [hc]
      simp [List.getD, hj']
end Go.Proofs.Ytmbaolcdjgilpaa
