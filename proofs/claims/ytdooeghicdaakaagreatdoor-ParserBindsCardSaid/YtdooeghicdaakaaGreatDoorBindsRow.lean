/- ParserBinds: called with any number, in any memory in which the program's own errors lie as its text lays them, the law returns true. Condition: the listed errors are tied to the program's text by the card. -/
import Derived.Test.YtdooeghicdaakaaGreatDoorParBinds
import Derived.Test.YtdooeghicdaakaaGreatDoorParRow
import Derived.Test.YtdooeghicdaakaaGreatDoorTie
import Derived.Test.YtdooeghicdaakaaGreatDoorCards
import Derived.SevenTiedAt
namespace Go.Proofs.YtdooeghicdaakaaGreatDoor
open Go.ChangeShapes Go.WideShapes Go.ChangeAt Go.RowKit

theorem three_of_laid {W : World} (h : laidMet Tryz.prog Rows.parserBindsRow.laid W) : ∃ aX aP aL, W.cell? ⟨2, 0, none⟩ = some (errL aX) ∧ TwoErrs W aP aL := by
  obtain ⟨⟨a, e0⟩, h1⟩ := err_at (g := 2) h (by kernel_rfl) (by kernel_rfl)
  obtain ⟨⟨b, e1⟩, h2⟩ := err_at (g := 0) h1 (by kernel_rfl) (by kernel_rfl)
  obtain ⟨⟨d, e2⟩, _⟩ := err_at (g := 1) h2 (by kernel_rfl) (by kernel_rfl)
  exact ⟨a, b, d, e0, e1, e2⟩
theorem binds_door (os : Os) (args : Array Value) : laidMetH Tryz.prog Rows.parserBindsRow.laid ((World.doorLaid Tryz.prog 294 os).forCall (fun _ _ => 0) ⟨#[], args, []⟩).memory :=
  laidMetH_of_parts3 (fuel := 8) (laidMet_of_run' 8 (by kernel_rfl) (by kernel_rfl)) (by kernel_rfl) (by kernel_rfl)

set_option maxRecDepth 100000 in
theorem binds_lifted (os : Os) (started : os.Started) (H : Type) (enc : TypeId × Value → H) :
    ReturnsInHanded {} Tryz.checked os 3 .any (fun w args => (Rows.parserBindsSpec.pre enc Tryz.prog Tryz.f3 [] false w args ∧ laidMetH Tryz.prog Rows.parserBindsRow.laid w) ∧ sizedMet enc Tryz.prog Tryz.f3 (OpenSpec.ofChange Rows.parserBindsSpec) false w args)
      (Rows.parserBindsSpec.post enc Tryz.prog Tryz.f3 false true false false) := by
  refine returnsInHanded_of_change_and (C := Tryz.checked) (X := fun w _ => laidMetH Tryz.prog Rows.parserBindsRow.laid w) (fun _ _ _ hh h => h.of_heap hh) own started (by kernel_rfl) Tryz.func3
    (ChangeSpec.witness_shaped (enc := enc) (C := Tryz.checked) (os := os) (X := fun w _ => laidMetH Tryz.prog Rows.parserBindsRow.laid w) false (World.doorLaid Tryz.prog 294 os) #[.int .i64 0] 8 rfl (World.shaped_of_RefB (by kernel_rfl) (by kernel_rfl)) (by kernel_rfl) (by kernel_rfl) (by kernel_rfl) (binds_door os _)) ?_
  intro W base args ds gs before hval0 hW _ _ hL _
  have hval : ∀ (j : Nat) t v, Tryz.f3.params[j]? = some t → args[j]? = some v → Value.okWide Tryz.prog W .any base t v := hval0
  have hW' := hW
  obtain ⟨p, q, hA0, hV, rfl, hfz, hnd⟩ := hW
  have hA : DataW.TrodAll enc Tryz.prog W 0 (fun _ => true) true Tryz.f3.params.toList args.toList ds p := hA0
  rw [Tryz.params3] at hA hval
  obtain ⟨v0, vs0, d0, ds0, p0, q0, hargs, rfl, rfl, h0, r0⟩ := trodAll_cons hA
  obtain ⟨rfl, rfl, rfl⟩ := trodAll_nil r0
  obtain rfl : args = #[v0] := by cases args; simp_all
  obtain ⟨rfl, rfl⟩ := trodVars_none hV
  have k0 := h0
  have lt0 : ∀ x ∈ p0, x.block < W.heap.size := by obtain ⟨m, hm⟩ := k0; exact DataW.trod_lt m _ _ _ hm
  obtain ⟨z, rfl, _, _, wz⟩ := open_int Tryz.underlying3 (hval 0 3 v0 rfl rfl) h0
  obtain ⟨hz1, hz2⟩ := bounds_i64 wz
  obtain ⟨aX, aP, aL, e0, e1⟩ := three_of_laid ((MakeChecks.laidMetH_plain _ _ _ (by kernel_rfl)).mp hL)
  clear hA0 hval0
  refine (binds_any z aX ⟨aP, aL⟩ W hz1 hz2 e0 e1).mono fun e W' ⟨he, bel⟩ => ?_
  subst he
  exact ⟨_, rfl, _, _, _, [], _, [], hW', trodAll_mk1 (shut_bool Tryz.underlying4 _), (trodAll_cons_mk (Below.trod laidOut (by kernel_rfl) (of_decide_eq_true (by kernel_rfl)) k0 bel lt0) trodAll_mk0), rfl, bel.frame _, fun h => by cases h⟩

theorem binds_holds : Rows.ParserBindsSaid :=
  OpenClaim.holds_of_wide 3 Tryz.f3 rfl rfl rfl rfl rfl rfl rfl ⟨rfl, rfl, rfl, rfl, rfl⟩ rfl rfl rfl rfl rfl (by kernel_rfl) Tryz.func3 (by kernel_rfl)
    (of_decide_eq_true (by kernel_rfl)) (by unfold Func.isWrapper; first | (rw [if_pos (by decide +kernel)]; kernel_rfl) | (rw [if_neg (by decide +kernel)]; exact ⟨rfl, rfl⟩))
    (fun os started H enc _ => binds_lifted os started H enc)
end Go.Proofs.YtdooeghicdaakaaGreatDoor
