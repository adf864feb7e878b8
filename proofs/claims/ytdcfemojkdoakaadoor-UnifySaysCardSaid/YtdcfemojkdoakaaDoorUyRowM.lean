/- UnifySays: called with any slice of numbers, in any memory in which the listed errors lie as the program's text lays them, the law returns true, and the slice reads as it did. -/
import Derived.Test.YtdcfemojkdoakaaDoorVm10
import Derived.Test.YtdcfemojkdoakaaDoorTie
import Derived.Test.YtdcfemojkdoakaaDoorCards
import Derived.SevenTiedAt
namespace Go.Proofs.YtdcfemojkdoakaaDoor
open Go.ChangeShapes Go.WideShapes Go.ChangeAt Go.RowKit

set_option maxRecDepth 100000 in
theorem usays_errs {W : World} (h : laidMet Tryd.prog Rows.unifySaysRow.laid W) : ∃ av, Errs av W := by
  obtain ⟨⟨a0, e0⟩, h0⟩ := err_in (g := 2) h (by kernel_rfl) (by kernel_rfl)
  obtain ⟨⟨a1, e1⟩, h1⟩ := err_in (g := 3) h0 (by kernel_rfl) (by kernel_rfl)
  obtain ⟨⟨a2, e2⟩, h2⟩ := err_in (g := 4) h1 (by kernel_rfl) (by kernel_rfl)
  obtain ⟨⟨a3, e3⟩, h3⟩ := err_in (g := 5) h2 (by kernel_rfl) (by kernel_rfl)
  obtain ⟨⟨a4, e4⟩, h4⟩ := err_in (g := 6) h3 (by kernel_rfl) (by kernel_rfl)
  obtain ⟨⟨a5, e5⟩, h5⟩ := err_in (g := 1) h4 (by kernel_rfl) (by kernel_rfl)
  obtain ⟨⟨a6, e6⟩, h6⟩ := err_in (g := 0) h5 (by kernel_rfl) (by kernel_rfl)
  obtain ⟨⟨a7, e7⟩, h7⟩ := err_in (g := 7) h6 (by kernel_rfl) (by kernel_rfl)
  obtain ⟨⟨a8, e8⟩, h8⟩ := err_in (g := 8) h7 (by kernel_rfl) (by kernel_rfl)
  obtain ⟨⟨a9, e9⟩, h9⟩ := err_in (g := 9) h8 (by kernel_rfl) (by kernel_rfl)
  obtain ⟨⟨a10, e10⟩, h10⟩ := err_in (g := 10) h9 (by kernel_rfl) (by kernel_rfl)
  obtain ⟨⟨a11, e11⟩, h11⟩ := err_in (g := 11) h10 (by kernel_rfl) (by kernel_rfl)
  obtain ⟨⟨a12, e12⟩, h12⟩ := err_in (g := 12) h11 (by kernel_rfl) (by kernel_rfl)
  obtain ⟨⟨a13, e13⟩, h13⟩ := err_in (g := 13) h12 (by kernel_rfl) (by kernel_rfl)
  obtain ⟨⟨a14, e14⟩, h14⟩ := err_in (g := 14) h13 (by kernel_rfl) (by kernel_rfl)
  refine ⟨fun i => [a0, a1, a2, a3, a4, a5, a6, a7, a8, a9, a10, a11, a12, a13, a14].getD i noA, errs_of [(2, [110, 111, 116, 32, 97, 32, 119, 111, 114, 100]), (3, [110, 111, 116, 32, 97, 32, 112, 114, 111, 103, 114, 97, 109]), (4, [97, 32, 110, 97, 109, 101, 32, 116, 104, 97, 116, 32, 105, 115, 32, 110, 111, 98, 111, 100, 121, 39, 115]), (5, [97, 32, 110, 97, 109, 101, 32, 116, 119, 105, 99, 101]), (6, [110, 111, 116, 32, 97, 32, 99, 108, 97, 115, 115, 44, 32, 111, 114, 32, 110, 111, 116, 32, 97, 110, 32, 105, 110, 115, 116, 97, 110, 99, 101]), (1, [116, 121, 112, 101, 115, 32, 116, 104, 97, 116, 32, 97, 114, 101, 32, 110, 111, 116, 32, 111, 110, 101]), (0, [97, 32, 116, 121, 112, 101, 32, 119, 105, 116, 104, 105, 110, 32, 105, 116, 115, 101, 108, 102]), (7, [97, 32, 116, 121, 112, 101, 32, 119, 105, 116, 104, 32, 111, 116, 104, 101, 114, 32, 97, 114, 103, 117, 109, 101, 110, 116, 115]), (8, [97, 32, 116, 121, 112, 101, 32, 116, 104, 97, 116, 32, 105, 115, 32, 110, 111, 116, 32, 116, 111, 108, 100]), (9, [110, 111, 32, 105, 110, 115, 116, 97, 110, 99, 101]), (10, [109, 111, 114, 101, 32, 116, 104, 97, 110, 32, 109, 97, 121, 32, 98, 101]), (11, [116, 104, 101, 32, 102, 117, 101, 108, 32, 105, 115, 32, 117, 115, 101, 100, 32, 117, 112]), (12, [116, 104, 101, 32, 104, 101, 97, 112, 32, 105, 115, 32, 102, 117, 108, 108]), (13, [97, 32, 118, 97, 108, 117, 101, 32, 116, 104, 97, 116, 32, 110, 101, 101, 100, 115, 32, 105, 116, 115, 101, 108, 102]), (14, [110, 111, 32, 97, 108, 116, 101, 114, 110, 97, 116, 105, 118, 101, 32, 102, 105, 116, 115])] _ rfl ?_ ?_⟩
  · intro i hi
    match i, hi with
    | 0, _ => exact e0
    | 1, _ => exact e1
    | 2, _ => exact e2
    | 3, _ => exact e3
    | 4, _ => exact e4
    | 5, _ => exact e5
    | 6, _ => exact e6
    | 7, _ => exact e7
    | 8, _ => exact e8
    | 9, _ => exact e9
    | 10, _ => exact e10
    | 11, _ => exact e11
    | 12, _ => exact e12
    | 13, _ => exact e13
    | 14, _ => exact e14
    | n + 15, hi => exact absurd hi (by simp)
  · decide
theorem usays_door (os : Os) (args : Array Value) : laidMetH Tryd.prog Rows.unifySaysRow.laid ((World.doorLaid Tryd.prog 309 os).forCall (fun _ _ => 0) ⟨#[], args, []⟩).memory :=
  laidMetH_of_parts3 (fuel := 8) (laidMet_of_run' 8 (by kernel_rfl) (by kernel_rfl)) (by kernel_rfl) (by kernel_rfl)

set_option maxRecDepth 100000 in
theorem usays_lifted (os : Os) (started : os.Started) (H : Type) (enc : TypeId × Value → H) :
    ReturnsInHanded {} Tryd.checked os 3 .any (fun w args => (Rows.unifySaysSpec.pre enc Tryd.prog Tryd.f3 [] false w args ∧ laidMetH Tryd.prog Rows.unifySaysRow.laid w) ∧ sizedMet enc Tryd.prog Tryd.f3 (OpenSpec.ofChange Rows.unifySaysSpec) false w args)
      (Rows.unifySaysSpec.post enc Tryd.prog Tryd.f3 false true false false) := by
  refine returnsInHanded_of_change_and (C := Tryd.checked) (X := fun w _ => laidMetH Tryd.prog Rows.unifySaysRow.laid w) (fun _ _ _ hh h => h.of_heap hh) own started (by kernel_rfl) Tryd.func3
    (ChangeSpec.witness_shaped (enc := enc) (C := Tryd.checked) (os := os) (X := fun w _ => laidMetH Tryd.prog Rows.unifySaysRow.laid w) false (World.doorLaid Tryd.prog 309 os) #[.slice none 0 0] 8 rfl (World.shaped_of_RefB (by kernel_rfl) (by kernel_rfl)) (by kernel_rfl) (by kernel_rfl) (by kernel_rfl) (usays_door os _)) ?_
  intro W base args ds gs before hval0 hW _ _ hL _
  have hval : ∀ (j : Nat) t v, Tryd.f3.params[j]? = some t → args[j]? = some v → Value.okWide Tryd.prog W .any base t v := hval0
  have hW' := hW
  obtain ⟨p, q, hA0, hV, rfl, hfz, hnd⟩ := hW
  have hA : DataW.TrodAll enc Tryd.prog W 0 (fun _ => true) true Tryd.f3.params.toList args.toList ds p := hA0
  rw [Tryd.params3] at hA hval
  obtain ⟨v0, vs0, d0, ds0, p0, q0, hargs, rfl, rfl, h0, r0⟩ := trodAll_cons hA
  obtain ⟨rfl, rfl, rfl⟩ := trodAll_nil r0
  obtain rfl : args = #[v0] := by cases args; simp_all
  obtain ⟨rfl, rfl⟩ := trodVars_none hV
  have k0 := h0
  have lt0 : ∀ x ∈ p0, x.block < W.heap.size := by obtain ⟨m, hm⟩ := k0; exact DataW.trod_lt m _ _ _ hm
  obtain ⟨a0, n0, c0, rfl⟩ := okWide_slice Tryd.underlying22 (hval 0 22 v0 rfl rfl)
  obtain ⟨av, hE⟩ := usays_errs ((MakeChecks.laidMetH_plain _ _ _ (by kernel_rfl)).mp hL)
  clear hA0 hval0
  refine (usays_law av a0 n0 c0 W hE (opened_ints h0)).mono fun e W' ⟨he, bel⟩ => ?_
  subst he
  exact ⟨_, rfl, _, _, _, [], _, [], hW', trodAll_mk1 (shut_bool Tryd.underlying4 _), (trodAll_cons_mk (Below.trod laidOut (by kernel_rfl) (of_decide_eq_true (by kernel_rfl)) k0 bel lt0) trodAll_mk0), rfl, bel.frame _, fun h => by cases h⟩

theorem usays_holds : Rows.UnifySaysSaid :=
  OpenClaim.holds_of_wide 3 Tryd.f3 rfl rfl rfl rfl rfl rfl rfl ⟨rfl, rfl, rfl, rfl, rfl⟩ rfl rfl rfl rfl rfl (by kernel_rfl) Tryd.func3 (by kernel_rfl)
    (of_decide_eq_true (by kernel_rfl)) (by unfold Func.isWrapper; first | (rw [if_pos (by decide +kernel)]; kernel_rfl) | (rw [if_neg (by decide +kernel)]; exact ⟨rfl, rfl⟩))
    (fun os started H enc _ => usays_lifted os started H enc)

theorem usays_card : Rows.UnifySaysCardSaid :=
  Claim7.holds_tied_plain_at .later [] [.sentinel, .sentinel, .sentinel, .sentinel, .sentinel, .sentinel, .sentinel, .sentinel, .sentinel, .sentinel, .sentinel, .sentinel, .sentinel, .sentinel, .sentinel] true Rows.unifySaysCard.stood.harness Rows.unifySaysCard.stood.looks
    (usays_holds) (fun _ h => by cases h) (by kernel_rfl) (fun _ h => by cases h) unifySays_row_tie rfl ⟨rfl, rfl⟩ (by kernel_rfl) rfl
    (fun f fn hf hfn => by
      obtain rfl : f = 3 := Option.some.inj ((show Tryd.prog.funcNamed Rows.unifySaysRow.func = some 3 by kernel_rfl).symm.trans hf) |>.symm
      obtain rfl : fn = Tryd.f3 := (Option.some.inj (Tryd.func3.symm.trans hfn)).symm
      exact ⟨by kernel_rfl, fun j t ht => by
        rw [Tryd.params3] at ht
        have hm : t ∈ [22] := by simpa using Array.mem_of_getElem? ht
        have hall : ([22].all fun u => !Tryd.prog.wantsStandIn u) = true := by kernel_rfl
        exact (show Tryd.prog.wantsStandIn t = false by simpa using List.all_eq_true.1 hall t hm)⟩)
    (by kernel_rfl)
#print axioms usays_card
end Go.Proofs.YtdcfemojkdoakaaDoor
