/- ParserBinds: called with any number, in any memory, the law returns true. Condition: the three errors that its road names hold what the program's own text lays (the card ties them to that text). -/
import Derived.Test.YtdooeghicdaakaaGreatDoorBindsRow
namespace Go.Proofs.YtdooeghicdaakaaGreatDoor
open Go

theorem binds_card : Rows.ParserBindsCardSaid :=
  Claim7.holds_tied_plain_at .later [] [.sentinel, .sentinel, .sentinel] true Rows.parserBindsCard.stood.harness Rows.parserBindsCard.stood.looks
    binds_holds (fun _ h => by cases h) (by kernel_rfl) (fun _ h => by cases h) parserBinds_row_tie rfl ⟨rfl, rfl⟩ (by kernel_rfl) rfl
    (fun f fn hf hfn => by
      obtain rfl : f = 3 := Option.some.inj ((show Tryz.prog.funcNamed Rows.parserBindsRow.func = some 3 by kernel_rfl).symm.trans hf) |>.symm
      obtain rfl : fn = Tryz.f3 := (Option.some.inj (Tryz.func3.symm.trans hfn)).symm
      exact ⟨by kernel_rfl, fun j t ht => by
        rw [Tryz.params3] at ht
        have hm : t ∈ [3] := by simpa using Array.mem_of_getElem? ht
        have hall : ([3].all fun u => !Tryz.prog.wantsStandIn u) = true := by kernel_rfl
        exact (show Tryz.prog.wantsStandIn t = false by simpa using List.all_eq_true.1 hall t hm)⟩)
    (by kernel_rfl)
#print axioms binds_card
end Go.Proofs.YtdooeghicdaakaaGreatDoor
