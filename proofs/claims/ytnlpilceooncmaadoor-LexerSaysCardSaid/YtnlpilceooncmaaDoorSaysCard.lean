/- LexerSays: called with any slice of bytes and any text, in any memory, the law returns true, and the slice reads as it did. Condition: the fifteen errors that its road names hold what the program's own text lays (the card ties them to that text). -/
import Derived.Test.YtnlpilceooncmaaDoorSaysRow
namespace Go.Proofs.YtnlpilceooncmaaDoor
open Go

theorem says_card : Rows.LexerSaysCardSaid :=
  Claim7.holds_tied_plain_at .later [] [.sentinel, .sentinel, .sentinel, .sentinel, .sentinel, .sentinel, .sentinel, .sentinel, .sentinel, .sentinel, .sentinel, .sentinel, .sentinel, .sentinel, .sentinel] true Rows.lexerSaysCard.stood.harness true
    says_holds (fun _ h => by cases h) (by kernel_rfl) (fun _ h => by cases h) lexerSays_row_tie rfl ⟨rfl, rfl⟩ (by kernel_rfl) rfl
    (fun f fn hf hfn => by
      obtain rfl : f = 3 := Option.some.inj ((show Tryd.prog.funcNamed Rows.lexerSaysRow.func = some 3 by kernel_rfl).symm.trans hf) |>.symm
      obtain rfl : fn = Tryd.f3 := (Option.some.inj (Tryd.func3.symm.trans hfn)).symm
      exact ⟨by kernel_rfl, fun j t ht => by
        rw [Tryd.params3] at ht
        have hm : t ∈ [22, 9] := by simpa using Array.mem_of_getElem? ht
        have hall : ([22, 9].all fun u => !Tryd.prog.wantsStandIn u) = true := by kernel_rfl
        exact (show Tryd.prog.wantsStandIn t = false by simpa using List.all_eq_true.1 hall t hm)⟩)
    (by kernel_rfl)
#print axioms says_card
end Go.Proofs.YtnlpilceooncmaaDoor
