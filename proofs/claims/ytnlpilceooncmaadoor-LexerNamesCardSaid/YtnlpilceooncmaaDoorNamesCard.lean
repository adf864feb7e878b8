/- LexerNames: called with any number, any mark and any sign, in any memory, the law returns true. Condition: the fifteen errors that its road names hold what the program's own text lays (the card ties them to that text). -/
import Derived.Test.YtnlpilceooncmaaDoorNamesRow
namespace Go.Proofs.YtnlpilceooncmaaDoor
open Go

theorem names_card : Rows.LexerNamesCardSaid :=
  Claim7.holds_tied_plain_at .later [] [.sentinel, .sentinel, .sentinel, .sentinel, .sentinel, .sentinel, .sentinel, .sentinel, .sentinel, .sentinel, .sentinel, .sentinel, .sentinel, .sentinel, .sentinel] true Rows.lexerNamesCard.stood.harness true
    names_holds (fun _ h => by cases h) (by kernel_rfl) (fun _ h => by cases h) lexerNames_row_tie rfl ⟨rfl, rfl⟩ (by kernel_rfl) rfl
    (fun f fn hf hfn => by
      obtain rfl : f = 6 := Option.some.inj ((show Tryd.prog.funcNamed Rows.lexerNamesRow.func = some 6 by kernel_rfl).symm.trans hf) |>.symm
      obtain rfl : fn = Tryd.f6 := (Option.some.inj (Tryd.func6.symm.trans hfn)).symm
      exact ⟨by kernel_rfl, fun j t ht => by
        rw [Tryd.params6] at ht
        have hm : t ∈ [3, 4, 5] := by simpa using Array.mem_of_getElem? ht
        have hall : ([3, 4, 5].all fun u => !Tryd.prog.wantsStandIn u) = true := by kernel_rfl
        exact (show Tryd.prog.wantsStandIn t = false by simpa using List.all_eq_true.1 hall t hm)⟩)
    (by kernel_rfl)
#print axioms names_card
end Go.Proofs.YtnlpilceooncmaaDoor
