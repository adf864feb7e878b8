/- LexerWords: called with any slice of numbers, in any memory, the law returns true, and the slice reads as it did. Condition: the two errors that its road names hold what the program's own text lays (the card ties them to that text). -/
import Derived.Test.YtnlpilceooncmaaDoorWordsRow
namespace Go.Proofs.YtnlpilceooncmaaDoor
open Go

theorem words_card : Rows.LexerWordsCardSaid :=
  Claim7.holds_tied_plain_at .later [] [.sentinel, .sentinel] true Rows.lexerWordsCard.stood.harness true
    words_holds (fun _ h => by cases h) (by kernel_rfl) (fun _ h => by cases h) lexerWords_row_tie rfl ⟨rfl, rfl⟩ (by kernel_rfl) rfl
    (fun f fn hf hfn => by
      obtain rfl : f = 5 := Option.some.inj ((show Tryd.prog.funcNamed Rows.lexerWordsRow.func = some 5 by kernel_rfl).symm.trans hf) |>.symm
      obtain rfl : fn = Tryd.f5 := (Option.some.inj (Tryd.func5.symm.trans hfn)).symm
      exact ⟨by kernel_rfl, fun j t ht => by
        rw [Tryd.params5] at ht
        have hm : t ∈ [46] := by simpa using Array.mem_of_getElem? ht
        have hall : ([46].all fun u => !Tryd.prog.wantsStandIn u) = true := by kernel_rfl
        exact (show Tryd.prog.wantsStandIn t = false by simpa using List.all_eq_true.1 hall t hm)⟩)
    (by kernel_rfl)
#print axioms words_card
end Go.Proofs.YtnlpilceooncmaaDoor
