/- LexerPlaces: called with any slice of bytes, in any memory, the law returns true, and the slice reads as it did. Condition: the two errors that its road names hold what the program's own text lays (the card ties them to that text). -/
import Derived.Test.YtnlpilceooncmaaDoorPlacesRow
namespace Go.Proofs.YtnlpilceooncmaaDoor
open Go

theorem places_card : Rows.LexerPlacesCardSaid :=
  Claim7.holds_tied_plain_at .later [] [.sentinel, .sentinel] true Rows.lexerPlacesCard.stood.harness true
    places_holds (fun _ h => by cases h) (by kernel_rfl) (fun _ h => by cases h) lexerPlaces_row_tie rfl ⟨rfl, rfl⟩ (by kernel_rfl) rfl
    (fun f fn hf hfn => by
      obtain rfl : f = 4 := Option.some.inj ((show Tryd.prog.funcNamed Rows.lexerPlacesRow.func = some 4 by kernel_rfl).symm.trans hf) |>.symm
      obtain rfl : fn = Tryd.f4 := (Option.some.inj (Tryd.func4.symm.trans hfn)).symm
      exact ⟨by kernel_rfl, fun j t ht => by
        rw [Tryd.params4] at ht
        have hm : t ∈ [22] := by simpa using Array.mem_of_getElem? ht
        have hall : ([22].all fun u => !Tryd.prog.wantsStandIn u) = true := by kernel_rfl
        exact (show Tryd.prog.wantsStandIn t = false by simpa using List.all_eq_true.1 hall t hm)⟩)
    (by kernel_rfl)
#print axioms places_card
end Go.Proofs.YtnlpilceooncmaaDoor
