/- A greedy row with none ready tells all, where the numbers themselves are an order. -/
import Derived.Test.YtlpifioneafciaaGrTopo
namespace Go.Proofs.Ytlpifioneafciaa
open Go.RowKit Go.Maps Go.Lib

theorem all_told {c : Nat} {us : Nat → List Nat} {dn : List Nat} (hn : ∀ y, ¬ ReadyR c us dn y) (hr : ∀ r, r < c → ∀ y ∈ us r, r < y) : ∀ y, y < c → y ∈ dn := by
  intro y
  induction y using Nat.strongRecOn with
  | ind y ih =>
    intro hy
    rcases Classical.em (y ∈ dn) with h | h
    · exact h
    · exact absurd ⟨hy, h, fun r hrc hrd hyr => hrd (ih r (hr r hrc y hyr) hrc)⟩ (hn y)
theorem Greedy.lt {c : Nat} {us : Nat → List Nat} {lt : Nat → Nat → Prop} {dn : List Nat} (h : Greedy c us lt dn) : dn.Nodup ∧ ∀ x ∈ dn, x < c := by
  induction h with
  | nil => exact ⟨List.nodup_nil, fun _ h => (List.not_mem_nil h).elim⟩
  | snoc _ hr _ ih =>
    refine ⟨List.nodup_append.2 ⟨ih.1, by simp, fun a ha b hb => by simp at hb; subst hb; exact fun e => hr.2.1 (e ▸ ha)⟩, fun x hx => ?_⟩
    rcases List.mem_append.1 hx with hx | hx
    · exact ih.2 x hx
    · simp at hx; subst hx; exact hr.1
/-- What needs another stands behind it. -/
theorem Greedy.behind {c : Nat} {us : Nat → List Nat} {lt : Nat → Nat → Prop} {dn : List Nat} (h : Greedy c us lt dn) : ∀ i j, i < dn.length → j < dn.length → dn.getD j 0 ∈ us (dn.getD i 0) → i < j := by
  induction h with
  | nil => intro i j hi; simp at hi
  | @snoc dn x h1 hr _ ih =>
    intro i j hi hj hm
    simp only [List.length_append, List.length_singleton] at hi hj
    have hx : (dn ++ [x]).getD dn.length 0 = x := by simp [List.getD]
    by_cases ej : j = dn.length
    · by_cases ei : i = dn.length
      · subst ei; subst ej
        rw [hx] at hm
        exact absurd hm (hr.2.2 x hr.1 hr.2.1)
      · omega
    · have hj' : j < dn.length := by omega
      rw [getD_app hj'] at hm
      by_cases ei : i = dn.length
      · subst ei
        rw [hx] at hm
        -- x is told behind what stands at j, and so is not ready there
        exfalso
        have key : ∀ (l : List Nat), Greedy c us lt l → x < c → x ∉ l → ∀ y ∈ l, y ∉ us x := by
          intro l hl
          induction hl with
          | nil => intro _ _ y hy; cases hy
          | @snoc l z _ hz _ ih2 =>
            intro xc xl y hy
            simp only [List.mem_append, List.mem_singleton, not_or] at xl hy
            rcases hy with hy | rfl
            · exact ih2 xc xl.1 y hy
            · exact hz.2.2 x xc xl.1
        refine key dn h1 hr.1 hr.2.1 (dn.getD j 0) ?_ hm
        simp [List.getD, hj']
      · have hi' : i < dn.length := by omega
        rw [getD_app hi'] at hm
        exact ih i j hi' hj' hm
end Go.Proofs.Ytlpifioneafciaa
