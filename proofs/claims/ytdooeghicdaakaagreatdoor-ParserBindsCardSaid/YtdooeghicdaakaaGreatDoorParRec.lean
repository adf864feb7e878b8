/- Expressions, all together: over words among which no let and no case stands (those two are still to come). -/
import Derived.Test.YtdooeghicdaakaaGreatDoorParExprTop
import Derived.Test.YtdooeghicdaakaaGreatDoorParLam
import Derived.Test.YtdooeghicdaakaaGreatDoorParIf
namespace Go.Proofs.YtdooeghicdaakaaGreatDoor
open Go.RowKit

def exprP (c : Cx) (letF caseF : St → E × St) : Nat → St → E × St
  | 0 => fun s => (E.zero, s)
  | n + 1 => exprF c (exprP c letF caseF n) letF caseF
theorem tame_exprF {c : Cx} {rec letF caseF : St → E × St} (hr : Tame c rec) (hl : Tame c letF) (hc : Tame c caseF) : Tame c (exprF c rec letF caseF) := by
  intro s
  unfold exprF
  split
  · exact after_within (fun s => after_lam hr s) s
  · split
    · exact after_within hl s
    · split
      · exact after_within hc s
      · split
        · exact after_within (fun s => after_if hr s) s
        · exact after_cmp hr s
theorem tame_exprP {c : Cx} {letF caseF : St → E × St} (hl : Tame c letF) (hc : Tame c caseF) (n : Nat) : Tame c (exprP c letF caseF n) := by
  induction n with
  | zero => exact fun s => After.refl _ _
  | succ n ih => exact tame_exprF ih hl hc
theorem left_deep (c : Cx) (s : St) (d : Nat) : left c { s with deep := d } = left c s := rfl
theorem after_lamS (c : Cx) (s : St) : After c (needS c s [92]) (lamS c s) := by
  unfold lamS
  have h1 : After c (needS c s [92]) (variablesP c (needS c s [92])).2 := after_vars c _ _ _
  split
  · exact (h1.trans (after_wrong _ _)).trans (after_need c _ [45, 62])
  · exact h1.trans (after_need c _ [45, 62])
/-- One step: what is deeper is read as it should be. -/
theorem expr_step (c : Cx) (q : Er) (R : Nat) (rec letF caseF : St → E × St) (hr : Tame c rec) (s : St) (n : Nat) (hn : left c s ≤ n) (H : ∀ s', left c s' < n → TreeOK c q R 8 s' (rec s'))
    (hl : isT c s [108, 101, 116] = true → TreeOK2 c q R 17 19 s (within c E.zero letF s))
    (hc : isT c s [99, 97, 115, 101] = true → TreeOK2 c q R 17 20 s (within c E.zero caseF s)) :
    TreeOK c q R 8 s (exprF c rec letF caseF s) := by
  have atoms : ∀ s', left c s' ≤ n → TreeOK c q R 96 s' (atomF c rec s') := fun s' hs' =>
    atom_any c q R rec s' (fun _ hi => within_any c q R _ (.inr (.inl rfl)) (inBr c rec) s' (after_inBr hr _).2 (fun _ =>
      brExpr_any c q R rec _ (H _ (Nat.lt_of_lt_of_le (left_need (s := { s' with deep := s'.deep + 1 }) [40] (next_of_isT (s := s') (by simp) hi)) hs'))))
  have apps : ∀ s', left c s' ≤ n → TreeOK c q R 76 s' (appF c rec s') := fun s' hs' => app_any c q R rec hr s' (fun s'' h => atoms s'' (Nat.le_trans h hs'))
  have prods : ∀ s', left c s' ≤ n → TreeOK c q R 54 s' (prodF c rec s') := fun s' hs' => prod_any c q R rec hr s' (fun s'' h => apps s'' (Nat.le_trans h hs'))
  have sums : ∀ s', left c s' ≤ n → TreeOK c q R 38 s' (sumF c rec s') := fun s' hs' => sum_any c q R rec hr s' (fun s'' h => prods s'' (Nat.le_trans h hs'))
  refine expr_any c q R rec letF caseF s (fun hi => ?_) hl hc (fun hi => ?_) (cmp_any c q R rec hr s (fun s' h => sums s' (Nat.le_trans h hn)))
  · have hlt := next_of_isT (s := s) (by simp) hi
    refine within_any c q R _ (.inl rfl) (lamF c rec) s (after_lam hr _).2 (fun _ => lam_any c q R rec _ (H _ ?_))
    exact Nat.lt_of_lt_of_le (Nat.lt_of_le_of_lt (after_lamS c { s with deep := s.deep + 1 }).1 (left_need (s := { s with deep := s.deep + 1 }) [92] hlt)) hn
  · have hlt := next_of_isT (s := s) (by simp) hi
    have l1 : left c (needS c { s with deep := s.deep + 1 } [105, 102]) < n := Nat.lt_of_lt_of_le (left_need (s := { s with deep := s.deep + 1 }) [105, 102] hlt) hn
    have l2 := Nat.lt_of_le_of_lt ((hr _).trans (after_need c _ [116, 104, 101, 110])).1 l1
    have l3 := Nat.lt_of_le_of_lt ((hr _).trans (after_need c _ [101, 108, 115, 101])).1 l2
    exact within_any c q R _ (.inr (.inr (.inl rfl))) (ifF c rec) s (after_if hr _).2 (fun _ => if_any c q R rec _ (H _ l1) (H _ l2) (H _ l3))
/-- Over words without let and case. -/
theorem exprP_ok (c : Cx) (q : Er) (R : Nat) (letF caseF : St → E × St) (hl : Tame c letF) (hc : Tame c caseF) (hno : ∀ s, isT c s [108, 101, 116] = false ∧ isT c s [99, 97, 115, 101] = false) (n : Nat) :
    ∀ s, left c s < n → TreeOK c q R 8 s (exprP c letF caseF n s) := by
  induction n with
  | zero => intro s h; omega
  | succ n ih =>
    intro s h
    exact expr_step c q R (exprP c letF caseF n) letF caseF (tame_exprP hl hc n) s n (by omega) ih (fun h => by rw [(hno s).1] at h; cases h) (fun h => by rw [(hno s).2] at h; cases h)
end Go.Proofs.YtdooeghicdaakaaGreatDoor
