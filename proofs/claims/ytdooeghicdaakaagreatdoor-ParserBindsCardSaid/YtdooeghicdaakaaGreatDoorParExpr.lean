/- An expression: by its first word. -/
import Derived.Test.YtdooeghicdaakaaGreatDoorParCmp
import Derived.Test.YtdooeghicdaakaaGreatDoorParWithin
namespace Go.Proofs.YtdooeghicdaakaaGreatDoor
open Go.RowKit
attribute [local go_sem] Oper.semAt_some field_tok0 field_tok1 field_tok2

def exprF (c : Cx) (rec letF caseF : St → E × St) (s : St) : E × St :=
  if isT c s [92] then within c E.zero (lamF c rec) s
  else if isT c s [108, 101, 116] then within c E.zero letF s
  else if isT c s [99, 97, 115, 101] then within c E.zero caseF s
  else if isT c s [105, 102] then within c E.zero (ifF c rec) s
  else cmpF c rec s

set_option maxRecDepth 100000 in
set_option maxHeartbeats 8000000 in
theorem expr_any (c : Cx) (q : Er) (R : Nat) (rec letF caseF : St → E × St) (s : St)
    (h1 : isT c s [92] = true → TreeOK2 c q R 17 18 s (within c E.zero (lamF c rec) s))
    (h2 : isT c s [108, 101, 116] = true → TreeOK2 c q R 17 19 s (within c E.zero letF s))
    (h3 : isT c s [99, 97, 115, 101] = true → TreeOK2 c q R 17 20 s (within c E.zero caseF s))
    (h4 : isT c s [105, 102] = true → TreeOK2 c q R 17 21 s (within c E.zero (ifF c rec) s))
    (h5 : TreeOK c q R 22 s (cmpF c rec s)) : TreeOK c q R 8 s (exprF c rec letF caseF s) := by
  intro w hrd
  have hR := hrd.lt
  have H := Lib.hid hrd; clear hrd
  have HB := Lib.hid (fun o : Obj => (Below.refl w.heap.size w).alloc (Nat.le_refl _) o)
  have t1 : isT c s [92] = ((word c s).text.toList == [92]) := by rw [Lib.toList_data]; rfl
  have t2 : isT c s [108, 101, 116] = ((word c s).text.toList == [108, 101, 116]) := by rw [Lib.toList_data]; rfl
  have t3 : isT c s [99, 97, 115, 101] = ((word c s).text.toList == [99, 97, 115, 101]) := by rw [Lib.toList_data]; rfl
  have t4 : isT c s [105, 102] = ((word c s).text.toList == [105, 102]) := by rw [Lib.toList_data]; rfl
  obtain ⟨r, hr⟩ : ∃ r, exprF c rec letF caseF s = r := ⟨_, rfl⟩
  obtain ⟨x, hx⟩ : ∃ x, word c s = x := ⟨_, rfl⟩
  have HX := Lib.hid hx
  rw [hx] at t1 t2 t3 t4
  have hcases : (∃ b1 b2 b3 b4 : Bool, isT c s [92] = b1 ∧ isT c s [108, 101, 116] = b2 ∧ isT c s [99, 97, 115, 101] = b3 ∧ isT c s [105, 102] = b4) := ⟨_, _, _, _, rfl, rfl, rfl, rfl⟩
  obtain ⟨b1, b2, b3, b4, e1, e2, e3, e4⟩ := hcases
  unfold exprF at hr
  rw [e1] at t1 hr h1; rw [e2] at t2 hr h2; rw [e3] at t3 hr h3; rw [e4] at t4 hr h4
  show Calls _ _ _ _ _
  have hgoal : exprF c rec letF caseF s = r := by unfold exprF; rw [e1, e2, e3, e4]; exact hr
  rw [hgoal]
  have HC : Hid ((b1 = true ∧ TreeOK2 c q R 17 18 s r) ∨ ((b1 = false ∧ b2 = true) ∧ TreeOK2 c q R 17 19 s r) ∨ ((b1 = false ∧ b2 = false ∧ b3 = true) ∧ TreeOK2 c q R 17 20 s r) ∨ ((b1 = false ∧ b2 = false ∧ b3 = false ∧ b4 = true) ∧ TreeOK2 c q R 17 21 s r) ∨ ((b1 = false ∧ b2 = false ∧ b3 = false ∧ b4 = false) ∧ TreeOK c q R 22 s r)) := by
    apply Lib.hid
    cases b1
    · cases b2
      · cases b3
        · cases b4
          · exact .inr (.inr (.inr (.inr ⟨⟨rfl, rfl, rfl, rfl⟩, by rw [← hr]; exact h5⟩)))
          · exact .inr (.inr (.inr (.inl ⟨⟨rfl, rfl, rfl, rfl⟩, by rw [← hr]; exact h4 rfl⟩)))
        · exact .inr (.inr (.inl ⟨⟨rfl, rfl, rfl⟩, by rw [← hr]; exact h3 rfl⟩))
      · exact .inr (.inl ⟨⟨rfl, rfl⟩, by rw [← hr]; exact h2 rfl⟩)
    · exact .inl ⟨rfl, by rw [← hr]; exact h1 rfl⟩
  have T1 := t1.symm; have T2 := t2.symm; have T3 := t3.symm; have T4 := t4.symm
  clear t1 t2 t3 t4 h1 h2 h3 h4 h5 hr hgoal e1 e2 e3 e4 hx
  obtain ⟨y, s2⟩ := r
  rcases HC.out with ⟨rfl, ht⟩ | ⟨⟨rfl, rfl⟩, ht⟩ | ⟨⟨rfl, rfl, rfl⟩, ht⟩ | ⟨⟨rfl, rfl, rfl, rfl⟩, ht⟩ | ⟨⟨rfl, rfl, rfl, rfl⟩, ht⟩
  all_goals
    have HT := Lib.hid ht
    clear ht HC
    go_enter Tryz.func8, Tryz.ntmps8
    go_wp2_with (first
      | (go_at_call 16; refine (rword_any c q R s _ (H.out.below (HB.out _))).mono ?_; rintro e w2 ⟨rfl, hb2⟩; rw [HX.out, wdV_eq]; have H2 := Lib.hid ((H.out.below (HB.out _)).below hb2); have B2 := Lib.hid ((HB.out _).trans (hb2.mono (by simp))); have k2 := (hb2.block w.heap.size (by simp)).trans (World.alloc_heap_new w _); have l2 : w.heap.size < w2.heap.size := (Array.getElem?_eq_some_iff.1 k2).1; have K2 := Lib.hid k2; clear hb2 k2)
      | ((first | (go_at_call 17; refine (HT.out _ H2.out).mono ?_) | (go_at_call 22; refine (HT.out _ H2.out).mono ?_)); rintro e3 w3 ⟨⟨p1, n1, p2, n2, p3, n3, rfl, hx3⟩, h3, f3⟩; have X3 := Lib.hid hx3; have H3 := Lib.hid h3; have F3 := Lib.hid ((Fr.of_below B2.out (Nat.le_of_lt hR)).trans f3); have kk := f3.2 _ _ K2.out (by omega); obtain ⟨k0, k1, k2', k3', k4', k5', k6'⟩ := cells7 kk; have kf := fun i => Lib.frozen_of_heap kk i; have KK := Lib.hid kk; clear hx3 h3 f3 kk; unfold exV))
    exact bodyPost_ret (v := exV y (.slice p1 y.kids.length n1) (.slice p2 y.alts.length n2) (.slice p3 y.binds.length n3)) (by simp [results, Tryz.results8, go_sem, exV, k0, k1, k2', k3', k4', k5', k6']) rfl
      ⟨TreeRet.of (X3.out.laid l2 _ (Nat.le_of_lt l2) _ _ _ _ _ _ _), H3.out.set7 hR KK.out (by decide), F3.out.set7 hR (Nat.le_refl _)⟩
end Go.Proofs.YtdooeghicdaakaaGreatDoor
