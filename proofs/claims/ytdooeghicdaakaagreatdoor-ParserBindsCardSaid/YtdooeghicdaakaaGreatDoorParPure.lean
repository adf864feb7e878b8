/- What the plain reader keeps: it goes on, and comes back to the depth that it had. -/
import Derived.Test.YtdooeghicdaakaaGreatDoorParPlain
namespace Go.Proofs.YtdooeghicdaakaaGreatDoor

/-- s' comes behind s: no more words are left, the depth is the same. -/
def After (c : Cx) (s s' : St) : Prop := left c s' ≤ left c s ∧ s'.deep = s.deep
theorem After.refl (c : Cx) (s : St) : After c s s := ⟨Nat.le_refl _, rfl⟩
theorem After.trans {c : Cx} {x y z : St} (h : After c x y) (k : After c y z) : After c x z := ⟨Nat.le_trans k.1 h.1, k.2.trans h.2⟩
def Tame {α : Type} (c : Cx) (rd : St → α × St) : Prop := ∀ s, After c s (rd s).2
theorem after_fail (c : Cx) (s : St) (p : Int) (l : Bool) : After c s (failS c s p l) := ⟨by simp [left, failS], rfl⟩
theorem left_fail (c : Cx) (s : St) (p : Int) (l : Bool) : left c (failS c s p l) = 0 := by simp [left, failS]
theorem left_wrong (c : Cx) (s : St) : left c (wrongS c s) = 0 := left_fail _ _ _ _
theorem after_wrong (c : Cx) (s : St) : After c s (wrongS c s) := after_fail _ _ _ _
theorem after_step (c : Cx) (s : St) : After c s (step s) := ⟨by simp [left, step]; omega, rfl⟩
theorem left_step {c : Cx} {s : St} (h : s.next < c.ws.length) : left c (step s) < left c s := by simp [left, step]; omega
theorem left_pos {c : Cx} {s : St} (h : s.next < c.ws.length) : 0 < left c s := by simp [left]; omega
theorem after_skip (c : Cx) (s : St) (t : List UInt8) : After c s (skipS c s t) := by unfold skipS; split <;> first | exact after_step _ _ | exact After.refl _ _
theorem after_need (c : Cx) (s : St) (t : List UInt8) : After c s (needS c s t) := by unfold needS; split <;> first | exact after_step _ _ | exact after_wrong _ _
theorem left_need {c : Cx} {s : St} (t : List UInt8) (h : s.next < c.ws.length) : left c (needS c s t) < left c s := by
  unfold needS; split
  · exact left_step h
  · rw [left_wrong]; exact left_pos h
theorem after_take (c : Cx) (s : St) (k : Int) : After c s (takeP c s k).2 := by unfold takeP; split <;> first | exact after_step _ _ | exact after_wrong _ _
theorem left_take {c : Cx} {s : St} (k : Int) (h : s.next < c.ws.length) : left c (takeP c s k).2 < left c s := by
  unfold takeP; split
  · exact left_step h
  · rw [left_wrong]; exact left_pos h
theorem next_of_kind {c : Cx} {s : St} (h : (word c s).kind ≠ 0) : s.next < c.ws.length := by
  by_cases hl : s.next < c.ws.length
  · exact hl
  · exact absurd (by simp [word, ahead, hl]) h
theorem next_of_isT {c : Cx} {s : St} {t : List UInt8} (ht : t ≠ []) (h : isT c s t = true) : s.next < c.ws.length := by
  by_cases hl : s.next < c.ws.length
  · exact hl
  · simp [isT, word, ahead, hl] at h
    exact absurd h (by cases t <;> simp_all)
theorem after_inBr {α : Type} {c : Cx} {rd : St → α × St} (h : Tame c rd) (s : St) : After c s (inBr c rd s).2 := ((after_need c s [40]).trans (h _)).trans (after_need c _ [41])
theorem left_inBr {α : Type} {c : Cx} {rd : St → α × St} (h : Tame c rd) {s : St} (hs : s.next < c.ws.length) : left c (inBr c rd s).2 < left c s :=
  Nat.lt_of_le_of_lt ((h (needS c s [40])).trans (after_need c _ [41])).1 (left_need [40] hs)
theorem after_name (c : Cx) (s : St) : After c s (nameP c s).2 := by
  unfold nameP; split
  · exact after_inBr (fun s => after_take c s 5) s
  · exact after_take c s 1
theorem left_name {c : Cx} {s : St} (h : s.next < c.ws.length) : left c (nameP c s).2 < left c s := by
  unfold nameP; split
  · exact left_inBr (fun s => after_take c s 5) h
  · exact left_take 1 h
theorem after_vars (c : Cx) (n : Nat) (l : List ByteArray) (s : St) : After c s (varsP c n l s).2 := by
  induction n generalizing l s with
  | zero => exact After.refl _ _
  | succ n ih =>
    unfold varsP; split
    · exact (after_name c s).trans (ih _ _)
    · exact After.refl _ _
theorem after_within {α : Type} {c : Cx} {z : α} {rd : St → α × St} (h : Tame c rd) (s : St) : After c s (within c z rd s).2 := by
  unfold within; split
  · exact after_fail _ _ _ _
  · have := h { s with deep := s.deep + 1 }
    exact ⟨this.1, by simp [this.2]⟩
theorem next_of_begVar {c : Cx} {s : St} (h : begVar c s = true) : s.next < c.ws.length := by
  simp only [begVar, Bool.or_eq_true, Bool.and_eq_true, decide_eq_true_eq] at h
  rcases h with h | ⟨h, _⟩
  · exact next_of_kind (by omega)
  · exact next_of_isT (by simp) h
theorem next_of_begAtom {c : Cx} {s : St} (h : begAtom c s = true) : s.next < c.ws.length := by
  simp only [begAtom, Bool.or_eq_true, decide_eq_true_eq] at h
  rcases h with (((h | h) | h) | h) | h
  · exact next_of_kind (by omega)
  · exact next_of_kind (by omega)
  · exact next_of_kind (by omega)
  · exact next_of_kind (by omega)
  · exact next_of_isT (by simp) h
section
variable {c : Cx} {rec : St → E × St} (hr : Tame c rec)
include hr
theorem after_atom (s : St) : After c s (atomF c rec s).2 := by
  unfold atomF; split
  · exact after_name c s
  · split
    · exact after_within (fun s => after_inBr hr s) s
    · split
      · exact after_step _ _
      · split
        · exact after_step _ _
        · split
          · exact after_step _ _
          · exact after_wrong _ _
theorem left_atom {s : St} (h : s.next < c.ws.length) : left c (atomF c rec s).2 < left c s := by
  unfold atomF; split
  · exact left_name h
  · split
    · unfold within; split
      · rw [left_fail]; exact left_pos h
      · exact left_inBr (s := { s with deep := s.deep + 1 }) hr h
    · split
      · exact left_step h
      · split
        · exact left_step h
        · split
          · exact left_step h
          · rw [left_wrong]; exact left_pos h
theorem after_appL (n : Nat) (e : E) (s : St) : After c s (appL c rec n e s).2 := by
  induction n generalizing e s with
  | zero => exact After.refl _ _
  | succ n ih =>
    unfold appL; split
    · exact (after_atom hr s).trans (ih _ _)
    · exact After.refl _ _
theorem after_app (s : St) : After c s (appF c rec s).2 := (after_atom hr s).trans (after_appL hr _ _ _)
theorem left_app {s : St} (h : s.next < c.ws.length) : left c (appF c rec s).2 < left c s := Nat.lt_of_le_of_lt (after_appL hr _ _ _).1 (left_atom hr h)
theorem after_prodL (n : Nat) (e : E) (s : St) : After c s (prodL c rec n e s).2 := by
  induction n generalizing e s with
  | zero => exact After.refl _ _
  | succ n ih =>
    unfold prodL; split
    · exact ((after_take c s 5).trans (after_app hr _)).trans (ih _ _)
    · exact After.refl _ _
theorem after_prod (s : St) : After c s (prodF c rec s).2 := (after_app hr s).trans (after_prodL hr _ _ _)
theorem after_sumL (n : Nat) (e : E) (s : St) : After c s (sumL c rec n e s).2 := by
  induction n generalizing e s with
  | zero => exact After.refl _ _
  | succ n ih =>
    unfold sumL; split
    · exact ((after_take c s 5).trans (after_prod hr _)).trans (ih _ _)
    · exact After.refl _ _
theorem after_sum (s : St) : After c s (sumF c rec s).2 := (after_prod hr s).trans (after_sumL hr _ _ _)
theorem after_cmp (s : St) : After c s (cmpF c rec s).2 := by
  unfold cmpF
  simp only
  split
  · exact ((after_sum hr s).trans (after_take c _ 5)).trans (after_sum hr _)
  · exact after_sum hr s
theorem after_lam (s : St) : After c s (lamF c rec s).2 := by
  unfold lamF
  simp only
  have h1 : After c s (variablesP c (needS c s [92])).2 := (after_need c s [92]).trans (after_vars c _ _ _)
  split
  · exact ((h1.trans (after_wrong _ _)).trans (after_need c _ [45, 62])).trans (hr _)
  · exact (h1.trans (after_need c _ [45, 62])).trans (hr _)
theorem after_if (s : St) : After c s (ifF c rec s).2 := by
  unfold ifF
  simp only
  exact (((((after_need c s [105, 102]).trans (hr _)).trans (after_need c _ [116, 104, 101, 110])).trans (hr _)).trans (after_need c _ [101, 108, 115, 101])).trans (hr _)
end
theorem appL_step (c : Cx) (rec : St → E × St) (n : Nat) (e : E) (s : St) (h : begAtom c s = true) : appL c rec (n + 1) e s = appL c rec n (applyE e (atomF c rec s).1) (atomF c rec s).2 := by rw [appL]; simp [h]
theorem appL_stop (c : Cx) (rec : St → E × St) (n : Nat) (e : E) (s : St) (h : begAtom c s = false) : appL c rec n e s = (e, s) := by cases n <;> simp [appL, h]
theorem prodL_step (c : Cx) (rec : St → E × St) (n : Nat) (e : E) (s : St) (h : isT c s [42] = true) : prodL c rec (n + 1) e s = prodL c rec n (opE (takeP c s 5).1 e (appF c rec (takeP c s 5).2).1) (appF c rec (takeP c s 5).2).2 := by rw [prodL]; simp [h]
theorem prodL_stop (c : Cx) (rec : St → E × St) (n : Nat) (e : E) (s : St) (h : isT c s [42] = false) : prodL c rec n e s = (e, s) := by cases n <;> simp [prodL, h]
theorem sumL_step (c : Cx) (rec : St → E × St) (n : Nat) (e : E) (s : St) (h : (isT c s [43] || isT c s [45]) = true) : sumL c rec (n + 1) e s = sumL c rec n (opE (takeP c s 5).1 e (prodF c rec (takeP c s 5).2).1) (prodF c rec (takeP c s 5).2).2 := by rw [sumL]; simp [h]
theorem sumL_stop (c : Cx) (rec : St → E × St) (n : Nat) (e : E) (s : St) (h : (isT c s [43] || isT c s [45]) = false) : sumL c rec n e s = (e, s) := by cases n <;> simp [sumL, h]
end Go.Proofs.YtdooeghicdaakaaGreatDoor
