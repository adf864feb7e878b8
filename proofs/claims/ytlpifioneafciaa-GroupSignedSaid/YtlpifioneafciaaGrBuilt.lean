/- group.order: what its loops lay into the orderer, as plain data. -/
import Derived.Test.YtlpifioneafciaaGrOrdA
namespace Go.Proofs.Ytlpifioneafciaa
open Go.RowKit Go.Maps Go.Lib

/-- The tables' rows (false: members, true: users), and what each ring waits for. -/
abbrev TblS := (Bool → Nat → List Nat) × (Nat → Nat)
/-- Ring r needs the node to. -/
def toStep (ring : Nat → Nat) (r : Nat) (st : TblS) (to : Nat) : TblS := if ring to = r then st else (updBR st.1 true (ring to) (st.1 true (ring to) ++ [r]), updN st.2 r (st.2 r + 1))
/-- The node k is a member, where it is told. -/
def memStep (n : Nat) (ring : Nat → Nat) (st : TblS) (k : Nat) : TblS := if k < n then (updBR st.1 false (ring k) (st.1 false (ring k) ++ [k]), st.2) else st
def nodeStep (n : Nat) (ring : Nat → Nat) (needs : Nat → List Nat) (st : TblS) (k : Nat) : TblS := (needs k).foldl (toStep ring (ring k)) (memStep n ring st k)
def emptyS : TblS := (fun _ _ => [], fun _ => 0)
def builtS (n : Nat) (ring : Nat → Nat) (needs : Nat → List Nat) (i : Nat) : TblS := (List.range i).foldl (nodeStep n ring needs) emptyS
theorem builtS_succ (n : Nat) (ring : Nat → Nat) (needs : Nat → List Nat) (i : Nat) : builtS n ring needs (i + 1) = nodeStep n ring needs (builtS n ring needs i) i := by
  unfold builtS
  rw [List.range_succ, List.foldl_append]; rfl
theorem take_foldl {α : Type} (f : α → Nat → α) (a : α) (l : List Nat) (j : Nat) (h : j < l.length) : (l.take (j + 1)).foldl f a = f ((l.take j).foldl f a) (l.getD j 0) := by
  rw [List.take_succ_eq_append_getElem h, List.foldl_append]
  simp [List.getD, h]
def sumN (needs : Nat → List Nat) (i : Nat) : Nat := ((List.range i).map fun k => (needs k).length).sum
theorem sumN_succ (needs : Nat → List Nat) (i : Nat) : sumN needs (i + 1) = sumN needs i + (needs i).length := by
  unfold sumN
  rw [List.range_succ, List.map_append, List.sum_append]; simp
theorem sumN_le (needs : Nat → List Nat) {i n : Nat} (h : i ≤ n) : sumN needs i ≤ sumN needs n := by
  induction n with
  | zero => obtain rfl : i = 0 := by omega
            exact Nat.le_refl _
  | succ n ih =>
    by_cases e : i = n + 1
    · subst e; exact Nat.le_refl _
    · rw [sumN_succ]; have := ih (by omega); omega
/-- Bounds: members' rows by a; users' rows and what is waited for by b. -/
def BndS (a b : Nat) (st : TblS) : Prop := (∀ x, (st.1 false x).length ≤ a) ∧ (∀ x, (st.1 true x).length ≤ b) ∧ ∀ x, st.2 x ≤ b
theorem BndS.empty : BndS 0 0 emptyS := ⟨fun _ => Nat.le_refl _, fun _ => Nat.le_refl _, fun _ => Nat.le_refl _⟩
theorem BndS.to {a b r to : Nat} {ring : Nat → Nat} {st : TblS} (h : BndS a b st) : BndS a (b + 1) (toStep ring r st to) := by
  unfold toStep
  split
  · exact ⟨h.1, fun x => Nat.le_succ_of_le (h.2.1 x), fun x => Nat.le_succ_of_le (h.2.2 x)⟩
  · refine ⟨fun x => ?_, fun x => ?_, fun x => ?_⟩
    · simp only [updBR_ne st.1 _ (show ¬ (false = true ∧ x = ring to) by simp)]; exact h.1 x
    · by_cases e : x = ring to
      · subst e; simp only [updBR_same, List.length_append]; have := h.2.1 (ring to); simp; exact this
      · simp only [updBR_ne st.1 _ (show ¬ (true = true ∧ x = ring to) by simp [e])]; exact Nat.le_succ_of_le (h.2.1 x)
    · simp only [updN]
      split
      · have := h.2.2 r; omega
      · exact Nat.le_succ_of_le (h.2.2 x)
theorem BndS.mem {a b n k : Nat} {ring : Nat → Nat} {st : TblS} (h : BndS a b st) : BndS (a + 1) b (memStep n ring st k) := by
  unfold memStep
  split
  · refine ⟨fun x => ?_, fun x => ?_, h.2.2⟩
    · by_cases e : x = ring k
      · subst e; simp only [updBR_same, List.length_append]; have := h.1 (ring k); simp; exact this
      · simp only [updBR_ne st.1 _ (show ¬ (false = false ∧ x = ring k) by simp [e])]; exact Nat.le_succ_of_le (h.1 x)
    · simp only [updBR_ne st.1 _ (show ¬ (true = false ∧ x = ring k) by simp)]; exact h.2.1 x
  · exact ⟨fun x => Nat.le_succ_of_le (h.1 x), h.2.1, h.2.2⟩
theorem BndS.tos {a b r : Nat} {ring : Nat → Nat} (l : List Nat) {st : TblS} (h : BndS a b st) : BndS a (b + l.length) (l.foldl (toStep ring r) st) := by
  induction l generalizing b st with
  | nil => exact h
  | cons x l ih =>
    have := ih (h.to (r := r) (ring := ring) (to := x))
    rw [List.foldl_cons, List.length_cons, show b + (l.length + 1) = b + 1 + l.length by omega]
    exact this
theorem builtS_bnd (n : Nat) (ring : Nat → Nat) (needs : Nat → List Nat) (i : Nat) : BndS i (sumN needs i) (builtS n ring needs i) := by
  induction i with
  | zero => exact BndS.empty
  | succ i ih =>
    rw [builtS_succ, sumN_succ]
    exact BndS.tos (needs i) ih.mem
/-- The members of a ring: those of it that are told, rising. -/
theorem builtS_mem (n : Nat) (ring : Nat → Nat) (needs : Nat → List Nat) (i r : Nat) : (builtS n ring needs i).1 false r = (List.range i).filter fun k => decide (k < n) && decide (ring k = r) := by
  induction i with
  | zero => rfl
  | succ i ih =>
    have tos : ∀ (l : List Nat) (st : TblS) (q : Nat), (l.foldl (toStep ring q) st).1 false r = st.1 false r := fun l => by
      induction l with
      | nil => intro st q; rfl
      | cons x l ih2 =>
        intro st q
        rw [List.foldl_cons, ih2]
        unfold toStep
        split
        · rfl
        · exact updBR_ne st.1 (st.1 true (ring x) ++ [q]) (show ¬ (false = true ∧ r = ring x) by simp)
    rw [builtS_succ, List.range_succ, List.filter_append, ← ih]
    unfold nodeStep
    rw [tos]
    unfold memStep
    by_cases h1 : i < n
    · rw [if_pos h1]
      by_cases h2 : ring i = r
      · subst h2; simp [updBR_same, h1]
      · simp only [updBR_ne (builtS n ring needs i).1 _ (show ¬ (false = false ∧ r = ring i) by simp [Ne.symm h2])]
        simp [h2]
    · rw [if_neg h1]; simp [h1]
/-- What waits is what the users' rows say, and they name rings alone. -/
def UsOK (c : Nat) (st : TblS) : Prop := (∀ u, u < c → st.2 u = needT c (st.1 true) [] u) ∧ ∀ x, ∀ u ∈ st.1 true x, u < c
theorem UsOK.empty (c : Nat) : UsOK c emptyS := ⟨fun u _ => (needT_zero.2 fun _ _ _ h => (List.not_mem_nil h)).symm, fun _ _ h => (List.not_mem_nil h).elim⟩
theorem UsOK.to {c r to : Nat} {ring : Nat → Nat} {st : TblS} (h : UsOK c st) (hr : r < c) (ht : ring to < c) : UsOK c (toStep ring r st to) := by
  unfold toStep
  split
  · exact h
  · refine ⟨fun u hu => ?_, fun x u hu => ?_⟩
    · have e : needT c (updBR st.1 true (ring to) (st.1 true (ring to) ++ [r]) true) [] u = needT c (st.1 true) [] u + [r].count u := by
        refine sum_at List.nodup_range (x := ring to) (List.mem_range.2 ht) ?_ fun x _ hx => ?_
        · simp [updBR_same, List.count_append]
        · simp only [updBR_ne st.1 _ (show ¬ (true = true ∧ x = ring to) by simp [hx])]
      show updN st.2 r (st.2 r + 1) u = _
      rw [e, ← h.1 u hu]
      simp only [updN]
      by_cases e2 : u = r
      · subst e2; simp
      · rw [if_neg e2]; simp [List.count_cons, Ne.symm e2]
    · by_cases e : x = ring to
      · subst e
        simp only [updBR_same, List.mem_append, List.mem_singleton] at hu
        rcases hu with hu | rfl
        · exact h.2 _ u hu
        · exact hr
      · simp only [updBR_ne st.1 _ (show ¬ (true = true ∧ x = ring to) by simp [e])] at hu
        exact h.2 x u hu
theorem UsOK.mem {c n k : Nat} {ring : Nat → Nat} {st : TblS} (h : UsOK c st) : UsOK c (memStep n ring st k) := by
  unfold memStep
  split
  · have e : ∀ x, updBR st.1 false (ring k) (st.1 false (ring k) ++ [k]) true x = st.1 true x := fun x => updBR_ne st.1 _ (show ¬ (true = false ∧ x = ring k) by simp)
    refine ⟨fun u hu => ?_, fun x u hu => ?_⟩
    · show st.2 u = needT c (updBR st.1 false (ring k) (st.1 false (ring k) ++ [k]) true) [] u
      rw [show updBR st.1 false (ring k) (st.1 false (ring k) ++ [k]) true = st.1 true from funext e]
      exact h.1 u hu
    · rw [show (updBR st.1 false (ring k) (st.1 false (ring k) ++ [k]), st.2).1 true x = st.1 true x from e x] at hu
      exact h.2 x u hu
  · exact h
theorem UsOK.tos {c r : Nat} {ring : Nat → Nat} (l : List Nat) {st : TblS} (h : UsOK c st) (hr : r < c) (hl : ∀ x ∈ l, ring x < c) : UsOK c (l.foldl (toStep ring r) st) := by
  induction l generalizing st with
  | nil => exact h
  | cons x l ih => exact ih (h.to hr (hl x (List.mem_cons_self ..))) fun y hy => hl y (List.mem_cons_of_mem _ hy)
theorem builtS_us {c N : Nat} (n : Nat) {ring : Nat → Nat} {needs : Nat → List Nat} (hr : ∀ k, k < N → ring k < c) (hn : ∀ k, k < N → ∀ x ∈ needs k, x < N) (i : Nat) (hi : i ≤ N) : UsOK c (builtS n ring needs i) := by
  induction i with
  | zero => exact UsOK.empty c
  | succ i ih =>
    rw [builtS_succ]
    exact UsOK.tos (needs i) (ih (by omega)).mem (hr i (by omega)) fun x hx => hr x (hn i (by omega) x hx)
end Go.Proofs.Ytlpifioneafciaa
