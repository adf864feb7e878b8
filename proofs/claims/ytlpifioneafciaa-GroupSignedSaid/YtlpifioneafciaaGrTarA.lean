/- The search, as plain data: each ring's number lies below their count. -/
import Derived.Test.YtlpifioneafciaaGrRings
namespace Go.Proofs.Ytlpifioneafciaa
open Go.RowKit Go.Maps Go.Lib

def RgLt (s : SS) : Prop := ∀ i, s.met i = grTop → s.ring i < s.rings
def RgLe (s : SS) : Prop := ∀ i, s.met i = grTop → s.ring i ≤ s.rings
theorem RgLe.drop1 {s : SS} (h : RgLe s) (v : Nat) : RgLe (s.drop1 v) := fun i hi => by
  unfold SS.drop1 at *
  simp only [updN] at *
  by_cases e : i = v
  · rw [if_pos e]; exact Nat.le_refl _
  · rw [if_neg e] at hi ⊢; exact h i hi
theorem dropN_le : ∀ (k : Nat) (s : SS), RgLe s → RgLe (SS.dropN k s)
  | 0, _, h => h
  | k + 1, s, h => dropN_le k _ (h.drop1 _)
theorem RgLt.close {s : SS} (h : RgLt s) (v : Nat) : RgLt (s.close v) := fun i hi => by
  have := dropN_le (behindN v s.opn.reverse) s (fun i hi => Nat.le_of_lt (h i hi)) i hi
  exact Nat.lt_succ_of_le this
theorem RgLt.leave {s : SS} (h : RgLt s) (v : Nat) : RgLt (s.leave v) := by
  unfold SS.leave
  have h' : RgLt ({ s with path := s.path.dropLast } : SS) := h
  split
  · exact h'.close v
  · exact h
theorem RgLt.meet {s : SS} (h : RgLt s) (v : Nat) (hc : s.count + 1 < grTop) : RgLt (s.meet v) := fun i hi => by
  unfold SS.meet at *
  simp only [updN] at hi
  by_cases e : i = v
  · rw [if_pos e] at hi; omega
  · rw [if_neg e] at hi; exact h i hi
theorem RgLt.step {s : SS} (h : RgLt s) (hc : s.count + 1 < grTop) : RgLt s.step := by
  unfold SS.step
  split
  · exact h
  · split
    · exact h.leave _
    · split
      · rename_i v _ _ a r _ _
        exact RgLt.meet (s := { s with rest := fun i => if i = v then r else s.rest i }) h a hc
      · exact h
theorem WF.step {n v0 : Nat} {s : SS} (h : WF n v0 s) (hn : n < grTop) : WF n v0 s.step := by
  by_cases hp : s.path = []
  · have : s.step = s := by unfold SS.step; rw [hp]; rfl
    rw [this]; exact h
  · obtain ⟨l, v, hl⟩ : ∃ l v, s.path = l ++ [v] := ⟨s.path.dropLast, s.path.getLast hp, (List.dropLast_concat_getLast hp).symm⟩
    cases hr : s.rest v with
    | nil => rw [step_end hl hr]; exact (h.leave hl).1
    | cons a r =>
      by_cases hz : s.met a = 0
      · exact h.new hl hr hz
      · exact h.old hl hr hz hn
theorem run_keep {n v0 : Nat} (hn : n + 1 < grTop) : ∀ (k : Nat) (s : SS), WF n v0 s → RgLt s → WF n v0 (SS.run k s) ∧ RgLt (SS.run k s)
  | 0, _, h, g => ⟨h, g⟩
  | k + 1, s, h, g => by
    have ih := run_keep hn k s h g
    rw [← run_step]
    exact ⟨ih.1.step (by omega), ih.2.step (by have := ih.1.cn; omega)⟩
def MetK (s t : SS) : Prop := ∀ i, s.met i ≠ 0 → t.met i ≠ 0
theorem dropN_met : ∀ (k : Nat) (s : SS), MetK s (SS.dropN k s)
  | 0, _ => fun _ h => h
  | k + 1, s => fun i h => dropN_met k _ i (by
    unfold SS.drop1
    simp only [updN]
    split
    · decide
    · exact h)
theorem leave_met (s : SS) (v : Nat) : MetK s (s.leave v) := fun i h => by
  unfold SS.leave
  split
  · exact dropN_met _ ({ s with path := s.path.dropLast } : SS) i h
  · exact h
theorem meet_met (s : SS) (v : Nat) : MetK s (s.meet v) := fun i h => by
  unfold SS.meet
  simp only [updN]
  split
  · omega
  · exact h
theorem step_met (s : SS) : MetK s s.step := by
  unfold SS.step
  split
  · exact fun _ h => h
  · split
    · exact leave_met s _
    · split
      · rename_i v _ _ a r _ _
        exact meet_met { s with rest := fun i => if i = v then r else s.rest i } a
      · exact fun _ h => h
theorem run_met : ∀ (k : Nat) (s : SS), MetK s (SS.run k s)
  | 0, _ => fun _ h => h
  | k + 1, s => by rw [← run_step]; exact fun i h => step_met _ i (run_met k s i h)
theorem RA.keep {n : Nat} {needs : Nat → List Nat} (hn : n + 1 < grTop) (hne : ∀ i, i < n → ∀ x ∈ needs i, x < n) : ∀ (j : Nat) (t : SS), j ≤ n → RA n (grInit needs) j t → Idle n t ∧ RgLt t ∧ ∀ i, i < j → t.met i ≠ 0
  | 0, t, _, h => by
    obtain rfl : t = grInit needs := h
    exact ⟨init_idle hne, fun i hi => (by cases hi), fun i hi => (by omega)⟩
  | j + 1, t, hj, h => by
    obtain ⟨u, hu, h⟩ := h
    obtain ⟨i1, i2, i3⟩ := RA.keep hn hne j u (by omega) hu
    rcases h with ⟨hz, k, rfl, hp⟩ | ⟨hz, rfl⟩
    · have hw := i1.meet (v := j) (by omega) hz
      have hk := run_keep hn k _ hw (i2.meet j (by have := i1.ct; omega))
      refine ⟨hk.1.idle hp, hk.2, fun i hi => run_met k _ i ?_⟩
      by_cases e : i = j
      · subst e; unfold SS.meet; simp [updN]
      · exact meet_met u j i (i3 i (by omega))
    · refine ⟨i1, i2, fun i hi => ?_⟩
      by_cases e : i = j
      · subst e; exact hz
      · exact i3 i (by omega)
/-- Each node is in a ring that is counted. -/
theorem RA.ring {n : Nat} {needs : Nat → List Nat} {t : SS} (hn : n + 1 < grTop) (hne : ∀ i, i < n → ∀ x ∈ needs i, x < n) (h : RA n (grInit needs) n t) : ∀ k, k < n → t.ring k < t.rings := fun k hk => by
  obtain ⟨i1, i2, i3⟩ := RA.keep hn hne n t (Nat.le_refl _) h
  exact i2 k ((i1.mx k hk).resolve_left (i3 k hk))
end Go.Proofs.Ytlpifioneafciaa
