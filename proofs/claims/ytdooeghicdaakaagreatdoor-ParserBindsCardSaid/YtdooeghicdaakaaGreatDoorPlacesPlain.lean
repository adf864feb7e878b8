import Derived.Test.YtdooeghicdaakaaGreatDoorRunsMk
namespace Go.Proofs.YtdooeghicdaakaaGreatDoor

theorem runs_nil_none (l : List UInt8) (p : Nat) (r : Runs l p [] none) : l.length ≤ p := by
  rcases Nat.lt_or_ge p l.length with h | h
  · cases hw : wordOf (l.drop p) with
    | none => have := runs_bad l p [] none h hw r; simp at this
    | some x => obtain ⟨ts', e, _⟩ := runs_word l p [] none h x.1 x.2.1 x.2.2 hw r; simp at e
  · exact h
theorem runs_cons (l : List UInt8) (p : Nat) (t : Tok) (ts : List Tok) (e : Option Nat) (r : Runs l p (t :: ts) e) :
    p < l.length ∧ wordOf (l.drop p) = some (t.kind, t.len, t.num) ∧ t.pos = p ∧ Runs l (skipTo l (p + t.len)) ts e := by
  rcases Nat.lt_or_ge p l.length with h | h
  · refine ⟨h, ?_⟩
    cases hw : wordOf (l.drop p) with
    | none => have := runs_bad l p _ e h hw r; simp at this
    | some x =>
      obtain ⟨ts', he, hr⟩ := runs_word l p _ e h x.1 x.2.1 x.2.2 hw r
      simp at he
      obtain ⟨rfl, rfl⟩ := he
      exact ⟨rfl, rfl, hr⟩
  · have := runs_stop l p _ e h r; simp at this

theorem runs_length (l : List UInt8) (ts : List Tok) (e : Option Nat) : ∀ p, Runs l p ts e → ts.length ≤ l.length - p := by
  induction ts with
  | nil => intro p _; simp
  | cons t r ih =>
    intro p h
    obtain ⟨h1, h2, h3, h4⟩ := runs_cons l p t r e h
    have hn := (wordOf_len _ _ _ _ h2).1
    have hg := skipTo_ge l (p + t.len)
    have := ih _ h4
    simp only [List.length_cons]
    omega

/-- The gap ahead of a word, sign by sign: r: within a remark. -/
def Gap (l : List UInt8) (r : Bool) (k n : Nat) : Prop := k + sk r (l.drop k) = n
theorem gap_start (l : List UInt8) (p : Nat) : Gap l false p (skipTo l p) := rfl
theorem gap_next (l : List UInt8) (r : Bool) (k n : Nat) (h : Gap l r k n) (hlt : k < n) : ∃ hk : k < l.length,
    (r = false → blankB l[k] = true ∧ Gap l false (k + 1) n ∨ blankB l[k] = false ∧ l[k] = 45 ∧ k + 1 < n ∧ (∃ h1 : k + 1 < l.length, l[k + 1] = 45) ∧ Gap l true (k + 1) n) ∧
    (r = true → (l[k] = 10 → Gap l false (k + 1) n) ∧ (l[k] ≠ 10 → Gap l true (k + 1) n)) := by
  unfold Gap at h ⊢
  have hk : k < l.length := by
    rcases Nat.lt_or_ge k l.length with h' | h'
    · exact h'
    · rw [List.drop_of_length_le h'] at h
      cases r <;> simp [sk] at h <;> omega
  refine ⟨hk, ?_, ?_⟩
  · rintro rfl
    rw [drop_cons l k hk, sk] at h
    cases hb : blankB l[k] with
    | true =>
      rw [if_pos hb] at h
      exact .inl ⟨rfl, by omega⟩
    | false =>
      rw [if_neg (by simp [hb])] at h
      by_cases hd : (l[k] == 45 && (l.drop (k + 1)).head? == some 45) = true
      · rw [if_pos hd] at h
        simp only [Bool.and_eq_true, beq_iff_eq] at hd
        have h1 : k + 1 < l.length := by
          rcases Nat.lt_or_ge (k + 1) l.length with h' | h'
          · exact h'
          · rw [List.drop_of_length_le h'] at hd; simp at hd
        have e1 : l[k + 1] = 45 := by
          have hh := hd.2
          rw [drop_cons l (k + 1) h1, List.head?_cons] at hh
          exact Option.some.inj hh
        have h2 : 1 ≤ sk true (l.drop (k + 1)) := by
          rw [drop_cons l (k + 1) h1, sk, e1]
          simp
        exact .inr ⟨rfl, hd.1, by omega, ⟨h1, e1⟩, by omega⟩
      · rw [if_neg hd] at h; omega
  · rintro rfl
    rw [drop_cons l k hk, sk] at h
    refine ⟨fun e => ?_, fun e => ?_⟩
    · rw [if_pos (by simpa using e)] at h; omega
    · rw [if_neg (by simpa using e)] at h; omega
end Go.Proofs.YtdooeghicdaakaaGreatDoor
