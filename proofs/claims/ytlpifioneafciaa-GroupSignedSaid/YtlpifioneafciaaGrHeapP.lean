/- Heaps as plain data. -/
import Derived.Test.YtlpifioneafciaaGrPop
namespace Go.Proofs.Ytlpifioneafciaa
open Go.RowKit Go.Maps Go.Lib

/-- An order: what is ahead of what. -/
structure OrdL (lt : Nat → Nat → Prop) : Prop where
  asym : ∀ {a b}, lt a b → ¬ lt b a
  trans : ∀ {a b c}, lt a b → lt b c → lt a c
  ntrans : ∀ {a b c}, ¬ lt a b → ¬ lt b c → ¬ lt a c
theorem cmpN_neg (l m : List Nat) : cmpN m l = - cmpN l m := by
  induction l generalizing m with
  | nil => cases m <;> simp [cmpN]
  | cons a l ih =>
    cases m with
    | nil => simp [cmpN]
    | cons b m =>
      simp only [cmpN]
      by_cases h1 : a < b
      · rw [if_neg (by omega : ¬ b < a), if_pos h1, if_pos h1]; rfl
      · by_cases h2 : b < a
        · rw [if_pos h2, if_neg h1, if_pos h2]
        · rw [if_neg h2, if_neg h1, if_neg h1, if_neg h2]; exact ih m
theorem cmpN_unit (l m : List Nat) : cmpN l m = -1 ∨ cmpN l m = 0 ∨ cmpN l m = 1 := by
  induction l generalizing m with
  | nil => cases m <;> simp [cmpN]
  | cons a l ih =>
    cases m with
    | nil => simp [cmpN]
    | cons b m =>
      simp only [cmpN]
      split
      · simp
      · split
        · simp
        · exact ih m
theorem cmpN_zero {l m : List Nat} : cmpN l m = 0 ↔ l = m := by
  induction l generalizing m with
  | nil => cases m <;> simp [cmpN]
  | cons a l ih =>
    cases m with
    | nil => simp [cmpN]
    | cons b m =>
      simp only [cmpN]
      by_cases h1 : a < b
      · rw [if_pos h1]; simp; omega
      · by_cases h2 : b < a
        · rw [if_neg h1, if_pos h2]; simp; omega
        · rw [if_neg h1, if_neg h2, ih]
          obtain rfl : a = b := by omega
          simp
theorem cmpN_trans {l m k : List Nat} (h1 : cmpN l m < 0) (h2 : cmpN m k < 0) : cmpN l k < 0 := by
  induction l generalizing m k with
  | nil =>
    cases k with
    | nil => cases m <;> simp [cmpN] at h1 h2
    | cons => simp [cmpN]
  | cons a l ih =>
    cases m with
    | nil => simp [cmpN] at h1
    | cons b m =>
      cases k with
      | nil => simp [cmpN] at h2
      | cons c k =>
        simp only [cmpN] at h1 h2 ⊢
        by_cases x1 : a < b
        · by_cases x2 : b < c
          · rw [if_pos (by omega : a < c)]; omega
          · by_cases x3 : c < b
            · rw [if_neg x2, if_pos x3] at h2; omega
            · obtain rfl : b = c := by omega
              rw [if_pos x1]; omega
        · by_cases x1' : b < a
          · rw [if_neg x1, if_pos x1'] at h1; omega
          · obtain rfl : a = b := by omega
            rw [if_neg x1, if_neg x1] at h1
            by_cases x2 : a < c
            · rw [if_pos x2]; omega
            · by_cases x3 : c < a
              · rw [if_neg x2, if_pos x3] at h2; omega
              · rw [if_neg x2, if_neg x3] at h2 ⊢
                exact ih h1 h2
theorem ordN (ms : Nat → List Nat) : OrdL fun x y => cmpN (ms x) (ms y) < 0 where
  asym {a b} h := by have := cmpN_neg (ms a) (ms b); omega
  trans := cmpN_trans
  ntrans {a b c} h1 h2 := by
    intro h3
    have e1 := cmpN_neg (ms a) (ms b)
    have e2 := cmpN_neg (ms b) (ms c)
    by_cases z1 : cmpN (ms a) (ms b) = 0
    · rw [cmpN_zero.1 z1] at h3; exact h2 h3
    · by_cases z2 : cmpN (ms b) (ms c) = 0
      · rw [← cmpN_zero.1 z2] at h3; exact h1 h3
      · have t := cmpN_trans (l := ms c) (m := ms b) (k := ms a) (by omega) (by omega)
        have e3 := cmpN_neg (ms a) (ms c)
        omega
/-- The heap's law, for the first n. -/
def HeapN (lt : Nat → Nat → Prop) (L : List Nat) (n : Nat) : Prop := ∀ k, 0 < k → k < n → ¬ lt (L.getD k 0) (L.getD ((k - 1) / 2) 0)
/-- The same, but where j stands to what is above it. -/
def UpH (lt : Nat → Nat → Prop) (L : List Nat) (n j : Nat) : Prop := (∀ k, 0 < k → k < n → k ≠ j → ¬ lt (L.getD k 0) (L.getD ((k - 1) / 2) 0)) ∧ ∀ k, 0 < k → k < n → (k - 1) / 2 = j → 0 < j → ¬ lt (L.getD k 0) (L.getD ((j - 1) / 2) 0)
/-- The same, but where i stands to what is below it. -/
def DownH (lt : Nat → Nat → Prop) (L : List Nat) (n i : Nat) : Prop := (∀ k, 0 < k → k < n → (k - 1) / 2 ≠ i → ¬ lt (L.getD k 0) (L.getD ((k - 1) / 2) 0)) ∧ ∀ k, 0 < k → k < n → (k - 1) / 2 = i → 0 < i → ¬ lt (L.getD k 0) (L.getD ((i - 1) / 2) 0)
theorem UpH.done {lt : Nat → Nat → Prop} {L : List Nat} {n j : Nat} (h : UpH lt L n j) (hj : j = 0 ∨ ¬ lt (L.getD j 0) (L.getD ((j - 1) / 2) 0)) : HeapN lt L n := fun k h0 hk => by
  by_cases e : k = j
  · subst e
    rcases hj with hj | hj
    · omega
    · exact hj
  · exact h.1 k h0 hk e
theorem UpH.step {lt : Nat → Nat → Prop} (O : OrdL lt) {L : List Nat} {n j : Nat} (h : UpH lt L n j) (hn : n ≤ L.length) (hj : j < n) (h0 : 0 < j) (hlt : lt (L.getD j 0) (L.getD ((j - 1) / 2) 0)) : UpH lt (swapN L ((j - 1) / 2) j) n ((j - 1) / 2) := by
  have hi : (j - 1) / 2 < n := by omega
  have g := fun k => swapN_getD L ((j - 1) / 2) j k (by omega) (by omega)
  obtain ⟨i, hie⟩ : ∃ i, (j - 1) / 2 = i := ⟨_, rfl⟩
  have hij : i < j := by omega
  rw [hie] at hlt g hi ⊢
  refine ⟨fun k k0 kn ki => ?_, fun k k0 kn kp i0 => ?_⟩
  · rw [g k, g ((k - 1) / 2)]
    by_cases e1 : k = j
    · subst e1
      rw [if_pos rfl, if_neg (by omega), if_pos hie]
      exact O.asym hlt
    · rw [if_neg e1, if_neg ki]
      by_cases e2 : (k - 1) / 2 = j
      · rw [if_pos e2]
        have := h.2 k k0 kn e2 h0
        rwa [hie] at this
      · rw [if_neg e2]
        have := h.1 k k0 kn e1
        by_cases e3 : (k - 1) / 2 = i
        · rw [if_pos e3]
          rw [e3] at this
          exact fun hc => this (O.trans hc hlt)
        · rw [if_neg e3]; exact this
  · rw [g k, g ((i - 1) / 2), if_neg (show ¬ (i - 1) / 2 = j by omega), if_neg (show ¬ (i - 1) / 2 = i by omega)]
    have hi' := h.1 i i0 hi (by omega)
    by_cases e1 : k = j
    · rw [if_pos e1]; exact hi'
    · rw [if_neg e1, if_neg (show ¬ k = i by omega)]
      have := h.1 k k0 kn e1
      rw [kp] at this
      exact O.ntrans this hi'
theorem DownH.done {lt : Nat → Nat → Prop} {L : List Nat} {n i : Nat} (h : DownH lt L n i) (hi : ∀ k, k < n → (k = 2 * i + 1 ∨ k = 2 * i + 2) → ¬ lt (L.getD k 0) (L.getD i 0)) : HeapN lt L n := fun k h0 hk => by
  by_cases e : (k - 1) / 2 = i
  · rw [e]; exact hi k hk (by omega)
  · exact h.1 k h0 hk e
theorem DownH.step {lt : Nat → Nat → Prop} (O : OrdL lt) {L : List Nat} {n i j : Nat} (h : DownH lt L n i) (hn : n ≤ L.length) (hj : j < n) (hji : (j - 1) / 2 = i) (h0 : 0 < j) (hb : ∀ k, k < n → 0 < k → (k - 1) / 2 = i → ¬ lt (L.getD k 0) (L.getD j 0)) (hlt : lt (L.getD j 0) (L.getD i 0)) : DownH lt (swapN L i j) n j := by
  have hij : i < j := by omega
  have g := fun k => swapN_getD L i j k (by omega) (by omega)
  refine ⟨fun k k0 kn kj => ?_, fun k k0 kn kp _ => ?_⟩
  · rw [g k, g ((k - 1) / 2), if_neg kj]
    by_cases e1 : k = j
    · subst e1
      rw [if_pos rfl, if_pos hji]
      exact O.asym hlt
    · rw [if_neg e1]
      by_cases e2 : k = i
      · subst e2
        rw [if_pos rfl, if_neg (show ¬ (k - 1) / 2 = k by omega)]
        exact h.2 j h0 hj hji k0
      · rw [if_neg e2]
        by_cases e3 : (k - 1) / 2 = i
        · rw [if_pos e3]; exact hb k kn k0 e3
        · rw [if_neg e3]; exact h.1 k k0 kn e3
  · rw [g k, g ((j - 1) / 2), if_neg (show ¬ k = j by omega), if_neg (show ¬ k = i by omega), if_neg (show ¬ (j - 1) / 2 = j by omega), if_pos hji]
    have := h.1 k k0 kn (by omega)
    rwa [kp] at this
theorem HeapN.least {lt : Nat → Nat → Prop} (O : OrdL lt) {L : List Nat} {n : Nat} (h : HeapN lt L n) (hx : ∀ a, ¬ lt a a) : ∀ k, k < n → ¬ lt (L.getD k 0) (L.getD 0 0) := by
  intro k
  induction k using Nat.strongRecOn with
  | ind k ih =>
    intro hk
    by_cases e : k = 0
    · subst e; exact hx _
    · exact O.ntrans (h k (by omega) hk) (ih ((k - 1) / 2) (by omega) (by omega))
theorem swapN_perm (L : List Nat) (i j : Nat) (hi : i < L.length) (hj : j < L.length) : (swapN L i j).Perm L := by
  have := List.set_set_perm hi hj
  unfold swapN
  simpa [List.getD, hi, hj] using this
end Go.Proofs.Ytlpifioneafciaa
