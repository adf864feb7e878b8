import Derived.Test.YtnlpilceooncmaaDoorRunsMk
namespace Go.Proofs.YtnlpilceooncmaaDoor

/-- The twenty words of the law, their kinds, their numbers. -/
def wText : Nat → List UInt8
  | 0 => [120] | 1 => [84] | 2 => [49, 50] | 3 => [39, 99, 39] | 4 => [61, 61] | 5 => [45, 62] | 6 => [108, 101, 116] | 7 => [95] | 8 => [61, 62] | 9 => [58, 58]
  | 10 => [120, 39] | 11 => [40] | 12 => [39, 92, 110, 39] | 13 => [60, 61] | 14 => [61] | 15 => [92] | 16 => [124] | 17 => [42] | 18 => [105, 110] | _ => [65, 49]
def wKind : Nat → Int
  | 0 => 1 | 1 => 2 | 2 => 3 | 3 => 4 | 4 => 5 | 5 => 6 | 6 => 6 | 7 => 6 | 8 => 6 | 9 => 6 | 10 => 1 | 11 => 6 | 12 => 4 | 13 => 5 | 14 => 6 | 15 => 6 | 16 => 6 | 17 => 5 | 18 => 6 | _ => 2
def wNum : Nat → Int
  | 2 => 12 | 3 => 99 | 12 => 10 | _ => 0
theorem w_word (k : Nat) (h : k < 20) (r : List UInt8) : wordOf (wText k ++ 32 :: r) = some (wKind k, (wText k).length, wNum k) := by
  match k, h with
  | 0, _ => rfl
  | 1, _ => rfl
  | 2, _ => rfl
  | 3, _ => rfl
  | 4, _ => rfl
  | 5, _ => rfl
  | 6, _ => rfl
  | 7, _ => rfl
  | 8, _ => rfl
  | 9, _ => rfl
  | 10, _ => rfl
  | 11, _ => rfl
  | 12, _ => rfl
  | 13, _ => rfl
  | 14, _ => rfl
  | 15, _ => rfl
  | 16, _ => rfl
  | 17, _ => rfl
  | 18, _ => rfl
  | 19, _ => rfl
  | n + 20, h => omega
theorem w_sk (k : Nat) (h : k < 20) (r : List UInt8) : sk false (wText k ++ 32 :: r) = 0 := by
  match k, h with
  | 0, _ => rfl
  | 1, _ => rfl
  | 2, _ => rfl
  | 3, _ => rfl
  | 4, _ => rfl
  | 5, _ => rfl
  | 6, _ => rfl
  | 7, _ => rfl
  | 8, _ => rfl
  | 9, _ => rfl
  | 10, _ => rfl
  | 11, _ => rfl
  | 12, _ => rfl
  | 13, _ => rfl
  | 14, _ => rfl
  | 15, _ => rfl
  | 16, _ => rfl
  | 17, _ => rfl
  | 18, _ => rfl
  | 19, _ => rfl
  | n + 20, h => omega
theorem w_len (k : Nat) (h : k < 20) : 1 ≤ (wText k).length ∧ (wText k).length ≤ 4 := by
  have : ∀ j : Fin 20, 1 ≤ (wText j.val).length ∧ (wText j.val).length ≤ 4 := by decide
  exact this ⟨k, h⟩

/-- The words with a blank behind each. -/
def cat : List Nat → List UInt8
  | [] => []
  | k :: r => wText k ++ 32 :: cat r
theorem cat_snoc (ks : List Nat) (k : Nat) : cat (ks ++ [k]) = cat ks ++ wText k ++ [32] := by
  induction ks with
  | nil => simp [cat]
  | cons a r ih => simp [cat, ih]
theorem cat_length (ks : List Nat) (h : ∀ k ∈ ks, k < 20) : (cat ks).length ≤ 5 * ks.length := by
  induction ks with
  | nil => simp [cat]
  | cons a r ih =>
    have h1 := (w_len a (h a (by simp))).2
    have h2 := ih (fun k hk => h k (by simp [hk]))
    simp only [cat, List.length_append, List.length_cons]
    omega
/-- The words' places. -/
def wToks : Nat → List Nat → List Tok
  | _, [] => []
  | p, k :: r => ⟨wKind k, p, (wText k).length, wNum k⟩ :: wToks (p + (wText k).length + 1) r
theorem wToks_length (p : Nat) (ks : List Nat) : (wToks p ks).length = ks.length := by
  induction ks generalizing p with
  | nil => rfl
  | cons k r ih => simp [wToks, ih]
theorem cat_sk (ks : List Nat) (h : ∀ k ∈ ks, k < 20) : sk false (cat ks) = 0 := by
  cases ks with
  | nil => rfl
  | cons k r => exact w_sk k (h k (by simp)) _
theorem w_runs (l : List UInt8) (ks : List Nat) (h : ∀ k ∈ ks, k < 20) : ∀ p, l.drop p = cat ks → p ≤ l.length → Runs l p (wToks p ks) none := by
  induction ks with
  | nil =>
    intro p hd hp
    refine runs_mk_stop l p ?_
    have := congrArg List.length hd
    simp [cat] at this
    omega
  | cons k r ih =>
    intro p hd hp
    have hk := h k (by simp)
    have hl := w_len k hk
    have hlen := congrArg List.length hd
    simp only [cat, List.length_append, List.length_cons, List.length_drop] at hlen
    have hd1 : l.drop (p + (wText k).length) = 32 :: cat r := by
      rw [← List.drop_drop, hd]; simp [cat]
    have hd2 : l.drop (p + (wText k).length + 1) = cat r := by
      rw [← List.drop_drop, hd1]; rfl
    refine runs_mk_word l p (by omega) _ _ _ (by rw [hd]; exact w_word k hk _) _ _ ?_
    have hs : skipTo l (p + (wText k).length) = p + (wText k).length + 1 := by
      unfold skipTo
      rw [hd1]
      have := cat_sk r (fun k hk => h k (by simp [hk]))
      simp [sk, blankB, this]
    rw [hs]
    exact ih (fun k hk => h k (by simp [hk])) _ hd2 (by omega)
theorem w_runs0 (ks : List Nat) (h : ∀ k ∈ ks, k < 20) : Runs (cat ks) (skipTo (cat ks) 0) (wToks 0 ks) none := by
  have : skipTo (cat ks) 0 = 0 := by unfold skipTo; simp [cat_sk ks h]
  rw [this]
  exact w_runs (cat ks) ks h 0 rfl (Nat.zero_le _)
/-- Each word's text is there, and its kind. -/
theorem w_at (l : List UInt8) (ks : List Nat) : ∀ p, l.drop p = cat ks → ∀ i (h : i < ks.length) (h' : i < (wToks p ks).length),
    (wToks p ks)[i].kind = wKind ks[i] ∧ (l.drop (wToks p ks)[i].pos).take (wToks p ks)[i].len = wText ks[i] := by
  induction ks with
  | nil => intro p _ i h; simp at h
  | cons k r ih =>
    intro p hd i h h'
    have hd1 : l.drop (p + (wText k).length) = 32 :: cat r := by
      rw [← List.drop_drop, hd]; simp [cat]
    have hd2 : l.drop (p + (wText k).length + 1) = cat r := by
      rw [← List.drop_drop, hd1]; rfl
    cases i with
    | zero =>
      refine ⟨rfl, ?_⟩
      show (l.drop p).take (wText k).length = wText k
      rw [hd]; simp [cat]
    | succ i =>
      have := ih _ hd2 i (by simpa using h) (by simpa [wToks] using h')
      simpa [wToks] using this
end Go.Proofs.YtnlpilceooncmaaDoor
