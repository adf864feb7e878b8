import Derived.Test.YtdooeghicdaakaaGreatDoorLexPlain
namespace Go.Proofs.YtdooeghicdaakaaGreatDoor

theorem lexF_more (l : List UInt8) (f : Nat) : ∀ p, l.length < p + f → lexF l (f + 1) p = lexF l f p := by
  induction f with
  | zero => intro p h; simp [lexF]; omega
  | succ f ih =>
    intro p h
    rw [lexF]
    conv => rhs; rw [lexF]
    by_cases hp : l.length ≤ p
    · rw [if_pos hp, if_pos hp]
    · rw [if_neg hp, if_neg hp]
      cases hw : wordOf (l.drop p) with
      | none => rfl
      | some r =>
        have hn := (wordOf_len _ r.1 r.2.1 r.2.2 hw).1
        have hg := skipTo_ge l (p + r.2.1)
        simp only
        rw [ih _ (by omega)]
theorem lexF_most (l : List UInt8) (f g p : Nat) (h : l.length < p + f) : lexF l (f + g) p = lexF l f p := by
  induction g with
  | zero => rfl
  | succ g ih => rw [← Nat.add_assoc, lexF_more l (f + g) p (by omega), ih]
theorem runs_mk_stop (l : List UInt8) (p : Nat) (h : l.length ≤ p) : Runs l p [] none := ⟨1, by omega, by simp [lexF, h]⟩
theorem runs_mk_bad (l : List UInt8) (p : Nat) (h : p < l.length) (hw : wordOf (l.drop p) = none) : Runs l p [] (some p) := ⟨l.length + 1, by omega, by simp [lexF, Nat.not_le.2 h, hw]⟩
theorem runs_mk_word (l : List UInt8) (p : Nat) (h : p < l.length) (k : Int) (n : Nat) (v : Int) (hw : wordOf (l.drop p) = some (k, n, v)) (ts : List Tok) (e : Option Nat) (r : Runs l (skipTo l (p + n)) ts e) :
    Runs l p (⟨k, p, n, v⟩ :: ts) e := by
  obtain ⟨f, hlt, hf⟩ := r
  have := lexF_most l f (l.length + 1) _ hlt
  refine ⟨f + (l.length + 1) + 1, by omega, ?_⟩
  rw [lexF, if_neg (by omega), hw]
  simp only
  rw [this, hf]

/-- What is behind two dashes goes to the line's end. -/
theorem sk_line (f rest : List UInt8) (h : ∀ c ∈ f, c ≠ 10) : sk true (f ++ 10 :: rest) = f.length + 1 + sk false rest := by
  induction f with
  | nil => simp [sk]; omega
  | cons c r ih =>
    have hc : c ≠ 10 := h c (by simp)
    have := ih (fun x hx => h x (by simp [hx]))
    simp [sk, hc, this]; omega
/-- A small name of one letter, with what is no sign of a name behind it. -/
theorem word_one (c d : UInt8) (r : List UInt8) (hb : beginB c = true) (hd : innerB d = false) (hk : kindOf [c] = 1) : wordOf (c :: d :: r) = some (1, 1, 0) := by
  have hn : nameLen (c :: d :: r) = 1 := by simp [nameLen, innerLen, hb, hd]
  unfold wordOf
  simp only [List.headD_cons, hb, if_true]
  unfold nameOf
  simp [hn, hk]

def filt (l : List UInt8) : List UInt8 := l.filter fun c => c != 10
theorem filt_snoc (l : List UInt8) (c : UInt8) : filt (l ++ [c]) = filt l ++ if c != 10 then [c] else [] := by
  unfold filt
  rw [List.filter_append]
  cases h : c != 10 <;> simp [h]
def tailR : List UInt8 := [10, 121, 32, 45, 45, 32, 62, 32, 122]
def textR (l : List UInt8) : List UInt8 := [120, 32, 45, 45] ++ filt l ++ tailR
theorem textR_length (l : List UInt8) : (textR l).length = (filt l).length + 13 := by simp [textR, tailR]
theorem textR_drop (l : List UInt8) (k : Nat) (hk : k ≤ 9) : (textR l).drop (4 + (filt l).length + k) = tailR.drop k := by
  unfold textR
  rw [List.drop_append, List.drop_of_length_le (by simp; omega), List.nil_append]
  congr 1
  simp
  omega
theorem runsR (l : List UInt8) : Runs (textR l) (skipTo (textR l) 0) [⟨1, 0, 1, 0⟩, ⟨1, 5 + (filt l).length, 1, 0⟩] none := by
  have hlen := textR_length l
  have hf : ∀ c ∈ filt l, c ≠ 10 := fun c hc => by simpa using (List.mem_filter.1 hc).2
  have s0 : skipTo (textR l) 0 = 0 := by simp [skipTo, textR, sk, blankB]
  have s1 : skipTo (textR l) (0 + 1) = 5 + (filt l).length := by
    have e : (textR l).drop (0 + 1) = 32 :: 45 :: 45 :: (filt l ++ 10 :: [121, 32, 45, 45, 32, 62, 32, 122]) := by simp [textR, tailR]
    unfold skipTo
    rw [e]
    have q := sk_line (filt l) [121, 32, 45, 45, 32, 62, 32, 122] hf
    have q0 : sk false [121, 32, 45, 45, 32, 62, 32, 122] = 0 := by decide
    simp [sk, blankB] at q ⊢
    omega
  have d5 : (textR l).drop (5 + (filt l).length) = [121, 32, 45, 45, 32, 62, 32, 122] := by
    rw [show 5 + (filt l).length = 4 + (filt l).length + 1 by omega, textR_drop l 1 (by omega)]; rfl
  have s2 : skipTo (textR l) (5 + (filt l).length + 1) = (textR l).length := by
    unfold skipTo
    rw [show 5 + (filt l).length + 1 = 4 + (filt l).length + 2 by omega, textR_drop l 2 (by omega), hlen]
    have : sk false (tailR.drop 2) = 7 := by decide
    omega
  rw [s0]
  refine runs_mk_word _ 0 (by omega) 1 1 0 ?_ _ _ ?_
  · exact word_one 120 32 _ (by decide) (by decide) (by decide)
  · rw [s1]
    refine runs_mk_word _ _ (by omega) 1 1 0 ?_ _ _ ?_
    · rw [d5]; exact word_one 121 32 _ (by decide) (by decide) (by decide)
    · rw [s2]; exact runs_mk_stop _ _ (Nat.le_refl _)
end Go.Proofs.YtdooeghicdaakaaGreatDoor
