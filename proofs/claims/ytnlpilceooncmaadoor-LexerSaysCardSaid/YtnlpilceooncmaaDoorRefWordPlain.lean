/- The word at a text's head, in the reference's order of tests: plain lemmas. -/
import Derived.Test.YtnlpilceooncmaaDoorRefLetter
namespace Go.Proofs.YtnlpilceooncmaaDoor

theorem take_inner (l : List UInt8) : (l.take (innerLen l)).all innerB = true := by
  induction l with
  | nil => rfl
  | cons c r ih =>
    unfold innerLen
    by_cases h : innerB c = true
    · rw [if_pos h, List.take_succ_cons, List.all_cons, h, ih]; rfl
    · rw [if_neg h]; rfl
/-- A name in the reference's order. -/
def nameR (c : UInt8) (t : List UInt8) : Int := if greatB c then 2 else if t = [95] ∨ t ∈ wordsL then 6 else 1
theorem nameOf_spec (c : UInt8) (r : List UInt8) (hb : beginB c = true) :
    nameOf (c :: r) = if 40 < nameLen (c :: r) then none else some (nameR c ((c :: r).take (nameLen (c :: r))), nameLen (c :: r), 0) := by
  have hn : nameLen (c :: r) = innerLen r + 1 := by rw [nameLen, if_pos hb]
  have ht : (c :: r).take (innerLen r + 1) = c :: r.take (innerLen r) := rfl
  have hlen : (r.take (innerLen r)).length = innerLen r := by rw [List.length_take]; have := innerLen_le r; omega
  have hk : kindOf ((c :: r).take (nameLen (c :: r))) = if innerLen r < 40 then nameR c (c :: r.take (innerLen r)) else 0 := by
    rw [hn, ht, kind_spec]
    by_cases h40 : innerLen r < 40
    · rw [if_pos ⟨hb, take_inner r, by rw [hlen]; exact h40⟩, if_pos h40]
      unfold nameR
      by_cases hg : greatB c = true
      · have hm : ¬ ((c :: r.take (innerLen r)) = [95] ∨ (c :: r.take (innerLen r)) ∈ wordsL) := by
          rintro (h | h)
          · simp at h; rw [h.1] at hg; simp [greatB] at hg
          · have := words_small _ h
            simp only [List.headD_cons] at this
            rw [small_not_great c this] at hg; cases hg
        rw [if_neg hm, if_pos hg, if_pos hg]
      · rw [if_neg hg, if_neg hg]
    · rw [if_neg (by rw [hlen]; omega), if_neg h40]
  unfold nameOf
  rw [hk]
  by_cases h40 : innerLen r < 40
  · rw [if_pos h40, if_neg (by unfold nameR; split <;> (try split) <;> omega), if_neg (by omega), hn, ht]
  · rw [if_neg h40, if_pos rfl, if_pos (by omega)]

/-- Operators and marks in the reference's order. -/
def opsOne : List (List UInt8) := [[60], [62], [43], [45], [42]]
def marksR : List UInt8 := [40, 41, 123, 125, 44, 59, 61, 92, 124]
theorem sign_two_mark (l : List UInt8) (h : 2 ≤ l.length) (hm : l.take 2 = [45, 62] ∨ l.take 2 = [61, 62] ∨ l.take 2 = [58, 58]) : signFrom l (min 2 l.length) = some (6, 2, 0) := by
  rw [show min 2 l.length = 2 by omega]
  unfold signFrom signAt
  rcases hm with h | h | h <;> (rw [h]; rfl)
theorem sign_two_op (l : List UInt8) (h : 2 ≤ l.length) (hm : l.take 2 = [61, 61] ∨ l.take 2 = [47, 61] ∨ l.take 2 = [60, 61] ∨ l.take 2 = [62, 61]) : signFrom l (min 2 l.length) = some (5, 2, 0) := by
  rw [show min 2 l.length = 2 by omega]
  unfold signFrom signAt
  rcases hm with h | h | h | h <;> (rw [h]; rfl)
def two (l : List UInt8) : List UInt8 := if 1 < l.length then l.take 2 else []
def twos : List (List UInt8) := [[45, 62], [61, 62], [58, 58], [61, 61], [47, 61], [60, 61], [62, 61]]
theorem two_none (l : List UInt8) (h : two l ∉ twos) (h2 : 2 ≤ l.length) : signAt l 2 = none := by
  unfold two at h
  rw [if_pos (by omega)] at h
  have hz : (l.take 2).length = 2 := by rw [List.length_take]; omega
  obtain ⟨t, ht⟩ : ∃ t, l.take 2 = t := ⟨_, rfl⟩
  unfold signAt
  rw [ht] at h hz ⊢
  have ho : t ∉ opsL := fun e => by
    simp only [opsL, List.mem_cons, List.not_mem_nil, or_false] at e
    rcases e with e | e | e | e | e | e | e | e | e <;> (subst e; first | (simp at hz; done) | exact h (by decide))
  have hm : t ∉ marksL := fun e => by
    simp only [marksL, List.mem_cons, List.not_mem_nil, or_false] at e
    rcases e with e | e | e | e | e | e | e | e | e | e | e | e <;> (subst e; first | (simp at hz; done) | exact h (by decide))
  rw [if_neg ho, if_neg hm]
theorem sign_one (c : UInt8) (r : List UInt8) (h : two (c :: r) ∉ twos) : signFrom (c :: r) (min 2 (c :: r).length) = signAt (c :: r) 1 := by
  cases r with
  | nil => show (signAt [c] 1).or none = _; cases signAt [c] 1 <;> rfl
  | cons d q =>
    have := two_none (c :: d :: q) h (by simp)
    rw [show min 2 (c :: d :: q).length = 2 by simp]
    show (signAt (c :: d :: q) 2).or ((signAt (c :: d :: q) 1).or none) = _
    rw [this]
    cases signAt (c :: d :: q) 1 <;> rfl
theorem sign_one_op (c : UInt8) (r : List UInt8) (h : two (c :: r) ∉ twos) (ho : [c] ∈ opsOne) : signFrom (c :: r) (min 2 (c :: r).length) = some (5, 1, 0) := by
  rw [sign_one c r h]
  unfold signAt
  rw [if_pos]
  simp only [List.take_succ_cons, List.take_zero]
  revert ho
  simp only [opsOne, opsL, List.mem_cons, List.not_mem_nil, or_false]
  rintro (h | h | h | h | h) <;> simp_all
theorem sign_one_mark (c : UInt8) (r : List UInt8) (h : two (c :: r) ∉ twos) (ho : [c] ∉ opsOne) (hm : c ∈ marksR) : signFrom (c :: r) (min 2 (c :: r).length) = some (6, 1, 0) := by
  rw [sign_one c r h]
  unfold signAt
  simp only [List.take_succ_cons, List.take_zero]
  simp only [marksR, List.mem_cons, List.not_mem_nil, or_false] at hm
  rcases hm with h | h | h | h | h | h | h | h | h <;> (subst h; rfl)
theorem sign_no (c : UInt8) (r : List UInt8) (h : two (c :: r) ∉ twos) (ho : [c] ∉ opsOne) (hm : c ∉ marksR) : signFrom (c :: r) (min 2 (c :: r).length) = none := by
  rw [sign_one c r h]
  have e1 : (c :: r).take 1 = [c] := rfl
  unfold signAt
  rw [e1]
  have h1 : [c] ∉ opsL := fun e => ho (by
    simp only [opsL, List.mem_cons, List.not_mem_nil, or_false] at e
    simp only [opsOne, List.mem_cons, List.not_mem_nil, or_false]
    rcases e with e | e | e | e | e | e | e | e | e <;> simp_all)
  have h2 : [c] ∉ marksL := fun e => hm (by
    simp only [marksL, List.mem_cons, List.not_mem_nil, or_false] at e
    simp only [marksR, List.mem_cons, List.not_mem_nil, or_false]
    rcases e with e | e | e | e | e | e | e | e | e | e | e | e <;> simp_all)
  rw [if_neg h1, if_neg h2]
/-- What the reference's row of operators says at its i-th. -/
theorem opsR_hit (c : UInt8) (r : List UInt8) (i : Nat) (hi : i < opsR.length) (h3 : two (c :: r) ∉ [[45, 62], [61, 62], [58, 58]]) (hno : ∀ j (h : j < opsR.length), j < i → two (c :: r) ≠ opsR[j] ∧ [c] ≠ opsR[j])
    (hit : two (c :: r) = opsR[i] ∨ [c] = opsR[i]) : signFrom (c :: r) (min 2 (c :: r).length) = some (5, opsR[i].length, 0) := by
  have hl : opsR.length = 9 := rfl
  have ht : two (c :: r) = [] ∨ ((two (c :: r)).length = 2 ∧ 2 ≤ (c :: r).length ∧ (c :: r).take 2 = two (c :: r)) := by
    unfold two
    by_cases h : 1 < (c :: r).length
    · rw [if_pos h]; exact .inr ⟨by rw [List.length_take]; omega, h, rfl⟩
    · rw [if_neg h]; exact .inl rfl
  by_cases h4 : i < 4
  · have h2 : two (c :: r) = opsR[i] := by
      rcases hit with h | h
      · exact h
      · have hz : opsR[i].length = 2 := by
          match i, h4 with
          | 0, _ => rfl
          | 1, _ => rfl
          | 2, _ => rfl
          | 3, _ => rfl
        rw [← h] at hz; simp at hz
    have hz : opsR[i].length = 2 := by
      match i, h4 with
      | 0, _ => rfl
      | 1, _ => rfl
      | 2, _ => rfl
      | 3, _ => rfl
    rcases ht with ht | ⟨_, hlen, htake⟩
    · rw [h2] at ht; rw [ht] at hz; simp at hz
    · rw [hz]
      refine sign_two_op _ hlen ?_
      rw [htake, h2]
      match i, h4 with
      | 0, _ => exact .inl rfl
      | 1, _ => exact .inr (.inl rfl)
      | 2, _ => exact .inr (.inr (.inl rfl))
      | 3, _ => exact .inr (.inr (.inr rfl))
  · have h5 : opsR[i].length = 1 ∧ opsR[i] ∈ opsOne := by
      match i, hi, h4 with
      | 4, _, _ => exact ⟨rfl, by simp [opsR, opsOne]⟩
      | 5, _, _ => exact ⟨rfl, by simp [opsR, opsOne]⟩
      | 6, _, _ => exact ⟨rfl, by simp [opsR, opsOne]⟩
      | 7, _, _ => exact ⟨rfl, by simp [opsR, opsOne]⟩
      | 8, _, _ => exact ⟨rfl, by simp [opsR, opsOne]⟩
    have hc : [c] = opsR[i] := by
      rcases hit with h | h
      · rcases ht with ht | ⟨ht, _, _⟩
        · rw [h] at ht; rw [ht] at h5; simp at h5
        · rw [h] at ht; omega
      · exact h
    have h7 : two (c :: r) ∉ twos := fun e => by
      have q0 := (hno 0 (by decide) (by omega)).1
      have q1 := (hno 1 (by decide) (by omega)).1
      have q2 := (hno 2 (by decide) (by omega)).1
      have q3 := (hno 3 (by decide) (by omega)).1
      simp only [twos, List.mem_cons, List.not_mem_nil, or_false, not_or] at e h3
      simp only [opsR, List.getElem_cons_zero, List.getElem_cons_succ] at q0 q1 q2 q3
      rcases e with e | e | e | e | e | e | e
      · exact h3.1 e
      · exact h3.2.1 e
      · exact h3.2.2 e
      · exact q0 e
      · exact q1 e
      · exact q2 e
      · exact q3 e
    rw [h5.1]
    exact sign_one_op c r h7 (by rw [hc]; exact h5.2)
theorem opsR_miss (c : UInt8) (r : List UInt8) (h3 : two (c :: r) ∉ [[45, 62], [61, 62], [58, 58]]) (hno : ∀ j (h : j < opsR.length), two (c :: r) ≠ opsR[j] ∧ [c] ≠ opsR[j]) :
    signFrom (c :: r) (min 2 (c :: r).length) = if c ∈ marksR then some (6, 1, 0) else none := by
  have q0 := hno 0 (by decide)
  have q1 := hno 1 (by decide)
  have q2 := hno 2 (by decide)
  have q3 := hno 3 (by decide)
  have q4 := hno 4 (by decide)
  have q5 := hno 5 (by decide)
  have q6 := hno 6 (by decide)
  have q7 := hno 7 (by decide)
  have q8 := hno 8 (by decide)
  simp only [opsR, List.getElem_cons_zero, List.getElem_cons_succ] at q0 q1 q2 q3 q4 q5 q6 q7 q8
  have h7 : two (c :: r) ∉ twos := fun e => by
    simp only [twos, List.mem_cons, List.not_mem_nil, or_false, not_or] at e h3
    rcases e with e | e | e | e | e | e | e
    · exact h3.1 e
    · exact h3.2.1 e
    · exact h3.2.2 e
    · exact q0.1 e
    · exact q1.1 e
    · exact q2.1 e
    · exact q3.1 e
  have h1 : [c] ∉ opsOne := fun e => by
    simp only [opsOne, List.mem_cons, List.not_mem_nil, or_false] at e
    rcases e with e | e | e | e | e
    · exact q4.2 e
    · exact q5.2 e
    · exact q6.2 e
    · exact q7.2 e
    · exact q8.2 e
  by_cases hm : c ∈ marksR
  · rw [if_pos hm]; exact sign_one_mark c r h7 h1 hm
  · rw [if_neg hm]; exact sign_no c r h7 h1 hm
end Go.Proofs.YtnlpilceooncmaaDoor
