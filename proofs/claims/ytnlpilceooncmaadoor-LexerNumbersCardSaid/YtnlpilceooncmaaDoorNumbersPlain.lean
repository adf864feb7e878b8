import Derived.Test.YtnlpilceooncmaaDoorRunsMk
namespace Go.Proofs.YtnlpilceooncmaaDoor

/-- The digits of a number, at most f of them. -/
def digC (v : Nat) : UInt8 := UInt8.ofNat (48 + v % 10)
def dec : Nat → Nat → List UInt8
  | 0, _ => []
  | f + 1, v => (if v < 10 then [] else dec f (v / 10)) ++ [digC v]
theorem digC_nat (v : Nat) : (digC v).toNat = 48 + v % 10 := by
  unfold digC
  rw [UInt8.toNat_ofNat']
  omega
theorem digC_dig (v : Nat) : digitB (digC v) = true := by
  rw [digitB_iff, digC_nat]; omega
theorem dec_small (f v : Nat) (h : v < 10) : dec (f + 1) v = [digC v] := by simp [dec, h]
theorem dec_step (f v : Nat) (h : ¬ v < 10) : dec (f + 1) v = dec f (v / 10) ++ [digC v] := by simp [dec, h]
theorem dec_le (f v : Nat) : (dec f v).length ≤ f := by
  induction f generalizing v with
  | zero => simp [dec]
  | succ f ih =>
    by_cases h : v < 10
    · rw [dec_small f v h]; simp
    · rw [dec_step f v h, List.length_append]; have := ih (v / 10); simp; omega
theorem dec_pos (f v : Nat) : 1 ≤ (dec (f + 1) v).length := by simp [dec]
theorem dec_dig (f v : Nat) : allDig (dec f v) := by
  induction f generalizing v with
  | zero => simp [dec, allDig]
  | succ f ih =>
    intro c hc
    by_cases h : v < 10
    · rw [dec_small f v h] at hc
      obtain rfl : c = digC v := by simpa using hc
      exact digC_dig v
    · rw [dec_step f v h] at hc
      rcases List.mem_append.1 hc with hc | hc
      · exact ih _ c hc
      · obtain rfl : c = digC v := by simpa using hc
        exact digC_dig v
theorem valOf_snoc (l : List UInt8) (c : UInt8) : valOf (l ++ [c]) = valOf l * 10 + ((c.toNat : Int) - 48) := by
  unfold valOf
  rw [List.foldl_append]
  rfl
theorem dec_val (f v : Nat) (h : v < 10 ^ f) : valOf (dec f v) = (v : Int) := by
  induction f generalizing v with
  | zero => simp at h; subst h; rfl
  | succ f ih =>
    by_cases h10 : v < 10
    · rw [dec_small f v h10]
      show 0 * 10 + (((digC v).toNat : Int) - 48) = v
      rw [digC_nat]; omega
    · rw [dec_step f v h10, valOf_snoc, ih (v / 10) (by rw [Nat.pow_succ] at h; omega), digC_nat]
      omega
def zerosL (k : Nat) : List UInt8 := List.replicate k 48
theorem valOf_zeros (k : Nat) (l : List UInt8) : valOf (zerosL k ++ l) = valOf l := by
  induction k with
  | zero => rfl
  | succ k ih =>
    show List.foldl _ (0 * 10 + (((48 : UInt8).toNat : Int) - 48)) (zerosL k ++ l) = _
    exact ih
theorem zeros_dig (k : Nat) : allDig (zerosL k) := by
  intro c hc
  rw [(List.mem_replicate.1 hc).2]
  rfl
theorem digLen_all (l : List UInt8) (h : allDig l) (c : UInt8) (hc : digitB c = false) (r : List UInt8) : digLen (l ++ c :: r) = l.length := by
  induction l with
  | nil => simp [digLen, hc]
  | cons a l ih =>
    have ha := h a (by simp)
    have := ih (fun x hx => h x (by simp [hx]))
    simp [digLen, ha, this]
/-- The law's text: zeros, digits, a letter. -/
theorem num_runs (l : List UInt8) (h : allDig l) (h0 : 0 < l.length) (h15 : l.length ≤ 15) :
    Runs (l ++ [120]) (skipTo (l ++ [120]) 0) [⟨3, 0, l.length, valOf l⟩, ⟨1, l.length, 1, 0⟩] none := by
  have hb : ∀ c r, digitB c = true → sk false (c :: r) = 0 := by
    intro c r hc
    have := (digitB_iff c).1 hc
    have h1 : blankB c = false := by simp [blankB]; omega
    have h2 : (c == 45) = false := by
      rw [beq_eq_false_iff_ne]
      rintro rfl
      simp [digitB] at hc
    simp [sk, h1, h2]
  match l, h, h0, h15 with
  | a :: l, h, _, h15 =>
    have ha := h a (by simp)
    have s0 : skipTo (a :: l ++ [120]) 0 = 0 := by
      unfold skipTo
      rw [List.drop_zero, List.cons_append, hb a _ ha]
    have hd := digLen_all (a :: l) h 120 (by rfl) []
    have hk : beginB a = false := by
      have := (digitB_iff a).1 ha
      have h2 : ¬ a = 95 := by
        rintro rfl
        simp [digitB] at ha
      simp [beginB, greatB]; omega
    have hw : wordOf (a :: l ++ [120]) = some (3, (a :: l).length, valOf (a :: l)) := by
      unfold wordOf
      rw [if_neg (by show ¬ beginB a = true; rw [hk]; decide), if_pos (by show digitB a = true; exact ha)]
      unfold numberOf
      rw [hd, if_pos h15, List.take_left]
    rw [s0]
    refine runs_mk_word _ 0 (by simp) _ _ _ (by rw [List.drop_zero]; exact hw) _ _ ?_
    have s1 : skipTo (a :: l ++ [120]) (0 + (a :: l).length) = (a :: l).length := by
      unfold skipTo
      rw [Nat.zero_add, List.drop_left]
      rfl
    rw [s1]
    refine runs_mk_word _ _ (by simp) 1 1 0 (by rw [List.drop_left]; rfl) _ _ ?_
    exact runs_mk_stop _ _ (by have := skipTo_ge (a :: l ++ [120]) ((a :: l).length + 1); simp at this ⊢; omega)
theorem num_bad (l : List UInt8) (h : allDig l) (h15 : 15 < l.length) : Runs (l ++ [120]) (skipTo (l ++ [120]) 0) [] (some 0) := by
  match l, h, h15 with
  | a :: l, h, h15 =>
    have ha := h a (by simp)
    have hd := digLen_all (a :: l) h 120 (by rfl) []
    have hn := (digitB_iff a).1 ha
    have h1 : blankB a = false := by simp [blankB]; omega
    have h2 : (a == 45) = false := by
      rw [beq_eq_false_iff_ne]
      rintro rfl
      simp [digitB] at ha
    have hk : beginB a = false := by
      have h2 : ¬ a = 95 := by
        rintro rfl
        simp [digitB] at ha
      simp [beginB, greatB]; omega
    have s0 : skipTo (a :: l ++ [120]) 0 = 0 := by
      unfold skipTo
      rw [List.drop_zero, List.cons_append]
      simp [sk, h1, h2]
    have hw : wordOf (a :: l ++ [120]) = none := by
      unfold wordOf
      rw [if_neg (by show ¬ beginB a = true; rw [hk]; decide), if_pos (by show digitB a = true; exact ha)]
      unfold numberOf
      rw [hd, if_neg (by omega)]
    rw [s0]
    exact runs_mk_bad _ 0 (by simp) (by rw [List.drop_zero]; exact hw)
end Go.Proofs.YtnlpilceooncmaaDoor
