import Derived.Test.YtnlpilceooncmaaDoorRunsMk
namespace Go.Proofs.YtnlpilceooncmaaDoor

/-- The signs of the law's names. -/
def patB (i : Nat) : UInt8 := match i % 7 with
  | 0 => 97 | 1 => 98 | 2 => 90 | 3 => 57 | 4 => 95 | 5 => 39 | _ => 120
def nmTail : Nat → Nat → List UInt8
  | _, 0 => []
  | i, m + 1 => patB i :: nmTail (i + 1) m
/-- The law's name of m + 1 signs. -/
def nm (g : Bool) (m : Nat) : List UInt8 := (if g then 81 else 113) :: nmTail 1 m
def nmK (g : Bool) : Int := if g then 2 else 1
theorem nmTail_snoc (i m : Nat) : nmTail i (m + 1) = nmTail i m ++ [patB (i + m)] := by
  induction m generalizing i with
  | zero => rfl
  | succ m ih =>
    rw [nmTail, ih (i + 1)]
    simp [nmTail]
    congr 1; omega
theorem nm_snoc (g : Bool) (m : Nat) : nm g (m + 1) = nm g m ++ [patB (m + 1)] := by
  unfold nm
  rw [nmTail_snoc]
  simp [Nat.add_comm]
theorem nmTail_length (i m : Nat) : (nmTail i m).length = m := by
  induction m generalizing i with
  | zero => rfl
  | succ m ih => simp [nmTail, ih]
theorem nm_length (g : Bool) (m : Nat) : (nm g m).length = m + 1 := by simp [nm, nmTail_length]
theorem patB_inner (i : Nat) : innerB (patB i) = true := by
  have h : i % 7 < 7 := Nat.mod_lt _ (by decide)
  unfold patB
  generalize i % 7 = j at h
  match j, h with
  | 0, _ => rfl
  | 1, _ => rfl
  | 2, _ => rfl
  | 3, _ => rfl
  | 4, _ => rfl
  | 5, _ => rfl
  | 6, _ => rfl
  | n + 7, h => omega
theorem nmTail_inner (i m : Nat) (c : UInt8) (r : List UInt8) (hc : innerB c = false) : innerLen (nmTail i m ++ c :: r) = m := by
  induction m generalizing i with
  | zero => simp [nmTail, innerLen, hc]
  | succ m ih => simp [nmTail, innerLen, patB_inner, ih]
theorem nmTail_inner0 (i m : Nat) : innerLen (nmTail i m) = m := by
  induction m generalizing i with
  | zero => rfl
  | succ m ih => simp [nmTail, innerLen, patB_inner, ih]
theorem nm_begin (g : Bool) : beginB (if g then 81 else 113) = true := by cases g <;> rfl
theorem nm_nameLen (g : Bool) (m : Nat) : nameLen (nm g m) = m + 1 := by
  unfold nm
  rw [nameLen, if_pos (nm_begin g), nmTail_inner0]
theorem nm_nameLen' (g : Bool) (m : Nat) (r : List UInt8) : nameLen (nm g m ++ 32 :: r) = m + 1 := by
  unfold nm
  rw [List.cons_append, nameLen, if_pos (nm_begin g), nmTail_inner _ _ _ _ (by rfl)]
theorem nm_kind (g : Bool) (m : Nat) : kindOf (nm g m) = if 40 ≤ m then 0 else nmK g := by
  by_cases h : 40 ≤ m
  · rw [if_pos h, kindOf_none _ (by rw [nm_nameLen]; omega)]
  · have hw : ¬ (nm g m = [95] ∨ nm g m ∈ wordsL) := by
      unfold nm wordsL
      cases g <;> simp
    rw [if_neg h, kindOf_name _ (by rw [nm_nameLen, nm_length]; omega) hw (by rw [nm_length]; omega)]
    cases g <;> rfl
theorem nm_skip (g : Bool) (m : Nat) (r : List UInt8) : skipTo (nm g m ++ r) 0 = 0 := by
  unfold skipTo nm
  cases g <;> simp [sk, blankB]
theorem nm_word (g : Bool) (m : Nat) (r : List UInt8) (hr : r = [] ∨ ∃ q, r = 32 :: q) : wordOf (nm g m ++ r) = if 40 ≤ m then none else some (nmK g, m + 1, 0) := by
  have hl : nameLen (nm g m ++ r) = m + 1 := by
    rcases hr with rfl | ⟨q, rfl⟩
    · rw [List.append_nil, nm_nameLen]
    · exact nm_nameLen' g m q
  have ht : (nm g m ++ r).take (m + 1) = nm g m := by
    rw [← nm_length g m, List.take_left]
  have hb : beginB ((nm g m ++ r).headD 0) = true := nm_begin g
  unfold wordOf
  rw [if_pos hb]
  unfold nameOf
  rw [hl, ht, nm_kind]
  by_cases h : 40 ≤ m
  · simp [h]
  · cases g <;> simp [h, nmK]
/-- The name alone. -/
theorem nm_runs (g : Bool) (m : Nat) (h : m < 40) : Runs (nm g m) (skipTo (nm g m) 0) [⟨nmK g, 0, m + 1, 0⟩] none := by
  have s0 := nm_skip g m []
  have w0 := nm_word g m [] (.inl rfl)
  rw [List.append_nil] at s0 w0
  rw [s0]
  refine runs_mk_word _ 0 (by rw [nm_length]; omega) _ _ _ (by rw [List.drop_zero, w0, if_neg (by omega)]) _ _ ?_
  have hge := skipTo_ge (nm g m) (0 + (m + 1))
  exact runs_mk_stop _ _ (by rw [nm_length]; omega)
theorem nm_bad (g : Bool) (m : Nat) (h : 40 ≤ m) : Runs (nm g m) (skipTo (nm g m) 0) [] (some 0) := by
  have s0 := nm_skip g m []
  have w0 := nm_word g m [] (.inl rfl)
  rw [List.append_nil] at s0 w0
  rw [s0]
  exact runs_mk_bad _ 0 (by rw [nm_length]; omega) (by rw [List.drop_zero, w0, if_pos h])
/-- The name, a blank and a sign. -/
theorem nm_runs2 (g : Bool) (m : Nat) (h : m < 40) (c : UInt8) : ∃ ts er, Runs (nm g m ++ [32, c]) (skipTo (nm g m ++ [32, c]) 0) (⟨nmK g, 0, m + 1, 0⟩ :: ts) er := by
  rw [nm_skip]
  exact ⟨_, _, runs_mk_word _ 0 (by simp) _ _ _ (by rw [List.drop_zero, nm_word g m _ (.inr ⟨_, rfl⟩), if_neg (by omega)]) _ _ (runs_some _ _)⟩
end Go.Proofs.YtnlpilceooncmaaDoor
