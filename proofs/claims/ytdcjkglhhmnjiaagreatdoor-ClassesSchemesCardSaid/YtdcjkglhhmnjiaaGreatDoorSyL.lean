/- Regions that draw their order: one order stands for all. -/
import Derived.Test.YtdcjkglhhmnjiaaGreatDoorSyV
namespace Go.Proofs.YtdcjkglhhmnjiaaGreatDoor.Sx
noncomputable section

/-- what waits for what, whether at once or by others -/
inductive Bef (ops : Array Oper) : Nat → Nat → Prop where
  | edge {i : Nat} {o : Oper} {e : Edge} (h : ops[i]? = some o) (he : e ∈ o.after) (hb : Region.binds .any e = true) : Bef ops i e.on
  | trans {i j k : Nat} (h : Bef ops i j) (hk : Bef ops j k) : Bef ops i k

def maskOf (t : Tr Nat) (o : Oper) : Nat :=
  o.after.toList.foldl (fun m e => bif Region.binds .any e then Nat.lor m (Nat.lor (Nat.pow 2 e.on) ((t.get dep e.on).getD 0)) else m) 0
def masks : List Oper → Nat → Tr Nat → Tr Nat
  | [], _, t => t
  | o :: os, i, t => masks os (Nat.succ i) (t.set dep i (some (maskOf t o)))
def bit (t : Tr Nat) (i j : Nat) : Bool := Nat.testBit ((t.get dep i).getD 0) j

theorem fold_bit (t : Tr Nat) (q : Nat) : ∀ (l : List Edge) (m : Nat), Nat.testBit (l.foldl (fun m e => bif Region.binds .any e then Nat.lor m (Nat.lor (Nat.pow 2 e.on) ((t.get dep e.on).getD 0)) else m) m) q = true →
    Nat.testBit m q = true ∨ ∃ e ∈ l, Region.binds .any e = true ∧ (q = e.on ∨ bit t e.on q = true) := by
  intro l
  induction l with
  | nil => intro m h; exact .inl h
  | cons e l ih =>
    intro m h
    rw [List.foldl_cons] at h
    rcases ih _ h with h1 | ⟨e', h1, h2, h3⟩
    · cases hb : Region.binds .any e with
      | false => rw [hb] at h1; exact .inl h1
      | true =>
        rw [hb] at h1
        simp only [cond_true] at h1
        have h2 : (m ||| (2 ^ e.on ||| (t.get dep e.on).getD 0)).testBit q = true := h1
        rw [Nat.testBit_or, Nat.testBit_or, Nat.testBit_two_pow] at h2
        simp only [Bool.or_eq_true, decide_eq_true_eq] at h2
        rcases h2 with h2 | h2 | h2
        · exact .inl h2
        · exact .inr ⟨e, by simp, hb, .inl h2.symm⟩
        · exact .inr ⟨e, by simp, hb, .inr h2⟩
    · exact .inr ⟨e', by simp [h1], h2, h3⟩

theorem masks_bef (ops : Array Oper) (hsz : ops.size < most) : ∀ (l : List Oper) (i : Nat) (t : Tr Nat), ops.toList.drop i = l → (∀ j q, bit t j q = true → Bef ops j q) → ∀ j q, bit (masks l i t) j q = true → Bef ops j q := by
  intro l
  induction l with
  | nil => intro i t _ h j q; exact h j q
  | cons o l ih =>
    intro i t hl h j q hq
    rw [masks] at hq
    have hi : ops[i]? = some o := by
      have : (ops.toList.drop i)[0]? = some o := by rw [hl]; rfl
      simpa using this
    refine ih (i + 1) _ (by rw [← List.drop_drop, hl]; rfl) (fun j q hb => ?_) j q hq
    by_cases e : j = i
    · subst e
      unfold bit at hb
      have hlt : j < most := Nat.lt_trans (Array.getElem?_eq_some_iff.1 hi).1 hsz
      have h1 : (t.set dep j (some (maskOf t o))).get dep j = some (maskOf t o) := Tr.get_set_same 40 _ _ _ hlt
      rw [h1] at hb
      rcases fold_bit t q o.after.toList 0 hb with h2 | ⟨e, h2, h3, h4⟩
      · simp at h2
      · have he := Bef.edge (ops := ops) hi (Array.mem_toList_iff.1 h2) h3
        rcases h4 with rfl | h4
        · exact he
        · exact he.trans (h _ _ h4)
    · refine h j q ?_
      unfold bit at hb ⊢
      rw [Tr.get_set_other _ _ _ _ _ e] at hb
      exact hb

/-- the variables that an operation reads -/
def tmpsOf (ops : Array Oper) (o : Oper) : List Nat :=
  (o.op.operands.toList.filterMap fun
    | .tmp t => some t
    | _ => none) ++ (guardTmp ops o).toList

def okDraw (P : Program) (ops : Array Oper) : Bool :=
  let l := ops.toList.zipIdx
  let m := masks ops.toList 0 .nil
  let acts := l.filter fun x => isDeed P x.1.op
  Nat.blt l.length most &&
  l.all (fun x => x.1.after.all fun e => !Region.binds .any e || Nat.blt e.on x.2) &&
  acts.all (fun x => acts.all fun y => !Nat.blt x.2 y.2 || bit m y.2 x.2) &&
  l.all fun x => match x.1.dst with
    | none => true
    | some t => l.all fun y => Nat.beq x.2 y.2 || (!(y.1.dst == some t) && (!((tmpsOf ops y.1).contains t) || bit m y.2 x.2 || bit m x.2 y.2))

structure Drawn (P : Program) (ops : Array Oper) : Prop where
  back : ∀ (i : Nat) (o : Oper), ops[i]? = some o → ∀ e ∈ o.after, Region.binds .any e = true → e.on < i
  acts : ∀ (i j : Nat) (oi oj : Oper), ops[i]? = some oi → ops[j]? = some oj → isDeed P oi.op = true → isDeed P oj.op = true → i < j → Bef ops j i
  dst : ∀ (i j : Nat) (oi oj : Oper) (t : Nat), ops[i]? = some oi → ops[j]? = some oj → oi.dst = some t → oj.dst = some t → i = j
  reads : ∀ (i j : Nat) (oi oj : Oper) (t : Nat), ops[i]? = some oi → ops[j]? = some oj → oi.dst = some t → i ≠ j → t ∈ tmpsOf ops oj → Bef ops j i ∨ Bef ops i j

theorem mem_zip {ops : Array Oper} {i : Nat} {o : Oper} (h : ops[i]? = some o) : (o, i) ∈ ops.toList.zipIdx := by
  rw [List.mem_zipIdx_iff_getElem?]; simpa using h

theorem okDraw_drawn {P : Program} {ops : Array Oper} (h : okDraw P ops = true) : Drawn P ops := by
  unfold okDraw at h
  simp only [Bool.and_eq_true, List.all_eq_true, List.mem_filter] at h
  obtain ⟨⟨⟨h0, h1⟩, h2⟩, h3⟩ := h
  have hsz : ops.size < most := by have := unblt h0; simpa using this
  have hm : ∀ j q, bit (masks ops.toList 0 .nil) j q = true → Bef ops j q := masks_bef ops hsz ops.toList 0 .nil rfl (fun j q h => by unfold bit at h; rw [get_nil] at h; simp at h)
  refine ⟨fun i o hi e he hb => ?_, fun i j oi oj hi hj ai aj hlt => ?_, fun i j oi oj t hi hj di dj => ?_, fun i j oi oj t hi hj di hne ht => ?_⟩
  · have := h1 (o, i) (mem_zip hi)
    dsimp only at this
    rw [Array.all_eq_true_iff_forall_mem] at this
    have := this e he
    rw [hb] at this
    exact unblt (by simpa using this)
  · have := h2 (oi, i) ⟨mem_zip hi, ai⟩ (oj, j) ⟨mem_zip hj, aj⟩
    dsimp only at this
    rw [show Nat.blt i j = true from Nat.ble_eq_true_of_le hlt] at this
    exact hm _ _ (by simpa using this)
  · have := h3 (oi, i) (mem_zip hi)
    dsimp only at this
    rw [di] at this
    dsimp only at this
    rw [List.all_eq_true] at this
    have := this (oj, j) (mem_zip hj)
    dsimp only at this
    rw [dj] at this
    simp at this
    exact this
  · have := h3 (oi, i) (mem_zip hi)
    dsimp only at this
    rw [di] at this
    dsimp only at this
    rw [List.all_eq_true] at this
    have := this (oj, j) (mem_zip hj)
    dsimp only at this
    have hne' : Nat.beq i j = false := by
      cases hb : Nat.beq i j with
      | false => rfl
      | true => exact absurd (Nat.eq_of_beq_eq_true hb) hne
    rw [hne'] at this
    have hc : (tmpsOf ops oj).contains t = true := by simpa using ht
    rw [hc] at this
    simp only [Bool.false_or, Bool.and_eq_true, Bool.not_true, Bool.or_eq_true] at this
    rcases this.2 with h | h
    · exact .inl (hm _ _ h)
    · exact .inr (hm _ _ h)
end
end Go.Proofs.YtdcjkglhhmnjiaaGreatDoor.Sx
