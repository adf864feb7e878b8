/- A region that draws its order and ends with a store: all but its last operation by an invariant, the last one when all else has come up. -/
import Derived.Test.YtmbaolcdjgilpaaRegInv
namespace Go.Proofs.Ytmbaolcdjgilpaa

section
variable {P : Program} {ops : Array Oper} {Q : Exit → Act → World → Prop} {fr : (Nat → Value) → Act} {S : World → Prop} {Rel : World → World → Prop} {Vals : Nat → Value → World → Prop} {s : Nat}

theorem getD_tt {l : Array Bool} {j : Nat} (h : l.getD j false = true) : l.getD j true = true := by
  by_cases hj : j < l.size
  · simp [hj] at h ⊢; exact h
  · simp [hj]
/-- Where operation s can come up, all ahead of it have. -/
theorem all_ahead {listed : Array Bool} (hcov : ∀ i, i < s → ∃ j o e, i < j ∧ j ≤ s ∧ ops[j]? = some o ∧ e ∈ o.after ∧ Region.binds .any e = true ∧ e.on = i)
    (hcl : ∀ j o, listed.getD j false = true → ops[j]? = some o → ∀ e ∈ o.after, Region.binds .any e = true → listed.getD e.on false = true)
    (hs : ∀ o, ops[s]? = some o → ∀ e ∈ o.after, Region.binds .any e = true → listed.getD e.on false = true) : ∀ n i, i + n = s → 0 < n → listed.getD i false = true := by
  intro n
  induction n using Nat.strongRecOn with
  | ind n ih =>
    intro i hi hn
    obtain ⟨j, o, e, hij, hjs, ho, he, hb, rfl⟩ := hcov i (by omega)
    by_cases hj : j = s
    · subst hj; exact hs o ho e he hb
    · exact hcl j o (ih (s - j) (by omega) j (by omega) (by omega)) ho e he hb

theorem last_any (hsz : ops.size = s + 1) (hput : ∀ i o, i < s → ops[i]? = some o → StepAt P fr S Rel Vals ops Q i o)
    (hbs : ∀ o, ops[s]? = some o → ∀ e ∈ o.after, Region.binds .any e = true → e.on < s)
    (hcov : ∀ i, i < s → ∃ j o e, i < j ∧ j ≤ s ∧ ops[j]? = some o ∧ e ∈ o.after ∧ Region.binds .any e = true ∧ e.on = i)
    (hrel : ∀ w w', S w → Rel w w' → S w') (hval : ∀ i v w w', S w → Vals i v w → Rel w w' → Vals i v w')
    (hlast : ∀ o x w, ops[s]? = some o → S w → (∀ i, i < s → Vals i (x i) w) → ∀ K : Act → World → Prop, (∀ v w', Q .normal ((fr x).put o.dst v) w' → K ((fr x).put o.dst v) w') →
      if Region.wanted o (yielded ops (fr x).tmps) = true then Oper.wp P o (fr x) w K Q else K ((fr x).put o.dst undef) w) :
    ∀ (fuel : Nat) (listed : Array Bool) (x : Nat → Value) (w : World), listed.size = ops.size → ops.size ≤ fuel + listed.toList.count true → S w → listed.getD s false = false →
      (∀ j o, listed.getD j false = true → ops[j]? = some o → ∀ e ∈ o.after, Region.binds .any e = true → listed.getD e.on false = true) →
      (∀ i, listed.getD i false = true → Vals i (x i) w) → wpAny P .any ops Q fuel listed (fr x) w := by
  have hback : ∀ i o, ops[i]? = some o → ∀ e ∈ o.after, Region.binds .any e = true → e.on < i := fun i o ho => by
    have hi : i < s + 1 := by rw [← hsz]; exact (Array.getElem?_eq_some_iff.1 ho).1
    by_cases e : i = s
    · subst e; exact hbs o ho
    · exact (hput i o (by omega) ho).back
  have hend : ∀ (listed : Array Bool), listed.size = ops.size → listed.getD s false = false → Region.ready .any ops listed = [] → False := fun listed hz h0 h => by
    have := all_of_none hback hz h s (by omega)
    rw [h0] at this; cases this
  intro fuel
  induction fuel with
  | zero =>
    intro listed x w hz hc hS h0 hcl hV
    have hall : listed.toList.count true = listed.toList.length := by
      have := List.count_le_length (a := true) (l := listed.toList)
      simp at this hc ⊢; omega
    have hlt : s < listed.size := by omega
    have := List.count_eq_length.1 hall listed[s] (by simp)
    simp [hlt] at h0
    rw [h0] at this; cases this
  | succ fuel ih =>
    intro listed x w hz hc hS h0 hcl hV
    refine ⟨fun h => (hend listed hz h0 h).elim, fun i hi => ?_⟩
    obtain ⟨hi0, o, ho, hdep⟩ := mem_ready.1 hi
    have hlt : i < listed.size := by rw [hz]; exact (Array.getElem?_eq_some_iff.1 ho).1
    have hi0' : listed[i] = false := by simpa [hlt] using hi0
    have hsetD : ∀ j, (listed.setIfInBounds i true).getD j false = true → j = i ∨ listed.getD j false = true := fun j hj => by
      by_cases hji : j = i
      · exact .inl hji
      · rw [getD_set_ne false (Ne.symm hji)] at hj; exact .inr hj
    have hsetI : (listed.setIfInBounds i true).getD i false = true := by simp [hlt]
    have hmono : ∀ j, listed.getD j false = true → (listed.setIfInBounds i true).getD j false = true := fun j hj => by
      by_cases hji : j = i
      · subst hji; exact hsetI
      · rw [getD_set_ne false (Ne.symm hji)]; exact hj
    by_cases his : i = s
    · subst his
      have hK : ∀ v w', Q .normal ((fr x).put o.dst v) w' → wpAny P .any ops Q fuel (listed.setIfInBounds i true) ((fr x).put o.dst v) w' := fun v w' hq => by
        have hnone : Region.ready .any ops (listed.setIfInBounds i true) = [] := by
          cases h : Region.ready .any ops (listed.setIfInBounds i true) with
          | nil => rfl
          | cons j l =>
            have hj : j ∈ Region.ready .any ops (listed.setIfInBounds i true) := by rw [h]; simp
            obtain ⟨hj0, oj, hoj, _⟩ := mem_ready.1 hj
            have hjl : j < i + 1 := by rw [← hsz]; exact (Array.getElem?_eq_some_iff.1 hoj).1
            by_cases e : j = i
            · subst e; rw [getD_tt hsetI] at hj0; cases hj0
            · have := hmono j (all_ahead hcov hcl (fun o' ho' => by rw [ho] at ho'; cases ho'; exact hdep) (i - j) j (by omega) (by omega))
              rw [getD_tt this] at hj0; cases hj0
        cases fuel with
        | zero => exact ⟨hnone, hq⟩
        | succ fuel => exact ⟨fun _ => hq, fun j hj => by rw [hnone] at hj; cases hj⟩
      have := hlast o x w ho hS (fun j hj => hV j (all_ahead hcov hcl (fun o' ho' => by rw [ho] at ho'; cases ho'; exact hdep) (i - j) j (by omega) (by omega))) _ hK
      unfold wpOp
      simp only [ho]
      split
      · rename_i hw; rw [if_pos hw] at this; exact .inl this
      · rename_i hw; rw [if_neg hw] at this; exact this
    · have hil : i < s := by omega
      have H := hput i o hil ho
      have hK : ∀ v w', Rel w w' → Vals i v w' → wpAny P .any ops Q fuel (listed.setIfInBounds i true) ((fr x).put o.dst v) w' := fun v w' hr hv => by
        rw [H.put]
        refine ih _ _ _ (by simpa using hz) ?_ (hrel w w' hS hr) (by rw [getD_set_ne false his]; exact h0) (fun j oj hj hoj e he hb => ?_) fun j hj => ?_
        · have : (listed.setIfInBounds i true).toList.count true = listed.toList.count true + 1 := by
            rw [Array.toList_setIfInBounds, List.count_set (by simpa using hlt)]
            simp [hi0']
          omega
        · rcases hsetD j hj with rfl | hj'
          · rw [ho] at hoj; cases hoj
            exact hmono _ (hdep e he hb)
          · exact hmono _ (hcl j oj hj' hoj e he hb)
        · by_cases hji : j = i
          · subst hji; rw [upd_same]; exact hv
          · rw [upd_other x v hji]
            exact hval _ _ _ _ hS (hV j (by rw [getD_set_ne false (Ne.symm hji)] at hj; exact hj)) hr
      have := H.run x w hS (fun e he hb => hV e.on (hdep e he hb)) _ hK
      unfold wpOp
      simp only [ho]
      split
      · rename_i hw; rw [if_pos hw] at this; exact .inl this
      · rename_i hw; rw [if_neg hw] at this; exact this

/-- Each operation ahead of the last is asked for by a later one. -/
def covered (ops : Array Oper) (s : Nat) : Bool := (List.range s).all fun i => (List.range (s + 1)).any fun j => decide (i < j) && (match ops[j]? with
  | some o => o.after.any fun e => Region.binds .any e && e.on == i
  | none => false)
theorem covered_get (h : covered ops s = true) : ∀ i, i < s → ∃ j o e, i < j ∧ j ≤ s ∧ ops[j]? = some o ∧ e ∈ o.after ∧ Region.binds .any e = true ∧ e.on = i := by
  intro i hi
  unfold covered at h
  rw [List.all_eq_true] at h
  have h1 := h i (List.mem_range.2 hi)
  rw [List.any_eq_true] at h1
  obtain ⟨j, hj, h2⟩ := h1
  rw [Bool.and_eq_true, decide_eq_true_eq] at h2
  cases ho : ops[j]? with
  | none => rw [ho] at h2; exact absurd h2.2 (by simp)
  | some o =>
    rw [ho] at h2
    have h3 := h2.2
    simp only at h3
    rw [Array.any_eq_true'] at h3
    obtain ⟨e, he, h4⟩ := h3
    rw [Bool.and_eq_true, beq_iff_eq] at h4
    exact ⟨j, o, e, h2.1, by have := List.mem_range.1 hj; omega, ho, he, h4.1, h4.2⟩

/-- What is asked of all but the last operation, and of the last. -/
def AllBut (f : Nat → Oper → Prop) (g : Oper → Prop) : Nat → List Oper → Prop
  | _, [] => True
  | _, [o] => g o
  | n, o :: o' :: os => f n o ∧ AllBut f g (n + 1) (o' :: os)
theorem AllBut.get {f : Nat → Oper → Prop} {g : Oper → Prop} : ∀ {l : List Oper} {n : Nat}, AllBut f g n l → ∀ {i : Nat} {o : Oper}, l[i]? = some o → (i + 1 < l.length → f (n + i) o) ∧ (i + 1 = l.length → g o)
  | [], _, _, i, o, h => by simp at h
  | [a], n, hl, 0, o, h => by simp at h; subst h; exact ⟨fun h => by simp at h, fun _ => hl⟩
  | [a], n, hl, i + 1, o, h => by simp at h
  | a :: b :: l, n, hl, 0, o, h => by simp at h; subst h; exact ⟨fun _ => hl.1, fun h => by simp at h⟩
  | a :: b :: l, n, hl, i + 1, o, h => by
    obtain ⟨h1, h2⟩ := AllBut.get hl.2 (i := i) (o := o) (by simpa using h)
    refine ⟨fun hi => ?_, fun hi => h2 (by simpa using hi)⟩
    have := h1 (by simpa using hi)
    rw [show n + (i + 1) = n + 1 + i by omega]; exact this

/-- What is asked of the last operation. -/
structure LastAt (P : Program) (fr : (Nat → Value) → Act) (S : World → Prop) (Vals : Nat → Value → World → Prop) (ops : Array Oper) (Q : Exit → Act → World → Prop) (s : Nat) (o : Oper) : Prop where
  back : ∀ e ∈ o.after, Region.binds .any e = true → e.on < s
  run : ∀ (x : Nat → Value) (w : World), S w → (∀ i, i < s → Vals i (x i) w) → ∀ K : Act → World → Prop, (∀ v w', Q .normal ((fr x).put o.dst v) w' → K ((fr x).put o.dst v) w') →
      if Region.wanted o (yielded ops (fr x).tmps) = true then Oper.wp P o (fr x) w K Q else K ((fr x).put o.dst undef) w

theorem region_last (fr : (Nat → Value) → Act) (S : World → Prop) (Rel : World → World → Prop) (Vals : Nat → Value → World → Prop) (x0 : Nat → Value) (s : Nat) {id : Nat} {a : Act} {w : World}
    (hm : P.follows .mixedOrders = true) (ha : a = fr x0) (hS : S w.drew) (hsz : ops.size = s + 1) (hcov : covered ops s = true)
    (hrel : ∀ w w', S w → Rel w w' → S w') (hval : ∀ i v w w', S w → Vals i v w → Rel w w' → Vals i v w')
    (hops : AllBut (StepAt P fr S Rel Vals ops Q) (LastAt P fr S Vals ops Q s) 0 ops.toList) : (Code.region id ops true).wp P Q a w := by
  subst ha
  refine wp_region_any hm ?_
  have hg := fun (i : Nat) (o : Oper) (h : ops[i]? = some o) => hops.get (i := i) (o := o) (by simpa using h)
  refine last_any hsz (fun i o hi h => ?_) (fun o h => ?_) (covered_get hcov) hrel hval (fun o x w h hS hV K hK => ?_) _ _ _ _ (by simp) (by simp) hS (by simp [hsz]) (fun j o hj => ?_) (fun i hi => ?_)
  · have := (hg i o h).1 (by simp [hsz]; omega); rwa [Nat.zero_add] at this
  · exact ((hg s o h).2 (by simp [hsz])).back
  · exact ((hg s o h).2 (by simp [hsz])).run x w hS hV K hK
  · by_cases h : j < ops.size
    · simp [h] at hj
    · simp [h] at hj
  · by_cases h : i < ops.size
    · simp [h] at hi
    · simp [h] at hi
end
end Go.Proofs.Ytmbaolcdjgilpaa
