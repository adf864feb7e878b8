/- A region that draws its order, by an invariant and a mark: what holds between some of its operations alone (a row that one makes and another takes). -/
import Derived.Test.YtlpifioneafciaaRegInv
namespace Go.Proofs.Ytlpifioneafciaa

def updB (L : Nat → Bool) (i : Nat) : Nat → Bool := fun j => if j = i then true else L j
theorem updB_same (L : Nat → Bool) (i : Nat) : updB L i i = true := by simp [updB]
theorem updB_other (L : Nat → Bool) {i j : Nat} (h : j ≠ i) : updB L i j = L j := by simp [updB, h]

/-- What is asked of an operation that the mark speaks of. -/
structure MarkAt (P : Program) (fr : (Nat → Value) → Act) (S : World → Prop) (Vals : Nat → Value → World → Prop) (Mk : (Nat → Bool) → (Nat → Value) → World → Prop)
    (ops : Array Oper) (Q : Exit → Act → World → Prop) (i : Nat) (o : Oper) : Prop where
  back : ∀ e ∈ o.after, Region.binds .any e = true → e.on < i
  put : ∀ x v, (fr x).put o.dst v = fr (upd x i v)
  run : ∀ (L : Nat → Bool) (x : Nat → Value) (w : World), S w → (∀ j, L j = true → Vals j (x j) w) → Mk L x w → L i = false → (∀ e ∈ o.after, Region.binds .any e = true → L e.on = true) →
    ∀ K : Act → World → Prop, (∀ v w', S w' → (∀ j, L j = true → Vals j (x j) w') → Vals i v w' → Mk (updB L i) (upd x i v) w' → K ((fr x).put o.dst v) w') →
      if Region.wanted o (yielded ops (fr x).tmps) = true then Oper.wp P o (fr x) w K Q else K ((fr x).put o.dst undef) w

section
variable {P : Program} {ops : Array Oper} {Q : Exit → Act → World → Prop} {fr : (Nat → Value) → Act} {S : World → Prop} {Rel : World → World → Prop} {Vals : Nat → Value → World → Prop} {Mk : (Nat → Bool) → (Nat → Value) → World → Prop} {sp : Nat → Bool}

theorem mark_any (hput : ∀ i o, ops[i]? = some o → sp i = false → StepAt P fr S Rel Vals ops Q i o) (hmark : ∀ i o, ops[i]? = some o → sp i = true → MarkAt P fr S Vals Mk ops Q i o)
    (hrel : ∀ w w', S w → Rel w w' → S w') (hval : ∀ i v w w', S w → Vals i v w → Rel w w' → Vals i v w') (hmk : ∀ i L x v w w', sp i = false → S w → Mk L x w → Rel w w' → Mk (updB L i) (upd x i v) w')
    (hfin : ∀ L x w, S w → (∀ i, i < ops.size → L i = true ∧ Vals i (x i) w) → Mk L x w → Q .normal (fr x) w) :
    ∀ (fuel : Nat) (listed : Array Bool) (x : Nat → Value) (w : World), listed.size = ops.size → ops.size ≤ fuel + listed.toList.count true → S w →
      (∀ i, listed.getD i false = true → Vals i (x i) w) → Mk (fun i => listed.getD i false) x w → wpAny P .any ops Q fuel listed (fr x) w := by
  have hback : ∀ i o, ops[i]? = some o → ∀ e ∈ o.after, Region.binds .any e = true → e.on < i := fun i o h => by
    cases hs : sp i with
    | false => exact (hput i o h hs).back
    | true => exact (hmark i o h hs).back
  have hend : ∀ (listed : Array Bool) (x : Nat → Value) (w : World), listed.size = ops.size → S w → (∀ i, listed.getD i false = true → Vals i (x i) w) → Mk (fun i => listed.getD i false) x w →
      Region.ready .any ops listed = [] → Q .normal (fr x) w := fun listed x w hz hS hV hM h =>
    hfin _ x w hS (fun i hi => ⟨all_of_none hback hz h i hi, hV i (all_of_none hback hz h i hi)⟩) hM
  intro fuel
  induction fuel with
  | zero =>
    intro listed x w hz hc hS hV hM
    have hall : listed.toList.count true = listed.toList.length := by
      have := List.count_le_length (a := true) (l := listed.toList)
      simp at this hc ⊢; omega
    have hr : Region.ready .any ops listed = [] := by
      cases h : Region.ready .any ops listed with
      | nil => rfl
      | cons i l =>
        have hi : i ∈ Region.ready .any ops listed := by rw [h]; simp
        obtain ⟨h0, o, ho, _⟩ := mem_ready.1 hi
        have hlt : i < listed.size := by rw [hz]; exact (Array.getElem?_eq_some_iff.1 ho).1
        have := List.count_eq_length.1 hall listed[i] (by simp)
        simp [hlt] at h0
        rw [h0] at this; cases this
    exact ⟨hr, hend listed x w hz hS hV hM hr⟩
  | succ fuel ih =>
    intro listed x w hz hc hS hV hM
    refine ⟨hend listed x w hz hS hV hM, fun i hi => ?_⟩
    obtain ⟨h0, o, ho, hdep⟩ := mem_ready.1 hi
    have hlt : i < listed.size := by rw [hz]; exact (Array.getElem?_eq_some_iff.1 ho).1
    have h0' : listed[i] = false := by simpa [hlt] using h0
    have hcnt : ops.size ≤ fuel + (listed.setIfInBounds i true).toList.count true := by
      have : (listed.setIfInBounds i true).toList.count true = listed.toList.count true + 1 := by
        rw [Array.toList_setIfInBounds, List.count_set (by simpa using hlt)]
        simp [h0']
      omega
    have hL : (fun j => (listed.setIfInBounds i true).getD j false) = updB (fun j => listed.getD j false) i := by
      funext j
      by_cases e : j = i
      · subst e; rw [updB_same]; simp [hlt]
      · rw [updB_other _ e, getD_set_ne false (Ne.symm e)]
    have hVs : ∀ v w', (∀ j, listed.getD j false = true → Vals j (x j) w') → Vals i v w' → ∀ j, (listed.setIfInBounds i true).getD j false = true → Vals j (upd x i v j) w' := fun v w' h1 h2 j hj => by
      by_cases hji : j = i
      · subst hji; rw [upd_same]; exact h2
      · rw [upd_other x v hji]
        exact h1 j (by rw [getD_set_ne false (Ne.symm hji)] at hj; exact hj)
    cases hs : sp i with
    | false =>
      have H := hput i o ho hs
      have hK : ∀ v w', Rel w w' → Vals i v w' → wpAny P .any ops Q fuel (listed.setIfInBounds i true) ((fr x).put o.dst v) w' := fun v w' hr hv => by
        rw [H.put]
        exact ih _ _ _ (by simpa using hz) hcnt (hrel w w' hS hr) (hVs v w' (fun j hj => hval _ _ _ _ hS (hV j hj) hr) hv) (by rw [hL]; exact hmk i _ x v w w' hs hS hM hr)
      have := H.run x w hS (fun e he hb => hV e.on (hdep e he hb)) _ hK
      unfold wpOp
      simp only [ho]
      split
      · rename_i hw; rw [if_pos hw] at this; exact .inl this
      · rename_i hw; rw [if_neg hw] at this; exact this
    | true =>
      have H := hmark i o ho hs
      have hK : ∀ v w', S w' → (∀ j, listed.getD j false = true → Vals j (x j) w') → Vals i v w' → Mk (updB (fun j => listed.getD j false) i) (upd x i v) w' → wpAny P .any ops Q fuel (listed.setIfInBounds i true) ((fr x).put o.dst v) w' := fun v w' hS' hV' hv hM' => by
        rw [H.put]
        exact ih _ _ _ (by simpa using hz) hcnt hS' (hVs v w' hV' hv) (by rw [hL]; exact hM')
      have := H.run (fun j => listed.getD j false) x w hS hV hM (by simp [hlt, h0']) hdep _ hK
      unfold wpOp
      simp only [ho]
      split
      · rename_i hw; rw [if_pos hw] at this; exact .inl this
      · rename_i hw; rw [if_neg hw] at this; exact this

theorem region_mark (fr : (Nat → Value) → Act) (S : World → Prop) (Rel : World → World → Prop) (Vals : Nat → Value → World → Prop) (Mk : (Nat → Bool) → (Nat → Value) → World → Prop) (sp : Nat → Bool) (x0 : Nat → Value) {id : Nat} {a : Act} {w : World}
    (hm : P.follows .mixedOrders = true) (ha : a = fr x0) (hS : S w.drew) (hM : Mk (fun _ => false) x0 w.drew)
    (hrel : ∀ w w', S w → Rel w w' → S w') (hval : ∀ i v w w', S w → Vals i v w → Rel w w' → Vals i v w') (hmk : ∀ i L x v w w', sp i = false → S w → Mk L x w → Rel w w' → Mk (updB L i) (upd x i v) w')
    (hops : AllAt (fun i o => (sp i = false → StepAt P fr S Rel Vals ops Q i o) ∧ (sp i = true → MarkAt P fr S Vals Mk ops Q i o)) 0 ops.toList)
    (hfin : ∀ L x w, S w → (∀ i, i < ops.size → L i = true ∧ Vals i (x i) w) → Mk L x w → Q .normal (fr x) w) : (Code.region id ops true).wp P Q a w := by
  subst ha
  refine wp_region_any hm ?_
  have hg := fun (i : Nat) (o : Oper) (h : ops[i]? = some o) => hops.get (i := i) (o := o) (by simpa using h)
  have hnone : ∀ i, (Array.replicate ops.size false).getD i false = false := fun i => by
    by_cases h : i < ops.size
    · simp [h]
    · simp [h]
  refine mark_any (fun i o h hs => by have := (hg i o h).1 (by rwa [Nat.zero_add]); rwa [Nat.zero_add] at this) (fun i o h hs => by have := (hg i o h).2 (by rwa [Nat.zero_add]); rwa [Nat.zero_add] at this) hrel hval hmk hfin _ _ _ _ (by simp) (by simp) hS
    (fun i hi => by rw [hnone] at hi; cases hi) ?_
  rw [show (fun i => (Array.replicate ops.size false).getD i false) = fun _ => false from funext hnone]
  exact hM
end
end Go.Proofs.Ytlpifioneafciaa
