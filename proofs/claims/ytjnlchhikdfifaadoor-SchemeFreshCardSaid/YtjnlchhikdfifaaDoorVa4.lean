/- Merged: SpRow, RegMark, SpSwK, SpSwR, SpIns, SpCompact, SpSort, SpPreds, SpSP, MakeTypeN, MakeStepN, MakeAllN, SpMk. -/
import Derived.Test.YtjnlchhikdfifaaDoorVa3
import Derived.Lib.QuietBelow
import Derived.Test.YtjnlchhikdfifaaDoorVa2
/- Rows of predicates; an order by insertion, as plain data. -/
namespace Go.Proofs.YtjnlchhikdfifaaDoor
open Go.RowKit Go.Sort Go.Lib
attribute [local go_sem] Oper.semAt_some

theorem RowG.free' {T : TypeId} {g : Nat} {l : List PR} {w : World} (h : RowG T g l w) (o : Nat) : w.frozen? ⟨g, o, none⟩ = false := by
  obtain ⟨cs, h1, _⟩ := h; exact Lib.frozen_of_heap h1 o
theorem RowG.set {T : TypeId} {g : Nat} {l : List PR} {w : World} (h : RowG T g l w) (i : Nat) (x : PR) : RowG T g (l.set i x) (set4 w g i x) := by
  obtain ⟨cs, h1, h2, h3⟩ := h
  refine ⟨(((cs.setIfInBounds (i * 4) (.string x.n)).setIfInBounds (i * 4 + 1) (.int .i64 x.t.kind)).setIfInBounds (i * 4 + 2) (.string x.t.name)).setIfInBounds (i * 4 + 3) (.slice x.a x.t.kids.length x.c), blk_set (blk_set (blk_set (blk_set h1 _) _) _) _, by simpa using h2, fun j hj => ?_⟩
  have hj' : j < l.length := by simpa using hj
  by_cases e : j = i
  · subst e
    have e2 : (l.set j x).getD j noP = x := by simp [List.getD, hj']
    rw [e2]
    refine ⟨?_, ?_, ?_, ?_⟩ <;> (simp [Array.getElem?_setIfInBounds]; omega)
  · have e2 : (l.set i x).getD j noP = l.getD j noP := by simp [List.getD, Ne.symm e]
    rw [e2]
    obtain ⟨a1, a2, a3, a4⟩ := h3 j hj'
    refine ⟨?_, ?_, ?_, ?_⟩
    · rw [Array.getElem?_setIfInBounds_ne (by omega), Array.getElem?_setIfInBounds_ne (by omega), Array.getElem?_setIfInBounds_ne (by omega), Array.getElem?_setIfInBounds_ne (by omega)]; exact a1
    · rw [Array.getElem?_setIfInBounds_ne (by omega), Array.getElem?_setIfInBounds_ne (by omega), Array.getElem?_setIfInBounds_ne (by omega), Array.getElem?_setIfInBounds_ne (by omega)]; exact a2
    · rw [Array.getElem?_setIfInBounds_ne (by omega), Array.getElem?_setIfInBounds_ne (by omega), Array.getElem?_setIfInBounds_ne (by omega), Array.getElem?_setIfInBounds_ne (by omega)]; exact a3
    · rw [Array.getElem?_setIfInBounds_ne (by omega), Array.getElem?_setIfInBounds_ne (by omega), Array.getElem?_setIfInBounds_ne (by omega), Array.getElem?_setIfInBounds_ne (by omega)]; exact a4
theorem RowG.keepT {T : TypeId} {g : Nat} {l : List PR} {w w' : World} (h : RowG T g l w) (hT : T ≠ 33) (hf : Fr g w w') : KeepT w w' := by
  obtain ⟨cs, h1, _⟩ := h; exact keepT_of_fr hf h1 hT
/-- The first k are in order. -/
def LeTo (k : Nat) (d : List PR) : Prop := ∀ p q, p < q → q < k → cmpR (d.getD p noP) (d.getD q noP) ≤ 0
/-- All but the one at j are. -/
def InsI (i j : Nat) (d : List PR) : Prop := j ≤ i ∧ (∀ p q, p < q → q ≤ i → p ≠ j → q ≠ j → cmpR (d.getD p noP) (d.getD q noP) ≤ 0) ∧ ∀ q, j < q → q ≤ i → cmpR (d.getD j noP) (d.getD q noP) ≤ 0
def SameM (d l : List PR) : Prop := d.length = l.length ∧ ∀ x, x ∈ d ↔ x ∈ l
def swapL (d : List PR) (j : Nat) : List PR := (d.set (j + 1) (d.getD j noP)).set j (d.getD (j + 1) noP)
theorem swapL_get {d : List PR} {j : Nat} (h : j + 1 < d.length) (k : Nat) : (swapL d j).getD k noP = if k = j then d.getD (j + 1) noP else if k = j + 1 then d.getD j noP else d.getD k noP := by
  unfold swapL
  by_cases e : k = j
  · subst e; rw [if_pos rfl]; simp [List.getD, show k < d.length by omega]
  · rw [if_neg e]
    by_cases e2 : k = j + 1
    · subst e2; rw [if_pos rfl]; simp [List.getD, h]
    · rw [if_neg e2]; simp [List.getD, Ne.symm e, Ne.symm e2]
theorem swapL_len (d : List PR) (j : Nat) : (swapL d j).length = d.length := by simp [swapL]
theorem getD_memR {d : List PR} {k : Nat} (h : k < d.length) : d.getD k noP ∈ d := by
  rw [show d.getD k noP = d[k] by simp [List.getD, h]]; exact List.getElem_mem h
theorem mem_getD {d : List PR} {x : PR} (h : x ∈ d) : ∃ k, k < d.length ∧ d.getD k noP = x := by
  obtain ⟨k, hk, e⟩ := List.mem_iff_getElem.1 h
  exact ⟨k, hk, by simp [List.getD, hk, e]⟩
theorem SameM.swap {d l : List PR} {j : Nat} (h : SameM d l) (hj : j + 1 < d.length) : SameM (swapL d j) l := by
  refine ⟨(swapL_len d j).trans h.1, fun x => ?_⟩
  rw [← h.2]
  constructor
  · intro hx
    obtain ⟨k, hk, e⟩ := mem_getD hx
    rw [swapL_get hj] at e
    rw [swapL_len] at hk
    subst e
    split
    · exact getD_memR hj
    · split
      · exact getD_memR (by omega)
      · exact getD_memR hk
  · intro hx
    obtain ⟨k, hk, rfl⟩ := mem_getD hx
    by_cases e : k = j
    · subst e
      have := getD_memR (d := swapL d k) (k := k + 1) (by rw [swapL_len]; exact hj)
      rwa [swapL_get hj, if_neg (by omega), if_pos rfl] at this
    · by_cases e2 : k = j + 1
      · subst e2
        have := getD_memR (d := swapL d j) (k := j) (by rw [swapL_len]; omega)
        rwa [swapL_get hj, if_pos rfl] at this
      · have := getD_memR (d := swapL d j) (k := k) (by rw [swapL_len]; exact hk)
        rwa [swapL_get hj, if_neg e, if_neg e2] at this
theorem InsI.start {i : Nat} {d : List PR} (h : LeTo i d) : InsI i i d := ⟨Nat.le_refl _, fun p q h1 h2 _ h4 => h p q h1 (by omega), fun q h1 h2 => absurd h1 (by omega)⟩
theorem InsI.step {i j : Nat} {d : List PR} (h : InsI i (j + 1) d) (hi : i < d.length) (hc : cmpR (d.getD (j + 1) noP) (d.getD j noP) ≤ 0) : InsI i j (swapL d j) := by
  obtain ⟨h1, h2, h3⟩ := h
  have hj : j + 1 < d.length := by omega
  refine ⟨by omega, fun p q hpq hq hp hqj => ?_, fun q hq hqi => ?_⟩
  · rw [swapL_get hj, swapL_get hj, if_neg hp, if_neg hqj]
    by_cases e : p = j + 1
    · rw [if_pos e, if_neg (by omega)]; exact h2 j q (by omega) hq (by omega) (by omega)
    · rw [if_neg e]
      by_cases e2 : q = j + 1
      · rw [if_pos e2]; exact h2 p j (by omega) (by omega) e (by omega)
      · rw [if_neg e2]; exact h2 p q hpq hq e e2
  · rw [swapL_get hj, swapL_get hj, if_pos rfl, if_neg (by omega)]
    by_cases e2 : q = j + 1
    · rw [if_pos e2]; exact hc
    · rw [if_neg e2]; exact h3 q (by omega) hqi
theorem InsI.stop {i j : Nat} {d : List PR} (h : InsI i j d) (hc : j = 0 ∨ 0 ≤ cmpR (d.getD j noP) (d.getD (j - 1) noP)) : LeTo (i + 1) d := by
  obtain ⟨h1, h2, h3⟩ := h
  intro p q hpq hq
  by_cases e : p = j
  · subst e; exact h3 q hpq (by omega)
  · by_cases e2 : q = j
    · subst e2
      rcases hc with hc | hc
      · omega
      · have hn := cmpR_neg (d.getD q noP) (d.getD (q - 1) noP)
        by_cases e3 : p = q - 1
        · rw [e3, hn]; omega
        · exact cmpR_le (h2 p (q - 1) (by omega) (by omega) e (by omega)) (by rw [hn]; omega)
    · exact h2 p q hpq (by omega) e e2
/-- What the sort keeps. -/
def SrtI (w : World) (g : Nat) (l d : List PR) (wr : World) : Prop := SameM d l ∧ RowG 35 g d wr ∧ Fr g w wr
theorem SrtI.below {w : World} {g : Nat} {l d : List PR} {X Y : World} (h : SrtI w g l d X) (hb : Below X.heap.size X Y) : SrtI w g l d Y := ⟨h.1, h.2.1.below hb, h.2.2.trans (Fr.of_below hb)⟩
theorem SrtI.swap {w : World} {g : Nat} {l d : List PR} {X : World} {j : Nat} (h : SrtI w g l d X) (hj : j + 1 < d.length) : SrtI w g l (swapL d j) (set4 (set4 X g (j + 1) (d.getD j noP)) g j (d.getD (j + 1) noP)) :=
  ⟨h.1.swap hj, (h.2.1.set (j + 1) (d.getD j noP)).set j (d.getD (j + 1) noP), (h.2.2.trans (Fr.set4 g (j + 1) X _)).trans (Fr.set4 g j _ _)⟩
end Go.Proofs.YtjnlchhikdfifaaDoor
/- A region that draws its order, by an invariant and a mark: what holds between some of its operations alone (a row that one makes and another takes). -/
namespace Go.Proofs.YtjnlchhikdfifaaDoor

def updB (L : Nat → Bool) (i : Nat) : Nat → Bool := fun j => if j = i then true else L j
theorem updB_same (L : Nat → Bool) (i : Nat) : updB L i i = true := by simp [updB]
theorem updB_other (L : Nat → Bool) {i j : Nat} (h : j ≠ i) : updB L i j = L j := by simp [updB, h]

/-- What is asked of an operation that the mark speaks of. -/
structure MarkAt (P : Program) (fr : (Nat → Value) → Act) (S : World → Prop) (Vals : Nat → Value → World → Prop) (Mk : (Nat → Bool) → (Nat → Value) → World → Prop)
    (ops : Array Oper) (Q : Exit → Act → World → Prop) (i : Nat) (o : Oper) : Prop where
  back : ∀ e ∈ o.after, Region.binds .any e = true → e.on < i
  put : ∀ x v, (fr x).put o.dst v = fr (upd x i v)
  run : ∀ (L : Nat → Bool) (x : Nat → Value) (w : World), S w → (∀ j, L j = true → Vals j (x j) w) → Mk L x w → L i = false → (∀ e ∈ o.after, Region.binds .any e = true → L e.on = true) →
    ∀ K : Act → World → Prop, (∀ v w', S w' → (∀ j, L j = true → Vals j (x j) w') → Vals i v w' → Mk (updB L i) (upd x i v) w' → K ((fr x).put o.dst v) w') →
      if Region.wanted o (yielded ops (fr x).tmps) = true then Oper.wp P o (fr x) w K Q else K ((fr x).put o.dst undef) w

section
variable {P : Program} {ops : Array Oper} {Q : Exit → Act → World → Prop} {fr : (Nat → Value) → Act} {S : World → Prop} {Rel : World → World → Prop} {Vals : Nat → Value → World → Prop} {Mk : (Nat → Bool) → (Nat → Value) → World → Prop} {sp : Nat → Bool}

theorem mark_any (hput : ∀ i o, ops[i]? = some o → sp i = false → StepAt P fr S Rel Vals ops Q i o) (hmark : ∀ i o, ops[i]? = some o → sp i = true → MarkAt P fr S Vals Mk ops Q i o)
    (hrel : ∀ w w', S w → Rel w w' → S w') (hval : ∀ i v w w', S w → Vals i v w → Rel w w' → Vals i v w') (hmk : ∀ i L x v w w', sp i = false → S w → Mk L x w → Rel w w' → Mk (updB L i) (upd x i v) w')
    (hfin : ∀ L x w, S w → (∀ i, i < ops.size → L i = true ∧ Vals i (x i) w) → Mk L x w → Q .normal (fr x) w) :
    ∀ (fuel : Nat) (listed : Array Bool) (x : Nat → Value) (w : World), listed.size = ops.size → ops.size ≤ fuel + listed.toList.count true → S w →
      (∀ i, listed.getD i false = true → Vals i (x i) w) → Mk (fun i => listed.getD i false) x w → wpAny P .any ops Q fuel listed (fr x) w := by
  have hback : ∀ i o, ops[i]? = some o → ∀ e ∈ o.after, Region.binds .any e = true → e.on < i := fun i o h => by
    cases hs : sp i with
    | false => exact (hput i o h hs).back
    | true => exact (hmark i o h hs).back
  have hend : ∀ (listed : Array Bool) (x : Nat → Value) (w : World), listed.size = ops.size → S w → (∀ i, listed.getD i false = true → Vals i (x i) w) → Mk (fun i => listed.getD i false) x w →
      Region.ready .any ops listed = [] → Q .normal (fr x) w := fun listed x w hz hS hV hM h =>
    hfin _ x w hS (fun i hi => ⟨all_of_none hback hz h i hi, hV i (all_of_none hback hz h i hi)⟩) hM
  intro fuel
  induction fuel with
  | zero =>
    intro listed x w hz hc hS hV hM
    have hall : listed.toList.count true = listed.toList.length := by
      have := List.count_le_length (a := true) (l := listed.toList)
      simp at this hc ⊢; omega
    have hr : Region.ready .any ops listed = [] := by
      cases h : Region.ready .any ops listed with
      | nil => rfl
      | cons i l =>
        have hi : i ∈ Region.ready .any ops listed := by rw [h]; simp
        obtain ⟨h0, o, ho, _⟩ := mem_ready.1 hi
        have hlt : i < listed.size := by rw [hz]; exact (Array.getElem?_eq_some_iff.1 ho).1
        have := List.count_eq_length.1 hall listed[i] (by simp)
        simp [hlt] at h0
        rw [h0] at this; cases this
    exact ⟨hr, hend listed x w hz hS hV hM hr⟩
  | succ fuel ih =>
    intro listed x w hz hc hS hV hM
    refine ⟨hend listed x w hz hS hV hM, fun i hi => ?_⟩
    obtain ⟨h0, o, ho, hdep⟩ := mem_ready.1 hi
    have hlt : i < listed.size := by rw [hz]; exact (Array.getElem?_eq_some_iff.1 ho).1
    have h0' : listed[i] = false := by simpa [hlt] using h0
    have hcnt : ops.size ≤ fuel + (listed.setIfInBounds i true).toList.count true := by
      have : (listed.setIfInBounds i true).toList.count true = listed.toList.count true + 1 := by
        rw [Array.toList_setIfInBounds, List.count_set (by simpa using hlt)]
        simp [h0']
      omega
    have hL : (fun j => (listed.setIfInBounds i true).getD j false) = updB (fun j => listed.getD j false) i := by
      funext j
      by_cases e : j = i
      · subst e; rw [updB_same]; simp [hlt]
      · rw [updB_other _ e, getD_set_ne false (Ne.symm e)]
    have hVs : ∀ v w', (∀ j, listed.getD j false = true → Vals j (x j) w') → Vals i v w' → ∀ j, (listed.setIfInBounds i true).getD j false = true → Vals j (upd x i v j) w' := fun v w' h1 h2 j hj => by
      by_cases hji : j = i
      · subst hji; rw [upd_same]; exact h2
      · rw [upd_other x v hji]
        exact h1 j (by rw [getD_set_ne false (Ne.symm hji)] at hj; exact hj)
    cases hs : sp i with
    | false =>
      have H := hput i o ho hs
      have hK : ∀ v w', Rel w w' → Vals i v w' → wpAny P .any ops Q fuel (listed.setIfInBounds i true) ((fr x).put o.dst v) w' := fun v w' hr hv => by
        rw [H.put]
        exact ih _ _ _ (by simpa using hz) hcnt (hrel w w' hS hr) (hVs v w' (fun j hj => hval _ _ _ _ hS (hV j hj) hr) hv) (by rw [hL]; exact hmk i _ x v w w' hs hS hM hr)
      have := H.run x w hS (fun e he hb => hV e.on (hdep e he hb)) _ hK
      unfold wpOp
      simp only [ho]
      split
      · rename_i hw; rw [if_pos hw] at this; exact .inl this
      · rename_i hw; rw [if_neg hw] at this; exact this
    | true =>
      have H := hmark i o ho hs
      have hK : ∀ v w', S w' → (∀ j, listed.getD j false = true → Vals j (x j) w') → Vals i v w' → Mk (updB (fun j => listed.getD j false) i) (upd x i v) w' → wpAny P .any ops Q fuel (listed.setIfInBounds i true) ((fr x).put o.dst v) w' := fun v w' hS' hV' hv hM' => by
        rw [H.put]
        exact ih _ _ _ (by simpa using hz) hcnt hS' (hVs v w' hV' hv) (by rw [hL]; exact hM')
      have := H.run (fun j => listed.getD j false) x w hS hV hM (by simp [hlt, h0']) hdep _ hK
      unfold wpOp
      simp only [ho]
      split
      · rename_i hw; rw [if_pos hw] at this; exact .inl this
      · rename_i hw; rw [if_neg hw] at this; exact this

theorem region_mark (fr : (Nat → Value) → Act) (S : World → Prop) (Rel : World → World → Prop) (Vals : Nat → Value → World → Prop) (Mk : (Nat → Bool) → (Nat → Value) → World → Prop) (sp : Nat → Bool) (x0 : Nat → Value) {id : Nat} {a : Act} {w : World}
    (hm : P.follows .mixedOrders = true) (ha : a = fr x0) (hS : S w.drew) (hM : Mk (fun _ => false) x0 w.drew)
    (hrel : ∀ w w', S w → Rel w w' → S w') (hval : ∀ i v w w', S w → Vals i v w → Rel w w' → Vals i v w') (hmk : ∀ i L x v w w', sp i = false → S w → Mk L x w → Rel w w' → Mk (updB L i) (upd x i v) w')
    (hops : AllAt (fun i o => (sp i = false → StepAt P fr S Rel Vals ops Q i o) ∧ (sp i = true → MarkAt P fr S Vals Mk ops Q i o)) 0 ops.toList)
    (hfin : ∀ L x w, S w → (∀ i, i < ops.size → L i = true ∧ Vals i (x i) w) → Mk L x w → Q .normal (fr x) w) : (Code.region id ops true).wp P Q a w := by
  subst ha
  refine wp_region_any hm ?_
  have hg := fun (i : Nat) (o : Oper) (h : ops[i]? = some o) => hops.get (i := i) (o := o) (by simpa using h)
  have hnone : ∀ i, (Array.replicate ops.size false).getD i false = false := fun i => by
    by_cases h : i < ops.size
    · simp [h]
    · simp [h]
  refine mark_any (fun i o h hs => by have := (hg i o h).1 (by rwa [Nat.zero_add]); rwa [Nat.zero_add] at this) (fun i o h hs => by have := (hg i o h).2 (by rwa [Nat.zero_add]); rwa [Nat.zero_add] at this) hrel hval hmk hfin _ _ _ _ (by simp) (by simp) hS
    (fun i hi => by rw [hnone] at hi; cases hi) ?_
  rw [show (fun i => (Array.replicate ops.size false).getD i false) = fun _ => false from funext hnone]
  exact hM
end
end Go.Proofs.YtjnlchhikdfifaaDoor
/- The sort's exchange: what stands in memory until it is done. -/
namespace Go.Proofs.YtjnlchhikdfifaaDoor
open Go.RowKit Go.Sort Go.Lib
attribute [local go_sem] Oper.semAt_some

theorem depL {o : Oper} {L : Nat → Bool} (h : ∀ e ∈ o.after, Region.binds .any e = true → L e.on = true) (j : Nat)
    (hj : (o.after.any fun e => Region.binds .any e && e.on == j) = true) : L j = true := by
  rw [Array.any_eq_true'] at hj
  obtain ⟨e, he, hj⟩ := hj
  simp only [Bool.and_eq_true, beq_iff_eq] at hj
  have := h e he hj.1
  rw [hj.2] at this; exact this
structure SwK (w : World) (g : Nat) (ls ds : List PR) (jp : Nat) (L : Nat → Bool) (x : Nat → Value) (V : World) : Prop where
  s0 : L 15 = false → SrtI w g ls ds V
  s1 : L 15 = true → L 17 = false → ∃ V0, SrtI w g ls ds V0 ∧ V = set4 V0 g (jp + 1) (ds.getD jp noP)
  s2 : L 17 = true → L 15 = true ∧ SrtI w g ls (swapL ds jp) V
  d15 : L 15 = true → L 9 = true ∧ L 13 = true
section
variable {w V : World} {g : Nat} {ls ds : List PR} {jp : Nat} {L : Nat → Bool} {x : Nat → Value}
theorem SwK.start (h : SrtI w g ls ds V) : SwK w g ls ds jp (fun _ => false) x V := ⟨fun _ => h, (fun e => nomatch e), (fun e => nomatch e), (fun e => nomatch e)⟩
theorem SwK.keep (h : SwK w g ls ds jp L x V) {i : Nat} (hi : (i == 15 || i == 17) = false) (v : Value) : SwK w g ls ds jp (updB L i) (upd x i v) V := by
  simp only [Bool.or_eq_false_iff, beq_eq_false_iff_ne] at hi
  have e15 : updB L i 15 = L 15 := updB_other L (Ne.symm hi.1)
  have e17 : updB L i 17 = L 17 := updB_other L (Ne.symm hi.2)
  have mono : ∀ j, L j = true → updB L i j = true := fun j hj => by
    by_cases e : j = i
    · subst e; exact updB_same _ _
    · rw [updB_other L e]; exact hj
  exact ⟨fun e => h.s0 (by rwa [e15] at e), fun e e2 => h.s1 (by rwa [e15] at e) (by rwa [e17] at e2), fun e => by rw [e17] at e; rw [e15]; exact h.s2 e, fun e => by rw [e15] at e; exact ⟨mono 9 (h.d15 e).1, mono 13 (h.d15 e).2⟩⟩
theorem SwK.st1 (h : SwK w g ls ds jp L x V) (hLi : L 15 = false) (q9 : L 9 = true) (q13 : L 13 = true) (v : Value) : SwK w g ls ds jp (updB L 15) (upd x 15 v) (set4 V g (jp + 1) (ds.getD jp noP)) := by
  have e17 : updB L 15 17 = L 17 := updB_other L (by decide)
  have n17 : L 17 = false := by
    cases e : L 17 with
    | false => rfl
    | true => have := (h.s2 e).1; rw [hLi] at this; cases this
  exact ⟨(fun e => by rw [updB_same] at e; cases e), fun _ _ => ⟨V, h.s0 hLi, rfl⟩, (fun e => by rw [e17, n17] at e; cases e), fun _ => ⟨by rw [updB_other L (by decide)]; exact q9, by rw [updB_other L (by decide)]; exact q13⟩⟩
theorem SwK.st2 (h : SwK w g ls ds jp L x V) (hj : jp + 1 < ds.length) (hLi : L 17 = false) (q15 : L 15 = true) (v : Value) : SwK w g ls ds jp (updB L 17) (upd x 17 v) (set4 V g jp (ds.getD (jp + 1) noP)) := by
  have e15 : updB L 17 15 = L 15 := updB_other L (by decide)
  obtain ⟨V0, h0, e⟩ := h.s1 q15 hLi
  subst e
  exact ⟨(fun e => by rw [e15, q15] at e; cases e), fun _ e => (by rw [updB_same] at e; cases e), fun _ => ⟨by rw [e15]; exact q15, h0.swap hj⟩, fun _ => ⟨by rw [updB_other L (by decide)]; exact (h.d15 q15).1, by rw [updB_other L (by decide)]; exact (h.d15 q15).2⟩⟩
theorem SwK.row0 (h : SwK w g ls ds jp L x V) (h9 : L 9 = false ∨ L 13 = false) : SrtI w g ls ds V := h.s0 (by
  cases e : L 15 with
  | false => rfl
  | true =>
    obtain ⟨a, b⟩ := h.d15 e
    rcases h9 with h9 | h9
    · rw [h9] at a; cases a
    · rw [h9] at b; cases b)
theorem SwK.row1 (h : SwK w g ls ds jp L x V) (hLi : L 17 = false) (q15 : L 15 = true) : RowG 35 g (ds.set (jp + 1) (ds.getD jp noP)) V := by
  obtain ⟨V0, h0, e⟩ := h.s1 q15 hLi
  subst e
  exact h0.2.1.set _ _
end
end Go.Proofs.YtjnlchhikdfifaaDoor
/- the sort's exchange: its last statement, a region of 18 operations that draws its order, by an invariant. (Made by a program.) -/
namespace Go.Proofs.YtjnlchhikdfifaaDoor
open Go.RowKit Go.Sort Go.Lib
attribute [local go_sem] Oper.semAt_some

noncomputable def swpOps : Array Oper := regionIn 6 (Tryd.f52.body.getD .skip)
def swpFr (b : Nat → Value) (d : List Deferred) (x : Nat → Value) : Act := { tmps := #[b 0, b 1, b 2, b 3, b 4, b 5, b 6, b 7, b 8, b 9, b 10, b 11, b 12, b 13, b 14, b 15, b 16, b 17, b 18, b 19, b 20, b 21, b 22, b 23, b 24, b 25, b 26, b 27, b 28, b 29, b 30, b 31, b 32, b 33, b 34, b 35, b 36, x 0, x 1, x 2, x 3, x 4, x 5, x 6, x 7, x 8, x 9, x 10, x 11, x 12, x 13, x 14, x 16], defers := d }

def swpVals (g n cap jp : Nat) (px py : PR) (i : Nat) (v : Value) (_ : World) : Prop :=
  match i with
  | 0 => v = .slice (some ⟨g, 0, none⟩) n cap
  | 1 => v = .int .i64 ((jp : Int) + 1)
  | 2 => v = .slice (some ⟨g, 0, none⟩) n cap
  | 3 => v = .int .i64 ((jp : Int) + 1)
  | 4 => v = .int .i64 (jp : Int)
  | 5 => v = .slice (some ⟨g, 0, none⟩) n cap
  | 6 => v = .int .i64 ((jp : Int) + 1)
  | 7 => v = .int .i64 (jp : Int)
  | 8 => v = .pointer (some ⟨g, jp * 4, none⟩)
  | 9 => v = .agg #[.string py.n, .int .i64 py.t.kind, .string py.t.name, .slice py.a py.t.kids.length py.c]
  | 10 => v = .slice (some ⟨g, 0, none⟩) n cap
  | 11 => v = .int .i64 ((jp : Int) + 1)
  | 12 => v = .pointer (some ⟨g, (jp + 1) * 4, none⟩)
  | 13 => v = .agg #[.string px.n, .int .i64 px.t.kind, .string px.t.name, .slice px.a px.t.kids.length px.c]
  | 14 => v = .pointer (some ⟨g, (jp + 1) * 4, none⟩)
  | 15 => ∃ zu, v = zu ∧ True
  | 16 => v = .pointer (some ⟨g, jp * 4, none⟩)
  | 17 => ∃ zu, v = zu ∧ True
  | _ => True

theorem swpVals_keep {g n cap jp : Nat} {px py : PR} (i : Nat) (v : Value) (V Y : World) (h : swpVals g n cap jp px py i v V) (_ : Y = V) : swpVals g n cap jp px py i v Y := by
  unfold swpVals at *
  split at h <;> first
    | exact h
    | (obtain ⟨zu, e, h⟩ := h; exact ⟨zu, e, h⟩)

theorem swpVals_any {g n cap jp : Nat} {px py : PR} (i : Nat) (v : Value) (V Y : World) (h : swpVals g n cap jp px py i v V) : swpVals g n cap jp px py i v Y := by
  unfold swpVals at *
  split at h <;> exact h

theorem swp_size : swpOps.size = 18 := by kernel_rfl
set_option linter.unusedSimpArgs false in
set_option maxRecDepth 100000 in
set_option maxHeartbeats 8000000 in
theorem swp_region {w : World} {g n cap jp : Nat} {ls ds : List PR} {px py : PR} (hpx : Hid (ds.getD (jp + 1) noP = px)) (hpy : Hid (ds.getD jp noP = py)) (hj : jp + 1 < ds.length) (jz : (jp : Int) + 1 < (n : Int)) (jz1 : (jp : Int) < (n : Int)) (p0 : (0 : Int) ≤ (jp : Int) + 1) (e00 : ((jp : Int) + 1).toNat = jp + 1) (hwp : IntKind.i64.wrap (jp : Int) = (jp : Int)) {b : Nat → Value} {d : List Deferred}
    (h0 : b 0 = .slice (some ⟨g, 0, none⟩) n cap) (h9 : b 9 = .int .i64 ((jp : Int) + 1))
    
    {Q : Exit → Act → World → Prop} {ops : Array Oper} (hops : ops = swpOps) (x0 : Nat → Value) (X : World) (hS : True) (hX : SrtI w g ls ds X.drew)
    (hfin : ∀ (x : Nat → Value) V, SrtI w g ls (swapL ds jp) V → Q .normal (swpFr b d x) V) : (Code.region 6 ops true).wp Tryd.prog Q (swpFr b d x0) X := by
  refine region_mark (swpFr b d) (fun V => True) (fun V Y => Y = V) (swpVals g n cap jp px py) (fun L x V => SwK w g ls ds jp L x V) (fun i => i == 9 || i == 13 || i == 15 || i == 17) x0 (by kernel_rfl) rfl hS (SwK.start hX) (fun V Y h hb => trivial) (fun i v V Y _ h hb => swpVals_keep  i v V Y h hb) (fun i L x v w' w'' hs _ hM hr => by subst hr; exact hM.keep (by simp only [Bool.or_eq_false_iff, beq_eq_false_iff_ne] at hs ⊢; exact ⟨hs.1.2, hs.2⟩) v) ?_ (fun L x V hS hall hM => hfin x V (hM.s2 (hall 17 (by rw [hops, swp_size]; decide)).1).2)
  clear hfin hS
  obtain ⟨f, hf⟩ : ∃ qq, (fun i o => ((fun i => i == 9 || i == 13 || i == 15 || i == 17) i = false → StepAt Tryd.prog (swpFr b d) (fun V => True) (fun V Y => Y = V) (swpVals g n cap jp px py) ops Q i o) ∧ ((fun i => i == 9 || i == 13 || i == 15 || i == 17) i = true → MarkAt Tryd.prog (swpFr b d) (fun V => True) (swpVals g n cap jp px py) (fun L x V => SwK w g ls ds jp L x V) ops Q i o)) = qq := ⟨_, rfl⟩
  rw [hf, hops]
  simp only [swpOps, Tryd.f52, regionIn, Option.getD_some, Nat.reduceBEq, Bool.false_eq_true, if_false, if_true, beq_self_eq_true, Array.append_empty, Array.empty_append, List.append_eq, List.cons_append, List.nil_append, AllAt, Nat.reduceAdd, Nat.zero_add]
  -- 0: slot 37 := Op.move t0
  refine And.intro ?_ ?_
  · rw [← hf]; clear hf
    refine ⟨fun _ => ⟨by decide +kernel, fun x v => by kernel_rfl, fun x V hV hdep K hK => ?_⟩, fun h => absurd h (by decide)⟩
    clear hdep
    refine run_bare (by kernel_rfl) ?_
    unfold swpFr
    go_simp
    refine kfit (hK _ _ (rfl) rfl) ?_
    first | (simp only [swpFr, Act.put, List.setIfInBounds_toArray, List.set_cons_zero, List.set_cons_succ, h0, h9]; done) | (simp only [swpFr, Act.put, List.setIfInBounds_toArray, List.set_cons_zero, List.set_cons_succ, h0, h9]; rfl)
  -- 1: slot 38 := Op.move t9
  refine And.intro ?_ ?_
  · rw [← hf]; clear hf
    refine ⟨fun _ => ⟨by decide +kernel, fun x v => by kernel_rfl, fun x V hV hdep K hK => ?_⟩, fun h => absurd h (by decide)⟩
    clear hdep
    refine run_bare (by kernel_rfl) ?_
    unfold swpFr
    go_simp
    refine kfit (hK _ _ (rfl) rfl) ?_
    first | (simp only [swpFr, Act.put, List.setIfInBounds_toArray, List.set_cons_zero, List.set_cons_succ, h0, h9]; done) | (simp only [swpFr, Act.put, List.setIfInBounds_toArray, List.set_cons_zero, List.set_cons_succ, h0, h9]; rfl)
  -- 2: slot 39 := Op.move t0
  refine And.intro ?_ ?_
  · rw [← hf]; clear hf
    refine ⟨fun _ => ⟨by decide +kernel, fun x v => by kernel_rfl, fun x V hV hdep K hK => ?_⟩, fun h => absurd h (by decide)⟩
    clear hdep
    refine run_bare (by kernel_rfl) ?_
    unfold swpFr
    go_simp
    refine kfit (hK _ _ (rfl) rfl) ?_
    first | (simp only [swpFr, Act.put, List.setIfInBounds_toArray, List.set_cons_zero, List.set_cons_succ, h0, h9]; done) | (simp only [swpFr, Act.put, List.setIfInBounds_toArray, List.set_cons_zero, List.set_cons_succ, h0, h9]; rfl)
  -- 3: slot 40 := Op.move t9
  refine And.intro ?_ ?_
  · rw [← hf]; clear hf
    refine ⟨fun _ => ⟨by decide +kernel, fun x v => by kernel_rfl, fun x V hV hdep K hK => ?_⟩, fun h => absurd h (by decide)⟩
    clear hdep
    refine run_bare (by kernel_rfl) ?_
    unfold swpFr
    go_simp
    refine kfit (hK _ _ (rfl) rfl) ?_
    first | (simp only [swpFr, Act.put, List.setIfInBounds_toArray, List.set_cons_zero, List.set_cons_succ, h0, h9]; done) | (simp only [swpFr, Act.put, List.setIfInBounds_toArray, List.set_cons_zero, List.set_cons_succ, h0, h9]; rfl)
  -- 4: slot 41 := Op.binOp BinOp.sub 3 t40 (const (1:i64)) 3
  refine And.intro ?_ ?_
  · rw [← hf]; clear hf
    refine ⟨fun _ => ⟨by decide +kernel, fun x v => by kernel_rfl, fun x V hV hdep K hK => ?_⟩, fun h => absurd h (by decide)⟩
    have e3 : x 3 = .int .i64 ((jp : Int) + 1) := depOf hdep 3 (by decide +kernel)
    clear hdep
    refine run_bare (by kernel_rfl) ?_
    unfold swpFr
    go_simp
    refine kfit (hK _ _ (rfl) rfl) ?_
    first | (simp only [swpFr, Act.put, List.setIfInBounds_toArray, List.set_cons_zero, List.set_cons_succ, h0, h9, e3]; done) | (simp only [swpFr, Act.put, List.setIfInBounds_toArray, List.set_cons_zero, List.set_cons_succ, h0, h9, e3]; rfl)
  -- 5: slot 42 := Op.move t0
  refine And.intro ?_ ?_
  · rw [← hf]; clear hf
    refine ⟨fun _ => ⟨by decide +kernel, fun x v => by kernel_rfl, fun x V hV hdep K hK => ?_⟩, fun h => absurd h (by decide)⟩
    clear hdep
    refine run_bare (by kernel_rfl) ?_
    unfold swpFr
    go_simp
    refine kfit (hK _ _ (rfl) rfl) ?_
    first | (simp only [swpFr, Act.put, List.setIfInBounds_toArray, List.set_cons_zero, List.set_cons_succ, h0, h9]; done) | (simp only [swpFr, Act.put, List.setIfInBounds_toArray, List.set_cons_zero, List.set_cons_succ, h0, h9]; rfl)
  -- 6: slot 43 := Op.move t9
  refine And.intro ?_ ?_
  · rw [← hf]; clear hf
    refine ⟨fun _ => ⟨by decide +kernel, fun x v => by kernel_rfl, fun x V hV hdep K hK => ?_⟩, fun h => absurd h (by decide)⟩
    clear hdep
    refine run_bare (by kernel_rfl) ?_
    unfold swpFr
    go_simp
    refine kfit (hK _ _ (rfl) rfl) ?_
    first | (simp only [swpFr, Act.put, List.setIfInBounds_toArray, List.set_cons_zero, List.set_cons_succ, h0, h9]; done) | (simp only [swpFr, Act.put, List.setIfInBounds_toArray, List.set_cons_zero, List.set_cons_succ, h0, h9]; rfl)
  -- 7: slot 44 := Op.binOp BinOp.sub 3 t43 (const (1:i64)) 3
  refine And.intro ?_ ?_
  · rw [← hf]; clear hf
    refine ⟨fun _ => ⟨by decide +kernel, fun x v => by kernel_rfl, fun x V hV hdep K hK => ?_⟩, fun h => absurd h (by decide)⟩
    have e6 : x 6 = .int .i64 ((jp : Int) + 1) := depOf hdep 6 (by decide +kernel)
    clear hdep
    refine run_bare (by kernel_rfl) ?_
    unfold swpFr
    go_simp
    refine kfit (hK _ _ (rfl) rfl) ?_
    first | (simp only [swpFr, Act.put, List.setIfInBounds_toArray, List.set_cons_zero, List.set_cons_succ, h0, h9, e6]; done) | (simp only [swpFr, Act.put, List.setIfInBounds_toArray, List.set_cons_zero, List.set_cons_succ, h0, h9, e6]; rfl)
  -- 8: slot 45 := Op.indexAddr 55 t42 t44
  refine And.intro ?_ ?_
  · rw [← hf]; clear hf
    refine ⟨fun _ => ⟨by decide +kernel, fun x v => by kernel_rfl, fun x V hV hdep K hK => ?_⟩, fun h => absurd h (by decide)⟩
    have e5 : x 5 = .slice (some ⟨g, 0, none⟩) n cap := depOf hdep 5 (by decide +kernel)
    have e7 : x 7 = .int .i64 (jp : Int) := depOf hdep 7 (by decide +kernel)
    clear hdep
    refine run_bare (by kernel_rfl) ?_
    unfold swpFr
    go_simp
    refine kfit (hK _ _ (rfl) rfl) ?_
    first | (simp only [swpFr, Act.put, List.setIfInBounds_toArray, List.set_cons_zero, List.set_cons_succ, h0, h9, e5, e7]; done) | (simp only [swpFr, Act.put, List.setIfInBounds_toArray, List.set_cons_zero, List.set_cons_succ, h0, h9, e5, e7]; rfl)
  -- 9: slot 46 := Op.load 60 t45
  refine And.intro ?_ ?_
  · rw [← hf]; clear hf
    refine ⟨fun h => absurd h (by decide), fun _ => ⟨by decide +kernel, fun x v => by kernel_rfl, fun L x V hV hVs hMk hLi hdep K hK => ?_⟩⟩
    have e8 : x 8 = .pointer (some ⟨g, jp * 4, none⟩) := hVs 8 (depL hdep 8 (by decide +kernel))
    have hr := hMk.row0 (.inl hLi)
    obtain ⟨c0, c1, c2, c3⟩ := hr.2.1.cells (i := jp) (by omega)
    rw [hpy.out] at c0 c1 c2 c3
    refine run_bare (by kernel_rfl) ?_
    have H := Lib.hid (fun v => hMk.keep (i := 9) rfl v)
    have HVs := Lib.hid hVs
    clear hVs hMk hdep hr
    unfold swpFr at hK ⊢
    go_simp
    refine kfit (hK _ _ trivial HVs.out rfl (H.out _)) ?_
    first | (simp only [Act.put, List.setIfInBounds_toArray, List.set_cons_zero, List.set_cons_succ, h0, h9, e8]; done) | (simp only [Act.put, List.setIfInBounds_toArray, List.set_cons_zero, List.set_cons_succ, h0, h9, e8]; rfl)
  -- 10: slot 47 := Op.move t0
  refine And.intro ?_ ?_
  · rw [← hf]; clear hf
    refine ⟨fun _ => ⟨by decide +kernel, fun x v => by kernel_rfl, fun x V hV hdep K hK => ?_⟩, fun h => absurd h (by decide)⟩
    clear hdep
    refine run_bare (by kernel_rfl) ?_
    unfold swpFr
    go_simp
    refine kfit (hK _ _ (rfl) rfl) ?_
    first | (simp only [swpFr, Act.put, List.setIfInBounds_toArray, List.set_cons_zero, List.set_cons_succ, h0, h9]; done) | (simp only [swpFr, Act.put, List.setIfInBounds_toArray, List.set_cons_zero, List.set_cons_succ, h0, h9]; rfl)
  -- 11: slot 48 := Op.move t9
  refine And.intro ?_ ?_
  · rw [← hf]; clear hf
    refine ⟨fun _ => ⟨by decide +kernel, fun x v => by kernel_rfl, fun x V hV hdep K hK => ?_⟩, fun h => absurd h (by decide)⟩
    clear hdep
    refine run_bare (by kernel_rfl) ?_
    unfold swpFr
    go_simp
    refine kfit (hK _ _ (rfl) rfl) ?_
    first | (simp only [swpFr, Act.put, List.setIfInBounds_toArray, List.set_cons_zero, List.set_cons_succ, h0, h9]; done) | (simp only [swpFr, Act.put, List.setIfInBounds_toArray, List.set_cons_zero, List.set_cons_succ, h0, h9]; rfl)
  -- 12: slot 49 := Op.indexAddr 55 t47 t48
  refine And.intro ?_ ?_
  · rw [← hf]; clear hf
    refine ⟨fun _ => ⟨by decide +kernel, fun x v => by kernel_rfl, fun x V hV hdep K hK => ?_⟩, fun h => absurd h (by decide)⟩
    have e10 : x 10 = .slice (some ⟨g, 0, none⟩) n cap := depOf hdep 10 (by decide +kernel)
    have e11 : x 11 = .int .i64 ((jp : Int) + 1) := depOf hdep 11 (by decide +kernel)
    clear hdep
    refine run_bare (by kernel_rfl) ?_
    unfold swpFr
    go_simp
    refine kfit (hK _ _ (rfl) rfl) ?_
    first | (simp only [swpFr, Act.put, List.setIfInBounds_toArray, List.set_cons_zero, List.set_cons_succ, h0, h9, e10, e11]; done) | (simp only [swpFr, Act.put, List.setIfInBounds_toArray, List.set_cons_zero, List.set_cons_succ, h0, h9, e10, e11]; rfl)
  -- 13: slot 50 := Op.load 60 t49
  refine And.intro ?_ ?_
  · rw [← hf]; clear hf
    refine ⟨fun h => absurd h (by decide), fun _ => ⟨by decide +kernel, fun x v => by kernel_rfl, fun L x V hV hVs hMk hLi hdep K hK => ?_⟩⟩
    have e12 : x 12 = .pointer (some ⟨g, (jp + 1) * 4, none⟩) := hVs 12 (depL hdep 12 (by decide +kernel))
    have hr := hMk.row0 (.inr hLi)
    obtain ⟨c0, c1, c2, c3⟩ := hr.2.1.cells (i := jp + 1) (by omega)
    rw [hpx.out] at c0 c1 c2 c3
    refine run_bare (by kernel_rfl) ?_
    have H := Lib.hid (fun v => hMk.keep (i := 13) rfl v)
    have HVs := Lib.hid hVs
    clear hVs hMk hdep hr
    unfold swpFr at hK ⊢
    go_simp
    refine kfit (hK _ _ trivial HVs.out rfl (H.out _)) ?_
    first | (simp only [Act.put, List.setIfInBounds_toArray, List.set_cons_zero, List.set_cons_succ, h0, h9, e12]; done) | (simp only [Act.put, List.setIfInBounds_toArray, List.set_cons_zero, List.set_cons_succ, h0, h9, e12]; rfl)
  -- 14: slot 51 := Op.indexAddr 55 t37 t38
  refine And.intro ?_ ?_
  · rw [← hf]; clear hf
    refine ⟨fun _ => ⟨by decide +kernel, fun x v => by kernel_rfl, fun x V hV hdep K hK => ?_⟩, fun h => absurd h (by decide)⟩
    have e0 : x 0 = .slice (some ⟨g, 0, none⟩) n cap := depOf hdep 0 (by decide +kernel)
    have e1 : x 1 = .int .i64 ((jp : Int) + 1) := depOf hdep 1 (by decide +kernel)
    clear hdep
    refine run_bare (by kernel_rfl) ?_
    unfold swpFr
    go_simp
    refine kfit (hK _ _ (rfl) rfl) ?_
    first | (simp only [swpFr, Act.put, List.setIfInBounds_toArray, List.set_cons_zero, List.set_cons_succ, h0, h9, e0, e1]; done) | (simp only [swpFr, Act.put, List.setIfInBounds_toArray, List.set_cons_zero, List.set_cons_succ, h0, h9, e0, e1]; rfl)
  -- 15: slot none := Op.store 60 t51 t46
  refine And.intro ?_ ?_
  · rw [← hf]; clear hf
    refine ⟨fun h => absurd h (by decide), fun _ => ⟨by decide +kernel, fun x v => by kernel_rfl, fun L x V hV hVs hMk hLi hdep K hK => ?_⟩⟩
    have q9 := depL hdep 9 (by decide +kernel)
    have q13 := depL hdep 13 (by decide +kernel)
    have e14 : x 14 = .pointer (some ⟨g, (jp + 1) * 4, none⟩) := hVs 14 (depL hdep 14 (by decide +kernel))
    have e9 : x 9 = .agg #[.string py.n, .int .i64 py.t.kind, .string py.t.name, .slice py.a py.t.kids.length py.c] := hVs 9 q9
    have hr := (hMk.s0 hLi).2.1
    obtain ⟨c0, c1, c2, c3⟩ := hr.cells (i := jp + 1) hj
    have z0 := hr.free' ((jp + 1) * 4); have z1 := hr.free' ((jp + 1) * 4 + 1); have z2 := hr.free' ((jp + 1) * 4 + 2); have z3 := hr.free' ((jp + 1) * 4 + 3)
    refine run_bare (by kernel_rfl) ?_
    have H := hMk.st1 hLi q9 q13
    rw [hpy.out] at H
    have H := Lib.hid H
    have HVs := Lib.hid hVs
    clear hVs hMk hdep hr
    unfold swpFr at hK ⊢
    unfold set4 at H
    go_simp
    refine kfit (hK undef _ trivial (fun j hj => swpVals_any j _ V _ (HVs.out j hj)) ⟨undef, rfl, trivial⟩ (H.out undef)) ?_
    first | (simp only [Act.put, List.setIfInBounds_toArray, List.set_cons_zero, List.set_cons_succ, h0, h9, e9, e14]; done) | (simp only [Act.put, List.setIfInBounds_toArray, List.set_cons_zero, List.set_cons_succ, h0, h9, e9, e14]; rfl)
  -- 16: slot 52 := Op.indexAddr 55 t39 t41
  refine And.intro ?_ ?_
  · rw [← hf]; clear hf
    refine ⟨fun _ => ⟨by decide +kernel, fun x v => by kernel_rfl, fun x V hV hdep K hK => ?_⟩, fun h => absurd h (by decide)⟩
    have e2 : x 2 = .slice (some ⟨g, 0, none⟩) n cap := depOf hdep 2 (by decide +kernel)
    have e4 : x 4 = .int .i64 (jp : Int) := depOf hdep 4 (by decide +kernel)
    clear hdep
    refine run_bare (by kernel_rfl) ?_
    unfold swpFr
    go_simp
    refine kfit (hK _ _ (rfl) rfl) ?_
    first | (simp only [swpFr, Act.put, List.setIfInBounds_toArray, List.set_cons_zero, List.set_cons_succ, h0, h9, e2, e4]; done) | (simp only [swpFr, Act.put, List.setIfInBounds_toArray, List.set_cons_zero, List.set_cons_succ, h0, h9, e2, e4]; rfl)
  -- 17: slot none := Op.store 60 t52 t50
  refine And.intro ?_ ?_
  · rw [← hf]; clear hf
    refine ⟨fun h => absurd h (by decide), fun _ => ⟨by decide +kernel, fun x v => by kernel_rfl, fun L x V hV hVs hMk hLi hdep K hK => ?_⟩⟩
    have q13 := depL hdep 13 (by decide +kernel)
    have q15 := depL hdep 15 (by decide +kernel)
    have e16 : x 16 = .pointer (some ⟨g, jp * 4, none⟩) := hVs 16 (depL hdep 16 (by decide +kernel))
    have e13 : x 13 = .agg #[.string px.n, .int .i64 px.t.kind, .string px.t.name, .slice px.a px.t.kids.length px.c] := hVs 13 q13
    have hr := hMk.row1 hLi q15
    obtain ⟨c0, c1, c2, c3⟩ := hr.cells (i := jp) (by simp; omega)
    have z0 := hr.free' (jp * 4); have z1 := hr.free' (jp * 4 + 1); have z2 := hr.free' (jp * 4 + 2); have z3 := hr.free' (jp * 4 + 3)
    refine run_bare (by kernel_rfl) ?_
    have H := hMk.st2 hj hLi q15
    rw [hpx.out] at H
    have H := Lib.hid H
    have HVs := Lib.hid hVs
    clear hVs hMk hdep hr
    unfold swpFr at hK ⊢
    unfold set4 at H
    go_simp
    refine kfit (hK undef _ trivial (fun j hj => swpVals_any j _ V _ (HVs.out j hj)) ⟨undef, rfl, trivial⟩ (H.out undef)) ?_
    first | (simp only [Act.put, List.setIfInBounds_toArray, List.set_cons_zero, List.set_cons_succ, h0, h9, e13, e16]; done) | (simp only [Act.put, List.setIfInBounds_toArray, List.set_cons_zero, List.set_cons_succ, h0, h9, e13, e16]; rfl)
  exact trivial
theorem swp_here {w : World} {g n cap jp : Nat} {ls ds : List PR} {px py : PR} (hpx : Hid (ds.getD (jp + 1) noP = px)) (hpy : Hid (ds.getD jp noP = py)) (hj : jp + 1 < ds.length) (jz : (jp : Int) + 1 < (n : Int)) (jz1 : (jp : Int) < (n : Int)) (p0 : (0 : Int) ≤ (jp : Int) + 1) (e00 : ((jp : Int) + 1).toNat = jp + 1) (hwp : IntKind.i64.wrap (jp : Int) = (jp : Int))
    
    {Q : Exit → Act → World → Prop} {ops : Array Oper} {a : Act} (X : World) (hops : ops = swpOps)
    (h0 : a.tmps.getD 0 undef = .slice (some ⟨g, 0, none⟩) n cap) (h9 : a.tmps.getD 9 undef = .int .i64 ((jp : Int) + 1))
    (ha : a = swpFr (fun j => a.tmps.getD j undef) a.defers (fun i => a.tmps.getD (if i = 16 then 52 else 37 + i) undef)) (hS : True) (hX : SrtI w g ls ds X.drew)
    (hfin : ∀ (x : Nat → Value) V, SrtI w g ls (swapL ds jp) V → Q .normal (swpFr (fun j => a.tmps.getD j undef) a.defers x) V) : (Code.region 6 ops true).wp Tryd.prog Q a X :=
  cast (congrArg (fun z => (Code.region 6 ops true).wp Tryd.prog Q z X) ha.symm) (swp_region hpx hpy hj jz jz1 p0 e00 hwp (b := fun j => a.tmps.getD j undef) (d := a.defers) h0 h9  hops _ X hS hX hfin)
end Go.Proofs.YtjnlchhikdfifaaDoor
/- A row of predicates is sorted by insertion: slices.insertionSortCmpFunc. -/
namespace Go.Proofs.YtjnlchhikdfifaaDoor
open Go.RowKit Go.Sort Go.Lib
attribute [local go_sem] Oper.semAt_some

set_option maxRecDepth 100000 in
set_option maxHeartbeats 4000000 in
theorem insQ_any (g cap : Nat) (l : List PR) (w : World) (h : RowG 35 g l w) (ht : Typ l w) (hf : FitsAll l) (hl : l.length ≤ 1000000) :
    Calls Tryd.prog 52 #[.slice (some ⟨g, 0, none⟩) l.length cap, .int .i64 0, .int .i64 (l.length : Int), .func (.func 25) #[] #[]] w fun e w' =>
      e = .returned (.tuple #[]) ∧ ∃ d, LeTo d.length d ∧ SrtI w g l d w' := by
  have HCmp := Lib.hid (fun (d : List PR) (wr : World) (hs : SrtI w g l d wr) (i j : Nat) (hi : i < d.length) (hj : j < d.length) => (show Calls Tryd.prog 25 #[pairV (d.getD i noP), pairV (d.getD j noP)] wr fun e w' => e = .returned (.int .i64 (cmpR (d.getD i noP) (d.getD j noP))) ∧ Below wr.heap.size wr w' from
    have hk := h.keepT (by decide) hs.2.2
    cmpQ_any _ _ wr (hf _ ((hs.1.2 _).1 (getD_memR hi))) ((ht _ ((hs.1.2 _).1 (getD_memR hi))).keep hk) ((ht _ ((hs.1.2 _).1 (getD_memR hj))).keep hk)))
  have HS0 := Lib.hid (show SrtI w g l l w from ⟨⟨rfl, fun _ => Iff.rfl⟩, h, Fr.refl _ _⟩)
  clear h ht hf
  go_enter Tryd.func52, Tryd.ntmps52
  go_wp2
  go_loopw [8] (fun vi wr => ∃ (i : Nat) (d : List PR), i ≤ l.length + 1 ∧ vi = .int .i64 i ∧ Hid (1 ≤ i ∧ LeTo i d) ∧ Hid (SrtI w g l d wr)) (fun vi _ => l.length + 1 - (intOf vi).toNat)
  case atStart => exact ⟨1, l, by omega, by go_num, Lib.hid ⟨Nat.le_refl _, fun p q h1 h2 => by omega⟩, HS0⟩
  case round =>
    obtain ⟨i, d, hi, rfl, hL, hS⟩ := hrel
    by_cases hlt : i < l.length
    · have hltI : (i : Int) < (l.length : Int) := by omega
      have HI0 := Lib.hid (InsI.start hL.out.2)
      go_wp2
      go_loopw [9] (fun vj wr => ∃ (j : Nat) (d : List PR), j ≤ i ∧ vj = .int .i64 j ∧ Hid (InsI i j d) ∧ Hid (SrtI w g l d wr)) (fun vj _ => (intOf vj).toNat)
      case atStart => exact ⟨i, d, Nat.le_refl _, rfl, HI0, hS⟩
      case round =>
        obtain ⟨j, d, hj, rfl, hI, hS⟩ := hrel
        have hlen := hS.out.1.1
        have OUT := Lib.hid (fun (h : j = 0 ∨ 0 ≤ cmpR (d.getD j noP) (d.getD (j - 1) noP)) => hI.out.stop h)
        clear HI0
        by_cases hj0 : 0 < j
        · obtain ⟨jp, rfl⟩ : ∃ jp, j = jp + 1 := ⟨j - 1, by omega⟩
          have jz0 : (0 : Int) < (jp : Int) + 1 := by omega
          have jz : (jp : Int) + 1 < (l.length : Int) := by omega
          have jz1 : (jp : Int) < (l.length : Int) := by omega
          have p0 : (0 : Int) ≤ (jp : Int) + 1 := by omega
          have e0 : ((jp : Int) + 1).toNat = jp + 1 := by omega
          have hwp : IntKind.i64.wrap (jp : Int) = (jp : Int) := by rw [IntKind.wrap_i64]; omega
          obtain ⟨x0, x1, x2, x3⟩ := hS.out.2.1.cells (i := jp + 1) (by omega)
          obtain ⟨y0, y1, y2, y3⟩ := hS.out.2.1.cells (i := jp) (by omega)
          have X0 := cell_regrown x0; have X1 := cell_regrown x1; have X2 := cell_regrown x2; have X3 := cell_regrown x3
          have Y0 := cell_regrown y0; have Y1 := cell_regrown y1; have Y2 := cell_regrown y2; have Y3 := cell_regrown y3
          have HC := Lib.hid (fun dd os => Calls.regrown_of (HCmp.out d _ (hS.out.below (below_regrown wr dd os)) (jp + 1) jp (by omega) (by omega)))
          have HSt := Lib.hid (fun (h : cmpR (d.getD (jp + 1) noP) (d.getD jp noP) ≤ 0) => hI.out.step (by omega) h)
          have HSw := Lib.hid (fun (Y : World) (h : SrtI w g l d Y) => h.swap (j := jp) (by omega))
          have HCe := Lib.hid (fun (Y : World) (h : SrtI w g l d Y) => (And.intro (h.2.1.cells (i := jp + 1) (by omega)) (h.2.1.cells (i := jp) (by omega))))
          have HO := Lib.hid (fun (h : 0 ≤ cmpR (d.getD (jp + 1) noP) (d.getD jp noP)) => OUT.out (.inr h))
          clear OUT x0 x1 x2 x3 y0 y1 y2 y3
          generalize hxx : d.getD (jp + 1) noP = x at *
          generalize hyy : d.getD jp noP = y at *
          have HXX := Lib.hid hxx; have HYY := Lib.hid hyy
          clear hxx hyy
          obtain ⟨r, hr⟩ : ∃ r, cmpR x y = r := ⟨_, rfl⟩
          rw [hr] at HC HSt HO
          simp only [pairV] at HC
          clear hr
          have hH := HC.out
          by_cases hlv : r < 0
          · go_wp2_with fail
            refine wp_region_quiet_below (by kernel_rfl) (by kernel_rfl) ?_
            repeat (quiet_step (first | exact hH _ _ | (go_at_fn 25; exact hH _ _)))
            refine wpQuiet_nil ?_
            intro _ hw'
            obtain ⟨⟨dq, osq⟩, hw''⟩ := hw'
            subst hw''
            have HS5 := Lib.hid (hS.out.below (below_regrown wr dq osq))
            clear X0 X1 X2 X3 Y0 Y1 Y2 Y3 hH HC HCe HSw
            generalize grow (redrawn wr dq) osq = wr5 at *
            go_wp2_with fail
            refine swp_here (w := w) (g := g) (n := l.length) (cap := cap) (jp := jp) (ls := l) (ds := d) (px := x) (py := y) HXX HYY (by omega) jz jz1 p0 e0 hwp _ (by kernel_rfl) (by kernel_rfl) (by kernel_rfl) (by kernel_rfl) trivial (HS5.out.below (below_d _)) ?_
            intro xx V hV
            have HEnd := Lib.hid hV
            clear hV HS5
            simp only [swpFr]
            simp only [Array.getD_eq_getD_getElem?, List.getElem?_toArray, List.getElem?_cons_zero, List.getElem?_cons_succ, Option.getD_some]
            go_wp2_with fail
            go_roundw
            case rel => exact ⟨jp, swapL d jp, by omega, by go_num, Lib.hid (HSt.out (by omega)), HEnd⟩
            case measure => simp [intOf]
          · go_wp2_with fail
            refine wp_region_quiet_below (by kernel_rfl) (by kernel_rfl) ?_
            repeat (quiet_step (first | exact hH _ _ | (go_at_fn 25; exact hH _ _)))
            refine wpQuiet_nil ?_
            intro _ hw'
            obtain ⟨⟨dq, osq⟩, hw''⟩ := hw'
            subst hw''
            have HS5 := Lib.hid (hS.out.below (below_regrown wr dq osq))
            clear X0 X1 X2 X3 Y0 Y1 Y2 Y3 hH HC HCe
            generalize grow (redrawn wr dq) osq = wr5 at *
            go_wp2_with fail
            go_roundw
            case rel => exact ⟨i + 1, d, by omega, by go_num, Lib.hid ⟨by omega, HO.out (by omega)⟩, HS5⟩
            case measure => simp [intOf]; omega
        · have hjz : ¬ (0 : Int) < (j : Int) := by omega
          have hjd : decide ((j : Int) > (0 : Int)) = false := decide_eq_false (by omega)
          have HS5 := Lib.hid (hS.out.below (below_d wr))
          go_wp2_with fail
          go_region
          all_goals
            go_wp2_with fail
            go_roundw
          case rel => exact ⟨i + 1, d, by omega, by go_num, Lib.hid ⟨by omega, OUT.out (.inl (by omega))⟩, HS5⟩
          case measure => simp [intOf]; omega
    · have hltI : ¬ (i : Int) < (l.length : Int) := by omega
      have HE := Lib.hid (show ∃ d, LeTo d.length d ∧ SrtI w g l d _ from ⟨d, by rw [hS.out.1.1]; exact fun p q h1 h2 => hL.out.2 p q h1 (by omega), hS.out⟩)
      go_wp2_with fail
      go_end0
      exact ⟨rfl, HE.out⟩
end Go.Proofs.YtjnlchhikdfifaaDoor
/- slices.CompactFunc of a row of predicates. -/
namespace Go.Proofs.YtjnlchhikdfifaaDoor
open Go.RowKit Go.Sort Go.Lib
attribute [local go_sem] Oper.semAt_some

def kpQ (d : Array PR) (j : Nat) : Bool := decide (j = 0 ∨ cmpR d[j]! d[j - 1]! ≠ 0)
theorem kpQ_true {d : Array PR} {j : Nat} (h : j = 0 ∨ cmpR d[j]! d[j - 1]! ≠ 0) : kpQ d j = true := decide_eq_true h
theorem kpQ_false {d : Array PR} {j : Nat} (h : ¬ (j = 0 ∨ cmpR d[j]! d[j - 1]! ≠ 0)) : kpQ d j = false := decide_eq_false h
theorem bang_memR {d : Array PR} {j : Nat} (h : j < d.size) : d[j]! ∈ d.toList := by
  rw [← getD_bang d j h]; exact getD_memR (by simpa using h)
theorem RowG.take' {T : TypeId} {g : Nat} {l : List PR} {w : World} (h : RowG T g l w) (k : Nat) : RowG T g (l.take k) w := by
  obtain ⟨cs, h1, h2, h3⟩ := h
  have hl : (l.take k).length ≤ l.length := by simp; omega
  refine ⟨cs, h1, by omega, fun i hi => ?_⟩
  have e : (l.take k).getD i noP = l.getD i noP := by
    have : i < k := by simp at hi; omega
    simp [List.getD, this]
  rw [e]
  exact h3 i (by omega)
theorem RowG.of_eq' {T : TypeId} {g : Nat} {l m : List PR} {w : World} (h : RowG T g l w) (e : l = m) : RowG T g m w := e ▸ h
theorem RowG.setCells {T : TypeId} {g : Nat} {l : List PR} {w : World} (h : RowG T g l w) (k : Nat) (hk : k ≤ l.length) (vs : List Value) : RowG T g (l.take k) (w.setCells g (k * 4) vs) := by
  obtain ⟨cs, h1, h2, h3⟩ := h.take' k
  obtain ⟨cs', e1, e2, e3⟩ := block_setCells g vs (k * 4) w cs h1
  refine ⟨cs', e1, by omega, fun i hi => ?_⟩
  have hik : i < k := by simp at hi; omega
  rw [e3 _ (by omega), e3 _ (by omega), e3 _ (by omega), e3 _ (by omega)]
  exact h3 i hi
theorem run_clearQ (w : World) (g k : Nat) (l : List PR) (h : RowG 35 g l w) (hk : k < l.length) (c : Nat) (ty : TypeId) :
    (Builtin.clear_ #[24] ty #[.slice (some ⟨g, k * 4, none⟩) (l.length - k) c]).run Tryd.prog w = .ok (.tuple #[]) (w.setCells g (k * 4) (Builtin.zeroCells zeroP (l.length - k)).toList) := by
  have hz : ∀ w, (zeroValue 35).run Tryd.prog w = .ok (.agg zeroP) w := fun _ => by kernel_rfl
  have hlen : (Builtin.zeroCells zeroP (l.length - k)).toList.length = (l.length - k) * 4 := by simp [Builtin.zeroCells, zeroP]
  obtain ⟨cs, h1, h2, _⟩ := h
  have hst := run_storeCells_cells (P := Tryd.prog) g (k * 4) (Builtin.zeroCells zeroP (l.length - k)).toList 0 w (fun j hj => by rw [hlen] at hj; rw [Lib.cell_of_heap h1, Array.getElem?_eq_getElem (by omega)]; rfl) (fun j _ => Lib.frozen_of_heap h1 _) (zeroCells_one _)
  simp only [Nat.add_zero] at hst
  obtain ⟨m, hm⟩ : ∃ m, l.length - k = m + 1 := ⟨l.length - k - 1, by omega⟩
  rw [hm] at hst ⊢
  simp [Builtin.clear_, run_underlying (Tryd.underlying24), hz, Value.cells, hst]

set_option maxRecDepth 100000 in
set_option maxHeartbeats 4000000 in
theorem compactQ_any (g cap : Nat) (d : List PR) (w : World) (h : RowG 35 g d w) (ht : Typ d w) (hf : FitsAll d) (hc : d.length ≤ cap) (hl : d.length < 1152921504606846976) (h0 : d ≠ []) :
    Calls Tryd.prog 26 #[.slice (some ⟨g, 0, none⟩) d.length cap, .func (.func 27) #[] #[]] w fun e w' =>
      e = .returned (.slice (some ⟨g, 0, none⟩) (keptUpTo (kpQ d.toArray) d.toArray d.length).length cap) ∧ RowG 35 g (keptUpTo (kpQ d.toArray) d.toArray d.length) w' ∧ Fr g w w' := by
  have HH := Lib.hid h
  have HQQ := Lib.hid (fun (x y : PR) (hx : x ∈ d) (hy : y ∈ d) (W : World) (hW : Fr g w W) => (show Calls Tryd.prog 27 #[pairV x, pairV y] W fun e w' => e = .returned (.bool (cmpR x y == 0)) ∧ Below W.heap.size W w' from
    have hk := h.keepT (by decide) hW
    sameQ_any x y W (hf x hx) ((ht x hx).keep hk) ((ht y hy).keep hk)))
  clear ht hf
  have hpos : 0 < d.length := List.length_pos_iff.2 h0
  obtain ⟨A, hA⟩ : ∃ A, d.toArray = A := ⟨_, rfl⟩
  have hAs : A.size = d.length := by rw [← hA]; simp
  have hAl : A.toList = d := by rw [← hA]
  rw [hA]
  have HA := Lib.hid hAl
  clear h hA hAl h0
  by_cases h2 : d.length < 2
  · have h1 : d.length = 1 := by omega
    have hk : keptUpTo (kpQ A) A 1 = d := by
      have : keptUpTo (kpQ A) A 1 = [A[0]!] := by rw [keptUpTo_succ, kpQ_true (.inl rfl)]; rfl
      rw [this, ← getD_bang A 0 (by omega), HA.out]
      match d, h1 with
      | [x], _ => rfl
    rw [h1, hk]
    clear hk
    rw [h1] at *
    go_enter Tryd.func26, Tryd.ntmps26
    go_wp2
    go_ret
    exact ⟨rfl, HH.out, Fr.refl _ _⟩
  · have h2i : ¬ ((d.length : Int) < 2) := by omega
    obtain ⟨res, hres⟩ : ∃ r, keptUpTo (kpQ A) A d.length = r := ⟨_, rfl⟩
    have HR := Lib.hid hres
    rw [hres]
    clear hres
    go_enter Tryd.func26, Tryd.ntmps26
    go_wp2
    go_loopw [5] (fun vk wr => ∃ k : Nat, (1 ≤ k ∧ k ≤ d.length) ∧ vk = .int .i64 k ∧ Hid (Below w.heap.size w wr) ∧ Hid (∀ j, j < k → kpQ A j = true)) (fun vk _ => d.length - (intOf vk).toNat)
    case atStart => exact ⟨1, ⟨Nat.le_refl _, by omega⟩, rfl, Lib.hid (Below.refl _ _), Lib.hid fun j hj => kpQ_true (.inl (by omega))⟩
    case round =>
      obtain ⟨k, ⟨hk1, hk⟩, rfl, hB, hall⟩ := hrel
      by_cases hlt : k < d.length
      · obtain ⟨q, rfl⟩ : ∃ q, k = q + 1 := ⟨k - 1, by omega⟩
        have HRr := Lib.hid (HH.out.below hB.out)
        obtain ⟨x0, x1, x2, x3⟩ := HRr.out.cells hlt
        obtain ⟨y0, y1, y2, y3⟩ := HRr.out.cells (i := q) (by omega)
        have e1 : d.getD (q + 1) noP = A[q + 1]! := by rw [← HA.out]; exact getD_bang A _ (by omega)
        have e2 : d.getD q noP = A[q]! := by rw [← HA.out]; exact getD_bang A _ (by omega)
        have HK := Lib.hid (show (cmpR (d.getD (q + 1) noP) (d.getD q noP) == 0) = (cmpR A[q + 1]! A[q]! == 0) by rw [e1, e2])
        have HC := Lib.hid (fun dd os => Calls.regrown_of (HQQ.out (d.getD (q + 1) noP) (d.getD q noP) (getD_memR hlt) (getD_memR (by omega)) _ ((Fr.of_below (g := g) hB.out).trans (Fr.of_below (below_regrown wr dd os)))))
        have X0 := cell_regrown x0; have X1 := cell_regrown x1; have X2 := cell_regrown x2; have X3 := cell_regrown x3
        have Y0 := cell_regrown y0; have Y1 := cell_regrown y1; have Y2 := cell_regrown y2; have Y3 := cell_regrown y3
        clear x0 x1 x2 x3 y0 y1 y2 y3
        clear e1 e2
        generalize d.getD (q + 1) noP = x at *
        generalize d.getD q noP = y at *
        simp only [pairV] at HC
        obtain ⟨bb, hbb⟩ : ∃ b, (cmpR x y == 0) = b := ⟨_, rfl⟩
        rw [hbb] at HC HK
        clear hbb
        have hwp : IntKind.i64.wrap (q : Int) = (q : Int) := by rw [IntKind.wrap_i64]; omega
        have hwp2 : IntKind.i64.wrap (((q + 1 : Nat) : Int) - 1) = (q : Int) := by rw [IntKind.wrap_i64]; omega
        have jz : (q : Int) + 1 < (d.length : Int) := by omega
        have jz1 : (q : Int) < (d.length : Int) := by omega
        have p0 : (0 : Int) ≤ (q : Int) + 1 := by omega
        have e0 : ((q : Int) + 1).toNat = q + 1 := by omega
        have hH := HC.out
        go_wp2_with fail
        refine wp_region_quiet_below (by kernel_rfl) (by kernel_rfl) ?_
        repeat (quiet_step (first | exact hH _ _ | (go_at_fn 27; exact hH _ _)))
        refine wpQuiet_nil ?_
        intro _ hw'
        obtain ⟨⟨dq, osq⟩, hw''⟩ := hw'
        subst hw''
        have HB2 := Lib.hid (below_regrown wr dq osq)
        clear X0 X1 X2 X3 Y0 Y1 Y2 Y3 hH HC
        generalize grow (redrawn wr dq) osq = wr5 at *
        cases bb with
        | true =>
            have HD := Lib.hid (show cmpR A[q + 1]! A[q]! = 0 from by have := HK.out; simpa using this.symm)
            have HFr := Lib.hid ((Fr.of_below (g := g) hB.out).trans (Fr.of_below HB2.out))
            have HRw := Lib.hid (HRr.out.below HB2.out)
            clear HK hB HB2 HRr
            have hjc : (q : Int) + 1 ≤ (cap : Int) := by omega
            go_wp2
            generalize hm2 : d.length - (q + 1) = m2
            generalize cap - (q + 1) = c2
            go_loopw [5, 7] (fun vk vk2 wr => ∃ (k k2 : Nat) (dk : Array PR), (1 ≤ k2 ∧ q + 1 + k2 ≤ d.length) ∧ vk = .int .i64 k ∧ vk2 = .int .i64 k2 ∧ Hid (KeptInv (kpQ A) A (q + 1 + k2) k dk) ∧ Hid (RowG 35 g dk.toList wr) ∧ Hid (Fr g w wr)) (fun _ vk2 _ => d.length - (intOf vk2).toNat)
            case atStart =>
              refine ⟨q + 1, 1, A, ⟨Nat.le_refl _, by omega⟩, by go_num, by go_num, Lib.hid (KeptInv.start hall.out (kpQ_false ?_)), Lib.hid (by rw [HA.out]; exact HRw.out), HFr⟩
              rintro (h | h)
              · omega
              · exact h (by simpa using HD.out)
            case round =>
              obtain ⟨k, k2, dk, ⟨hk21, hk2⟩, rfl, rfl, hI, hRow, hF⟩ := hrel
              have hsz : dk.size = d.length := hI.out.size.trans hAs
              have hkm := hI.out.lt
              by_cases hlt2 : k2 < m2
              · obtain ⟨r, rfl⟩ : ∃ r, k2 = r + 1 := ⟨k2 - 1, by omega⟩
                have hlt3 : q + 1 + (r + 1) < d.length := by omega
                obtain ⟨x0, x1, x2, x3⟩ := hRow.out.cells (i := q + 1 + (r + 1)) (by simp; omega)
                obtain ⟨y0, y1, y2, y3⟩ := hRow.out.cells (i := q + 1 + r) (by simp; omega)
                have e1 : dk.toList.getD (q + 1 + (r + 1)) noP = A[q + 1 + (r + 1)]! := by rw [getD_bang dk _ (by omega)]; exact hI.out.high _ (by omega)
                have e2 : dk.toList.getD (q + 1 + r) noP = A[q + 1 + r]! := by rw [getD_bang dk _ (by omega)]; exact hI.out.high _ (by omega)
                rw [e1] at x0 x1 x2 x3
                rw [e2] at y0 y1 y2 y3
                have ea : (q + 1 + (r + 1)) * 4 = (q + 1) * 4 + (r + 1) * 4 := by omega
                have eb : (q + 1 + r) * 4 = (q + 1) * 4 + r * 4 := by omega
                rw [ea] at x0 x1 x2 x3
                rw [eb] at y0 y1 y2 y3
                have HC := Lib.hid (fun dd os => Calls.regrown_of (HQQ.out A[q + 1 + (r + 1)]! A[q + 1 + r]! (by rw [← HA.out]; exact bang_memR (by omega)) (by rw [← HA.out]; exact bang_memR (by omega)) _ (hF.out.trans (Fr.of_below (below_regrown wr dd os)))))
                have X0 := cell_regrown x0; have X1 := cell_regrown x1; have X2 := cell_regrown x2; have X3 := cell_regrown x3
                have Y0 := cell_regrown y0; have Y1 := cell_regrown y1; have Y2 := cell_regrown y2; have Y3 := cell_regrown y3
                clear x0 x1 x2 x3 y0 y1 y2 y3
                have HKt := Lib.hid (fun (h : ¬ cmpR A[q + 1 + (r + 1)]! A[q + 1 + r]! = 0) => hI.out.keep (by omega) (kpQ_true (d := A) (j := q + 1 + (r + 1)) (.inr fun e => h (by simpa using e))))
                have HKf := Lib.hid (fun (h : cmpR A[q + 1 + (r + 1)]! A[q + 1 + r]! = 0) => hI.out.skip (kpQ_false (d := A) (j := q + 1 + (r + 1)) (by rintro (h' | h'); omega; exact h' (by simpa using h))))
                have HX := Lib.hid (fun (W : World) (h : Below wr.heap.size wr W) => (hRow.out.below h).cells (i := q + 1 + (r + 1)) (by simp; omega))
                rw [e1, ea] at HX
                clear e1 e2 ea eb
                generalize A[q + 1 + (r + 1)]! = x' at *
                generalize A[q + 1 + r]! = y' at *
                simp only [pairV] at HC
                obtain ⟨bb, hbb⟩ : ∃ b, (cmpR x' y' == 0) = b := ⟨_, rfl⟩
                rw [hbb] at HC
                have HE := Lib.hid hbb
                clear hbb
                have hwp3 : IntKind.i64.wrap (r : Int) = (r : Int) := by rw [IntKind.wrap_i64]; omega
                have hwp4 : IntKind.i64.wrap (((r + 1 : Nat) : Int) - 1) = (r : Int) := by rw [IntKind.wrap_i64]; omega
                have jz3 : (r : Int) + 1 < (m2 : Int) := by omega
                have jz4 : (r : Int) < (m2 : Int) := by omega
                have p3 : (0 : Int) ≤ (r : Int) + 1 := by omega
                have e3 : ((r : Int) + 1).toNat = r + 1 := by omega
                have kz : (k : Int) < (d.length : Int) := by omega
                have hH := HC.out
                go_wp2_with fail
                refine wp_region_quiet_below (by kernel_rfl) (by kernel_rfl) ?_
                repeat (quiet_step (first | exact hH _ _ | (go_at_fn 27; exact hH _ _)))
                refine wpQuiet_nil ?_
                intro _ hw'
                obtain ⟨⟨dq, osq⟩, hw''⟩ := hw'
                subst hw''
                have HB2 := Lib.hid (below_regrown wr dq osq)
                clear X0 X1 X2 X3 Y0 Y1 Y2 Y3 hH HC
                generalize grow (redrawn wr dq) osq = wr5 at *
                have HRw2 := Lib.hid (hRow.out.below HB2.out)
                have HFr2 := Lib.hid (hF.out.trans (Fr.of_below HB2.out))
                cases bb with
                | true =>
                  have HQ := Lib.hid (show cmpR x' y' = 0 from by simpa using HE.out)
                  go_wp2
                  go_roundw
                  case rel => exact ⟨k, r + 1 + 1, dk, ⟨by omega, by omega⟩, rfl, by go_num, Lib.hid (HKf.out HQ.out), HRw2, HFr2⟩
                  case measure => simp [intOf]; omega
                | false =>
                  have HQ := Lib.hid (show ¬ cmpR x' y' = 0 from by simpa using HE.out)
                  obtain ⟨x0, x1, x2, x3⟩ := HX.out _ HB2.out
                  obtain ⟨o0, o1, o2, o3⟩ := HRw2.out.cells (i := k) (by simp; omega)
                  have z0 := HRw2.out.free' (k * 4)
                  have z1 := HRw2.out.free' (k * 4 + 1)
                  have z2 := HRw2.out.free' (k * 4 + 2)
                  have z3 := HRw2.out.free' (k * 4 + 3)
                  clear HB2
                  go_wp2
                  go_roundw
                  case rel => exact ⟨k + 1, r + 1 + 1, dk.setIfInBounds k x', ⟨by omega, by omega⟩, by go_num, by go_num, Lib.hid (HKt.out HQ.out), Lib.hid ((HRw2.out.set k x').of_eq' (by simp)), Lib.hid (HFr2.out.trans (Fr.set4 g k _ x'))⟩
                  case measure => simp [intOf]; omega
              · have hm : q + 1 + k2 = d.length := by omega
                obtain rfl : k2 = m2 := by omega
                have hcl : ∀ ty c, (Builtin.clear_ #[24] ty #[.slice (some ⟨g, k * 4, none⟩) (d.length - k) c]).run Tryd.prog wr = .ok (.tuple #[]) (wr.setCells g (k * 4) (Builtin.zeroCells zeroP (d.length - k)).toList) := fun ty c => by
                  have := run_clearQ wr g k dk.toList hRow.out (by simp; omega) c ty
                  rwa [show dk.toList.length = d.length by simpa using hsz] at this
                have hlow := hI.out.low
                have hlen := hI.out.len
                rw [hm, HR.out] at hlow hlen
                have HT : Hid (dk.toList.take k = res) := Lib.hid (by
                  apply List.ext_getElem?
                  intro j
                  by_cases hj : j < k
                  · rw [hlow j hj, List.getElem?_take_of_lt hj, ← getD_bang dk j (by omega)]
                    simp [List.getD, show j < dk.size by omega]
                  · rw [List.getElem?_eq_none (by simp; omega), List.getElem?_eq_none (by omega)])
                have HL := Lib.hid hlen
                have kz : (k : Int) ≤ (d.length : Int) := by omega
                have kz2 : (k : Int) ≤ (cap : Int) := by omega
                clear hlow hlen HR
                go_wp2
                go_ret
                exact ⟨by rw [HL.out]; rfl, (hRow.out.setCells k (by simp; omega) _).of_eq' HT.out, hF.out.trans (Fr.setCells g _ _ _)⟩
        | false =>
          have HQ := Lib.hid (show ¬ cmpR A[q + 1]! A[q]! = 0 from by have := HK.out; simpa using this.symm)
          go_wp2
          go_roundw
          case rel =>
            refine ⟨q + 1 + 1, ⟨by omega, by omega⟩, by go_num, Lib.hid (hB.out.trans (HB2.out.mono hB.out.size)), Lib.hid fun j hj => ?_⟩
            by_cases e : j = q + 1
            · subst e; exact kpQ_true (.inr (by simpa using HQ.out))
            · exact hall.out j (by omega)
          case measure => simp [intOf]; omega
      · obtain rfl : k = d.length := by omega
        have hres : res = d := by
          rw [← HR.out, keptUpTo_all _ _ _ hall.out, ← hAs, range_map_get, HA.out]
        subst hres
        clear HR
        go_wp2
        go_ret
        exact ⟨rfl, HH.out.below hB.out, Fr.of_below hB.out⟩
end Go.Proofs.YtjnlchhikdfifaaDoor
/- slices.SortFunc of at most twelve predicates. -/
namespace Go.Proofs.YtjnlchhikdfifaaDoor
open Go.RowKit Go.Sort Go.Lib
attribute [local go_sem] Oper.semAt_some

set_option maxHeartbeats 2000000 in
theorem bitsLen64_s (n : Nat) (hn : n ≤ 12) (w : World) : Calls Tryd.prog 61 #[.int .u64 (n : Int)] w fun e w' => (∃ r : Int, e = .returned (.int .i64 r)) ∧ w = w' := by
  have h : n = 0 ∨ n = 1 ∨ n = 2 ∨ n = 3 ∨ n = 4 ∨ n = 5 ∨ n = 6 ∨ n = 7 ∨ n = 8 ∨ n = 9 ∨ n = 10 ∨ n = 11 ∨ n = 12 := by omega
  rcases h with rfl | rfl | rfl | rfl | rfl | rfl | rfl | rfl | rfl | rfl | rfl | rfl | rfl
  all_goals
    go_enter Tryd.func61, Tryd.ntmps61
    go_wp2
    go_ret
    exact ⟨⟨_, rfl⟩, rfl⟩
theorem bitsLen_s (n : Nat) (hn : n ≤ 12) (w : World) : Calls Tryd.prog 42 #[.int .u64 (n : Int)] w fun e w' => (∃ r : Int, e = .returned (.int .i64 r)) ∧ w = w' := by
  have HL := Lib.hid (fun W => bitsLen64_s n hn W)
  go_enter Tryd.func42, Tryd.ntmps42
  go_wp2_with (go_at_call 61; refine (HL.out _).mono ?_; rintro e w' ⟨⟨r, rfl⟩, rfl⟩)
  go_ret
  exact ⟨⟨_, rfl⟩, rfl⟩
set_option maxRecDepth 100000 in
set_option maxHeartbeats 2000000 in
theorem pdqQ_any (g cap : Nat) (l : List PR) (r : Int) (w : World) (h : RowG 35 g l w) (ht : Typ l w) (hf : FitsAll l) (hl : l.length ≤ 12) :
    Calls Tryd.prog 41 #[.slice (some ⟨g, 0, none⟩) l.length cap, .int .i64 0, .int .i64 (l.length : Int), .int .i64 r, .func (.func 25) #[] #[]] w fun e w' =>
      e = .returned (.tuple #[]) ∧ ∃ d, LeTo d.length d ∧ SrtI w g l d w' := by
  have HI := Lib.hid (fun W => fun (e : W = w) => (by subst e; exact insQ_any g cap l W h ht hf (by omega) : Calls Tryd.prog 52 #[.slice (some ⟨g, 0, none⟩) l.length cap, .int .i64 0, .int .i64 (l.length : Int), .func (.func 25) #[] #[]] W fun e w' => e = .returned (.tuple #[]) ∧ ∃ d, LeTo d.length d ∧ SrtI W g l d w'))
  have hz : (l.length : Int) ≤ 12 := by omega
  have hz2 : ¬ (12 : Int) < (l.length : Int) := by omega
  have hw : wrap64 ((l.length : Int) - 0) = (l.length : Int) := by unfold wrap64; omega
  clear h ht hf
  go_enter Tryd.func41, Tryd.ntmps41
  go_wp2
  refine wp_loop_rounds 1 ?_
  rw [rounds_succ]
  go_wp2_with (go_at_call 52; refine (HI.out _ rfl).mono ?_)
  rintro e w' ⟨rfl, d, hd, hs⟩
  have HD := Lib.hid (And.intro hd hs)
  clear hd hs
  go_wp2
  exact bodyPost_ret (v := .tuple #[]) (by simp [results, Tryd.results41, go_sem]) rfl ⟨rfl, d, HD.out⟩
theorem sortQ_any (g cap : Nat) (l : List PR) (w : World) (h : RowG 35 g l w) (ht : Typ l w) (hf : FitsAll l) (hl : l.length ≤ 12) :
    Calls Tryd.prog 24 #[.slice (some ⟨g, 0, none⟩) l.length cap, .func (.func 25) #[] #[]] w fun e w' =>
      e = .returned (.tuple #[]) ∧ ∃ d, LeTo d.length d ∧ SrtI w g l d w' := by
  have HP := Lib.hid (fun r => pdqQ_any g cap l r w h ht hf hl)
  have HB := Lib.hid (fun W => bitsLen_s l.length hl W)
  have hw : IntKind.u64.wrap (l.length : Int) = (l.length : Int) := by rw [IntKind.wrap_u64]; omega
  clear h ht hf
  go_enter Tryd.func24, Tryd.ntmps24
  go_wp2_with (first
    | (go_at_call 42; refine (HB.out _).mono ?_; rintro e w' ⟨⟨r, rfl⟩, rfl⟩)
    | (go_at_call 41; refine (HP.out _).mono ?_; rintro e w' ⟨rfl, d, hd, hs⟩; have HD := Lib.hid (And.intro hd hs); clear hd hs))
  go_end0
  exact ⟨rfl, d, HD.out⟩
end Go.Proofs.YtjnlchhikdfifaaDoor
/- scheme.SortPreds of at most twelve predicates: each once, in order. -/
namespace Go.Proofs.YtjnlchhikdfifaaDoor
open Go.RowKit Go.Sort Go.Lib
attribute [local go_sem] Oper.semAt_some

set_option maxRecDepth 100000 in
set_option maxHeartbeats 4000000 in
theorem predsG_any (s v : Value) (d : List PR) (l : List Pr) (w : World) (hl : d.length < 1000000) (hd : SizedAll d) (hs : SubAt s d w) (h : PrsAt w v l) (hq : ∀ q ∈ l, tsize q.2 ≤ 1000000000) (hn : l.length ≤ 1000000) :
    Calls Tryd.prog 23 #[.agg #[s], v] w fun e w' => (∃ ls, ls.map prOf = appP d l ∧ e = .returned (.slice (some ⟨w.heap.size + 1, 0, none⟩) l.length l.length) ∧ RowG 35 (w.heap.size + 1) ls w' ∧ Typ ls w') ∧ Below w.heap.size w w' := by
  obtain ⟨av, cv, rfl⟩ := h.shape
  have hmk := make_rowP l.length (by omega)
  have HS := Lib.hid hs
  obtain ⟨sa, sc, rfl⟩ := hs.shape
  have HRow := Lib.hid (fun (i : Nat) (hi : i < l.length) => (by obtain ⟨g, cap, e, hg, hc, hr⟩ := h.row (by rintro rfl; cases hi); exact ⟨g, cap, e, hg, hc, hr i hi⟩ : ∃ g cap, Value.slice av l.length cv = .slice (some ⟨g, 0, none⟩) l.length cap ∧ g < w.heap.size ∧ l.length ≤ cap ∧ ∃ a c, w.cell? ⟨g, i * 4, none⟩ = some (.string l[i].1) ∧ w.cell? ⟨g, i * 4 + 1, none⟩ = some (.int .i64 l[i].2.kind) ∧ w.cell? ⟨g, i * 4 + 2, none⟩ = some (.string l[i].2.name) ∧ w.cell? ⟨g, i * 4 + 3, none⟩ = some (.slice a l[i].2.kids.length c) ∧ TysAt w (.slice a l[i].2.kids.length c) l[i].2.kids))
  have HQ := Lib.hid hq
  have HB2 := Lib.hid (fun o1 o2 => below_two w o1 o2)
  clear hs h hq
  go_enter Tryd.func23, Tryd.ntmps23
  go_wp2
  go_loopw [13] (fun vi wr => ∃ (i : Nat) (ls : List PR), i ≤ l.length ∧ vi = .int .i64 i ∧ Hid ((ls.length = i ∧ ls.map prOf = appP d (l.take i)) ∧ RowKP (w.heap.size + 1) l.length ls wr ∧ Typ ls wr ∧ Below w.heap.size w wr) ∧ Hid (wr.heap[w.heap.size]? = some (.cells #[.slice sa d.length sc] 59 (0, 0)))) (fun vi _ => l.length - (intOf vi).toNat)
  case atStart =>
    exact ⟨0, [], Nat.zero_le _, rfl, Lib.hid ⟨⟨rfl, rfl⟩, RowKP.start _ _ _ (new_two w _ _), (fun _ h => nomatch h), HB2.out _ _⟩, Lib.hid ((Below.heap_alloc _ _ _ (by simp)).trans (alloc_new w _))⟩
  case round =>
    obtain ⟨i, ls, hi, rfl, hF, hBx⟩ := hrel
    have y0 : wr.cell? ⟨w.heap.size, 0, none⟩ = some (.slice sa d.length sc) := by rw [Lib.cell_of_heap hBx.out]; rfl
    have ly := (Array.getElem?_eq_some_iff.1 hBx.out).1
    have lG := hF.out.2.1.lt
    by_cases hlt : i < l.length
    · obtain ⟨⟨hll, hmap⟩, hRow, hTy, hB⟩ := hF.out
      obtain ⟨g, cap, e1, hg, hcap, pa, pc, x0, x1, x2, x3, xk⟩ := HRow.out i hlt
      cases e1
      have f1 := fun o => hB.cell (p := ⟨g, o, none⟩) hg
      rw [← f1] at x0 x1 x2 x3
      have hgw : g < wr.heap.size := Nat.lt_of_lt_of_le hg hB.size
      have hqs := HQ.out l[i] (List.getElem_mem hlt)
      have HA := Lib.hid (fun (V : World) (hb : Below w.heap.size w V) => apply_any (d := d) (t := l[i].2) (s := .slice sa d.length sc) (v := .slice pa l[i].2.kids.length pc) (w := V) (by omega) hd hqs (HS.out.below hb) (xk.keep (KeepT.of_below hb)))
      have HM := Lib.hid (show appP d (l.take (i + 1)) = appP d (l.take i) ++ [(l[i].1, app d l[i].2)] by unfold appP; rw [List.take_succ_eq_append_getElem hlt, List.map_append]; rfl)
      have HLen := Lib.hid hll; have HMap := Lib.hid hmap; have HRw := Lib.hid hRow; have HTy := Lib.hid hTy; have HB := Lib.hid hB
      clear f1 xk hqs hF hll hmap hRow hTy hB hmk HRow
      generalize l[i] = q at x0 x1 x2 x3 HA HM
      obtain ⟨cn, t⟩ := q
      simp only at x0 x1 x2 x3 HA HM
      simp only [ResT, tyV] at HA
      have hiz : (i : Int) < (l.length : Int) := by omega
      go_wp2
      have hbx := alloc_new wr (.cells #[.string cn, .int .i64 t.kind, .string t.name, .slice pa t.kids.length pc] 35)
      have hbb := below_a wr (.cells #[.string cn, .int .i64 t.kind, .string t.name, .slice pa t.kids.length pc] 35)
      have y0' : (wr.alloc (.cells #[.string cn, .int .i64 t.kind, .string t.name, .slice pa t.kids.length pc] 35)).cell? ⟨w.heap.size, 0, none⟩ = some (.slice sa d.length sc) := (hbb.cell (p := ⟨w.heap.size, 0, none⟩) ly).trans y0
      obtain ⟨V, hV⟩ : ∃ V, wr.alloc (.cells #[.string cn, .int .i64 t.kind, .string t.name, .slice pa t.kids.length pc] 35) = V := ⟨_, rfl⟩
      rw [hV] at hbx hbb y0' ⊢
      obtain ⟨v0, v1, v2, v3⟩ := four_cells hbx
      have HBX := Lib.hid hbx; have HBB := Lib.hid hbb
      have lV := (Array.getElem?_eq_some_iff.1 hbx).1
      clear hV hbx hbb x0 x1 x2 x3 y0
      go_region_with (first
        | (go_at_call 40; refine (HA.out _ ((HB.out.trans (HBB.out.mono HB.out.size)).drew)).mono ?_; rintro e w4 ⟨⟨a4, c4, rfl, g1⟩, g2⟩; have hB4 : Below wr.heap.size wr w4 := (HBB.out.drew).trans (g2.mono HBB.out.size); have hR4 := HRw.out.below hB4; obtain ⟨o0, o1, o2, o3, k0, k1, k2, k3⟩ := hR4.cells hlt; have f0 := Lib.frozen_of_heap hR4.row.choose_spec.1 (i * 4); have f1 := Lib.frozen_of_heap hR4.row.choose_spec.1 (i * 4 + 1); have f2 := Lib.frozen_of_heap hR4.row.choose_spec.1 (i * 4 + 2); have f3 := Lib.frozen_of_heap hR4.row.choose_spec.1 (i * 4 + 3); obtain ⟨n0, n1, n2, n3⟩ := four_cells ((g2.block _ lV).trans HBX.out); have HB4 := Lib.hid hB4; have HR4 := Lib.hid hR4; have HG1 := Lib.hid g1.tys; clear g1 g2 hB4 hR4))
      all_goals
        go_wp2
        have HP := HR4.out.push (by rw [HLen.out]; exact hlt) (⟨cn, app d t, a4, c4⟩ : PR)
        rw [HLen.out] at HP
        have HF4 := Lib.hid ((Fr.of_below (g := w.heap.size + 1) HB4.out).trans (Fr.set4 (w.heap.size + 1) i w4 (⟨cn, app d t, a4, c4⟩ : PR)))
        have hk1 := HR4.out.keepT (Fr.set4 (w.heap.size + 1) i w4 (⟨cn, app d t, a4, c4⟩ : PR))
        have hk2 : KeepT wr w4 := KeepT.of_below HB4.out
        go_roundw
        case rel =>
          refine ⟨i + 1, ls ++ [⟨cn, app d t, a4, c4⟩], by omega, by go_num, Lib.hid ⟨⟨by simp [HLen.out], ?_⟩, HP, ?_, HB.out.trans (HF4.out.below (by omega) HB.out.size)⟩, Lib.hid ((HF4.out.2 _ ly (by omega)).trans hBx.out)⟩
          · rw [List.map_append, HMap.out, HM.out]; rfl
          · intro y hy
            rcases List.mem_append.1 hy with hy | hy
            · exact ((HTy.out y hy).keep hk2).keep hk1
            · obtain rfl := List.mem_singleton.1 hy
              exact HG1.out.keep hk1
        case measure => simp [intOf]; omega
    · obtain rfl : i = l.length := by omega
      have hm := hF.out.1.2
      rw [List.take_length] at hm
      have HE := Lib.hid (And.intro hm (And.intro hF.out.2.1.row hF.out.2.2.1)); have HBz := Lib.hid hF.out.2.2.2
      clear hm hmk HRow hF
      go_wp2
      go_ret
      exact ⟨⟨ls, HE.out.1, rfl, HE.out.2⟩, HBz.out⟩
theorem appP_nil (l : List Pr) : appP [] l = l := by
  unfold appP
  rw [List.map_congr_left (g := id) fun q _ => by rw [app_nil]; rfl, List.map_id]
theorem kept_strict {A : Array PR} (h : LeTo A.size A.toList) : (keptUpTo (kpQ A) A A.size).Pairwise (fun x y => cmpR x y < 0) := by
  unfold keptUpTo
  rw [List.pairwise_map]
  refine List.Pairwise.imp_of_mem ?_ ((List.pairwise_lt_range (n := A.size)).filter (kpQ A))
  intro p q hp hq hlt
  obtain ⟨hq1, hq2⟩ := List.mem_filter.1 hq
  have hqs : q < A.size := List.mem_range.1 hq1
  have hk : q = 0 ∨ cmpR A[q]! A[q - 1]! ≠ 0 := of_decide_eq_true hq2
  have hk := hk.resolve_left (by omega)
  have e : ∀ i, i < A.size → A.toList.getD i noP = A[i]! := fun i hi => getD_bang A i hi
  have h1 := h (q - 1) q (by omega) hqs
  rw [e _ (by omega), e _ hqs] at h1
  have hn := cmpR_neg A[q]! A[q - 1]!
  by_cases hpq : p = q - 1
  · rw [hpq]; omega
  · have h2 := h p (q - 1) (by omega) (by omega)
    have h3 := h p q hlt hqs
    rw [e _ (by omega), e _ (by omega)] at h2
    rw [e _ (by omega), e _ hqs] at h3
    have ht := cmpR_tri A[p]! A[q - 1]! A[q]!
    unfold Tri at ht
    have ht3 := ht.2.2.1 h2 h1
    by_cases h0 : cmpR A[p]! A[q]! = 0
    · have := (ht3 h0).2; omega
    · omega
theorem kept_mem {A : Array PR} (q : Pr) : q ∈ (keptUpTo (kpQ A) A A.size).map prOf ↔ q ∈ A.toList.map prOf := by
  constructor
  · intro h
    obtain ⟨x, hx, rfl⟩ := List.mem_map.1 h
    unfold keptUpTo at hx
    obtain ⟨j, hj, rfl⟩ := List.mem_map.1 hx
    exact List.mem_map.2 ⟨_, bang_memR (List.mem_range.1 (List.mem_filter.1 hj).1), rfl⟩
  · intro h
    obtain ⟨x, hx, rfl⟩ := List.mem_map.1 h
    obtain ⟨j, hj, rfl⟩ := mem_getD hx
    have hj' : j < A.size := by simpa using hj
    rw [getD_bang A j hj']
    have key : ∀ j, j < A.size → prOf A[j]! ∈ (keptUpTo (kpQ A) A A.size).map prOf := by
      intro j
      induction j with
      | zero => intro hj; exact List.mem_map.2 ⟨_, List.mem_map.2 ⟨0, List.mem_filter.2 ⟨List.mem_range.2 hj, kpQ_true (.inl rfl)⟩, rfl⟩, rfl⟩
      | succ j ih =>
        intro hj
        by_cases hk : cmpR A[j + 1]! A[j]! = 0
        · have e := (cmpR_zero _ _).1 hk
          have : prOf A[j + 1]! = prOf A[j]! := by unfold prOf; rw [e.1, e.2]
          rw [this]; exact ih (by omega)
        · exact List.mem_map.2 ⟨_, List.mem_map.2 ⟨j + 1, List.mem_filter.2 ⟨List.mem_range.2 hj, kpQ_true (.inr (by simpa using hk))⟩, rfl⟩, rfl⟩
    exact key j hj'
end Go.Proofs.YtjnlchhikdfifaaDoor
/- scheme.SortPreds of at most twelve predicates: each once, in order. -/
namespace Go.Proofs.YtjnlchhikdfifaaDoor
open Go.RowKit Go.Sort Go.Lib
attribute [local go_sem] Oper.semAt_some

/-- What SortPreds hands back: the same predicates, each once, in order. -/
def SpRes (l : List Pr) (w : World) (e : Ending) (w' : World) : Prop :=
  (∃ (ks : List PR) (a : Option Addr) (c : Nat), e = .returned (.slice a ks.length c) ∧ PrsAt w' (.slice a ks.length c) (ks.map prOf) ∧ ks.Pairwise (fun x y => cmpR x y < 0) ∧ ∀ q, q ∈ ks.map prOf ↔ q ∈ l) ∧ Below w.heap.size w w'
theorem sp_end {g cap : Nat} {l : List Pr} {ls d : List PR} {w w1 w2 w3 : World} (hg : w.heap.size ≤ g) (hm : ls.map prOf = l) (hr : RowG 35 g ls w1) (ht : Typ ls w1) (hb : Below w.heap.size w w1) (hd : LeTo d.length d) (hs : SrtI w1 g ls d w2) (hc : ls.length ≤ cap)
    (hk : RowG 35 g (keptUpTo (kpQ d.toArray) d.toArray d.length) w3) (hf : Fr g w2 w3) : SpRes l w (.returned (.slice (some ⟨g, 0, none⟩) (keptUpTo (kpQ d.toArray) d.toArray d.length).length cap)) w3 := by
  have hsz : d.toArray.size = d.length := by simp
  have hfr := hs.2.2.trans hf
  have hkT := hr.keepT (by decide) hfr
  have hst := kept_strict (A := d.toArray) (by rw [hsz]; exact hd)
  have hmem := @kept_mem d.toArray
  rw [hsz] at hst hmem
  have hsub : ∀ x ∈ keptUpTo (kpQ d.toArray) d.toArray d.length, x ∈ ls := fun x hx => by
    unfold keptUpTo at hx
    obtain ⟨j, hj, rfl⟩ := List.mem_map.1 hx
    have := bang_memR (d := d.toArray) (j := j) (by rw [hsz]; exact List.mem_range.1 (List.mem_filter.1 hj).1)
    exact (hs.1.2 _).1 this
  have hlen : (keptUpTo (kpQ d.toArray) d.toArray d.length).length ≤ cap := by
    have : (keptUpTo (kpQ d.toArray) d.toArray d.length).length ≤ d.length := by
      unfold keptUpTo
      rw [List.length_map]
      exact Nat.le_trans (List.length_filter_le ..) (by simp)
    have := hs.1.1; omega
  refine ⟨⟨_, _, _, rfl, prs_of_rowG hk (fun x hx => (ht x (hsub x hx)).keep hkT) hlen, hst, fun q => ?_⟩, hb.trans (hfr.below hg hb.size)⟩
  rw [hmem, ← hm]
  simp only [List.mem_map]
  exact ⟨fun ⟨x, hx, e⟩ => ⟨x, (hs.1.2 x).1 hx, e⟩, fun ⟨x, hx, e⟩ => ⟨x, (hs.1.2 x).2 hx, e⟩⟩
set_option maxRecDepth 100000 in
set_option maxHeartbeats 2000000 in
theorem sortPreds_any (l : List Pr) (v : Value) (w : World) (h : PrsAt w v l) (hq : ∀ q ∈ l, tsize q.2 ≤ 1000000000) (hf : ∀ q ∈ l, Fits q.2) (hl : l.length ≤ 12) :
    Calls Tryd.prog 7 #[v] w (SpRes l w) := by
  obtain ⟨av, cv, rfl⟩ := h.shape
  have HP := Lib.hid (predsG_any (.slice none 0 0) _ [] l w (by decide) (fun _ h => nomatch h) (sub_nil w none 0 (fun _ => rfl)) h hq (by omega))
  have HF := Lib.hid hf
  clear h hq hf
  go_enter Tryd.func7, Tryd.ntmps7
  go_wp2_with (go_at_call 23; fail)
  refine HP.out.mono ?_
  rintro e w1 ⟨⟨ls, hm, rfl, hr, ht⟩, hb⟩
  rw [appP_nil] at hm
  have hll : ls.length = l.length := by have := congrArg List.length hm; simpa using this
  by_cases h0 : l.length = 0
  · have HB := Lib.hid hb
    have e0 : l = [] := List.length_eq_zero_iff.1 h0
    subst e0
    clear hb hr ht hm hll HP HF
    simp only [List.length_nil]
    go_wp2_with (first
      | (go_at_call 24; refine (sort0 _ _ _ _).mono ?_; rintro e w' ⟨rfl, rfl⟩)
      | (go_at_call 26; refine (compact0 _ _ _ _).mono ?_; rintro e w' ⟨rfl, rfl⟩))
    go_ret
    exact ⟨⟨[], _, _, rfl, .inl ⟨rfl, _, _, rfl⟩, List.Pairwise.nil, fun q => by simp⟩, HB.out⟩
  · have hfa : FitsAll ls := fun x hx => HF.out (prOf x) (by rw [← hm]; exact List.mem_map.2 ⟨x, hx, rfl⟩)
    have hS := sortQ_any (w.heap.size + 1) l.length ls w1 hr ht hfa (by omega)
    rw [hll] at hS
    have HS := Lib.hid hS
    have HH := Lib.hid (And.intro hm (And.intro hr (And.intro ht (And.intro hb hfa))))
    clear hS hfa hm hr ht hb HP HF
    go_wp2_with (go_at_call 24; fail)
    refine HS.out.mono ?_
    rintro e w2 ⟨rfl, d, hd, hs⟩
    have hdl : d.length = l.length := hs.1.1.trans hll
    have hkT := HH.out.2.1.keepT (by decide) hs.2.2
    have hC := compactQ_any (w.heap.size + 1) l.length d w2 hs.2.1 (fun x hx => (HH.out.2.2.1 x ((hs.1.2 x).1 hx)).keep hkT) (fun x hx => HH.out.2.2.2.2 x ((hs.1.2 x).1 hx)) (by omega) (by omega) (fun e => by subst e; simp at hdl; omega)
    have HC := Lib.hid (hC.mono fun e w3 ⟨e1, hk, hf⟩ => (show ∃ k : Nat, e = Ending.returned (.slice (some ⟨w.heap.size + 1, 0, none⟩) k l.length) ∧ SpRes l w (Ending.returned (.slice (some ⟨w.heap.size + 1, 0, none⟩) k l.length)) w3 from ⟨_, e1, sp_end (Nat.le_succ _) HH.out.1 HH.out.2.1 HH.out.2.2.1 HH.out.2.2.2.1 hd hs (by omega) hk hf⟩))
    rw [hdl] at HC
    clear hC hkT hd hs HS HH
    go_wp2_with (go_at_call 26; fail)
    refine HC.out.mono ?_
    rintro e w3 ⟨k, rfl, hE⟩
    have HE := Lib.hid hE
    clear hE HC
    go_wp2_with (fail)
    go_ret
    exact HE.out
end Go.Proofs.YtjnlchhikdfifaaDoor
/- The types that are made of numbers: good ones, of a bounded text. -/
namespace Go.Proofs.YtjnlchhikdfifaaDoor
open Go.RowKit
attribute [local go_sem] Oper.semAt_some
attribute [local go_sem ↓] Go.wp_at_zero Go.wp_at_succ

/-- What a maker of a type hands back. -/
def MadeN (B p : Nat) (a : Option Addr) (n c k m D : Nat) (w : World) (e : Ending) (w' : World) : Prop :=
  (∃ t u, e = .returned (tyV t u) ∧ (T.Good t ∧ Fits t ∧ (T.text t).length + 10 ≤ D) ∧ TyIn (fun k => w.heap.size ≤ k) w' t u) ∧ (∃ k', k' + 1 ≤ k + m ∧ SeqAt B p a n c k' w') ∧ MkFr B p w w'
/-- The end: the type is stored in the result's own block. -/
theorem made_fn {B p : Nat} {a : Option Addr} {n c k k' m D : Nat} {w W : World} {O : Obj} {t : T} {u x y z : Value} (hs : SeqAt B p a n c k' W) (hk : k' + 1 ≤ k + m) (hfr : MkFr B p (w.alloc O) W) (hp : p < w.heap.size)
    (_ : W.heap[w.heap.size]? = some (.cells #[.int .i64 0, .string ⟨#[]⟩, .slice none 0 0] 33 (0, 0))) (ht : TyIn (fun k => w.heap.size < k) W t u) (hg : T.Good t ∧ Fits t ∧ (T.text t).length + 10 ≤ D) :
    MadeN B p a n c k m D w (.returned (tyV t u)) (((W.setCell ⟨w.heap.size, 0, none⟩ x).setCell ⟨w.heap.size, 1, none⟩ y).setCell ⟨w.heap.size, 2, none⟩ z) := by
  have hk3 : ∀ i, i ≠ w.heap.size → (((W.setCell ⟨w.heap.size, 0, none⟩ x).setCell ⟨w.heap.size, 1, none⟩ y).setCell ⟨w.heap.size, 2, none⟩ z).heap[i]? = W.heap[i]? := fun i hi =>
    (Below.heap_setCell _ ⟨w.heap.size, 2, none⟩ _ i hi).trans ((Below.heap_setCell _ ⟨w.heap.size, 1, none⟩ _ i hi).trans (Below.heap_setCell _ ⟨w.heap.size, 0, none⟩ _ i hi))
  have hB := hs.1.1
  have hbel : Below B W (((W.setCell ⟨w.heap.size, 0, none⟩ x).setCell ⟨w.heap.size, 1, none⟩ y).setCell ⟨w.heap.size, 2, none⟩ z) :=
    (((Below.refl B W).setCell (p := ⟨w.heap.size, 0, none⟩) (by show B ≤ w.heap.size; omega) _).setCell (p := ⟨w.heap.size, 1, none⟩) (by show B ≤ w.heap.size; omega) _).setCell (p := ⟨w.heap.size, 2, none⟩) (by show B ≤ w.heap.size; omega) _
  refine ⟨⟨t, u, rfl, hg, (ht.keep fun k _ _ hk hh => (hk3 k (Nat.ne_of_gt hk)).trans hh).mono fun k hk => Nat.le_of_lt hk⟩, ⟨k', hk, ⟨hB, (hk3 p (by omega)).trans hs.1.2⟩, hs.2.keep hbel⟩, ?_, ?_⟩
  · exact (((Below.refl B w).alloc (by omega) O).trans hfr.1).trans hbel
  · intro i o hi hip
    have hlt := (Array.getElem?_eq_some_iff.1 hi).1
    exact (hk3 i (by omega)).trans (hfr.2 i o ((Below.heap_alloc w O i hlt).trans hi) hip)

theorem in_one {ok : Nat → Prop} {W : World} {t : T} {v : Value} (n : ByteArray) (hok : ok W.heap.size) (h : TyIn ok W t v) : TyIn ok (W.alloc (.cells #[.int .i64 t.kind, .string t.name, v] 33)) (.con n [t]) (.slice (some ⟨W.heap.size, 0, none⟩) 1 1) := by
  refine .row (.con n [t]) W.heap.size 1 #[.int .i64 t.kind, .string t.name, v] (0, 0) (fun _ => v) hok (alloc_new W _) (Nat.le_refl _) (fun i hi => ?_) (fun i hi => ?_)
  · obtain rfl : i = 0 := by simp [T.kids] at hi; exact hi
    exact ⟨rfl, rfl, rfl⟩
  · obtain rfl : i = 0 := by simp [T.kids] at hi; exact hi
    exact h.keep fun k _ _ _ hh => (Below.heap_alloc W _ k (Array.getElem?_eq_some_iff.1 hh).1).trans hh
theorem in_pair {ok : Nat → Prop} {W : World} {t t' c : T} {v v' : Value} {g : Nat} (hg : g = W.heap.size) (hc : c.kids = [t, t']) (hok : ok W.heap.size) (h : TyIn ok W t v) (h' : TyIn ok W t' v') : TyIn ok (W.alloc (.cells #[.int .i64 t.kind, .string t.name, v, .int .i64 t'.kind, .string t'.name, v'] 33)) c (.slice (some ⟨g, 0, none⟩) 2 2) := by
  subst hg
  have hl : c.kids.length = 2 := by rw [hc]; rfl
  have hkeep : ∀ (o : Obj) {t : T} {v : Value}, TyIn ok W t v → TyIn ok (W.alloc o) t v := fun o t v h => h.keep fun k _ _ _ hh => (Below.heap_alloc W _ k (Array.getElem?_eq_some_iff.1 hh).1).trans hh
  rw [show (Value.slice (some ⟨W.heap.size, 0, none⟩) 2 2) = .slice (some ⟨W.heap.size, 0, none⟩) c.kids.length 2 by rw [hl]]
  refine .row c W.heap.size 2 #[.int .i64 t.kind, .string t.name, v, .int .i64 t'.kind, .string t'.name, v'] (0, 0) (fun i => if i = 0 then v else v') hok (alloc_new W _) (by rw [hl]; exact Nat.le_refl _) (fun i hi => ?_) (fun i hi => ?_)
  · have hi2 : i < 2 := by omega
    have e : c.kids[i] = [t, t'][i] := by simp [hc]
    rw [e]
    match i, hi2 with
    | 0, _ => exact ⟨rfl, rfl, rfl⟩
    | 1, _ => exact ⟨rfl, rfl, rfl⟩
    | n + 2, h => omega
  · have hi2 : i < 2 := by omega
    have e : c.kids[i] = [t, t'][i] := by simp [hc]
    rw [e]
    match i, hi2 with
    | 0, _ => exact hkeep _ h
    | 1, _ => exact hkeep _ h'
    | n + 2, h => omega
set_option maxHeartbeats 1000000 in
theorem con_in {ok : Nat → Prop} (n : ByteArray) (a : Option Addr) (l : List T) (k c : Nat) (w : World) (h : TyIn ok w (.con n l) (.slice a k c)) :
    Calls Tryd.prog 29 #[.string n, .slice a k c] w fun e w' => (∃ u, e = .returned (tyV (.con n l) u) ∧ TyIn ok w' (.con n l) u) ∧ Below w.heap.size w w' := by
  have H := Lib.hid h; clear h
  go_enter Tryd.func29, Tryd.ntmps29
  go_wp2
  refine bodyPost_ret (v := tyV (.con n l) (.slice a k c)) (by simp [results, Tryd.results29, go_sem, tyV, T.kind, T.name]) rfl ⟨⟨_, rfl, H.out.keep fun k _ _ _ hh => (Below.heap_alloc w _ k (Array.getElem?_eq_some_iff.1 hh).1).trans hh⟩, (Below.refl _ w).alloc (Nat.le_refl _) _⟩
set_option maxHeartbeats 1000000 in
theorem fun2_in {ok : Nat → Prop} (x y : T) (a b : Option Addr) (c d : Nat) (w : World) (hok : ∀ k, w.heap.size ≤ k → ok k) (hx : TyIn ok w x (.slice a x.kids.length c)) (hy : TyIn ok w y (.slice b y.kids.length d)) :
    Calls Tryd.prog 30 #[tyV x (.slice a x.kids.length c), tyV y (.slice b y.kids.length d)] w fun e w' => (∃ u, e = .returned (tyV (.fn x y) u) ∧ TyIn ok w' (.fn x y) u) ∧ Below w.heap.size w w' := by
  have HX := Lib.hid hx; have HY := Lib.hid hy; have HK := Lib.hid hok
  clear hx hy hok
  simp only [tyV]
  go_enter Tryd.func30, Tryd.ntmps30
  go_wp2
  have k3 : ∀ (o1 o2 o3 : Obj) {t : T} {v : Value}, TyIn ok w t v → TyIn ok (((w.alloc o1).alloc o2).alloc o3) t v := fun o1 o2 o3 t v h => h.keep (fun k cs fz _ hh => (((keepT_alloc w o1).trans (keepT_alloc _ o2)).trans (keepT_alloc _ o3)) k cs fz hh)
  refine bodyPost_ret (v := .agg #[.int .i64 3, .string ⟨#[]⟩, .slice (some ⟨w.heap.size + 1 + 1 + 1, 0, none⟩) 2 2]) (by simp [results, Tryd.results30, go_sem]) rfl ⟨⟨_, rfl, ?_⟩, ?_⟩
  · exact in_pair (by simp) rfl (HK.out _ (by simp; omega)) (k3 _ _ _ HX.out) (k3 _ _ _ HY.out)
  · exact ((((Below.refl _ w).alloc (Nat.le_refl _) _).alloc (by simp) _).alloc (by simp; omega) _).alloc (by simp; omega) _

set_option maxHeartbeats 4000000 in
theorem make_n0 (B p : Nat) (a : Option Addr) (n c k : Nat) (w : World) (h : SeqAt B p a n c k w) (hk : k < 1152921504606846976) (hn : n < 1152921504606846976) :
    Calls Tryd.prog 12 #[.pointer (some ⟨p, 0, none⟩), .int .i64 0] w (MadeN B p a n c k 2 14 w) := by
  have hp := h.lt
  have HN := Lib.hid (fun o => next_any B p a n c k 9 (w.alloc o) (h.below ((Below.refl _ w).alloc (Nat.le_refl _) o)) (by decide) (by decide) hk hn)
  have HNe := Lib.hid (show w.heap.size ≠ p by omega)
  clear h
  go_enter Tryd.func12, Tryd.ntmps12
  go_wp2_with (go_at_call 21; refine (HN.out _).mono ?_)
  rintro e W1 ⟨⟨r, hr, rfl⟩, h1, h2⟩
  have hz := h2.2 _ _ (alloc_new w _) HNe.out
  obtain ⟨c0, c1, c2⟩ := three_cells hz
  have f0 := Lib.frozen_of_heap hz 0
  have f1 := Lib.frozen_of_heap hz 1
  have f2 := Lib.frozen_of_heap hz 2
  have HZ := Lib.hid hz; have H1 := Lib.hid h1; have H2 := Lib.hid h2
  have hzl := (Array.getElem?_eq_some_iff.1 hz).1
  clear hz h1 h2
  obtain ⟨z, hz⟩ : ∃ z : Int, (r : Int) = z := ⟨_, rfl⟩
  rw [hz]
  have h9 : z = 0 ∨ z = 1 ∨ z = 2 ∨ z = 3 ∨ z = 4 ∨ z = 5 ∨ z = 6 ∨ z = 7 ∨ z = 8 := by omega
  clear hz hr
  rcases h9 with rfl | rfl | rfl | rfl | rfl | rfl | rfl | rfl | rfl
  · go_wp2_with (go_at_call 16; refine (var_any _ _).mono ?_)
    rintro e W2 ⟨⟨u, rfl, hu⟩, hb⟩
    have HBT := Lib.hid (((Below.refl _ W1).alloc (Nat.le_refl _) _).trans (hb.mono (by simp)))
    clear hb
    obtain ⟨a2, n2, rfl⟩ := hu.shape
    have hz2 : W2.heap[w.heap.size]? = some (.cells #[.int .i64 0, .string ⟨#[]⟩, .slice none 0 0] 33 (0, 0)) := (HBT.out.block _ hzl).trans HZ.out
    obtain ⟨d0, d1, d2⟩ := three_cells hz2
    have g0 := Lib.frozen_of_heap hz2 0
    have g1 := Lib.frozen_of_heap hz2 1
    have g2 := Lib.frozen_of_heap hz2 2
    have HZ2 := Lib.hid hz2; have HU := Lib.hid hu
    clear hz2 hu c0 c1 c2 f0 f1 f2
    simp only [tyV, T.kind, T.name, List.length_nil]
    go_wp2
    exact bodyPost_ret (v := .agg #[.int .i64 1, .string ⟨#[97]⟩, .slice a2 0 n2]) (by have hc := set3_cells HZ2.out (.int .i64 1) (.string ⟨#[97]⟩) (.slice a2 0 n2); simp [results, Tryd.results12, go_sem, hc.1, hc.2.1, hc.2.2]) rfl (made_fn (t := .var ⟨#[97]⟩) (H1.out.below HBT.out) (by omega) (H2.out.trans (MkFr.of_below HBT.out (Nat.le_trans H1.out.1.1 (Nat.le_of_lt H1.out.lt)))) hp HZ2.out (.leaf _ _ _ rfl) (good_var (by decide) (by decide) (by decide)))
  · go_wp2_with (go_at_call 16; refine (var_any _ _).mono ?_)
    rintro e W2 ⟨⟨u, rfl, hu⟩, hb⟩
    have HBT := Lib.hid (((Below.refl _ W1).alloc (Nat.le_refl _) _).trans (hb.mono (by simp)))
    clear hb
    obtain ⟨a2, n2, rfl⟩ := hu.shape
    have hz2 : W2.heap[w.heap.size]? = some (.cells #[.int .i64 0, .string ⟨#[]⟩, .slice none 0 0] 33 (0, 0)) := (HBT.out.block _ hzl).trans HZ.out
    obtain ⟨d0, d1, d2⟩ := three_cells hz2
    have g0 := Lib.frozen_of_heap hz2 0
    have g1 := Lib.frozen_of_heap hz2 1
    have g2 := Lib.frozen_of_heap hz2 2
    have HZ2 := Lib.hid hz2; have HU := Lib.hid hu
    clear hz2 hu c0 c1 c2 f0 f1 f2
    simp only [tyV, T.kind, T.name, List.length_nil]
    go_wp2
    exact bodyPost_ret (v := .agg #[.int .i64 1, .string ⟨#[98]⟩, .slice a2 0 n2]) (by have hc := set3_cells HZ2.out (.int .i64 1) (.string ⟨#[98]⟩) (.slice a2 0 n2); simp [results, Tryd.results12, go_sem, hc.1, hc.2.1, hc.2.2]) rfl (made_fn (t := .var ⟨#[98]⟩) (H1.out.below HBT.out) (by omega) (H2.out.trans (MkFr.of_below HBT.out (Nat.le_trans H1.out.1.1 (Nat.le_of_lt H1.out.lt)))) hp HZ2.out (.leaf _ _ _ rfl) (good_var (by decide) (by decide) (by decide)))
  · go_wp2_with (go_at_call 16; refine (var_any _ _).mono ?_)
    rintro e W2 ⟨⟨u, rfl, hu⟩, hb⟩
    have HBT := Lib.hid (((Below.refl _ W1).alloc (Nat.le_refl _) _).trans (hb.mono (by simp)))
    clear hb
    obtain ⟨a2, n2, rfl⟩ := hu.shape
    have hz2 : W2.heap[w.heap.size]? = some (.cells #[.int .i64 0, .string ⟨#[]⟩, .slice none 0 0] 33 (0, 0)) := (HBT.out.block _ hzl).trans HZ.out
    obtain ⟨d0, d1, d2⟩ := three_cells hz2
    have g0 := Lib.frozen_of_heap hz2 0
    have g1 := Lib.frozen_of_heap hz2 1
    have g2 := Lib.frozen_of_heap hz2 2
    have HZ2 := Lib.hid hz2; have HU := Lib.hid hu
    clear hz2 hu c0 c1 c2 f0 f1 f2
    simp only [tyV, T.kind, T.name, List.length_nil]
    go_wp2
    exact bodyPost_ret (v := .agg #[.int .i64 1, .string ⟨#[99]⟩, .slice a2 0 n2]) (by have hc := set3_cells HZ2.out (.int .i64 1) (.string ⟨#[99]⟩) (.slice a2 0 n2); simp [results, Tryd.results12, go_sem, hc.1, hc.2.1, hc.2.2]) rfl (made_fn (t := .var ⟨#[99]⟩) (H1.out.below HBT.out) (by omega) (H2.out.trans (MkFr.of_below HBT.out (Nat.le_trans H1.out.1.1 (Nat.le_of_lt H1.out.lt)))) hp HZ2.out (.leaf _ _ _ rfl) (good_var (by decide) (by decide) (by decide)))
  · go_wp2_with (go_at_call 29; refine (con_any _ none [] 0 0 _ (TysAt.nil _ _ _)).mono ?_)
    rintro e W2 ⟨⟨u, rfl, hu⟩, hb⟩
    have HBT := Lib.hid hb
    clear hb
    obtain ⟨a2, n2, rfl⟩ := hu.shape
    have hz2 : W2.heap[w.heap.size]? = some (.cells #[.int .i64 0, .string ⟨#[]⟩, .slice none 0 0] 33 (0, 0)) := (HBT.out.block _ hzl).trans HZ.out
    obtain ⟨d0, d1, d2⟩ := three_cells hz2
    have g0 := Lib.frozen_of_heap hz2 0
    have g1 := Lib.frozen_of_heap hz2 1
    have g2 := Lib.frozen_of_heap hz2 2
    have HZ2 := Lib.hid hz2; have HU := Lib.hid hu
    clear hz2 hu c0 c1 c2 f0 f1 f2
    simp only [tyV, T.kind, T.name, List.length_nil]
    go_wp2
    exact bodyPost_ret (v := .agg #[.int .i64 2, .string ⟨#[73, 110, 116]⟩, .slice a2 0 n2]) (by have hc := set3_cells HZ2.out (.int .i64 2) (.string ⟨#[73, 110, 116]⟩) (.slice a2 0 n2); simp [results, Tryd.results12, go_sem, hc.1, hc.2.1, hc.2.2]) rfl (made_fn (t := .con ⟨#[73, 110, 116]⟩ []) (H1.out.below HBT.out) (by omega) (H2.out.trans (MkFr.of_below HBT.out (Nat.le_trans H1.out.1.1 (Nat.le_of_lt H1.out.lt)))) hp HZ2.out (.leaf _ _ _ rfl) (good_con0 (by decide) (by decide) (by decide)))
  · go_wp2_with (go_at_call 29; refine (con_any _ none [] 0 0 _ (TysAt.nil _ _ _)).mono ?_)
    rintro e W2 ⟨⟨u, rfl, hu⟩, hb⟩
    have HBT := Lib.hid hb
    clear hb
    obtain ⟨a2, n2, rfl⟩ := hu.shape
    have hz2 : W2.heap[w.heap.size]? = some (.cells #[.int .i64 0, .string ⟨#[]⟩, .slice none 0 0] 33 (0, 0)) := (HBT.out.block _ hzl).trans HZ.out
    obtain ⟨d0, d1, d2⟩ := three_cells hz2
    have g0 := Lib.frozen_of_heap hz2 0
    have g1 := Lib.frozen_of_heap hz2 1
    have g2 := Lib.frozen_of_heap hz2 2
    have HZ2 := Lib.hid hz2; have HU := Lib.hid hu
    clear hz2 hu c0 c1 c2 f0 f1 f2
    simp only [tyV, T.kind, T.name, List.length_nil]
    go_wp2
    exact bodyPost_ret (v := .agg #[.int .i64 2, .string ⟨#[66, 111, 111, 108]⟩, .slice a2 0 n2]) (by have hc := set3_cells HZ2.out (.int .i64 2) (.string ⟨#[66, 111, 111, 108]⟩) (.slice a2 0 n2); simp [results, Tryd.results12, go_sem, hc.1, hc.2.1, hc.2.2]) rfl (made_fn (t := .con ⟨#[66, 111, 111, 108]⟩ []) (H1.out.below HBT.out) (by omega) (H2.out.trans (MkFr.of_below HBT.out (Nat.le_trans H1.out.1.1 (Nat.le_of_lt H1.out.lt)))) hp HZ2.out (.leaf _ _ _ rfl) (good_con0 (by decide) (by decide) (by decide)))
  · go_wp2_with (go_at_call 16; refine (var_any _ _).mono ?_)
    rintro e W2 ⟨⟨u, rfl, hu⟩, hb⟩
    have HBT := Lib.hid (((Below.refl _ W1).alloc (Nat.le_refl _) _).trans (hb.mono (by simp)))
    clear hb
    obtain ⟨a2, n2, rfl⟩ := hu.shape
    have hz2 : W2.heap[w.heap.size]? = some (.cells #[.int .i64 0, .string ⟨#[]⟩, .slice none 0 0] 33 (0, 0)) := (HBT.out.block _ hzl).trans HZ.out
    obtain ⟨d0, d1, d2⟩ := three_cells hz2
    have g0 := Lib.frozen_of_heap hz2 0
    have g1 := Lib.frozen_of_heap hz2 1
    have g2 := Lib.frozen_of_heap hz2 2
    have HZ2 := Lib.hid hz2; have HU := Lib.hid hu
    clear hz2 hu c0 c1 c2 f0 f1 f2
    simp only [tyV, T.kind, T.name, List.length_nil]
    go_wp2
    exact bodyPost_ret (v := .agg #[.int .i64 1, .string ⟨#[97]⟩, .slice a2 0 n2]) (by have hc := set3_cells HZ2.out (.int .i64 1) (.string ⟨#[97]⟩) (.slice a2 0 n2); simp [results, Tryd.results12, go_sem, hc.1, hc.2.1, hc.2.2]) rfl (made_fn (t := .var ⟨#[97]⟩) (H1.out.below HBT.out) (by omega) (H2.out.trans (MkFr.of_below HBT.out (Nat.le_trans H1.out.1.1 (Nat.le_of_lt H1.out.lt)))) hp HZ2.out (.leaf _ _ _ rfl) (good_var (by decide) (by decide) (by decide)))
  · go_wp2_with (go_at_call 16; refine (var_any _ _).mono ?_)
    rintro e W2 ⟨⟨u, rfl, hu⟩, hb⟩
    have HBT := Lib.hid (((Below.refl _ W1).alloc (Nat.le_refl _) _).trans (hb.mono (by simp)))
    clear hb
    obtain ⟨a2, n2, rfl⟩ := hu.shape
    have hz2 : W2.heap[w.heap.size]? = some (.cells #[.int .i64 0, .string ⟨#[]⟩, .slice none 0 0] 33 (0, 0)) := (HBT.out.block _ hzl).trans HZ.out
    obtain ⟨d0, d1, d2⟩ := three_cells hz2
    have g0 := Lib.frozen_of_heap hz2 0
    have g1 := Lib.frozen_of_heap hz2 1
    have g2 := Lib.frozen_of_heap hz2 2
    have HZ2 := Lib.hid hz2; have HU := Lib.hid hu
    clear hz2 hu c0 c1 c2 f0 f1 f2
    simp only [tyV, T.kind, T.name, List.length_nil]
    go_wp2
    exact bodyPost_ret (v := .agg #[.int .i64 1, .string ⟨#[98]⟩, .slice a2 0 n2]) (by have hc := set3_cells HZ2.out (.int .i64 1) (.string ⟨#[98]⟩) (.slice a2 0 n2); simp [results, Tryd.results12, go_sem, hc.1, hc.2.1, hc.2.2]) rfl (made_fn (t := .var ⟨#[98]⟩) (H1.out.below HBT.out) (by omega) (H2.out.trans (MkFr.of_below HBT.out (Nat.le_trans H1.out.1.1 (Nat.le_of_lt H1.out.lt)))) hp HZ2.out (.leaf _ _ _ rfl) (good_var (by decide) (by decide) (by decide)))
  · go_wp2_with (go_at_call 16; refine (var_any _ _).mono ?_)
    rintro e W2 ⟨⟨u, rfl, hu⟩, hb⟩
    have HBT := Lib.hid (((Below.refl _ W1).alloc (Nat.le_refl _) _).trans (hb.mono (by simp)))
    clear hb
    obtain ⟨a2, n2, rfl⟩ := hu.shape
    have hz2 : W2.heap[w.heap.size]? = some (.cells #[.int .i64 0, .string ⟨#[]⟩, .slice none 0 0] 33 (0, 0)) := (HBT.out.block _ hzl).trans HZ.out
    obtain ⟨d0, d1, d2⟩ := three_cells hz2
    have g0 := Lib.frozen_of_heap hz2 0
    have g1 := Lib.frozen_of_heap hz2 1
    have g2 := Lib.frozen_of_heap hz2 2
    have HZ2 := Lib.hid hz2; have HU := Lib.hid hu
    clear hz2 hu c0 c1 c2 f0 f1 f2
    simp only [tyV, T.kind, T.name, List.length_nil]
    go_wp2
    exact bodyPost_ret (v := .agg #[.int .i64 1, .string ⟨#[99]⟩, .slice a2 0 n2]) (by have hc := set3_cells HZ2.out (.int .i64 1) (.string ⟨#[99]⟩) (.slice a2 0 n2); simp [results, Tryd.results12, go_sem, hc.1, hc.2.1, hc.2.2]) rfl (made_fn (t := .var ⟨#[99]⟩) (H1.out.below HBT.out) (by omega) (H2.out.trans (MkFr.of_below HBT.out (Nat.le_trans H1.out.1.1 (Nat.le_of_lt H1.out.lt)))) hp HZ2.out (.leaf _ _ _ rfl) (good_var (by decide) (by decide) (by decide)))
  · go_wp2_with (go_at_call 29; refine (con_any _ none [] 0 0 _ (TysAt.nil _ _ _)).mono ?_)
    rintro e W2 ⟨⟨u, rfl, hu⟩, hb⟩
    have HBT := Lib.hid hb
    clear hb
    obtain ⟨a2, n2, rfl⟩ := hu.shape
    have hz2 : W2.heap[w.heap.size]? = some (.cells #[.int .i64 0, .string ⟨#[]⟩, .slice none 0 0] 33 (0, 0)) := (HBT.out.block _ hzl).trans HZ.out
    obtain ⟨d0, d1, d2⟩ := three_cells hz2
    have g0 := Lib.frozen_of_heap hz2 0
    have g1 := Lib.frozen_of_heap hz2 1
    have g2 := Lib.frozen_of_heap hz2 2
    have HZ2 := Lib.hid hz2; have HU := Lib.hid hu
    clear hz2 hu c0 c1 c2 f0 f1 f2
    simp only [tyV, T.kind, T.name, List.length_nil]
    go_wp2
    exact bodyPost_ret (v := .agg #[.int .i64 2, .string ⟨#[73, 110, 116]⟩, .slice a2 0 n2]) (by have hc := set3_cells HZ2.out (.int .i64 2) (.string ⟨#[73, 110, 116]⟩) (.slice a2 0 n2); simp [results, Tryd.results12, go_sem, hc.1, hc.2.1, hc.2.2]) rfl (made_fn (t := .con ⟨#[73, 110, 116]⟩ []) (H1.out.below HBT.out) (by omega) (H2.out.trans (MkFr.of_below HBT.out (Nat.le_trans H1.out.1.1 (Nat.le_of_lt H1.out.lt)))) hp HZ2.out (.leaf _ _ _ rfl) (good_con0 (by decide) (by decide) (by decide)))

end Go.Proofs.YtjnlchhikdfifaaDoor
/- The types that are made of numbers: a level more. -/
namespace Go.Proofs.YtjnlchhikdfifaaDoor
open Go.RowKit
attribute [local go_sem] Oper.semAt_some
attribute [local go_sem ↓] Go.wp_at_zero Go.wp_at_succ

set_option maxHeartbeats 4000000 in
theorem make_stepN (d : Int) (hd1 : 1 ≤ d) (hd2 : d ≤ 100) (M D : Nat) (hM : 2 ≤ M) (hD : 14 ≤ D) (B p : Nat) (a : Option Addr) (n c k : Nat) (w : World) (h : SeqAt B p a n c k w) (hk : k + 2 * M < 1152921504606846976) (hn : n < 1152921504606846976)
    (IH : ∀ k w, SeqAt B p a n c k w → k + M < 1152921504606846976 → Calls Tryd.prog 12 #[.pointer (some ⟨p, 0, none⟩), .int .i64 (d - 1)] w (MadeN B p a n c k M D w)) :
    Calls Tryd.prog 12 #[.pointer (some ⟨p, 0, none⟩), .int .i64 d] w (MadeN B p a n c k (2 * M) (2 * D) w) := by
  have hp := h.lt
  have HN := Lib.hid (fun o => next_any B p a n c k 9 (w.alloc o) (h.below ((Below.refl _ w).alloc (Nat.le_refl _) o)) (by decide) (by decide) (by omega) hn)
  have HNe := Lib.hid (show w.heap.size ≠ p by omega)
  have hw : IntKind.i64.wrap (d - 1) = d - 1 := by rw [IntKind.wrap_i64]; omega
  have HI := Lib.hid IH
  have HI2 := Lib.hid IH
  rw [← hw] at HI2
  clear hw
  clear h IH
  go_enter Tryd.func12, Tryd.ntmps12
  go_wp2_with (go_at_call 21; refine (HN.out _).mono ?_)
  rintro e W1 ⟨⟨r, hr, rfl⟩, h1, h2⟩
  have hz := h2.2 _ _ (alloc_new w _) HNe.out
  obtain ⟨c0, c1, c2⟩ := three_cells hz
  have f0 := Lib.frozen_of_heap hz 0
  have f1 := Lib.frozen_of_heap hz 1
  have f2 := Lib.frozen_of_heap hz 2
  have HZ := Lib.hid hz; have H1 := Lib.hid h1; have H2 := Lib.hid h2
  have hzl := (Array.getElem?_eq_some_iff.1 hz).1
  clear hz h1 h2
  obtain ⟨z, hz⟩ : ∃ z : Int, (r : Int) = z := ⟨_, rfl⟩
  rw [hz]
  have h9 : z = 0 ∨ z = 1 ∨ z = 2 ∨ z = 3 ∨ z = 4 ∨ z = 5 ∨ z = 6 ∨ z = 7 ∨ z = 8 := by omega
  clear hz hr
  rcases h9 with rfl | rfl | rfl | rfl | rfl | rfl | rfl | rfl | rfl
  · go_wp2_with (go_at_call 16; refine (var_any _ _).mono ?_)
    rintro e W2 ⟨⟨u, rfl, hu⟩, hb⟩
    have HBT := Lib.hid (((Below.refl _ W1).alloc (Nat.le_refl _) _).trans (hb.mono (by simp)))
    clear hb
    obtain ⟨a2, n2, rfl⟩ := hu.shape
    have hz2 : W2.heap[w.heap.size]? = some (.cells #[.int .i64 0, .string ⟨#[]⟩, .slice none 0 0] 33 (0, 0)) := (HBT.out.block _ hzl).trans HZ.out
    obtain ⟨d0, d1, d2⟩ := three_cells hz2
    have g0 := Lib.frozen_of_heap hz2 0
    have g1 := Lib.frozen_of_heap hz2 1
    have g2 := Lib.frozen_of_heap hz2 2
    have HZ2 := Lib.hid hz2; have HU := Lib.hid hu
    clear hz2 hu c0 c1 c2 f0 f1 f2
    simp only [tyV, T.kind, T.name, List.length_nil]
    go_wp2
    exact bodyPost_ret (v := .agg #[.int .i64 1, .string ⟨#[97]⟩, .slice a2 0 n2]) (by have hc := set3_cells HZ2.out (.int .i64 1) (.string ⟨#[97]⟩) (.slice a2 0 n2); simp [results, Tryd.results12, go_sem, hc.1, hc.2.1, hc.2.2]) rfl (made_fn (t := .var ⟨#[97]⟩) (H1.out.below HBT.out) (by omega) (H2.out.trans (MkFr.of_below HBT.out (Nat.le_trans H1.out.1.1 (Nat.le_of_lt H1.out.lt)))) hp HZ2.out (.leaf _ _ _ rfl) (good_var (by decide) (by decide) (by omega)))
  · go_wp2_with (go_at_call 16; refine (var_any _ _).mono ?_)
    rintro e W2 ⟨⟨u, rfl, hu⟩, hb⟩
    have HBT := Lib.hid (((Below.refl _ W1).alloc (Nat.le_refl _) _).trans (hb.mono (by simp)))
    clear hb
    obtain ⟨a2, n2, rfl⟩ := hu.shape
    have hz2 : W2.heap[w.heap.size]? = some (.cells #[.int .i64 0, .string ⟨#[]⟩, .slice none 0 0] 33 (0, 0)) := (HBT.out.block _ hzl).trans HZ.out
    obtain ⟨d0, d1, d2⟩ := three_cells hz2
    have g0 := Lib.frozen_of_heap hz2 0
    have g1 := Lib.frozen_of_heap hz2 1
    have g2 := Lib.frozen_of_heap hz2 2
    have HZ2 := Lib.hid hz2; have HU := Lib.hid hu
    clear hz2 hu c0 c1 c2 f0 f1 f2
    simp only [tyV, T.kind, T.name, List.length_nil]
    go_wp2
    exact bodyPost_ret (v := .agg #[.int .i64 1, .string ⟨#[98]⟩, .slice a2 0 n2]) (by have hc := set3_cells HZ2.out (.int .i64 1) (.string ⟨#[98]⟩) (.slice a2 0 n2); simp [results, Tryd.results12, go_sem, hc.1, hc.2.1, hc.2.2]) rfl (made_fn (t := .var ⟨#[98]⟩) (H1.out.below HBT.out) (by omega) (H2.out.trans (MkFr.of_below HBT.out (Nat.le_trans H1.out.1.1 (Nat.le_of_lt H1.out.lt)))) hp HZ2.out (.leaf _ _ _ rfl) (good_var (by decide) (by decide) (by omega)))
  · go_wp2_with (go_at_call 16; refine (var_any _ _).mono ?_)
    rintro e W2 ⟨⟨u, rfl, hu⟩, hb⟩
    have HBT := Lib.hid (((Below.refl _ W1).alloc (Nat.le_refl _) _).trans (hb.mono (by simp)))
    clear hb
    obtain ⟨a2, n2, rfl⟩ := hu.shape
    have hz2 : W2.heap[w.heap.size]? = some (.cells #[.int .i64 0, .string ⟨#[]⟩, .slice none 0 0] 33 (0, 0)) := (HBT.out.block _ hzl).trans HZ.out
    obtain ⟨d0, d1, d2⟩ := three_cells hz2
    have g0 := Lib.frozen_of_heap hz2 0
    have g1 := Lib.frozen_of_heap hz2 1
    have g2 := Lib.frozen_of_heap hz2 2
    have HZ2 := Lib.hid hz2; have HU := Lib.hid hu
    clear hz2 hu c0 c1 c2 f0 f1 f2
    simp only [tyV, T.kind, T.name, List.length_nil]
    go_wp2
    exact bodyPost_ret (v := .agg #[.int .i64 1, .string ⟨#[99]⟩, .slice a2 0 n2]) (by have hc := set3_cells HZ2.out (.int .i64 1) (.string ⟨#[99]⟩) (.slice a2 0 n2); simp [results, Tryd.results12, go_sem, hc.1, hc.2.1, hc.2.2]) rfl (made_fn (t := .var ⟨#[99]⟩) (H1.out.below HBT.out) (by omega) (H2.out.trans (MkFr.of_below HBT.out (Nat.le_trans H1.out.1.1 (Nat.le_of_lt H1.out.lt)))) hp HZ2.out (.leaf _ _ _ rfl) (good_var (by decide) (by decide) (by omega)))
  · go_wp2_with (go_at_call 29; refine (con_any _ none [] 0 0 _ (TysAt.nil _ _ _)).mono ?_)
    rintro e W2 ⟨⟨u, rfl, hu⟩, hb⟩
    have HBT := Lib.hid hb
    clear hb
    obtain ⟨a2, n2, rfl⟩ := hu.shape
    have hz2 : W2.heap[w.heap.size]? = some (.cells #[.int .i64 0, .string ⟨#[]⟩, .slice none 0 0] 33 (0, 0)) := (HBT.out.block _ hzl).trans HZ.out
    obtain ⟨d0, d1, d2⟩ := three_cells hz2
    have g0 := Lib.frozen_of_heap hz2 0
    have g1 := Lib.frozen_of_heap hz2 1
    have g2 := Lib.frozen_of_heap hz2 2
    have HZ2 := Lib.hid hz2; have HU := Lib.hid hu
    clear hz2 hu c0 c1 c2 f0 f1 f2
    simp only [tyV, T.kind, T.name, List.length_nil]
    go_wp2
    exact bodyPost_ret (v := .agg #[.int .i64 2, .string ⟨#[73, 110, 116]⟩, .slice a2 0 n2]) (by have hc := set3_cells HZ2.out (.int .i64 2) (.string ⟨#[73, 110, 116]⟩) (.slice a2 0 n2); simp [results, Tryd.results12, go_sem, hc.1, hc.2.1, hc.2.2]) rfl (made_fn (t := .con ⟨#[73, 110, 116]⟩ []) (H1.out.below HBT.out) (by omega) (H2.out.trans (MkFr.of_below HBT.out (Nat.le_trans H1.out.1.1 (Nat.le_of_lt H1.out.lt)))) hp HZ2.out (.leaf _ _ _ rfl) (good_con0 (by decide) (by decide) (by omega)))
  · go_wp2_with (go_at_call 29; refine (con_any _ none [] 0 0 _ (TysAt.nil _ _ _)).mono ?_)
    rintro e W2 ⟨⟨u, rfl, hu⟩, hb⟩
    have HBT := Lib.hid hb
    clear hb
    obtain ⟨a2, n2, rfl⟩ := hu.shape
    have hz2 : W2.heap[w.heap.size]? = some (.cells #[.int .i64 0, .string ⟨#[]⟩, .slice none 0 0] 33 (0, 0)) := (HBT.out.block _ hzl).trans HZ.out
    obtain ⟨d0, d1, d2⟩ := three_cells hz2
    have g0 := Lib.frozen_of_heap hz2 0
    have g1 := Lib.frozen_of_heap hz2 1
    have g2 := Lib.frozen_of_heap hz2 2
    have HZ2 := Lib.hid hz2; have HU := Lib.hid hu
    clear hz2 hu c0 c1 c2 f0 f1 f2
    simp only [tyV, T.kind, T.name, List.length_nil]
    go_wp2
    exact bodyPost_ret (v := .agg #[.int .i64 2, .string ⟨#[66, 111, 111, 108]⟩, .slice a2 0 n2]) (by have hc := set3_cells HZ2.out (.int .i64 2) (.string ⟨#[66, 111, 111, 108]⟩) (.slice a2 0 n2); simp [results, Tryd.results12, go_sem, hc.1, hc.2.1, hc.2.2]) rfl (made_fn (t := .con ⟨#[66, 111, 111, 108]⟩ []) (H1.out.below HBT.out) (by omega) (H2.out.trans (MkFr.of_below HBT.out (Nat.le_trans H1.out.1.1 (Nat.le_of_lt H1.out.lt)))) hp HZ2.out (.leaf _ _ _ rfl) (good_con0 (by decide) (by decide) (by omega)))
  · go_wp2_with (go_at_call 12; refine (HI.out _ _ H1.out (by omega)).mono ?_)
    rintro e W2 ⟨⟨t, u, rfl, hg, hu⟩, ⟨k2, hk2, hs2⟩, hf2⟩
    obtain ⟨a2, n2, rfl⟩ := hu.shape
    have hz2 := hf2.2 _ _ HZ.out HNe.out
    have hzl2 := (Array.getElem?_eq_some_iff.1 hz2).1
    have HZ2 := Lib.hid hz2; have HU := Lib.hid hu; have HS2 := Lib.hid hs2; have HF2 := Lib.hid hf2; have HG := Lib.hid hg
    clear hz2 hu hs2 hf2 hg c0 c1 c2 f0 f1 f2
    simp only [tyV]
    go_wp2_with (go_at_call 29; refine (con_in (ok := fun k => w.heap.size < k) _ _ [t] 1 1 _ (in_one _ hzl2 (HU.out.mono fun k hk => Nat.lt_of_lt_of_le hzl hk))).mono ?_)
    rintro e W3 ⟨⟨u3, rfl, hu3⟩, hb⟩
    obtain ⟨a3, n3, rfl⟩ := hu3.shape
    have HBT := Lib.hid (((Below.refl _ W2).alloc (Nat.le_refl _) _).trans (hb.mono (by simp)))
    have hz3 : W3.heap[w.heap.size]? = some (.cells #[.int .i64 0, .string ⟨#[]⟩, .slice none 0 0] 33 (0, 0)) := (HBT.out.block _ hzl2).trans HZ2.out
    obtain ⟨d0, d1, d2⟩ := three_cells hz3
    have g0 := Lib.frozen_of_heap hz3 0
    have g1 := Lib.frozen_of_heap hz3 1
    have g2 := Lib.frozen_of_heap hz3 2
    have HZ3 := Lib.hid hz3; have HU3 := Lib.hid hu3
    clear hz3 hu3 hb
    simp only [tyV, show (T.con ⟨#[76, 105, 115, 116]⟩ [t]).kind = 2 from rfl, show (T.con ⟨#[76, 105, 115, 116]⟩ [t]).name = ⟨#[76, 105, 115, 116]⟩ from rfl, show (T.con ⟨#[76, 105, 115, 116]⟩ [t]).kids.length = 1 from rfl]
    go_wp2
    exact bodyPost_ret (v := .agg #[.int .i64 2, .string ⟨#[76, 105, 115, 116]⟩, .slice a3 1 n3]) (by have hc := set3_cells HZ3.out (.int .i64 2) (.string ⟨#[76, 105, 115, 116]⟩) (.slice a3 1 n3); simp [results, Tryd.results12, go_sem, hc.1, hc.2.1, hc.2.2]) rfl (made_fn (t := .con ⟨#[76, 105, 115, 116]⟩ [t]) (HS2.out.below HBT.out) (by omega) ((H2.out.trans HF2.out).trans (MkFr.of_below HBT.out (Nat.le_trans HS2.out.1.1 (Nat.le_of_lt HS2.out.lt)))) hp HZ3.out HU3.out (good_con1 (by decide) (by decide) HG.out (Nat.le_refl _) hD))
  · go_wp2_with (go_at_call 12; refine (HI.out _ _ H1.out (by omega)).mono ?_)
    rintro e W2 ⟨⟨t, u, rfl, hg, hu⟩, ⟨k2, hk2, hs2⟩, hf2⟩
    obtain ⟨a2, n2, rfl⟩ := hu.shape
    have hz2 := hf2.2 _ _ HZ.out HNe.out
    have hzl2 := (Array.getElem?_eq_some_iff.1 hz2).1
    have HZ2 := Lib.hid hz2; have HU := Lib.hid hu; have HS2 := Lib.hid hs2; have HF2 := Lib.hid hf2; have HG := Lib.hid hg
    clear hz2 hu hs2 hf2 hg c0 c1 c2 f0 f1 f2
    simp only [tyV]
    go_wp2_with fail
    have hbx := alloc_new W2 (.cells #[.int .i64 t.kind, .string t.name, .slice a2 t.kids.length n2] 33)
    have HBX := Lib.hid hbx
    have hne2 : W2.heap.size ≠ p := by have := HS2.out.lt; omega
    have HNe2 := Lib.hid hne2
    clear hbx hne2
    go_region_with (first
      | (go_at_call 12; refine (HI2.out k2 _ ?hs ?hk).mono ?_; (case hs => exact SeqAt.drew (HS2.out.below ((Below.refl _ W2).alloc (Nat.le_refl _) _))); (case hk => omega); rintro e W3 ⟨⟨t3, u3, rfl, hg3, hu3⟩, ⟨k3, hk3, hs3⟩, hf3'⟩; have hf3 := MkFr.of_drew hf3'; clear hf3'; obtain ⟨a3, n3, rfl⟩ := hu3.shape; have hbx3 := hf3.2 _ _ HBX.out HNe2.out; obtain ⟨x0, x1, x2⟩ := three_cells hbx3; have hz3 := hf3.2 _ _ ((Below.heap_alloc W2 _ _ hzl2).trans HZ2.out) HNe.out; have hzl3 := (Array.getElem?_eq_some_iff.1 hz3).1; have HZ3 := Lib.hid hz3; have HS3 := Lib.hid hs3; have HF3 := Lib.hid hf3; have HG3 := Lib.hid hg3; have HUt := Lib.hid ((HU.out.mono (ok' := fun k => w.heap.size < k) fun k hk => Nat.lt_of_lt_of_le hzl hk).keep (fun k cs fz _ hh => ((keepT_alloc W2 _).trans (KeepT.of_mk hf3 (HS2.out.below ((Below.refl _ W2).alloc (Nat.le_refl _) _)))) k cs fz hh)); have hu3' : TyIn (fun k => w.heap.size < k) W3 t3 (.slice a3 t3.kids.length n3) := hu3.mono (fun k hk => by have h9 : (W2.alloc (.cells #[.int .i64 t.kind, .string t.name, .slice a2 t.kids.length n2] 33)).heap.size ≤ k := hk; simp at h9; omega); have HU3 := Lib.hid hu3'; clear hz3 hs3 hf3 hu3 hu3' hg3 hbx3; simp only [tyV])
      | (go_at_call 29; refine (con_in (ok := fun k => w.heap.size < k) _ _ [t, t3] 2 2 _ (in_pair rfl rfl hzl3 HUt.out HU3.out)).mono ?_; rintro e W4 ⟨⟨u4, rfl, hu4⟩, hb4⟩; obtain ⟨a4, n4, rfl⟩ := hu4.shape; have HBT := Lib.hid (((Below.refl _ W3).alloc (Nat.le_refl _) _).trans (hb4.mono (by simp))); have hz4 : W4.heap[w.heap.size]? = some (.cells #[.int .i64 0, .string ⟨#[]⟩, .slice none 0 0] 33 (0, 0)) := (HBT.out.block _ hzl3).trans HZ3.out; obtain ⟨d0, d1, d2⟩ := three_cells hz4; have g0 := Lib.frozen_of_heap hz4 0; have g1 := Lib.frozen_of_heap hz4 1; have g2 := Lib.frozen_of_heap hz4 2; have HZ4 := Lib.hid hz4; have HU4 := Lib.hid hu4; clear hz4 hu4 hb4; simp only [tyV, show (T.con ⟨#[80, 97, 105, 114]⟩ [t, t3]).kind = 2 from rfl, show (T.con ⟨#[80, 97, 105, 114]⟩ [t, t3]).name = ⟨#[80, 97, 105, 114]⟩ from rfl, show (T.con ⟨#[80, 97, 105, 114]⟩ [t, t3]).kids.length = 2 from rfl]))
    all_goals go_wp2
    all_goals exact bodyPost_ret (v := .agg #[.int .i64 2, .string ⟨#[80, 97, 105, 114]⟩, .slice a4 2 n4]) (by have hc := set3_cells HZ4.out (.int .i64 2) (.string ⟨#[80, 97, 105, 114]⟩) (.slice a4 2 n4); simp [results, Tryd.results12, go_sem, hc.1, hc.2.1, hc.2.2]) rfl (made_fn (t := T.con ⟨#[80, 97, 105, 114]⟩ [t, t3]) (HS3.out.below HBT.out) (by omega) (((H2.out.trans HF2.out).trans ((MkFr.of_below ((Below.refl _ W2).alloc (Nat.le_refl _) _) (Nat.le_trans HS2.out.1.1 (Nat.le_of_lt HS2.out.lt))).trans HF3.out)).trans (MkFr.of_below HBT.out (Nat.le_trans HS3.out.1.1 (Nat.le_of_lt HS3.out.lt)))) hp HZ4.out HU4.out (good_con2 (by decide) (by decide) HG.out HG3.out (Nat.le_refl _)))
  · go_wp2_with (go_at_call 12; refine (HI.out _ _ H1.out (by omega)).mono ?_)
    rintro e W2 ⟨⟨t, u, rfl, hg, hu⟩, ⟨k2, hk2, hs2⟩, hf2⟩
    obtain ⟨a2, n2, rfl⟩ := hu.shape
    have hz2 := hf2.2 _ _ HZ.out HNe.out
    have hzl2 := (Array.getElem?_eq_some_iff.1 hz2).1
    have HZ2 := Lib.hid hz2; have HU := Lib.hid hu; have HS2 := Lib.hid hs2; have HF2 := Lib.hid hf2; have HG := Lib.hid hg
    clear hz2 hu hs2 hf2 hg c0 c1 c2 f0 f1 f2
    simp only [tyV]
    go_wp2_with fail
    have hbx := alloc_new W2 (.cells #[.int .i64 t.kind, .string t.name, .slice a2 t.kids.length n2] 33)
    have HBX := Lib.hid hbx
    have hne2 : W2.heap.size ≠ p := by have := HS2.out.lt; omega
    have HNe2 := Lib.hid hne2
    clear hbx hne2
    go_region_with (first
      | (go_at_call 12; refine (HI2.out k2 _ ?hs ?hk).mono ?_; (case hs => exact SeqAt.drew (HS2.out.below ((Below.refl _ W2).alloc (Nat.le_refl _) _))); (case hk => omega); rintro e W3 ⟨⟨t3, u3, rfl, hg3, hu3⟩, ⟨k3, hk3, hs3⟩, hf3'⟩; have hf3 := MkFr.of_drew hf3'; clear hf3'; obtain ⟨a3, n3, rfl⟩ := hu3.shape; have hbx3 := hf3.2 _ _ HBX.out HNe2.out; obtain ⟨x0, x1, x2⟩ := three_cells hbx3; have hz3 := hf3.2 _ _ ((Below.heap_alloc W2 _ _ hzl2).trans HZ2.out) HNe.out; have hzl3 := (Array.getElem?_eq_some_iff.1 hz3).1; have HZ3 := Lib.hid hz3; have HS3 := Lib.hid hs3; have HF3 := Lib.hid hf3; have HG3 := Lib.hid hg3; have HUt := Lib.hid ((HU.out.mono (ok' := fun k => w.heap.size < k) fun k hk => Nat.lt_of_lt_of_le hzl hk).keep (fun k cs fz _ hh => ((keepT_alloc W2 _).trans (KeepT.of_mk hf3 (HS2.out.below ((Below.refl _ W2).alloc (Nat.le_refl _) _)))) k cs fz hh)); have hu3' : TyIn (fun k => w.heap.size < k) W3 t3 (.slice a3 t3.kids.length n3) := hu3.mono (fun k hk => by have h9 : (W2.alloc (.cells #[.int .i64 t.kind, .string t.name, .slice a2 t.kids.length n2] 33)).heap.size ≤ k := hk; simp at h9; omega); have HU3 := Lib.hid hu3'; clear hz3 hs3 hf3 hu3 hu3' hg3 hbx3; simp only [tyV])
      | (go_at_call 30; refine (fun2_in t t3 _ _ _ _ _ (fun k hk => Nat.lt_of_lt_of_le hzl3 hk) HUt.out HU3.out).mono ?_; rintro e W4 ⟨⟨u4, rfl, hu4⟩, hb4⟩; obtain ⟨a4, n4, rfl⟩ := hu4.shape; have HBT := Lib.hid hb4; have hz4 : W4.heap[w.heap.size]? = some (.cells #[.int .i64 0, .string ⟨#[]⟩, .slice none 0 0] 33 (0, 0)) := (HBT.out.block _ hzl3).trans HZ3.out; obtain ⟨d0, d1, d2⟩ := three_cells hz4; have g0 := Lib.frozen_of_heap hz4 0; have g1 := Lib.frozen_of_heap hz4 1; have g2 := Lib.frozen_of_heap hz4 2; have HZ4 := Lib.hid hz4; have HU4 := Lib.hid hu4; clear hz4 hu4 hb4; simp only [tyV, show (T.fn t t3).kind = 3 from rfl, show (T.fn t t3).name = ⟨#[]⟩ from rfl, show (T.fn t t3).kids.length = 2 from rfl]))
    all_goals go_wp2
    all_goals exact bodyPost_ret (v := .agg #[.int .i64 3, .string ⟨#[]⟩, .slice a4 2 n4]) (by have hc := set3_cells HZ4.out (.int .i64 3) (.string ⟨#[]⟩) (.slice a4 2 n4); simp [results, Tryd.results12, go_sem, hc.1, hc.2.1, hc.2.2]) rfl (made_fn (t := T.fn t t3) (HS3.out.below HBT.out) (by omega) (((H2.out.trans HF2.out).trans ((MkFr.of_below ((Below.refl _ W2).alloc (Nat.le_refl _) _) (Nat.le_trans HS2.out.1.1 (Nat.le_of_lt HS2.out.lt))).trans HF3.out)).trans (MkFr.of_below HBT.out (Nat.le_trans HS3.out.1.1 (Nat.le_of_lt HS3.out.lt)))) hp HZ4.out HU4.out (good_fn HG.out HG3.out (Nat.le_refl _)))
  · go_wp2_with (go_at_call 12; refine (HI.out _ _ H1.out (by omega)).mono ?_)
    rintro e W2 ⟨⟨t, u, rfl, hg, hu⟩, ⟨k2, hk2, hs2⟩, hf2⟩
    obtain ⟨a2, n2, rfl⟩ := hu.shape
    have hz2 := hf2.2 _ _ HZ.out HNe.out
    have hzl2 := (Array.getElem?_eq_some_iff.1 hz2).1
    have HZ2 := Lib.hid hz2; have HU := Lib.hid hu; have HS2 := Lib.hid hs2; have HF2 := Lib.hid hf2; have HG := Lib.hid hg
    clear hz2 hu hs2 hf2 hg c0 c1 c2 f0 f1 f2
    simp only [tyV]
    go_wp2_with fail
    have hbx := alloc_new W2 (.cells #[.int .i64 t.kind, .string t.name, .slice a2 t.kids.length n2] 33)
    have HBX := Lib.hid hbx
    have hne2 : W2.heap.size ≠ p := by have := HS2.out.lt; omega
    have HNe2 := Lib.hid hne2
    clear hbx hne2
    go_region_with (first
      | (go_at_call 12; refine (HI2.out k2 _ ?hs ?hk).mono ?_; (case hs => exact SeqAt.drew (HS2.out.below ((Below.refl _ W2).alloc (Nat.le_refl _) _))); (case hk => omega); rintro e W3 ⟨⟨t3, u3, rfl, hg3, hu3⟩, ⟨k3, hk3, hs3⟩, hf3'⟩; have hf3 := MkFr.of_drew hf3'; clear hf3'; obtain ⟨a3, n3, rfl⟩ := hu3.shape; have hbx3 := hf3.2 _ _ HBX.out HNe2.out; obtain ⟨x0, x1, x2⟩ := three_cells hbx3; have hz3 := hf3.2 _ _ ((Below.heap_alloc W2 _ _ hzl2).trans HZ2.out) HNe.out; have hzl3 := (Array.getElem?_eq_some_iff.1 hz3).1; have HZ3 := Lib.hid hz3; have HS3 := Lib.hid hs3; have HF3 := Lib.hid hf3; have HG3 := Lib.hid hg3; have HUt := Lib.hid ((HU.out.mono (ok' := fun k => w.heap.size < k) fun k hk => Nat.lt_of_lt_of_le hzl hk).keep (fun k cs fz _ hh => ((keepT_alloc W2 _).trans (KeepT.of_mk hf3 (HS2.out.below ((Below.refl _ W2).alloc (Nat.le_refl _) _)))) k cs fz hh)); have hu3' : TyIn (fun k => w.heap.size < k) W3 t3 (.slice a3 t3.kids.length n3) := hu3.mono (fun k hk => by have h9 : (W2.alloc (.cells #[.int .i64 t.kind, .string t.name, .slice a2 t.kids.length n2] 33)).heap.size ≤ k := hk; simp at h9; omega); have HU3 := Lib.hid hu3'; clear hz3 hs3 hf3 hu3 hu3' hg3 hbx3; simp only [tyV])
      | (go_at_call 30; refine (fun2_in t t3 _ _ _ _ _ (fun k hk => Nat.lt_of_lt_of_le hzl3 hk) HUt.out HU3.out).mono ?_; rintro e W4 ⟨⟨u4, rfl, hu4⟩, hb4⟩; obtain ⟨a4, n4, rfl⟩ := hu4.shape; have HBT := Lib.hid hb4; have hz4 : W4.heap[w.heap.size]? = some (.cells #[.int .i64 0, .string ⟨#[]⟩, .slice none 0 0] 33 (0, 0)) := (HBT.out.block _ hzl3).trans HZ3.out; obtain ⟨d0, d1, d2⟩ := three_cells hz4; have g0 := Lib.frozen_of_heap hz4 0; have g1 := Lib.frozen_of_heap hz4 1; have g2 := Lib.frozen_of_heap hz4 2; have HZ4 := Lib.hid hz4; have HU4 := Lib.hid hu4; clear hz4 hu4 hb4; simp only [tyV, show (T.fn t t3).kind = 3 from rfl, show (T.fn t t3).name = ⟨#[]⟩ from rfl, show (T.fn t t3).kids.length = 2 from rfl]))
    all_goals go_wp2
    all_goals exact bodyPost_ret (v := .agg #[.int .i64 3, .string ⟨#[]⟩, .slice a4 2 n4]) (by have hc := set3_cells HZ4.out (.int .i64 3) (.string ⟨#[]⟩) (.slice a4 2 n4); simp [results, Tryd.results12, go_sem, hc.1, hc.2.1, hc.2.2]) rfl (made_fn (t := T.fn t t3) (HS3.out.below HBT.out) (by omega) (((H2.out.trans HF2.out).trans ((MkFr.of_below ((Below.refl _ W2).alloc (Nat.le_refl _) _) (Nat.le_trans HS2.out.1.1 (Nat.le_of_lt HS2.out.lt))).trans HF3.out)).trans (MkFr.of_below HBT.out (Nat.le_trans HS3.out.1.1 (Nat.le_of_lt HS3.out.lt)))) hp HZ4.out HU4.out (good_fn HG.out HG3.out (Nat.le_refl _)))
end Go.Proofs.YtjnlchhikdfifaaDoor
/- Types of depth three, of depth four, made of numbers. -/
namespace Go.Proofs.YtjnlchhikdfifaaDoor
open Go.RowKit

theorem make_n1 (B p : Nat) (a : Option Addr) (n c k : Nat) (w : World) (h : SeqAt B p a n c k w) (hk : k + 4 < 1152921504606846976) (hn : n < 1152921504606846976) :
    Calls Tryd.prog 12 #[.pointer (some ⟨p, 0, none⟩), .int .i64 1] w (MadeN B p a n c k 4 28 w) :=
  make_stepN 1 (by decide) (by decide) 2 14 (by decide) (by decide) B p a n c k w h hk hn (fun k w h hk => make_n0 B p a n c k w h (by omega) hn)
theorem make_n2 (B p : Nat) (a : Option Addr) (n c k : Nat) (w : World) (h : SeqAt B p a n c k w) (hk : k + 8 < 1152921504606846976) (hn : n < 1152921504606846976) :
    Calls Tryd.prog 12 #[.pointer (some ⟨p, 0, none⟩), .int .i64 2] w (MadeN B p a n c k 8 56 w) :=
  make_stepN 2 (by decide) (by decide) 4 28 (by decide) (by decide) B p a n c k w h hk hn (fun k w h hk => make_n1 B p a n c k w h hk hn)
theorem make_n3 (B p : Nat) (a : Option Addr) (n c k : Nat) (w : World) (h : SeqAt B p a n c k w) (hk : k + 16 < 1152921504606846976) (hn : n < 1152921504606846976) :
    Calls Tryd.prog 12 #[.pointer (some ⟨p, 0, none⟩), .int .i64 3] w (MadeN B p a n c k 16 112 w) :=
  make_stepN 3 (by decide) (by decide) 8 56 (by decide) (by decide) B p a n c k w h hk hn (fun k w h hk => make_n2 B p a n c k w h hk hn)
theorem make_n4 (B p : Nat) (a : Option Addr) (n c k : Nat) (w : World) (h : SeqAt B p a n c k w) (hk : k + 32 < 1152921504606846976) (hn : n < 1152921504606846976) :
    Calls Tryd.prog 12 #[.pointer (some ⟨p, 0, none⟩), .int .i64 4] w (MadeN B p a n c k 32 224 w) :=
  make_stepN 4 (by decide) (by decide) 16 112 (by decide) (by decide) B p a n c k w h hk hn (fun k w h hk => make_n3 B p a n c k w h hk hn)
end Go.Proofs.YtjnlchhikdfifaaDoor
/- Predicates, rows of them, that are made of numbers: of whatever depth. (Made by a program out of SbMkPr.) -/
namespace Go.Proofs.YtjnlchhikdfifaaDoor
open Go.RowKit
attribute [local go_sem] Oper.semAt_some
attribute [local go_sem ↓] Go.wp_at_zero Go.wp_at_succ

def MadePG (m D B p : Nat) (a : Option Addr) (n c k : Nat) (w : World) (e : Ending) (w' : World) : Prop :=
  (∃ q u, e = .returned (prV q u) ∧ (T.Good q.2 ∧ Fits q.2 ∧ (T.text q.2).length + 10 ≤ D) ∧ TysAt w' u q.2.kids) ∧ (∃ k', k' ≤ k + 1 + m ∧ SeqAt B p a n c k' w') ∧ MkFr B p w w'

theorem pred_finG {m D B p : Nat} {a : Option Addr} {n c k k2 : Nat} {w W : World} {O1 O2 : Obj} {q : Pr} {v x y z u x0 y0 z0 u0 : Value} (hs : SeqAt B p a n c k2 W) (hk2 : k2 + 1 ≤ k + 1 + m) (hfr : MkFr B p ((w.alloc O1).alloc O2) W) (hp : p < w.heap.size)
    (h0 : W.heap[w.heap.size]? = some (.cells #[x0, y0, z0, u0] 35 (0, 0))) (hu : TysAt W v q.2.kids) (hg : (T.Good q.2 ∧ Fits q.2 ∧ (T.text q.2).length + 10 ≤ D)) :
    MadePG m D B p a n c k w (.returned (prV q v)) ((((W.setCell ⟨w.heap.size, 0, none⟩ x).setCell ⟨w.heap.size, 1, none⟩ y).setCell ⟨w.heap.size, 2, none⟩ z).setCell ⟨w.heap.size, 3, none⟩ u) := by
  have he : Else w.heap.size W ((((W.setCell ⟨w.heap.size, 0, none⟩ x).setCell ⟨w.heap.size, 1, none⟩ y).setCell ⟨w.heap.size, 2, none⟩ z).setCell ⟨w.heap.size, 3, none⟩ u) := (((Else.set _ _ _ _).trans (Else.set _ _ _ _)).trans (Else.set _ _ _ _)).trans (Else.set _ _ _ _)
  obtain ⟨e1, e2⟩ := else_fin rfl hs ((MkFr.of_below ((Below.refl _ _).alloc (Nat.le_refl _) O2) (by have := hs.1.1; simp; omega)).trans hfr) hp he
  exact ⟨⟨q, v, rfl, hg, hu.keep (KeepT.else he h0 (by decide))⟩, ⟨k2, by omega, e1⟩, e2⟩
set_option maxRecDepth 100000 in
set_option maxHeartbeats 4000000 in
theorem make_predG (dp m D : Nat) (B p : Nat) (a : Option Addr) (n c k : Nat) (w : World) (h : SeqAt B p a n c k w) (hk : k < 900000000000000000) (hT : ∀ (k : Nat) (W : World), SeqAt B p a n c k W → k < 1000000000000000000 → Calls Tryd.prog 12 #[.pointer (some ⟨p, 0, none⟩), .int .i64 (dp : Int)] W (MadeN B p a n c k m D W)) (hn : n < 1152921504606846976) :
    Calls Tryd.prog 22 #[.pointer (some ⟨p, 0, none⟩), .int .i64 (dp : Int)] w (MadePG m D B p a n c k w) := by
  have hp := h.lt
  have HN := Lib.hid (fun o1 o2 => next_any B p a n c k 4 ((w.alloc o1).alloc o2) (h.below (((Below.refl _ w).alloc (Nat.le_refl _) o1).alloc (show w.heap.size ≤ (w.alloc o1).heap.size by simp) o2)) (by decide) (by decide) (by omega) hn)
  have HT := Lib.hid (fun W (hs : SeqAt B p a n c (k + 1) W) => hT (k + 1) W hs (by omega))
  have HNe := Lib.hid (show w.heap.size ≠ p by omega)
  have HNe1 := Lib.hid (show w.heap.size + 1 ≠ p by omega)
  have HBp := Lib.hid h.1.1
  clear h hT
  go_enter Tryd.func22, Tryd.ntmps22
  go_wp2_with (go_at_call 21; refine (HN.out _ _).mono ?_)
  rintro e W1 ⟨⟨r, hr, rfl⟩, h1, h2⟩
  have hz := h2.2 _ _ ((Below.heap_alloc _ _ _ (by simp)).trans (alloc_new w _)) HNe.out
  have hs := h2.2 _ _ (show ((w.alloc _).alloc _).heap[w.heap.size + 1]? = _ from by rw [show w.heap.size + 1 = (w.alloc (.cells #[.string ⟨#[]⟩, .int .i64 0, .string ⟨#[]⟩, .slice none 0 0] 35)).heap.size from by simp]; exact alloc_new _ _) HNe1.out
  obtain ⟨s0, s1, s2, s3⟩ := four_strs hs
  have hzl := (Array.getElem?_eq_some_iff.1 hz).1
  have HZ := Lib.hid hz; have H1 := Lib.hid h1; have H2 := Lib.hid h2
  clear hz hs h1 h2
  obtain ⟨z, hz⟩ : ∃ z : Int, (r : Int) = z := ⟨_, rfl⟩
  rw [hz]
  have h4 : z = 0 ∨ z = 1 ∨ z = 2 ∨ z = 3 := by omega
  clear hz hr
  rcases h4 with rfl | rfl | rfl | rfl
  · go_wp2_with (go_at_call 12; refine (HT.out _ H1.out).mono ?_)
    rintro e W2 ⟨⟨t, u, rfl, hg, hu⟩, ⟨k2, hk2, hs2⟩, hf2⟩
    obtain ⟨a2, n2, rfl⟩ := hu.shape
    have hz2 := hf2.2 _ _ HZ.out HNe.out
    obtain ⟨d0, d1, d2, d3⟩ := four_cells hz2
    have g0 := Lib.frozen_of_heap hz2 0
    have g1 := Lib.frozen_of_heap hz2 1
    have g2 := Lib.frozen_of_heap hz2 2
    have g3 := Lib.frozen_of_heap hz2 3
    have HZ2 := Lib.hid hz2; have HU := Lib.hid hu; have HS2 := Lib.hid hs2; have HF2 := Lib.hid hf2; have HG := Lib.hid hg
    clear hz2 hu hs2 hf2 hg s0 s1 s2 s3
    simp only [tyV]
    go_wp2
    exact bodyPost_ret (v := prV (⟨#[69, 113]⟩, t) (.slice a2 t.kids.length n2)) (by have hc := set4_cells HZ2.out (.string ⟨#[69, 113]⟩) (.int .i64 t.kind) (.string t.name) (.slice a2 t.kids.length n2); simp [results, Tryd.results22, go_sem, prV, hc.1, hc.2.1, hc.2.2.1, hc.2.2.2]) rfl (pred_finG (q := (⟨#[69, 113]⟩, t)) HS2.out hk2 (H2.out.trans HF2.out) hp HZ2.out HU.out.tys HG.out)
  · go_wp2_with (go_at_call 12; refine (HT.out _ H1.out).mono ?_)
    rintro e W2 ⟨⟨t, u, rfl, hg, hu⟩, ⟨k2, hk2, hs2⟩, hf2⟩
    obtain ⟨a2, n2, rfl⟩ := hu.shape
    have hz2 := hf2.2 _ _ HZ.out HNe.out
    obtain ⟨d0, d1, d2, d3⟩ := four_cells hz2
    have g0 := Lib.frozen_of_heap hz2 0
    have g1 := Lib.frozen_of_heap hz2 1
    have g2 := Lib.frozen_of_heap hz2 2
    have g3 := Lib.frozen_of_heap hz2 3
    have HZ2 := Lib.hid hz2; have HU := Lib.hid hu; have HS2 := Lib.hid hs2; have HF2 := Lib.hid hf2; have HG := Lib.hid hg
    clear hz2 hu hs2 hf2 hg s0 s1 s2 s3
    simp only [tyV]
    go_wp2
    exact bodyPost_ret (v := prV (⟨#[79, 114, 100]⟩, t) (.slice a2 t.kids.length n2)) (by have hc := set4_cells HZ2.out (.string ⟨#[79, 114, 100]⟩) (.int .i64 t.kind) (.string t.name) (.slice a2 t.kids.length n2); simp [results, Tryd.results22, go_sem, prV, hc.1, hc.2.1, hc.2.2.1, hc.2.2.2]) rfl (pred_finG (q := (⟨#[79, 114, 100]⟩, t)) HS2.out hk2 (H2.out.trans HF2.out) hp HZ2.out HU.out.tys HG.out)
  · go_wp2_with (go_at_call 12; refine (HT.out _ H1.out).mono ?_)
    rintro e W2 ⟨⟨t, u, rfl, hg, hu⟩, ⟨k2, hk2, hs2⟩, hf2⟩
    obtain ⟨a2, n2, rfl⟩ := hu.shape
    have hz2 := hf2.2 _ _ HZ.out HNe.out
    obtain ⟨d0, d1, d2, d3⟩ := four_cells hz2
    have g0 := Lib.frozen_of_heap hz2 0
    have g1 := Lib.frozen_of_heap hz2 1
    have g2 := Lib.frozen_of_heap hz2 2
    have g3 := Lib.frozen_of_heap hz2 3
    have HZ2 := Lib.hid hz2; have HU := Lib.hid hu; have HS2 := Lib.hid hs2; have HF2 := Lib.hid hf2; have HG := Lib.hid hg
    clear hz2 hu hs2 hf2 hg s0 s1 s2 s3
    simp only [tyV]
    go_wp2
    exact bodyPost_ret (v := prV (⟨#[83, 104, 111, 119]⟩, t) (.slice a2 t.kids.length n2)) (by have hc := set4_cells HZ2.out (.string ⟨#[83, 104, 111, 119]⟩) (.int .i64 t.kind) (.string t.name) (.slice a2 t.kids.length n2); simp [results, Tryd.results22, go_sem, prV, hc.1, hc.2.1, hc.2.2.1, hc.2.2.2]) rfl (pred_finG (q := (⟨#[83, 104, 111, 119]⟩, t)) HS2.out hk2 (H2.out.trans HF2.out) hp HZ2.out HU.out.tys HG.out)
  · go_wp2_with (go_at_call 12; refine (HT.out _ H1.out).mono ?_)
    rintro e W2 ⟨⟨t, u, rfl, hg, hu⟩, ⟨k2, hk2, hs2⟩, hf2⟩
    obtain ⟨a2, n2, rfl⟩ := hu.shape
    have hz2 := hf2.2 _ _ HZ.out HNe.out
    obtain ⟨d0, d1, d2, d3⟩ := four_cells hz2
    have g0 := Lib.frozen_of_heap hz2 0
    have g1 := Lib.frozen_of_heap hz2 1
    have g2 := Lib.frozen_of_heap hz2 2
    have g3 := Lib.frozen_of_heap hz2 3
    have HZ2 := Lib.hid hz2; have HU := Lib.hid hu; have HS2 := Lib.hid hs2; have HF2 := Lib.hid hf2; have HG := Lib.hid hg
    clear hz2 hu hs2 hf2 hg s0 s1 s2 s3
    simp only [tyV]
    go_wp2
    exact bodyPost_ret (v := prV (⟨#[78, 117, 109]⟩, t) (.slice a2 t.kids.length n2)) (by have hc := set4_cells HZ2.out (.string ⟨#[78, 117, 109]⟩) (.int .i64 t.kind) (.string t.name) (.slice a2 t.kids.length n2); simp [results, Tryd.results22, go_sem, prV, hc.1, hc.2.1, hc.2.2.1, hc.2.2.2]) rfl (pred_finG (q := (⟨#[78, 117, 109]⟩, t)) HS2.out hk2 (H2.out.trans HF2.out) hp HZ2.out HU.out.tys HG.out)

def MadePsG (most m D B p : Nat) (a : Option Addr) (n c k : Nat) (w : World) (e : Ending) (w' : World) : Prop :=
  (∃ l v, e = .returned v ∧ (l.length ≤ most ∧ ∀ q ∈ l, (T.Good q.2 ∧ Fits q.2 ∧ (T.text q.2).length + 10 ≤ D)) ∧ PrsAt w' v l) ∧ (∃ k', k' ≤ k + 1 + (1 + m) * most ∧ SeqAt B p a n c k' w') ∧ MkFr B p w w'

set_option maxRecDepth 100000 in
set_option maxHeartbeats 4000000 in
theorem make_predsG (most dp m D : Nat) (hmost : most ≤ 1000) (hm1000 : m ≤ 1000) (B p : Nat) (a : Option Addr) (n c k : Nat) (w : World) (h : SeqAt B p a n c k w) (hk : k < 100000000000000000) (hT : ∀ (k : Nat) (W : World), SeqAt B p a n c k W → k < 1000000000000000000 → Calls Tryd.prog 12 #[.pointer (some ⟨p, 0, none⟩), .int .i64 (dp : Int)] W (MadeN B p a n c k m D W)) (hn : n < 1152921504606846976) :
    Calls Tryd.prog 6 #[.pointer (some ⟨p, 0, none⟩), .int .i64 (most : Int), .int .i64 (dp : Int)] w (MadePsG most m D B p a n c k w) := by
  have hp := h.lt
  obtain ⟨i0, hi, hz0, hz1, hz2⟩ := info_parts Tryd.infoPred
  have HN := Lib.hid (next_any B p a n c k (most + 1) w h (by omega) (by omega) (by omega) hn)
  have HB := Lib.hid h.1.1
  have HT := Lib.hid hT
  have hmI : wrap64 ((most : Int) + 1) = (most : Int) + 1 := by unfold wrap64; omega
  have hmI2 : IntKind.i64.wrap ((most : Int) + 1) = (most : Int) + 1 := by rw [IntKind.wrap_i64]; omega
  have hmI3 : (((most + 1 : Nat)) : Int) = (most : Int) + 1 := by omega
  rw [hmI3] at HN
  clear h hT
  go_enter Tryd.func6, Tryd.ntmps6
  go_wp2_with (go_at_call 21; refine HN.out.mono ?_)
  rintro e W1 ⟨⟨r, hr, rfl⟩, h1, h2⟩
  have H1 := Lib.hid h1; have H2 := Lib.hid h2
  clear h1 h2
  go_wp2_with fail
  go_loopw [7, 8] (fun vl vi wr => ∃ (q : List (Pr × Value)) (i k' : Nat), vi = .int .i64 i ∧ i + q.length ≤ most ∧ Hid (wr.ownsRow w.heap.size 35 4 vl q.length (prRow q)) ∧ Hid (∀ x ∈ q, TysAt wr x.2 x.1.2.kids) ∧ Hid (∀ x ∈ q, (T.Good x.1.2 ∧ Fits x.1.2 ∧ (T.text x.1.2).length + 10 ≤ D)) ∧ Hid (k' ≤ k + 1 + (1 + m) * q.length ∧ SeqAt B p a n c k' wr) ∧ Hid (MkFr B p w wr)) (fun _ vi _ => (intOf vi).toNat)
  case atStart => exact ⟨[], r, k + 1, rfl, by simp; omega, Lib.hid (World.ownsRow_nil _ _ _ _), Lib.hid (fun x hx => by cases hx), Lib.hid (fun x hx => by cases hx), Lib.hid ⟨by simp, H1.out⟩, Lib.hid H2.out⟩
  case round =>
    obtain ⟨q, i, k', rfl, hq3, hrow, hty, hgd, hsq, hfr⟩ := hrel
    by_cases hpos : 0 < i
    · have hposI : (0 : Int) < (i : Int) := by omega
      go_wp2_with (go_at_call 22; refine (make_predG dp m D B p a n c k' _ hsq.out.2 (by have h1 := hsq.out.1; have h2 := Nat.mul_le_mul_left (1 + m) (show q.length ≤ 1000 by omega); omega) HT.out hn).mono ?_)
      rintro e W2 ⟨⟨x, u, rfl, hg, hu⟩, ⟨k2, hk2, hs2⟩, hf2⟩
      obtain ⟨a2, n2, rfl⟩ := hu.shape
      have hrow2 := own_keep hrow.out hf2.2 hp
      have HF2 := Lib.hid (hfr.out.trans hf2)
      have HS2 := Lib.hid hs2; have HU := Lib.hid hu; have HG := Lib.hid hg; have HR2 := Lib.hid hrow2
      have HTY2 := Lib.hid (fun y hy => (hty.out y hy).keep (KeepT.of_mk hf2 hsq.out.2))
      have HKq := Lib.hid hk2
      clear hrow2 hs2 hu hg hf2 hk2
      simp only [prV]
      go_wp2_with (at_builtin; refine wpList_append_own _ rfl _ _ 24 rfl w.heap.size 35 i0 (.agg #[.string ⟨#[]⟩, .int .i64 0, .string ⟨#[]⟩, .slice none 0 0]) 4 64 Tryd.underlying24 hi hz0 hz1 hz2 rfl (by decide) _ _ _ rfl (HR2.out.alloc _) ⟨W2.heap.size, 0, none⟩ 1 1 (prCells (x, .slice a2 x.2.kids.length n2)) rfl rfl (cell_new4 _ _ _ _ _ _) (by simp [prCells, Value.oneCell']) ?c3 ?c4 ?c5 ?_)
      case c3 => unfold maxLen; omega
      case c4 => omega
      case c5 => have := HF2.out.1.size; simp; omega
      intro v' W3 hown3 hgrow _
      have hkt : KeepT W2 W3 := (keepT_alloc W2 _).trans (KeepT.grown hgrow (HR2.out.alloc _) (by decide))
      have hsz : w.heap.size ≤ W2.heap.size := HF2.out.1.size
      have hBw : B ≤ w.heap.size := by have := HB.out; omega
      have hbelB : Below B W2 W3 := ((Below.refl B W2).alloc (Nat.le_trans hBw hsz) _).grown hgrow (by simp; omega) (fun j hj => Nat.le_trans hBw (HR2.out.lt j hj).1)
      have hblk : ∀ j o, W2.heap[j]? = some o → j < w.heap.size → W3.heap[j]? = some o := fun j o hj hlt =>
        (hgrow.block j (by simp; omega) (fun e => by have := (HR2.out.lt j e.symm).1; omega)).trans ((Below.heap_alloc W2 _ j (by omega)).trans hj)
      have HS3 := Lib.hid (show SeqAt B p a n c k2 W3 from ⟨⟨HB.out, hblk p _ HS2.out.1.2 hp⟩, HS2.out.2.keep hbelB⟩)
      have HF3 := Lib.hid (show MkFr B p w W3 from ⟨HF2.out.1.trans hbelB, fun j o hj hjp => hblk j o (HF2.out.2 j o hj hjp) (Array.getElem?_eq_some_iff.1 hj).1⟩)
      have HT3 := Lib.hid (fun y hy => (HTY2.out y hy).keep hkt)
      have HX3 := Lib.hid (HU.out.keep hkt)
      have HO3 := Lib.hid hown3
      clear hkt hbelB hblk hown3 hgrow
      go_wp2
      go_roundw
      case rel =>
        refine ⟨q ++ [(x, .slice a2 x.2.kids.length n2)], i - 1, k2, congrArg (Value.int .i64) (by omega), by simp; omega, Lib.hid ?_, Lib.hid ?_, Lib.hid ?_, Lib.hid ⟨?_, HS3.out⟩, HF3⟩
        · rw [prRow_snoc, List.length_append]; exact HO3.out
        · intro y hy
          rcases List.mem_append.1 hy with hy | hy
          · exact HT3.out y hy
          · obtain rfl := List.mem_singleton.1 hy
            exact HX3.out
        · intro y hy
          rcases List.mem_append.1 hy with hy | hy
          · exact hgd.out y hy
          · obtain rfl := List.mem_singleton.1 hy
            exact HG.out
        · have h1 := HKq.out; have h2 := hsq.out.1
          rw [List.length_append, List.length_singleton, Nat.mul_add, Nat.mul_one]; omega
      case measure => simp [intOf]; omega
    · obtain rfl : i = 0 := by omega
      obtain ⟨va, vc, rfl⟩ := row_val hrow.out
      go_wp2
      go_ret
      have h2 := hsq.out.1
      refine ⟨⟨q.map (·.1), .slice va q.length vc, rfl, ⟨by simp; omega, fun y hy => ?_⟩, prs_of_row hrow.out hty.out⟩, ⟨k', Nat.le_trans h2 (Nat.add_le_add_left (Nat.mul_le_mul_left (1 + m) (by omega)) _), hsq.out.2⟩, hfr.out⟩
      obtain ⟨z, hz, rfl⟩ := List.mem_map.1 hy
      exact hgd.out z hz
end Go.Proofs.YtjnlchhikdfifaaDoor
