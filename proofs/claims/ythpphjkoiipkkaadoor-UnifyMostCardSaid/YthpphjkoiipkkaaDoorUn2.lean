/- Merged: RegMark, MtM, MtS, MtT, MtU. -/
import Derived.Test.YthpphjkoiipkkaaDoorUm10
import Derived.Test.YthpphjkoiipkkaaDoorUn1
import Derived.Test.YthpphjkoiipkkaaDoorUm11
import Derived.Deep.AppendLies
/- A region that draws its order, by an invariant and a mark: what holds between some of its operations alone (a row that one makes and another takes). -/
namespace Go.Proofs.YthpphjkoiipkkaaDoor

def updB (L : Nat → Bool) (i : Nat) : Nat → Bool := fun j => if j = i then true else L j
theorem updB_same (L : Nat → Bool) (i : Nat) : updB L i i = true := by simp [updB]
theorem updB_other (L : Nat → Bool) {i j : Nat} (h : j ≠ i) : updB L i j = L j := by simp [updB, h]

/-- What is asked of an operation that the mark speaks of. -/
structure MarkAt (P : Program) (fr : (Nat → Value) → Act) (S : World → Prop) (Vals : Nat → Value → World → Prop) (Mk : (Nat → Bool) → (Nat → Value) → World → Prop)
    (ops : Array Oper) (Q : Exit → Act → World → Prop) (i : Nat) (o : Oper) : Prop where
  back : ∀ e ∈ o.after, Region.binds .any e = true → e.on < i
  put : ∀ x v, (fr x).put o.dst v = fr (upd x i v)
  run : ∀ (L : Nat → Bool) (x : Nat → Value) (w : World), S w → (∀ j, L j = true → Vals j (x j) w) → Mk L x w → L i = false → (∀ e ∈ o.after, Region.binds .any e = true → L e.on = true) →
    ∀ K : Act → World → Prop, (∀ v w', S w' → (∀ j, L j = true → Vals j (x j) w') → Vals i v w' → Mk (updB L i) (upd x i v) w' → K ((fr x).put o.dst v) w') →
      if Region.wanted o (yielded ops (fr x).tmps) = true then Oper.wp P o (fr x) w K Q else K ((fr x).put o.dst undef) w

section
variable {P : Program} {ops : Array Oper} {Q : Exit → Act → World → Prop} {fr : (Nat → Value) → Act} {S : World → Prop} {Rel : World → World → Prop} {Vals : Nat → Value → World → Prop} {Mk : (Nat → Bool) → (Nat → Value) → World → Prop} {sp : Nat → Bool}

theorem mark_any (hput : ∀ i o, ops[i]? = some o → sp i = false → StepAt P fr S Rel Vals ops Q i o) (hmark : ∀ i o, ops[i]? = some o → sp i = true → MarkAt P fr S Vals Mk ops Q i o)
    (hrel : ∀ w w', S w → Rel w w' → S w') (hval : ∀ i v w w', S w → Vals i v w → Rel w w' → Vals i v w') (hmk : ∀ i L x v w w', sp i = false → S w → Mk L x w → Rel w w' → Mk (updB L i) (upd x i v) w')
    (hfin : ∀ L x w, S w → (∀ i, i < ops.size → L i = true ∧ Vals i (x i) w) → Mk L x w → Q .normal (fr x) w) :
    ∀ (fuel : Nat) (listed : Array Bool) (x : Nat → Value) (w : World), listed.size = ops.size → ops.size ≤ fuel + listed.toList.count true → S w →
      (∀ i, listed.getD i false = true → Vals i (x i) w) → Mk (fun i => listed.getD i false) x w → wpAny P .any ops Q fuel listed (fr x) w := by
  have hback : ∀ i o, ops[i]? = some o → ∀ e ∈ o.after, Region.binds .any e = true → e.on < i := fun i o h => by
    cases hs : sp i with
    | false => exact (hput i o h hs).back
    | true => exact (hmark i o h hs).back
  have hend : ∀ (listed : Array Bool) (x : Nat → Value) (w : World), listed.size = ops.size → S w → (∀ i, listed.getD i false = true → Vals i (x i) w) → Mk (fun i => listed.getD i false) x w →
      Region.ready .any ops listed = [] → Q .normal (fr x) w := fun listed x w hz hS hV hM h =>
    hfin _ x w hS (fun i hi => ⟨all_of_none hback hz h i hi, hV i (all_of_none hback hz h i hi)⟩) hM
  intro fuel
  induction fuel with
  | zero =>
    intro listed x w hz hc hS hV hM
    have hall : listed.toList.count true = listed.toList.length := by
      have := List.count_le_length (a := true) (l := listed.toList)
      simp at this hc ⊢; omega
    have hr : Region.ready .any ops listed = [] := by
      cases h : Region.ready .any ops listed with
      | nil => rfl
      | cons i l =>
        have hi : i ∈ Region.ready .any ops listed := by rw [h]; simp
        obtain ⟨h0, o, ho, _⟩ := mem_ready.1 hi
        have hlt : i < listed.size := by rw [hz]; exact (Array.getElem?_eq_some_iff.1 ho).1
        have := List.count_eq_length.1 hall listed[i] (by simp)
        simp [hlt] at h0
        rw [h0] at this; cases this
    exact ⟨hr, hend listed x w hz hS hV hM hr⟩
  | succ fuel ih =>
    intro listed x w hz hc hS hV hM
    refine ⟨hend listed x w hz hS hV hM, fun i hi => ?_⟩
    obtain ⟨h0, o, ho, hdep⟩ := mem_ready.1 hi
    have hlt : i < listed.size := by rw [hz]; exact (Array.getElem?_eq_some_iff.1 ho).1
    have h0' : listed[i] = false := by simpa [hlt] using h0
    have hcnt : ops.size ≤ fuel + (listed.setIfInBounds i true).toList.count true := by
      have : (listed.setIfInBounds i true).toList.count true = listed.toList.count true + 1 := by
        rw [Array.toList_setIfInBounds, List.count_set (by simpa using hlt)]
        simp [h0']
      omega
    have hL : (fun j => (listed.setIfInBounds i true).getD j false) = updB (fun j => listed.getD j false) i := by
      funext j
      by_cases e : j = i
      · subst e; rw [updB_same]; simp [hlt]
      · rw [updB_other _ e, getD_set_ne false (Ne.symm e)]
    have hVs : ∀ v w', (∀ j, listed.getD j false = true → Vals j (x j) w') → Vals i v w' → ∀ j, (listed.setIfInBounds i true).getD j false = true → Vals j (upd x i v j) w' := fun v w' h1 h2 j hj => by
      by_cases hji : j = i
      · subst hji; rw [upd_same]; exact h2
      · rw [upd_other x v hji]
        exact h1 j (by rw [getD_set_ne false (Ne.symm hji)] at hj; exact hj)
    cases hs : sp i with
    | false =>
      have H := hput i o ho hs
      have hK : ∀ v w', Rel w w' → Vals i v w' → wpAny P .any ops Q fuel (listed.setIfInBounds i true) ((fr x).put o.dst v) w' := fun v w' hr hv => by
        rw [H.put]
        exact ih _ _ _ (by simpa using hz) hcnt (hrel w w' hS hr) (hVs v w' (fun j hj => hval _ _ _ _ hS (hV j hj) hr) hv) (by rw [hL]; exact hmk i _ x v w w' hs hS hM hr)
      have := H.run x w hS (fun e he hb => hV e.on (hdep e he hb)) _ hK
      unfold wpOp
      simp only [ho]
      split
      · rename_i hw; rw [if_pos hw] at this; exact .inl this
      · rename_i hw; rw [if_neg hw] at this; exact this
    | true =>
      have H := hmark i o ho hs
      have hK : ∀ v w', S w' → (∀ j, listed.getD j false = true → Vals j (x j) w') → Vals i v w' → Mk (updB (fun j => listed.getD j false) i) (upd x i v) w' → wpAny P .any ops Q fuel (listed.setIfInBounds i true) ((fr x).put o.dst v) w' := fun v w' hS' hV' hv hM' => by
        rw [H.put]
        exact ih _ _ _ (by simpa using hz) hcnt hS' (hVs v w' hV' hv) (by rw [hL]; exact hM')
      have := H.run (fun j => listed.getD j false) x w hS hV hM (by simp [hlt, h0']) hdep _ hK
      unfold wpOp
      simp only [ho]
      split
      · rename_i hw; rw [if_pos hw] at this; exact .inl this
      · rename_i hw; rw [if_neg hw] at this; exact this

theorem region_mark (fr : (Nat → Value) → Act) (S : World → Prop) (Rel : World → World → Prop) (Vals : Nat → Value → World → Prop) (Mk : (Nat → Bool) → (Nat → Value) → World → Prop) (sp : Nat → Bool) (x0 : Nat → Value) {id : Nat} {a : Act} {w : World}
    (hm : P.follows .mixedOrders = true) (ha : a = fr x0) (hS : S w.drew) (hM : Mk (fun _ => false) x0 w.drew)
    (hrel : ∀ w w', S w → Rel w w' → S w') (hval : ∀ i v w w', S w → Vals i v w → Rel w w' → Vals i v w') (hmk : ∀ i L x v w w', sp i = false → S w → Mk L x w → Rel w w' → Mk (updB L i) (upd x i v) w')
    (hops : AllAt (fun i o => (sp i = false → StepAt P fr S Rel Vals ops Q i o) ∧ (sp i = true → MarkAt P fr S Vals Mk ops Q i o)) 0 ops.toList)
    (hfin : ∀ L x w, S w → (∀ i, i < ops.size → L i = true ∧ Vals i (x i) w) → Mk L x w → Q .normal (fr x) w) : (Code.region id ops true).wp P Q a w := by
  subst ha
  refine wp_region_any hm ?_
  have hg := fun (i : Nat) (o : Oper) (h : ops[i]? = some o) => hops.get (i := i) (o := o) (by simpa using h)
  have hnone : ∀ i, (Array.replicate ops.size false).getD i false = false := fun i => by
    by_cases h : i < ops.size
    · simp [h]
    · simp [h]
  refine mark_any (fun i o h hs => by have := (hg i o h).1 (by rwa [Nat.zero_add]); rwa [Nat.zero_add] at this) (fun i o h hs => by have := (hg i o h).2 (by rwa [Nat.zero_add]); rwa [Nat.zero_add] at this) hrel hval hmk hfin _ _ _ _ (by simp) (by simp) hS
    (fun i hi => by rw [hnone] at hi; cases hi) ?_
  rw [show (fun i => (Array.replicate ops.size false).getD i false) = fun _ => false from funext hnone]
  exact hM
end
end Go.Proofs.YthpphjkoiipkkaaDoor
/- The document's match: what its drawn region keeps between its operations. -/
namespace Go.Proofs.YthpphjkoiipkkaaDoor
open Go.RowKit Go.Sort Go.Lib
attribute [local go_sem] Oper.semAt_some

theorem own_below {w w' : World} {base : Nat} {e : TypeId} {size : Nat} {v : Value} {n : Nat} {xs : List Value} (h : w.ownsRow base e size v n xs) (hb : Below w.heap.size w w') : w'.ownsRow base e size v n xs := by
  refine ⟨h.1, ?_⟩
  rcases h.2 with h2 | ⟨g, cap, cur, rfl, hb', hg, r⟩
  · exact .inl h2
  · exact .inr ⟨g, cap, cur, rfl, hb', (hb.block g (Array.getElem?_eq_some_iff.1 hg).1).trans hg, r⟩
theorem nope {p : Prop} {c : Bool} (h : c = false) (e : c = true) : p := by rw [h] at e; cases e
theorem depL {o : Oper} {L : Nat → Bool} (h : ∀ e ∈ o.after, Region.binds .any e = true → L e.on = true) (j : Nat)
    (hj : (o.after.any fun e => Region.binds .any e && e.on == j) = true) : L j = true := by
  rw [Array.any_eq_true'] at hj
  obtain ⟨e, he, hj⟩ := hj
  simp only [Bool.and_eq_true, beq_iff_eq] at hj
  have := h e he hj.1
  rw [hj.2] at this; exact this
theorem grown_refl (w : World) (r : Option Nat) : w.grownBy w r := ⟨rfl, rfl, rfl, Nat.le_refl _, fun _ _ _ => rfl⟩
/-- Nothing is appended. -/
theorem step_append_none {P : Program} (w : World) {ops : Array Oper} {o : Oper} {a : Act} {K : Act → World → Prop} {Q : Exit → Act → World → Prop} {E : Prop} (hgd : o.guard = none) (s x : Operand) (t : TypeId)
    (ho : o.op = .call { callee := .builtin .append, args := #[s, x], argTypes := #[t, t] }) (e : TypeId) (i : TypeInfo) (ht : P.underlying t = some (.slice e)) (hi : P.info? e = some i)
    (g : Addr) (n c : Nat) (hs : a.eval s = .slice (some g) n c) (hle : n ≤ c) (hx : a.eval x = .slice none 0 0) (h : K (a.put o.dst (.slice (some g) n c)) w) :
    if Region.wanted o (yielded ops a.tmps) = true then Oper.wp P o a w K Q else E := by
  have hw : Region.wanted o (yielded ops a.tmps) = true := by simp [Region.wanted, hgd]
  rw [if_pos hw]
  have hr : (Builtin.append_ #[t, t] o.type #[.slice (some g) n c, .slice none 0 0]).run P w = .ok (.slice (some g) n c) w := by
    simp [Builtin.append_, run_underlying ht, sizeOf, typeInfo, hi, hle, storeCells, go_sem]
  unfold Oper.wp execOp
  simp only [ho, resolve, invoke, builtin, Sem.run_bind, Sem.run_pure, Result.andThen_ok, List.map_toArray, List.map_cons, List.map_nil, hs, hx, hr]
  exact h
abbrev prV (x : PR) : Array Value := #[.string x.n, .int .i64 x.t.kind, .string x.t.name, .slice x.a x.t.kids.length x.c]
/-- Rows that one operation makes and another takes: 0 an empty one, 2 a copy, 7 a row of one pair, 8 both. -/
structure MtK (b : Nat) (T : TypeId) (ds : List PR) (pr : PR) (L : Nat → Bool) (x : Nat → Value) (V : World) : Prop where
  l2 : L 2 = true → L 0 = true
  l8 : L 8 = true → L 2 = true ∧ L 7 = true
  l9 : L 9 = true → L 8 = true
  o0 : L 0 = true → L 2 = false → V.ownsRow b T 4 (x 0) 0 []
  o2 : L 2 = true → L 8 = false → V.ownsRow b T 4 (x 2) ds.length (cellsP ds)
  r7 : L 7 = true → L 8 = false → ∃ zb, x 7 = .slice (some ⟨zb, 0, none⟩) 1 1 ∧ V.heap[zb]? = some (.cells (prV pr) T (0, 0)) ∧ (L 0 = true → L 2 = false → (x 0).ownBlock ≠ some zb) ∧ (L 2 = true → (x 2).ownBlock ≠ some zb)
section
variable {b : Nat} {T : TypeId} {ds : List PR} {pr : PR} {L : Nat → Bool} {x : Nat → Value} {V Y : World}
theorem MtK.start (b : Nat) (T : TypeId) (ds : List PR) (pr : PR) (x : Nat → Value) (V : World) : MtK b T ds pr (fun _ => false) x V :=
  ⟨(fun h => nomatch h), (fun h => nomatch h), (fun h => nomatch h), (fun h => nomatch h), (fun h => nomatch h), (fun h => nomatch h)⟩
theorem MtK.below (h : MtK b T ds pr L x V) (hb : Below V.heap.size V Y) : MtK b T ds pr L x Y := by
  refine ⟨h.l2, h.l8, h.l9, fun h0 h2 => own_below (h.o0 h0 h2) hb, fun h2 h8 => own_below (h.o2 h2 h8) hb, fun h7 h8 => ?_⟩
  obtain ⟨zb, e, hz, r⟩ := h.r7 h7 h8
  exact ⟨zb, e, (hb.block zb (Array.getElem?_eq_some_iff.1 hz).1).trans hz, r⟩
/-- Any other operation. -/
theorem MtK.keep (h : MtK b T ds pr L x V) (hb : Below V.heap.size V Y) {i : Nat} (hi : (i == 0 || i == 2 || i == 7 || i == 8 || i == 9) = false) (v : Value) : MtK b T ds pr (updB L i) (upd x i v) Y := by
  simp only [Bool.or_eq_false_iff, beq_eq_false_iff_ne, ne_eq] at hi
  obtain ⟨⟨⟨⟨i0, i2⟩, i7⟩, i8⟩, i9⟩ := hi
  have h := h.below hb
  have e0 := updB_other L (Ne.symm i0); have e2 := updB_other L (Ne.symm i2); have e7 := updB_other L (Ne.symm i7); have e8 := updB_other L (Ne.symm i8); have e9 := updB_other L (Ne.symm i9)
  have f0 := upd_other x v (Ne.symm i0); have f2 := upd_other x v (Ne.symm i2); have f7 := upd_other x v (Ne.symm i7)
  refine ⟨?_, ?_, ?_, ?_, ?_, ?_⟩ <;> simp only [e0, e2, e7, e8, e9, f0, f2, f7]
  · exact h.l2
  · exact h.l8
  · exact h.l9
  · exact h.o0
  · exact h.o2
  · exact h.r7
theorem MtK.no2 (h : MtK b T ds pr L x V) (h0 : L 0 = false) : L 2 = false := by
  cases e : L 2 with
  | false => rfl
  | true => have := h.l2 e; rw [h0] at this; cases this
theorem MtK.no8 (h : MtK b T ds pr L x V) (h2 : L 2 = false ∨ L 7 = false) : L 8 = false := by
  cases e : L 8 with
  | false => rfl
  | true =>
    obtain ⟨a1, a2⟩ := h.l8 e
    rcases h2 with h2 | h2
    · rw [h2] at a1; cases a1
    · rw [h2] at a2; cases a2
theorem MtK.no9 (h : MtK b T ds pr L x V) (h8 : L 8 = false) : L 9 = false := by
  cases e : L 9 with
  | false => rfl
  | true => have := h.l9 e; rw [h8] at this; cases this
/-- An empty row is made. -/
theorem MtK.lit (h : MtK b T ds pr L x V) (h0 : L 0 = false) (hb : b ≤ V.heap.size) : MtK b T ds pr (updB L 0) (upd x 0 (.slice (some ⟨V.heap.size, 0, none⟩) 0 0)) (V.alloc (.cells #[] T)) := by
  have h2 := h.no2 h0
  have h8 := h.no8 (.inl h2)
  have h9 := h.no9 h8
  have hk := h.below ((Below.refl _ V).alloc (Nat.le_refl _) (.cells #[] T))
  have e2 : updB L 0 2 = false := h2; have e7 : updB L 0 7 = L 7 := rfl; have e8 : updB L 0 8 = false := h8; have e9 : updB L 0 9 = false := h9
  refine ⟨fun e => nope e2 e, fun e => nope e8 e, fun e => nope e9 e, fun _ _ => ?_, fun e => nope e2 e, fun h7 _ => ?_⟩
  · exact ⟨rfl, .inr ⟨V.heap.size, 0, #[], rfl, hb, alloc_new V _, Nat.le_refl _, by unfold maxLen; omega, rfl, rfl⟩⟩
  · obtain ⟨zb, e, hz, _⟩ := h.r7 h7 h8
    obtain ⟨zb', e', hz', _⟩ := hk.r7 h7 h8
    have : zb = zb' := by rw [e] at e'; injection e' with q; injection q with q; injection q
    subst this
    refine ⟨zb, e, hz', fun _ _ eq => ?_, fun e => nope e2 e⟩
    have : V.heap.size = zb := by simpa [upd, Value.ownBlock] using eq
    have := (Array.getElem?_eq_some_iff.1 hz).1
    omega
/-- A row of one pair is made. -/
theorem MtK.one (h : MtK b T ds pr L x V) (h7 : L 7 = false) : MtK b T ds pr (updB L 7) (upd x 7 (.slice (some ⟨V.heap.size, 0, none⟩) 1 1)) (V.alloc (.cells (prV pr) T)) := by
  have h8 := h.no8 (.inr h7)
  have h9 := h.no9 h8
  have hk := h.below ((Below.refl _ V).alloc (Nat.le_refl _) (.cells (prV pr) T))
  refine ⟨h.l2, fun e => nope (c := updB L 7 8) h8 e, fun e => nope (c := updB L 7 9) h9 e, hk.o0, hk.o2, fun _ _ => ?_⟩
  refine ⟨V.heap.size, rfl, alloc_new V _, fun e0 e2 eq => ?_, fun e2 eq => ?_⟩
  · have := ((h.o0 e0 e2).lt V.heap.size eq).2; omega
  · have := ((h.o2 e2 h8).lt V.heap.size eq).2; omega
/-- The copy. -/
theorem MtK.app (h : MtK b T ds pr L x V) (h2 : L 2 = false) (h0 : L 0 = true) {g c : Nat} (ho : Y.ownsRow b T 4 (.slice (some ⟨g, 0, none⟩) ds.length c) ds.length (cellsP ds)) (hg : V.grownBy Y (x 0).ownBlock) (hat : (x 0).ownBlock = some g ∨ g = V.heap.size) :
    MtK b T ds pr (updB L 2) (upd x 2 (.slice (some ⟨g, 0, none⟩) ds.length c)) Y := by
  have h8 := h.no8 (.inl h2)
  have h9 := h.no9 h8
  refine ⟨fun _ => h0, fun e => nope (c := updB L 2 8) h8 e, fun e => nope (c := updB L 2 9) h9 e, fun _ e => nope e (updB_same _ _), fun _ _ => ho, fun h7 _ => ?_⟩
  obtain ⟨zb, e, hz, hn, _⟩ := h.r7 h7 h8
  have hl := (Array.getElem?_eq_some_iff.1 hz).1
  refine ⟨zb, e, (hg.block zb hl (Ne.symm (hn h0 h2))).trans hz, fun _ e => nope e (updB_same _ _), fun _ eq => ?_⟩
  have eg : g = zb := by simpa [upd, Value.ownBlock] using eq
  subst eg
  rcases hat with hat | hat
  · exact hn h0 h2 hat
  · omega
/-- Both in one. -/
theorem MtK.last (h : MtK b T ds pr L x V) (h2 : L 2 = true) (h7 : L 7 = true) (h8 : L 8 = false) (v : Value) (Y : World) : MtK b T ds pr (updB L 8) (upd x 8 v) Y := by
  have h9 := h.no9 h8
  refine ⟨h.l2, fun _ => ⟨h2, h7⟩, fun e => nope (c := updB L 8 9) h9 e, fun _ e => ?_, fun _ e => nope e (updB_same _ _), fun _ e => nope e (updB_same _ _)⟩
  rw [show updB L 8 2 = L 2 from rfl, h2] at e; cases e
theorem MtK.asn (h : MtK b T ds pr L x V) (h8 : L 8 = true) (v : Value) : MtK b T ds pr (updB L 9) (upd x 9 v) V :=
  ⟨h.l2, h.l8, fun _ => h8, h.o0, h.o2, h.r7⟩
end
end Go.Proofs.YthpphjkoiipkkaaDoor
/- the document's match: its last statement, a region of 11 operations that draws its order, by an invariant. (Made by a program.) -/
namespace Go.Proofs.YthpphjkoiipkkaaDoor
open Go.RowKit Go.Sort Go.Lib
attribute [local go_sem] Oper.semAt_some

noncomputable def mtcOps : Array Oper := regionIn 5 (Tryd.f39.body.getD .skip)
def mtcFr (b : Nat → Value) (d : List Deferred) (x : Nat → Value) : Act := { tmps := #[b 0, b 1, b 2, b 3, b 4, b 5, x 9, x 10, b 8, b 9, b 10, b 11, b 12, b 13, b 14, b 15, b 16, b 17, b 18, b 19, b 20, b 21, b 22, b 23, b 24, b 25, b 26, x 0, x 1, x 2, x 3, x 4, x 5, x 6, x 7, x 8, b 36, b 37, b 38, b 39, b 40, b 41, b 42, b 43, b 44, b 45, b 46, b 47, b 48, b 49, b 50, b 51, b 52, b 53, b 54, b 55, b 56, b 57, b 58, b 59, b 60, b 61, b 62, b 63, b 64, b 65, b 66, b 67, b 68, b 69, b 70, b 71, b 72, b 73, b 74, b 75, b 76, b 77, b 78, b 79, b 80, b 81, b 82, b 83], defers := d }

def mtcVals (b4 : Nat) (pr : PR) (ds : List PR) (sv : Value) (w : World) (i : Nat) (v : Value) (V : World) : Prop :=
  match i with
  | 0 => ∃ zg, v = .slice (some ⟨zg, 0, none⟩) 0 0 ∧ True
  | 1 => v = sv
  | 2 => ∃ zg zc, v = .slice (some ⟨zg, 0, none⟩) ds.length zc ∧ True
  | 3 => v = .pointer (some ⟨b4, 1, none⟩)
  | 4 => v = .string pr.n
  | 5 => v = .agg #[.int .i64 pr.t.kind, .string pr.t.name, .slice pr.a pr.t.kids.length pr.c]
  | 6 => v = .agg #[.string pr.n, .int .i64 pr.t.kind, .string pr.t.name, .slice pr.a pr.t.kids.length pr.c]
  | 7 => ∃ zg, v = .slice (some ⟨zg, 0, none⟩) 1 1 ∧ True
  | 8 => ∃ zg zc, v = .slice (some ⟨zg, 0, none⟩) (ds.length + 1) zc ∧ V.ownsRow w.heap.size 53 4 (.slice (some ⟨zg, 0, none⟩) (ds.length + 1) zc) (ds.length + 1) (cellsP ds ++ encP pr)
  | 9 => ∃ zg zc, v = .slice (some ⟨zg, 0, none⟩) (ds.length + 1) zc ∧ V.ownsRow w.heap.size 53 4 (.slice (some ⟨zg, 0, none⟩) (ds.length + 1) zc) (ds.length + 1) (cellsP ds ++ encP pr)
  | 10 => v = .bool true
  | _ => True

theorem mtcVals_keep {b4 : Nat} {pr : PR} {ds : List PR} {sv : Value} {w : World} (i : Nat) (v : Value) (V Y : World) (h : mtcVals b4 pr ds sv w i v V) (hb : Below V.heap.size V Y) : mtcVals b4 pr ds sv w i v Y := by
  unfold mtcVals at *
  split at h <;> first
    | exact h
    | (obtain ⟨zg, e, h⟩ := h; exact ⟨zg, e, h⟩)
    | (obtain ⟨zg, zc, e, h⟩ := h; exact ⟨zg, zc, e, h⟩)
    | (obtain ⟨zg, zc, e, h⟩ := h; exact ⟨zg, zc, e, own_below h hb⟩)

theorem mtcVals_any {b4 : Nat} {pr : PR} {ds : List PR} {sv : Value} {w : World} (i : Nat) (v : Value) (V Y : World) (h8 : i ≠ 8) (h9 : i ≠ 9) (h : mtcVals b4 pr ds sv w i v V) : mtcVals b4 pr ds sv w i v Y := by
  unfold mtcVals at *
  split at h <;> first
    | exact h
    | exact absurd rfl h8
    | exact absurd rfl h9

theorem mtc_size : mtcOps.size = 11 := by kernel_rfl
set_option linter.unusedSimpArgs false in
set_option maxRecDepth 100000 in
set_option maxHeartbeats 8000000 in
theorem mtc_region {w : World} {b4 b5 : Nat} {pr : PR} {ds : List PR} {sv : Value} (hg : GivenG 53 sv ds w) (hds : ds.length ≤ 1000000000) (hc4 : w.cell? ⟨b4, 1, none⟩ = some (.string pr.n)) (hc50 : w.cell? ⟨b5, 0, none⟩ = some (.int .i64 pr.t.kind)) (hc51 : w.cell? ⟨b5, 1, none⟩ = some (.string pr.t.name)) (hc52 : w.cell? ⟨b5, 2, none⟩ = some (.slice pr.a pr.t.kids.length pr.c)) {b : Nat → Value} {d : List Deferred}
    (h0 : b 0 = sv) (h4 : b 4 = .pointer (some ⟨b4, 0, none⟩)) (h5 : b 5 = .pointer (some ⟨b5, 0, none⟩))
    
    {Q : Exit → Act → World → Prop} {ops : Array Oper} (hops : ops = mtcOps) (x0 : Nat → Value) (X : World) (hS : Below w.heap.size w X.drew)
    (hfin : ∀ (x : Nat → Value) V zg zc, Below w.heap.size w V → x 9 = .slice (some ⟨zg, 0, none⟩) (ds.length + 1) zc → V.ownsRow w.heap.size 53 4 (.slice (some ⟨zg, 0, none⟩) (ds.length + 1) zc) (ds.length + 1) (cellsP ds ++ encP pr) → x 10 = .bool true → Q .normal (mtcFr b d x) V) : (Code.region 5 ops true).wp Tryd.prog Q (mtcFr b d x0) X := by
  refine region_mark (mtcFr b d) (fun V => Below w.heap.size w V) (fun V Y => Below V.heap.size V Y) (mtcVals b4 pr ds sv w) (MtK w.heap.size 53 ds pr) (fun i => i == 0 || i == 2 || i == 7 || i == 8 || i == 9) x0 (by kernel_rfl) rfl hS (MtK.start _ _ _ _ _ _) (fun V Y h hb => h.trans (hb.mono h.size)) (fun i v V Y _ h hb => mtcVals_keep  i v V Y h hb) (fun i L x v w w' hs hS hM hr => hM.keep hr hs v) ?_ (fun L x V hS hall _ => by obtain ⟨zg, zc, e9, h9⟩ : ∃ zg zc, x 9 = .slice (some ⟨zg, 0, none⟩) (ds.length + 1) zc ∧ V.ownsRow w.heap.size 53 4 (.slice (some ⟨zg, 0, none⟩) (ds.length + 1) zc) (ds.length + 1) (cellsP ds ++ encP pr) := (hall 9 (by rw [hops, mtc_size]; decide)).2; exact hfin x V zg zc hS e9 h9 (hall 10 (by rw [hops, mtc_size]; decide)).2)
  clear hfin hS
  obtain ⟨f, hf⟩ : ∃ qq, (fun i o => ((fun i => i == 0 || i == 2 || i == 7 || i == 8 || i == 9) i = false → StepAt Tryd.prog (mtcFr b d) (fun V => Below w.heap.size w V) (fun V Y => Below V.heap.size V Y) (mtcVals b4 pr ds sv w) ops Q i o) ∧ ((fun i => i == 0 || i == 2 || i == 7 || i == 8 || i == 9) i = true → MarkAt Tryd.prog (mtcFr b d) (fun V => Below w.heap.size w V) (mtcVals b4 pr ds sv w) (MtK w.heap.size 53 ds pr) ops Q i o)) = qq := ⟨_, rfl⟩
  rw [hf, hops]
  simp only [mtcOps, Tryd.f39, regionIn, Option.getD_some, Nat.reduceBEq, Bool.false_eq_true, if_false, if_true, beq_self_eq_true, Array.append_empty, Array.empty_append, List.append_eq, List.cons_append, List.nil_append, AllAt, Nat.reduceAdd, Nat.zero_add]
  -- 0: slot 27 := Op.buildSlice 38 0 #[]
  refine And.intro ?_ ?_
  · rw [← hf]; clear hf
    refine ⟨fun h => absurd h (by decide), fun _ => ⟨by decide +kernel, fun x v => by kernel_rfl, fun L x V hV hVs hMk hLi hdep K hK => ?_⟩⟩
    refine run_bare (by kernel_rfl) ?_
    have hz : w.heap.size ≤ V.heap.size := hV.size
    have H := Lib.hid (hMk.lit hLi hz)
    have HVs := Lib.hid hVs
    clear hVs hMk hdep
    unfold mtcFr at hK ⊢
    go_simp
    refine kfit (hK _ _ (hV.alloc hz _) (fun j hj => mtcVals_keep j _ V _ (HVs.out j hj) (below_a _ _)) ⟨_, rfl, trivial⟩ H.out) ?_
    first | (simp only [Act.put, List.setIfInBounds_toArray, List.set_cons_zero, List.set_cons_succ, h0, h4, h5]; done) | (simp only [Act.put, List.setIfInBounds_toArray, List.set_cons_zero, List.set_cons_succ, h0, h4, h5]; rfl)
  -- 1: slot 28 := Op.move t0
  refine And.intro ?_ ?_
  · rw [← hf]; clear hf
    refine ⟨fun _ => ⟨by decide +kernel, fun x v => by kernel_rfl, fun x V hV hdep K hK => ?_⟩, fun h => absurd h (by decide)⟩
    clear hdep
    refine run_bare (by kernel_rfl) ?_
    unfold mtcFr
    go_simp
    refine kfit (hK _ _ (Below.refl _ V) rfl) ?_
    first | (simp only [mtcFr, Act.put, List.setIfInBounds_toArray, List.set_cons_zero, List.set_cons_succ, h0, h4, h5]; done) | (simp only [mtcFr, Act.put, List.setIfInBounds_toArray, List.set_cons_zero, List.set_cons_succ, h0, h4, h5]; rfl)
  -- 2: slot 29 := Op.call { builtin append, args := #[t27, t28], argTypes := #
  refine And.intro ?_ ?_
  · rw [← hf]; clear hf
    refine ⟨fun h => absurd h (by decide), fun _ => ⟨by decide +kernel, fun x v => by kernel_rfl, fun L x V hV hVs hMk hLi hdep K hK => ?_⟩⟩
    have q0 := depL hdep 0 (by decide +kernel)
    obtain ⟨z0, e0, _⟩ : ∃ zg, x 0 = .slice (some ⟨zg, 0, none⟩) 0 0 ∧ True := hVs 0 q0
    have e1 : x 1 = sv := hVs 1 (depL hdep 1 (by decide +kernel))
    have ho := hMk.o0 q0 hLi
    have q8 := hMk.no8 (.inl hLi)
    obtain ⟨i0, hi, hz0, hz1, hz2⟩ := info_parts Tryd.infoRefPair
    clear hdep
    unfold mtcFr at hK ⊢
    rcases hg with ⟨rfl, rfl⟩ | ⟨hne, gs, gc, rfl, hrow⟩
    · refine step_append_none V (by kernel_rfl) (.tmp 27) (.tmp 28) 38 (by kernel_rfl) 53 i0 Tryd.underlying38 hi ⟨z0, 0, none⟩ 0 0 e0 (Nat.le_refl _) e1 ?_
      exact hK _ _ hV hVs ⟨z0, 0, rfl, trivial⟩ (hMk.app hLi q0 (by rw [e0] at ho; exact ho) (grown_refl _ _) (.inl (by rw [e0]; rfl)))
    · have hpos : 0 < ds.length := List.length_pos_iff.2 hne
      refine step_append_lies V (by kernel_rfl) (.tmp 27) (.tmp 28) 38 (by kernel_rfl) w.heap.size 53 i0 (.agg zeroP) 4 64 Tryd.underlying38 hi hz0 hz1 hz2 rfl (by decide) (x 0) 0 [] rfl ho ⟨gs, 0, none⟩ ds.length gc (cellsP ds) e1 (cellsP_len ds) (hrow.below hV).news (cellsP_one ds) hpos (by unfold maxLen; omega) (by omega) hV.size V.heap.size rfl ?_
      intro g9 c9 w9 hown9 hgr9 hat9 _
      rw [Nat.zero_add] at hown9 ⊢
      exact hK _ _ (hV.grown hgr9 hV.size fun j hj => (ho.lt j hj).1) (fun j hj => mtcVals_any j _ V _ (fun e => by subst e; exact nope q8 hj) (fun e => by subst e; exact nope (hMk.no9 q8) hj) (hVs j hj)) ⟨_, _, rfl, trivial⟩ (hMk.app hLi q0 hown9 hgr9 hat9)
  -- 3: slot 30 := Op.fieldAddr 29 t4 1
  refine And.intro ?_ ?_
  · rw [← hf]; clear hf
    refine ⟨fun _ => ⟨by decide +kernel, fun x v => by kernel_rfl, fun x V hV hdep K hK => ?_⟩, fun h => absurd h (by decide)⟩
    clear hdep
    refine run_bare (by kernel_rfl) ?_
    unfold mtcFr
    go_simp
    refine kfit (hK _ _ (Below.refl _ V) rfl) ?_
    first | (simp only [mtcFr, Act.put, List.setIfInBounds_toArray, List.set_cons_zero, List.set_cons_succ, h0, h4, h5]; done) | (simp only [mtcFr, Act.put, List.setIfInBounds_toArray, List.set_cons_zero, List.set_cons_succ, h0, h4, h5]; rfl)
  -- 4: slot 31 := Op.load 9 t30
  refine And.intro ?_ ?_
  · rw [← hf]; clear hf
    refine ⟨fun _ => ⟨by decide +kernel, fun x v => by kernel_rfl, fun x V hV hdep K hK => ?_⟩, fun h => absurd h (by decide)⟩
    have e3 : x 3 = .pointer (some ⟨b4, 1, none⟩) := depOf hdep 3 (by decide +kernel)
    clear hdep
    refine run_bare (by kernel_rfl) ?_
    unfold mtcFr
    have y0 := (hV.cell (p := ⟨b4, 1, none⟩) (World.block_lt_of_cell? _ _ hc4)).trans hc4; have y1 := (hV.cell (p := ⟨b5, 0, none⟩) (World.block_lt_of_cell? _ _ hc50)).trans hc50; have y2 := (hV.cell (p := ⟨b5, 1, none⟩) (World.block_lt_of_cell? _ _ hc51)).trans hc51; have y3 := (hV.cell (p := ⟨b5, 2, none⟩) (World.block_lt_of_cell? _ _ hc52)).trans hc52; clear hc4 hc50 hc51 hc52
    go_simp
    refine kfit (hK _ _ (Below.refl _ V) rfl) ?_
    first | (simp only [mtcFr, Act.put, List.setIfInBounds_toArray, List.set_cons_zero, List.set_cons_succ, h0, h4, h5, e3]; done) | (simp only [mtcFr, Act.put, List.setIfInBounds_toArray, List.set_cons_zero, List.set_cons_succ, h0, h4, h5, e3]; rfl)
  -- 5: slot 32 := Op.load 29 t5
  refine And.intro ?_ ?_
  · rw [← hf]; clear hf
    refine ⟨fun _ => ⟨by decide +kernel, fun x v => by kernel_rfl, fun x V hV hdep K hK => ?_⟩, fun h => absurd h (by decide)⟩
    clear hdep
    refine run_bare (by kernel_rfl) ?_
    unfold mtcFr
    have y0 := (hV.cell (p := ⟨b4, 1, none⟩) (World.block_lt_of_cell? _ _ hc4)).trans hc4; have y1 := (hV.cell (p := ⟨b5, 0, none⟩) (World.block_lt_of_cell? _ _ hc50)).trans hc50; have y2 := (hV.cell (p := ⟨b5, 1, none⟩) (World.block_lt_of_cell? _ _ hc51)).trans hc51; have y3 := (hV.cell (p := ⟨b5, 2, none⟩) (World.block_lt_of_cell? _ _ hc52)).trans hc52; clear hc4 hc50 hc51 hc52
    go_simp
    refine kfit (hK _ _ (Below.refl _ V) rfl) ?_
    first | (simp only [mtcFr, Act.put, List.setIfInBounds_toArray, List.set_cons_zero, List.set_cons_succ, h0, h4, h5]; done) | (simp only [mtcFr, Act.put, List.setIfInBounds_toArray, List.set_cons_zero, List.set_cons_succ, h0, h4, h5]; rfl)
  -- 6: slot 33 := Op.build 53 #[(0, t31), (1, t32)]
  refine And.intro ?_ ?_
  · rw [← hf]; clear hf
    refine ⟨fun _ => ⟨by decide +kernel, fun x v => by kernel_rfl, fun x V hV hdep K hK => ?_⟩, fun h => absurd h (by decide)⟩
    have e4 : x 4 = .string pr.n := depOf hdep 4 (by decide +kernel)
    have e5 : x 5 = .agg #[.int .i64 pr.t.kind, .string pr.t.name, .slice pr.a pr.t.kids.length pr.c] := depOf hdep 5 (by decide +kernel)
    clear hdep
    refine run_bare (by kernel_rfl) ?_
    unfold mtcFr
    go_simp
    refine kfit (hK _ _ (Below.refl _ V) rfl) ?_
    first | (simp only [mtcFr, Act.put, List.setIfInBounds_toArray, List.set_cons_zero, List.set_cons_succ, h0, h4, h5, e4, e5]; done) | (simp only [mtcFr, Act.put, List.setIfInBounds_toArray, List.set_cons_zero, List.set_cons_succ, h0, h4, h5, e4, e5]; rfl)
  -- 7: slot 34 := Op.buildSlice 38 1 #[(0, t33)]
  refine And.intro ?_ ?_
  · rw [← hf]; clear hf
    refine ⟨fun h => absurd h (by decide), fun _ => ⟨by decide +kernel, fun x v => by kernel_rfl, fun L x V hV hVs hMk hLi hdep K hK => ?_⟩⟩
    have e6 : x 6 = .agg #[.string pr.n, .int .i64 pr.t.kind, .string pr.t.name, .slice pr.a pr.t.kids.length pr.c] := hVs 6 (depL hdep 6 (by decide +kernel))
    refine run_bare (by kernel_rfl) ?_
    have hz : w.heap.size ≤ V.heap.size := hV.size
    have H := Lib.hid (hMk.one hLi)
    have HVs := Lib.hid hVs
    clear hVs hMk hdep
    unfold mtcFr at hK ⊢
    go_simp
    refine kfit (hK _ _ (hV.alloc hz _) (fun j hj => mtcVals_keep j _ V _ (HVs.out j hj) (below_a _ _)) ⟨_, rfl, trivial⟩ H.out) ?_
    first | (simp only [Act.put, List.setIfInBounds_toArray, List.set_cons_zero, List.set_cons_succ, h0, h4, h5, e6]; done) | (simp only [Act.put, List.setIfInBounds_toArray, List.set_cons_zero, List.set_cons_succ, h0, h4, h5, e6]; rfl)
  -- 8: slot 35 := Op.call { builtin append, args := #[t29, t34], argTypes := #
  refine And.intro ?_ ?_
  · rw [← hf]; clear hf
    refine ⟨fun h => absurd h (by decide), fun _ => ⟨by decide +kernel, fun x v => by kernel_rfl, fun L x V hV hVs hMk hLi hdep K hK => ?_⟩⟩
    have q2 := depL hdep 2 (by decide +kernel)
    have q7 := depL hdep 7 (by decide +kernel)
    have q8 := hLi
    have ho := hMk.o2 q2 hLi
    obtain ⟨zb, e7, hzb, _⟩ := hMk.r7 q7 hLi
    obtain ⟨i0, hi, hz0, hz1, hz2⟩ := info_parts Tryd.infoRefPair
    clear hdep
    unfold mtcFr at hK ⊢
    refine step_append_lies V (by kernel_rfl) (.tmp 29) (.tmp 34) 38 (by kernel_rfl) w.heap.size 53 i0 (.agg zeroP) 4 64 Tryd.underlying38 hi hz0 hz1 hz2 rfl (by decide) (x 2) ds.length (cellsP ds) rfl ho ⟨zb, 0, none⟩ 1 1 (encP pr) e7 rfl (World.news_of_block hzb) (encP_one pr) (by decide) (by unfold maxLen; omega) (by omega) hV.size V.heap.size rfl ?_
    intro g9 c9 w9 hown9 hgr9 hat9 _
    exact hK _ _ (hV.grown hgr9 hV.size fun j hj => (ho.lt j hj).1) (fun j hj => mtcVals_any j _ V _ (fun e => by subst e; exact nope q8 hj) (fun e => by subst e; exact nope (hMk.no9 q8) hj) (hVs j hj)) ⟨_, _, rfl, hown9⟩ (hMk.last q2 q7 hLi _ _)
  -- 9: slot 6 := Op.assign t35
  refine And.intro ?_ ?_
  · rw [← hf]; clear hf
    refine ⟨fun h => absurd h (by decide), fun _ => ⟨by decide +kernel, fun x v => by kernel_rfl, fun L x V hV hVs hMk hLi hdep K hK => ?_⟩⟩
    have q8 := depL hdep 8 (by decide +kernel)
    obtain ⟨z8, c8, e8, d8⟩ : ∃ zg zc, x 8 = .slice (some ⟨zg, 0, none⟩) (ds.length + 1) zc ∧ V.ownsRow w.heap.size 53 4 (.slice (some ⟨zg, 0, none⟩) (ds.length + 1) zc) (ds.length + 1) (cellsP ds ++ encP pr) := hVs 8 q8
    refine run_bare (by kernel_rfl) ?_
    have H := Lib.hid (hMk.asn q8)
    have HVs := Lib.hid hVs
    have HD := Lib.hid d8
    clear hVs hMk hdep d8
    unfold mtcFr at hK ⊢
    go_simp
    refine kfit (hK _ _ hV HVs.out ⟨z8, c8, rfl, HD.out⟩ (H.out _)) ?_
    first | (simp only [Act.put, List.setIfInBounds_toArray, List.set_cons_zero, List.set_cons_succ, h0, h4, h5, e8]; done) | (simp only [Act.put, List.setIfInBounds_toArray, List.set_cons_zero, List.set_cons_succ, h0, h4, h5, e8]; rfl)
  -- 10: slot 7 := Op.assign (const (Value.bool true))
  refine And.intro ?_ ?_
  · rw [← hf]; clear hf
    refine ⟨fun _ => ⟨by decide +kernel, fun x v => by kernel_rfl, fun x V hV hdep K hK => ?_⟩, fun h => absurd h (by decide)⟩
    clear hdep
    refine run_bare (by kernel_rfl) ?_
    unfold mtcFr
    go_simp
    refine kfit (hK _ _ (Below.refl _ V) rfl) ?_
    first | (simp only [mtcFr, Act.put, List.setIfInBounds_toArray, List.set_cons_zero, List.set_cons_succ, h0, h4, h5]; done) | (simp only [mtcFr, Act.put, List.setIfInBounds_toArray, List.set_cons_zero, List.set_cons_succ, h0, h4, h5]; rfl)
  exact trivial
theorem mtc_here {w : World} {b4 b5 : Nat} {pr : PR} {ds : List PR} {sv : Value} (hg : GivenG 53 sv ds w) (hds : ds.length ≤ 1000000000) (hc4 : w.cell? ⟨b4, 1, none⟩ = some (.string pr.n)) (hc50 : w.cell? ⟨b5, 0, none⟩ = some (.int .i64 pr.t.kind)) (hc51 : w.cell? ⟨b5, 1, none⟩ = some (.string pr.t.name)) (hc52 : w.cell? ⟨b5, 2, none⟩ = some (.slice pr.a pr.t.kids.length pr.c))
    
    {Q : Exit → Act → World → Prop} {ops : Array Oper} {a : Act} (X : World) (hops : ops = mtcOps)
    (h0 : a.tmps.getD 0 undef = sv) (h4 : a.tmps.getD 4 undef = .pointer (some ⟨b4, 0, none⟩)) (h5 : a.tmps.getD 5 undef = .pointer (some ⟨b5, 0, none⟩))
    (ha : a = mtcFr (fun j => a.tmps.getD j undef) a.defers (fun i => a.tmps.getD (if i = 9 then 6 else if i = 10 then 7 else 27 + i) undef)) (hS : Below w.heap.size w X.drew)
    (hfin : ∀ (x : Nat → Value) V zg zc, Below w.heap.size w V → x 9 = .slice (some ⟨zg, 0, none⟩) (ds.length + 1) zc → V.ownsRow w.heap.size 53 4 (.slice (some ⟨zg, 0, none⟩) (ds.length + 1) zc) (ds.length + 1) (cellsP ds ++ encP pr) → x 10 = .bool true → Q .normal (mtcFr (fun j => a.tmps.getD j undef) a.defers x) V) : (Code.region 5 ops true).wp Tryd.prog Q a X :=
  cast (congrArg (fun z => (Code.region 5 ops true).wp Tryd.prog Q z X) ha.symm) (mtc_region hg hds hc4 hc50 hc51 hc52 (b := fun j => a.tmps.getD j undef) (d := a.defers) h0 h4 h5  hops _ X hS hfin)
end Go.Proofs.YthpphjkoiipkkaaDoor
/- The document's match, of any two types. -/
namespace Go.Proofs.YthpphjkoiipkkaaDoor
open Go.RowKit Go.Sort Go.Lib
attribute [local go_sem] Oper.semAt_some

/-- What match hands back. -/
def MRes2 (N : Nat) (r : Option (List (ByteArray × T))) (E : Ending) (w' : World) : Prop :=
  match r with
  | none => ∃ v, E = .returned (.tuple #[v, .bool false])
  | some s' => ∃ v q, E = .returned (.tuple #[v, .bool true]) ∧ GivenG 53 v q w' ∧ Typ q w' ∧ q.map nt = s' ∧ (∀ x ∈ q, Fits x.t) ∧ q.length ≤ N
def MtOK (f : Nat) : Prop := ∀ (a b : T) (d : List PR) (sv : Value) (pa pb : Option Addr) (ca cb : Nat) (w : World), tsize a ≤ f → GivenG 53 sv d w → Typ d w → (∀ x ∈ d, Fits x.t) → Fits b → d.length + tsize a ≤ 1000000000 →
  TysAt w (.slice pa a.kids.length ca) a.kids → TysAt w (.slice pb b.kids.length cb) b.kids →
  Calls Tryd.prog 39 #[sv, .agg #[.int .i64 a.kind, .string a.name, .slice pa a.kids.length ca], .agg #[.int .i64 b.kind, .string b.name, .slice pb b.kids.length cb]] w fun E w' => MRes2 (d.length + tsize a) (mt f (d.map nt) a b) E w' ∧ Below w.heap.size w w'
/-- Where the loop over the parts stands. -/
def MpI (f N : Nat) (a b : T) (r : Option (List (ByteArray × T))) (i : Nat) (vs vb : Value) (X : World) : Prop :=
  (∃ q, vb = .bool true ∧ (mtL (mt f) (q.map nt) (a.kids.drop i) (b.kids.drop i) = r ∧ (∀ x ∈ q, Fits x.t) ∧ q.length + tsizes (a.kids.drop i) ≤ N) ∧ GivenG 53 vs q X ∧ Typ q X) ∨ (vb = .bool false ∧ r = none)
theorem mp_next {f N : Nat} {a b : T} {r : Option (List (ByteArray × T))} {i : Nat} {q : List PR} (h1 : i < a.kids.length) (h2 : i < b.kids.length) (hl : mtL (mt f) (q.map nt) (a.kids.drop i) (b.kids.drop i) = r) (hN : q.length + tsizes (a.kids.drop i) ≤ N)
    (E : Ending) (X : World) (hr : MRes2 (q.length + tsize a.kids[i]) (mt f (q.map nt) a.kids[i] b.kids[i]) E X) : ∃ vs vb, E = .returned (.tuple #[vs, vb]) ∧ MpI f N a b r (i + 1) vs vb X := by
  rw [List.drop_eq_getElem_cons h1, tsizes] at hN
  rw [List.drop_eq_getElem_cons h1, List.drop_eq_getElem_cons h2, mtL] at hl
  cases e : mt f (q.map nt) a.kids[i] b.kids[i] with
  | none =>
    rw [e] at hr hl
    obtain ⟨v, rfl⟩ := hr
    exact ⟨v, _, rfl, .inr ⟨rfl, hl.symm⟩⟩
  | some s' =>
    rw [e] at hr hl
    obtain ⟨v, q', rfl, g1, g2, g3, g4, g5⟩ := hr
    exact ⟨v, _, rfl, .inl ⟨q', rfl, ⟨by rw [g3]; exact hl, g4, by omega⟩, g1, g2⟩⟩
/-- Both boxes at the beginning. -/
structure MBox (w : World) (a b : T) (ka kb : Int) (pa pb : Option Addr) (ca cb : Nat) (X : World) : Prop where
  a4 : X.heap[w.heap.size]? = some (.cells #[.int .i64 ka, .string a.name, .slice pa a.kids.length ca] 29 (0, 0))
  b5 : X.heap[w.heap.size + 1]? = some (.cells #[.int .i64 kb, .string b.name, .slice pb b.kids.length cb] 29 (0, 0))
  at4 : TysAt X (.slice pa a.kids.length ca) a.kids
  at5 : TysAt X (.slice pb b.kids.length cb) b.kids
  low : Below w.heap.size w X
theorem MBox.below {w : World} {a b : T} {ka kb : Int} {pa pb : Option Addr} {ca cb : Nat} {X Y : World} (h : MBox w a b ka kb pa pb ca cb X) (hb : Below X.heap.size X Y) : MBox w a b ka kb pa pb ca cb Y :=
  ⟨(hb.block _ (Array.getElem?_eq_some_iff.1 h.a4).1).trans h.a4, (hb.block _ (Array.getElem?_eq_some_iff.1 h.b5).1).trans h.b5, h.at4.keep (KeepT.of_below hb), h.at5.keep (KeepT.of_below hb), h.low.trans (hb.mono h.low.size)⟩
theorem MBox.start {w : World} {a b : T} {pa pb : Option Addr} {ca cb : Nat} (ha : TysAt w (.slice pa a.kids.length ca) a.kids) (hb : TysAt w (.slice pb b.kids.length cb) b.kids) : MBox w a b a.kind b.kind pa pb ca cb ((w.alloc (.cells #[.int .i64 a.kind, .string a.name, .slice pa a.kids.length ca] 29)).alloc (.cells #[.int .i64 b.kind, .string b.name, .slice pb b.kids.length cb] 29)) :=
  have h := below_two w (.cells #[.int .i64 a.kind, .string a.name, .slice pa a.kids.length ca] 29) (.cells #[.int .i64 b.kind, .string b.name, .slice pb b.kids.length cb] 29)
  ⟨(Below.heap_alloc _ _ _ (by simp)).trans (alloc_new w _), new_two w _ _, ha.keep (KeepT.of_below h), hb.keep (KeepT.of_below h), h⟩

theorem mt_var {f : Nat} {d : List PR} {a b : T} (hv : a.kind = 1) : mt (f + 1) (d.map nt) a b = match (lk a.name d).map PR.t with | some t => if eqB t b = true then some (d.map nt) else none | none => some (d.map nt ++ [(a.name, b)]) := by
  rw [mt, if_pos hv, lkt_nt]; rfl
theorem mt_parts {f : Nat} {d : List PR} {a b : T} (hv : ¬ a.kind = 1) (h : a.kind = b.kind ∧ a.name = b.name ∧ a.kids.length = b.kids.length) : mt (f + 1) (d.map nt) a b = mtL (mt f) (d.map nt) a.kids b.kids := by
  rw [mt, if_neg hv, if_pos h]
theorem mt_bad {f : Nat} {d : List PR} {a b : T} (hv : ¬ a.kind = 1) (h : ¬ (a.kind = b.kind ∧ a.name = b.name ∧ a.kids.length = b.kids.length)) : mt (f + 1) (d.map nt) a b = none := by
  rw [mt, if_neg hv, if_neg h]
set_option maxRecDepth 100000 in
set_option maxHeartbeats 8000000 in
theorem match_step (f : Nat) (IH : MtOK f) : MtOK (f + 1) := by
  intro a b d sv pa pb ca cb w hf hd td hq hfb hN hta htb
  have hM0 := MBox.start (a := a) (b := b) hta htb
  have hpos := tsize_pos a
  obtain ⟨ka, hka⟩ : ∃ k, a.kind = k := ⟨_, rfl⟩
  obtain ⟨kb, hkb⟩ : ∃ k, b.kind = k := ⟨_, rfl⟩
  by_cases hv : a.kind = 1
  · have hr := mt_var (f := f) (d := d) (b := b) hv
    obtain rfl : ka = 1 := hka.symm.trans hv
    have hg := rget_any sv d a.name ((w.alloc (.cells #[.int .i64 a.kind, .string a.name, .slice pa a.kids.length ca] 29)).alloc (.cells #[.int .i64 b.kind, .string b.name, .slice pb b.kids.length cb] 29)) (hd.below hM0.low) (by omega)
    cases hl : lk a.name d with
    | some x =>
      have hx := lk_name hl
      rw [hl] at hr hg
      simp only [fv', Option.isSome_some] at hg
      simp only [Option.map_some] at hr
      have hmid : ∀ w2, Below ((w.alloc (.cells #[.int .i64 a.kind, .string a.name, .slice pa a.kids.length ca] 29)).alloc (.cells #[.int .i64 b.kind, .string b.name, .slice pb b.kids.length cb] 29)).heap.size ((w.alloc (.cells #[.int .i64 a.kind, .string a.name, .slice pa a.kids.length ca] 29)).alloc (.cells #[.int .i64 b.kind, .string b.name, .slice pb b.kids.length cb] 29)) w2 → ∀ o : Obj, MBox w a b a.kind b.kind pa pb ca cb (w2.alloc o) ∧ Calls Tryd.prog 13 #[.agg #[.int .i64 x.t.kind, .string x.t.name, .slice x.a x.t.kids.length x.c], .agg #[.int .i64 b.kind, .string b.name, .slice pb b.kids.length cb]] (w2.alloc o) fun e w' => e = .returned (.bool (eqB x.t b)) ∧ Below (w2.alloc o).heap.size (w2.alloc o) w' := fun w2 hb o => by
        have h1 := (hM0.below hb).below (below_a w2 o)
        exact ⟨h1, sameType_any (hq x hx.1) ((td x hx.1).keep (KeepT.of_below h1.low)) h1.at5⟩
      have HG := Lib.hid hg; have HMid := Lib.hid hmid; have HD := Lib.hid hd; have HTd := Lib.hid td; have HR := Lib.hid hr; have HQ := Lib.hid hq
      rw [hka]
      rw [hka] at HG HMid
      rw [hkb]
      rw [hkb] at HG HMid
      clear hg hmid hd td hq hr hM0 hl hx hta htb hv hka hkb IH hf hpos
      go_enter Tryd.func39, Tryd.ntmps39
      go_wp2_with (first
        | (go_at_call 33; refine HG.out.mono ?_; rintro E w2 ⟨rfl, hb2⟩; have HB2 := Lib.hid hb2; obtain ⟨hA, hB, _⟩ := boxes_after hb2; obtain ⟨m0, m1, m2⟩ := three_cells hB; have lB := (Array.getElem?_eq_some_iff.1 hB).1; clear hb2 hA hB HG)
        | (go_at_call 13; refine (HMid.out _ HB2.out _).2.mono ?_; rintro E w3 ⟨rfl, hb3⟩; have HB3 := Lib.hid hb3; clear hb3))
      refine bodyPost_ret (v := .tuple #[sv, .bool (eqB x.t b)]) (by simp [results, Tryd.results39, go_sem]) rfl ?_
      have hm := (HMid.out _ HB2.out (.cells #[.int .i64 x.t.kind, .string x.t.name, .slice x.a x.t.kids.length x.c] 29)).1.below HB3.out
      refine ⟨?_, hm.low⟩
      rw [HR.out]
      cases he : eqB x.t b with
      | false => exact ⟨sv, rfl⟩
      | true => exact ⟨sv, d, rfl, HD.out.below hm.low, HTd.out.keep (KeepT.of_below hm.low), rfl, HQ.out, by omega⟩
    | none =>
      rw [hl] at hr hg
      simp only [fv', Option.isSome_none] at hg
      simp only [Option.map_none] at hr
      have hmid : ∀ w2, Below ((w.alloc (.cells #[.int .i64 a.kind, .string a.name, .slice pa a.kids.length ca] 29)).alloc (.cells #[.int .i64 b.kind, .string b.name, .slice pb b.kids.length cb] 29)).heap.size ((w.alloc (.cells #[.int .i64 a.kind, .string a.name, .slice pa a.kids.length ca] 29)).alloc (.cells #[.int .i64 b.kind, .string b.name, .slice pb b.kids.length cb] 29)) w2 → ∀ o : Obj, MBox w a b a.kind b.kind pa pb ca cb (w2.alloc o) := fun w2 hb o => (hM0.below hb).below (below_a w2 o)
      have HG := Lib.hid hg; have HMid := Lib.hid hmid; have HD := Lib.hid hd; have HTd := Lib.hid td; have HR := Lib.hid hr; have HQ := Lib.hid hq; have HKb := Lib.hid hkb; have HTb := Lib.hid htb
      rw [hka]
      rw [hka] at HG HMid
      rw [hkb]
      rw [hkb] at HG HMid
      clear hg hmid hd td hq hr hM0 hl hta htb hv hka hkb IH hf
      go_enter Tryd.func39, Tryd.ntmps39
      go_wp2_with (go_at_call 33; refine HG.out.mono ?_; rintro E w2 ⟨rfl, hb2⟩; have HB2 := Lib.hid hb2; obtain ⟨hA, hB, _⟩ := boxes_after hb2; obtain ⟨m0, m1, m2⟩ := three_cells hB; have lB := (Array.getElem?_eq_some_iff.1 hB).1; clear hb2 hA hB HG)
      obtain ⟨X, hX⟩ : ∃ X, w2.alloc (.cells #[.int .i64 0, .string ⟨#[]⟩, .slice none 0 0] 29) = X := ⟨_, rfl⟩
      have hm : MBox w a b 1 kb pa pb ca cb X := by rw [← hX]; exact HMid.out _ HB2.out _
      rw [hX]
      clear hX HMid HB2 m0 m1 m2 lB
      obtain ⟨c40, c41, c42⟩ := three_cells hm.a4
      obtain ⟨c50, c51, c52⟩ := three_cells hm.b5
      rw [← HKb.out] at c50 ⊢
      refine mtc_here (w := X) (b4 := w.heap.size) (b5 := w.heap.size + 1) (pr := ⟨a.name, b, pb, cb⟩) (ds := d) (sv := sv) (HD.out.below hm.low) (by omega) c41 c50 c51 c52 X (by kernel_rfl) (by kernel_rfl) (by kernel_rfl) (by kernel_rfl) (by kernel_rfl) (below_d X) ?_
      intro xv V zg zc hbV hx9 hown hx10
      have HV := Lib.hid hbV; have HO := Lib.hid hown; have HM := Lib.hid hm
      clear hbV hown hm c40 c41 c42 c50 c51 c52
      simp only [mtcFr, hx9, hx10]
      simp only [Array.getD_eq_getD_getElem?, List.getElem?_toArray, List.getElem?_cons_succ, List.getElem?_cons_zero, Option.getD_some]
      go_wp2
      refine bodyPost_ret (v := .tuple #[.slice (some ⟨zg, 0, none⟩) (d.length + 1) zc, .bool true]) (by simp [results, Tryd.results39, go_sem]) rfl ?_
      have hE := match_end (x := ⟨a.name, b, pb, cb⟩) HO.out rfl rfl HV.out (HTd.out.keep (KeepT.of_below HM.out.low)) HM.out.at5
      refine ⟨?_, HM.out.low.trans (HV.out.mono HM.out.low.size)⟩
      rw [HR.out]
      refine ⟨_, d ++ [⟨a.name, b, pb, cb⟩], rfl, hE.1, hE.2, by rw [List.map_append]; rfl, fun y hy => ?_, by rw [List.length_append, List.length_singleton]; omega⟩
      rcases List.mem_append.1 hy with hy | hy
      · exact HQ.out y hy
      · obtain rfl := List.mem_singleton.1 hy
        exact hfb
  · by_cases hall : a.kind = b.kind ∧ a.name = b.name ∧ a.kids.length = b.kids.length
    · have hr := mt_parts (f := f) (d := d) hv hall
      obtain ⟨hkk, hnn, hll⟩ := hall
      rw [hka] at hkk hv
      obtain rfl : kb = ka := hkb.symm.trans hkk.symm
      have hnmB : (a.name.toList == b.name.toList) = true := by rw [hnn]; simp
      have hllI : ((a.kids.length : Int) = (b.kids.length : Int)) := by omega
      have hkB : (kb == 1) = false := by simpa using hv
      have hkl : a.kids.length ≤ 1000000000 := by have := len_sizes' a.kids; rw [tsize_eq] at hN; omega
      have hsz := tsize_eq a
      have HL0 := Lib.hid (show MpI f (d.length + tsize a) a b (mt (f + 1) (d.map nt) a b) 0 sv (.bool true) ((w.alloc (.cells #[.int .i64 a.kind, .string a.name, .slice pa a.kids.length ca] 29)).alloc (.cells #[.int .i64 b.kind, .string b.name, .slice pb b.kids.length cb] 29)) from .inl ⟨d, rfl, ⟨by rw [hr]; simp, hq, by simp; omega⟩, hd.below hM0.low, td.keep (KeepT.of_below hM0.low)⟩)
      have HM0 := Lib.hid hM0
      have hfk : ∀ (i : Nat) (h : i < b.kids.length), Fits b.kids[i] := fun i h => hfb.kid (List.getElem_mem h)
      have hsk : ∀ (i : Nat) (h : i < a.kids.length), tsize a.kids[i] ≤ f := fun i h => by have := tsize_kids_le (List.getElem_mem h); omega
      have HFk := Lib.hid hfk; have HSk := Lib.hid hsk; have HLl := Lib.hid hll; have HN := Lib.hid hN
      obtain ⟨r, hrr⟩ : ∃ r, mt (f + 1) (d.map nt) a b = r := ⟨_, rfl⟩
      rw [hrr] at HL0 ⊢
      rw [hka, hkb]
      rw [hka, hkb] at HL0 HM0
      clear hd td hq hr hta htb hll hN hfb hsz hkk hM0 hfk hsk hnn hrr hf hpos hv hka hkb
      go_enter Tryd.func39, Tryd.ntmps39
      go_wp2
      go_loopw [0, 10, 11] (fun vx vb vi wr => ∃ i : Nat, i ≤ a.kids.length ∧ vi = .int .i64 i ∧ Hid (MpI f (d.length + tsize a) a b r i vx vb wr) ∧ Hid (MBox w a b kb kb pa pb ca cb wr)) (fun _ _ vi _ => a.kids.length - (intOf vi).toNat)
      case atStart => exact ⟨0, Nat.zero_le _, rfl, HL0, HM0⟩
      case round =>
        obtain ⟨i, hi', rfl, hL, hU⟩ := hrel
        have hA := hU.out.a4
        have hB := hU.out.b5
        obtain ⟨a0, a1, a2⟩ := three_cells hA
        obtain ⟨b0, b1, b2⟩ := three_cells hB
        have lA := (Array.getElem?_eq_some_iff.1 hA).1
        have lB := (Array.getElem?_eq_some_iff.1 hB).1
        clear hA hB HL0 HM0
        rcases hL.out with ⟨q, rfl, ⟨h1, h2, h3⟩, h5, h6⟩ | ⟨rfl, hr⟩
        · by_cases hlt : i < a.kids.length
          · have hlt2 : i < b.kids.length := by have := HLl.out; omega
            have hiz : (i : Int) < (a.kids.length : Int) := by omega
            have hiz2 : (i : Int) < (b.kids.length : Int) := by omega
            obtain ⟨gu, pu, cu, rfl, hcu, hpu⟩ := hU.out.at4.part i hlt
            obtain ⟨gv, pv, cv, rfl, hcv, hpv⟩ := hU.out.at5.part i hlt2
            obtain ⟨⟨lu, x0, x1, x2⟩, xk⟩ := hpu wr (KeepT.refl wr)
            obtain ⟨⟨lv, y0, y1, y2⟩, yk⟩ := hpv wr (KeepT.refl wr)
            have hd0 : Below wr.heap.size wr wr.drew := (Below.refl _ wr).drew
            have hqk : q.length + tsize a.kids[i] ≤ 1000000000 := by
              have := HN.out
              have h3' := h3
              rw [List.drop_eq_getElem_cons hlt, tsizes] at h3'; omega
            have HC := Lib.hid (IH a.kids[i] b.kids[i] q u0 pu pv cu cv wr.drew (HSk.out i hlt) (h5.below hd0) (h6.keep (KeepT.of_below hd0)) h2 (HFk.out i hlt2) hqk (xk.keep (KeepT.of_below hd0)) (yk.keep (KeepT.of_below hd0)))
            have HNx := Lib.hid (fun E X h => mp_next (E := E) (X := X) hlt hlt2 h1 h3 h)
            have HD0 := Lib.hid hd0
            clear h1 h2 h3 h5 h6 hpu hpv xk yk hd0 hL hqk HFk HSk
            generalize a.kids[i] = ku1 at *
            generalize b.kids[i] = kv1 at *
            go_wp2
            go_region_with (go_at_call 39; refine HC.out.mono ?_; rintro E w4 ⟨h4, hb4⟩; obtain ⟨vs4, vb4, rfl, hl4⟩ := HNx.out _ _ h4; have HL4 := Lib.hid hl4; have HU4 := Lib.hid (hU.out.below (HD0.out.trans hb4)); clear h4 hb4 hl4 HC HNx)
            all_goals
              go_wp2
              go_roundw
              case rel => exact ⟨i + 1, by omega, by go_num, HL4, HU4⟩
              case measure => simp [intOf]; omega
          · have hiz : ¬ ((i : Int) < (a.kids.length : Int)) := by omega
            rw [List.drop_eq_nil_of_le (show a.kids.length ≤ i by omega)] at h1 h3
            have hrr : r = some (q.map nt) := by rw [← h1]; simp [mtL]
            subst hrr
            have H2 := Lib.hid h2; have H3 := Lib.hid h3; have H5 := Lib.hid h5; have H6 := Lib.hid h6
            clear h1 h2 h3 h5 h6 hL
            go_wp2
            exact bodyPost_ret (v := .tuple #[u0, .bool true]) (by simp [results, Tryd.results39, go_sem]) rfl ⟨⟨u0, q, rfl, H5.out, H6.out, rfl, H2.out, by have := H3.out; omega⟩, hU.out.low⟩
        · subst hr
          clear hL
          by_cases hlt : i < a.kids.length
          · have hiz : (i : Int) < (a.kids.length : Int) := by omega
            go_wp2
            exact bodyPost_ret (v := .tuple #[u0, .bool false]) (by simp [results, Tryd.results39, go_sem]) rfl ⟨⟨_, rfl⟩, hU.out.low⟩
          · have hiz : ¬ ((i : Int) < (a.kids.length : Int)) := by omega
            go_wp2
            exact bodyPost_ret (v := .tuple #[u0, .bool false]) (by simp [results, Tryd.results39, go_sem]) rfl ⟨⟨_, rfl⟩, hU.out.low⟩
    · have hr := mt_bad (f := f) (d := d) hv hall
      have HLow := Lib.hid hM0.low
      rw [hr]
      by_cases hkk : a.kind = b.kind
      · by_cases hnn : a.name = b.name
        · have hll : ¬ a.kids.length = b.kids.length := fun e => hall ⟨hkk, hnn, e⟩
          rw [hka] at hkk hv
          obtain rfl : kb = ka := hkb.symm.trans hkk.symm
          have hnmB : (a.name.toList == b.name.toList) = true := by rw [hnn]; simp
          have hllI : ¬ ((a.kids.length : Int) = (b.kids.length : Int)) := by omega
          have hkB : (kb == 1) = false := by simpa using hv
          rw [hka, hkb]
          rw [hka, hkb] at HLow
          clear hd td hq hr hta htb hll hN hfb hkk hM0 hnn hf hpos hv hall hka hkb IH
          go_enter Tryd.func39, Tryd.ntmps39
          go_wp2
          exact bodyPost_ret (v := .tuple #[.slice none 0 0, .bool false]) (by simp [results, Tryd.results39, go_sem]) rfl ⟨⟨_, rfl⟩, HLow.out⟩
        · rw [hka] at hkk hv
          obtain rfl : kb = ka := hkb.symm.trans hkk.symm
          have hnmB : (a.name.toList == b.name.toList) = false := by rw [bytes_beq]; exact eqB_false hnn
          have hkB : (kb == 1) = false := by simpa using hv
          rw [hka, hkb]
          rw [hka, hkb] at HLow
          clear hd td hq hr hta htb hN hfb hkk hM0 hnn hf hpos hv hall hka hkb IH
          go_enter Tryd.func39, Tryd.ntmps39
          go_wp2
          exact bodyPost_ret (v := .tuple #[.slice none 0 0, .bool false]) (by simp [results, Tryd.results39, go_sem]) rfl ⟨⟨_, rfl⟩, HLow.out⟩
      · rw [hka] at hv
        rw [hka, hkb] at hkk
        have hkB : (ka == 1) = false := by simpa using hv
        have hkB2 : ¬ ka = kb := hkk
        rw [hka, hkb]
        rw [hka, hkb] at HLow
        clear hd td hq hr hta htb hN hfb hkk hM0 hf hpos hv hall hka hkb IH
        go_enter Tryd.func39, Tryd.ntmps39
        go_wp2
        exact bodyPost_ret (v := .tuple #[.slice none 0 0, .bool false]) (by simp [results, Tryd.results39, go_sem]) rfl ⟨⟨_, rfl⟩, HLow.out⟩
theorem match_ok : ∀ f, MtOK f
  | 0 => fun a _ _ _ _ _ _ _ _ hf => absurd (tsize_pos a) (by omega)
  | f + 1 => match_step f (match_ok f)
end Go.Proofs.YthpphjkoiipkkaaDoor
/- The document's Match. -/
namespace Go.Proofs.YthpphjkoiipkkaaDoor
open Go.RowKit Go.Sort Go.Lib
attribute [local go_sem] Oper.semAt_some

theorem MRes2.told {N : Nat} {r : Option (List (ByteArray × T))} {E : Ending} {w : World} (h : MRes2 N r E w) : ∃ v, E = .returned (.tuple #[v, .bool r.isSome]) ∧ ∀ s', r = some s' → ∃ q, GivenG 53 v q w ∧ Typ q w ∧ q.map nt = s' ∧ (∀ x ∈ q, Fits x.t) ∧ q.length ≤ N := by
  cases r with
  | none =>
    obtain ⟨v, rfl⟩ := h
    exact ⟨v, rfl, fun _ e => nomatch e⟩
  | some s' =>
    obtain ⟨v, q, rfl, h⟩ := h
    exact ⟨v, rfl, fun _ e => ⟨q, by cases e; exact h⟩⟩
set_option maxRecDepth 100000 in
set_option maxHeartbeats 2000000 in
theorem rmatch_any {a b : T} {pa pb : Option Addr} {ca cb : Nat} {w : World} (ha : tsize a ≤ 1000000000) (hb : Fits b) (hta : TysAt w (.slice pa a.kids.length ca) a.kids) (htb : TysAt w (.slice pb b.kids.length cb) b.kids) :
    Calls Tryd.prog 20 #[.agg #[.int .i64 a.kind, .string a.name, .slice pa a.kids.length ca], .agg #[.int .i64 b.kind, .string b.name, .slice pb b.kids.length cb]] w fun E w' =>
      (∃ v, E = .returned (.tuple #[v, .bool (mt (tsize a) [] a b).isSome]) ∧ ∀ s', mt (tsize a) [] a b = some s' → ∃ q, GivenG 53 v q w' ∧ Typ q w' ∧ q.map nt = s' ∧ (∀ x ∈ q, Fits x.t) ∧ q.length ≤ tsize a) ∧ Below w.heap.size w w' := by
  have hM := MBox.start (a := a) (b := b) hta htb
  have hC := match_ok (tsize a) a b [] (.slice none 0 0) pa pb ca cb _ (Nat.le_refl _) (.inl ⟨rfl, rfl⟩) (fun _ hx => nomatch hx) (fun _ hx => nomatch hx) hb (by simpa using ha) hM.at4 hM.at5
  have HC := Lib.hid hC; have HL := Lib.hid hM.low
  clear hC hM hta htb ha hb
  go_enter Tryd.func20, Tryd.ntmps20
  go_wp2_with (go_at_call 39; refine HC.out.mono ?_; rintro E w2 ⟨h2, hb2⟩; obtain ⟨v, rfl, hq⟩ := h2.told; have HQ := Lib.hid hq; have HB := Lib.hid hb2; clear h2 hq hb2)
  refine bodyPost_ret (v := .tuple #[v, .bool (mt (tsize a) [] a b).isSome]) (by simp [results, Tryd.results20, go_sem]) rfl ⟨⟨v, rfl, fun s' e => ?_⟩, HL.out.trans (HB.out.mono HL.out.size)⟩
  obtain ⟨q, h1, h2, h3, h4, h5⟩ := HQ.out s' e
  exact ⟨q, h1, h2, h3, h4, by simpa using h5⟩
end Go.Proofs.YthpphjkoiipkkaaDoor
