/- The orderer while it is made: two tables of rows of its own, and what waits. -/
import Derived.Test.YtlpifioneafciaaGrGroups
import Derived.Test.YtlpifioneafciaaGrRings
namespace Go.Proofs.Ytlpifioneafciaa
open Go.RowKit Go.Maps Go.Lib
attribute [local go_sem] Oper.semAt_some

def updBR {α : Type} (f : Bool → Nat → α) (b : Bool) (r : Nat) (v : α) : Bool → Nat → α := fun b' i => if b' = b ∧ i = r then v else f b' i
theorem updBR_same {α : Type} (f : Bool → Nat → α) (b : Bool) (r : Nat) (v : α) : updBR f b r v b r = v := by simp [updBR]
theorem updBR_ne {α : Type} (f : Bool → Nat → α) {b b' : Bool} {r i : Nat} (v : α) (h : ¬ (b' = b ∧ i = r)) : updBR f b r v b' i = f b' i := by unfold updBR; rw [if_neg h]
/-- The orderer in block p; its tables in q, the rows' values rv, what they hold ls. -/
structure OB (B p c : Nat) (q : Bool → Nat) (qw : Nat) (rv : Bool → Nat → Value) (ls : Bool → Nat → List Nat) (wt : Nat → Nat) (w : World) : Prop where
  blk : w.heap[p]? = some (.cells #[.slice (some ⟨q false, 0, none⟩) c c, .slice (some ⟨q true, 0, none⟩) c c, .slice (some ⟨qw, 0, none⟩) c c, .slice none 0 0] 59 (0, 0))
  tbl : ∀ t, ∃ cs, w.heap[q t]? = some (.cells cs 22 (0, 0)) ∧ cs.size = c ∧ ∀ i, i < c → cs[i]? = some (rv t i)
  row : ∀ t i, i < c → OwnI B (rv t i) (ls t i) w
  wait : OwnI B (.slice (some ⟨qw, 0, none⟩) c c) ((List.range c).map wt) w
  tb : ∀ t t', t ≠ t' → q t ≠ q t'
  rw' : ∀ t i, i < c → (rv t i).ownBlock ≠ some qw
  rr : ∀ t i t' i', i < c → i' < c → ¬ (t' = t ∧ i' = i) → ∀ k, (rv t i).ownBlock = some k → (rv t' i').ownBlock ≠ some k
  bb : B ≤ p ∧ ∀ t, B ≤ q t
theorem OB.ne {B p c qw : Nat} {q : Bool → Nat} {rv : Bool → Nat → Value} {ls : Bool → Nat → List Nat} {wt : Nat → Nat} {w : World} (h : OB B p c q qw rv ls wt w) : (∀ t, q t ≠ p) ∧ qw ≠ p ∧ (∀ t, qw ≠ q t) ∧ ∀ t i, i < c → ∀ k, (rv t i).ownBlock = some k → k ≠ p ∧ ∀ t', k ≠ q t' := by
  refine ⟨fun t e => ?_, fun e => own_ne h.wait h.blk (by decide) (by rw [← e]; rfl), fun t e => ?_, fun t i hi k e => ⟨fun e2 => own_ne (h.row t i hi) h.blk (by decide) (e2 ▸ e), fun t' e2 => ?_⟩⟩
  · obtain ⟨cs, h1, _⟩ := h.tbl t
    rw [e, h.blk] at h1; simp at h1
  · obtain ⟨cs, h1, _⟩ := h.tbl t
    exact own_ne h.wait h1 (by decide) (by rw [← e]; rfl)
  · obtain ⟨cs, h1, _⟩ := h.tbl t'
    exact own_ne (h.row t i hi) h1 (by decide) (e2 ▸ e)
theorem OB.below {B p c qw : Nat} {q : Bool → Nat} {rv : Bool → Nat → Value} {ls : Bool → Nat → List Nat} {wt : Nat → Nat} {w w' : World} (h : OB B p c q qw rv ls wt w) (hb : Below w.heap.size w w') : OB B p c q qw rv ls wt w' :=
  ⟨(hb.block p (heap_at h.blk)).trans h.blk, fun t => by obtain ⟨cs, h1, h2⟩ := h.tbl t; exact ⟨cs, (hb.block _ (heap_at h1)).trans h1, h2⟩, fun t i hi => (h.row t i hi).below hb, h.wait.below hb, h.tb, h.rw', h.rr, h.bb⟩
/-- A row's cell in its table. -/
theorem OB.cell {B p c qw r : Nat} {q : Bool → Nat} {rv : Bool → Nat → Value} {ls : Bool → Nat → List Nat} {wt : Nat → Nat} {w : World} (h : OB B p c q qw rv ls wt w) (t : Bool) (hr : r < c) : w.cell? ⟨q t, r, none⟩ = some (rv t r) ∧ w.frozen? ⟨q t, r, none⟩ = false ∧ q t < w.heap.size := by
  obtain ⟨cs, h1, h2, h3⟩ := h.tbl t
  exact ⟨by rw [Lib.cell_of_heap h1]; exact h3 r hr, Lib.frozen_of_heap h1 r, heap_at h1⟩
/-- A row grown, and stored. -/
theorem OB.push {B p c qw r g m cap : Nat} {q : Bool → Nat} {rv : Bool → Nat → Value} {ls : Bool → Nat → List Nat} {l : List Nat} {wt : Nat → Nat} {w V w1 : World} (h : OB B p c q qw rv ls wt w) (t : Bool) (hr : r < c) (hV : Below w.heap.size w V) (hg : V.grownBy w1 (rv t r).ownBlock) (hat : (rv t r).ownBlock = some g ∨ w.heap.size ≤ g) (ho : OwnI B (.slice (some ⟨g, 0, none⟩) m cap) l w1) :
    OB B p c q qw (updBR rv t r (.slice (some ⟨g, 0, none⟩) m cap)) (updBR ls t r l) wt (w1.setCell ⟨q t, r, none⟩ (.slice (some ⟨g, 0, none⟩) m cap)) ∧ (∀ k, k < w.heap.size → (rv t r).ownBlock ≠ some k → w1.heap[k]? = w.heap[k]?) := by
  obtain ⟨n1, n2, n3, n4⟩ := h.ne
  have k1 : ∀ k, k < w.heap.size → (rv t r).ownBlock ≠ some k → w1.heap[k]? = w.heap[k]? := fun k hk he => (hg.block k (Nat.lt_of_lt_of_le hk hV.size) (Ne.symm he)).trans (hV.block k hk)
  have hq := (h.cell t hr).2.2
  have gq : ∀ t', g ≠ q t' := fun t' e => by
    rcases hat with e2 | e2
    · exact (n4 t r hr g e2).2 t' e
    · have := (h.cell t' hr).2.2; omega
  have k2 : ∀ k, k < w.heap.size → k ≠ q t → (rv t r).ownBlock ≠ some k → (w1.setCell ⟨q t, r, none⟩ (.slice (some ⟨g, 0, none⟩) m cap)).heap[k]? = w.heap[k]? := fun k hk hkq he => (heap_set w1 ⟨q t, r, none⟩ _ k hkq).trans (k1 k hk he)
  have gne : ∀ t' i, i < c → ¬ (t' = t ∧ i = r) → (rv t' i).ownBlock ≠ some g := fun t' i hi hn e => by
    rcases hat with e2 | e2
    · exact h.rr t r t' i hr hi hn g e2 e
    · have := ((h.row t' i hi).lt g e).2; omega
  refine ⟨⟨?_, fun t' => ?_, fun t' i hi => ?_, h.wait.keepAt fun k e => ?_, h.tb, fun t' i hi => ?_, fun t1 i1 t2 i2 h1 h2 hn k e1 e2 => ?_, h.bb⟩, k1⟩
  · exact (k2 p (heap_at h.blk) (Ne.symm (n1 t)) fun e => (n4 t r hr p e).1 rfl).trans h.blk
  · obtain ⟨cs, h1, h2, h3⟩ := h.tbl t'
    by_cases e : t' = t
    · subst e
      refine ⟨_, blk_setG ((k1 _ (heap_at h1) fun e => (n4 t' r hr _ e).2 t' rfl).trans h1) _, by simpa using h2, fun i hi => ?_⟩
      by_cases ei : i = r
      · subst ei; rw [updBR_same]; simp [h2, hi]
      · rw [updBR_ne rv _ (fun hh => ei hh.2), Array.getElem?_setIfInBounds_ne (Ne.symm ei)]; exact h3 i hi
    · exact ⟨cs, (k2 _ (heap_at h1) (h.tb t' t e) fun e2 => (n4 t r hr _ e2).2 t' rfl).trans h1, h2, fun i hi => by rw [updBR_ne rv _ (fun hh => e hh.1)]; exact h3 i hi⟩
  · by_cases e : t' = t ∧ i = r
    · obtain ⟨rfl, rfl⟩ := e
      rw [updBR_same, updBR_same]
      exact ho.keepAt fun k e => by cases e; exact heap_set w1 ⟨q t', i, none⟩ _ g (gq t')
    · rw [updBR_ne rv _ e, updBR_ne ls _ e]
      exact (h.row t' i hi).keepAt fun k ek => k2 k ((h.row t' i hi).lt k ek).2 ((n4 t' i hi k ek).2 t) fun e2 => h.rr t r t' i hr hi e k e2 ek
  · cases e
    exact k2 qw (h.wait.lt qw rfl).2 (n3 t) (h.rw' t r hr)
  · by_cases e : t' = t ∧ i = r
    · obtain ⟨rfl, rfl⟩ := e
      rw [updBR_same]
      intro e2
      obtain rfl : g = qw := by simpa [Value.ownBlock] using e2
      rcases hat with e3 | e3
      · exact h.rw' t' i hi e3
      · have := (h.wait.lt g rfl).2; omega
    · rw [updBR_ne rv _ e]; exact h.rw' t' i hi
  · by_cases a1 : t1 = t ∧ i1 = r
    · obtain ⟨rfl, rfl⟩ := a1
      rw [updBR_same] at e1
      obtain rfl : g = k := by simpa [Value.ownBlock] using e1
      rw [updBR_ne rv _ hn] at e2
      exact gne t2 i2 h2 hn e2
    · rw [updBR_ne rv _ a1] at e1
      by_cases a2 : t2 = t ∧ i2 = r
      · obtain ⟨rfl, rfl⟩ := a2
        rw [updBR_same] at e2
        obtain rfl : g = k := by simpa [Value.ownBlock] using e2
        exact gne t1 i1 h1 a1 e1
      · rw [updBR_ne rv _ a2] at e2
        exact h.rr t1 i1 t2 i2 h1 h2 hn k e1 e2
/-- What a ring waits for, turned. -/
theorem OB.setWait {B p c qw u x : Nat} {q : Bool → Nat} {rv : Bool → Nat → Value} {ls : Bool → Nat → List Nat} {wt : Nat → Nat} {w : World} (h : OB B p c q qw rv ls wt w) (hu : u < c) : OB B p c q qw rv ls (updN wt u x) (w.setCell ⟨qw, u, none⟩ (.int .i64 (x : Int))) := by
  obtain ⟨n1, n2, n3, n4⟩ := h.ne
  have hk : ∀ k, k ≠ qw → (w.setCell ⟨qw, u, none⟩ (.int .i64 (x : Int))).heap[k]? = w.heap[k]? := fun k hk => heap_set w ⟨qw, u, none⟩ _ k hk
  exact ⟨(hk p (Ne.symm n2)).trans h.blk, fun t => by obtain ⟨cs, h1, h2⟩ := h.tbl t; exact ⟨cs, (hk _ (Ne.symm (n3 t))).trans h1, h2⟩, fun t i hi => (h.row t i hi).keepAt fun k e => hk k fun e2 => h.rw' t i hi (e2 ▸ e), h.wait.set hu, h.tb, h.rw', h.rr, h.bb⟩
/-- Made, it is the orderer that groups begins with. -/
theorem OB.made {B p c qw : Nat} {q : Bool → Nat} {rv : Bool → Nat → Value} {ls : Bool → Nat → List Nat} {wt : Nat → Nat} {w : World} (h : OB B p c q qw rv ls wt w) : OM B w.heap.size p c (q false) (q true) qw (.slice none 0 0) (ls false) (ls true) wt [] w := by
  obtain ⟨n1, n2, n3, n4⟩ := h.ne
  have tb : ∀ t, TblAt (OkB B w.heap.size qw p) (q t) c (ls t) w := fun t => by
    obtain ⟨cs, h1, h2, h3⟩ := h.tbl t
    refine ⟨cs, _, h1, Nat.le_of_eq h2.symm, fun i hi => ⟨rv t i, h3 i hi, ?_⟩⟩
    have hr := h.row t i hi
    rcases hr.2 with ⟨e, hz⟩ | ⟨g, cap, cur, e, hb, hq, hc, hmx, hsz, ht⟩
    · exact .inl ⟨List.length_eq_zero_iff.1 hz, none, 0, by rw [e]⟩
    · have eb : (rv t i).ownBlock = some g := by rw [e]; rfl
      rw [e] at hr
      refine .inr ⟨g, 0, cap, e, hc, ⟨heap_at hq, fun e2 => h.rw' t i hi (e2 ▸ eb), (n4 t i hi g eb).1, hb⟩, heap_at hq, fun j hj => ?_⟩
      rw [Nat.zero_add]; exact hr.get hj
  obtain ⟨cm, hm, _⟩ := h.tbl false
  obtain ⟨cu, hu, _⟩ := h.tbl true
  exact ⟨h.blk, tb false, tb true, h.wait, World.ownsRow_nil _ _ _ _, ⟨h.bb.1, heap_at h.blk, heap_at hm, heap_at hu, (h.wait.lt qw rfl).2, by have := heap_at h.blk; have := h.bb.1; omega⟩, fun _ hx => (List.not_mem_nil hx).elim⟩
end Go.Proofs.Ytlpifioneafciaa
