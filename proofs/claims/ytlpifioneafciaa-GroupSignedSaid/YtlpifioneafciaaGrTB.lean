/- A table of rows of numbers of one's own. -/
import Derived.Test.YtlpifioneafciaaGrOrder
import Derived.Test.YtlpifioneafciaaGrSpec
namespace Go.Proofs.Ytlpifioneafciaa
open Go.RowKit Go.Maps Go.Lib
attribute [local go_sem] Oper.semAt_some

def updA {α : Type} (f : Nat → α) (r : Nat) (v : α) : Nat → α := fun i => if i = r then v else f i
theorem updA_same {α : Type} (f : Nat → α) (r : Nat) (v : α) : updA f r v r = v := by simp [updA]
theorem updA_ne {α : Type} (f : Nat → α) {r i : Nat} (v : α) (h : i ≠ r) : updA f r v i = f i := by simp [updA, h]
structure TB (B q n : Nat) (rv : Nat → Value) (ls : Nat → List Nat) (w : World) : Prop where
  tbl : ∃ cs, w.heap[q]? = some (.cells cs 22 (0, 0)) ∧ cs.size = n ∧ ∀ i, i < n → cs[i]? = some (rv i)
  row : ∀ i, i < n → OwnI B (rv i) (ls i) w
  rr : ∀ i j, i < n → j < n → i ≠ j → ∀ k, (rv i).ownBlock = some k → (rv j).ownBlock ≠ some k
  bb : B ≤ q
theorem TB.ne {B q n : Nat} {rv : Nat → Value} {ls : Nat → List Nat} {w : World} (h : TB B q n rv ls w) {i k : Nat} (hi : i < n) (e : (rv i).ownBlock = some k) : k ≠ q := fun e2 => by
  obtain ⟨cs, h1, _⟩ := h.tbl
  exact own_ne (h.row i hi) h1 (by decide) (e2 ▸ e)
theorem TB.below {B q n : Nat} {rv : Nat → Value} {ls : Nat → List Nat} {w w' : World} (h : TB B q n rv ls w) (hb : Below w.heap.size w w') : TB B q n rv ls w' := by
  obtain ⟨cs, h1, h2⟩ := h.tbl
  exact ⟨⟨cs, (hb.block q (heap_at h1)).trans h1, h2⟩, fun i hi => (h.row i hi).below hb, h.rr, h.bb⟩
theorem TB.cell {B q n r : Nat} {rv : Nat → Value} {ls : Nat → List Nat} {w : World} (h : TB B q n rv ls w) (hr : r < n) : w.cell? ⟨q, r, none⟩ = some (rv r) ∧ w.frozen? ⟨q, r, none⟩ = false ∧ q < w.heap.size := by
  obtain ⟨cs, h1, h2, h3⟩ := h.tbl
  exact ⟨by rw [Lib.cell_of_heap h1]; exact h3 r hr, Lib.frozen_of_heap h1 r, heap_at h1⟩
theorem TB.put {B q n r g m cap : Nat} {rv : Nat → Value} {ls : Nat → List Nat} {l : List Nat} {w w1 : World} (h : TB B q n rv ls w) (hr : r < n) (hk : ∀ k, k < w.heap.size → (rv r).ownBlock ≠ some k → w1.heap[k]? = w.heap[k]?) (hat : (rv r).ownBlock = some g ∨ w.heap.size ≤ g) (ho : OwnI B (.slice (some ⟨g, 0, none⟩) m cap) l w1) :
    TB B q n (updA rv r (.slice (some ⟨g, 0, none⟩) m cap)) (updA ls r l) (w1.setCell ⟨q, r, none⟩ (.slice (some ⟨g, 0, none⟩) m cap)) := by
  obtain ⟨cs, h1, h2, h3⟩ := h.tbl
  have gq : g ≠ q := fun e => by
    rcases hat with e2 | e2
    · exact h.ne hr e2 e
    · have := heap_at h1; omega
  have k2 : ∀ k, k < w.heap.size → k ≠ q → (rv r).ownBlock ≠ some k → (w1.setCell ⟨q, r, none⟩ (.slice (some ⟨g, 0, none⟩) m cap)).heap[k]? = w.heap[k]? := fun k hk' hkq he => (heap_set w1 ⟨q, r, none⟩ _ k hkq).trans (hk k hk' he)
  have gne : ∀ i, i < n → i ≠ r → (rv i).ownBlock ≠ some g := fun i hi hn e => by
    rcases hat with e2 | e2
    · exact h.rr r i hr hi (Ne.symm hn) g e2 e
    · have := ((h.row i hi).lt g e).2; omega
  refine ⟨⟨_, blk_setG ((hk _ (heap_at h1) fun e => h.ne hr e rfl).trans h1) _, by simpa using h2, fun i hi => ?_⟩, fun i hi => ?_, fun i j hi hj hn k e1 e2 => ?_, h.bb⟩
  · by_cases ei : i = r
    · subst ei; rw [updA_same]; simp [h2, hi]
    · rw [updA_ne rv _ ei, Array.getElem?_setIfInBounds_ne (Ne.symm ei)]; exact h3 i hi
  · by_cases e : i = r
    · subst e
      rw [updA_same, updA_same]
      exact ho.keepAt fun k e => by cases e; exact heap_set w1 ⟨q, i, none⟩ _ g gq
    · rw [updA_ne rv _ e, updA_ne ls _ e]
      exact (h.row i hi).keepAt fun k ek => k2 k ((h.row i hi).lt k ek).2 (h.ne hi ek) fun e2 => h.rr r i hr hi (Ne.symm e) k e2 ek
  · by_cases a1 : i = r
    · subst a1
      rw [updA_same] at e1
      obtain rfl : g = k := by simpa [Value.ownBlock] using e1
      rw [updA_ne rv _ (Ne.symm hn)] at e2
      exact gne j hj (Ne.symm hn) e2
    · rw [updA_ne rv _ a1] at e1
      by_cases a2 : j = r
      · subst a2
        rw [updA_same] at e2
        obtain rfl : g = k := by simpa [Value.ownBlock] using e2
        exact gne i hi a1 e1
      · rw [updA_ne rv _ a2] at e2
        exact h.rr i j hi hj hn k e1 e2
/-- A row grown by one, and stored. -/
theorem TB.app {B q n r x : Nat} {rv : Nat → Value} {ls : Nat → List Nat} {w0 w w1 : World} {v' : Value} {o : Obj} (h : TB B q n rv ls w) (hb : Below B w0 w) (hr : r < n) (hown : w1.ownsRow B 3 1 v' ((ls r).length + 1) (intsV (ls r) ++ [.int .i64 (x : Int)])) (hg : (w.alloc o).grownBy w1 (rv r).ownBlock) (hat : v'.ownBlock = (rv r).ownBlock ∨ v'.ownBlock = some (w.heap.size + 1)) :
    ∃ g cap, v' = .slice (some ⟨g, 0, none⟩) ((ls r).length + 1) cap ∧ TB B q n (updA rv r (.slice (some ⟨g, 0, none⟩) ((ls r).length + 1) cap)) (updA ls r (ls r ++ [x])) (w1.setCell ⟨q, r, none⟩ (.slice (some ⟨g, 0, none⟩) ((ls r).length + 1) cap)) ∧ Below B w0 (w1.setCell ⟨q, r, none⟩ (.slice (some ⟨g, 0, none⟩) ((ls r).length + 1) cap)) ∧ w1.cell? ⟨q, r, none⟩ = some (rv r) ∧ w1.frozen? ⟨q, r, none⟩ = false := by
  obtain ⟨cs, h1, h2, h3⟩ := h.tbl
  have hBw : B ≤ w.heap.size := by have := heap_at h1; have := h.bb; omega
  have hV : Below w.heap.size w (w.alloc o) := below_allocG w o
  have k1 : ∀ k, k < w.heap.size → (rv r).ownBlock ≠ some k → w1.heap[k]? = w.heap[k]? := fun k hk he => (hg.block k (Nat.lt_of_lt_of_le hk hV.size) (Ne.symm he)).trans (hV.block k hk)
  have hq := (k1 q (heap_at h1) fun e => h.ne hr e rfl).trans h1
  have hge : ∀ j, (rv r).ownBlock = some j → B ≤ j := fun j e => (h.row r hr).ge e
  rcases id hown.2 with ⟨_, e⟩ | ⟨g, cap, cur, rfl, _⟩
  · omega
  · refine ⟨g, cap, rfl, h.put hr k1 ?_ (OwnI.push hown), ?_, by rw [Lib.cell_of_heap hq]; exact h3 r hr, Lib.frozen_of_heap hq r⟩
    · rcases hat with e | e
      · exact .inl e.symm
      · have : g = (w.alloc o).heap.size := by simpa [Value.ownBlock] using e
        right; rw [this]; exact hV.size
    · exact ((hb.trans (hV.mono hBw)).grown hg (Nat.le_trans hBw hV.size) hge).setCell (p := ⟨q, r, none⟩) h.bb _
/-- Made, its rows are empty. -/
theorem TB.start (w : World) {B n : Nat} (hB : B ≤ w.heap.size) : TB B w.heap.size n (fun _ => .slice none 0 0) (fun _ => []) (w.alloc (.cells (madeCells #[.slice none 0 0] n) 22)) := by
  refine ⟨⟨madeCells #[.slice none 0 0] n, (by show (w.heap.push _)[w.heap.size]? = _; simp), by simp [size_madeCells], fun i hi => ?_⟩, fun i hi => World.ownsRow_nil _ _ _ _, fun i j _ _ _ k e => (by cases e), hB⟩
  have := toList_madeCells_one (.slice none 0 0) n
  rw [← Array.getElem?_toList, this]
  simp [hi]
/-- It can be read as rows of needs. -/
theorem TB.rows {B q n : Nat} {rv : Nat → Value} {ls : Nat → List Nat} {w : World} (h : TB B q n rv ls w) : RowsAt w.heap.size q n ls w := by
  obtain ⟨cs, h1, h2, h3⟩ := h.tbl
  refine ⟨cs, _, h1, by omega, fun i hi => ⟨rv i, h3 i hi, ?_⟩⟩
  have hr := h.row i hi
  rcases hr.2 with ⟨e, hz⟩ | ⟨g, cap, cur, e, hb, hq, hc, hmx, hsz, ht⟩
  · exact .inl ⟨List.length_eq_zero_iff.1 hz, none, 0, by rw [e]⟩
  · rw [e] at hr
    refine .inr ⟨g, 0, cap, e, hc, heap_at hq, fun j hj => ?_⟩
    rw [Nat.zero_add]; exact hr.get hj
end Go.Proofs.Ytlpifioneafciaa
