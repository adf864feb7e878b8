/- A table of rows of numbers of one's own that may grow. -/
import Derived.Test.YtlpifioneafciaaGrNeeds
namespace Go.Proofs.Ytlpifioneafciaa
open Go.RowKit Go.Maps Go.Lib
attribute [local go_sem] Oper.semAt_some

/-- The table is a row of rows; vs are the rows' values. -/
structure RT (B m : Nat) (tv : Value) (vs : List Value) (ls : Nat → List Nat) (w : World) : Prop where
  own : w.ownsRow B 22 1 tv m vs
  row : ∀ k, k < m → OwnI B (vs.getD k .nilIface) (ls k) w
  rr : ∀ i j, i < m → j < m → i ≠ j → ∀ k, (vs.getD i .nilIface).ownBlock = some k → (vs.getD j .nilIface).ownBlock ≠ some k
theorem RT.len {B m : Nat} {tv : Value} {vs : List Value} {ls : Nat → List Nat} {w : World} (h : RT B m tv vs ls w) : vs.length = m := by have := h.own.1; omega
theorem RT.below {B m : Nat} {tv : Value} {vs : List Value} {ls : Nat → List Nat} {w w' : World} (h : RT B m tv vs ls w) (hb : Below w.heap.size w w') : RT B m tv vs ls w' := by
  refine ⟨⟨h.own.1, ?_⟩, fun k hk => (h.row k hk).below hb, h.rr⟩
  rcases h.own.2 with e | ⟨q, cap, cur, rfl, hB, hq, r⟩
  · exact .inl e
  · exact .inr ⟨q, cap, cur, rfl, hB, (hb.block q (heap_at hq)).trans hq, r⟩
theorem RT.at {B m : Nat} {tv : Value} {vs : List Value} {ls : Nat → List Nat} {w : World} (h : RT B m tv vs ls w) {r : Nat} (hr : r < m) : ∃ q cap, tv = .slice (some ⟨q, 0, none⟩) m cap ∧ B ≤ q ∧ q < w.heap.size ∧ w.cell? ⟨q, r, none⟩ = some (vs.getD r .nilIface) ∧ w.frozen? ⟨q, r, none⟩ = false ∧ ∀ k j, j < m → (vs.getD j .nilIface).ownBlock = some k → k ≠ q := by
  rcases id h.own.2 with ⟨_, e⟩ | ⟨q, cap, cur, rfl, hB, hq, _⟩
  · omega
  · refine ⟨q, cap, rfl, hB, heap_at hq, ?_, Lib.frozen_of_heap hq r, fun k j hj e e2 => own_ne (h.row j hj) hq (by decide) (e2 ▸ e)⟩
    rw [World.ownsRow.cellAt h.own r (by omega)]
    have := h.len
    simp [List.getD, show r < vs.length by omega]
/-- Made, its rows are empty. -/
theorem RT.start (w : World) {B n : Nat} (hB : B ≤ w.heap.size) (hn : n ≤ 1000000) : RT B n (.slice (some ⟨w.heap.size, 0, none⟩) n n) (List.replicate n (.slice none 0 0)) (fun _ => []) (w.alloc (.cells (madeCells #[.slice none 0 0] n) 22)) := by
  have ho := World.ownsRow_lit (base := B) (size := 1) (e := 22) w (madeCells #[.slice none 0 0] n) n hB (by unfold maxLen; omega) (by simp [size_madeCells])
  rw [toList_madeCells_one] at ho
  have hg : ∀ k, k < n → (List.replicate n (Value.slice none 0 0)).getD k .nilIface = .slice none 0 0 := fun k hk => by simp [List.getD, hk]
  refine ⟨ho, fun k hk => ?_, fun i j hi hj _ k e => ?_⟩
  · rw [hg k hk]; exact World.ownsRow_nil _ _ _ _
  · rw [hg i hi] at e; cases e
/-- One row more, without numbers. -/
theorem RT.grow {B m : Nat} {tv tv' : Value} {vs : List Value} {ls : Nat → List Nat} {w V w1 : World} (h : RT B m tv vs ls w) (hV : Below w.heap.size w V) (hg : V.grownBy w1 tv.ownBlock) (ho : w1.ownsRow B 22 1 tv' (m + 1) (vs ++ [.slice none 0 0])) (hl : ls m = []) : RT B (m + 1) tv' (vs ++ [.slice none 0 0]) ls w1 := by
  have hlen := h.len
  have g1 : ∀ k, k < m → (vs ++ [Value.slice none 0 0]).getD k .nilIface = vs.getD k .nilIface := fun k hk => by simp [List.getD, List.getElem?_append_left (show k < vs.length by omega)]
  have g2 : (vs ++ [Value.slice none 0 0]).getD m .nilIface = .slice none 0 0 := by simp [List.getD, ← hlen]
  refine ⟨ho, fun k hk => ?_, fun i j hi hj hn k e => ?_⟩
  · by_cases e : k < m
    · rw [g1 k e]
      refine (h.row k e).keepAt fun b eb => ?_
      have hb := ((h.row k e).lt b eb).2
      refine (hg.block b (Nat.lt_of_lt_of_le hb hV.size) fun et => ?_).trans (hV.block b hb)
      rcases id h.own.2 with ⟨e0, _⟩ | ⟨q, cap, cur, e0, _, hq, _⟩
      · rw [e0] at et; cases et
      · rw [e0] at et
        obtain rfl : b = q := by simpa [Value.ownBlock, eq_comm] using et
        exact own_ne (h.row k e) hq (by decide) eb
    · obtain rfl : k = m := by omega
      rw [g2, hl]; exact World.ownsRow_nil _ _ _ _
  · by_cases e1 : i < m
    · by_cases e2 : j < m
      · rw [g1 i e1] at e; rw [g1 j e2]; exact h.rr i j e1 e2 hn k e
      · obtain rfl : j = m := by omega
        rw [g2]; simp [Value.ownBlock]
    · obtain rfl : i = m := by omega
      rw [g2] at e; cases e
/-- A row grown by one, and stored. -/
theorem RT.app {B m q cap r x l0 : Nat} {vs : List Value} {ls : Nat → List Nat} {l : List Nat} {w w1 : World} {v v' : Value} {o : Obj} (h : RT B m (.slice (some ⟨q, 0, none⟩) m cap) vs ls w) (hr : r < m) (hl : ls r = l) (hm : l.length = l0) (hv : vs.getD r .nilIface = v) (hown : w1.ownsRow B 3 1 v' (l0 + 1) (intsV l ++ [.int .i64 (x : Int)])) (hg : (w.alloc o).grownBy w1 v.ownBlock) (hat : v'.ownBlock = v.ownBlock ∨ v'.ownBlock = some (w.heap.size + 1)) :
    ∃ g c, v' = .slice (some ⟨g, 0, none⟩) (l0 + 1) c ∧ RT B m (.slice (some ⟨q, 0, none⟩) m cap) (vs.set r (.slice (some ⟨g, 0, none⟩) (l0 + 1) c)) (updA ls r (l ++ [x])) (w1.setCell ⟨q, r, none⟩ (.slice (some ⟨g, 0, none⟩) (l0 + 1) c)) ∧ w1.cell? ⟨q, r, none⟩ = some v ∧ w1.frozen? ⟨q, r, none⟩ = false := by
  obtain ⟨q', cap', e, hB, hq, hc, hfz, hne⟩ := h.at hr
  cases e
  have hlen := h.len
  have hV : Below w.heap.size w (w.alloc o) := below_allocG w o
  have k1 : ∀ k, k < w.heap.size → v.ownBlock ≠ some k → w1.heap[k]? = w.heap[k]? := fun k hk he => (hg.block k (Nat.lt_of_lt_of_le hk hV.size) (Ne.symm he)).trans (hV.block k hk)
  have hvq : v.ownBlock ≠ some q := fun e => hne q r hr (hv ▸ e) rfl
  have hq1 := k1 q hq hvq
  rcases id hown.2 with ⟨_, e⟩ | ⟨g, c, cur, rfl, hgB, hgh, hgc, hgm, hgs, hgt⟩
  · omega
  have gq : g ≠ q := fun e => by
    rcases hat with e2 | e2
    · exact hvq (e ▸ e2.symm)
    · have : g = w.heap.size + 1 := by simpa [Value.ownBlock] using e2
      omega
  have hown2 : w1.ownsRow B 22 1 (.slice (some ⟨q, 0, none⟩) m cap) m vs := by
    refine ⟨h.own.1, ?_⟩
    rcases h.own.2 with ⟨e, _⟩ | ⟨q2, cap2, cur2, e, hB2, hq2, rr⟩
    · cases e
    · cases e; exact .inr ⟨q, cap, cur2, rfl, hB2, hq1.trans hq2, rr⟩
  have hst := (hown2.stored r (.slice (some ⟨g, 0, none⟩) (l0 + 1) c)).1
  have hcell : w1.cell? ⟨q, r, none⟩ = some v := by rw [← hv, ← hc]; exact World.cell?_of_block (a := ⟨q, r, none⟩) hq1
  have gs : ∀ k, (vs.set r (.slice (some ⟨g, 0, none⟩) (l0 + 1) c)).getD k .nilIface = if k = r then .slice (some ⟨g, 0, none⟩) (l0 + 1) c else vs.getD k .nilIface := fun k => by
    by_cases e : k = r
    · subst e; rw [if_pos rfl]; simp [List.getD, show k < vs.length by omega]
    · rw [if_neg e]; simp [List.getD, List.getElem?_set_ne (Ne.symm e)]
  have gne : ∀ i, i < m → i ≠ r → (vs.getD i .nilIface).ownBlock ≠ some g := fun i hi hn e => by
    rcases hat with e2 | e2
    · exact h.rr r i hr hi (Ne.symm hn) g (by rw [hv]; exact e2.symm) e
    · have := ((h.row i hi).lt g e).2
      have : g = w.heap.size + 1 := by simpa [Value.ownBlock] using e2
      omega
  refine ⟨g, c, rfl, ⟨by simpa using hst, fun k hk => ?_, fun i j hi hj hn k e1 e2 => ?_⟩, hcell, ?_⟩
  · rw [gs k]
    by_cases e : k = r
    · subst e
      rw [if_pos rfl, updA_same]
      exact (OwnI.push (hm.symm ▸ hown)).keepAt (w := w1) fun b eb => by cases eb; exact heap_set w1 ⟨q, k, none⟩ _ g gq
    · rw [if_neg e, updA_ne ls _ e]
      refine (h.row k hk).keepAt fun b eb => ?_
      exact (heap_set w1 ⟨q, r, none⟩ _ b (hne b k hk eb)).trans (k1 b ((h.row k hk).lt b eb).2 fun e2 => h.rr k r hk hr e b eb (by rw [hv]; exact e2))
  · rw [gs i] at e1; rw [gs j] at e2
    by_cases a1 : i = r
    · rw [if_pos a1] at e1
      obtain rfl : g = k := by simpa [Value.ownBlock] using e1
      rw [if_neg fun e => hn (a1.trans e.symm)] at e2
      exact gne j hj (fun e => hn (a1.trans e.symm)) e2
    · rw [if_neg a1] at e1
      by_cases a2 : j = r
      · rw [if_pos a2] at e2
        obtain rfl : g = k := by simpa [Value.ownBlock] using e2
        exact gne i hi a1 e1
      · rw [if_neg a2] at e2
        exact h.rr i j hi hj hn k e1 e2
  · rcases id hown2.2 with ⟨e, _⟩ | ⟨q2, cap2, cur2, e, _, hq2, _⟩
    · cases e
    · cases e; exact Lib.frozen_of_heap hq2 r
theorem RT.rows {B m q cap : Nat} {vs : List Value} {ls : Nat → List Nat} {w : World} (h : RT B m (.slice (some ⟨q, 0, none⟩) m cap) vs ls w) : RowsAt w.heap.size q m ls w := by
  rcases id h.own.2 with ⟨e, _⟩ | ⟨q2, cap2, cur2, e, _, hq2, hc, _, hs, ht⟩
  · cases e
  · cases e
    refine ⟨cur2, _, hq2, by omega, fun i hi => ⟨vs.getD i .nilIface, ?_, ?_⟩⟩
    · have := World.ownsRow.cellAt h.own i (by omega)
      rw [Lib.cell_of_heap hq2] at this
      have hlen := h.len
      rw [show cur2[i]? = _ from this]
      simp [List.getD, show i < vs.length by omega]
    · have hr := h.row i hi
      rcases hr.2 with ⟨e, hz⟩ | ⟨g, cap, cur, e, hb, hq, hc, hmx, hsz, ht⟩
      · exact .inl ⟨List.length_eq_zero_iff.1 hz, none, 0, by rw [e]⟩
      · rw [e] at hr ⊢
        refine .inr ⟨g, 0, cap, rfl, hc, heap_at hq, fun j hj => ?_⟩
        rw [Nat.zero_add]; exact hr.get hj
end Go.Proofs.Ytlpifioneafciaa
