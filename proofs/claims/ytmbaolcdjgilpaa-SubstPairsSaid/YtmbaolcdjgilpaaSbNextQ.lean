/- A round of SubstPairs: what was told is laid behind the row. -/
import Derived.Test.YtmbaolcdjgilpaaSbNext
namespace Go.Proofs.Ytmbaolcdjgilpaa
open Go.RowKit Go.Sort Go.Lib

/-- The two stores ahead of the append. -/
def tick (Y : World) (b : Nat) (x : PR) (n : Nat) : World := (Y.setCell ⟨b + 1 + 1, 0, none⟩ (.string x.n)).setCell ⟨b + 1, 0, none⟩ (.int .i64 ((n : Int) + 1))
theorem tick_size (Y : World) (b : Nat) (x : PR) (n : Nat) : (tick Y b x n).heap.size = Y.heap.size := by simp [tick, World.setCell]
theorem tick_other (Y : World) (b : Nat) (x : PR) (n k : Nat) (h1 : k ≠ b + 1) (h2 : k ≠ b + 2) : (tick Y b x n).heap[k]? = Y.heap[k]? :=
  (Below.heap_setCell _ ⟨b + 1, 0, none⟩ _ k h1).trans (Below.heap_setCell _ ⟨b + 1 + 1, 0, none⟩ _ k h2)
theorem QI.tick {b M : Nat} {V : World} {ls : List PR} {s : Value} {pre : List PR} {Y : World} (h : QI b M V ls s pre Y) (x : PR) :
    (tick Y b x pre.length).heap[b + 1]? = some (.cells #[.int .i64 ((pre.length : Int) + 1)] 3 (0, 0)) ∧ (Go.Proofs.Ytmbaolcdjgilpaa.tick Y b x pre.length).heap[b + 2]? = some (.cells #[.string x.n] 9 (0, 0)) ∧ (Go.Proofs.Ytmbaolcdjgilpaa.tick Y b x pre.length).heap[b + 3]? = some (.cells #[s] 28 (0, 0)) ∧
    (Go.Proofs.Ytmbaolcdjgilpaa.tick Y b x pre.length).ownsRow M 58 4 s pre.length (cellsP pre) := by
  obtain ⟨⟨⟨h1, h2, h3⟩, h4, _⟩, _⟩ := h
  refine ⟨?_, ?_, ?_, ?_⟩
  · have e := (Below.heap_setCell Y ⟨b + 1 + 1, 0, none⟩ (.string x.n) (b + 1) (by simp)).trans h1
    have := blk_set (o := 0) e (.int .i64 ((pre.length : Int) + 1))
    exact this
  · have := blk_set (o := 0) h2 (.string x.n)
    exact (Below.heap_setCell _ ⟨b + 1, 0, none⟩ _ (b + 2) (by simp)).trans this
  · exact (tick_other Y b x _ _ (by omega) (by omega)).trans h3
  · refine row_kept h4 fun k cs fz hk => (tick_other Y b x _ _ ?_ ?_).trans hk
    · rintro rfl; rw [h1] at hk; cases hk
    · rintro rfl; rw [h2] at hk; cases hk
theorem QI.app {b M : Nat} {V : World} {ls : List PR} {s v' : Value} {pre : List PR} {Y w1 : World} {o : Obj} {x : PR} (h : QI b M V ls s pre Y) (hM : b + 4 ≤ M) (hx : TysAt Y (.slice x.a x.t.kids.length x.c) x.t.kids)
    (hp : pre.length < ls.length ∧ x.n = (ls.getD pre.length noP).n ∧ x.t = (ls.getD pre.length noP).t)
    (hown : w1.ownsRow M 58 4 v' (pre.length + 1) (cellsP pre ++ encP x)) (hg : ((Go.Proofs.Ytmbaolcdjgilpaa.tick Y b x pre.length).alloc o).grownBy w1 s.ownBlock) :
    QI b M V ls v' (pre ++ [x]) (w1.setCell ⟨b + 1 + 1 + 1, 0, none⟩ v') ∧ KeepsOthers Y (w1.setCell ⟨b + 1 + 1 + 1, 0, none⟩ v') ∧ ∀ k, ¬ ((k = b + 1 ∨ k = b + 2 ∨ k = b + 3) ∨ s.ownBlock = some k) → k < Y.heap.size → (w1.setCell ⟨b + 1 + 1 + 1, 0, none⟩ v').heap[k]? = Y.heap[k]? := by
  obtain ⟨t1, t2, t3, t4⟩ := h.tick x
  have hts := tick_size Y b x pre.length
  have hto := tick_other Y b x pre.length
  have hbS : Below (b + 1) Y (Go.Proofs.Ytmbaolcdjgilpaa.tick Y b x pre.length) := ((Below.refl (b + 1) Y).setCell (p := ⟨b + 1 + 1, 0, none⟩) (by show b + 1 ≤ b + 1 + 1; omega) _).setCell (p := ⟨b + 1, 0, none⟩) (Nat.le_refl _) _
  have hkS : KeepsOthers Y (Go.Proofs.Ytmbaolcdjgilpaa.tick Y b x pre.length) := (KeepsOthers.setCell _ _ _).trans (KeepsOthers.setCell _ _ _)
  have hrow := h.1.2.1
  have hYM := h.2.2.1
  generalize Go.Proofs.Ytmbaolcdjgilpaa.tick Y b x pre.length = S at *
  have hne : ∀ k, some k ≠ s.ownBlock → k < Y.heap.size → w1.heap[k]? = S.heap[k]? := fun k hk hx => (hg.block k (by simp; omega) hk).trans (Below.heap_alloc S o k (by omega))
  have hlow : ∀ k, k < M → some k ≠ s.ownBlock := fun k hk e => by have := (hrow.lt k e.symm).1; omega
  have hoth : ∀ k, k ≠ b + 3 → (w1.setCell ⟨b + 1 + 1 + 1, 0, none⟩ v').heap[k]? = w1.heap[k]? := fun k hk => Below.heap_setCell _ ⟨b + 1 + 1 + 1, 0, none⟩ _ k hk
  have hall : ∀ k, k ≠ b + 1 → k ≠ b + 2 → k ≠ b + 3 → some k ≠ s.ownBlock → k < Y.heap.size → (w1.setCell ⟨b + 1 + 1 + 1, 0, none⟩ v').heap[k]? = Y.heap[k]? := fun k k1 k2 k3 k4 k5 =>
    (hoth k k3).trans ((hne k k4 k5).trans (hto k k1 k2))
  have hw3 : w1.heap[b + 3]? = some (.cells #[s] 28 (0, 0)) := (hne _ (hlow _ (by omega)) (by omega)).trans t3
  have hsz : Y.heap.size ≤ w1.heap.size := by have := hg.size; simp at this; omega
  have hkt : KeepT Y (w1.setCell ⟨b + 1 + 1 + 1, 0, none⟩ v') := fun k cs fz hk => by
    refine (hall k ?_ ?_ ?_ ?_ (Array.getElem?_eq_some_iff.1 hk).1).trans hk
    · rintro rfl; rw [h.1.1.1] at hk; cases hk
    · rintro rfl; rw [h.1.1.2.1] at hk; cases hk
    · rintro rfl; rw [h.1.1.2.2] at hk; cases hk
    · intro e
      rcases hrow.2 with ⟨rfl, _⟩ | ⟨g, cap, cur, rfl, _, hgb, _⟩
      · cases e
      · obtain rfl : k = g := by simpa [Value.ownBlock] using e
        rw [hk] at hgb; cases hgb
  refine ⟨⟨⟨⟨?_, ?_, ?_⟩, ?_, fun e => by simp at e⟩, ⟨?_, h.2.1.2.snoc hp⟩, by simp; omega, ?_⟩, ?_, fun k hk hkY => hall k (fun e => hk (.inl (.inl e))) (fun e => hk (.inl (.inr (.inl e)))) (fun e => hk (.inl (.inr (.inr e)))) (fun e => hk (.inr e.symm)) hkY⟩
  · rw [hoth _ (by omega), hne _ (hlow _ (by omega)) (by omega), t1]; simp
  · rw [hoth _ (by omega), hne _ (hlow _ (by omega)) (by omega), t2, lastN_snoc]
  · have := blk_set (o := 0) hw3 v'
    exact this
  · rw [cellsP_snoc, List.length_append, List.length_singleton]
    refine row_kept hown fun k cs fz hk => ?_
    by_cases e : k = b + 3
    · subst e; rw [hw3] at hk; cases hk
    · exact (hoth k e).trans hk
  · intro y hy
    rcases List.mem_append.1 hy with hy | hy
    · exact (h.2.1.1 y hy).keep hkt
    · obtain rfl := List.mem_singleton.1 hy
      exact hx.keep hkt
  · have hb : Below (b + 1) Y w1 := ⟨?_, ?_, ?_, hsz, fun k hk => (hne k (hlow _ (by omega)) (by omega)).trans (hto k (by omega) (by omega))⟩
    rotate_left
    · exact hg.os.trans hbS.os
    · exact hg.tape.trans hbS.tape
    · exact hg.output.trans hbS.output
    · exact (h.2.2.2.trans hb).setCell (p := ⟨b + 1 + 1 + 1, 0, none⟩) (by show b + 1 ≤ b + 1 + 1 + 1; omega) _
  · exact (hkS.trans (others_grown t4 hg)).trans (KeepsOthers.setCell _ _ _)
theorem QI.app_cell {b M : Nat} {V : World} {ls : List PR} {s : Value} {pre : List PR} {Y w1 : World} {o : Obj} {x : PR} (h : QI b M V ls s pre Y) (hM : b + 4 ≤ M) (hg : ((Go.Proofs.Ytmbaolcdjgilpaa.tick Y b x pre.length).alloc o).grownBy w1 s.ownBlock) : w1.heap[b + 3]? = some (.cells #[s] 28 (0, 0)) := by
  have t3 := (h.tick x).2.2.1
  have hts := tick_size Y b x pre.length
  have hYM := h.2.2.1
  refine (hg.block _ (by simp; omega) (fun e => ?_)).trans ((Below.heap_alloc _ o _ (by omega)).trans t3)
  have := (h.1.2.1.lt _ e.symm).1; omega
theorem tick_new (Y : World) (b : Nat) (x : PR) (n : Nat) : ∀ j v, (encP x)[j]? = some v → ((Go.Proofs.Ytmbaolcdjgilpaa.tick Y b x n).alloc (.cells (encP x).toArray 58)).cell? ((⟨Y.heap.size, 0, none⟩ : Addr).add j) = some v := by
  have := cell_new4 (Go.Proofs.Ytmbaolcdjgilpaa.tick Y b x n) (.string x.n) (.int .i64 x.t.kind) (.string x.t.name) (.slice x.a x.t.kids.length x.c) 58
  rw [tick_size] at this
  exact this
end Go.Proofs.Ytmbaolcdjgilpaa
