/- A row of told types that grows beside an iterator. -/
import Derived.Test.YteoelcefjjmjiaaTyRAll
import Derived.Test.YteoelcefjjmjiaaRoundLaw
namespace Go.Proofs.Yteoelcefjjmjiaa
open Go.RowKit

theorem row_cellsL {W : World} {base : Nat} {e : TypeId} {size : Nat} {v : Value} {n : Nat} {xs : List Value} (h : W.ownsRow base e size v n xs) (j : Nat) (o : Obj) (hj : v.ownBlock = some j) (ho : W.heap[j]? = some o) : o.isCells = true := by
  rcases h.2 with ⟨rfl, _⟩ | ⟨g, cap, cur, rfl, _, hg, _⟩
  · cases hj
  · obtain rfl : g = j := by simpa [Value.ownBlock] using hj
    rw [hg] at ho; cases ho; rfl
theorem others_grownL {X w1 : World} {o : Obj} {base : Nat} {e : TypeId} {size : Nat} {v : Value} {n : Nat} {xs : List Value} (h : X.ownsRow base e size v n xs) (hg : (X.alloc o).grownBy w1 v.ownBlock) : KeepsOthers X w1 :=
  (KeepsOthers.alloc X o).trans (KeepsOthers.of_grownBy hg fun j ob hj ho => by
    have hlt := (h.lt j hj).2
    rw [Below.heap_alloc X o j hlt] at ho
    exact row_cellsL h j ob hj ho)
/-- The row's variable in block P; the row of what was told so far. -/
def LI (P M : Nat) (V : World) (s : Value) (pre : List Tl) (X : World) : Prop :=
  (X.heap[P]? = some (.cells #[s] 27 (0, 0)) ∧ X.ownsRow M 29 3 s pre.length (cellsOf pre)) ∧ (∀ x ∈ pre, TyIn (fun k => some k ≠ s.ownBlock) X x.1 (.slice x.2.1 x.1.kids.length x.2.2)) ∧ M ≤ X.heap.size ∧ Below P V X
theorem LI.kept {P M : Nat} {V : World} {s : Value} {pre : List Tl} {X Y : World} {row : Option Nat} (h : LI P M V s pre X) (hg : X.grownBy Y row) (hr : ∀ r, row = some r → ∃ o : Obj, X.heap[r]? = some o ∧ o.isCells = false) (hb : Below P V Y) : LI P M V s pre Y :=
  ⟨⟨block_kept h.1.1 hg hr, row_kept h.1.2 fun _ _ _ hk => block_kept hk hg hr⟩, fun x hx => tyIn_kept (h.2.1 x hx) hg hr, Nat.le_trans h.2.2.1 hg.size, hb⟩
theorem LI.fin {P M : Nat} {V : World} {s s' : Value} {pre : List Tl} {X w1 Z : World} {o : Obj} {x : Tl} {g : Nat} (h : LI P M V s pre X) (hP : P < M) (hx : TyIn (fun k => some k ≠ s.ownBlock) X x.1 (.slice x.2.1 x.1.kids.length x.2.2)) (hg : (X.alloc o).grownBy w1 s.ownBlock)
    (hat : s.ownBlock = some g ∨ g = (X.alloc o).heap.size) (hs' : s'.ownBlock = some g) (z1 : ∀ k, k ≠ g → k ≠ P → Z.heap[k]? = w1.heap[k]?) (z2 : Z.heap[P]? = some (.cells #[s'] 27 (0, 0))) (z3 : Z.ownsRow M 29 3 s' (pre ++ [x]).length (cellsOf (pre ++ [x]))) (z4 : w1.heap.size ≤ Z.heap.size) (z5 : Below P w1 Z) : LI P M V s' (pre ++ [x]) Z := by
  have hM := h.2.2.1
  have key : ∀ {t : T} {v : Value}, TyIn (fun k => some k ≠ s.ownBlock) X t v → TyIn (fun k => some k ≠ s'.ownBlock) Z t v := fun {t v} ht => by
    have hgk : ∀ k, some k ≠ s.ownBlock ∧ k < X.heap.size → k ≠ g := fun k hk e => by
      subst e
      rcases hat with e | e
      · exact hk.1 e.symm
      · have := hk.2; simp at e; omega
    refine (ht.lt.keep fun k cs fz hk hh => ?_).mono fun k hk => by rw [hs']; exact fun e => hgk k hk (by simpa using e)
    have hkP : k ≠ P := fun e => by rw [e, h.1.1] at hh; cases hh
    exact (z1 k (hgk k hk) hkP).trans ((hg.block k (by simp; omega) hk.1).trans ((Below.heap_alloc X o k hk.2).trans hh))
  refine ⟨⟨z2, z3⟩, fun y hy => ?_, ?_, ?_⟩
  · rcases List.mem_append.1 hy with hy | hy
    · exact key (h.2.1 y hy)
    · rw [List.mem_singleton.1 hy]; exact key hx
  · have := hg.size; simp at this; omega
  · have hb : Below P X w1 := ⟨hg.os, hg.tape, hg.output, by have := hg.size; simp at this; omega, fun k hk => (hg.block k (by simp; omega) fun e => by have := (h.1.2.lt k e.symm).1; omega).trans (Below.heap_alloc X o k (by omega))⟩
    exact (h.2.2.2.trans hb).trans z5
/-- The two orders of the last stores. -/
theorem fin_a {P M g n cap : Nat} {w1 : World} {xs : List Value} {z0 z1 z2 : Value} (x y z : Value) (h : w1.ownsRow M 29 3 (.slice (some ⟨g, 0, none⟩) (n + 1) cap) (n + 1) (xs ++ [z0, z1, z2])) (hx : xs.length = n * 3) (hP : P < M) {s : Value} (hs : w1.heap[P]? = some (.cells #[s] 27 (0, 0))) (s' : Value) :
    (∀ k, k ≠ g → k ≠ P → ((((w1.setCell ⟨g, n * 3, none⟩ x).setCell ⟨g, n * 3 + 1, none⟩ y).setCell ⟨g, n * 3 + 2, none⟩ z).setCell ⟨P, 0, none⟩ s').heap[k]? = w1.heap[k]?) ∧ ((((w1.setCell ⟨g, n * 3, none⟩ x).setCell ⟨g, n * 3 + 1, none⟩ y).setCell ⟨g, n * 3 + 2, none⟩ z).setCell ⟨P, 0, none⟩ s').heap[P]? = some (.cells #[s'] 27 (0, 0)) ∧
    ((((w1.setCell ⟨g, n * 3, none⟩ x).setCell ⟨g, n * 3 + 1, none⟩ y).setCell ⟨g, n * 3 + 2, none⟩ z).setCell ⟨P, 0, none⟩ s').ownsRow M 29 3 (.slice (some ⟨g, 0, none⟩) (n + 1) cap) (n + 1) (xs ++ [x, y, z]) ∧ Below P w1 ((((w1.setCell ⟨g, n * 3, none⟩ x).setCell ⟨g, n * 3 + 1, none⟩ y).setCell ⟨g, n * 3 + 2, none⟩ z).setCell ⟨P, 0, none⟩ s') := by
  have hgM : M ≤ g := by have := (h.lt g rfl).1; exact this
  have h1 := row_set3 h hx x y z
  have hg : ∀ k, k ≠ g → (((w1.setCell ⟨g, n * 3, none⟩ x).setCell ⟨g, n * 3 + 1, none⟩ y).setCell ⟨g, n * 3 + 2, none⟩ z).heap[k]? = w1.heap[k]? := fun k hk => by
    rw [Below.heap_setCell _ _ _ _ hk, Below.heap_setCell _ _ _ _ hk, Below.heap_setCell _ _ _ _ hk]
  have hsP := (hg P (by omega)).trans hs
  refine ⟨fun k hk hkP => (Below.heap_setCell _ ⟨P, 0, none⟩ _ k hkP).trans (hg k hk), by rw [blk_set (o := 0) hsP]; rfl, row_kept h1 fun k cs fz hk => ?_, ?_⟩
  · by_cases e : k = P
    · subst e; rw [hsP] at hk; cases hk
    · exact (Below.heap_setCell _ ⟨P, 0, none⟩ _ k e).trans hk
  · exact ((((Below.refl P w1).setCell (p := ⟨g, n * 3, none⟩) (by show P ≤ g; omega) _).setCell (p := ⟨g, n * 3 + 1, none⟩) (by show P ≤ g; omega) _).setCell (p := ⟨g, n * 3 + 2, none⟩) (by show P ≤ g; omega) _).setCell (p := ⟨P, 0, none⟩) (Nat.le_refl _) _
theorem fin_b {P M g n cap : Nat} {w1 : World} {xs : List Value} {z0 z1 z2 : Value} (x y z : Value) (h : w1.ownsRow M 29 3 (.slice (some ⟨g, 0, none⟩) (n + 1) cap) (n + 1) (xs ++ [z0, z1, z2])) (hx : xs.length = n * 3) (hP : P < M) {s : Value} (hs : w1.heap[P]? = some (.cells #[s] 27 (0, 0))) (s' : Value) :
    (∀ k, k ≠ g → k ≠ P → ((((w1.setCell ⟨P, 0, none⟩ s').setCell ⟨g, n * 3, none⟩ x).setCell ⟨g, n * 3 + 1, none⟩ y).setCell ⟨g, n * 3 + 2, none⟩ z).heap[k]? = w1.heap[k]?) ∧ ((((w1.setCell ⟨P, 0, none⟩ s').setCell ⟨g, n * 3, none⟩ x).setCell ⟨g, n * 3 + 1, none⟩ y).setCell ⟨g, n * 3 + 2, none⟩ z).heap[P]? = some (.cells #[s'] 27 (0, 0)) ∧
    ((((w1.setCell ⟨P, 0, none⟩ s').setCell ⟨g, n * 3, none⟩ x).setCell ⟨g, n * 3 + 1, none⟩ y).setCell ⟨g, n * 3 + 2, none⟩ z).ownsRow M 29 3 (.slice (some ⟨g, 0, none⟩) (n + 1) cap) (n + 1) (xs ++ [x, y, z]) ∧ Below P w1 ((((w1.setCell ⟨P, 0, none⟩ s').setCell ⟨g, n * 3, none⟩ x).setCell ⟨g, n * 3 + 1, none⟩ y).setCell ⟨g, n * 3 + 2, none⟩ z) := by
  have hgM : M ≤ g := by have := (h.lt g rfl).1; exact this
  have hset : (w1.setCell ⟨P, 0, none⟩ s').heap[P]? = some (.cells #[s'] 27 (0, 0)) := by rw [blk_set (o := 0) hs]; rfl
  have h0 : (w1.setCell ⟨P, 0, none⟩ s').ownsRow M 29 3 (.slice (some ⟨g, 0, none⟩) (n + 1) cap) (n + 1) (xs ++ [z0, z1, z2]) := row_kept h fun k cs fz hk => by
    by_cases e : k = P
    · subst e; rw [hs] at hk; cases hk
    · exact (Below.heap_setCell _ ⟨P, 0, none⟩ _ k e).trans hk
  have hg : ∀ k, k ≠ g → ((((w1.setCell ⟨P, 0, none⟩ s').setCell ⟨g, n * 3, none⟩ x).setCell ⟨g, n * 3 + 1, none⟩ y).setCell ⟨g, n * 3 + 2, none⟩ z).heap[k]? = (w1.setCell ⟨P, 0, none⟩ s').heap[k]? := fun k hk => by
    rw [Below.heap_setCell _ _ _ _ hk, Below.heap_setCell _ _ _ _ hk, Below.heap_setCell _ _ _ _ hk]
  refine ⟨fun k hk hkP => (hg k hk).trans (Below.heap_setCell _ ⟨P, 0, none⟩ _ k hkP), (hg P (by omega)).trans hset, row_set3 h0 hx x y z, ?_⟩
  exact ((((Below.refl P w1).setCell (p := ⟨P, 0, none⟩) (Nat.le_refl _) _).setCell (p := ⟨g, n * 3, none⟩) (by show P ≤ g; omega) _).setCell (p := ⟨g, n * 3 + 1, none⟩) (by show P ≤ g; omega) _).setCell (p := ⟨g, n * 3 + 2, none⟩) (by show P ≤ g; omega) _
end Go.Proofs.Yteoelcefjjmjiaa
