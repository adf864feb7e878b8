/- A row of pairs in a block of memory; what stays beside it. -/
import Derived.Test.YtmbaolcdjgilpaaSbPure
import Derived.Test.YtmbaolcdjgilpaaTyCmp
import Derived.Shelf.SlSortCmp.InsertionK
namespace Go.Proofs.Ytmbaolcdjgilpaa
open Go.RowKit Go.Sort
attribute [local go_sem] Oper.semAt_some

def encP (x : PR) : List Value := [.string x.n, .int .i64 x.t.kind, .string x.t.name, .slice x.a x.t.kids.length x.c]
/-- Block g holds the pairs l, from its head on. -/
def RowP (g : Nat) (l : List PR) (w : World) : Prop :=
  ∃ cs, w.heap[g]? = some (.cells cs 58 (0, 0)) ∧ l.length * 4 ≤ cs.size ∧ ∀ i, i < l.length →
    cs[i * 4]? = some (.string (l.getD i noP).n) ∧ cs[i * 4 + 1]? = some (.int .i64 (l.getD i noP).t.kind) ∧ cs[i * 4 + 2]? = some (.string (l.getD i noP).t.name) ∧ cs[i * 4 + 3]? = some (.slice (l.getD i noP).a (l.getD i noP).t.kids.length (l.getD i noP).c)
/-- The types of the pairs lie in memory. -/
def Typ (l : List PR) (w : World) : Prop := ∀ x ∈ l, TysAt w (.slice x.a x.t.kids.length x.c) x.t.kids
theorem Typ.keep {l : List PR} {w w' : World} (h : Typ l w) (k : KeepT w w') : Typ l w' := fun x hx => (h x hx).keep k
theorem RowP.lt {g : Nat} {l : List PR} {w : World} (h : RowP g l w) : g < w.heap.size := by
  obtain ⟨cs, h1, _⟩ := h; exact (Array.getElem?_eq_some_iff.1 h1).1
theorem RowP.same {g : Nat} {l : List PR} {w w' : World} (h : RowP g l w) (k : w'.heap[g]? = w.heap[g]?) : RowP g l w' := by
  obtain ⟨cs, h1, h2⟩ := h; exact ⟨cs, k.trans h1, h2⟩
theorem RowP.below {g : Nat} {l : List PR} {w w' : World} (h : RowP g l w) (k : Below w.heap.size w w') : RowP g l w' := h.same (k.block g h.lt)
theorem RowP.cells {g : Nat} {l : List PR} {w : World} (h : RowP g l w) {i : Nat} (hi : i < l.length) :
    w.cell? ⟨g, i * 4, none⟩ = some (.string (l.getD i noP).n) ∧ w.cell? ⟨g, i * 4 + 1, none⟩ = some (.int .i64 (l.getD i noP).t.kind) ∧ w.cell? ⟨g, i * 4 + 2, none⟩ = some (.string (l.getD i noP).t.name) ∧ w.cell? ⟨g, i * 4 + 3, none⟩ = some (.slice (l.getD i noP).a (l.getD i noP).t.kids.length (l.getD i noP).c) := by
  obtain ⟨cs, h1, _, h3⟩ := h
  rw [Lib.cell_of_heap h1, Lib.cell_of_heap h1, Lib.cell_of_heap h1, Lib.cell_of_heap h1]
  exact h3 i hi
theorem RowP.free {g : Nat} {l : List PR} {w : World} (h : RowP g l w) (o : Nat) : w.frozen? ⟨g, o, none⟩ = false := by
  obtain ⟨cs, h1, _⟩ := h; exact Lib.frozen_of_heap h1 o
theorem RowP.take {g : Nat} {l : List PR} {w : World} (h : RowP g l w) (k : Nat) : RowP g (l.take k) w := by
  obtain ⟨cs, h1, h2, h3⟩ := h
  have hl : (l.take k).length ≤ l.length := by simp; omega
  refine ⟨cs, h1, by omega, fun i hi => ?_⟩
  have e : (l.take k).getD i noP = l.getD i noP := by
    have : i < k := by simp at hi; omega
    simp [List.getD, this]
  rw [e]
  exact h3 i (by omega)
theorem RowP.of_eq {g : Nat} {l m : List PR} {w : World} (h : RowP g l w) (e : l = m) : RowP g m w := e ▸ h
/-- Four stores: a pair is laid into the row. -/
def set4 (w : World) (g i : Nat) (x : PR) : World := (((w.setCell ⟨g, i * 4, none⟩ (.string x.n)).setCell ⟨g, i * 4 + 1, none⟩ (.int .i64 x.t.kind)).setCell ⟨g, i * 4 + 2, none⟩ (.string x.t.name)).setCell ⟨g, i * 4 + 3, none⟩ (.slice x.a x.t.kids.length x.c)
theorem blk_set {W : World} {b o : Nat} {cs : Array Value} {T : TypeId} {m : Nat × Nat} (h : W.heap[b]? = some (.cells cs T m)) (v : Value) : (W.setCell ⟨b, o, none⟩ v).heap[b]? = some (.cells (cs.setIfInBounds o v) T m) := by
  obtain ⟨hlt, hk⟩ := Array.getElem?_eq_some_iff.1 h
  show (W.heap.modify b _)[b]? = _
  rw [Array.getElem?_eq_getElem (by rw [Array.size_modify]; exact hlt), Array.getElem_modify_self, hk]
  rfl
theorem size_set4 (w : World) (g i : Nat) (x : PR) : (set4 w g i x).heap.size = w.heap.size := by simp [set4, World.setCell]
theorem heap_set4 (w : World) (g i : Nat) (x : PR) (k : Nat) (hk : k ≠ g) : (set4 w g i x).heap[k]? = w.heap[k]? :=
  (Below.heap_setCell _ ⟨g, i * 4 + 3, none⟩ _ k hk).trans ((Below.heap_setCell _ ⟨g, i * 4 + 2, none⟩ _ k hk).trans ((Below.heap_setCell _ ⟨g, i * 4 + 1, none⟩ _ k hk).trans (Below.heap_setCell _ ⟨g, i * 4, none⟩ _ k hk)))
theorem below_set4 (w : World) (g i : Nat) (x : PR) (N : Nat) (hN : N ≤ g) : Below N w (set4 w g i x) :=
  ((((Below.refl N w).setCell (p := ⟨g, i * 4, none⟩) hN _).setCell (p := ⟨g, i * 4 + 1, none⟩) hN _).setCell (p := ⟨g, i * 4 + 2, none⟩) hN _).setCell (p := ⟨g, i * 4 + 3, none⟩) hN _
theorem RowP.set {g : Nat} {l : List PR} {w : World} (h : RowP g l w) (i : Nat) (x : PR) : RowP g (l.set i x) (set4 w g i x) := by
  obtain ⟨cs, h1, h2, h3⟩ := h
  refine ⟨(((cs.setIfInBounds (i * 4) (.string x.n)).setIfInBounds (i * 4 + 1) (.int .i64 x.t.kind)).setIfInBounds (i * 4 + 2) (.string x.t.name)).setIfInBounds (i * 4 + 3) (.slice x.a x.t.kids.length x.c), blk_set (blk_set (blk_set (blk_set h1 _) _) _) _, by simpa using h2, fun j hj => ?_⟩
  have hj' : j < l.length := by simpa using hj
  by_cases e : j = i
  · subst e
    have e2 : (l.set j x).getD j noP = x := by simp [List.getD, hj']
    rw [e2]
    refine ⟨?_, ?_, ?_, ?_⟩ <;> (simp [Array.getElem?_setIfInBounds]; omega)
  · have e2 : (l.set i x).getD j noP = l.getD j noP := by simp [List.getD, Ne.symm e]
    rw [e2]
    obtain ⟨a1, a2, a3, a4⟩ := h3 j hj'
    refine ⟨?_, ?_, ?_, ?_⟩
    · rw [Array.getElem?_setIfInBounds_ne (by omega), Array.getElem?_setIfInBounds_ne (by omega), Array.getElem?_setIfInBounds_ne (by omega), Array.getElem?_setIfInBounds_ne (by omega)]; exact a1
    · rw [Array.getElem?_setIfInBounds_ne (by omega), Array.getElem?_setIfInBounds_ne (by omega), Array.getElem?_setIfInBounds_ne (by omega), Array.getElem?_setIfInBounds_ne (by omega)]; exact a2
    · rw [Array.getElem?_setIfInBounds_ne (by omega), Array.getElem?_setIfInBounds_ne (by omega), Array.getElem?_setIfInBounds_ne (by omega), Array.getElem?_setIfInBounds_ne (by omega)]; exact a3
    · rw [Array.getElem?_setIfInBounds_ne (by omega), Array.getElem?_setIfInBounds_ne (by omega), Array.getElem?_setIfInBounds_ne (by omega), Array.getElem?_setIfInBounds_ne (by omega)]; exact a4

/-- All but block g stays. -/
def Fr (g : Nat) (w w' : World) : Prop := Below 0 w w' ∧ ∀ k, k < w.heap.size → k ≠ g → w'.heap[k]? = w.heap[k]?
theorem Fr.refl (g : Nat) (w : World) : Fr g w w := ⟨Below.refl _ _, fun _ _ _ => rfl⟩
theorem Fr.trans {g : Nat} {a b c : World} (h : Fr g a b) (k : Fr g b c) : Fr g a c := ⟨h.1.trans k.1, fun i hi hg => (k.2 i (Nat.lt_of_lt_of_le hi h.1.size) hg).trans (h.2 i hi hg)⟩
theorem Fr.of_below {g : Nat} {w w' : World} (h : Below w.heap.size w w') : Fr g w w' := ⟨h.mono (Nat.zero_le _), fun k hk _ => h.block k hk⟩
theorem Fr.set4 (g i : Nat) (w : World) (x : PR) : Fr g w (set4 w g i x) := ⟨below_set4 w g i x 0 (Nat.zero_le _), fun k _ hg => heap_set4 w g i x k hg⟩
theorem Fr.below {g : Nat} {w w' : World} (h : Fr g w w') {N : Nat} (hg : N ≤ g) (hN : N ≤ w.heap.size) : Below N w w' := ⟨h.1.os, h.1.tape, h.1.output, h.1.size, fun k hk => h.2 k (by omega) (by omega)⟩
theorem Fr.keepT {g : Nat} {l : List PR} {w w' : World} (h : Fr g w w') (hr : RowP g l w) : KeepT w w' := by
  intro k cs fz hk
  refine (h.2 k (Array.getElem?_eq_some_iff.1 hk).1 ?_).trans hk
  rintro rfl
  obtain ⟨cs', h1, _⟩ := hr
  rw [hk] at h1
  simp at h1

/-! The sort's worlds. -/
theorem encP_len (x : PR) : (encP x).length = 4 := rfl
theorem encP_one (x : PR) : ∀ v ∈ encP x, v.oneCell' = true := by
  intro v hv
  simp only [encP, List.mem_cons, List.not_mem_nil, or_false] at hv
  rcases hv with rfl | rfl | rfl | rfl <;> rfl
theorem RowP.holds {g : Nat} {l : List PR} {w : World} (h : RowP g l w) : HoldsK encP 4 w g 0 l.toArray := by
  intro t ht
  have ht' : t < l.length * 4 := by simpa using ht
  rw [get_flatK _ _ _ _ (by simpa using ht')]
  have hb : ∀ i, i < l.length → l.toArray[i]! = l.getD i noP := fun i hi => by rw [bang _ _ (by simpa using hi)]; simp [List.getD, hi]
  refine ⟨?_, h.free _⟩
  have hi : t / 4 < l.length := by omega
  obtain ⟨a1, a2, a3, a4⟩ := h.cells hi
  rw [hb _ hi, Nat.zero_add]
  have hc : t % 4 = 0 ∨ t % 4 = 1 ∨ t % 4 = 2 ∨ t % 4 = 3 := by omega
  rcases hc with e | e | e | e
  · rw [e, show t = t / 4 * 4 by omega]; simpa [encP] using a1
  · rw [e, show t = t / 4 * 4 + 1 by omega, show (t / 4 * 4 + 1) / 4 = t / 4 by omega]; exact a2
  · rw [e, show t = t / 4 * 4 + 2 by omega, show (t / 4 * 4 + 2) / 4 = t / 4 by omega]; exact a3
  · rw [e, show t = t / 4 * 4 + 3 by omega, show (t / 4 * 4 + 3) / 4 = t / 4 by omega]; exact a4
theorem heap_sortW (w : World) (g m : Nat) (d : Array PR) (os : Array Obj) (k : Nat) (hk : k < w.heap.size) (hg : k ≠ g) : (sortWorldK encP 4 w g 0 m d os).heap[k]? = w.heap[k]? := by
  unfold sortWorldK grow putRowK putRow mapBlock
  show ((w.heap.modify g _) ++ os)[k]? = _
  rw [Array.getElem?_append_left (by simpa using hk), Array.getElem?_modify]
  simp [Ne.symm hg]
theorem block_sortW {w : World} {g : Nat} {cs : Array Value} {T : TypeId} {fz : Nat × Nat} (h : w.heap[g]? = some (.cells cs T fz)) (m : Nat) (d : Array PR) (os : Array Obj) :
    (sortWorldK encP 4 w g 0 m d os).heap[g]? = some (.cells (putCells id 0 (flatK encP 4 d) cs) T fz) := by
  unfold sortWorldK grow putRowK putRow mapBlock
  have hk := (Array.getElem?_eq_some_iff.1 h).1
  show ((w.heap.modify g _) ++ os)[g]? = _
  rw [Array.getElem?_append_left (by simpa using hk), Array.getElem?_modify]
  simp [h, onCells]
theorem Fr.sort (w : World) (g m : Nat) (d : Array PR) (os : Array Obj) : Fr g w (sortWorldK encP 4 w g 0 m d os) := by
  refine ⟨⟨rfl, rfl, rfl, ?_, fun k hk => absurd hk (Nat.not_lt_zero _)⟩, fun k hk hg => heap_sortW w g m d os k hk hg⟩
  exact size_sortWorldK_c encP 4 w g 0 m d os
theorem RowP.sort {g : Nat} {l : List PR} {w : World} (h : RowP g l w) (m : Nat) (d : Array PR) (os : Array Obj) (hs : d.size = l.length) : RowP g d.toList (sortWorldK encP 4 w g 0 m d os) := by
  obtain ⟨cs, h1, h2, _⟩ := h
  refine ⟨_, block_sortW h1 m d os, by simpa [putCells, hs] using h2, fun i hi => ?_⟩
  have hi' : i < d.size := by simpa using hi
  have hb : d[i]! = d.toList.getD i noP := by rw [bang _ _ hi']; simp [List.getD, hi']
  have key : ∀ c, c < 4 → (putCells id 0 (flatK encP 4 d) cs)[i * 4 + c]? = some ((encP (d.toList.getD i noP))[c]!) := by
    intro c hc
    have hlt : i * 4 + c < d.size * 4 := by omega
    unfold putCells
    rw [Array.getElem?_mapIdx, Array.getElem?_eq_getElem (by omega)]
    simp only [Option.map_some, size_flatK, Nat.zero_le, true_and, Nat.zero_add, hlt, if_true, Nat.sub_zero, id]
    rw [get_flatK _ _ _ _ hlt, show (i * 4 + c) / 4 = i by omega, show (i * 4 + c) % 4 = c by omega, hb]
  exact ⟨by simpa [encP] using key 0 (by decide), key 1 (by decide), key 2 (by decide), key 3 (by decide)⟩
end Go.Proofs.Ytmbaolcdjgilpaa
