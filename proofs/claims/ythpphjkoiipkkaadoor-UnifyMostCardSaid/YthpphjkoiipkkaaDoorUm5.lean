/- Merged: SbMem, UgMem, UgRoot, UgPush, UgInts. -/
import Derived.Test.YthpphjkoiipkkaaDoorUm4
import Derived.Shelf.SlSortCmp.InsertionK
import Derived.Test.YthpphjkoiipkkaaDoorUm3
import Derived.Maps.OwnSet
import Derived.Lib.SlFresh
/- A row of pairs in a block of memory; what stays beside it. -/
namespace Go.Proofs.YthpphjkoiipkkaaDoor
open Go.RowKit Go.Sort
attribute [local go_sem] Oper.semAt_some

def encP (x : PR) : List Value := [.string x.n, .int .i64 x.t.kind, .string x.t.name, .slice x.a x.t.kids.length x.c]
/-- Block g holds the pairs l, from its head on. -/
def RowP (g : Nat) (l : List PR) (w : World) : Prop :=
  ∃ cs, w.heap[g]? = some (.cells cs 93 (0, 0)) ∧ l.length * 4 ≤ cs.size ∧ ∀ i, i < l.length →
    cs[i * 4]? = some (.string (l.getD i noP).n) ∧ cs[i * 4 + 1]? = some (.int .i64 (l.getD i noP).t.kind) ∧ cs[i * 4 + 2]? = some (.string (l.getD i noP).t.name) ∧ cs[i * 4 + 3]? = some (.slice (l.getD i noP).a (l.getD i noP).t.kids.length (l.getD i noP).c)
/-- The types of the pairs lie in memory. -/
def Typ (l : List PR) (w : World) : Prop := ∀ x ∈ l, TysAt w (.slice x.a x.t.kids.length x.c) x.t.kids
theorem Typ.keep {l : List PR} {w w' : World} (h : Typ l w) (k : KeepT w w') : Typ l w' := fun x hx => (h x hx).keep k
theorem RowP.lt {g : Nat} {l : List PR} {w : World} (h : RowP g l w) : g < w.heap.size := by
  obtain ⟨cs, h1, _⟩ := h; exact (Array.getElem?_eq_some_iff.1 h1).1
theorem RowP.same {g : Nat} {l : List PR} {w w' : World} (h : RowP g l w) (k : w'.heap[g]? = w.heap[g]?) : RowP g l w' := by
  obtain ⟨cs, h1, h2⟩ := h; exact ⟨cs, k.trans h1, h2⟩
theorem RowP.below {g : Nat} {l : List PR} {w w' : World} (h : RowP g l w) (k : Below w.heap.size w w') : RowP g l w' := h.same (k.block g h.lt)
theorem RowP.cells {g : Nat} {l : List PR} {w : World} (h : RowP g l w) {i : Nat} (hi : i < l.length) :
    w.cell? ⟨g, i * 4, none⟩ = some (.string (l.getD i noP).n) ∧ w.cell? ⟨g, i * 4 + 1, none⟩ = some (.int .i64 (l.getD i noP).t.kind) ∧ w.cell? ⟨g, i * 4 + 2, none⟩ = some (.string (l.getD i noP).t.name) ∧ w.cell? ⟨g, i * 4 + 3, none⟩ = some (.slice (l.getD i noP).a (l.getD i noP).t.kids.length (l.getD i noP).c) := by
  obtain ⟨cs, h1, _, h3⟩ := h
  rw [Lib.cell_of_heap h1, Lib.cell_of_heap h1, Lib.cell_of_heap h1, Lib.cell_of_heap h1]
  exact h3 i hi
theorem RowP.free {g : Nat} {l : List PR} {w : World} (h : RowP g l w) (o : Nat) : w.frozen? ⟨g, o, none⟩ = false := by
  obtain ⟨cs, h1, _⟩ := h; exact Lib.frozen_of_heap h1 o
theorem RowP.take {g : Nat} {l : List PR} {w : World} (h : RowP g l w) (k : Nat) : RowP g (l.take k) w := by
  obtain ⟨cs, h1, h2, h3⟩ := h
  have hl : (l.take k).length ≤ l.length := by simp; omega
  refine ⟨cs, h1, by omega, fun i hi => ?_⟩
  have e : (l.take k).getD i noP = l.getD i noP := by
    have : i < k := by simp at hi; omega
    simp [List.getD, this]
  rw [e]
  exact h3 i (by omega)
theorem RowP.of_eq {g : Nat} {l m : List PR} {w : World} (h : RowP g l w) (e : l = m) : RowP g m w := e ▸ h
/-- Four stores: a pair is laid into the row. -/
def set4 (w : World) (g i : Nat) (x : PR) : World := (((w.setCell ⟨g, i * 4, none⟩ (.string x.n)).setCell ⟨g, i * 4 + 1, none⟩ (.int .i64 x.t.kind)).setCell ⟨g, i * 4 + 2, none⟩ (.string x.t.name)).setCell ⟨g, i * 4 + 3, none⟩ (.slice x.a x.t.kids.length x.c)
theorem blk_set {W : World} {b o : Nat} {cs : Array Value} {T : TypeId} {m : Nat × Nat} (h : W.heap[b]? = some (.cells cs T m)) (v : Value) : (W.setCell ⟨b, o, none⟩ v).heap[b]? = some (.cells (cs.setIfInBounds o v) T m) := by
  obtain ⟨hlt, hk⟩ := Array.getElem?_eq_some_iff.1 h
  show (W.heap.modify b _)[b]? = _
  rw [Array.getElem?_eq_getElem (by rw [Array.size_modify]; exact hlt), Array.getElem_modify_self, hk]
  rfl
theorem size_set4 (w : World) (g i : Nat) (x : PR) : (set4 w g i x).heap.size = w.heap.size := by simp [set4, World.setCell]
theorem heap_set4 (w : World) (g i : Nat) (x : PR) (k : Nat) (hk : k ≠ g) : (set4 w g i x).heap[k]? = w.heap[k]? :=
  (Below.heap_setCell _ ⟨g, i * 4 + 3, none⟩ _ k hk).trans ((Below.heap_setCell _ ⟨g, i * 4 + 2, none⟩ _ k hk).trans ((Below.heap_setCell _ ⟨g, i * 4 + 1, none⟩ _ k hk).trans (Below.heap_setCell _ ⟨g, i * 4, none⟩ _ k hk)))
theorem below_set4 (w : World) (g i : Nat) (x : PR) (N : Nat) (hN : N ≤ g) : Below N w (set4 w g i x) :=
  ((((Below.refl N w).setCell (p := ⟨g, i * 4, none⟩) hN _).setCell (p := ⟨g, i * 4 + 1, none⟩) hN _).setCell (p := ⟨g, i * 4 + 2, none⟩) hN _).setCell (p := ⟨g, i * 4 + 3, none⟩) hN _
theorem RowP.set {g : Nat} {l : List PR} {w : World} (h : RowP g l w) (i : Nat) (x : PR) : RowP g (l.set i x) (set4 w g i x) := by
  obtain ⟨cs, h1, h2, h3⟩ := h
  refine ⟨(((cs.setIfInBounds (i * 4) (.string x.n)).setIfInBounds (i * 4 + 1) (.int .i64 x.t.kind)).setIfInBounds (i * 4 + 2) (.string x.t.name)).setIfInBounds (i * 4 + 3) (.slice x.a x.t.kids.length x.c), blk_set (blk_set (blk_set (blk_set h1 _) _) _) _, by simpa using h2, fun j hj => ?_⟩
  have hj' : j < l.length := by simpa using hj
  by_cases e : j = i
  · subst e
    have e2 : (l.set j x).getD j noP = x := by simp [List.getD, hj']
    rw [e2]
    refine ⟨?_, ?_, ?_, ?_⟩ <;> (simp [Array.getElem?_setIfInBounds]; omega)
  · have e2 : (l.set i x).getD j noP = l.getD j noP := by simp [List.getD, Ne.symm e]
    rw [e2]
    obtain ⟨a1, a2, a3, a4⟩ := h3 j hj'
    refine ⟨?_, ?_, ?_, ?_⟩
    · rw [Array.getElem?_setIfInBounds_ne (by omega), Array.getElem?_setIfInBounds_ne (by omega), Array.getElem?_setIfInBounds_ne (by omega), Array.getElem?_setIfInBounds_ne (by omega)]; exact a1
    · rw [Array.getElem?_setIfInBounds_ne (by omega), Array.getElem?_setIfInBounds_ne (by omega), Array.getElem?_setIfInBounds_ne (by omega), Array.getElem?_setIfInBounds_ne (by omega)]; exact a2
    · rw [Array.getElem?_setIfInBounds_ne (by omega), Array.getElem?_setIfInBounds_ne (by omega), Array.getElem?_setIfInBounds_ne (by omega), Array.getElem?_setIfInBounds_ne (by omega)]; exact a3
    · rw [Array.getElem?_setIfInBounds_ne (by omega), Array.getElem?_setIfInBounds_ne (by omega), Array.getElem?_setIfInBounds_ne (by omega), Array.getElem?_setIfInBounds_ne (by omega)]; exact a4

/-- All but block g stays. -/
def Fr (g : Nat) (w w' : World) : Prop := Below 0 w w' ∧ ∀ k, k < w.heap.size → k ≠ g → w'.heap[k]? = w.heap[k]?
theorem Fr.refl (g : Nat) (w : World) : Fr g w w := ⟨Below.refl _ _, fun _ _ _ => rfl⟩
theorem Fr.trans {g : Nat} {a b c : World} (h : Fr g a b) (k : Fr g b c) : Fr g a c := ⟨h.1.trans k.1, fun i hi hg => (k.2 i (Nat.lt_of_lt_of_le hi h.1.size) hg).trans (h.2 i hi hg)⟩
theorem Fr.of_below {g : Nat} {w w' : World} (h : Below w.heap.size w w') : Fr g w w' := ⟨h.mono (Nat.zero_le _), fun k hk _ => h.block k hk⟩
theorem Fr.set4 (g i : Nat) (w : World) (x : PR) : Fr g w (set4 w g i x) := ⟨below_set4 w g i x 0 (Nat.zero_le _), fun k _ hg => heap_set4 w g i x k hg⟩
theorem Fr.below {g : Nat} {w w' : World} (h : Fr g w w') {N : Nat} (hg : N ≤ g) (hN : N ≤ w.heap.size) : Below N w w' := ⟨h.1.os, h.1.tape, h.1.output, h.1.size, fun k hk => h.2 k (by omega) (by omega)⟩
theorem Fr.keepT {g : Nat} {l : List PR} {w w' : World} (h : Fr g w w') (hr : RowP g l w) : KeepT w w' := by
  intro k cs fz hk
  refine (h.2 k (Array.getElem?_eq_some_iff.1 hk).1 ?_).trans hk
  rintro rfl
  obtain ⟨cs', h1, _⟩ := hr
  rw [hk] at h1
  simp at h1

/-! The sort's worlds. -/
theorem encP_len (x : PR) : (encP x).length = 4 := rfl
theorem encP_one (x : PR) : ∀ v ∈ encP x, v.oneCell' = true := by
  intro v hv
  simp only [encP, List.mem_cons, List.not_mem_nil, or_false] at hv
  rcases hv with rfl | rfl | rfl | rfl <;> rfl
theorem RowP.holds {g : Nat} {l : List PR} {w : World} (h : RowP g l w) : HoldsK encP 4 w g 0 l.toArray := by
  intro t ht
  have ht' : t < l.length * 4 := by simpa using ht
  rw [get_flatK _ _ _ _ (by simpa using ht')]
  have hb : ∀ i, i < l.length → l.toArray[i]! = l.getD i noP := fun i hi => by rw [bang _ _ (by simpa using hi)]; simp [List.getD, hi]
  refine ⟨?_, h.free _⟩
  have hi : t / 4 < l.length := by omega
  obtain ⟨a1, a2, a3, a4⟩ := h.cells hi
  rw [hb _ hi, Nat.zero_add]
  have hc : t % 4 = 0 ∨ t % 4 = 1 ∨ t % 4 = 2 ∨ t % 4 = 3 := by omega
  rcases hc with e | e | e | e
  · rw [e, show t = t / 4 * 4 by omega]; simpa [encP] using a1
  · rw [e, show t = t / 4 * 4 + 1 by omega, show (t / 4 * 4 + 1) / 4 = t / 4 by omega]; exact a2
  · rw [e, show t = t / 4 * 4 + 2 by omega, show (t / 4 * 4 + 2) / 4 = t / 4 by omega]; exact a3
  · rw [e, show t = t / 4 * 4 + 3 by omega, show (t / 4 * 4 + 3) / 4 = t / 4 by omega]; exact a4
theorem heap_sortW (w : World) (g m : Nat) (d : Array PR) (os : Array Obj) (k : Nat) (hk : k < w.heap.size) (hg : k ≠ g) : (sortWorldK encP 4 w g 0 m d os).heap[k]? = w.heap[k]? := by
  unfold sortWorldK grow putRowK putRow mapBlock
  show ((w.heap.modify g _) ++ os)[k]? = _
  rw [Array.getElem?_append_left (by simpa using hk), Array.getElem?_modify]
  simp [Ne.symm hg]
theorem block_sortW {w : World} {g : Nat} {cs : Array Value} {T : TypeId} {fz : Nat × Nat} (h : w.heap[g]? = some (.cells cs T fz)) (m : Nat) (d : Array PR) (os : Array Obj) :
    (sortWorldK encP 4 w g 0 m d os).heap[g]? = some (.cells (putCells id 0 (flatK encP 4 d) cs) T fz) := by
  unfold sortWorldK grow putRowK putRow mapBlock
  have hk := (Array.getElem?_eq_some_iff.1 h).1
  show ((w.heap.modify g _) ++ os)[g]? = _
  rw [Array.getElem?_append_left (by simpa using hk), Array.getElem?_modify]
  simp [h, onCells]
theorem Fr.sort (w : World) (g m : Nat) (d : Array PR) (os : Array Obj) : Fr g w (sortWorldK encP 4 w g 0 m d os) := by
  refine ⟨⟨rfl, rfl, rfl, ?_, fun k hk => absurd hk (Nat.not_lt_zero _)⟩, fun k hk hg => heap_sortW w g m d os k hk hg⟩
  exact size_sortWorldK_c encP 4 w g 0 m d os
theorem RowP.sort {g : Nat} {l : List PR} {w : World} (h : RowP g l w) (m : Nat) (d : Array PR) (os : Array Obj) (hs : d.size = l.length) : RowP g d.toList (sortWorldK encP 4 w g 0 m d os) := by
  obtain ⟨cs, h1, h2, _⟩ := h
  refine ⟨_, block_sortW h1 m d os, by simpa [putCells, hs] using h2, fun i hi => ?_⟩
  have hi' : i < d.size := by simpa using hi
  have hb : d[i]! = d.toList.getD i noP := by rw [bang _ _ hi']; simp [List.getD, hi']
  have key : ∀ c, c < 4 → (putCells id 0 (flatK encP 4 d) cs)[i * 4 + c]? = some ((encP (d.toList.getD i noP))[c]!) := by
    intro c hc
    have hlt : i * 4 + c < d.size * 4 := by omega
    unfold putCells
    rw [Array.getElem?_mapIdx, Array.getElem?_eq_getElem (by omega)]
    simp only [Option.map_some, size_flatK, Nat.zero_le, true_and, Nat.zero_add, hlt, if_true, Nat.sub_zero, id]
    rw [get_flatK _ _ _ _ hlt, show (i * 4 + c) / 4 = i by omega, show (i * 4 + c) % 4 = c by omega, hb]
  exact ⟨by simpa [encP] using key 0 (by decide), key 1 (by decide), key 2 (by decide), key 3 (by decide)⟩
end Go.Proofs.YthpphjkoiipkkaaDoor
/- The program's graph in memory. -/
namespace Go.Proofs.YthpphjkoiipkkaaDoor
open Go.RowKit Go.Maps
attribute [local go_sem] Oper.semAt_some

/-- A row of places. -/
def PlcAt (w : World) (v : Value) (l : List Nat) : Prop :=
  (l = [] ∧ ∃ a c, v = .slice a 0 c) ∨ ∃ q cap cs fz, v = .slice (some ⟨q, 0, none⟩) l.length cap ∧ w.heap[q]? = some (.cells cs 3 fz) ∧ l.length ≤ cap ∧ ∀ k (h : k < l.length), cs[k]? = some (.int .i64 (l[k] : Nat))
theorem PlcAt.shape {w : World} {v : Value} {l : List Nat} (h : PlcAt w v l) : ∃ a c, v = .slice a l.length c := by
  rcases h with ⟨rfl, a, c, rfl⟩ | ⟨q, cap, cs, fz, rfl, _⟩
  · exact ⟨a, c, rfl⟩
  · exact ⟨_, _, rfl⟩
theorem PlcAt.keep {w w' : World} {v : Value} {l : List Nat} (h : PlcAt w v l) (hk : ∀ (k : Nat) (cs : Array Value) (fz : Nat × Nat), w.heap[k]? = some (.cells cs 3 fz) → w'.heap[k]? = some (.cells cs 3 fz)) : PlcAt w' v l := by
  rcases h with h | ⟨q, cap, cs, fz, rfl, h1, h2⟩
  · exact .inl h
  · exact .inr ⟨q, cap, cs, fz, rfl, hk _ _ _ h1, h2⟩
theorem PlcAt.row {w : World} {v : Value} {l : List Nat} (h : PlcAt w v l) {k : Nat} (hk : k < l.length) : ∃ q cap, v = .slice (some ⟨q, 0, none⟩) l.length cap ∧ q < w.heap.size ∧ l.length ≤ cap ∧ w.cell? ⟨q, k, none⟩ = some (.int .i64 (l[k] : Nat)) := by
  rcases h with ⟨rfl, _⟩ | ⟨q, cap, cs, fz, rfl, h1, h2, h3⟩
  · cases hk
  · exact ⟨q, cap, rfl, (Array.getElem?_eq_some_iff.1 h1).1, h2, by simp only [World.cell?, h1]; simpa using h3 k hk⟩

/-- One part's cells. -/
def encN (t : T) (v : Value) (x : Nat) : List Value := [.int .i64 t.kind, .string t.name, v, .int .i64 x]
def rowN (tr : Nat → T) (sl : Nat → Value) (nx : Nat → Nat) : Nat → List Value
  | 0 => []
  | n + 1 => rowN tr sl nx n ++ encN (tr n) (sl n) (nx n)
theorem rowN_len (tr : Nat → T) (sl : Nat → Value) (nx : Nat → Nat) : ∀ n, (rowN tr sl nx n).length = n * 4
  | 0 => rfl
  | n + 1 => by rw [rowN, List.length_append, rowN_len tr sl nx n]; simp [encN]; omega
theorem rowN_get (tr : Nat → T) (sl : Nat → Value) (nx : Nat → Nat) : ∀ (n i k : Nat), i < n → k < 4 → (rowN tr sl nx n)[i * 4 + k]? = (encN (tr i) (sl i) (nx i))[k]?
  | 0, _, _, h, _ => by omega
  | n + 1, i, k, h, hk => by
    rw [rowN]
    have hl := rowN_len tr sl nx n
    by_cases e : i = n
    · subst e
      rw [List.getElem?_append_right (by omega), hl]
      congr 1; omega
    · rw [List.getElem?_append_left (by omega)]
      exact rowN_get tr sl nx n i k (by omega) hk
theorem rowN_congr {tr tr' : Nat → T} {sl sl' : Nat → Value} {nx nx' : Nat → Nat} : ∀ {n : Nat}, (∀ i, i < n → tr i = tr' i ∧ sl i = sl' i ∧ nx i = nx' i) → rowN tr sl nx n = rowN tr' sl' nx' n
  | 0, _ => rfl
  | n + 1, h => by
    rw [rowN, rowN, rowN_congr fun i hi => h i (by omega)]
    obtain ⟨h1, h2, h3⟩ := h n (by omega)
    rw [h1, h2, h3]
/-- Part i goes on at part x. -/
def updN (nx : Nat → Nat) (i x : Nat) : Nat → Nat := fun j => if j = i then x else nx j
theorem rowN_upd (tr : Nat → T) (sl : Nat → Value) (nx : Nat → Nat) (i x : Nat) : ∀ n, i < n → rowN tr sl (updN nx i x) n = (rowN tr sl nx n).set (i * 4 + 3) (.int .i64 x)
  | 0, h => by omega
  | n + 1, h => by
    have hl := rowN_len tr sl nx n
    rw [rowN, rowN]
    by_cases e : i = n
    · subst e
      rw [List.set_append_right _ _ (by omega), hl, show i * 4 + 3 - i * 4 = 3 by omega, rowN_congr (tr' := tr) (sl' := sl) (nx' := nx) fun j hj => ⟨rfl, rfl, by simp [updN]; omega⟩]
      simp [encN, updN]
    · rw [List.set_append_left _ _ (by omega), rowN_upd tr sl nx i x n (by omega)]
      simp [updN, show n ≠ i from fun h => e h.symm]
/-- Each part's way ends at its root. -/
structure Way (G : Gr) (rt nx h : Nat → Nat) : Prop where
  lt : ∀ i, i < G.N → nx i < G.N
  fix : ∀ i, i < G.N → (nx i = i ↔ rt i = i)
  on : ∀ i, i < G.N → rt (nx i) = rt i
  down : ∀ i, i < G.N → nx i ≠ i → h (nx i) < h i
theorem Way.short {G : Gr} {rt nx h : Nat → Nat} (W : Way G rt nx h) {i : Nat} (hi : i < G.N) (hn : nx i ≠ i) : Way G rt (updN nx i (nx (nx i))) h := by
  have h1 := W.lt i hi
  have h2 := W.down i hi hn
  have h3 : h (nx (nx i)) < h i := by
    by_cases e : nx (nx i) = nx i
    · rw [e]; exact h2
    · exact Nat.lt_trans (W.down _ h1 e) h2
  refine ⟨fun j hj => ?_, fun j hj => ?_, fun j hj => ?_, fun j hj e => ?_⟩ <;> unfold updN at * <;> by_cases hji : j = i
  · rw [if_pos hji]; exact W.lt _ h1
  · rw [if_neg hji]; exact W.lt j hj
  · rw [if_pos hji]; subst hji
    constructor
    · intro e; rw [e] at h3; omega
    · intro e; exact absurd ((W.fix j hj).2 e) hn
  · rw [if_neg hji]; exact W.fix j hj
  · rw [if_pos hji]; subst hji; rw [W.on _ h1, W.on _ hj]
  · rw [if_neg hji]; exact W.on j hj
  · rw [if_pos hji] at *; subst hji; exact h3
  · rw [if_neg hji] at *; exact W.down j hj e
theorem Way.un {G : Gr} {rt nx h : Nat → Nat} (W : Way G rt nx h) {a b : Nat} (ha : a < G.N) (hb : b < G.N) (ra : rt a = a) (rb : rt b = b) (hne : a ≠ b) : Way G (un rt a b) (updN nx a b) (fun i => if rt i = a then h i + h b + 1 else h i) := by
  have hrb : rt b ≠ a := fun e => hne (e ▸ rb)
  refine ⟨fun j hj => ?_, fun j hj => ?_, fun j hj => ?_, fun j hj e => ?_⟩ <;> unfold updN at * <;> by_cases hja : j = a
  · rw [if_pos hja]; exact hb
  · rw [if_neg hja]; exact W.lt j hj
  · rw [if_pos hja]; subst hja
    rw [un_ren, ra, ren_at]
  · rw [if_neg hja, un_ren]
    by_cases e : rt j = a
    · rw [e, ren_at]
      constructor
      · intro k; exact absurd ((W.fix j hj).1 k ▸ e) hja
      · intro k; subst k; exact absurd e hrb
    · rw [ren_ne e]; exact W.fix j hj
  · rw [if_pos hja]; subst hja
    rw [un_ren, un_ren, ra, ren_at, rb, ren_ne (fun e => hne e.symm)]
  · rw [if_neg hja]; exact un_same _ _ (W.on j hj)
  · subst hja
    simp only [if_true, if_neg hrb, ra]
    omega
  · simp only [if_neg hja] at *
    rw [W.on j hj]
    have := W.down j hj e
    split <;> omega

/-- Block M is a map that tells each variable's place. -/
def MapV (M m : Nat) (f : ByteArray → Option Nat) (w : World) : Prop := ∃ D : DataW Unit, IsMap D ∧ w.ownsMap Tryd.prog 9 (plainElem Tryd.prog 3) M m D ∧
  ∀ n : ByteArray, n.size ≤ maxLen → Maps.has D (.string n.data.toList) = (f n).isSome ∧ D.atKey (.string n.data.toList) (.lit (.int .i64 0)) = .lit (.int .i64 ((f n).getD 0 : Nat))
theorem MapV.kept {M m : Nat} {f : ByteArray → Option Nat} {w w' : World} {row : Option Nat} (h : MapV M m f w) (hg : w.grownBy w' row) (hne : some M ≠ row) : MapV M m f w' := by
  obtain ⟨D, hD, h1, h2⟩ := h
  exact ⟨D, hD, h1.kept hg hne, h2⟩
theorem MapV.lt {M m : Nat} {f : ByteArray → Option Nat} {w : World} (h : MapV M m f w) : M < w.heap.size := by
  obtain ⟨_, _, h1, _⟩ := h; exact h1.lt
theorem MapV.look {M m : Nat} {f : ByteArray → Option Nat} {w : World} (h : MapV M m f w) (n : ByteArray) (hn : n.size ≤ maxLen) :
    (Instr.lookup 77 (.map (some M)) (.string n) true).run Tryd.prog w = .ok (.tuple #[.int .i64 ((f n).getD 0 : Nat), .bool (f n).isSome]) w := by
  obtain ⟨D, _, h1, h2⟩ := h
  obtain ⟨v, ps, hrun, hv⟩ := h1.look_ok strLaw Tryd.underlying77 (zeroInt w) (plainElem_int Tryd.underlying3 (by decide)) (Go.WideMaps.keyOf_string_mk Tryd.underlying9 hn)
  obtain ⟨c, rfl, hc, _⟩ := plainElem_int_inv Tryd.underlying3 hv
  have e : D.atKey (.string n.data.toList) (.lit (.int .i64 0)) = .lit (.int .i64 c) := congrArg Prod.fst hc
  rw [(h2 n hn).2] at e
  cases e
  rw [hrun, (h2 n hn).1]
theorem MapV.upd {M m : Nat} {f g : ByteArray → Option Nat} {w : World} (h : MapV M m f w) (hm : m < maxLen) (n : ByteArray) (hn : n.size ≤ maxLen) (x : Nat) (hx : x ≤ 4000000000000) (hg : ∀ k, g k = if k = n then some x else f k) :
    ∃ w', (Instr.mapUpdate 77 (.map (some M)) (.string n) (.int .i64 (x : Int))).run Tryd.prog w = .ok () w' ∧ MapV M (m + 1) g w' ∧ w.grownBy w' (some M) := by
  obtain ⟨D, hD, h1, h2⟩ := h
  obtain ⟨w', hrun, h3, h4⟩ := h1.update strLaw Tryd.underlying77 hm (Go.WideMaps.keyOf_string_mk Tryd.underlying9 hn) (plainElem_int Tryd.underlying3 (WalkArith.wf_i64 (n := (x : Int)) (by omega)))
  refine ⟨w', hrun, ⟨_, hD.put _ _, h3, fun k hk => ?_⟩, h4⟩
  rw [hg]
  by_cases e : k = n
  · subst e
    rw [atKey_put_same hD (by trivial), has_put_same hD (by trivial)]
    simp
  · have e2 : (Lit.string k.data.toList) ≠ .string n.data.toList := by
      intro e'
      apply e
      have : k.data.toList = n.data.toList := by injection e'
      cases k; cases n; simp_all
    rw [atKey_put_other e2, has_put_other e2, if_neg e]
    exact h2 k hk
theorem MapV.ne {M m k : Nat} {f : ByteArray → Option Nat} {w : World} {cs : Array Value} {T : TypeId} {fz : Nat × Nat} (h : MapV M m f w) (hk : w.heap[k]? = some (.cells cs T fz)) : M ≠ k := by
  rintro rfl
  obtain ⟨_, _, ⟨es, clock, hh, _⟩, _⟩ := h
  rw [hk] at hh; cases hh
/-- The places of the variables. -/
def PlV (G : Gr) (f : ByteArray → Option Nat) : Prop := ∀ n, (∀ i, f n = some i → i < G.N ∧ G.tr i = .var n) ∧ (f n = none → ∀ i, i < G.N → G.tr i ≠ .var n)

/-- The graph at block g: E: how many arguments all parts have; c: steps since the last look. -/
structure GM (B : Nat) (G : Gr) (rt : Nat → Nat) (E c g mb : Nat) (pv : Value) (sl : Nat → Value) (w : World) : Prop where
  bg : B ≤ g
  top : w.heap[g]? = some (.cells #[pv, .map (some mb), .int .i64 (E : Int), .int .i64 (c : Int)] 80 (0, 0))
  row : ∃ nx h, Way G rt nx h ∧ w.ownsRow B 102 4 pv G.N (rowN G.tr sl nx G.N) ∧ ∀ i, i < G.N → PlcAt w (sl i) (G.ag i)
  map : ∃ f, B ≤ mb ∧ MapV mb G.N f w ∧ PlV G f
theorem GM.keep {B : Nat} {G : Gr} {rt : Nat → Nat} {E c g mb : Nat} {pv : Value} {sl : Nat → Value} {w w' : World} (h : GM B G rt E c g mb pv sl w) (k : Below w.heap.size w w') : GM B G rt E c g mb pv sl w' := by
  obtain ⟨h1, h2, ⟨nx, hh, h3, h4, h5⟩, ⟨f, h6, h7, h8⟩⟩ := h
  have hk : ∀ (k : Nat) (o : Obj), w.heap[k]? = some o → w'.heap[k]? = some o := fun i o hi => (k.block i (Array.getElem?_eq_some_iff.1 hi).1).trans hi
  exact ⟨h1, hk _ _ h2, ⟨nx, hh, h3, row_kept h4 fun _ _ _ => hk _ _, fun i hi => (h5 i hi).keep fun _ _ _ => hk _ _⟩, ⟨f, h6, h7.kept (row := none) ⟨k.os, k.tape, k.output, k.size, fun i hi _ => k.block i hi⟩ (by simp), h8⟩⟩
/-- What is new may change. -/
theorem GM.low {B : Nat} {G : Gr} {rt rt0 : Nat → Nat} {E c c0 g mb : Nat} {pv : Value} {sl : Nat → Value} {w0 w w' : World} (h0 : GM B G rt0 E c0 g mb pv sl w0) (h : GM B G rt E c g mb pv sl w) (k : Below w0.heap.size w w') : GM B G rt E c g mb pv sl w' := by
  obtain ⟨_, t0, ⟨_, _, _, r0, s0⟩, ⟨_, _, m0, _⟩⟩ := h0
  obtain ⟨h1, h2, ⟨nx, hh, h3, h4, h5⟩, ⟨f, h6, h7, h8⟩⟩ := h
  refine ⟨h1, (k.block g (Array.getElem?_eq_some_iff.1 t0).1).trans h2, ⟨nx, hh, h3, ⟨h4.1, ?_⟩, fun i hi => ?_⟩, ⟨f, h6, ?_, h8⟩⟩
  · rcases h4.2 with e | ⟨q, cap, cur, rfl, hb, hq, r⟩
    · exact .inl e
    · exact .inr ⟨q, cap, cur, rfl, hb, (k.block q (r0.lt q rfl).2).trans hq, r⟩
  · rcases s0 i hi with ⟨e, a, c, ev⟩ | ⟨q, cap, cs, fz, ev, hq, _⟩
    · exact .inl ⟨e, a, c, ev⟩
    · rcases h5 i hi with ⟨e, _⟩ | ⟨q', cap', cs', fz', ev', hq', r⟩
      · exact .inl ⟨e, some ⟨q, 0, none⟩, cap, by rw [ev, e]; rfl⟩
      · rw [ev] at ev'
        cases ev'
        exact .inr ⟨q, cap, cs', fz', ev, (k.block q (Array.getElem?_eq_some_iff.1 hq).1).trans hq', r⟩
  · obtain ⟨D, hD, ⟨es, clock, hh, r⟩, h2⟩ := h7
    exact ⟨D, hD, ⟨es, clock, (k.block mb m0.lt).trans hh, r⟩, h2⟩
theorem GM.lt {B : Nat} {G : Gr} {rt : Nat → Nat} {E c g mb : Nat} {pv : Value} {sl : Nat → Value} {w : World} (h : GM B G rt E c g mb pv sl w) : g < w.heap.size := (Array.getElem?_eq_some_iff.1 h.top).1
theorem GM.top0 {B : Nat} {G : Gr} {rt : Nat → Nat} {E c g mb : Nat} {pv : Value} {sl : Nat → Value} {w : World} (h : GM B G rt E c g mb pv sl w) : w.cell? ⟨g, 0, none⟩ = some pv := by rw [Lib.cell_of_heap h.top]; rfl
/-- One part's cells, and where it goes on. -/
theorem GM.part {B : Nat} {G : Gr} {rt : Nat → Nat} {E c g mb p cap : Nat} {sl : Nat → Value} {w : World} (h : GM B G rt E c g mb (.slice (some ⟨p, 0, none⟩) G.N cap) sl w) {i : Nat} (hi : i < G.N) : p < w.heap.size ∧ G.N ≤ cap ∧ ∃ va ca, w.cell? ⟨p, i * 4, none⟩ = some (.int .i64 (G.tr i).kind) ∧ w.cell? ⟨p, i * 4 + 1, none⟩ = some (.string (G.tr i).name) ∧ w.cell? ⟨p, i * 4 + 2, none⟩ = some (.slice va (G.ag i).length ca) ∧ PlcAt w (.slice va (G.ag i).length ca) (G.ag i) := by
  obtain ⟨_, _, ⟨nx, hh, _, h4, h5⟩, _⟩ := h
  have hlt := h4.lt p rfl
  obtain ⟨va, ca, e⟩ := (h5 i hi).shape
  have hc := fun k (hk : k < 4) => (h4.cellAt (i * 4 + k) (by omega)).trans (rowN_get G.tr sl nx G.N i k hi hk)
  have hcap : G.N ≤ cap := by
    rcases h4.2 with ⟨e, _⟩ | ⟨_, _, _, e, _, _, h, _⟩
    · cases e
    · cases e; exact h
  exact ⟨hlt.2, hcap, va, ca, hc 0 (by omega), hc 1 (by omega), by rw [← e]; exact hc 2 (by omega), by rw [← e]; exact h5 i hi⟩
/-- A store into where a part goes on. -/
theorem GM.set {B : Nat} {G : Gr} {rt rt' h' : Nat → Nat} {E c g mb p cap : Nat} {w : World} {sl : Nat → Value} {nx : Nat → Nat} (h : GM B G rt E c g mb (.slice (some ⟨p, 0, none⟩) G.N cap) sl w) (hr : w.ownsRow B 102 4 (.slice (some ⟨p, 0, none⟩) G.N cap) G.N (rowN G.tr sl nx G.N)) (hs : ∀ i, i < G.N → PlcAt w (sl i) (G.ag i)) {i x : Nat} (hi : i < G.N) (hW : Way G rt' (updN nx i x) h') :
    GM B G rt' E c g mb (.slice (some ⟨p, 0, none⟩) G.N cap) sl (w.setCell ⟨p, i * 4 + 3, none⟩ (.int .i64 (x : Int))) ∧ Fr p w (w.setCell ⟨p, i * 4 + 3, none⟩ (.int .i64 (x : Int))) ∧
    (w.setCell ⟨p, i * 4 + 3, none⟩ (.int .i64 (x : Int))).ownsRow B 102 4 (.slice (some ⟨p, 0, none⟩) G.N cap) G.N (rowN G.tr sl (updN nx i x) G.N) ∧ ∀ j, j < G.N → PlcAt (w.setCell ⟨p, i * 4 + 3, none⟩ (.int .i64 (x : Int))) (sl j) (G.ag j) := by
  obtain ⟨h1, h2, _, ⟨f, h6, h7, h8⟩⟩ := h
  obtain ⟨st, sg⟩ := hr.stored (i * 4 + 3) (.int .i64 (x : Int))
  rw [← rowN_upd _ _ _ _ _ _ hi] at st
  have ho : ∀ k, k ≠ p → (w.setCell ⟨p, i * 4 + 3, none⟩ (.int .i64 (x : Int))).heap[k]? = w.heap[k]? := fun k hk => Below.heap_setCell _ ⟨p, i * 4 + 3, none⟩ _ k hk
  obtain ⟨cur, hp⟩ : ∃ cur, w.heap[p]? = some (.cells cur 102 (0, 0)) := by
    rcases hr.2 with ⟨e, _⟩ | ⟨_, _, cur, e, _, hb, _⟩
    · cases e
    · cases e; exact ⟨cur, hb⟩
  have hgp : g ≠ p := by rintro rfl; rw [h2] at hp; cases hp
  have hi' : ∀ j, j < G.N → PlcAt (w.setCell ⟨p, i * 4 + 3, none⟩ (.int .i64 (x : Int))) (sl j) (G.ag j) := fun j hj => (hs j hj).keep fun k cs fz hk => by
    refine (ho k ?_).trans hk
    rintro rfl; rw [hp] at hk; cases hk
  refine ⟨⟨h1, (ho g hgp).trans h2, ⟨_, h', hW, st, hi'⟩, ⟨f, h6, h7.kept sg ?_, h8⟩⟩, ⟨(Below.refl 0 w).setCell (p := ⟨p, i * 4 + 3, none⟩) (Nat.zero_le _) _, fun k _ hk => ho k hk⟩, st, hi'⟩
  intro e
  cases e
  exact h7.ne hp rfl
end Go.Proofs.YthpphjkoiipkkaaDoor
/- The program's graph: root, isVar. -/
namespace Go.Proofs.YthpphjkoiipkkaaDoor
open Go.RowKit Go.Maps
attribute [local go_sem] Oper.semAt_some

theorem GM.drew {B : Nat} {G : Gr} {rt : Nat → Nat} {E c g mb : Nat} {pv : Value} {sl : Nat → Value} {w : World} (h : GM B G rt E c g mb pv sl w) : GM B G rt E c g mb pv sl w.drew := h.keep (Below.refl _ w).drew
theorem Fr.drew {p : Nat} {w v : World} (h : Fr p w v) : Fr p w v.drew := ⟨h.1.drew, h.2⟩
abbrev gp (g : Nat) : Value := .pointer (some ⟨g, 0, none⟩)
set_option maxHeartbeats 1000000 in
theorem isVar_any {B : Nat} {G : Gr} {rt : Nat → Nat} {E c g mb p cap i : Nat} {sl : Nat → Value} {w : World} (h : GM B G rt E c g mb (.slice (some ⟨p, 0, none⟩) G.N cap) sl w) (hi : i < G.N) :
    Calls Tryd.prog 47 #[gp g, .int .i64 (i : Int)] w fun e w' => e = .returned (.bool (G.tr i).isV) ∧ w' = w := by
  have hv : ((G.tr i).kind == 1) = (G.tr i).isV := by cases G.tr i <;> rfl
  obtain ⟨hlt, hcap, va, ca, x0, x1, x2, _⟩ := h.part hi
  have y0 := h.top0
  have hg := h.lt
  have hiz : (i : Int) < (G.N : Int) := by omega
  generalize G.N = N at *
  clear h
  go_enter Tryd.func47, Tryd.ntmps47
  go_wp2
  go_ret
  refine ⟨?_, rfl⟩
  rw [← hv]
  congr 2
theorem cell3 {B p cap : Nat} {G : Gr} {w : World} {sl : Nat → Value} {nx : Nat → Nat} (h : w.ownsRow B 102 4 (.slice (some ⟨p, 0, none⟩) G.N cap) G.N (rowN G.tr sl nx G.N)) {i : Nat} (hi : i < G.N) : w.cell? ⟨p, i * 4 + 3, none⟩ = some (.int .i64 (nx i : Int)) :=
  (h.cellAt (i * 4 + 3) (by omega)).trans (rowN_get G.tr sl nx G.N i 3 hi (by omega))
set_option maxHeartbeats 1000000 in
theorem root_any {B : Nat} {G : Gr} {rt : Nat → Nat} {E c g mb p cap i : Nat} {sl : Nat → Value} {w : World} (h : GM B G rt E c g mb (.slice (some ⟨p, 0, none⟩) G.N cap) sl w) (hi : i < G.N) :
    Calls Tryd.prog 46 #[gp g, .int .i64 (i : Int)] w fun e w' => e = .returned (.int .i64 (rt i : Nat)) ∧ GM B G rt E c g mb (.slice (some ⟨p, 0, none⟩) G.N cap) sl w' ∧ Fr p w w' := by
  have H0 := Lib.hid h
  obtain ⟨_, _, ⟨nx0, hh, W0, r0, s0⟩, _⟩ := h
  have HR0 := Lib.hid (⟨W0, r0, s0⟩ : Way G rt nx0 hh ∧ w.ownsRow B 102 4 (.slice (some ⟨p, 0, none⟩) G.N cap) G.N (rowN G.tr sl nx0 G.N) ∧ ∀ i, i < G.N → PlcAt w (sl i) (G.ag i))
  clear W0 r0 s0
  go_enter Tryd.func46, Tryd.ntmps46
  go_wp2
  go_loopw [1] (fun vi wr => ∃ j nx, j < G.N ∧ rt j = rt i ∧ vi = .int .i64 (j : Nat) ∧ Hid (GM B G rt E c g mb (.slice (some ⟨p, 0, none⟩) G.N cap) sl wr ∧ Fr p w wr) ∧ Hid (Way G rt nx hh ∧ wr.ownsRow B 102 4 (.slice (some ⟨p, 0, none⟩) G.N cap) G.N (rowN G.tr sl nx G.N) ∧ ∀ i, i < G.N → PlcAt wr (sl i) (G.ag i))) (fun vi _ => hh (intOf vi).toNat)
  case atStart => exact ⟨i, nx0, hi, rfl, rfl, Lib.hid ⟨H0.out, Fr.refl _ _⟩, HR0⟩
  case round =>
    obtain ⟨j, nx, hj, hr, rfl, hM, hX⟩ := hrel
    obtain ⟨hGM, hFr⟩ := hM.out
    obtain ⟨hW, hrow, hsl⟩ := hX.out
    have hj2 := hW.lt j hj
    have n3 := cell3 hrow hj
    have m3 := cell3 hrow hj2
    obtain ⟨hlt, hcap, _⟩ := hGM.part hj
    have y0 := hGM.top0
    have hg := hGM.lt
    have fz := hrow.frozenAt (j * 4 + 3)
    have hjz : (j : Int) < (G.N : Int) := by omega
    have hjz2 : (nx j : Int) < (G.N : Int) := by omega
    by_cases e : nx j = j
    · have hez : (((nx j : Nat) : Int) != (j : Int)) = false := by rw [e]; simp
      have HE := Lib.hid ((hW.fix j hj).1 e)
      clear hX hW hrow hsl hM HR0 e
      go_wp2
      go_ret
      exact ⟨by rw [← hr, HE.out]; rfl, hGM, hFr⟩
    · have hez : (((nx j : Nat) : Int) != (j : Int)) = true := by simp; omega
      have hW' := hW.short hj e
      obtain ⟨s1, s2, s3, s4⟩ := hGM.set hrow hsl hj hW'
      have t3 := cell3 s3 hj
      have tm : updN nx j (nx (nx j)) j = nx (nx j) := by simp [updN]
      rw [tm] at t3
      have y0' := s1.top0
      have HS := Lib.hid (⟨⟨s1, hFr.trans s2⟩, hW', s3, s4⟩ : (GM B G rt E c g mb (.slice (some ⟨p, 0, none⟩) G.N cap) sl (wr.setCell ⟨p, j * 4 + 3, none⟩ (.int .i64 (nx (nx j) : Int))) ∧ Fr p w (wr.setCell ⟨p, j * 4 + 3, none⟩ (.int .i64 (nx (nx j) : Int)))) ∧ Way G rt (updN nx j (nx (nx j))) hh ∧ (wr.setCell ⟨p, j * 4 + 3, none⟩ (.int .i64 (nx (nx j) : Int))).ownsRow B 102 4 (.slice (some ⟨p, 0, none⟩) G.N cap) G.N (rowN G.tr sl (updN nx j (nx (nx j))) G.N) ∧ ∀ i, i < G.N → PlcAt (wr.setCell ⟨p, j * 4 + 3, none⟩ (.int .i64 (nx (nx j) : Int))) (sl i) (G.ag i))
      have HL := Lib.hid (⟨hW.lt _ hj2, by rw [hW.on _ hj2, hW.on _ hj, hr], by have h1 := hW'.down j hj; rw [tm] at h1; exact h1⟩ : nx (nx j) < G.N ∧ rt (nx (nx j)) = rt i ∧ (nx (nx j) ≠ j → hh (nx (nx j)) < hh j))
      have HN := Lib.hid (show nx (nx j) ≠ j from fun k => by
        have h1 := hW.down j hj e
        by_cases k2 : nx (nx j) = nx j
        · exact e (k2.symm.trans k)
        · have h2 := hW.down _ hj2 k2
          rw [k] at h2; omega)
      clear s1 s2 s3 s4 hW' tm hX hW hrow hsl hM HR0 hGM hFr
      go_wp2
      go_region
      go_wp2
      go_roundw
      case rel => exact ⟨nx (nx j), updN nx j (nx (nx j)), HL.out.1, HL.out.2.1, rfl, Lib.hid ⟨HS.out.1.1.drew, HS.out.1.2.drew⟩, Lib.hid ⟨HS.out.2.1, HS.out.2.2.1.drew, fun i hi => (HS.out.2.2.2 i hi).keep fun _ _ _ h => h⟩⟩
      case measure =>
        have := HL.out.2.2 HN.out
        simpa [intOf] using this
end Go.Proofs.YthpphjkoiipkkaaDoor
/- The program's graph: steps on a stack; pushArgs. -/
namespace Go.Proofs.YthpphjkoiipkkaaDoor
open Go.RowKit Go.Maps
attribute [local go_sem] Oper.semAt_some

def encS (s : Stp) : List Value := [.int .i64 (s.a : Int), .int .i64 (s.b : Int), .bool s.j]
def rowS (l : List Stp) : List Value := l.flatMap encS
theorem rowS_snoc (l : List Stp) (s : Stp) : rowS (l ++ [s]) = rowS l ++ encS s := by simp [rowS]
theorem rowS_len : ∀ l : List Stp, (rowS l).length = l.length * 3
  | [] => rfl
  | s :: l => by
    have := rowS_len l
    unfold rowS at this ⊢
    rw [List.flatMap_cons, List.length_append, this]; simp [encS]; omega
theorem Tryd.infoStep : (Tryd.prog.info? 98).map (fun i => (i.zero, i.size, i.bytes)) = some (some (.agg #[.int .i64 0, .int .i64 0, .bool false]), 3, 24) := by kernel_rfl
/-- Steps in memory, the next one last. -/
def StkAt (B : Nat) (v : Value) (ws : List Stp) (w : World) : Prop := w.ownsRow B 98 3 v ws.length (rowS ws.reverse)
theorem StkAt.keep {B : Nat} {v : Value} {ws : List Stp} {w w' : World} (h : StkAt B v ws w) (hk : Below w.heap.size w w') : StkAt B v ws w' := row_kept h fun k _ _ hh => (hk.block k (Array.getElem?_eq_some_iff.1 hh).1).trans hh
theorem StkAt.frP {B p : Nat} {v : Value} {ws : List Stp} {w w' : World} {cs : Array Value} {fz : Nat × Nat} {T : TypeId} (h : StkAt B v ws w) (hp : w.heap[p]? = some (.cells cs T fz)) (hT : T ≠ 98) (hk : Fr p w w') : StkAt B v ws w' := row_kept h fun k _ _ hh => (hk.2 k (Array.getElem?_eq_some_iff.1 hh).1 (by rintro rfl; rw [hp] at hh; cases hh; exact hT rfl)).trans hh
/-- All but the steps stays. -/
def KeepS (w w' : World) : Prop := ∀ (k : Nat) (o : Obj), w.heap[k]? = some o → (∀ cs fz, o ≠ .cells cs 98 fz) → w'.heap[k]? = some o
theorem KeepS.trans {a b c : World} (h : KeepS a b) (k : KeepS b c) : KeepS a c := fun i o hi ho => k i o (h i o hi ho) ho
theorem KeepS.of_below {w w' : World} (h : Below w.heap.size w w') : KeepS w w' := fun k _ hk _ => (h.block k (Array.getElem?_eq_some_iff.1 hk).1).trans hk
theorem GM.keepS {B : Nat} {G : Gr} {rt : Nat → Nat} {E c g mb : Nat} {pv : Value} {sl : Nat → Value} {w w' : World} (h : GM B G rt E c g mb pv sl w) (k : KeepS w w') (_ : Below 0 w w') : GM B G rt E c g mb pv sl w' := by
  obtain ⟨h1, h2, ⟨nx, hh, h3, h4, h5⟩, ⟨f, h6, h7, h8⟩⟩ := h
  refine ⟨h1, k _ _ h2 (by simp), ⟨nx, hh, h3, row_kept h4 fun _ _ _ hk => k _ _ hk (by simp), fun i hi => (h5 i hi).keep fun _ _ _ hk => k _ _ hk (by simp)⟩, ⟨f, h6, ?_, h8⟩⟩
  obtain ⟨D, hD, ⟨es, clock, hh, r⟩, h2⟩ := h7
  exact ⟨D, hD, ⟨es, clock, k _ _ hh (by simp), r⟩, h2⟩
theorem new_step (w : World) (s : Stp) : ∀ j u, (encS s)[j]? = some u → (w.alloc (.cells #[.int .i64 (s.a : Int), .int .i64 (s.b : Int), .bool s.j] 98)).cell? ((⟨w.heap.size, 0, none⟩ : Addr).add j) = some u := by
  intro j u hu
  have hadd : (⟨w.heap.size, 0, none⟩ : Addr).add j = ⟨w.heap.size, j, none⟩ := by unfold Addr.add; split <;> simp_all
  rw [hadd]
  have := alloc_new w (.cells #[.int .i64 (s.a : Int), .int .i64 (s.b : Int), .bool s.j] 98)
  simp only [World.cell?, this]
  match j, hu with
  | 0, hu => simpa [encS] using hu
  | 1, hu => simpa [encS] using hu
  | 2, hu => simpa [encS] using hu
  | n + 3, hu => simp [encS] at hu
/-- One step more. -/
theorem StkAt.push {B : Nat} {v : Value} {ws : List Stp} {w w1 : World} {s : Stp} {g' cap' : Nat} (h : StkAt B v ws w) (hB : B ≤ w.heap.size)
    (ho : w1.ownsRow B 98 3 (.slice (some ⟨g', 0, none⟩) (ws.length + 1) cap') (ws.length + 1) (rowS ws.reverse ++ encS s)) (hg : w.grownBy w1 v.ownBlock) :
    StkAt B (.slice (some ⟨g', 0, none⟩) (ws.length + 1) cap') (s :: ws) w1 ∧ KeepS w w1 ∧ Below B w w1 := by
  refine ⟨by unfold StkAt; rw [List.reverse_cons, rowS_snoc]; exact ho, fun k o hk hT => ?_, ⟨hg.os, hg.tape, hg.output, hg.size, fun k hk => hg.block k (by omega) fun e => by have := (h.lt k e.symm).1; omega⟩⟩
  refine (hg.block k (Array.getElem?_eq_some_iff.1 hk).1 fun e => ?_).trans hk
  rcases h.2 with ⟨rfl, _⟩ | ⟨g, cap, cur, rfl, _, hgb, _⟩
  · cases e
  · obtain rfl : k = g := by simpa [Value.ownBlock] using e
    rw [hk] at hgb
    cases hgb
    exact hT _ _ rfl
theorem drop_pairs {l m : List Nat} {k : Nat} (h1 : k < l.length) (h2 : k < m.length) (ws : List Stp) : pairsU (l.drop k) (m.drop k) ++ ws = ⟨l[k], m[k], false⟩ :: (pairsU (l.drop (k + 1)) (m.drop (k + 1)) ++ ws) := by
  rw [List.drop_eq_getElem_cons h1, List.drop_eq_getElem_cons h2, pairsU]; rfl
set_option maxRecDepth 100000 in
set_option maxHeartbeats 4000000 in
theorem push_any {B Bs : Nat} {G : Gr} {rt : Nat → Nat} {E c g mb p cap a b : Nat} {sl : Nat → Value} {v : Value} {ws : List Stp} {w : World} (h : GM B G rt E c g mb (.slice (some ⟨p, 0, none⟩) G.N cap) sl w) (ha : a < G.N) (hb : b < G.N) (hl : (G.ag a).length = (G.ag b).length) (hs : StkAt Bs v ws w) (hBs : Bs ≤ w.heap.size) (hM : ws.length + (G.ag a).length < 5000000000000) :
    Calls Tryd.prog 49 #[gp g, v, .int .i64 (a : Int), .int .i64 (b : Int)] w fun e w' => ∃ v', e = .returned v' ∧ StkAt Bs v' (pairsU (G.ag a) (G.ag b) ++ ⟨a, b, true⟩ :: ws) w' ∧ KeepS w w' ∧ Below Bs w w' := by
  obtain ⟨sa, sc, rfl⟩ := row_slice hs
  obtain ⟨i0, hi, hz0, hz1, hz2⟩ := info_parts Tryd.infoStep
  have hlit := alloc_new w (.cells #[.int .i64 (a : Int), .int .i64 (b : Int), .bool true] 98)
  have hba := (Below.refl _ w).alloc (Nat.le_refl _) (.cells #[.int .i64 (a : Int), .int .i64 (b : Int), .bool true] 98)
  obtain ⟨g1, cap1, w1, hr1, hown1, hgr1, hat1, hlt1⟩ := run_append_lies (P := Tryd.prog) (w.alloc (.cells #[.int .i64 (a : Int), .int .i64 (b : Int), .bool true] 98)) 99 99 Bs 98 i0 (.agg #[.int .i64 0, .int .i64 0, .bool false]) 3 24 Tryd.underlying99 hi hz0 hz1 hz2 rfl (by decide) _ ws.length (rowS ws.reverse) (hs.keep hba) ⟨w.heap.size, 0, none⟩ 1 1 (encS ⟨a, b, true⟩) rfl (new_step w ⟨a, b, true⟩) (by simp [encS, Value.oneCell']) (by decide) (by unfold maxLen; omega) (by omega) (by simp; omega) _ rfl
  obtain ⟨k1, k2, k3⟩ := (hs.keep hba).push (by simp; omega) hown1 hgr1
  have hM1 := (h.keep hba).keepS k2 (k3.mono (Nat.zero_le _))
  have HK1 := Lib.hid (⟨k1, (KeepS.of_below hba).trans k2, (hba.mono hBs).trans k3⟩ : _ ∧ KeepS w w1 ∧ Below Bs w w1)
  have HM1 := Lib.hid hM1
  have HR1 := Lib.hid hr1
  clear hr1
  obtain ⟨hlt, hcap, va, ca, x0, x1, x2, hIa⟩ := hM1.part ha
  obtain ⟨_, _, vb, cb, z0, z1, z2, hIb⟩ := hM1.part hb
  have y0 := hM1.top0
  have hg := hM1.lt
  have haz : (a : Int) < (G.N : Int) := by omega
  have hbz : (b : Int) < (G.N : Int) := by omega
  have HIa := Lib.hid hIa; have HIb := Lib.hid hIb
  have HL := Lib.hid hl
  have HW := Lib.hid (hba.size)
  clear hM1 hown1 hgr1 k1 k2 k3 h hs hba hlit hIa hIb hat1
  generalize G.ag a = l at *
  generalize G.ag b = m at *
  go_enter Tryd.func49, Tryd.ntmps49
  go_wp2_with (at_builtin; refine Lib.wpList_append_run_sl _ rfl _ _ 99 rfl _ _ rfl rfl HR1.out ?_)
  go_region
  go_wp2
  go_loopw [1, 11] (fun vw vi wr => ∃ (k : Nat) (ga : Option Addr) (gn gc : Nat), k ≤ l.length ∧ vi = .int .i64 ((k : Int) - 1) ∧ gn = (pairsU (l.drop k) (m.drop k) ++ ⟨a, b, true⟩ :: ws).length ∧ vw = .slice ga gn gc ∧ Hid (StkAt Bs (.slice ga gn gc) (pairsU (l.drop k) (m.drop k) ++ ⟨a, b, true⟩ :: ws) wr ∧ KeepS w1 wr ∧ Below Bs w wr)) (fun _ vi _ => (intOf vi + 1).toNat)
  case atStart =>
    have e : pairsU (l.drop l.length) (m.drop l.length) = [] := by rw [List.drop_length]; rfl
    refine ⟨l.length, some ⟨g1, 0, none⟩, ws.length + 1, cap1, Nat.le_refl _, by go_num, by rw [e]; simp, rfl, Lib.hid ⟨?_, fun k o h _ => h, HK1.out.2.2.drew⟩⟩
    rw [e]; exact HK1.out.1.keep (Below.refl _ _).drew
  case round =>
    obtain ⟨k, ga, gn, gc, hk, rfl, hgn, rfl, hX⟩ := hrel
    cases k with
    | zero =>
      go_wp2
      go_ret
      exact ⟨_, rfl, by simpa using hX.out.1, HK1.out.2.1.trans hX.out.2.1, hX.out.2.2⟩
    | succ k =>
      obtain ⟨hS, hK, hB⟩ := hX.out
      have hk1 : k < l.length := by omega
      have hk2 : k < m.length := by omega
      obtain ⟨qa, ua, e1, lqa, hca, xa⟩ := (HIa.out.keep fun _ _ _ h => hK _ _ h (by simp)).row hk1
      obtain ⟨qb, ub, e2, lqb, hcb, xb⟩ := (HIb.out.keep fun _ _ _ h => hK _ _ h (by simp)).row hk2
      cases e1; cases e2
      have hlen : gn ≤ l.length + ws.length + 1 := by
        rw [hgn, List.length_append, pairsU_len (by simp; omega)]; simp; omega
      have hkz : (k : Int) < (l.length : Int) := by omega
      have hkz2 : (k : Int) < (m.length : Int) := by omega
      have hk3 : (((k + 1 : Nat) : Int) - 1) = (k : Int) := by omega
      rw [hk3]
      have hge : (0 : Int) ≤ (k : Int) := by omega
      have HD := Lib.hid (drop_pairs hk1 hk2 (⟨a, b, true⟩ :: ws))
      generalize hla : l[k] = la at *
      generalize hlb : m[k] = lb at *
      have hbb := (Below.refl _ wr).drew.alloc (Nat.le_refl _) (.cells #[.int .i64 (la : Int), .int .i64 (lb : Int), .bool false] 98)
      have HO := Lib.hid (hS.keep hbb)
      have hBsz := hB.size
      have HW2 := Lib.hid (⟨hK, hB, hbb⟩ : KeepS w1 wr ∧ Below Bs w wr ∧ Below wr.heap.size wr _)
      clear hS hK hB hX hbb HR1
      subst hgn
      generalize pairsU (l.drop (k + 1)) (m.drop (k + 1)) ++ ⟨a, b, true⟩ :: ws = st at *
      go_wp2
      go_region_law ((refine step_append_lies _ (by rfl) _ _ 99 (by rfl) Bs 98 i0 (.agg #[.int .i64 0, .int .i64 0, .bool false]) 3 24 Tryd.underlying99 hi hz0 hz1 hz2 rfl (by decide) _ st.length (rowS st.reverse) (by rfl) HO.out ⟨wr.heap.size, 0, none⟩ 1 1 (encS ⟨la, lb, false⟩) (by rfl) rfl (new_step _ ⟨la, lb, false⟩) (by simp [encS, Value.oneCell']) (by decide) (by unfold maxLen; omega) (by omega) (by simp; omega) (wr.heap.size + 1) (by simp) ?_; intro g' cap' w2 hown2 hgr2 hat2 hlt2; have HP := Lib.hid (HO.out.push (by simp; omega) hown2 hgr2)))
      all_goals
        go_wp2
        go_roundw
        case rel =>
          refine ⟨k, _, _, _, by omega, by go_num, ?_, rfl, Lib.hid ?_⟩
          · rw [HD.out]; rfl
          · obtain ⟨p1, p2, p3⟩ := HP.out
            obtain ⟨q1, q2, q3⟩ := HW2.out
            rw [HD.out]
            exact ⟨p1, (q1.trans (KeepS.of_below q3)).trans p2, q2.trans ((q3.mono (by omega)).trans p3)⟩
        case measure => simp [intOf]
end Go.Proofs.YthpphjkoiipkkaaDoor
/- The program's graph: rows of numbers that a call makes. -/
namespace Go.Proofs.YthpphjkoiipkkaaDoor
open Go.RowKit Go.Maps
attribute [local go_sem] Oper.semAt_some

theorem Tryd.infoInt0 : (Tryd.prog.info? 3).map (fun i => (i.zero, i.size, i.bytes)) = some (some (.int .i64 0), 1, 8) := by kernel_rfl
def intsV (l : List Nat) : List Value := l.map fun i : Nat => .int .i64 (i : Int)
/-- A row of numbers of the call's own, in blocks from B on. -/
def OwnI (B : Nat) (v : Value) (l : List Nat) (w : World) : Prop := w.ownsRow B 3 1 v l.length (intsV l)
theorem OwnI.keep {B : Nat} {v : Value} {l : List Nat} {w w' : World} (h : OwnI B v l w) (hk : ∀ k, B ≤ k → k < w.heap.size → (∃ cs fz, w.heap[k]? = some (.cells cs 3 fz)) → w'.heap[k]? = w.heap[k]?) : OwnI B v l w' := by
  refine ⟨h.1, ?_⟩
  rcases h.2 with e | ⟨q, cap, cur, rfl, hb, hq, r⟩
  · exact .inl e
  · exact .inr ⟨q, cap, cur, rfl, hb, (hk q hb (Array.getElem?_eq_some_iff.1 hq).1 ⟨_, _, hq⟩).trans hq, r⟩
theorem OwnI.keepAt {B : Nat} {v : Value} {l : List Nat} {w w' : World} (h : OwnI B v l w) (hk : ∀ k, v.ownBlock = some k → w'.heap[k]? = w.heap[k]?) : OwnI B v l w' := by
  refine ⟨h.1, ?_⟩
  rcases h.2 with e | ⟨q, cap, cur, rfl, hb, hq, r⟩
  · exact .inl e
  · exact .inr ⟨q, cap, cur, rfl, hb, (hk q rfl).trans hq, r⟩
theorem OwnI.below {B : Nat} {v : Value} {l : List Nat} {w w' : World} (h : OwnI B v l w) (hk : Below w.heap.size w w') : OwnI B v l w' := h.keep fun k _ hlt _ => hk.block k hlt
theorem OwnI.alloc {B : Nat} {v : Value} {l : List Nat} {w : World} (h : OwnI B v l w) (o : Obj) : OwnI B v l (w.alloc o) := h.below ((Below.refl _ w).alloc (Nat.le_refl _) o)
theorem OwnI.fr {B p : Nat} {v : Value} {l : List Nat} {w w' : World} {cs : Array Value} {fz : Nat × Nat} {T : TypeId} (h : OwnI B v l w) (hp : w.heap[p]? = some (.cells cs T fz)) (hT : T ≠ 3) (hk : Fr p w w') : OwnI B v l w' := h.keep fun k _ hlt ⟨_, _, hc⟩ => hk.2 k hlt (by rintro rfl; rw [hp] at hc; cases hc; exact hT rfl)
/-- A row that grew. -/
theorem OwnI.grown {B : Nat} {v v' : Value} {l : List Nat} {w w' : World} (h : OwnI B v l w) (hg : w.grownBy w' v'.ownBlock) (hne : ∀ k, v.ownBlock = some k → v'.ownBlock ≠ some k) : OwnI B v l w' := by
  refine ⟨h.1, ?_⟩
  rcases h.2 with e | ⟨q, cap, cur, rfl, hb, hq, r⟩
  · exact .inl e
  · exact .inr ⟨q, cap, cur, rfl, hb, (hg.block q (Array.getElem?_eq_some_iff.1 hq).1 fun e => hne q rfl e.symm).trans hq, r⟩
theorem OwnI.shape {B : Nat} {v : Value} {l : List Nat} {w : World} (h : OwnI B v l w) : ∃ a c, v = .slice a l.length c := row_slice h
theorem OwnI.get {B q cap : Nat} {l : List Nat} {w : World} (h : OwnI B (.slice (some ⟨q, 0, none⟩) l.length cap) l w) {i : Nat} (hi : i < l.length) : w.cell? ⟨q, i, none⟩ = some (.int .i64 (l.getD i 0 : Nat)) := by
  rw [World.ownsRow.cellAt h i (by omega)]
  simp [intsV, List.getD, hi]
theorem OwnI.at {B : Nat} {v : Value} {l : List Nat} {w : World} (h : OwnI B v l w) {i : Nat} (hi : i < l.length) : ∃ q cap, v = .slice (some ⟨q, 0, none⟩) l.length cap ∧ q < w.heap.size ∧ B ≤ q ∧ l.length ≤ cap ∧ w.cell? ⟨q, i, none⟩ = some (.int .i64 (l.getD i 0 : Nat)) := by
  rcases h.2 with ⟨_, e⟩ | ⟨q, cap, cur, rfl, hb, hq, hc, _⟩
  · omega
  · exact ⟨q, cap, rfl, (Array.getElem?_eq_some_iff.1 hq).1, hb, hc, OwnI.get h hi⟩
theorem OwnI.plcAt {B : Nat} {v : Value} {l : List Nat} {w : World} (h : OwnI B v l w) : PlcAt w v l := by
  rcases h.2 with ⟨rfl, e⟩ | ⟨q, cap, cur, rfl, hb, hq, hc, _, _, ht⟩
  · exact .inl ⟨List.length_eq_zero_iff.1 e, none, 0, by rfl⟩
  · refine .inr ⟨q, cap, cur, _, rfl, hq, hc, fun k hk => ?_⟩
    have : (intsV l)[k]? = some (.int .i64 (l[k] : Nat)) := by simp [intsV, hk]
    rw [← ht, List.getElem?_take, if_pos (by omega)] at this
    simpa using this
theorem intsV_set (W : Nat → Nat) (n r x : Nat) (hr : r < n) : (intsV ((List.range n).map W)).set r (.int .i64 (x : Int)) = intsV ((List.range n).map fun i => if i = r then x else W i) := by
  refine List.ext_getElem? fun k => ?_
  simp only [intsV, List.map_map]
  by_cases e : r = k
  · subst e
    simp [hr]
  · rw [List.getElem?_set_ne e]
    by_cases hk : k < n
    · simp [hk, show ¬ k = r from fun h => e h.symm]
    · simp [hk]
/-- A count turned. -/
theorem OwnI.set {B q cap n r x : Nat} {W : Nat → Nat} {w : World} (h : OwnI B (.slice (some ⟨q, 0, none⟩) n cap) ((List.range n).map W) w) (hr : r < n) : OwnI B (.slice (some ⟨q, 0, none⟩) n cap) ((List.range n).map fun i => if i = r then x else W i) (w.setCell ⟨q, r, none⟩ (.int .i64 (x : Int))) := by
  have hl : ((List.range n).map W).length = n := by simp
  unfold OwnI at h ⊢
  rw [hl] at h
  have := (h.stored r (.int .i64 (x : Int))).1
  rw [intsV_set W n r x hr] at this
  simpa using this
theorem OwnI.push {B : Nat} {v' : Value} {l : List Nat} {x : Nat} {w' : World} (h : w'.ownsRow B 3 1 v' (l.length + 1) (intsV l ++ [.int .i64 (x : Int)])) : OwnI B v' (l ++ [x]) w' := by
  unfold OwnI
  rw [List.length_append]
  have : intsV (l ++ [x]) = intsV l ++ [.int .i64 (x : Int)] := by simp [intsV]
  rw [this]; exact h
theorem make_ints (l n : Nat) (hl : l ≤ n) (hn : n ≤ 1000000000) (w : World) :
    (Instr.makeSlice 22 (.int .i64 (l : Int)) (.int .i64 (n : Int))).run Tryd.prog w = .ok (.slice (some ⟨w.heap.size, 0, none⟩) l n) (w.alloc (.cells (madeCells #[.int .i64 0] n) 3)) := by
  obtain ⟨i, hi, hzz⟩ := Option.map_eq_some_iff.1 Tryd.infoInt0
  simp only [Prod.mk.injEq] at hzz
  obtain ⟨hz, hs, hb⟩ := hzz
  have hr := run_make (P := Tryd.prog) w 22 3 i _ Tryd.underlying22 hi hz .i64 .i64 l n (by omega) (by omega) (by rw [hb]; omega) (by omega)
  simp only [Int.toNat_natCast, hs, Nat.mul_one] at hr
  exact hr
theorem own_zeros (w : World) (n : Nat) (hn : n ≤ 1000000000) : OwnI w.heap.size (.slice (some ⟨w.heap.size, 0, none⟩) n n) ((List.range n).map fun _ => 0) (w.alloc (.cells (madeCells #[.int .i64 0] n) 3)) := by
  have := World.ownsRow_lit (base := w.heap.size) (size := 1) (e := 3) w (madeCells #[.int .i64 0] n) n (Nat.le_refl _) (by unfold maxLen; omega) (by simp [size_madeCells])
  unfold OwnI
  have e : intsV ((List.range n).map fun _ => 0) = (madeCells #[.int .i64 0] n).toList := by
    rw [toList_madeCells_one]
    refine List.ext_getElem (by simp [intsV]) fun k _ _ => by simp [intsV]
  rw [e]; simpa using this
theorem own_none (w : World) (n : Nat) (hn : n ≤ 1000000000) : OwnI w.heap.size (.slice (some ⟨w.heap.size, 0, none⟩) 0 n) [] (w.alloc (.cells (madeCells #[.int .i64 0] n) 3)) :=
  World.ownsRow_made (size := 1) (e := 3) w _ n (Nat.le_refl _) (by unfold maxLen; omega) (by simp [size_madeCells])
theorem GM.blk {B : Nat} {G : Gr} {rt : Nat → Nat} {E c g mb p cap : Nat} {sl : Nat → Value} {w : World} (h : GM B G rt E c g mb (.slice (some ⟨p, 0, none⟩) G.N cap) sl w) : ∃ cur, w.heap[p]? = some (.cells cur 102 (0, 0)) := by
  obtain ⟨_, _, ⟨_, _, _, r, _⟩, _⟩ := h
  rcases r.2 with ⟨e, _⟩ | ⟨_, _, cur, e, _, hb, _⟩
  · cases e
  · cases e; exact ⟨cur, hb⟩
theorem OwnI.frG {B : Nat} {G : Gr} {rt : Nat → Nat} {E c g mb p cap B' : Nat} {sl : Nat → Value} {v : Value} {l : List Nat} {w w' : World} (hM : GM B G rt E c g mb (.slice (some ⟨p, 0, none⟩) G.N cap) sl w) (h : OwnI B' v l w) (k : Fr p w w') : OwnI B' v l w' := by
  obtain ⟨cur, hc⟩ := hM.blk
  exact h.fr hc (by decide) k
/-- The row of a part's arguments. -/
theorem GM.args {B : Nat} {G : Gr} {rt : Nat → Nat} {E c g mb p cap : Nat} {sl : Nat → Value} {w : World} (h : GM B G rt E c g mb (.slice (some ⟨p, 0, none⟩) G.N cap) sl w) {i : Nat} (hi : i < G.N) : ∃ va ca, sl i = .slice va (G.ag i).length ca ∧ w.cell? ⟨p, i * 4 + 2, none⟩ = some (.slice va (G.ag i).length ca) := by
  obtain ⟨_, _, ⟨nx, hh, _, h4, h5⟩, _⟩ := h
  obtain ⟨va, ca, e⟩ := (h5 i hi).shape
  exact ⟨va, ca, e, by rw [← e]; exact (h4.cellAt (i * 4 + 2) (by omega)).trans (rowN_get G.tr sl nx G.N i 2 hi (by omega))⟩
theorem GM.arg {B : Nat} {G : Gr} {rt : Nat → Nat} {E c g mb : Nat} {pv : Value} {sl : Nat → Value} {w : World} (h : GM B G rt E c g mb pv sl w) {i : Nat} (hi : i < G.N) {a : Option Addr} {n k : Nat} (e : sl i = .slice a (G.ag i).length n) (hk : k < (G.ag i).length) : ∃ q, a = some ⟨q, 0, none⟩ ∧ q < w.heap.size ∧ (G.ag i).length ≤ n ∧ w.cell? ⟨q, k, none⟩ = some (.int .i64 ((G.ag i).getD k 0 : Nat)) := by
  obtain ⟨_, _, ⟨nx, hh, _, h4, h5⟩, _⟩ := h
  obtain ⟨q, cp, e2, h1, h2, h3⟩ := (h5 i hi).row hk
  rw [e] at e2
  cases e2
  exact ⟨q, rfl, h1, h2, by rw [h3]; simp [List.getD, hk]⟩
theorem cntU_le_mul {ag : Nat → List Nat} {rt : Nat → Nat} {E r : Nat} : ∀ {D : List Nat}, (∀ i ∈ D, (ag i).length ≤ E) → cntU ag rt D r ≤ D.length * E
  | [], _ => by simp [cntU]
  | i :: D, h => by
    have h1 := cntU_le_mul (ag := ag) (rt := rt) (r := r) fun j hj => h j (List.mem_cons_of_mem _ hj)
    have h2 : cntUA ag rt i r ≤ (ag i).length := by unfold cntUA; exact Nat.le_trans List.count_le_length (by simp)
    have h3 := h i (by simp)
    rw [cntU, List.length_cons, Nat.add_mul]; omega
/-- Order's state: the graph, and for how many each part waits. -/
structure OV (B : Nat) (G : Gr) (rt : Nat → Nat) (E c g mb p cap : Nat) (sl : Nat → Value) (w : World) (W : Nat → Nat) (wr : World) : Prop where
  gm : GM B G rt E c g mb (.slice (some ⟨p, 0, none⟩) G.N cap) sl wr
  waits : OwnI w.heap.size (.slice (some ⟨w.heap.size, 0, none⟩) G.N G.N) ((List.range G.N).map W) wr
  fr : Fr p w wr
section
variable {B : Nat} {G : Gr} {rt : Nat → Nat} {E c g mb p cap : Nat} {sl : Nat → Value} {w wr w3 : World} {W : Nat → Nat}
theorem OV.root (h : OV B G rt E c g mb p cap sl w W wr) (hM : GM B G rt E c g mb (.slice (some ⟨p, 0, none⟩) G.N cap) sl w3) (k : Fr p wr w3) : OV B G rt E c g mb p cap sl w W w3 := ⟨hM, h.waits.frG h.gm k, h.fr.trans k⟩
theorem OV.lt (h : OV B G rt E c g mb p cap sl w W wr) : w.heap.size < wr.heap.size := (World.ownsRow.lt h.waits w.heap.size rfl).2
theorem Fr.below_fr {p : Nat} {a b c : World} (h : Fr p a b) (k : Below a.heap.size b c) : Fr p a c := ⟨h.1.trans (k.mono (Nat.zero_le _)), fun i hi hp => (k.block i hi).trans (h.2 i hi hp)⟩
theorem OV.low (h0 : GM B G rt E c g mb (.slice (some ⟨p, 0, none⟩) G.N cap) sl w) (h : OV B G rt E c g mb p cap sl w W wr) (k : Below (w.heap.size + 1) wr w3) : OV B G rt E c g mb p cap sl w W w3 :=
  ⟨h0.low h.gm (k.mono (by omega)), h.waits.keepAt fun i e => by
    have : w.heap.size = i := by simpa [Value.ownBlock] using e
    exact k.block i (by omega), h.fr.below_fr (k.mono (by omega))⟩
theorem OV.set {r x : Nat} (h0 : GM B G rt E c g mb (.slice (some ⟨p, 0, none⟩) G.N cap) sl w) (h : OV B G rt E c g mb p cap sl w W wr) (hr : r < G.N) : OV B G rt E c g mb p cap sl w (fun i => if i = r then x else W i) (wr.setCell ⟨w.heap.size, r, none⟩ (.int .i64 (x : Int))) := by
  have k : Below w.heap.size wr (wr.setCell ⟨w.heap.size, r, none⟩ (.int .i64 (x : Int))) := (Below.refl _ wr).setCell (p := ⟨w.heap.size, r, none⟩) (Nat.le_refl _) _
  exact ⟨h0.low h.gm k, h.waits.set hr, h.fr.below_fr k⟩
theorem OV.cell (h : OV B G rt E c g mb p cap sl w W wr) {r : Nat} (hr : r < G.N) : wr.cell? ⟨w.heap.size, r, none⟩ = some (.int .i64 (W r : Nat)) := by
  have hl : ((List.range G.N).map W).length = G.N := by simp
  have hw := h.waits
  have := World.ownsRow.cellAt (n := G.N) (by unfold OwnI at hw; rw [hl] at hw; exact hw) r (by omega)
  rw [this]
  simp [intsV, hr]
theorem OV.free (h : OV B G rt E c g mb p cap sl w W wr) (r : Nat) : wr.frozen? ⟨w.heap.size, r, none⟩ = false := by
  have hl : ((List.range G.N).map W).length = G.N := by simp
  have hw := h.waits
  exact World.ownsRow.frozenAt (n := G.N) (by unfold OwnI at hw; rw [hl] at hw; exact hw) r
theorem OwnI.set_other {B' r : Nat} {v x : Value} {l : List Nat} {b : Nat} (h : OwnI B' v l wr) (hb : b < B') : OwnI B' v l (wr.setCell ⟨b, r, none⟩ x) := h.keep fun k hk _ _ => Below.heap_setCell _ ⟨b, r, none⟩ _ k (by show k ≠ b; omega)
/-- A number more, behind a fresh one-cell block. -/
theorem OwnI.more {B' : Nat} {v : Value} {l : List Nat} {x : Nat} (h : OwnI B' v l wr) (hB : B' ≤ wr.heap.size) {v' : Value} (ho : w3.ownsRow B' 3 1 v' (l.length + 1) (intsV l ++ [.int .i64 (x : Int)])) (hg : (wr.alloc (.cells #[.int .i64 (x : Int)] 3)).grownBy w3 v.ownBlock) : OwnI B' v' (l ++ [x]) w3 ∧ Below B' wr w3 ∧ ∀ k, k < wr.heap.size → v.ownBlock ≠ some k → w3.heap[k]? = wr.heap[k]? := by
  have hb : Below B' wr (wr.alloc (.cells #[.int .i64 (x : Int)] 3)) := (Below.refl _ wr).alloc hB _
  refine ⟨.push ho, hb.trans ⟨hg.os, hg.tape, hg.output, hg.size, fun k hk => hg.block k (by have := hb.size; omega) fun e => by have := (h.lt k e.symm).1; omega⟩, fun k hk hne => (hg.block k (by have := hb.size; omega) fun e => hne e.symm).trans (Below.heap_alloc _ _ k hk)⟩
end
theorem cell_int1 (w : World) (x : Nat) : ∀ j u, ([.int .i64 (x : Int)] : List Value)[j]? = some u → (w.alloc (.cells #[.int .i64 (x : Int)] 3)).cell? ((⟨w.heap.size, 0, none⟩ : Addr).add j) = some u := new_one w _ _
end Go.Proofs.YthpphjkoiipkkaaDoor
