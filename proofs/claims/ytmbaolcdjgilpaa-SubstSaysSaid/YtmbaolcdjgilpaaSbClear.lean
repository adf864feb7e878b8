/- clear of a row's tail; whether two pairs have one name. -/
import Derived.Test.YtmbaolcdjgilpaaSbSort
import Derived.Lib.SliceRun
namespace Go.Proofs.Ytmbaolcdjgilpaa
open Go.RowKit Go.Sort
attribute [local go_sem] Oper.semAt_some

set_option maxHeartbeats 1000000 in
theorem eqP_any (x y : PR) (w : World) :
    Calls Try.prog 43 #[pairV x, pairV y] w fun e w' => e = .returned (.bool (x.n.toList == y.n.toList)) ∧ Below w.heap.size w w' := by
  have HB := Lib.hid (show ∀ o1 o2 : Obj, Below w.heap.size w ((w.alloc o1).alloc o2) from fun o1 o2 => ((Below.refl _ w).alloc (Nat.le_refl _) _).alloc (by simp) _)
  simp only [pairV]
  go_enter Try.func43, Try.ntmps43
  go_wp2
  go_ret
  exact ⟨rfl, HB.out _ _⟩

theorem heap_setCells (g : Nat) : ∀ (vs : List Value) (o : Nat) (w : World) (k : Nat), k ≠ g → (w.setCells g o vs).heap[k]? = w.heap[k]?
  | [], _, _, _, _ => rfl
  | v :: r, o, w, k, hk => by
    rw [World.setCells, heap_setCells g r (o + 1) _ k hk]
    exact Below.heap_setCell _ ⟨g, o, none⟩ _ k hk
theorem below_setCells (g N : Nat) (hN : N ≤ g) : ∀ (vs : List Value) (o : Nat) (w : World), Below N w (w.setCells g o vs)
  | [], _, w => Below.refl N w
  | v :: r, o, w => by
    rw [World.setCells]
    exact ((Below.refl N w).setCell (p := ⟨g, o, none⟩) hN v).trans (below_setCells g N hN r (o + 1) _)
theorem block_setCells (g : Nat) {T : TypeId} {fz : Nat × Nat} : ∀ (vs : List Value) (o : Nat) (w : World) (cs : Array Value), w.heap[g]? = some (.cells cs T fz) →
    ∃ cs', (w.setCells g o vs).heap[g]? = some (.cells cs' T fz) ∧ cs'.size = cs.size ∧ ∀ j, j < o → cs'[j]? = cs[j]?
  | [], _, _, cs, h => ⟨cs, h, rfl, fun _ _ => rfl⟩
  | v :: r, o, w, cs, h => by
    obtain ⟨cs', h1, h2, h3⟩ := block_setCells g r (o + 1) (w.setCell ⟨g, o, none⟩ v) _ (blk_set h v)
    refine ⟨cs', h1, by simpa using h2, fun j hj => ?_⟩
    rw [h3 j (by omega), Array.getElem?_setIfInBounds_ne (by omega)]
theorem Fr.setCells (g : Nat) (vs : List Value) (o : Nat) (w : World) : Fr g w (w.setCells g o vs) := ⟨below_setCells g 0 (Nat.zero_le _) vs o w, fun k _ hg => heap_setCells g vs o w k hg⟩
theorem RowP.setCells {g : Nat} {l : List PR} {w : World} (h : RowP g l w) (k : Nat) (hk : k ≤ l.length) (vs : List Value) : RowP g (l.take k) (w.setCells g (k * 4) vs) := by
  obtain ⟨cs, h1, h2, h3⟩ := h.take k
  obtain ⟨cs', e1, e2, e3⟩ := block_setCells g vs (k * 4) w cs h1
  refine ⟨cs', e1, by omega, fun i hi => ?_⟩
  have hik : i < k := by simp at hi; omega
  rw [e3 _ (by omega), e3 _ (by omega), e3 _ (by omega), e3 _ (by omega)]
  exact h3 i hi

def zeroP : Array Value := #[.string ⟨#[]⟩, .int .i64 0, .string ⟨#[]⟩, .slice none 0 0]
theorem zeroP_one : ∀ v ∈ zeroP, v.oneCell' = true := by
  intro v hv
  simp [zeroP] at hv
  rcases hv with rfl | rfl | rfl | rfl <;> rfl
theorem zeroCells_one (n : Nat) : ∀ v ∈ (Builtin.zeroCells zeroP n).toList, v.oneCell' = true := by
  intro v hv
  simp only [Builtin.zeroCells, Array.toList_map, List.mem_map] at hv
  obtain ⟨i, _, rfl⟩ := hv
  have h4 : i % zeroP.size < zeroP.size := Nat.mod_lt _ (by decide)
  rw [getElem!_pos zeroP _ h4]
  exact zeroP_one _ (Array.getElem_mem _)
theorem run_clear (w : World) (g k : Nat) (l : List PR) (h : RowP g l w) (hk : k < l.length) (c : Nat) (ty : TypeId) :
    (Builtin.clear_ #[28] ty #[.slice (some ⟨g, k * 4, none⟩) (l.length - k) c]).run Try.prog w = .ok (.tuple #[]) (w.setCells g (k * 4) (Builtin.zeroCells zeroP (l.length - k)).toList) := by
  have hz : ∀ w, (zeroValue 58).run Try.prog w = .ok (.agg zeroP) w := fun _ => by kernel_rfl
  have hlen : (Builtin.zeroCells zeroP (l.length - k)).toList.length = (l.length - k) * 4 := by simp [Builtin.zeroCells, zeroP]
  obtain ⟨cs, h1, h2, _⟩ := h
  have hst := run_storeCells_cells (P := Try.prog) g (k * 4) (Builtin.zeroCells zeroP (l.length - k)).toList 0 w (fun j hj => by rw [hlen] at hj; rw [Lib.cell_of_heap h1, Array.getElem?_eq_getElem (by omega)]; rfl) (fun j _ => Lib.frozen_of_heap h1 _) (zeroCells_one _)
  simp only [Nat.add_zero] at hst
  obtain ⟨m, hm⟩ : ∃ m, l.length - k = m + 1 := ⟨l.length - k - 1, by omega⟩
  rw [hm] at hst ⊢
  simp [Builtin.clear_, run_underlying (Try.underlying28), hz, Value.cells, hst]
end Go.Proofs.Ytmbaolcdjgilpaa
