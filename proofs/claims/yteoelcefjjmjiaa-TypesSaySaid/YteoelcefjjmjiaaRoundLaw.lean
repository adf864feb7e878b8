/- An append as one step of a region that draws its order, inside a round; a row of three-cell elements, its last one laid anew. -/
import Derived.Test.YteoelcefjjmjiaaRange
import Derived.Deep.AppendLies
import Derived.OwnWalkIn
import Derived.Stop.RegionWithIn
import Derived.TacticsInMore
import Derived.WalkKit
import Derived.Lib.Strings
import Derived.Lib.Slices
import Derived.Lib.Builder
namespace Go.Proofs.Yteoelcefjjmjiaa
open Go.RowKit

theorem stepIn_append_lies {F : Fence} {nn : Nat} {P : Program} (w : World) {ops : Array Oper} {o : Oper} {a : Act} {K : Act → World → Prop} {Q : Exit → Act → World → Prop} {E : Prop} (hgd : o.guard = none) (s x : Operand) (t : TypeId)
    (ho : o.op = .call { callee := .builtin .append, args := #[s, x], argTypes := #[t, t] })
    (base : Nat) (e : TypeId) (i : TypeInfo) (z : Value) (size bytes : Nat) (ht : P.underlying t = some (.slice e)) (hi : P.info? e = some i) (hz : i.zero = some z)
    (hsize : i.size = size) (hby : i.bytes = bytes) (hzs : z.cells.size = size) (hsz : 0 < size)
    (v : Value) (n : Nat) (xs : List Value) (hs : a.eval s = v) (hown : w.ownsRow base e size v n xs)
    (ad : Addr) (m c : Nat) (news : List Value) (hx : a.eval x = .slice (some ad) m c) (hl : news.length = m * size) (hnews : ∀ j u, news[j]? = some u → w.cell? (ad.add j) = some u) (h1 : ∀ u ∈ news, u.oneCell' = true)
    (hm : 0 < m) (h63 : n + m ≤ maxLen) (hbytes : (n + m) * bytes ≤ 140737488355328) (hbase : base ≤ w.heap.size)
    (h : ∀ g cap w', w'.ownsRow base e size (.slice (some ⟨g, 0, none⟩) (n + m) cap) (n + m) (xs ++ news) → w.grownBy w' v.ownBlock → (v.ownBlock = some g ∨ g = w.heap.size) → K (a.put o.dst (.slice (some ⟨g, 0, none⟩) (n + m) cap)) w') :
    if Region.wanted o (yielded ops a.tmps) = true then Oper.wpIn F nn P o a w K Q else E := by
  have hw : Region.wanted o (yielded ops a.tmps) = true := by simp [Region.wanted, hgd]
  rw [if_pos hw]
  obtain ⟨g, cap, w', hr, h2, h3, h4, _⟩ := run_append_lies (P := P) w t o.type base e i z size bytes ht hi hz hsize hby hzs hsz v n xs hown ad m c news hl hnews h1 hm h63 hbytes hbase w.heap.size rfl
  unfold Oper.wpIn
  refine ⟨?_, ?_⟩
  · simp [Oper.about, ho, resolve, Target.leads, Sem.run_pure]
  · rw [Oper.semAt_plain F _ _ (by rw [ho]; intro c hc'; cases hc')]
    simp [execOp, ho, resolve, invoke, builtin, hs, hx, hr, Result.andThen]
    exact h g cap w' h2 h3 h4

/-- The last of a row of three-cell elements is laid anew. -/
theorem row_set3 {W : World} {B : Nat} {e : TypeId} {g n cap : Nat} {xs : List Value} {z0 z1 z2 : Value} (h : W.ownsRow B e 3 (.slice (some ⟨g, 0, none⟩) (n + 1) cap) (n + 1) (xs ++ [z0, z1, z2])) (hx : xs.length = n * 3) (x y z : Value) :
    (((W.setCell ⟨g, n * 3, none⟩ x).setCell ⟨g, n * 3 + 1, none⟩ y).setCell ⟨g, n * 3 + 2, none⟩ z).ownsRow B e 3 (.slice (some ⟨g, 0, none⟩) (n + 1) cap) (n + 1) (xs ++ [x, y, z]) := by
  have hset : ∀ {W : World} {b o : Nat} {cs : Array Value} {T : TypeId} {m : Nat × Nat} (_ : W.heap[b]? = some (.cells cs T m)) (v : Value), (W.setCell ⟨b, o, none⟩ v).heap[b]? = some (.cells (cs.setIfInBounds o v) T m) := fun {W b o cs T m} h v => by
    obtain ⟨hlt, hk⟩ := Array.getElem?_eq_some_iff.1 h
    show (W.heap.modify b _)[b]? = _
    rw [Array.getElem?_eq_getElem (by rw [Array.size_modify]; exact hlt), Array.getElem_modify_self, hk]
    rfl
  refine ⟨by simp [hx]; omega, ?_⟩
  rcases h.2 with ⟨h0, _⟩ | ⟨g', cap', cur, e1, hb, hg, hc, hm, hcs, htk⟩
  · cases h0
  · cases e1
    refine .inr ⟨g, cap, _, rfl, hb, hset (hset (hset hg x) y) z, hc, hm, by simpa using hcs, ?_⟩
    have hsz : (n + 1) * 3 ≤ cur.size := by rw [hcs]; exact Nat.mul_le_mul_right 3 hc
    apply List.ext_getElem?
    intro j
    rw [List.getElem?_take]
    have hj0 : ∀ j, j < (n + 1) * 3 → cur[j]? = (xs ++ [z0, z1, z2])[j]? := fun j hj => by
      rw [← htk, List.getElem?_take, if_pos hj, Array.getElem?_toList]
    by_cases hj : j < (n + 1) * 3
    · rw [if_pos hj, Array.getElem?_toList]
      by_cases h1 : j < n * 3
      · rw [Array.getElem?_setIfInBounds_ne (by omega), Array.getElem?_setIfInBounds_ne (by omega), Array.getElem?_setIfInBounds_ne (by omega), hj0 j hj, List.getElem?_append_left (by omega), List.getElem?_append_left (by omega)]
      · obtain ⟨k, rfl⟩ : ∃ k, j = n * 3 + k := ⟨j - n * 3, by omega⟩
        rw [List.getElem?_append_right (by omega), hx, Nat.add_sub_cancel_left]
        have hk : k = 0 ∨ k = 1 ∨ k = 2 := by omega
        rcases hk with rfl | rfl | rfl
        · simp [Array.getElem?_setIfInBounds]; omega
        · simp [Array.getElem?_setIfInBounds]; omega
        · simp [Array.getElem?_setIfInBounds]; omega
    · rw [if_neg hj, List.getElem?_eq_none (by simp [hx]; omega)]
theorem row_last3 {W : World} {B : Nat} {e : TypeId} {g n cap : Nat} {xs : List Value} {z0 z1 z2 : Value} (h : W.ownsRow B e 3 (.slice (some ⟨g, 0, none⟩) (n + 1) cap) (n + 1) (xs ++ [z0, z1, z2])) (hx : xs.length = n * 3) :
    (W.cell? ⟨g, n * 3, none⟩ = some z0 ∧ W.cell? ⟨g, n * 3 + 1, none⟩ = some z1 ∧ W.cell? ⟨g, n * 3 + 2, none⟩ = some z2) ∧ g < W.heap.size ∧ ∀ k, W.frozen? ⟨g, k, none⟩ = false := by
  rcases h.2 with ⟨h0, _⟩ | ⟨g', cap', cur, e1, hb, hg, hc, hm, hcs, htk⟩
  · cases h0
  · cases e1
    have hj0 : ∀ j, j < (n + 1) * 3 → cur[j]? = (xs ++ [z0, z1, z2])[j]? := fun j hj => by
      rw [← htk, List.getElem?_take, if_pos hj, Array.getElem?_toList]
    refine ⟨⟨?_, ?_, ?_⟩, (Array.getElem?_eq_some_iff.1 hg).1, fun k => Lib.frozen_of_heap hg k⟩
    · rw [Lib.cell_of_heap hg, hj0 _ (by omega), List.getElem?_append_right (by omega), hx]; simp
    · rw [Lib.cell_of_heap hg, hj0 _ (by omega), List.getElem?_append_right (by omega), hx]; simp
    · rw [Lib.cell_of_heap hg, hj0 _ (by omega), List.getElem?_append_right (by omega), hx]; simp
end Go.Proofs.Yteoelcefjjmjiaa
