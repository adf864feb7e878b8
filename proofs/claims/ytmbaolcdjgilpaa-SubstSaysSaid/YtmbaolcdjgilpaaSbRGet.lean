/- The document's get: the first of a name. -/
import Derived.Test.YtmbaolcdjgilpaaSbPairs
namespace Go.Proofs.Ytmbaolcdjgilpaa
open Go.RowKit Go.Sort Go.Lib
attribute [local go_sem] Oper.semAt_some

theorem RowG.lt {T : TypeId} {g : Nat} {l : List PR} {w : World} (h : RowG T g l w) : g < w.heap.size := by
  obtain ⟨cs, h1, _⟩ := h; exact (Array.getElem?_eq_some_iff.1 h1).1
theorem RowG.same {T : TypeId} {g : Nat} {l : List PR} {w w' : World} (h : RowG T g l w) (k : w'.heap[g]? = w.heap[g]?) : RowG T g l w' := by
  obtain ⟨cs, h1, h2⟩ := h; exact ⟨cs, k.trans h1, h2⟩
theorem RowG.below {T : TypeId} {g : Nat} {l : List PR} {w w' : World} (h : RowG T g l w) (k : Below w.heap.size w w') : RowG T g l w' := h.same (k.block g h.lt)
theorem RowG.cells {T : TypeId} {g : Nat} {l : List PR} {w : World} (h : RowG T g l w) {i : Nat} (hi : i < l.length) :
    w.cell? ⟨g, i * 4, none⟩ = some (.string (l.getD i noP).n) ∧ w.cell? ⟨g, i * 4 + 1, none⟩ = some (.int .i64 (l.getD i noP).t.kind) ∧ w.cell? ⟨g, i * 4 + 2, none⟩ = some (.string (l.getD i noP).t.name) ∧ w.cell? ⟨g, i * 4 + 3, none⟩ = some (.slice (l.getD i noP).a (l.getD i noP).t.kids.length (l.getD i noP).c) := by
  obtain ⟨cs, h1, _, h3⟩ := h
  rw [Lib.cell_of_heap h1, Lib.cell_of_heap h1, Lib.cell_of_heap h1, Lib.cell_of_heap h1]
  exact h3 i hi
theorem GivenG.shape {T : TypeId} {v : Value} {d : List PR} {w : World} (h : GivenG T v d w) : ∃ a c, v = .slice a d.length c ∧ ∀ i, i < d.length → ∃ g, a = some ⟨g, 0, none⟩ ∧ RowG T g d w := by
  rcases h with ⟨rfl, rfl⟩ | ⟨_, g, cap, rfl, hr⟩
  · exact ⟨none, 0, rfl, fun i hi => absurd hi (Nat.not_lt_zero _)⟩
  · exact ⟨_, cap, rfl, fun i _ => ⟨g, rfl, hr⟩⟩
theorem GivenG.below {T : TypeId} {v : Value} {d : List PR} {w w' : World} (h : GivenG T v d w) (hb : Below w.heap.size w w') : GivenG T v d w' := by
  rcases h with h | ⟨h0, g, cap, e, hr⟩
  · exact .inl h
  · exact .inr ⟨h0, g, cap, e, hr.below hb⟩
theorem lk_ahead (n : ByteArray) : ∀ (l : List PR) (i : Nat), i < l.length → (∀ j, j < i → (l.getD j noP).n ≠ n) → (l.getD i noP).n = n → lk n l = some (l.getD i noP)
  | [], i, hi, _, _ => absurd hi (Nat.not_lt_zero _)
  | x :: l, 0, _, _, h => by rw [lk_cons]; exact if_pos h
  | x :: l, i + 1, hi, ha, h => by
    rw [lk_cons, if_neg (show ¬ x.n = n from ha 0 (Nat.succ_pos _))]
    exact lk_ahead n l i (by simpa using hi) (fun j hj => ha (j + 1) (by omega)) h
theorem lk_none (n : ByteArray) : ∀ (l : List PR), (∀ j, j < l.length → (l.getD j noP).n ≠ n) → lk n l = none
  | [], _ => rfl
  | x :: l, ha => by
    rw [lk_cons, if_neg (show ¬ x.n = n from ha 0 (Nat.succ_pos _))]
    exact lk_none n l (fun j hj => ha (j + 1) (by simpa using hj))

theorem next_none {d : List PR} {n : ByteArray} {i : Nat} (hA : ∀ j, j < i → (d.getD j noP).n ≠ n) (h : (d.getD i noP).n ≠ n) : ∀ j, j < i + 1 → (d.getD j noP).n ≠ n := by
  intro j hj
  by_cases e : j = i
  · rw [e]; exact h
  · exact hA j (by omega)
set_option maxHeartbeats 2000000 in
theorem rget_any (v : Value) (d : List PR) (n : ByteArray) (w : World) (h : GivenG 47 v d w) (hl : d.length < 1152921504606846976) :
    Calls Try.prog 33 #[v, .string n] w fun e w' => e = .returned (.tuple #[fv' (lk n d), .bool (lk n d).isSome]) ∧ Below w.heap.size w w' := by
  obtain ⟨a, c, rfl, hr⟩ := h.shape
  have HR := Lib.hid hr
  have HB0 := Lib.hid (fun o => (Below.refl _ w).alloc (Nat.le_refl _) o)
  clear h hr
  obtain ⟨res, hres⟩ : ∃ r, lk n d = r := ⟨_, rfl⟩
  have HRes := Lib.hid hres
  rw [hres]
  clear hres
  go_enter Try.func33, Try.ntmps33
  go_wp2
  go_loopw [6] (fun vi wr => ∃ i : Nat, i ≤ d.length ∧ vi = .int .i64 i ∧ Hid (∀ j, j < i → (d.getD j noP).n ≠ n) ∧ Hid (Below w.heap.size w wr) ∧ Hid (wr.heap[w.heap.size]? = some (.cells #[.int .i64 0, .string ⟨#[]⟩, .slice none 0 0] 34 (0, 0)))) (fun vi _ => d.length - (intOf vi).toNat)
  case atStart => exact ⟨0, Nat.zero_le _, rfl, Lib.hid (fun j hj => absurd hj (Nat.not_lt_zero _)), Lib.hid (HB0.out _), Lib.hid (alloc_new w _)⟩
  case round =>
    obtain ⟨i, hi, rfl, hA, hB, hZ⟩ := hrel
    obtain ⟨z0, z1, z2⟩ := three_cells hZ.out
    have u0 := Lib.frozen_of_heap hZ.out 0
    have u1 := Lib.frozen_of_heap hZ.out 1
    have u2 := Lib.frozen_of_heap hZ.out 2
    have lz := (Array.getElem?_eq_some_iff.1 hZ.out).1
    by_cases hlt : i < d.length
    · obtain ⟨g, rfl, hr⟩ := HR.out i hlt
      obtain ⟨x0, x1, x2, x3⟩ := (hr.below hB.out).cells hlt
      have hiz : (i : Int) < (d.length : Int) := by omega
      have HN := Lib.hid (fun h => lk_ahead n d i hlt hA.out h)
      have HE := Lib.hid (next_none (d := d) (n := n) hA.out)
      clear hr HR
      generalize d.getD i noP = x at x0 x1 x2 x3 HN HE
      by_cases hq : x.n = n
      · have hqB : (x.n.toList == n.toList) = true := by rw [bytes_beq]; exact eqB_true hq
        have hs : res = some x := by rw [← HRes.out]; exact HN.out hq
        subst hs
        clear HRes HN HE hq
        go_wp2
        have hs3 := set3_block hZ.out (.int .i64 x.t.kind) (.string x.t.name) (.slice x.a x.t.kids.length x.c)
        have hc := three_cells hs3
        refine bodyPost_ret (v := .tuple #[.agg #[.int .i64 x.t.kind, .string x.t.name, .slice x.a x.t.kids.length x.c], .bool true]) (by simp [results, Try.results33, go_sem, hc.1, hc.2.1, hc.2.2]) rfl ⟨rfl, below_set3 hB.out (Nat.le_refl _) _ _ _⟩
      · have hqB : (x.n.toList == n.toList) = false := by rw [bytes_beq]; exact eqB_false hq
        have HQ := Lib.hid hq
        clear hq HN
        go_wp2
        go_roundw
        case rel => exact ⟨i + 1, by omega, by go_num, Lib.hid (HE.out HQ.out), hB, hZ⟩
        case measure => simp [intOf]; omega
    · obtain rfl : i = d.length := by omega
      have hs : res = none := by rw [← HRes.out]; exact lk_none n d hA.out
      subst hs
      clear HRes HR
      go_wp2
      have hs3 := set3_block hZ.out (.int .i64 0) (.string ⟨#[]⟩) (.slice none 0 0)
      have hc := three_cells hs3
      refine bodyPost_ret (v := .tuple #[.agg #[.int .i64 0, .string ⟨#[]⟩, .slice none 0 0], .bool false]) (by simp [results, Try.results33, go_sem, hc.1, hc.2.1, hc.2.2]) rfl ⟨rfl, below_set3 hB.out (Nat.le_refl _) _ _ _⟩
end Go.Proofs.Ytmbaolcdjgilpaa
