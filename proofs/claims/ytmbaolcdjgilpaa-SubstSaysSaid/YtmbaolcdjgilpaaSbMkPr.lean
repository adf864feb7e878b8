/- Predicates, rows of them, that are made of numbers. -/
import Derived.Test.YtmbaolcdjgilpaaSbPr
import Derived.Test.YtmbaolcdjgilpaaSbPairs
import Derived.Deep.AppendLies
namespace Go.Proofs.Ytmbaolcdjgilpaa
open Go.RowKit
attribute [local go_sem] Oper.semAt_some
attribute [local go_sem ↓] Go.wp_at_zero Go.wp_at_succ

/-- Nothing but block r has turned. -/
structure Else (r : Nat) (w w' : World) : Prop where
  below : ∀ B, B ≤ r → Below B w w'
  block : ∀ k, k ≠ r → w'.heap[k]? = w.heap[k]?
theorem Else.set (w : World) (r o : Nat) (v : Value) : Else r w (w.setCell ⟨r, o, none⟩ v) := ⟨fun B hB => (Below.refl B w).setCell (p := ⟨r, o, none⟩) hB v, fun k hk => Below.heap_setCell w ⟨r, o, none⟩ v k hk⟩
theorem Else.trans {r : Nat} {a b c : World} (h : Else r a b) (k : Else r b c) : Else r a c := ⟨fun B hB => (h.below B hB).trans (k.below B hB), fun i hi => (k.block i hi).trans (h.block i hi)⟩
theorem KeepT.else {r : Nat} {w w' : World} {cs : Array Value} {T : TypeId} {fz : Nat × Nat} (h : Else r w w') (hr : w.heap[r]? = some (.cells cs T fz)) (hT : T ≠ 34) : KeepT w w' := by
  intro k cs' fz' hk
  refine (h.block k fun e => ?_).trans hk
  subst e
  rw [hr] at hk
  cases hk
  exact hT rfl
/-- The end of a maker whose result lies in a block of its own. -/
theorem else_fin {B p r : Nat} {a : Option Addr} {n c k : Nat} {w W W' : World} {O : Obj} (hr : r = w.heap.size) (hs : SeqAt B p a n c k W) (hfr : MkFr B p (w.alloc O) W) (hp : p < w.heap.size) (he : Else r W W') :
    SeqAt B p a n c k W' ∧ MkFr B p w W' := by
  subst hr
  have hB := hs.1.1
  refine ⟨⟨⟨hB, (he.block p (by omega)).trans hs.1.2⟩, hs.2.keep (he.below B (by omega))⟩, ?_, ?_⟩
  · exact (((Below.refl B w).alloc (by omega) O).trans hfr.1).trans (he.below B (by omega))
  · intro i o hi hip
    have hlt := (Array.getElem?_eq_some_iff.1 hi).1
    exact (he.block i (by omega)).trans (hfr.2 i o ((Below.heap_alloc w O i hlt).trans hi) hip)

def MadeP (B p : Nat) (a : Option Addr) (n c k : Nat) (w : World) (e : Ending) (w' : World) : Prop :=
  (∃ q u, e = .returned (prV q u) ∧ tsize q.2 ≤ 56 ∧ TysAt w' u q.2.kids) ∧ (∃ k', k' ≤ k + 9 ∧ SeqAt B p a n c k' w') ∧ MkFr B p w w'

theorem four_strs {w : World} {g : Nat} {x y z u : Value} (h : w.heap[g]? = some (.cells #[x, y, z, u] 9 (0, 0))) : w.cell? ⟨g, 0, none⟩ = some x ∧ w.cell? ⟨g, 1, none⟩ = some y ∧ w.cell? ⟨g, 2, none⟩ = some z ∧ w.cell? ⟨g, 3, none⟩ = some u := four_cells h

theorem set4_cells {W : World} {r : Nat} {x0 y0 z0 u0 : Value} {T : TypeId} (h : W.heap[r]? = some (.cells #[x0, y0, z0, u0] T (0, 0))) (x y z u : Value) :
    ((((W.setCell ⟨r, 0, none⟩ x).setCell ⟨r, 1, none⟩ y).setCell ⟨r, 2, none⟩ z).setCell ⟨r, 3, none⟩ u).cell? ⟨r, 0, none⟩ = some x ∧ ((((W.setCell ⟨r, 0, none⟩ x).setCell ⟨r, 1, none⟩ y).setCell ⟨r, 2, none⟩ z).setCell ⟨r, 3, none⟩ u).cell? ⟨r, 1, none⟩ = some y ∧ ((((W.setCell ⟨r, 0, none⟩ x).setCell ⟨r, 1, none⟩ y).setCell ⟨r, 2, none⟩ z).setCell ⟨r, 3, none⟩ u).cell? ⟨r, 2, none⟩ = some z ∧ ((((W.setCell ⟨r, 0, none⟩ x).setCell ⟨r, 1, none⟩ y).setCell ⟨r, 2, none⟩ z).setCell ⟨r, 3, none⟩ u).cell? ⟨r, 3, none⟩ = some u :=
  four_cells (block_set (o := 3) (block_set (o := 2) (block_set (o := 1) (block_set (o := 0) h x) y) z) u)
theorem pred_fin {B p : Nat} {a : Option Addr} {n c k k2 : Nat} {w W : World} {O1 O2 : Obj} {q : Pr} {v x y z u x0 y0 z0 u0 : Value} (hs : SeqAt B p a n c k2 W) (hk2 : k2 + 1 ≤ k + 1 + 8) (hfr : MkFr B p ((w.alloc O1).alloc O2) W) (hp : p < w.heap.size)
    (h0 : W.heap[w.heap.size]? = some (.cells #[x0, y0, z0, u0] 66 (0, 0))) (hu : TysAt W v q.2.kids) (hg : tsize q.2 ≤ 56) :
    MadeP B p a n c k w (.returned (prV q v)) ((((W.setCell ⟨w.heap.size, 0, none⟩ x).setCell ⟨w.heap.size, 1, none⟩ y).setCell ⟨w.heap.size, 2, none⟩ z).setCell ⟨w.heap.size, 3, none⟩ u) := by
  have he : Else w.heap.size W ((((W.setCell ⟨w.heap.size, 0, none⟩ x).setCell ⟨w.heap.size, 1, none⟩ y).setCell ⟨w.heap.size, 2, none⟩ z).setCell ⟨w.heap.size, 3, none⟩ u) := (((Else.set _ _ _ _).trans (Else.set _ _ _ _)).trans (Else.set _ _ _ _)).trans (Else.set _ _ _ _)
  obtain ⟨e1, e2⟩ := else_fin rfl hs ((MkFr.of_below ((Below.refl _ _).alloc (Nat.le_refl _) O2) (by have := hs.1.1; simp; omega)).trans hfr) hp he
  exact ⟨⟨q, v, rfl, hg, hu.keep (KeepT.else he h0 (by decide))⟩, ⟨k2, by omega, e1⟩, e2⟩
set_option maxHeartbeats 4000000 in
theorem make_pred (B p : Nat) (a : Option Addr) (n c k : Nat) (w : World) (h : SeqAt B p a n c k w) (hk : k < 1000000000000000000) (hn : n < 1152921504606846976) :
    Calls Try.prog 28 #[.pointer (some ⟨p, 0, none⟩), .int .i64 2] w (MadeP B p a n c k w) := by
  have hp := h.lt
  have HN := Lib.hid (fun o1 o2 => next_any B p a n c k 4 ((w.alloc o1).alloc o2) (h.below (((Below.refl _ w).alloc (Nat.le_refl _) o1).alloc (show w.heap.size ≤ (w.alloc o1).heap.size by simp) o2)) (by decide) (by decide) (by omega) hn)
  have HT := Lib.hid (fun W (hs : SeqAt B p a n c (k + 1) W) => make_type2 B p a n c (k + 1) W hs (by omega) hn)
  have HNe := Lib.hid (show w.heap.size ≠ p by omega)
  have HNe1 := Lib.hid (show w.heap.size + 1 ≠ p by omega)
  have HBp := Lib.hid h.1.1
  clear h
  go_enter Try.func28, Try.ntmps28
  go_wp2_with (go_at_call 25; refine (HN.out _ _).mono ?_)
  rintro e W1 ⟨⟨r, hr, rfl⟩, h1, h2⟩
  have hz := h2.2 _ _ ((Below.heap_alloc _ _ _ (by simp)).trans (alloc_new w _)) HNe.out
  have hs := h2.2 _ _ (show ((w.alloc _).alloc _).heap[w.heap.size + 1]? = _ from by rw [show w.heap.size + 1 = (w.alloc (.cells #[.string ⟨#[]⟩, .int .i64 0, .string ⟨#[]⟩, .slice none 0 0] 66)).heap.size from by simp]; exact alloc_new _ _) HNe1.out
  obtain ⟨s0, s1, s2, s3⟩ := four_strs hs
  have hzl := (Array.getElem?_eq_some_iff.1 hz).1
  have HZ := Lib.hid hz; have H1 := Lib.hid h1; have H2 := Lib.hid h2
  clear hz hs h1 h2
  obtain ⟨z, hz⟩ : ∃ z : Int, (r : Int) = z := ⟨_, rfl⟩
  rw [hz]
  have h4 : z = 0 ∨ z = 1 ∨ z = 2 ∨ z = 3 := by omega
  clear hz hr
  rcases h4 with rfl | rfl | rfl | rfl
  · go_wp2_with (go_at_call 9; refine (HT.out _ H1.out).mono ?_)
    rintro e W2 ⟨⟨t, u, rfl, hg, hu⟩, ⟨k2, hk2, hs2⟩, hf2⟩
    obtain ⟨a2, n2, rfl⟩ := hu.shape
    have hz2 := hf2.2 _ _ HZ.out HNe.out
    obtain ⟨d0, d1, d2, d3⟩ := four_cells hz2
    have g0 := Lib.frozen_of_heap hz2 0
    have g1 := Lib.frozen_of_heap hz2 1
    have g2 := Lib.frozen_of_heap hz2 2
    have g3 := Lib.frozen_of_heap hz2 3
    have HZ2 := Lib.hid hz2; have HU := Lib.hid hu; have HS2 := Lib.hid hs2; have HF2 := Lib.hid hf2; have HG := Lib.hid hg
    clear hz2 hu hs2 hf2 hg s0 s1 s2 s3
    simp only [tyV]
    go_wp2
    exact bodyPost_ret (v := prV (⟨#[69, 113]⟩, t) (.slice a2 t.kids.length n2)) (by have hc := set4_cells HZ2.out (.string ⟨#[69, 113]⟩) (.int .i64 t.kind) (.string t.name) (.slice a2 t.kids.length n2); simp [results, Try.results28, go_sem, prV, hc.1, hc.2.1, hc.2.2.1, hc.2.2.2]) rfl (pred_fin (q := (⟨#[69, 113]⟩, t)) HS2.out hk2 (H2.out.trans HF2.out) hp HZ2.out HU.out (by have := size_text t HG.out.1; have := HG.out.2.2; show tsize t ≤ 56; omega))
  · go_wp2_with (go_at_call 9; refine (HT.out _ H1.out).mono ?_)
    rintro e W2 ⟨⟨t, u, rfl, hg, hu⟩, ⟨k2, hk2, hs2⟩, hf2⟩
    obtain ⟨a2, n2, rfl⟩ := hu.shape
    have hz2 := hf2.2 _ _ HZ.out HNe.out
    obtain ⟨d0, d1, d2, d3⟩ := four_cells hz2
    have g0 := Lib.frozen_of_heap hz2 0
    have g1 := Lib.frozen_of_heap hz2 1
    have g2 := Lib.frozen_of_heap hz2 2
    have g3 := Lib.frozen_of_heap hz2 3
    have HZ2 := Lib.hid hz2; have HU := Lib.hid hu; have HS2 := Lib.hid hs2; have HF2 := Lib.hid hf2; have HG := Lib.hid hg
    clear hz2 hu hs2 hf2 hg s0 s1 s2 s3
    simp only [tyV]
    go_wp2
    exact bodyPost_ret (v := prV (⟨#[79, 114, 100]⟩, t) (.slice a2 t.kids.length n2)) (by have hc := set4_cells HZ2.out (.string ⟨#[79, 114, 100]⟩) (.int .i64 t.kind) (.string t.name) (.slice a2 t.kids.length n2); simp [results, Try.results28, go_sem, prV, hc.1, hc.2.1, hc.2.2.1, hc.2.2.2]) rfl (pred_fin (q := (⟨#[79, 114, 100]⟩, t)) HS2.out hk2 (H2.out.trans HF2.out) hp HZ2.out HU.out (by have := size_text t HG.out.1; have := HG.out.2.2; show tsize t ≤ 56; omega))
  · go_wp2_with (go_at_call 9; refine (HT.out _ H1.out).mono ?_)
    rintro e W2 ⟨⟨t, u, rfl, hg, hu⟩, ⟨k2, hk2, hs2⟩, hf2⟩
    obtain ⟨a2, n2, rfl⟩ := hu.shape
    have hz2 := hf2.2 _ _ HZ.out HNe.out
    obtain ⟨d0, d1, d2, d3⟩ := four_cells hz2
    have g0 := Lib.frozen_of_heap hz2 0
    have g1 := Lib.frozen_of_heap hz2 1
    have g2 := Lib.frozen_of_heap hz2 2
    have g3 := Lib.frozen_of_heap hz2 3
    have HZ2 := Lib.hid hz2; have HU := Lib.hid hu; have HS2 := Lib.hid hs2; have HF2 := Lib.hid hf2; have HG := Lib.hid hg
    clear hz2 hu hs2 hf2 hg s0 s1 s2 s3
    simp only [tyV]
    go_wp2
    exact bodyPost_ret (v := prV (⟨#[83, 104, 111, 119]⟩, t) (.slice a2 t.kids.length n2)) (by have hc := set4_cells HZ2.out (.string ⟨#[83, 104, 111, 119]⟩) (.int .i64 t.kind) (.string t.name) (.slice a2 t.kids.length n2); simp [results, Try.results28, go_sem, prV, hc.1, hc.2.1, hc.2.2.1, hc.2.2.2]) rfl (pred_fin (q := (⟨#[83, 104, 111, 119]⟩, t)) HS2.out hk2 (H2.out.trans HF2.out) hp HZ2.out HU.out (by have := size_text t HG.out.1; have := HG.out.2.2; show tsize t ≤ 56; omega))
  · go_wp2_with (go_at_call 9; refine (HT.out _ H1.out).mono ?_)
    rintro e W2 ⟨⟨t, u, rfl, hg, hu⟩, ⟨k2, hk2, hs2⟩, hf2⟩
    obtain ⟨a2, n2, rfl⟩ := hu.shape
    have hz2 := hf2.2 _ _ HZ.out HNe.out
    obtain ⟨d0, d1, d2, d3⟩ := four_cells hz2
    have g0 := Lib.frozen_of_heap hz2 0
    have g1 := Lib.frozen_of_heap hz2 1
    have g2 := Lib.frozen_of_heap hz2 2
    have g3 := Lib.frozen_of_heap hz2 3
    have HZ2 := Lib.hid hz2; have HU := Lib.hid hu; have HS2 := Lib.hid hs2; have HF2 := Lib.hid hf2; have HG := Lib.hid hg
    clear hz2 hu hs2 hf2 hg s0 s1 s2 s3
    simp only [tyV]
    go_wp2
    exact bodyPost_ret (v := prV (⟨#[78, 117, 109]⟩, t) (.slice a2 t.kids.length n2)) (by have hc := set4_cells HZ2.out (.string ⟨#[78, 117, 109]⟩) (.int .i64 t.kind) (.string t.name) (.slice a2 t.kids.length n2); simp [results, Try.results28, go_sem, prV, hc.1, hc.2.1, hc.2.2.1, hc.2.2.2]) rfl (pred_fin (q := (⟨#[78, 117, 109]⟩, t)) HS2.out hk2 (H2.out.trans HF2.out) hp HZ2.out HU.out (by have := size_text t HG.out.1; have := HG.out.2.2; show tsize t ≤ 56; omega))

theorem Try.infoPred : (Try.prog.info? 66).map (fun i => (i.zero, i.size, i.bytes)) = some (some (.agg #[.string ⟨#[]⟩, .int .i64 0, .string ⟨#[]⟩, .slice none 0 0]), 4, 64) := by kernel_rfl

def prCells (x : Pr × Value) : List Value := [.string x.1.1, .int .i64 x.1.2.kind, .string x.1.2.name, x.2]
def prRow (q : List (Pr × Value)) : List Value := q.flatMap prCells
theorem prRow_snoc (q : List (Pr × Value)) (x : Pr × Value) : prRow (q ++ [x]) = prRow q ++ prCells x := by simp [prRow]
theorem prRow_at (q : List (Pr × Value)) (i j : Nat) (hi : i < q.length) (hj : j < 4) : (prRow q)[i * 4 + j]? = (prCells q[i])[j]? := by
  induction q generalizing i with
  | nil => cases hi
  | cons a r ih =>
    cases i with
    | zero =>
      have : (prCells a ++ prRow r)[j]? = (prCells a)[j]? := List.getElem?_append_left (by simp [prCells]; omega)
      simpa [prRow] using this
    | succ i =>
      have e : (i + 1) * 4 + j = (prCells a).length + (i * 4 + j) := by simp [prCells]; omega
      have h1 : (prCells a ++ prRow r)[(prCells a).length + (i * 4 + j)]? = (prRow r)[i * 4 + j]? := by rw [List.getElem?_append_right (by omega)]; congr 1; omega
      have h2 := ih i (by simpa using hi)
      rw [e]
      simpa [prRow] using h1.trans h2
theorem prs_of_row {W : World} {base : Nat} {v : Value} {q : List (Pr × Value)} (h : W.ownsRow base 66 4 v q.length (prRow q)) (hq : ∀ x ∈ q, TysAt W x.2 x.1.2.kids) : PrsAt W v (q.map (·.1)) := by
  rcases h.2 with ⟨rfl, h0⟩ | ⟨g, cap, cur, rfl, _, hg, hc, hm, hcs, htk⟩
  · have : q = [] := List.length_eq_zero_iff.1 h0
    subst this
    exact .inl ⟨rfl, none, 0, rfl⟩
  · refine .inr ⟨g, cap, cur, _, fun i => (q[i]?.map (·.2)).getD undef, by simp, hg, by simpa using hc, fun i hi => ?_⟩
    have hi' : i < q.length := by simpa using hi
    have cell : ∀ j, j < 4 → cur[i * 4 + j]? = (prCells q[i])[j]? := fun j hj => by
      have hlt : i * 4 + j < q.length * 4 := by omega
      rw [← prRow_at q i j hi' hj, ← htk, List.getElem?_take, if_pos hlt, Array.getElem?_toList]
    have e : (q.map (·.1))[i] = q[i].1 := by simp
    rw [e]
    refine ⟨⟨(cell 0 (by omega)).trans rfl, (cell 1 (by omega)).trans rfl, (cell 2 (by omega)).trans rfl, (cell 3 (by omega)).trans ?_⟩, ?_⟩
    · simp [prCells, hi']
    · simpa [hi'] using hq q[i] (List.getElem_mem hi')
def MadePs (B p : Nat) (a : Option Addr) (n c k : Nat) (w : World) (e : Ending) (w' : World) : Prop :=
  (∃ l v, e = .returned v ∧ (l.length ≤ 3 ∧ ∀ q ∈ l, tsize q.2 ≤ 56) ∧ PrsAt w' v l) ∧ (∃ k', k' ≤ k + 40 ∧ SeqAt B p a n c k' w') ∧ MkFr B p w w'

set_option maxHeartbeats 4000000 in
theorem make_preds (B p : Nat) (a : Option Addr) (n c k : Nat) (w : World) (h : SeqAt B p a n c k w) (hk : k < 900000000000000000) (hn : n < 1152921504606846976) :
    Calls Try.prog 10 #[.pointer (some ⟨p, 0, none⟩), .int .i64 3, .int .i64 2] w (MadePs B p a n c k w) := by
  have hp := h.lt
  obtain ⟨i0, hi, hz0, hz1, hz2⟩ := info_parts Try.infoPred
  have HN := Lib.hid (next_any B p a n c k 4 w h (by decide) (by decide) (by omega) hn)
  have HB := Lib.hid h.1.1
  clear h
  go_enter Try.func10, Try.ntmps10
  go_wp2_with (go_at_call 25; refine HN.out.mono ?_)
  rintro e W1 ⟨⟨r, hr, rfl⟩, h1, h2⟩
  have H1 := Lib.hid h1; have H2 := Lib.hid h2
  clear h1 h2
  go_wp2_with fail
  go_loopw [7, 8] (fun vl vi wr => ∃ (q : List (Pr × Value)) (i k' : Nat), vi = .int .i64 i ∧ i + q.length ≤ 3 ∧ Hid (wr.ownsRow w.heap.size 66 4 vl q.length (prRow q)) ∧ Hid (∀ x ∈ q, TysAt wr x.2 x.1.2.kids) ∧ Hid (∀ x ∈ q, tsize x.1.2 ≤ 56) ∧ Hid (k' ≤ k + 1 + 9 * q.length ∧ SeqAt B p a n c k' wr) ∧ Hid (MkFr B p w wr)) (fun _ vi _ => (intOf vi).toNat)
  case atStart => exact ⟨[], r, k + 1, rfl, by simp; omega, Lib.hid (World.ownsRow_nil _ _ _ _), Lib.hid (fun x hx => by cases hx), Lib.hid (fun x hx => by cases hx), Lib.hid ⟨by simp, H1.out⟩, Lib.hid H2.out⟩
  case round =>
    obtain ⟨q, i, k', rfl, hq3, hrow, hty, hgd, hsq, hfr⟩ := hrel
    by_cases hpos : 0 < i
    · have hposI : (0 : Int) < (i : Int) := by omega
      go_wp2_with (go_at_call 28; refine (make_pred B p a n c k' _ hsq.out.2 (by have := hsq.out.1; omega) hn).mono ?_)
      rintro e W2 ⟨⟨x, u, rfl, hg, hu⟩, ⟨k2, hk2, hs2⟩, hf2⟩
      obtain ⟨a2, n2, rfl⟩ := hu.shape
      have hrow2 := own_keep hrow.out hf2.2 hp
      have HF2 := Lib.hid (hfr.out.trans hf2)
      have HS2 := Lib.hid hs2; have HU := Lib.hid hu; have HG := Lib.hid hg; have HR2 := Lib.hid hrow2
      have HTY2 := Lib.hid (fun y hy => (hty.out y hy).keep (KeepT.of_mk hf2 hsq.out.2))
      have HKq := Lib.hid hk2
      clear hrow2 hs2 hu hg hf2 hk2
      simp only [prV]
      go_wp2_with (at_builtin; refine wpList_append_own _ rfl _ _ 36 rfl w.heap.size 66 i0 (.agg #[.string ⟨#[]⟩, .int .i64 0, .string ⟨#[]⟩, .slice none 0 0]) 4 64 Try.underlying36 hi hz0 hz1 hz2 rfl (by decide) _ _ _ rfl (HR2.out.alloc _) ⟨W2.heap.size, 0, none⟩ 1 1 (prCells (x, .slice a2 x.2.kids.length n2)) rfl rfl (cell_new4 _ _ _ _ _ _) (by simp [prCells, Value.oneCell']) ?c3 ?c4 ?c5 ?_)
      case c3 => unfold maxLen; omega
      case c4 => omega
      case c5 => have := HF2.out.1.size; simp; omega
      intro v' W3 hown3 hgrow _
      have hkt : KeepT W2 W3 := (keepT_alloc W2 _).trans (KeepT.grown hgrow (HR2.out.alloc _) (by decide))
      have hsz : w.heap.size ≤ W2.heap.size := HF2.out.1.size
      have hBw : B ≤ w.heap.size := by have := HB.out; omega
      have hbelB : Below B W2 W3 := ((Below.refl B W2).alloc (Nat.le_trans hBw hsz) _).grown hgrow (by simp; omega) (fun j hj => Nat.le_trans hBw (HR2.out.lt j hj).1)
      have hblk : ∀ j o, W2.heap[j]? = some o → j < w.heap.size → W3.heap[j]? = some o := fun j o hj hlt =>
        (hgrow.block j (by simp; omega) (fun e => by have := (HR2.out.lt j e.symm).1; omega)).trans ((Below.heap_alloc W2 _ j (by omega)).trans hj)
      have HS3 := Lib.hid (show SeqAt B p a n c k2 W3 from ⟨⟨HB.out, hblk p _ HS2.out.1.2 hp⟩, HS2.out.2.keep hbelB⟩)
      have HF3 := Lib.hid (show MkFr B p w W3 from ⟨HF2.out.1.trans hbelB, fun j o hj hjp => hblk j o (HF2.out.2 j o hj hjp) (Array.getElem?_eq_some_iff.1 hj).1⟩)
      have HT3 := Lib.hid (fun y hy => (HTY2.out y hy).keep hkt)
      have HX3 := Lib.hid (HU.out.keep hkt)
      have HO3 := Lib.hid hown3
      clear hkt hbelB hblk hown3 hgrow
      go_wp2
      go_roundw
      case rel =>
        refine ⟨q ++ [(x, .slice a2 x.2.kids.length n2)], i - 1, k2, congrArg (Value.int .i64) (by omega), by simp; omega, Lib.hid ?_, Lib.hid ?_, Lib.hid ?_, Lib.hid ⟨?_, HS3.out⟩, HF3⟩
        · rw [prRow_snoc, List.length_append]; exact HO3.out
        · intro y hy
          rcases List.mem_append.1 hy with hy | hy
          · exact HT3.out y hy
          · obtain rfl := List.mem_singleton.1 hy
            exact HX3.out
        · intro y hy
          rcases List.mem_append.1 hy with hy | hy
          · exact hgd.out y hy
          · obtain rfl := List.mem_singleton.1 hy
            exact HG.out
        · have h1 := HKq.out; have h2 := hsq.out.1
          rw [List.length_append, List.length_singleton]; omega
      case measure => simp [intOf]; omega
    · obtain rfl : i = 0 := by omega
      obtain ⟨va, vc, rfl⟩ := row_val hrow.out
      go_wp2
      go_ret
      have h2 := hsq.out.1
      refine ⟨⟨q.map (·.1), .slice va q.length vc, rfl, ⟨by simp; omega, fun y hy => ?_⟩, prs_of_row hrow.out hty.out⟩, ⟨k', by omega, hsq.out.2⟩, hfr.out⟩
      obtain ⟨z, hz, rfl⟩ := List.mem_map.1 hy
      exact hgd.out z hz
end Go.Proofs.Ytmbaolcdjgilpaa
