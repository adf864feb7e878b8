/- The predicates that are made of numbers. -/
import Derived.Test.YtlfbmbbfcijedaaMakeType
import Derived.Test.YtlfbmbbfcijedaaSchPlain
import Derived.Deep.AppendLies
namespace Go.Proofs.Ytlfbmbbfcijedaa
open Go.RowKit
attribute [local go_sem] Oper.semAt_some
attribute [local go_sem ↓] Go.wp_at_zero Go.wp_at_succ

/-- Nothing but block r has turned. -/
structure Else (r : Nat) (w w' : World) : Prop where
  below : ∀ B, B ≤ r → Below B w w'
  block : ∀ k, k ≠ r → w'.heap[k]? = w.heap[k]?
theorem Else.set (w : World) (r o : Nat) (v : Value) : Else r w (w.setCell ⟨r, o, none⟩ v) := ⟨fun B hB => (Below.refl B w).setCell (p := ⟨r, o, none⟩) hB v, fun k hk => Below.heap_setCell w ⟨r, o, none⟩ v k hk⟩
theorem Else.trans {r : Nat} {a b c : World} (h : Else r a b) (k : Else r b c) : Else r a c := ⟨fun B hB => (h.below B hB).trans (k.below B hB), fun i hi => (k.block i hi).trans (h.block i hi)⟩
theorem KeepT.else {r : Nat} {w w' : World} {cs : Array Value} {T : TypeId} {fz : Nat × Nat} (h : Else r w w') (hr : w.heap[r]? = some (.cells cs T fz)) (hT : T ≠ 29) : KeepT w w' := by
  intro k cs' fz' hk
  refine (h.block k fun e => ?_).trans hk
  subst e
  rw [hr] at hk
  cases hk
  exact hT rfl
/-- The end of a maker whose result lies in a block of its own. -/
theorem else_fin {B p r : Nat} {a : Option Addr} {n c k : Nat} {w W W' : World} {O : Obj} (hr : r = w.heap.size) (hs : SeqAt B p a n c k W) (hfr : MkFr B p (w.alloc O) W) (hp : p < w.heap.size) (he : Else r W W') :
    SeqAt B p a n c k W' ∧ MkFr B p w W' := by
  subst hr
  have hB := hs.1.1
  refine ⟨⟨⟨hB, (he.block p (by omega)).trans hs.1.2⟩, hs.2.keep (he.below B (by omega))⟩, ?_, ?_⟩
  · exact (((Below.refl B w).alloc (by omega) O).trans hfr.1).trans (he.below B (by omega))
  · intro i o hi hip
    have hlt := (Array.getElem?_eq_some_iff.1 hi).1
    exact (he.block i (by omega)).trans (hfr.2 i o ((Below.heap_alloc w O i hlt).trans hi) hip)

def MadeP (B p : Nat) (a : Option Addr) (n c k : Nat) (w : World) (e : Ending) (w' : World) : Prop :=
  (∃ q u, e = .returned (prV q u) ∧ (GoodP q ∧ Fits q.2 ∧ (prText q).length ≤ 20) ∧ TysAt w' u q.2.kids) ∧ (∃ k', k' ≤ k + 2 ∧ SeqAt B p a n c k' w') ∧ MkFr B p w w'

theorem four_strs {w : World} {g : Nat} {x y z u : Value} (h : w.heap[g]? = some (.cells #[x, y, z, u] 9 (0, 0))) : w.cell? ⟨g, 0, none⟩ = some x ∧ w.cell? ⟨g, 1, none⟩ = some y ∧ w.cell? ⟨g, 2, none⟩ = some z ∧ w.cell? ⟨g, 3, none⟩ = some u := four_cells h

theorem set4_cells {W : World} {r : Nat} {x0 y0 z0 u0 : Value} {T : TypeId} (h : W.heap[r]? = some (.cells #[x0, y0, z0, u0] T (0, 0))) (x y z u : Value) :
    ((((W.setCell ⟨r, 0, none⟩ x).setCell ⟨r, 1, none⟩ y).setCell ⟨r, 2, none⟩ z).setCell ⟨r, 3, none⟩ u).cell? ⟨r, 0, none⟩ = some x ∧ ((((W.setCell ⟨r, 0, none⟩ x).setCell ⟨r, 1, none⟩ y).setCell ⟨r, 2, none⟩ z).setCell ⟨r, 3, none⟩ u).cell? ⟨r, 1, none⟩ = some y ∧ ((((W.setCell ⟨r, 0, none⟩ x).setCell ⟨r, 1, none⟩ y).setCell ⟨r, 2, none⟩ z).setCell ⟨r, 3, none⟩ u).cell? ⟨r, 2, none⟩ = some z ∧ ((((W.setCell ⟨r, 0, none⟩ x).setCell ⟨r, 1, none⟩ y).setCell ⟨r, 2, none⟩ z).setCell ⟨r, 3, none⟩ u).cell? ⟨r, 3, none⟩ = some u :=
  four_cells (block_set (o := 3) (block_set (o := 2) (block_set (o := 1) (block_set (o := 0) h x) y) z) u)
theorem pred_fin {B p : Nat} {a : Option Addr} {n c k k2 : Nat} {w W : World} {O1 O2 : Obj} {q : Pr} {v x y z u x0 y0 z0 u0 : Value} (hs : SeqAt B p a n c k2 W) (hk2 : k2 + 1 ≤ k + 1 + 2) (hfr : MkFr B p ((w.alloc O1).alloc O2) W) (hp : p < w.heap.size)
    (h0 : W.heap[w.heap.size]? = some (.cells #[x0, y0, z0, u0] 42 (0, 0))) (hu : TysAt W v q.2.kids) (hg : GoodP q ∧ Fits q.2 ∧ (prText q).length ≤ 20) :
    MadeP B p a n c k w (.returned (prV q v)) ((((W.setCell ⟨w.heap.size, 0, none⟩ x).setCell ⟨w.heap.size, 1, none⟩ y).setCell ⟨w.heap.size, 2, none⟩ z).setCell ⟨w.heap.size, 3, none⟩ u) := by
  have he : Else w.heap.size W ((((W.setCell ⟨w.heap.size, 0, none⟩ x).setCell ⟨w.heap.size, 1, none⟩ y).setCell ⟨w.heap.size, 2, none⟩ z).setCell ⟨w.heap.size, 3, none⟩ u) := (((Else.set _ _ _ _).trans (Else.set _ _ _ _)).trans (Else.set _ _ _ _)).trans (Else.set _ _ _ _)
  obtain ⟨e1, e2⟩ := else_fin rfl hs ((MkFr.of_below ((Below.refl _ _).alloc (Nat.le_refl _) O2) (by have := hs.1.1; simp; omega)).trans hfr) hp he
  exact ⟨⟨q, v, rfl, hg, hu.keep (KeepT.else he h0 (by decide))⟩, ⟨k2, by omega, e1⟩, e2⟩
theorem good_pred {n : ByteArray} {t : T} (hc : n.data.toList ∈ T.classes) (hs : n.size ≤ 4) (hg : T.Good t ∧ Fits t ∧ (T.text t).length + 10 ≤ 14) : GoodP (n, t) ∧ Fits t ∧ (prText (n, t)).length ≤ 20 := by
  refine ⟨⟨hc, hg.1⟩, hg.2.1, ?_⟩
  have := arg_len t; have := hg.2.2
  unfold prText
  simp only [List.length_append, List.length_cons, List.length_nil, ← Lib.size_eq]; omega

set_option maxHeartbeats 4000000 in
theorem make_pred (B p : Nat) (a : Option Addr) (n c k : Nat) (w : World) (h : SeqAt B p a n c k w) (hk : k < 1000000000000000000) (hn : n < 1152921504606846976) :
    Calls Try.prog 25 #[.pointer (some ⟨p, 0, none⟩), .int .i64 0] w (MadeP B p a n c k w) := by
  have hp := h.lt
  have HN := Lib.hid (fun o1 o2 => next_any B p a n c k 4 ((w.alloc o1).alloc o2) (h.below (((Below.refl _ w).alloc (Nat.le_refl _) o1).alloc (show w.heap.size ≤ (w.alloc o1).heap.size by simp) o2)) (by decide) (by decide) (by omega) hn)
  have HT := Lib.hid (fun W (hs : SeqAt B p a n c (k + 1) W) => make_type0 B p a n c (k + 1) W hs (by omega) hn)
  have HNe := Lib.hid (show w.heap.size ≠ p by omega)
  have HNe1 := Lib.hid (show w.heap.size + 1 ≠ p by omega)
  have HBp := Lib.hid h.1.1
  clear h
  go_enter Try.func25, Try.ntmps25
  go_wp2_with (go_at_call 12; refine (HN.out _ _).mono ?_)
  rintro e W1 ⟨⟨r, hr, rfl⟩, h1, h2⟩
  have hz := h2.2 _ _ ((Below.heap_alloc _ _ _ (by simp)).trans (alloc_new w _)) HNe.out
  have hs := h2.2 _ _ (show ((w.alloc _).alloc _).heap[w.heap.size + 1]? = _ from by rw [show w.heap.size + 1 = (w.alloc (.cells #[.string ⟨#[]⟩, .int .i64 0, .string ⟨#[]⟩, .slice none 0 0] 42)).heap.size from by simp]; exact alloc_new _ _) HNe1.out
  obtain ⟨s0, s1, s2, s3⟩ := four_strs hs
  have hzl := (Array.getElem?_eq_some_iff.1 hz).1
  have HZ := Lib.hid hz; have H1 := Lib.hid h1; have H2 := Lib.hid h2
  clear hz hs h1 h2
  obtain ⟨z, hz⟩ : ∃ z : Int, (r : Int) = z := ⟨_, rfl⟩
  rw [hz]
  have h4 : z = 0 ∨ z = 1 ∨ z = 2 ∨ z = 3 := by omega
  clear hz hr
  rcases h4 with rfl | rfl | rfl | rfl
  · go_wp2_with (go_at_call 6; refine (HT.out _ H1.out).mono ?_)
    rintro e W2 ⟨⟨t, u, rfl, hg, hu⟩, ⟨k2, hk2, hs2⟩, hf2⟩
    obtain ⟨a2, n2, rfl⟩ := hu.shape
    have hz2 := hf2.2 _ _ HZ.out HNe.out
    obtain ⟨d0, d1, d2, d3⟩ := four_cells hz2
    have g0 := Lib.frozen_of_heap hz2 0
    have g1 := Lib.frozen_of_heap hz2 1
    have g2 := Lib.frozen_of_heap hz2 2
    have g3 := Lib.frozen_of_heap hz2 3
    have HZ2 := Lib.hid hz2; have HU := Lib.hid hu; have HS2 := Lib.hid hs2; have HF2 := Lib.hid hf2; have HG := Lib.hid hg
    clear hz2 hu hs2 hf2 hg s0 s1 s2 s3
    simp only [tyV]
    go_wp2
    exact bodyPost_ret (v := prV (⟨#[69, 113]⟩, t) (.slice a2 t.kids.length n2)) (by have hc := set4_cells HZ2.out (.string ⟨#[69, 113]⟩) (.int .i64 t.kind) (.string t.name) (.slice a2 t.kids.length n2); simp [results, Try.results25, go_sem, prV, hc.1, hc.2.1, hc.2.2.1, hc.2.2.2]) rfl (pred_fin (q := (⟨#[69, 113]⟩, t)) HS2.out hk2 (H2.out.trans HF2.out) hp HZ2.out HU.out (good_pred (by decide) (by decide) HG.out))
  · go_wp2_with (go_at_call 6; refine (HT.out _ H1.out).mono ?_)
    rintro e W2 ⟨⟨t, u, rfl, hg, hu⟩, ⟨k2, hk2, hs2⟩, hf2⟩
    obtain ⟨a2, n2, rfl⟩ := hu.shape
    have hz2 := hf2.2 _ _ HZ.out HNe.out
    obtain ⟨d0, d1, d2, d3⟩ := four_cells hz2
    have g0 := Lib.frozen_of_heap hz2 0
    have g1 := Lib.frozen_of_heap hz2 1
    have g2 := Lib.frozen_of_heap hz2 2
    have g3 := Lib.frozen_of_heap hz2 3
    have HZ2 := Lib.hid hz2; have HU := Lib.hid hu; have HS2 := Lib.hid hs2; have HF2 := Lib.hid hf2; have HG := Lib.hid hg
    clear hz2 hu hs2 hf2 hg s0 s1 s2 s3
    simp only [tyV]
    go_wp2
    exact bodyPost_ret (v := prV (⟨#[79, 114, 100]⟩, t) (.slice a2 t.kids.length n2)) (by have hc := set4_cells HZ2.out (.string ⟨#[79, 114, 100]⟩) (.int .i64 t.kind) (.string t.name) (.slice a2 t.kids.length n2); simp [results, Try.results25, go_sem, prV, hc.1, hc.2.1, hc.2.2.1, hc.2.2.2]) rfl (pred_fin (q := (⟨#[79, 114, 100]⟩, t)) HS2.out hk2 (H2.out.trans HF2.out) hp HZ2.out HU.out (good_pred (by decide) (by decide) HG.out))
  · go_wp2_with (go_at_call 6; refine (HT.out _ H1.out).mono ?_)
    rintro e W2 ⟨⟨t, u, rfl, hg, hu⟩, ⟨k2, hk2, hs2⟩, hf2⟩
    obtain ⟨a2, n2, rfl⟩ := hu.shape
    have hz2 := hf2.2 _ _ HZ.out HNe.out
    obtain ⟨d0, d1, d2, d3⟩ := four_cells hz2
    have g0 := Lib.frozen_of_heap hz2 0
    have g1 := Lib.frozen_of_heap hz2 1
    have g2 := Lib.frozen_of_heap hz2 2
    have g3 := Lib.frozen_of_heap hz2 3
    have HZ2 := Lib.hid hz2; have HU := Lib.hid hu; have HS2 := Lib.hid hs2; have HF2 := Lib.hid hf2; have HG := Lib.hid hg
    clear hz2 hu hs2 hf2 hg s0 s1 s2 s3
    simp only [tyV]
    go_wp2
    exact bodyPost_ret (v := prV (⟨#[83, 104, 111, 119]⟩, t) (.slice a2 t.kids.length n2)) (by have hc := set4_cells HZ2.out (.string ⟨#[83, 104, 111, 119]⟩) (.int .i64 t.kind) (.string t.name) (.slice a2 t.kids.length n2); simp [results, Try.results25, go_sem, prV, hc.1, hc.2.1, hc.2.2.1, hc.2.2.2]) rfl (pred_fin (q := (⟨#[83, 104, 111, 119]⟩, t)) HS2.out hk2 (H2.out.trans HF2.out) hp HZ2.out HU.out (good_pred (by decide) (by decide) HG.out))
  · go_wp2_with (go_at_call 6; refine (HT.out _ H1.out).mono ?_)
    rintro e W2 ⟨⟨t, u, rfl, hg, hu⟩, ⟨k2, hk2, hs2⟩, hf2⟩
    obtain ⟨a2, n2, rfl⟩ := hu.shape
    have hz2 := hf2.2 _ _ HZ.out HNe.out
    obtain ⟨d0, d1, d2, d3⟩ := four_cells hz2
    have g0 := Lib.frozen_of_heap hz2 0
    have g1 := Lib.frozen_of_heap hz2 1
    have g2 := Lib.frozen_of_heap hz2 2
    have g3 := Lib.frozen_of_heap hz2 3
    have HZ2 := Lib.hid hz2; have HU := Lib.hid hu; have HS2 := Lib.hid hs2; have HF2 := Lib.hid hf2; have HG := Lib.hid hg
    clear hz2 hu hs2 hf2 hg s0 s1 s2 s3
    simp only [tyV]
    go_wp2
    exact bodyPost_ret (v := prV (⟨#[78, 117, 109]⟩, t) (.slice a2 t.kids.length n2)) (by have hc := set4_cells HZ2.out (.string ⟨#[78, 117, 109]⟩) (.int .i64 t.kind) (.string t.name) (.slice a2 t.kids.length n2); simp [results, Try.results25, go_sem, prV, hc.1, hc.2.1, hc.2.2.1, hc.2.2.2]) rfl (pred_fin (q := (⟨#[78, 117, 109]⟩, t)) HS2.out hk2 (H2.out.trans HF2.out) hp HZ2.out HU.out (good_pred (by decide) (by decide) HG.out))
end Go.Proofs.Ytlfbmbbfcijedaa
