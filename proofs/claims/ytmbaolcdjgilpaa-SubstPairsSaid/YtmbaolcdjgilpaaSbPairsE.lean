/- SubstPairs: what its last statement keeps. -/
import Derived.Test.YtmbaolcdjgilpaaSbNextQ
namespace Go.Proofs.Ytmbaolcdjgilpaa
open Go.RowKit Go.Sort Go.Lib

def EP (w : World) (bt bs bn D : Nat) (t : T) (pa : Option Addr) (ca : Nat) (xa : Option Addr) (xc : Nat) (ls : List PR) (qa : Option Addr) (qc : Nat) (q : List PR) (V : World) : Prop :=
  ((BoxT bt t pa ca V ∧ BoxS bs (.slice xa ls.length xc) ls V) ∧ BoxS bn nilV [] V) ∧ (V.heap[bs + 1]? = some (.cells #[.int .i64 (ls.length : Int)] 3 (0, 0)) ∧ V.heap[bs + 3]? = some (.cells #[.slice qa ls.length qc] 28 (0, 0))) ∧
    GP (.slice qa ls.length qc) q V ∧ (V.heap[w.heap.size]? = some (.cells #[.bool false] 4 (0, 0)) ∧ V.heap[D]? = some (.deferred (some []))) ∧ Below w.heap.size w V
theorem EP.below {w : World} {bt bs bn D : Nat} {t : T} {pa : Option Addr} {ca : Nat} {xa : Option Addr} {xc : Nat} {ls : List PR} {qa : Option Addr} {qc : Nat} {q : List PR} {X Y : World} (h : EP w bt bs bn D t pa ca xa xc ls qa qc q X) (hb : Below X.heap.size X Y) : EP w bt bs bn D t pa ca xa xc ls qa qc q Y := by
  have st : ∀ {k : Nat} {o : Obj}, X.heap[k]? = some o → Y.heap[k]? = some o := fun hk => (hb.block _ (Array.getElem?_eq_some_iff.1 hk).1).trans hk
  exact ⟨⟨⟨h.1.1.1.below hb, h.1.1.2.below hb⟩, h.1.2.below hb⟩, ⟨st h.2.1.1, st h.2.1.2⟩, h.2.2.1.below hb, ⟨st h.2.2.2.1.1, st h.2.2.2.1.2⟩, h.2.2.2.2.trans (hb.mono h.2.2.2.2.size)⟩
theorem EP.cells {w : World} {bt bs bn D : Nat} {t : T} {pa : Option Addr} {ca : Nat} {xa : Option Addr} {xc : Nat} {ls : List PR} {qa : Option Addr} {qc : Nat} {q : List PR} {X : World} (h : EP w bt bs bn D t pa ca xa xc ls qa qc q X) :
    (X.cell? ⟨bt, 0, none⟩ = some (.int .i64 t.kind) ∧ X.cell? ⟨bt, 1, none⟩ = some (.string t.name) ∧ X.cell? ⟨bt, 2, none⟩ = some (.slice pa t.kids.length ca)) ∧
    (X.cell? ⟨bs, 0, none⟩ = some (.slice xa ls.length xc) ∧ X.cell? ⟨bs + 1, 0, none⟩ = some (.int .i64 (ls.length : Int))) ∧ X.cell? ⟨bs + 1 + 1 + 1, 0, none⟩ = some (.slice qa ls.length qc) ∧ X.cell? ⟨bn, 0, none⟩ = some nilV :=
  ⟨h.1.1.1.cells, ⟨h.1.1.2.cell, by rw [Lib.cell_of_heap h.2.1.1]; rfl⟩, by rw [show bs + 1 + 1 + 1 = bs + 3 from rfl, Lib.cell_of_heap h.2.1.2]; rfl, h.1.2.cell⟩
theorem EP.res {w : World} {bt bs bn D : Nat} {t : T} {pa : Option Addr} {ca : Nat} {xa : Option Addr} {xc : Nat} {ls : List PR} {qa : Option Addr} {qc : Nat} {q : List PR} {X : World} (h : EP w bt bs bn D t pa ca xa xc ls qa qc q X) :
    X.cell? ⟨w.heap.size, 0, none⟩ = some (.bool false) ∧ X.frozen? ⟨w.heap.size, 0, none⟩ = false := ⟨by rw [Lib.cell_of_heap h.2.2.2.1.1]; rfl, Lib.frozen_of_heap h.2.2.2.1.1 0⟩
/-- Out of what was told it is made again. -/
theorem of_again {v : Value} {q ls : List PR} {w : World} (h : GP v q w) (hc : Copy q ls) :
    Calls Try.prog 11 #[v] w fun e w' => (∃ sv l, e = .returned (.agg #[sv]) ∧ SubAt sv l w' ∧ Sb 56 4 (app ls) l) ∧ Below w.heap.size w w' := by
  obtain ⟨⟨h1, h2⟩, h3, h4⟩ := h
  refine (of_any h1 h2 (fun x hx => fits_small (by have := h4 x hx; omega)) (fun x hx => by have := h4 x hx; omega) (by omega)).mono ?_
  rintro e w' ⟨⟨sv, l, rfl, hs, hm⟩, hb⟩
  refine ⟨⟨sv, l, rfl, hs, by have := hm.len; omega, fun x hx => ?_, fun t => ?_⟩, hb⟩
  · obtain ⟨y, hy, _, e⟩ := hm.sub x hx
    rw [e]; exact h4 y hy
  · rw [made_ty hm t]
    exact app_congr (fun n => by unfold ty; rw [hc.lk]) t
theorem len_ret (a : Option Addr) (n c : Nat) (w : World) :
    Calls Try.prog 23 #[.agg #[.slice a n c]] w fun e w' => e = .returned (.int .i64 (n : Int)) ∧ Below w.heap.size w w' := (len_any a n c w).mono (by rintro e w' ⟨rfl, h⟩; exact ⟨rfl, h⟩)
end Go.Proofs.Ytmbaolcdjgilpaa
