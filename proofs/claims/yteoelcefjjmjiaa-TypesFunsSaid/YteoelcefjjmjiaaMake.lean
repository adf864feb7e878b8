/- Numbers taken one by one; the types that are made of them. -/
import Derived.Test.YteoelcefjjmjiaaTySame
import Derived.Deep.RegionHeld3
import Derived.Deep.DrawnRows
import Derived.BigRegion
namespace Go.Proofs.Yteoelcefjjmjiaa
open Go.RowKit
attribute [local go_sem] Oper.semAt_some
attribute [local go_sem ↓] Go.wp_at_zero Go.wp_at_succ

theorem block_set {W : World} {b o : Nat} {cs : Array Value} {T : TypeId} {m : Nat × Nat} (h : W.heap[b]? = some (.cells cs T m)) (v : Value) : (W.setCell ⟨b, o, none⟩ v).heap[b]? = some (.cells (cs.setIfInBounds o v) T m) := by
  obtain ⟨hlt, hk⟩ := Array.getElem?_eq_some_iff.1 h
  show (W.heap.modify b _)[b]? = _
  rw [Array.getElem?_eq_getElem (by rw [Array.size_modify]; exact hlt), Array.getElem_modify_self, hk]
  rfl
theorem ret_int {x y : Int} (h : x = y) : Ending.returned (.int .i64 x) = Ending.returned (.int .i64 y) := by rw [h]

theorem number_any (z : Int) (n : Nat) (w : World) (_ : -9223372036854775808 ≤ z) (_ : z ≤ 9223372036854775807) (hn0 : 0 < n) (hn : n ≤ 1000) :
    Calls Try.prog 44 #[.int .i64 z, .int .i64 (n : Int)] w fun e w' => ∃ r : Nat, r < n ∧ e = .returned (.int .i64 (r : Int)) ∧ w = w' := by
  have k1 := Int.tmod_lt_of_pos z (show (0 : Int) < (n : Int) by omega)
  have k2 := Int.lt_tmod_of_pos z (show (0 : Int) < (n : Int) by omega)
  obtain ⟨q, hq⟩ : ∃ q, z.tmod (n : Int) = q := ⟨_, rfl⟩
  rw [hq] at k1 k2
  have hn1 : ((n : Int) == 0) = false := by simp; omega
  go_enter Try.func44, Try.ntmps44
  go_wp2
  · go_ret
    exact ⟨(q + n).toNat, by omega, ret_int (by omega), rfl⟩
  · go_ret
    exact ⟨q.toNat, by omega, ret_int (by omega), rfl⟩

/-- The ints of a row, in memory below B. -/
def IntsAt (B : Nat) (a : Option Addr) (n : Nat) (w : World) : Prop :=
  n = 0 ∨ ∃ g o, a = some ⟨g, o, none⟩ ∧ g < B ∧ ∀ i, i < n → ∃ z : Int, w.cell? ⟨g, o + i, none⟩ = some (.int .i64 z) ∧ -9223372036854775808 ≤ z ∧ z ≤ 9223372036854775807
/-- A Seq at block p, which has given k numbers. -/
def SeqAt (B p : Nat) (a : Option Addr) (n c k : Nat) (w : World) : Prop :=
  (B ≤ p ∧ w.heap[p]? = some (.cells #[.slice a n c, .int .i64 (k : Int)] 26 (0, 0))) ∧ IntsAt B a n w
/-- What a maker leaves as it was: all below B, and all but its Seq. -/
def MkFr (B p : Nat) (w w' : World) : Prop := Below B w w' ∧ ∀ k o, w.heap[k]? = some o → k ≠ p → w'.heap[k]? = some o
theorem MkFr.refl (B p : Nat) (w : World) : MkFr B p w w := ⟨Below.refl _ _, fun _ _ h _ => h⟩
theorem MkFr.trans {B p : Nat} {x y z : World} (h : MkFr B p x y) (k : MkFr B p y z) : MkFr B p x z := ⟨h.1.trans k.1, fun i o hi hp => k.2 i o (h.2 i o hi hp) hp⟩
theorem MkFr.of_below {B p : Nat} {w w' : World} (h : Below w.heap.size w w') (hB : B ≤ w.heap.size) : MkFr B p w w' := ⟨h.mono hB, fun k _ hk _ => (h.block k (Array.getElem?_eq_some_iff.1 hk).1).trans hk⟩
theorem IntsAt.keep {B : Nat} {a : Option Addr} {n : Nat} {w w' : World} (h : IntsAt B a n w) (hb : Below B w w') : IntsAt B a n w' := by
  rcases h with h | ⟨g, o, e, hg, hi⟩
  · exact .inl h
  · refine .inr ⟨g, o, e, hg, fun i h => ?_⟩
    obtain ⟨z, hz, r⟩ := hi i h
    exact ⟨z, (hb.cell (p := ⟨g, o + i, none⟩) hg).trans hz, r⟩
theorem SeqAt.below {B p : Nat} {a : Option Addr} {n c k : Nat} {w w' : World} (h : SeqAt B p a n c k w) (hb : Below w.heap.size w w') : SeqAt B p a n c k w' := by
  have hp := (Array.getElem?_eq_some_iff.1 h.1.2).1
  exact ⟨⟨h.1.1, (hb.block p hp).trans h.1.2⟩, h.2.keep (hb.mono (by have := h.1.1; omega))⟩
theorem SeqAt.lt {B p : Nat} {a : Option Addr} {n c k : Nat} {w : World} (h : SeqAt B p a n c k w) : p < w.heap.size := (Array.getElem?_eq_some_iff.1 h.1.2).1
theorem KeepT.of_mk {B p : Nat} {a : Option Addr} {n c k : Nat} {w w' : World} (h : MkFr B p w w') (hs : SeqAt B p a n c k w) : KeepT w w' := by
  intro i cs fz hi
  refine h.2 i _ hi fun e => ?_
  subst e
  have := hi.symm.trans hs.1.2
  simp at this

set_option maxHeartbeats 1000000 in
theorem next_any (B p : Nat) (a : Option Addr) (n c k m : Nat) (w : World) (h : SeqAt B p a n c k w) (hm0 : 0 < m) (hm : m ≤ 1000) (hk : k < 1152921504606846976) (_ : n < 1152921504606846976) :
    Calls Try.prog 27 #[.pointer (some ⟨p, 0, none⟩), .int .i64 (m : Int)] w fun e w' => (∃ r : Nat, r < m ∧ e = .returned (.int .i64 (r : Int))) ∧ SeqAt B p a n c (k + 1) w' ∧ MkFr B p w w' := by
  obtain ⟨⟨hB, hp⟩, hi⟩ := h
  have c0 : w.cell? ⟨p, 0, none⟩ = some (.slice a n c) := by rw [Lib.cell_of_heap hp]; rfl
  have c1 : w.cell? ⟨p, 1, none⟩ = some (.int .i64 (k : Int)) := by rw [Lib.cell_of_heap hp]; rfl
  have f1 : w.frozen? ⟨p, 1, none⟩ = false := Lib.frozen_of_heap hp 1
  have HI := Lib.hid hi
  have HP := Lib.hid hp
  have HN := Lib.hid (fun z W h1 h2 => number_any z m W h1 h2 hm0 hm)
  clear hi hp
  have fin : ∀ W : World, Below B w W → (∀ i o, w.heap[i]? = some o → i ≠ p → W.heap[i]? = some o) → W.heap[p]? = some (.cells #[.slice a n c, .int .i64 ((k + 1 : Nat) : Int)] 26 (0, 0)) → SeqAt B p a n c (k + 1) W ∧ MkFr B p w W :=
    fun W hb ho h => ⟨⟨⟨hB, h⟩, HI.out.keep hb⟩, hb, ho⟩
  have HF := Lib.hid fin; clear fin
  by_cases hlt : k < n
  · have hlt' : ((k : Int) < (n : Int)) := by omega
    rcases HI.out with h0 | ⟨g, o, rfl, hg, hcell⟩
    · omega
    · obtain ⟨z, hz, hz1, hz2⟩ := hcell k hlt
      clear hcell
      go_enter Try.func27, Try.ntmps27
      go_wp2
      go_quiet (fail)
      go_wp2
      go_quiet (fail)
      go_wp2_with (go_at_call 44; refine (HN.out _ _ hz1 hz2).mono ?_)
      rintro e W2 ⟨r, hr, rfl, rfl⟩
      go_wp2
      go_ret
      refine ⟨⟨r, hr, rfl⟩, HF.out _ ?_ ?_ ?_⟩
      · exact (below_drewN (Below.refl _ _) _).setCell (p := ⟨p, 1, none⟩) hB _
      · intro i o' hi hip
        exact (Below.heap_setCell _ ⟨p, 1, none⟩ _ i hip).trans hi
      · exact (block_set (W := w.drewN _) (show (w.drewN _).heap[p]? = _ from HP.out) _)
  · have hlt' : ¬ ((k : Int) < (n : Int)) := by omega
    go_enter Try.func27, Try.ntmps27
    go_wp2
    go_quiet (fail)
    go_wp2_with (go_at_call 44; refine (HN.out 0 _ (by decide) (by decide)).mono ?_)
    rintro e W2 ⟨r, hr, rfl, rfl⟩
    go_wp2
    go_ret
    refine ⟨⟨r, hr, rfl⟩, HF.out _ ?_ ?_ ?_⟩
    · exact (below_drewN (Below.refl _ _) _).setCell (p := ⟨p, 1, none⟩) hB _
    · intro i o' hi hip
      exact (Below.heap_setCell _ ⟨p, 1, none⟩ _ i hip).trans hi
    · exact (block_set (W := w.drewN _) (show (w.drewN _).heap[p]? = _ from HP.out) _)
end Go.Proofs.Yteoelcefjjmjiaa
