/- group.rings: what is made ahead of its loop. -/
import Derived.Test.YtlpifioneafciaaGrClone
import Derived.Test.YtlpifioneafciaaRegMark
namespace Go.Proofs.Ytlpifioneafciaa
open Go.RowKit Go.Maps Go.Lib
attribute [local go_sem] Oper.semAt_some

theorem depL {o : Oper} {L : Nat → Bool} (h : ∀ e ∈ o.after, Region.binds .any e = true → L e.on = true) (j : Nat)
    (hj : (o.after.any fun e => Region.binds .any e && e.on == j) = true) : L j = true := by
  rw [Array.any_eq_true'] at hj
  obtain ⟨e, he, hj⟩ := hj
  simp only [Bool.and_eq_true, beq_iff_eq] at hj
  have := h e he hj.1
  rw [hj.2] at this; exact this
theorem below_dG (X : World) : Below X.heap.size X X.drew := (Below.refl _ X).drew
/-- Nothing is met yet. -/
def grInit (needs : Nat → List Nat) : SS := ⟨needs, fun _ => 0, fun _ => 0, fun _ => 0, [], [], 0, 0⟩
def slB : Value → Nat
  | .slice (some a) _ _ => a.block
  | _ => 0
theorem slB_ptr (k n c : Nat) : slB (.slice (some ⟨k, 0, none⟩) n c) = k := rfl
theorem alloc_getG (w : World) (o : Obj) : (w.alloc o).heap[w.heap.size]? = some o := by show (w.heap.push o)[w.heap.size]? = _; simp
def nilS : Value := .slice none 0 0
/-- What holds between the rows that are made, and the block that they are put into. -/
structure MkR (B n : Nat) (needs : Nat → List Nat) (L : Nat → Bool) (x : Nat → Value) (V : World) : Prop where
  a3 : L 3 = true → slB (x 3) < V.heap.size
  a5 : L 5 = true → slB (x 5) < V.heap.size
  a7 : L 7 = true → slB (x 7) < V.heap.size
  d35 : L 3 = true → L 5 = true → slB (x 3) ≠ slB (x 5)
  d37 : L 3 = true → L 7 = true → slB (x 3) ≠ slB (x 7)
  d57 : L 5 = true → L 7 = true → slB (x 5) ≠ slB (x 7)
  l8 : L 8 = true → L 1 = true ∧ L 3 = true ∧ L 5 = true ∧ L 7 = true ∧ x 8 = .agg #[x 1, x 3, x 5, x 7, nilS, nilS, .int .i64 0, .int .i64 0]
  l9 : L 9 = true → L 10 = false → ∃ p, x 9 = .pointer (some ⟨p, 0, none⟩) ∧ B ≤ p ∧ V.heap[p]? = some (.cells #[nilS, nilS, nilS, nilS, nilS, nilS, .int .i64 0, .int .i64 0] 72 (0, 0))
  l10 : L 10 = true → L 9 = true ∧ L 8 = true ∧ ∃ p qs cs qm ql qr, x 9 = .pointer (some ⟨p, 0, none⟩) ∧ SM B p n qs cs qm ql qr nilS nilS (grInit needs) V
theorem MkR.start (B n : Nat) (needs : Nat → List Nat) (x : Nat → Value) (V : World) : MkR B n needs (fun _ => false) x V := ⟨fun h => (by cases h), fun h => (by cases h), fun h => (by cases h), fun h => (by cases h), fun h => (by cases h), fun h => (by cases h), fun h => (by cases h), fun h => (by cases h), fun h => (by cases h)⟩
/-- Something else is done. -/
theorem MkR.keep {B n : Nat} {needs : Nat → List Nat} {L : Nat → Bool} {x : Nat → Value} {V Y : World} {i : Nat} {v : Value} (h : MkR B n needs L x V) (hi : i ≠ 1 ∧ i ≠ 3 ∧ i ≠ 5 ∧ i ≠ 7 ∧ i ≠ 8 ∧ i ≠ 9 ∧ i ≠ 10) (hb : Below V.heap.size V Y) : MkR B n needs (updB L i) (upd x i v) Y := by
  obtain ⟨h1, h3, h5, h7, h8, h9, h10⟩ := hi
  have hs := hb.size
  refine ⟨?_, ?_, ?_, ?_, ?_, ?_, ?_, ?_, ?_⟩ <;> simp only [updB_other L (Ne.symm h1), updB_other L (Ne.symm h3), updB_other L (Ne.symm h5), updB_other L (Ne.symm h7), updB_other L (Ne.symm h8), updB_other L (Ne.symm h9), updB_other L (Ne.symm h10), upd_other x v (Ne.symm h1), upd_other x v (Ne.symm h3), upd_other x v (Ne.symm h5), upd_other x v (Ne.symm h7), upd_other x v (Ne.symm h8), upd_other x v (Ne.symm h9)]
  · exact fun e => Nat.lt_of_lt_of_le (h.a3 e) hs
  · exact fun e => Nat.lt_of_lt_of_le (h.a5 e) hs
  · exact fun e => Nat.lt_of_lt_of_le (h.a7 e) hs
  · exact h.d35
  · exact h.d37
  · exact h.d57
  · exact h.l8
  · exact fun e e2 => by obtain ⟨p, a, b, c⟩ := h.l9 e e2; exact ⟨p, a, b, (hb.block p (heap_at c)).trans c⟩
  · exact fun e => by obtain ⟨a, b, p, qs, cs, qm, ql, qr, e1, e2⟩ := h.l10 e; exact ⟨a, b, p, qs, cs, qm, ql, qr, e1, e2.below hb⟩
theorem MkR.s1 {B n : Nat} {needs : Nat → List Nat} {L : Nat → Bool} {x : Nat → Value} {V Y : World} {v : Value} (h : MkR B n needs L x V) (hl : L 1 = false) (hb : Below V.heap.size V Y) : MkR B n needs (updB L 1) (upd x 1 v) Y := by
  have hs := hb.size
  have n8 : L 8 = true → False := fun e => by have := (h.l8 e).1; rw [hl] at this; cases this
  refine ⟨fun e => ?_, fun e => ?_, fun e => ?_, fun e e2 => ?_, fun e e2 => ?_, fun e e2 => ?_, fun e => ?_, fun e e2 => ?_, fun e => ?_⟩ <;> simp only [updB, upd] at * <;> simp at *
  · exact Nat.lt_of_lt_of_le (h.a3 e) hs
  · exact Nat.lt_of_lt_of_le (h.a5 e) hs
  · exact Nat.lt_of_lt_of_le (h.a7 e) hs
  · exact h.d35 e e2
  · exact h.d37 e e2
  · exact h.d57 e e2
  · rw [n8] at e; cases e
  · obtain ⟨p, a, b, c⟩ := h.l9 e e2; exact ⟨p, a, b, (hb.block p (heap_at c)).trans c⟩
  · have := (h.l10 e).2.1; rw [n8] at this; cases this
theorem MkR.s3 {B n c : Nat} {needs : Nat → List Nat} {L : Nat → Bool} {x : Nat → Value} {V : World} {o : Obj} (h : MkR B n needs L x V) (hl : L 3 = false) : MkR B n needs (updB L 3) (upd x 3 (.slice (some ⟨V.heap.size, 0, none⟩) n c)) (V.alloc o) := by
  have hb := below_allocG V o
  have hs : V.heap.size < (V.alloc o).heap.size := by simp
  have n8 : L 8 = false := by cases e : L 8 with
    | false => rfl
    | true => have := (h.l8 e).2.1; rw [hl] at this; cases this
  refine ⟨fun e => ?_, fun e => ?_, fun e => ?_, fun e e2 => ?_, fun e e2 => ?_, fun e e2 => ?_, fun e => ?_, fun e e2 => ?_, fun e => ?_⟩ <;> simp only [updB, upd] at * <;> simp [slB_ptr] at *
  · exact Nat.lt_of_lt_of_le (h.a5 e) (by omega)
  · exact Nat.lt_of_lt_of_le (h.a7 e) (by omega)
  · have := h.a5 e2; omega
  · have := h.a7 e2; omega
  · exact h.d57 e e2
  · rw [n8] at e; cases e
  · obtain ⟨p, a, b, c⟩ := h.l9 e e2; exact ⟨p, a, b, (hb.block p (heap_at c)).trans c⟩
  · have := (h.l10 e).2.1; rw [n8] at this; cases this
theorem MkR.s5 {B n c : Nat} {needs : Nat → List Nat} {L : Nat → Bool} {x : Nat → Value} {V : World} {o : Obj} (h : MkR B n needs L x V) (hl : L 5 = false) : MkR B n needs (updB L 5) (upd x 5 (.slice (some ⟨V.heap.size, 0, none⟩) n c)) (V.alloc o) := by
  have hb := below_allocG V o
  have hs : V.heap.size < (V.alloc o).heap.size := by simp
  have n8 : L 8 = false := by cases e : L 8 with
    | false => rfl
    | true => have := (h.l8 e).2.2.1; rw [hl] at this; cases this
  refine ⟨fun e => ?_, fun e => ?_, fun e => ?_, fun e e2 => ?_, fun e e2 => ?_, fun e e2 => ?_, fun e => ?_, fun e e2 => ?_, fun e => ?_⟩ <;> simp only [updB, upd] at * <;> simp [slB_ptr] at *
  · exact Nat.lt_of_lt_of_le (h.a3 e) (by omega)
  · exact Nat.lt_of_lt_of_le (h.a7 e) (by omega)
  · have := h.a3 e; omega
  · exact h.d37 e e2
  · have := h.a7 e2; omega
  · rw [n8] at e; cases e
  · obtain ⟨p, a, b, c⟩ := h.l9 e e2; exact ⟨p, a, b, (hb.block p (heap_at c)).trans c⟩
  · have := (h.l10 e).2.1; rw [n8] at this; cases this
theorem MkR.s7 {B n c : Nat} {needs : Nat → List Nat} {L : Nat → Bool} {x : Nat → Value} {V : World} {o : Obj} (h : MkR B n needs L x V) (hl : L 7 = false) : MkR B n needs (updB L 7) (upd x 7 (.slice (some ⟨V.heap.size, 0, none⟩) n c)) (V.alloc o) := by
  have hb := below_allocG V o
  have hs : V.heap.size < (V.alloc o).heap.size := by simp
  have n8 : L 8 = false := by cases e : L 8 with
    | false => rfl
    | true => have := (h.l8 e).2.2.2.1; rw [hl] at this; cases this
  refine ⟨fun e => ?_, fun e => ?_, fun e => ?_, fun e e2 => ?_, fun e e2 => ?_, fun e e2 => ?_, fun e => ?_, fun e e2 => ?_, fun e => ?_⟩ <;> simp only [updB, upd] at * <;> simp [slB_ptr] at *
  · exact Nat.lt_of_lt_of_le (h.a3 e) (by omega)
  · exact Nat.lt_of_lt_of_le (h.a5 e) (by omega)
  · exact h.d35 e e2
  · have := h.a3 e; omega
  · have := h.a5 e; omega
  · rw [n8] at e; cases e
  · obtain ⟨p, a, b, c⟩ := h.l9 e e2; exact ⟨p, a, b, (hb.block p (heap_at c)).trans c⟩
  · have := (h.l10 e).2.1; rw [n8] at this; cases this
theorem MkR.s8 {B n : Nat} {needs : Nat → List Nat} {L : Nat → Bool} {x : Nat → Value} {V : World} (h : MkR B n needs L x V) (hl : L 8 = false) (h1 : L 1 = true) (h3 : L 3 = true) (h5 : L 5 = true) (h7 : L 7 = true) : MkR B n needs (updB L 8) (upd x 8 (.agg #[x 1, x 3, x 5, x 7, nilS, nilS, .int .i64 0, .int .i64 0])) V := by
  refine ⟨fun e => ?_, fun e => ?_, fun e => ?_, fun e e2 => ?_, fun e e2 => ?_, fun e e2 => ?_, fun e => ?_, fun e e2 => ?_, fun e => ?_⟩ <;> simp only [updB, upd] at * <;> simp at *
  · exact h.a3 e
  · exact h.a5 e
  · exact h.a7 e
  · exact h.d35 e e2
  · exact h.d37 e e2
  · exact h.d57 e e2
  · exact ⟨h1, h3, h5, h7⟩
  · exact h.l9 e e2
  · have := (h.l10 e).2.1; rw [hl] at this; cases this
theorem MkR.s9 {B n : Nat} {needs : Nat → List Nat} {L : Nat → Bool} {x : Nat → Value} {V : World} (h : MkR B n needs L x V) (hl : L 9 = false) (hB : B ≤ V.heap.size) : MkR B n needs (updB L 9) (upd x 9 (.pointer (some ⟨V.heap.size, 0, none⟩))) (V.alloc (.cells #[nilS, nilS, nilS, nilS, nilS, nilS, .int .i64 0, .int .i64 0] 72)) := by
  refine ⟨fun e => ?_, fun e => ?_, fun e => ?_, fun e e2 => ?_, fun e e2 => ?_, fun e e2 => ?_, fun e => ?_, fun e e2 => ?_, fun e => ?_⟩ <;> simp only [updB, upd] at * <;> simp at *
  · have := h.a3 e; omega
  · have := h.a5 e; omega
  · have := h.a7 e; omega
  · exact h.d35 e e2
  · exact h.d37 e e2
  · exact h.d57 e e2
  · exact h.l8 e
  · exact ⟨hB, by have := alloc_getG V (.cells #[nilS, nilS, nilS, nilS, nilS, nilS, .int .i64 0, .int .i64 0] 72); exact (Array.getElem?_eq_some_iff.1 this).2⟩
  · have := (h.l10 e).1; rw [hl] at this; cases this
def set8 (W : World) (p : Nat) (a b c d e f g h : Value) : World := (((((((W.setCell ⟨p, 0, none⟩ a).setCell ⟨p, 1, none⟩ b).setCell ⟨p, 2, none⟩ c).setCell ⟨p, 3, none⟩ d).setCell ⟨p, 4, none⟩ e).setCell ⟨p, 5, none⟩ f).setCell ⟨p, 6, none⟩ g).setCell ⟨p, 7, none⟩ h
theorem set8_block {W : World} {p : Nat} {a' b' c' d' e' f' g' h' : Value} {T : TypeId} {fz : Nat × Nat} (hh : W.heap[p]? = some (.cells #[a', b', c', d', e', f', g', h'] T fz)) (a b c d e f g h : Value) : (set8 W p a b c d e f g h).heap[p]? = some (.cells #[a, b, c, d, e, f, g, h] T fz) := by
  have := blk_setG (o := 7) (blk_setG (o := 6) (blk_setG (o := 5) (blk_setG (o := 4) (blk_setG (o := 3) (blk_setG (o := 2) (blk_setG (o := 1) (blk_setG (o := 0) hh a) b) c) d) e) f) g) h
  unfold set8
  rw [this]
  simp
theorem set8_other (W : World) (p : Nat) (a b c d e f g h : Value) {k : Nat} (hk : k ≠ p) : (set8 W p a b c d e f g h).heap[k]? = W.heap[k]? := by
  unfold set8
  rw [heap_set _ ⟨p, 7, none⟩ _ k hk, heap_set _ ⟨p, 6, none⟩ _ k hk, heap_set _ ⟨p, 5, none⟩ _ k hk, heap_set _ ⟨p, 4, none⟩ _ k hk, heap_set _ ⟨p, 3, none⟩ _ k hk, heap_set _ ⟨p, 2, none⟩ _ k hk, heap_set _ ⟨p, 1, none⟩ _ k hk, heap_set _ ⟨p, 0, none⟩ _ k hk]
theorem below_set8 {B : Nat} {w W : World} (h : Below B w W) {p : Nat} (hB : B ≤ p) (a b c d e f g k : Value) : Below B w (set8 W p a b c d e f g k) :=
  (((((((h.setCell (p := ⟨p, 0, none⟩) hB a).setCell (p := ⟨p, 1, none⟩) hB b).setCell (p := ⟨p, 2, none⟩) hB c).setCell (p := ⟨p, 3, none⟩) hB d).setCell (p := ⟨p, 4, none⟩) hB e).setCell (p := ⟨p, 5, none⟩) hB f).setCell (p := ⟨p, 6, none⟩) hB g).setCell (p := ⟨p, 7, none⟩) hB k
/-- All other blocks stay, and those below B. -/
def ButP (B p : Nat) (V Y : World) : Prop := (∃ cs, V.heap[p]? = some (.cells cs 72 (0, 0))) ∧ B ≤ p ∧ ∀ k, k ≠ p → Y.heap[k]? = V.heap[k]?
theorem RestAt.butP {B p q n : Nat} {rest : Nat → List Nat} {V Y : World} (h : RestAt B q n rest V) (hb : ButP B p V Y) : RestAt B q n rest Y := by
  obtain ⟨⟨cs, hp⟩, hB, hk⟩ := hb
  obtain ⟨cs', hq, _⟩ := id h
  exact h.keep (hk q fun e => by subst e; rw [hp] at hq; simp at hq) fun k hkB => hk k (by omega)
theorem OwnI.butP {B p : Nat} {v : Value} {l : List Nat} {V Y : World} (h : OwnI B v l V) (hb : ButP B p V Y) : OwnI B v l Y := by
  obtain ⟨⟨cs, hp⟩, hB, hk⟩ := hb
  exact h.keepAt fun k e => hk k fun e2 => own_ne h hp (by decide) (e2 ▸ e)
theorem RowsAt.butP {B p g n : Nat} {needs : Nat → List Nat} {V Y : World} (h : RowsAt B g n needs V) (hb : ButP B p V Y) : RowsAt B g n needs Y := by
  obtain ⟨⟨cs, hp⟩, hB, hk⟩ := hb
  obtain ⟨cs', fz, h1, h2, h3⟩ := h
  exact ⟨cs', fz, (hk g fun e => by subst e; rw [hp] at h1; simp at h1).trans h1, h2, fun i hi => by obtain ⟨v, e, hr⟩ := h3 i hi; exact ⟨v, e, hr.below fun k hkB => hk k (by omega)⟩⟩
/-- The search, as it is made. -/
theorem made_search {B p n qs cs qm ql qr : Nat} {needs : Nat → List Nat} {V : World} (hp : V.heap[p]? = some (.cells #[nilS, nilS, nilS, nilS, nilS, nilS, .int .i64 0, .int .i64 0] 72 (0, 0))) (hB : B ≤ p) (hq : B ≤ qs) (h1 : RestAt B qs n needs V)
    (h2 : OwnI B (.slice (some ⟨qm, 0, none⟩) n n) ((List.range n).map fun _ => 0) V) (h3 : OwnI B (.slice (some ⟨ql, 0, none⟩) n n) ((List.range n).map fun _ => 0) V) (h4 : OwnI B (.slice (some ⟨qr, 0, none⟩) n n) ((List.range n).map fun _ => 0) V) (d1 : qm ≠ ql) (d2 : qm ≠ qr) (d3 : ql ≠ qr) :
    SM B p n qs cs qm ql qr nilS nilS (grInit needs) (set8 V p (.slice (some ⟨qs, 0, none⟩) n cs) (.slice (some ⟨qm, 0, none⟩) n n) (.slice (some ⟨ql, 0, none⟩) n n) (.slice (some ⟨qr, 0, none⟩) n n) nilS nilS (.int .i64 0) (.int .i64 0)) := by
  have hb : ButP B p V (set8 V p (.slice (some ⟨qs, 0, none⟩) n cs) (.slice (some ⟨qm, 0, none⟩) n n) (.slice (some ⟨ql, 0, none⟩) n n) (.slice (some ⟨qr, 0, none⟩) n n) nilS nilS (.int .i64 0) (.int .i64 0)) := ⟨⟨_, hp⟩, hB, fun k hk => set8_other V p _ _ _ _ _ _ _ _ hk⟩
  exact ⟨set8_block hp _ _ _ _ _ _ _ _, h1.butP hb, h2.butP hb, h3.butP hb, h4.butP hb, World.ownsRow_nil _ _ _ _, World.ownsRow_nil _ _ _ _, d1, d2, d3, fun k e => (by cases e), fun k e => (by cases e), hB, hq⟩
theorem MkR.s10 {B n p qs cs qm ql qr : Nat} {needs : Nat → List Nat} {L : Nat → Bool} {x : Nat → Value} {V Y : World} {v : Value} (h : MkR B n needs L x V) (h8 : L 8 = true) (h9 : L 9 = true) (hx : x 9 = .pointer (some ⟨p, 0, none⟩)) (hs : V.heap.size ≤ Y.heap.size) (hm : SM B p n qs cs qm ql qr nilS nilS (grInit needs) Y) : MkR B n needs (updB L 10) (upd x 10 v) Y := by
  refine ⟨fun e => ?_, fun e => ?_, fun e => ?_, fun e e2 => ?_, fun e e2 => ?_, fun e e2 => ?_, fun e => ?_, fun e e2 => ?_, fun e => ?_⟩ <;> simp only [updB, upd] at * <;> simp at *
  · exact Nat.lt_of_lt_of_le (h.a3 e) hs
  · exact Nat.lt_of_lt_of_le (h.a5 e) hs
  · exact Nat.lt_of_lt_of_le (h.a7 e) hs
  · exact h.d35 e e2
  · exact h.d37 e e2
  · exact h.d57 e e2
  · exact h.l8 e
  · exact ⟨h9, h8, p, hx, qs, cs, qm, ql, qr, hm⟩
end Go.Proofs.Ytlpifioneafciaa
