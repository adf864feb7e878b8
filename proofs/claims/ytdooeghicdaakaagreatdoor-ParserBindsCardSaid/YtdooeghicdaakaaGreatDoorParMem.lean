/- The reader in memory: its words, its state, its first fault; trees in memory; what a method leaves as it was. -/
import Derived.Test.YtdooeghicdaakaaGreatDoorParPlain
import Derived.Test.YtdooeghicdaakaaGreatDoorSplit
namespace Go.Proofs.YtdooeghicdaakaaGreatDoor
open Go.RowKit
attribute [local go_sem] Oper.semAt_some

/-- The words of a row, in memory. -/
def WordsAt (R : Nat) (w : World) (v : Value) (ws : List Wd) : Prop :=
  ∃ a cap, v = .slice a ws.length cap ∧ (ws = [] ∨ ∃ g, a = some ⟨g, 0, none⟩ ∧ ws.length ≤ cap ∧ g < R ∧
    ∀ i (h : i < ws.length), w.cell? ⟨g, i * 4, none⟩ = some (.int .i64 ws[i].kind) ∧ w.cell? ⟨g, i * 4 + 1, none⟩ = some (.int .i64 ws[i].pos) ∧ w.cell? ⟨g, i * 4 + 2, none⟩ = some (.string ws[i].text) ∧ w.cell? ⟨g, i * 4 + 3, none⟩ = some (.int .i64 ws[i].num))
def wdV (x : Wd) : Value := .agg #[.int .i64 x.kind, .int .i64 x.pos, .string x.text, .int .i64 x.num]
/-- A fault in memory. -/
def FaultAt (w : World) (aP aL : Addr) : Option (Int × Bool) → Value → Prop
  | none, v => v = .nilIface
  | some (p, lim), v => ∃ b, v = errVal b ∧ w.heap[b]? = some (.cells #[.int .i64 p, errL (if lim then aL else aP)] 90 (0, 0))
/-- The two errors of the parser, as the program's text lays them. -/
def TwoErrs (w : World) (aP aL : Addr) : Prop := w.cell? ⟨0, 0, none⟩ = some (errL aP) ∧ w.cell? ⟨1, 0, none⟩ = some (errL aL)
structure Er where
  aP : Addr
  aL : Addr
/-- The reader at block R, in a state. -/
def Rd (c : Cx) (q : Er) (R : Nat) (s : St) (w : World) : Prop :=
  (∃ sv fv, w.heap[R]? = some (.cells #[sv, .int .i64 (s.next : Int), .int .i64 c.len, .int .i64 (s.deep : Int), fv] 50 (0, 0)) ∧ WordsAt R w sv c.ws ∧ FaultAt w q.aP q.aL s.fault fv) ∧
  TwoErrs w q.aP q.aL ∧ (0 < R ∧ 1 < R) ∧ s.next ≤ c.ws.length ∧ s.deep ≤ 200 ∧ c.ws.length ≤ 20000
/-- All but the reader's block stays. -/
def Fr (R : Nat) (w w' : World) : Prop := Below R w w' ∧ ∀ k o, w.heap[k]? = some o → k ≠ R → w'.heap[k]? = some o
theorem Fr.refl (R : Nat) (w : World) : Fr R w w := ⟨Below.refl _ _, fun _ _ h _ => h⟩
theorem Fr.trans {R : Nat} {x y z : World} (h : Fr R x y) (k : Fr R y z) : Fr R x z := ⟨h.1.trans k.1, fun i _ hi hp => k.2 i _ (h.2 i _ hi hp) hp⟩
theorem Fr.of_below {R : Nat} {w w' : World} (h : Below w.heap.size w w') (hR : R ≤ w.heap.size) : Fr R w w' := ⟨h.mono hR, fun k _ hk _ => (h.block k (Array.getElem?_eq_some_iff.1 hk).1).trans hk⟩
theorem Fr.set {R : Nat} (w : World) (i : Nat) (v : Value) : Fr R w (w.setCell ⟨R, i, none⟩ v) := ⟨(Below.refl _ w).setCell (p := ⟨R, i, none⟩) (Nat.le_refl _) _, fun k _ h hk => (Below.heap_setCell w ⟨R, i, none⟩ v k hk).trans h⟩
theorem Fr.size {R : Nat} {w w' : World} (h : Fr R w w') : w.heap.size ≤ w'.heap.size := h.1.size
theorem Rd.lt {c : Cx} {q : Er} {R : Nat} {s : St} {w : World} (h : Rd c q R s w) : R < w.heap.size := by
  obtain ⟨⟨sv, fv, h, _⟩, _⟩ := h
  exact (Array.getElem?_eq_some_iff.1 h).1
theorem WordsAt.keep {R : Nat} {w w' : World} {v : Value} {ws : List Wd} (hb : Below R w w') (h : WordsAt R w v ws) : WordsAt R w' v ws := by
  obtain ⟨a, cap, rfl, h⟩ := h
  refine ⟨a, cap, rfl, ?_⟩
  rcases h with h | ⟨g, e, hc, hg, hi⟩
  · exact .inl h
  · exact .inr ⟨g, e, hc, hg, fun i h => ⟨(hb.cell (p := ⟨g, _, none⟩) hg).trans (hi i h).1, (hb.cell (p := ⟨g, _, none⟩) hg).trans (hi i h).2.1, (hb.cell (p := ⟨g, _, none⟩) hg).trans (hi i h).2.2.1, (hb.cell (p := ⟨g, _, none⟩) hg).trans (hi i h).2.2.2⟩⟩
theorem FaultAt.keep {w w' : World} {aP aL : Addr} {f : Option (Int × Bool)} {v : Value} (hk : ∀ (k : Nat) (cs : Array Value), w.heap[k]? = some (.cells cs 90 (0, 0)) → w'.heap[k]? = some (.cells cs 90 (0, 0))) (h : FaultAt w aP aL f v) : FaultAt w' aP aL f v := by
  match f, h with
  | none, h => exact h
  | some (p, lim), ⟨b, e, h⟩ => exact ⟨b, e, hk _ _ h⟩
theorem blk_ne {w : World} {R k : Nat} {cs cs' : Array Value} {T T' : TypeId} {fz fz' : Nat × Nat} (h : w.heap[R]? = some (.cells cs T fz)) (h' : w.heap[k]? = some (.cells cs' T' fz')) (hT : T' ≠ T) : k ≠ R := by
  rintro rfl
  rw [h] at h'
  simp at h'
  exact hT h'.2.1.symm
/-- The reader's state is read off its block; all else that it leans on stays. -/
theorem Rd.keep {c : Cx} {q : Er} {R : Nat} {s : St} {w w' : World} (h : Rd c q R s w) (hb : Fr R w w') (hR : w'.heap[R]? = w.heap[R]?) : Rd c q R s w' := by
  obtain ⟨⟨sv, fv, h1, h2, h3⟩, ⟨e1, e2⟩, ⟨g1, g2⟩, h5⟩ := h
  refine ⟨⟨sv, fv, hR.trans h1, h2.keep hb.1, h3.keep (fun k cs hk => hb.2 k _ hk (blk_ne h1 hk (by decide)))⟩, ⟨?_, ?_⟩, ⟨g1, g2⟩, h5⟩
  · exact (hb.1.cell (p := ⟨0, 0, none⟩) g1).trans e1
  · exact (hb.1.cell (p := ⟨1, 0, none⟩) g2).trans e2
theorem Rd.below {c : Cx} {q : Er} {R : Nat} {s : St} {w w' : World} (h : Rd c q R s w) (hb : Below w.heap.size w w') : Rd c q R s w' :=
  h.keep (Fr.of_below hb (Nat.le_of_lt h.lt)) (hb.block R h.lt)
/-- The reader's block, with what it leans on. -/
theorem Rd.open {c : Cx} {q : Er} {R : Nat} {s : St} {w : World} (h : Rd c q R s w) : ∃ a cap fv, (w.cell? ⟨R, 0, none⟩ = some (.slice a c.ws.length cap) ∧ w.cell? ⟨R, 1, none⟩ = some (.int .i64 (s.next : Int)) ∧ w.cell? ⟨R, 2, none⟩ = some (.int .i64 c.len) ∧ w.cell? ⟨R, 3, none⟩ = some (.int .i64 (s.deep : Int)) ∧ w.cell? ⟨R, 4, none⟩ = some fv) ∧
    (∀ i, w.frozen? ⟨R, i, none⟩ = false) ∧ (s.next ≤ c.ws.length ∧ s.deep ≤ 200 ∧ c.ws.length ≤ 20000) ∧ FaultAt w q.aP q.aL s.fault fv ∧
    (∀ i (h : i < c.ws.length), ∃ g, a = some ⟨g, 0, none⟩ ∧ c.ws.length ≤ cap ∧ w.cell? ⟨g, i * 4, none⟩ = some (.int .i64 c.ws[i].kind) ∧ w.cell? ⟨g, i * 4 + 1, none⟩ = some (.int .i64 c.ws[i].pos) ∧ w.cell? ⟨g, i * 4 + 2, none⟩ = some (.string c.ws[i].text) ∧ w.cell? ⟨g, i * 4 + 3, none⟩ = some (.int .i64 c.ws[i].num)) := by
  obtain ⟨⟨sv, fv, h1, ⟨a, cap, rfl, h2⟩, h3⟩, _, _, h5⟩ := h
  refine ⟨a, cap, fv, ⟨?_, ?_, ?_, ?_, ?_⟩, fun i => Lib.frozen_of_heap h1 i, h5, h3, ?_⟩
  · rw [Lib.cell_of_heap h1]; rfl
  · rw [Lib.cell_of_heap h1]; rfl
  · rw [Lib.cell_of_heap h1]; rfl
  · rw [Lib.cell_of_heap h1]; rfl
  · rw [Lib.cell_of_heap h1]; rfl
  · intro i hi
    rcases h2 with h2 | ⟨g, e, hc, _, hw⟩
    · rw [h2] at hi; cases hi
    · exact ⟨g, e, hc, hw i hi⟩
theorem block_set {W : World} {b o : Nat} {cs : Array Value} {T : TypeId} {m : Nat × Nat} (h : W.heap[b]? = some (.cells cs T m)) (v : Value) : (W.setCell ⟨b, o, none⟩ v).heap[b]? = some (.cells (cs.setIfInBounds o v) T m) := by
  obtain ⟨hlt, hk⟩ := Array.getElem?_eq_some_iff.1 h
  show (W.heap.modify b _)[b]? = _
  rw [Array.getElem?_eq_getElem (by rw [Array.size_modify]; exact hlt), Array.getElem_modify_self, hk]
  rfl
theorem cells4 {w : World} {p : Nat} {x y z u : Value} {T : TypeId} {fz : Nat × Nat} (h : w.heap[p]? = some (.cells #[x, y, z, u] T fz)) : w.cell? ⟨p, 0, none⟩ = some x ∧ w.cell? ⟨p, 1, none⟩ = some y ∧ w.cell? ⟨p, 2, none⟩ = some z ∧ w.cell? ⟨p, 3, none⟩ = some u := by
  refine ⟨?_, ?_, ?_, ?_⟩ <;> (rw [Lib.cell_of_heap h]; rfl)
theorem cells7 {w : World} {p : Nat} {x0 x1 x2 x3 x4 x5 x6 : Value} {T : TypeId} {fz : Nat × Nat} (h : w.heap[p]? = some (.cells #[x0, x1, x2, x3, x4, x5, x6] T fz)) :
    w.cell? ⟨p, 0, none⟩ = some x0 ∧ w.cell? ⟨p, 1, none⟩ = some x1 ∧ w.cell? ⟨p, 2, none⟩ = some x2 ∧ w.cell? ⟨p, 3, none⟩ = some x3 ∧ w.cell? ⟨p, 4, none⟩ = some x4 ∧ w.cell? ⟨p, 5, none⟩ = some x5 ∧ w.cell? ⟨p, 6, none⟩ = some x6 := by
  refine ⟨?_, ?_, ?_, ?_, ?_, ?_, ?_⟩ <;> (rw [Lib.cell_of_heap h]; rfl)
/-- A store into one of the reader's fields. -/
theorem Rd.setNext {c : Cx} {q : Er} {R : Nat} {s : St} {w : World} (h : Rd c q R s w) (n : Nat) (hn : n ≤ c.ws.length) {v : Value} (hv : v = .int .i64 (n : Int)) : Rd c q R { s with next := n } (w.setCell ⟨R, 1, none⟩ v) := by
  subst hv
  have hf := Fr.set (R := R) w 1 (.int .i64 (n : Int))
  obtain ⟨⟨sv, fv, h1, h2, h3⟩, ⟨e1, e2⟩, ⟨g1, g2⟩, h5, h6⟩ := h
  refine ⟨⟨sv, fv, block_set h1 _, h2.keep hf.1, h3.keep (fun k cs hk => hf.2 k _ hk (blk_ne h1 hk (by decide)))⟩, ⟨?_, ?_⟩, ⟨g1, g2⟩, hn, h6⟩
  · exact (hf.1.cell (p := ⟨0, 0, none⟩) g1).trans e1
  · exact (hf.1.cell (p := ⟨1, 0, none⟩) g2).trans e2
theorem Rd.setDeep {c : Cx} {q : Er} {R : Nat} {s : St} {w : World} (h : Rd c q R s w) (n : Nat) (hn : n ≤ 200) {v : Value} (hv : v = .int .i64 (n : Int)) : Rd c q R { s with deep := n } (w.setCell ⟨R, 3, none⟩ v) := by
  subst hv
  have hf := Fr.set (R := R) w 3 (.int .i64 (n : Int))
  obtain ⟨⟨sv, fv, h1, h2, h3⟩, ⟨e1, e2⟩, ⟨g1, g2⟩, h5, h6, h7⟩ := h
  refine ⟨⟨sv, fv, block_set h1 _, h2.keep hf.1, h3.keep (fun k cs hk => hf.2 k _ hk (blk_ne h1 hk (by decide)))⟩, ⟨?_, ?_⟩, ⟨g1, g2⟩, h5, hn, h7⟩
  · exact (hf.1.cell (p := ⟨0, 0, none⟩) g1).trans e1
  · exact (hf.1.cell (p := ⟨1, 0, none⟩) g2).trans e2
/-- A fault that lies in memory is laid into the reader. -/
theorem Rd.setFault {c : Cx} {q : Er} {R : Nat} {s : St} {w : World} (h : Rd c q R s w) (f : Option (Int × Bool)) {v : Value} (hv : FaultAt w q.aP q.aL f v) : Rd c q R { s with fault := f } (w.setCell ⟨R, 4, none⟩ v) := by
  have hf := Fr.set (R := R) w 4 v
  obtain ⟨⟨sv, fv, h1, h2, h3⟩, ⟨e1, e2⟩, ⟨g1, g2⟩, h5, h6⟩ := h
  refine ⟨⟨sv, v, block_set h1 _, h2.keep hf.1, hv.keep (fun k cs hk => hf.2 k _ hk (blk_ne h1 hk (by decide)))⟩, ⟨?_, ?_⟩, ⟨g1, g2⟩, h5, h6⟩
  · exact (hf.1.cell (p := ⟨0, 0, none⟩) g1).trans e1
  · exact (hf.1.cell (p := ⟨1, 0, none⟩) g2).trans e2

/-- A store into a block behind the reader's, of another type than a fault's. -/
theorem Rd.setOther {c : Cx} {q : Er} {R B i : Nat} {s : St} {w : World} {cs : Array Value} {T : TypeId} {fz : Nat × Nat} {v : Value} (h : Rd c q R s w) (hB : R < B) (hk : w.heap[B]? = some (.cells cs T fz)) (hT : T ≠ 90) : Rd c q R s (w.setCell ⟨B, i, none⟩ v) := by
  obtain ⟨⟨sv, fv, h1, h2, h3⟩, ⟨e1, e2⟩, ⟨g1, g2⟩, h5⟩ := h
  have hb : Below R w (w.setCell ⟨B, i, none⟩ v) := (Below.refl _ w).setCell (p := ⟨B, i, none⟩) (Nat.le_of_lt hB) _
  have ho : ∀ k, k ≠ B → (w.setCell ⟨B, i, none⟩ v).heap[k]? = w.heap[k]? := fun k hk => Below.heap_setCell w ⟨B, i, none⟩ v k hk
  refine ⟨⟨sv, fv, (ho R (by omega)).trans h1, h2.keep hb, h3.keep (fun k cs' hk' => (ho k ?_).trans hk')⟩, ⟨?_, ?_⟩, ⟨g1, g2⟩, h5⟩
  · rintro rfl
    rw [hk] at hk'
    simp at hk'
    exact hT hk'.2.1
  · exact (hb.cell (p := ⟨0, 0, none⟩) g1).trans e1
  · exact (hb.cell (p := ⟨1, 0, none⟩) g2).trans e2
theorem Rd.set4 {c : Cx} {q : Er} {R B : Nat} {s : St} {w : World} {cs : Array Value} {T : TypeId} {fz : Nat × Nat} {v0 v1 v2 v3 : Value} (h : Rd c q R s w) (hB : R < B) (hk : w.heap[B]? = some (.cells cs T fz)) (hT : T ≠ 90) :
    Rd c q R s ((((w.setCell ⟨B, 0, none⟩ v0).setCell ⟨B, 1, none⟩ v1).setCell ⟨B, 2, none⟩ v2).setCell ⟨B, 3, none⟩ v3) :=
  (((h.setOther hB hk hT).setOther hB (block_set hk _) hT).setOther hB (block_set (block_set hk _) _) hT).setOther hB (block_set (block_set (block_set hk _) _) _) hT
theorem Rd.set7 {c : Cx} {q : Er} {R B : Nat} {s : St} {w : World} {cs : Array Value} {T : TypeId} {fz : Nat × Nat} {v0 v1 v2 v3 v4 v5 v6 : Value} (h : Rd c q R s w) (hB : R < B) (hk : w.heap[B]? = some (.cells cs T fz)) (hT : T ≠ 90) :
    Rd c q R s (((((((w.setCell ⟨B, 0, none⟩ v0).setCell ⟨B, 1, none⟩ v1).setCell ⟨B, 2, none⟩ v2).setCell ⟨B, 3, none⟩ v3).setCell ⟨B, 4, none⟩ v4).setCell ⟨B, 5, none⟩ v5).setCell ⟨B, 6, none⟩ v6) :=
  ((h.set4 hB hk hT).setOther hB (block_set (block_set (block_set (block_set hk _) _) _) _) hT).setOther hB (block_set (block_set (block_set (block_set (block_set hk _) _) _) _) _) hT
    |>.setOther hB (block_set (block_set (block_set (block_set (block_set (block_set hk _) _) _) _) _) _) hT
/-- A store into a block that is new since w. -/
theorem Fr.setNew {R B i : Nat} {w w' : World} {v : Value} (h : Fr R w w') (hR : R < w.heap.size) (hB : w.heap.size ≤ B) : Fr R w (w'.setCell ⟨B, i, none⟩ v) :=
  ⟨h.1.setCell (p := ⟨B, i, none⟩) (by show R ≤ B; omega) _, fun k o hk hn => (Below.heap_setCell w' ⟨B, i, none⟩ v k (by have := (Array.getElem?_eq_some_iff.1 hk).1; show k ≠ B; omega)).trans (h.2 k o hk hn)⟩
theorem Fr.set4 {R B : Nat} {w w' : World} {v0 v1 v2 v3 : Value} (h : Fr R w w') (hR : R < w.heap.size) (hB : w.heap.size ≤ B) : Fr R w ((((w'.setCell ⟨B, 0, none⟩ v0).setCell ⟨B, 1, none⟩ v1).setCell ⟨B, 2, none⟩ v2).setCell ⟨B, 3, none⟩ v3) :=
  (((h.setNew hR hB).setNew hR hB).setNew hR hB).setNew hR hB
theorem Fr.set7 {R B : Nat} {w w' : World} {v0 v1 v2 v3 v4 v5 v6 : Value} (h : Fr R w w') (hR : R < w.heap.size) (hB : w.heap.size ≤ B) : Fr R w (((((((w'.setCell ⟨B, 0, none⟩ v0).setCell ⟨B, 1, none⟩ v1).setCell ⟨B, 2, none⟩ v2).setCell ⟨B, 3, none⟩ v3).setCell ⟨B, 4, none⟩ v4).setCell ⟨B, 5, none⟩ v5).setCell ⟨B, 6, none⟩ v6) :=
  (((h.set4 hR hB).setNew hR hB).setNew hR hB).setNew hR hB
theorem Rd.alloc {c : Cx} {q : Er} {R : Nat} {s : St} {w : World} (h : Rd c q R s w) (o : Obj) : Rd c q R s (w.alloc o) := h.below ((Below.refl _ w).alloc (Nat.le_refl _) o)
theorem Fr.alloc {R : Nat} {w w' : World} (h : Fr R w w') (hR : R < w.heap.size) (o : Obj) : Fr R w (w'.alloc o) := h.trans (Fr.of_below ((Below.refl _ w').alloc (Nat.le_refl _) o) (by have := h.size; omega))
end Go.Proofs.YtdooeghicdaakaaGreatDoor
