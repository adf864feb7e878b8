/- The words that Split has made, as a row; bytes in a new block. -/
import Derived.Test.YtdooeghicdaakaaGreatDoorSplit
namespace Go.Proofs.YtdooeghicdaakaaGreatDoor
open Go.RowKit

theorem rowOf_at (s : ByteArray) (ts : List Tok) (i j : Nat) (hi : i < ts.length) (hj : j < 4) : (rowOf s ts)[i * 4 + j]? = (tokCells s ts[i])[j]? := by
  induction ts generalizing i with
  | nil => simp at hi
  | cons t r ih =>
    have hl : (tokCells s t).length = 4 := rfl
    have e : rowOf s (t :: r) = tokCells s t ++ rowOf s r := rfl
    rw [e]
    cases i with
    | zero => rw [Nat.zero_mul, Nat.zero_add, List.getElem?_append_left (by rw [hl]; exact hj)]; rfl
    | succ i =>
      rw [List.getElem?_append_right (by rw [hl]; omega), hl]
      have := ih i (by simpa using hi)
      rw [show (i + 1) * 4 + j - 4 = i * 4 + j by omega, this]
      rfl

/-- The row of the words at block g. -/
def ToksAt (W : World) (g : Nat) (s : ByteArray) (ts : List Tok) : Prop :=
  ∀ i (h : i < ts.length), W.cell? ⟨g, i * 4, none⟩ = some (.int .i64 ts[i].kind) ∧ W.cell? ⟨g, i * 4 + 1, none⟩ = some (.int .i64 ts[i].pos) ∧
    W.cell? ⟨g, i * 4 + 2, none⟩ = some (.string ((s.extract ts[i].pos s.size).extract 0 ts[i].len)) ∧ W.cell? ⟨g, i * 4 + 3, none⟩ = some (.int .i64 ts[i].num)
theorem add_plain (g j : Nat) : (⟨g, 0, none⟩ : Addr).add j = ⟨g, j, none⟩ := by unfold Addr.add; split <;> simp_all
theorem row_toks {W : World} {base : Nat} {v : Value} {s : ByteArray} {ts : List Tok} (h : W.ownsRow base 52 4 v ts.length (rowOf s ts)) :
    (v = .slice none 0 0 ∧ ts = []) ∨ ∃ g cap, v = .slice (some ⟨g, 0, none⟩) ts.length cap ∧ base ≤ g ∧ g < W.heap.size ∧ ts.length ≤ cap ∧ ToksAt W g s ts := by
  rcases h.2 with ⟨hv, h0⟩ | ⟨g, cap, cur, hv, hb, hg, hc, _⟩
  · exact .inl ⟨hv, List.length_eq_zero_iff.1 h0⟩
  · have hcell := h.cells (g := g) (by rw [hv]; rfl)
    refine .inr ⟨g, cap, hv, hb, (Array.getElem?_eq_some_iff.1 hg).1, hc, fun i hi => ?_⟩
    have f := fun j (hj : j < 4) u (hu : (tokCells s ts[i])[j]? = some u) => (add_plain g (i * 4 + j)) ▸ hcell (i * 4 + j) u ((rowOf_at s ts i j hi hj).trans hu)
    exact ⟨f 0 (by omega) _ rfl, f 1 (by omega) _ rfl, f 2 (by omega) _ rfl, f 3 (by omega) _ rfl⟩
theorem ToksAt.later {W W' : World} {g : Nat} {s : ByteArray} {ts : List Tok} (h : ToksAt W g s ts) (hb : Below W.heap.size W W') (hg : g < W.heap.size) : ToksAt W' g s ts := fun i hi =>
  have f := fun o => hb.cell (p := ⟨g, o, none⟩) hg
  ⟨(f _).trans (h i hi).1, (f _).trans (h i hi).2.1, (f _).trans (h i hi).2.2.1, (f _).trans (h i hi).2.2.2⟩

/-- A new block of bytes, marked or not, reads as its bytes. -/
theorem bytes_new (w : World) (l : List UInt8) (m : Nat × Nat) (n cap : Nat) (hn : n = l.length) :
    BytesAt (w.alloc (.cells (l.map fun c => Value.int .u8 (c.toNat : Int)).toArray 5 m)) (.slice (some ⟨w.heap.size, 0, none⟩) n cap) ⟨l.toArray⟩ := by
  have hz : (⟨l.toArray⟩ : ByteArray).size = l.length := by simp [ByteArray.size]
  refine ⟨some ⟨w.heap.size, 0, none⟩, cap, by rw [hz, hn], .inr ⟨w.heap.size, 0, rfl, fun i hi => ?_⟩⟩
  have := World.alloc_heap_new w (.cells (l.map fun c => Value.int .u8 (c.toNat : Int)).toArray 5 m)
  rw [hz] at hi
  simp only [World.cell?, this, Nat.zero_add]
  simp [hi]
  rfl

theorem first_cell {w : World} {a : Addr} {v : Value} (h : w.cell? a = some v) (o : Obj) : (w.alloc o).cell? a = some v := Lib.cell?_alloc_marked o h
end Go.Proofs.YtdooeghicdaakaaGreatDoor
