import Derived.Test.YtnlpilceooncmaaDoorFirst
import Derived.Lib.AppendStr
import Derived.Lib.AppendZeros
namespace Go.Proofs.YtnlpilceooncmaaDoor
open Go.RowKit

theorem Tryd.info5 : (Tryd.prog.info? 5).map (fun i => (i.zero, i.size, i.bytes)) = some (some (.int .u8 0), 1, 1) := by kernel_rfl

def byteVals (l : List UInt8) : List Value := l.map fun c => Value.int .u8 (c.toNat : Int)
theorem byteVals_length (l : List UInt8) : (byteVals l).length = l.length := by simp [byteVals]
theorem byteVals_append (a b : List UInt8) : byteVals (a ++ b) = byteVals a ++ byteVals b := by simp [byteVals]
theorem byteVals_one (l : List UInt8) : ∀ u ∈ byteVals l, u.oneCell' = true := by
  intro u hu
  simp only [byteVals, List.mem_map] at hu
  obtain ⟨c, _, rfl⟩ := hu
  rfl
theorem strCells_bytes (s : ByteArray) : Lib.strCells s = byteVals s.data.toList := rfl

/-- The slice v holds the bytes l; it may be appended to: its row is the call's own, or it is full. -/
def Grows (w : World) (base : Nat) (v : Value) (l : List UInt8) : Prop :=
  w.ownsRow base 5 1 v l.length (byteVals l) ∨
    ∃ g m, v = .slice (some ⟨g, 0, none⟩) l.length l.length ∧ base ≤ g ∧ w.heap[g]? = some (.cells (byteVals l).toArray 5 m)

theorem Grows.nil (w : World) (base : Nat) : Grows w base (.slice none 0 0) [] := .inl (World.ownsRow_nil _ _ _ _)
theorem Grows.later {w w' : World} {base : Nat} {v : Value} {l : List UInt8} (h : Grows w base v l) (hb : Below w.heap.size w w') : Grows w' base v l := by
  rcases h with h | ⟨g, m, hv, hg, hc⟩
  · exact .inl (h.kept (grown_of_below hb) (by cases hv : v.ownBlock <;> simp))
  · exact .inr ⟨g, m, hv, hg, (hb.block g (Array.getElem?_eq_some_iff.1 hc).1).trans hc⟩
theorem Grows.cells {w : World} {base : Nat} {v : Value} {l : List UInt8} (h : Grows w base v l) : (v = .slice none 0 0 ∧ l = []) ∨ ∃ g cap, v = .slice (some ⟨g, 0, none⟩) l.length cap ∧ base ≤ g ∧ g < w.heap.size ∧ l.length ≤ cap ∧ v.ownBlock = some g ∧
    ∀ j u, (byteVals l)[j]? = some u → w.cell? ⟨g, j, none⟩ = some u := by
  rcases h with h | ⟨g, m, hv, hg, hc⟩
  · rcases h.2 with ⟨hv, h0⟩ | ⟨g, cap, cur, hv, hb, hg, hc, _⟩
    · exact .inl ⟨hv, List.length_eq_zero_iff.1 h0⟩
    · have hcell := h.cells (g := g) (by rw [hv]; rfl)
      exact .inr ⟨g, cap, hv, hb, (Array.getElem?_eq_some_iff.1 hg).1, hc, by rw [hv]; rfl, fun j u hu => add_plain g j ▸ hcell j u hu⟩
  · refine .inr ⟨g, l.length, hv, hg, (Array.getElem?_eq_some_iff.1 hc).1, Nat.le_refl _, by rw [hv]; rfl, fun j u hu => ?_⟩
    simp only [World.cell?, hc]
    simpa using hu
theorem Grows.bytes {w : World} {base : Nat} {v : Value} {l : List UInt8} (h : Grows w base v l) : BytesAt w v ⟨l.toArray⟩ := by
  have hz : (⟨l.toArray⟩ : ByteArray).size = l.length := by simp [ByteArray.size]
  rcases h.cells with ⟨rfl, rfl⟩ | ⟨g, cap, rfl, _, _, _, _, hc⟩
  · exact ⟨none, 0, rfl, .inl rfl⟩
  · refine ⟨some ⟨g, 0, none⟩, cap, by rw [hz], .inr ⟨g, 0, rfl, fun i hi => ?_⟩⟩
    rw [hz] at hi
    rw [Nat.zero_add]
    refine hc i _ ?_
    simp [byteVals, hi]
    rfl

/-- Appending bytes: a slice's. -/
theorem app_slice {w : World} {base : Nat} {v : Value} {l : List UInt8} (h : Grows w base v l) (hb : base ≤ w.heap.size) (ad : Addr) (news : List UInt8) (c : Nat)
    (hn : ∀ j u, (byteVals news)[j]? = some u → w.cell? (ad.add j) = some u) (h0 : news ≠ []) (hl : l.length + news.length ≤ 1000000) :
    ∃ v' w', (Builtin.append_ #[22, 22] 22 #[v, .slice (some ad) news.length c]).run Tryd.prog w = .ok v' w' ∧ Grows w' base v' (l ++ news) ∧ w.grownBy w' v.ownBlock := by
  obtain ⟨i0, hi, hz0, hz1, hz2⟩ := info_parts Tryd.info5
  rcases h with h | ⟨g, m, rfl, hg, hc⟩
  · obtain ⟨v', w', hr, ho, hgr, _⟩ := run_append_own (P := Tryd.prog) w base 22 22 5 i0 (.int .u8 0) 1 1 Tryd.underlying22 hi hz0 hz1 hz2 rfl (by decide) v l.length (byteVals l) h
      ad news.length c (byteVals news) (by rw [byteVals_length, Nat.mul_one]) hn (byteVals_one news) (by unfold maxLen; omega) (by omega) hb
    exact ⟨v', w', hr, .inl (by rw [List.length_append, byteVals_append]; exact ho), hgr⟩
  · have hp : 0 < news.length := List.length_pos_iff.2 h0
    have hge := grownCap_ge w (l.length + news.length) l.length 5
    have hr := run_append_grow (P := Tryd.prog) w 22 22 5 i0 (.int .u8 0) Tryd.underlying22 hi hz0 ⟨g, 0, none⟩ l.length l.length (byteVals l) (by rw [byteVals_length, hz1, Nat.mul_one])
      (fun j u hu => by rw [add_plain]; simp only [World.cell?, hc]; simpa using hu) ad news.length c (byteVals news) (by rw [byteVals_length, hz1, Nat.mul_one]) hn (by omega) (by omega) (by rw [hz2]; exact growslice_fits (by omega) (by omega))
    refine ⟨_, _, hr, .inl ⟨by rw [byteVals_length, Nat.mul_one], .inr ⟨w.heap.size, _, _, by rw [List.length_append], hb, heap_alloc_new w.drew _, by rw [List.length_append]; exact hge, grownCap_le_maxLen w _ _ _ (by unfold maxLen; omega), ?_, ?_⟩⟩, ⟨rfl, rfl, rfl, by simp, fun k hk _ => heap_alloc_old w.drew _ hk⟩⟩
    · have hz1 : (Value.int IntKind.u8 0).cells.size = 1 := rfl
      simp only [Array.size_append, List.size_toArray, size_zeroCells, hz1, byteVals_length, Nat.mul_one]
      omega
    · simp only [Array.toList_append, List.append_assoc]
      rw [← List.append_assoc, ← byteVals_append, Nat.mul_one, ← byteVals_length]
      exact List.take_left

/-- Appending bytes: a string's. -/
theorem app_string {w : World} {base : Nat} {v : Value} {l : List UInt8} (h : Grows w base v l) (hb : base ≤ w.heap.size) (s : ByteArray) (h0 : s.size ≠ 0) (hl : l.length + s.size ≤ 1000000) :
    ∃ v' w', (Builtin.append_ #[22, 9] 22 #[v, .string s]).run Tryd.prog w = .ok v' w' ∧ Grows w' base v' (l ++ s.data.toList) ∧ w.grownBy w' v.ownBlock := by
  obtain ⟨i0, hi, hz0, hz1, hz2⟩ := info_parts Tryd.info5
  have hsl : s.data.toList.length = s.size := length_data s
  rcases h with h | ⟨g, m, rfl, hg, hc⟩
  · obtain ⟨v', w', hr, ho, hgr, _⟩ := Lib.run_append_own_string (P := Tryd.prog) w base 22 9 22 5 i0 Tryd.underlying22 Tryd.underlying9 hi hz0 hz1 hz2 v l.length (byteVals l) h s (by unfold maxLen; omega) (by omega) hb
    exact ⟨v', w', hr, .inl (by rw [List.length_append, hsl, byteVals_append]; exact ho), hgr⟩
  · have hge := grownCap_ge w (l.length + s.size) l.length 5
    have hr := Lib.run_append_grow_string (P := Tryd.prog) w 22 9 22 5 i0 (.int .u8 0) Tryd.underlying22 Tryd.underlying9 hi hz0 ⟨g, 0, none⟩ l.length l.length (byteVals l) (by rw [byteVals_length, hz1, Nat.mul_one])
      (fun j u hu => by rw [add_plain]; simp only [World.cell?, hc]; simpa using hu) s (by omega) (by omega) (by rw [hz2]; exact growslice_fits (by omega) (by omega))
    refine ⟨_, _, hr, .inl ⟨by rw [byteVals_length, Nat.mul_one], .inr ⟨w.heap.size, _, _, by rw [List.length_append, hsl], hb, heap_alloc_new w.drew _, by rw [List.length_append, hsl]; exact hge, grownCap_le_maxLen w _ _ _ (by unfold maxLen; omega), ?_, ?_⟩⟩, ⟨rfl, rfl, rfl, by simp, fun k hk _ => heap_alloc_old w.drew _ hk⟩⟩
    · have hz1 : (Value.int IntKind.u8 0).cells.size = 1 := rfl
      simp only [Array.size_append, List.size_toArray, size_zeroCells, hz1, byteVals_length, Lib.strCells_length, Nat.mul_one]
      omega
    · simp only [Array.toList_append, List.append_assoc, strCells_bytes]
      rw [← List.append_assoc, ← byteVals_append, Nat.mul_one, ← byteVals_length]
      exact List.take_left
end Go.Proofs.YtnlpilceooncmaaDoor
