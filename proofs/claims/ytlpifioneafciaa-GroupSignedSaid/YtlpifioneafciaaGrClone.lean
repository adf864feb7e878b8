/- slices.Clone of rows of needs; rows of zeros. -/
import Derived.Test.YtlpifioneafciaaGrFrom
import Derived.Shelf.SlicesE.Clone
namespace Go.Proofs.Ytlpifioneafciaa
open Go.RowKit Go.Maps Go.Lib
attribute [local go_sem] Oper.semAt_some

def cloneRenG : Go.Shelf.Ren := ⟨fun | 41 => 23 | n => n, fun | 4 => 4 | 22 => 24 | 23 => 22 | n => n, fun n => n⟩
theorem cloneLayG : SlLaysE0.n41 Try.prog cloneRenG :=
  { mixed := by kernel_rfl
    f41 := ⟨Try.f23.name, by decide, by kernel_rfl⟩
    t4 := by kernel_rfl
    a4 := fun _ => by kernel_rfl
    z4 := fun _ => by kernel_rfl
    v4 := fun _ => by kernel_rfl
    t22 := by kernel_rfl
    a22 := fun _ => by kernel_rfl
    z22 := fun _ => by kernel_rfl
    v22 := fun _ => by kernel_rfl }
theorem Try.infoRow : (Try.prog.info? 22).map (fun i => (i.zero, i.size, i.bytes)) = some (some (.slice none 0 0), 1, 24) := by kernel_rfl
/-- Rows of needs: block g holds them; each lies below B. -/
def RowsAt (B g n : Nat) (needs : Nat → List Nat) (w : World) : Prop := ∃ cs fz, w.heap[g]? = some (.cells cs 22 fz) ∧ n ≤ cs.size ∧ ∀ i, i < n → ∃ v, cs[i]? = some v ∧ RowN B v (needs i) w
theorem RowsAt.below {B g n : Nat} {needs : Nat → List Nat} {w w' : World} (h : RowsAt B g n needs w) (hb : Below w.heap.size w w') (hB : B ≤ w.heap.size) : RowsAt B g n needs w' := by
  obtain ⟨cs, fz, h1, h2, h3⟩ := h
  exact ⟨cs, fz, (hb.block g (heap_at h1)).trans h1, h2, fun i hi => by obtain ⟨v, e, hr⟩ := h3 i hi; exact ⟨v, e, hr.below fun k hk => hb.block k (by omega)⟩⟩
theorem clone_rows {B g n cap : Nat} {needs : Nat → List Nat} (w : World) (h : RowsAt B g n needs w) (_ : 0 ≤ n) (hl : n ≤ 100000000) (hB : B ≤ w.heap.size) :
    Calls Try.prog 23 #[.slice (some ⟨g, 0, none⟩) n cap] w fun e w' => (∃ q c, e = .returned (.slice (some ⟨q, 0, none⟩) n c) ∧ w.heap.size ≤ q ∧ RestAt B q n needs w') ∧ Below w.heap.size w w' := by
  obtain ⟨i, hi, hz, hs, hb⟩ := info_parts Try.infoRow
  obtain ⟨cs, fz, h1, h2, h3⟩ := h
  have hlen : (cs.toList.take n).length = n * 1 := by rw [List.length_take]; simp; omega
  have hc : ∀ j u, (cs.toList.take n)[j]? = some u → w.cell? ⟨g, 0 + j, none⟩ = some u := by
    intro j u hu
    have hj : j < n := by
      obtain ⟨hj, _⟩ := List.getElem?_eq_some_iff.1 hu
      rw [hlen] at hj; omega
    rw [List.getElem?_take, if_pos hj] at hu
    rw [Lib.cell_of_heap h1, Nat.zero_add]
    simpa using hu
  have hone : ∀ u ∈ cs.toList.take n, u.oneCell' = true := by
    intro u hu
    obtain ⟨j, hj, rfl⟩ := List.mem_iff_getElem.1 hu
    rw [hlen] at hj
    obtain ⟨v, e, hr⟩ := h3 j (by omega)
    obtain ⟨a, c, rfl⟩ := hr.shape
    rw [List.getElem_take]
    have : cs.toList[j]'(by simp; omega) = .slice a (needs j).length c := by
      have := (Array.getElem?_eq_some_iff.1 e).2
      simpa using this
    rw [this]; rfl
  have main : Calls Try.prog 23 _ _ _ := AnyE.slices_Clone cloneLayG i (.slice none 0 0) 1 24 hi hz hs hb (by rfl) (by decide) (fun _ => by kernel_rfl) g 0 n cap (cs.toList.take n) w hlen (by unfold maxLen; omega) (by omega) hc hone
  refine main.mono ?_
  rintro e w' ⟨v', rfl, ⟨_, ⟨e0, _⟩ | ⟨g', cap', cur, rfl, hg', hcur, hcap, _, hsz, htk⟩⟩, hv0, hb⟩
  · exact absurd e0 hv0
  · refine ⟨⟨g', cap', rfl, hg', cur, hcur, by omega, fun k hk => ?_⟩, hb⟩
    obtain ⟨v, e, hr⟩ := h3 k hk
    refine ⟨v, ?_, hr.below fun j hj => hb.block j (by omega)⟩
    have e1 : (cur.toList.take (n * 1))[k]? = cur[k]? := by rw [List.getElem?_take_of_lt (by omega)]; simp
    rw [← e1, htk, List.getElem?_take_of_lt hk]
    simpa using e
theorem RestAt.keepB {B q n : Nat} {rest : Nat → List Nat} {w w' : World} (h : RestAt B q n rest w) (hb : Below w.heap.size w w') : RestAt B q n rest w' := by
  obtain ⟨cs, h1, h2, h3⟩ := id h
  refine ⟨cs, (hb.block q (heap_at h1)).trans h1, h2, fun i hi => ?_⟩
  obtain ⟨v, e, hr⟩ := h3 i hi
  refine ⟨v, e, ?_⟩
  rcases hr with hr | ⟨g, o, cap, e, hl, hg, hc⟩
  · exact .inl hr
  · refine .inr ⟨g, o, cap, e, hl, hg, fun j hj => ?_⟩
    have h0 := hc j hj
    have hlt : g < w.heap.size := World.block_lt_of_cell? w ⟨g, o + j, none⟩ h0
    exact (World.cell?_of_block (a := ⟨g, o + j, none⟩) (hb.block g hlt)).trans h0
theorem clone_rowsB {B g n cap : Nat} {needs : Nat → List Nat} (w : World) (h : RowsAt B g n needs w) (h0 : 0 ≤ n) (hl : n ≤ 100000000) (hB : B ≤ w.heap.size) :
    Calls Try.prog 23 #[.slice (some ⟨g, 0, none⟩) n cap] w fun e w' => (∃ q c, e = .returned (.slice (some ⟨q, 0, none⟩) n c) ∧ B ≤ q ∧ RestAt B q n needs w') ∧ Below w.heap.size w w' := by
  refine (clone_rows w h h0 hl hB).mono ?_
  rintro e w' ⟨⟨q, c, rfl, hq, hr⟩, hb⟩
  exact ⟨⟨q, c, rfl, by omega, hr⟩, hb⟩
theorem clone_none (w : World) : Calls Try.prog 23 #[.slice none 0 0] w fun e w' => e = .returned (.slice none 0 0) ∧ w' = w := AnyE.slices_Clone_nil cloneLayG 0 0 w
theorem make_ints (l n : Nat) (hl : l ≤ n) (hn : n ≤ 1000000000) (w : World) :
    (Instr.makeSlice 22 (.int .i64 (l : Int)) (.int .i64 (n : Int))).run Try.prog w = .ok (.slice (some ⟨w.heap.size, 0, none⟩) l n) (w.alloc (.cells (madeCells #[.int .i64 0] n) 3)) := by
  obtain ⟨i, hi, hz, hs, hb⟩ := info_parts Try.infoInt0
  have hr := run_make (P := Try.prog) w 22 3 i _ Try.underlying22 hi hz .i64 .i64 l n (by omega) (by omega) (by rw [hb]; omega) (by omega)
  simp only [Int.toNat_natCast, hs, Nat.mul_one] at hr
  exact hr
theorem own_zeros (w : World) (n : Nat) (hn : n ≤ 1000000000) {B : Nat} (hB : B ≤ w.heap.size) : OwnI B (.slice (some ⟨w.heap.size, 0, none⟩) n n) ((List.range n).map fun _ => 0) (w.alloc (.cells (madeCells #[.int .i64 0] n) 3)) := by
  have := World.ownsRow_lit (base := B) (size := 1) (e := 3) w (madeCells #[.int .i64 0] n) n hB (by unfold maxLen; omega) (by simp [size_madeCells])
  unfold OwnI
  have e : intsV ((List.range n).map fun _ => 0) = (madeCells #[.int .i64 0] n).toList := by
    rw [toList_madeCells_one]
    refine List.ext_getElem (by simp [intsV]) fun k _ _ => by simp [intsV]
  rw [e]; simpa using this
end Go.Proofs.Ytlpifioneafciaa
