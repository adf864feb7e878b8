/- group.order: what is made ahead of its loops. -/
import Derived.Test.YtlpifioneafciaaGrOB
namespace Go.Proofs.Ytlpifioneafciaa
open Go.RowKit Go.Maps Go.Lib
attribute [local go_sem] Oper.semAt_some

theorem make_rows (l n : Nat) (hl : l ≤ n) (hn : n ≤ 1000000000) (w : World) :
    (Instr.makeSlice 24 (.int .i64 (l : Int)) (.int .i64 (n : Int))).run Try.prog w = .ok (.slice (some ⟨w.heap.size, 0, none⟩) l n) (w.alloc (.cells (madeCells #[.slice none 0 0] n) 22)) := by
  obtain ⟨i, hi, hz, hs, hb⟩ := info_parts Try.infoRows
  have hr := run_make (P := Try.prog) w 24 22 i _ Try.underlying24 hi hz .i64 .i64 l n (by omega) (by omega) (by rw [hb]; omega) (by omega)
  simp only [Int.toNat_natCast, hs, Nat.mul_one] at hr
  exact hr
theorem made_own {B c q : Nat} {V : World} (hc : c ≤ 1000000000) (hB : B ≤ q) (h : V.heap[q]? = some (.cells (madeCells #[.int .i64 0] c) 3 (0, 0))) : OwnI B (.slice (some ⟨q, 0, none⟩) c c) ((List.range c).map fun _ => 0) V := by
  have e : intsV ((List.range c).map fun _ => 0) = (madeCells #[.int .i64 0] c).toList := by
    rw [toList_madeCells_one]
    refine List.ext_getElem (by simp [intsV]) fun k _ _ => by simp [intsV]
  refine ⟨by simp [intsV], .inr ⟨q, c, _, by simp, hB, h, by simp, by unfold maxLen; omega, by simp [size_madeCells], ?_⟩⟩
  rw [e, List.take_of_length_le (by simp [size_madeCells])]
theorem made_OB {B c p qm qu qw : Nat} {V : World} (hc : c ≤ 1000000000) (hp : V.heap[p]? = some (.cells #[.slice (some ⟨qm, 0, none⟩) c c, .slice (some ⟨qu, 0, none⟩) c c, .slice (some ⟨qw, 0, none⟩) c c, .slice none 0 0] 59 (0, 0))) (hm : V.heap[qm]? = some (.cells (madeCells #[.slice none 0 0] c) 22 (0, 0))) (hu : V.heap[qu]? = some (.cells (madeCells #[.slice none 0 0] c) 22 (0, 0)))
    (hw : V.heap[qw]? = some (.cells (madeCells #[.int .i64 0] c) 3 (0, 0))) (hB : B ≤ p ∧ B ≤ qm ∧ B ≤ qu ∧ B ≤ qw) (hne : qm ≠ qu) : OB B p c (fun t => cond t qu qm) qw (fun _ _ => .slice none 0 0) (fun _ _ => []) (fun _ => 0) V := by
  have hg : ∀ i, i < c → (madeCells #[Value.slice none 0 0] c)[i]? = some (Value.slice none 0 0) := fun i hi => by
    have := toList_madeCells_one (.slice none 0 0) c
    rw [← Array.getElem?_toList, this]
    simp [hi]
  refine ⟨hp, fun t => ?_, fun t i hi => World.ownsRow_nil _ _ _ _, made_own hc hB.2.2.2 hw, fun t t' h => ?_, fun t i hi h => (by cases h), fun t i t' i' _ _ _ k h => (by cases h), hB.1, fun t => (by cases t; exact hB.2.1; exact hB.2.2.1)⟩
  · cases t
    · exact ⟨_, hm, by simp [size_madeCells], hg⟩
    · exact ⟨_, hu, by simp [size_madeCells], hg⟩
  · cases t <;> cases t' <;> first | exact absurd rfl h | exact hne | exact Ne.symm hne
end Go.Proofs.Ytlpifioneafciaa
