/- group.Groups of nothing. -/
import Derived.Test.YtlpifioneafciaaGrOrderN
namespace Go.Proofs.Ytlpifioneafciaa
open Go.RowKit Go.Maps Go.Lib
attribute [local go_sem] Oper.semAt_some

theorem GsR.shape {B : Nat} {tv : Value} {gs : List (List Nat)} {w : World} (h : GsR B tv gs w) : ∃ a c, tv = .slice a gs.length c := by
  obtain ⟨vs, h1, _⟩ := h
  rcases h1.2 with ⟨rfl, e⟩ | ⟨q, cap, cur, rfl, _⟩
  · rw [e]; exact ⟨_, _, rfl⟩
  · exact ⟨_, _, rfl⟩
theorem GsR.keep {B : Nat} {tv : Value} {gs : List (List Nat)} {w w' : World} (h : GsR B tv gs w) (hb : Below w.heap.size w w') : GsR B tv gs w' := by
  obtain ⟨vs, h1, h2, h3⟩ := h
  refine ⟨vs, ⟨h1.1, ?_⟩, h2, fun i hi => (h3 i hi).keep hb.size fun k _ hk => hb.block k hk⟩
  rcases h1.2 with e | ⟨q, cap, cur, rfl, hB, hq, r⟩
  · exact .inl e
  · exact .inr ⟨q, cap, cur, rfl, hB, (hb.block q (heap_at hq)).trans hq, r⟩
theorem GsR.at {B : Nat} {tv : Value} {gs : List (List Nat)} {w : World} (h : GsR B tv gs w) (h0 : 0 < gs.length) : ∃ q cap, tv = .slice (some ⟨q, 0, none⟩) gs.length cap ∧ B ≤ q ∧ q < w.heap.size ∧ ∀ i, i < gs.length → ∃ a c, w.cell? ⟨q, i, none⟩ = some (.slice a (gs.getD i []).length c) ∧ RowQ (fun k => B ≤ k) (.slice a (gs.getD i []).length c) (gs.getD i []) w := by
  obtain ⟨vs, h1, h2, h3⟩ := h
  rcases id h1.2 with ⟨_, e⟩ | ⟨q, cap, cur, rfl, hB, hq, _⟩
  · omega
  · refine ⟨q, cap, rfl, hB, heap_at hq, fun i hi => ?_⟩
    have hr := h3 i hi
    obtain ⟨a, c, e⟩ := hr.shape
    rw [e] at hr
    refine ⟨a, c, ?_, hr⟩
    rw [World.ownsRow.cellAt h1 i (by omega)]
    rw [← e]
    simp [List.getD, show i < vs.length by omega]
set_option maxRecDepth 100000 in
set_option maxHeartbeats 8000000 in
theorem groups_nil (w : World) : Calls Try.prog 12 #[.slice none 0 0] w fun e w' => (∃ a c, e = .returned (.slice a 0 c)) ∧ Below w.heap.size w w' := by
  have hmr : ∀ w : World, (Instr.makeSlice 24 (.int .i64 0) (.int .i64 0)).run Try.prog w = .ok (.slice (some ⟨w.heap.size, 0, none⟩) 0 0) (w.alloc (.cells (madeCells #[.slice none 0 0] 0) 22)) := fun w => make_rows 0 0 (Nat.le_refl _) (by omega) w
  have hmm : ∀ W : World, (Instr.makeMap 52 none).run Try.prog W = .ok (.map (some W.heap.size)) (W.alloc (.map #[] 0)) := fun _ => rfl
  go_enter Try.func12, Try.ntmps12
  go_wp2_with fail
  go_loopw [3, 21] (fun v3 vi W => v3 = .slice (some ⟨w.heap.size, 0, none⟩) 0 0 ∧ vi = .int .i64 0 ∧ Hid (Below w.heap.size w W ∧ RowsAt W.heap.size w.heap.size 0 (fun _ => []) W)) (fun _ vi _ => 0)
  case atStart =>
    exact ⟨rfl, rfl, Lib.hid ⟨((Below.refl _ w).alloc (Nat.le_refl _) _).alloc (by simp) _, ⟨madeCells #[.slice none 0 0] 0, (0, 0), (below_allocG _ _).block w.heap.size (by simp) |>.trans (by show (w.heap.push _)[w.heap.size]? = _; simp), Nat.zero_le _, fun i hi => by omega⟩⟩⟩
  case round =>
    rename World => X
    obtain ⟨rfl, rfl, HK⟩ := hrel
    go_wp2_with fail
    go_loopw [59] (fun vi W => vi = .int .i64 0 ∧ Hid (Below w.heap.size w W ∧ RowsAt W.heap.size w.heap.size 0 (fun _ => []) W)) (fun vi _ => 0)
    case atStart => exact ⟨rfl, HK⟩
    case round =>
      clear HK X
      rename World => X
      obtain ⟨rfl, HK⟩ := hrel
      have hO := order_any (n := 0) (cap := 0) X HK.out.2 (Nat.le_refl _) (by omega) (fun i hi => by omega) (by decide)
      rw [show (((0 : Nat) : Int)) = 0 from rfl] at hO
      have HO := Lib.hid hO
      clear hO
      have HB := Lib.hid HK.out.1
      clear HK
      go_wp2_with (go_at_call 14; fail)
      refine HO.out.mono ?_
      rintro e w5 ⟨⟨tv, dn, t, B0, ok, rfl, hra, hgr, hno, htl, hB0, hok⟩, hb5⟩
      have h0 : dn = [] := by
        obtain rfl : t = grInit (fun _ => []) := hra
        cases dn with
        | nil => rfl
        | cons a l => have := hgr.lt.2 a (List.mem_cons_self ..); exact absurd this (Nat.not_lt_zero _)
      subst h0
      obtain ⟨a, c, rfl⟩ := htl.shape
      have HB5 := Lib.hid (HB.out.trans (hb5.mono HB.out.size))
      clear hra hgr hno htl hb5 HO
      go_wp2
      go_ret
      exact ⟨⟨a, c, rfl⟩, HB5.out⟩
end Go.Proofs.Ytlpifioneafciaa
