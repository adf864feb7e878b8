/- The chapter's examples. -/
import Derived.Test.YtlpifioneafciaaGrNil
namespace Go.Proofs.Ytlpifioneafciaa
open Go.RowKit Go.Maps Go.Lib
attribute [local go_sem] Oper.semAt_some

def ndF : Nat → List Nat := fun i => if i = 0 then [1] else []
theorem gsF {gs : List (List Nat)} (h : GrSpec 2 ndF gs) : gs = [[1], [0]] := by
  have h01 : Rch ndF 0 1 := .one (by decide)
  have n1 : ∀ j, Rch ndF 1 j → j = 1 := fun j hj => by
    cases hj with
    | refl _ => rfl
    | step h1 _ => have h1' : _ ∈ ([] : List Nat) := h1; cases h1'
  refine h.chain (fun g hg => ?_) (fun i hi => ?_) ?_
  · rcases List.mem_cons.1 hg with rfl | hg
    · refine ⟨List.pairwise_singleton _ _, 1, by omega, by simp, fun j => ⟨fun hj => ?_, fun ⟨_, hj, _⟩ => by rw [n1 j hj]; simp⟩⟩
      obtain rfl : j = 1 := by simpa using hj
      exact ⟨by omega, .refl _, .refl _⟩
    · obtain rfl : g = [0] := by simpa using hg
      refine ⟨List.pairwise_singleton _ _, 0, by omega, by simp, fun j => ⟨fun hj => ?_, fun ⟨hj2, _, hj⟩ => ?_⟩⟩
      · obtain rfl : j = 0 := by simpa using hj
        exact ⟨by omega, .refl _, .refl _⟩
      · by_cases e : j = 0
        · simp [e]
        · obtain rfl : j = 1 := by omega
          exact absurd (n1 0 hj) (by omega)
  · by_cases e : i = 0
    · exact ⟨[0], by simp, by simp [e]⟩
    · exact ⟨[1], by simp, by simp; omega⟩
  · refine List.pairwise_cons.2 ⟨fun k hk => ?_, List.pairwise_singleton _ _⟩
    obtain rfl : k = [0] := by simpa using hk
    exact ⟨⟨0, by simp, 1, by simp, h01⟩, fun i hi => by simp at hi; subst hi; simp⟩
theorem RowQ.one {ok : Nat → Prop} {a : Option Addr} {n c x : Nat} {w : World} (h : RowQ ok (.slice a n c) [x] w) : ∃ g o, a = some ⟨g, o, none⟩ ∧ w.cell? ⟨g, o, none⟩ = some (.int .i64 (x : Int)) := by
  obtain ⟨g, o, e, _, hc⟩ := h.at (by simp)
  exact ⟨g, o, e, by have := hc 0 (by simp); simpa using this⟩
theorem rowsF (w : World) : RowsAt ((w.alloc (.cells #[.int .i64 1] 3)).alloc (.cells #[.slice (some ⟨w.heap.size, 0, none⟩) 1 1, .slice none 0 0] 22)).heap.size (w.heap.size + 1) 2 ndF ((w.alloc (.cells #[.int .i64 1] 3)).alloc (.cells #[.slice (some ⟨w.heap.size, 0, none⟩) 1 1, .slice none 0 0] 22)) := by
  have e1 : ((w.alloc (.cells #[.int .i64 1] 3)).alloc (.cells #[.slice (some ⟨w.heap.size, 0, none⟩) 1 1, .slice none 0 0] 22)).heap[w.heap.size]? = some (.cells #[.int .i64 1] 3) := by
    show ((w.heap.push _).push _)[w.heap.size]? = _
    simp [Array.getElem?_push]
  have e2 : ((w.alloc (.cells #[.int .i64 1] 3)).alloc (.cells #[.slice (some ⟨w.heap.size, 0, none⟩) 1 1, .slice none 0 0] 22)).heap[w.heap.size + 1]? = some (.cells #[.slice (some ⟨w.heap.size, 0, none⟩) 1 1, .slice none 0 0] 22) := by
    show ((w.heap.push _).push _)[w.heap.size + 1]? = _
    rw [Array.getElem?_push, if_pos (by simp)]
  refine ⟨_, _, e2, by simp, fun i hi => ?_⟩
  by_cases e : i = 0
  · subst e
    refine ⟨.slice (some ⟨w.heap.size, 0, none⟩) 1 1, by simp, .inr ⟨w.heap.size, 0, 1, rfl, by decide, by simp; omega, fun j hj => ?_⟩⟩
    have hj' : j < 1 := hj
    obtain rfl : j = 0 := by omega
    rw [Lib.cell_of_heap e1]; rfl
  · obtain rfl : i = 1 := by omega
    exact ⟨.slice none 0 0, by simp, .inl ⟨rfl, none, 0, rfl⟩⟩
set_option maxRecDepth 100000 in
set_option maxHeartbeats 8000000 in
theorem first_any (w : World) : Calls Try.prog 7 #[] w fun e w' => e = .returned (.bool true) ∧ Below w.heap.size w w' := by
  have hO := orderN_any (g := w.heap.size + 1) (n := 2) (cap := 2) (nd := ndF) _ (rowsF w) (by omega) (by omega) (by omega) (fun i hi x hx => by
    by_cases e : i = 0
    · subst e
      have hx' : x ∈ [1] := hx
      simp at hx'; omega
    · have hx' : x ∈ (if i = 0 then [1] else []) := hx
      rw [if_neg e] at hx'; cases hx') (by decide)
  rw [show (((2 : Nat) : Int)) = 2 from rfl] at hO
  have HO := Lib.hid hO
  clear hO
  go_enter Try.func7, Try.ntmps7
  go_wp2_with (go_at_call 9; fail)
  refine HO.out.mono ?_
  rintro e w5 ⟨⟨tv, gs, rfl, hsp, hgs⟩, hb⟩
  have hge := gsF hsp
  subst hge
  obtain ⟨q, cap, rfl, hq, hql, hrows⟩ := hgs.at (by decide)
  obtain ⟨a0, c0, z0, r0⟩ := hrows 0 (by decide)
  obtain ⟨g0, o0, rfl, z1⟩ := RowQ.one r0
  have HB := Lib.hid (show Below w.heap.size w w5 from (((Below.refl _ w).alloc (Nat.le_refl _) _).alloc (by simp) _).trans (hb.mono (by simp; omega)))
  have HN := Lib.hid (groups_nil w5)
  simp only [List.length_cons, List.length_nil, List.getD_eq_getElem?_getD, List.getElem?_cons_zero, Option.getD_some] at z0 z1 ⊢
  clear hsp hgs hrows r0 hb HO
  go_wp2_with (go_at_call 12; fail)
  refine HN.out.mono ?_
  rintro e w6 ⟨⟨a, c, rfl⟩, hb6⟩
  have HB6 := Lib.hid (HB.out.trans (hb6.mono HB.out.size))
  clear hb6 HN HB
  go_wp2
  go_ret
  exact ⟨rfl, HB6.out⟩
end Go.Proofs.Ytlpifioneafciaa
