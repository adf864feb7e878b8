/- orderer's Len and Less. -/
import Derived.Test.YtlpifioneafciaaGrCmp
import Derived.BigRegion
namespace Go.Proofs.Ytlpifioneafciaa
open Go.RowKit Go.Maps Go.Lib
attribute [local go_sem] Oper.semAt_some

set_option maxRecDepth 100000 in
theorem olen_any {B B0 b c qm qu qw : Nat} {rv : Value} {ms us : Nat → List Nat} {wt : Nat → Nat} {rd : List Nat} (w : World) (h : OM B B0 b c qm qu qw rv ms us wt rd w) :
    Calls Try.prog 26 #[.pointer (some ⟨b, 0, none⟩)] w fun e w' => e = .returned (.int .i64 (rd.length : Int)) ∧ w' = w := by
  obtain ⟨y0, y1, y2, y3⟩ := cells4G h.blk
  obtain ⟨a, cc, rfl⟩ := h.rdy.shape
  clear h
  go_enter Try.func26, Try.ntmps26
  go_wp2
  go_ret
  exact ⟨rfl, rfl⟩
set_option maxRecDepth 100000 in
set_option maxHeartbeats 4000000 in
theorem less_any {B B0 b c qm qu qw i j : Nat} {rv : Value} {ms us : Nat → List Nat} {wt : Nat → Nat} {rd : List Nat} (w : World) (h : OM B B0 b c qm qu qw rv ms us wt rd w) (hi : i < rd.length) (hj : j < rd.length) (hml : ∀ x, (ms x).length ≤ 1000000000) :
    Calls Try.prog 58 #[.pointer (some ⟨b, 0, none⟩), .int .i64 (i : Int), .int .i64 (j : Int)] w fun e w' => e = .returned (.bool (decide (cmpN (ms (rd.getD i 0)) (ms (rd.getD j 0)) < 0))) ∧ ∃ q, w' = w.drewN q := by
  obtain ⟨y0, y1, y2, y3⟩ := cells4G h.blk
  obtain ⟨q, cap, rfl, hq, hqB, hcap, z1⟩ := h.rdy.at hi
  obtain ⟨q', cap', e', _, _, _, z2⟩ := h.rdy.at hj
  cases e'
  have hxc : rd.getD i 0 < c := h.inr _ (by simp [List.getD, hi])
  have hyc : rd.getD j 0 < c := h.inr _ (by simp [List.getD, hj])
  obtain ⟨x, hx⟩ : ∃ x, rd.getD i 0 = x := ⟨_, rfl⟩
  obtain ⟨y, hy⟩ : ∃ y, rd.getD j 0 = y := ⟨_, rfl⟩
  rw [hx] at z1 hxc ⊢
  rw [hy] at z2 hyc ⊢
  obtain ⟨v1, u1, r1, hqm⟩ := h.mem.cell hxc
  obtain ⟨v2, u2, r2, _⟩ := h.mem.cell hyc
  obtain ⟨a1, c1, rfl⟩ := r1.shape
  obtain ⟨a2, c2, rfl⟩ := r2.shape
  have HC := Lib.hid (fun q : Nat => compare_any (ms x) (ms y) (hml x) (hml y) a1 a2 c1 c2 _ (r1.keep (w' := w.drewN q) (Nat.le_refl _) fun _ _ _ => rfl) (r2.keep (w' := w.drewN q) (Nat.le_refl _) fun _ _ _ => rfl))
  obtain ⟨r, hr⟩ : ∃ r, cmpN (ms x) (ms y) = r := ⟨_, rfl⟩
  rw [hr] at HC ⊢
  obtain ⟨k1, hk1⟩ : ∃ k, (ms x).length = k := ⟨_, rfl⟩
  obtain ⟨k2, hk2⟩ : ∃ k, (ms y).length = k := ⟨_, rfl⟩
  rw [hk1] at u1 HC
  rw [hk2] at u2 HC
  obtain ⟨m, hm⟩ : ∃ m, rd.length = m := ⟨_, rfl⟩
  rw [hm] at y3 hcap hi hj
  have hpw := heap_at h.blk
  clear h hml r1 r2 hr hk1 hk2 hx hy hm
  have hiI : (i : Int) < (m : Int) := by omega
  have hjI : (j : Int) < (m : Int) := by omega
  have hxI : (x : Int) < (c : Int) := by omega
  have hyI : (y : Int) < (c : Int) := by omega
  go_enter Try.func58, Try.ntmps58
  go_wp2_with fail
  go_quiet ((go_at_call 62; exact Calls.quiet_of_same (HC.out _)))
  go_wp2
  go_ret
  exact ⟨rfl, _, rfl⟩
end Go.Proofs.Ytlpifioneafciaa
