/- orderer's Pop. -/
import Derived.Test.YtlpifioneafciaaGrPush
import Derived.Test.YtlpifioneafciaaGrEnd
namespace Go.Proofs.Ytlpifioneafciaa
open Go.RowKit Go.Maps Go.Lib
attribute [local go_sem] Oper.semAt_some

/-- All that are ready but the last, stored. -/
theorem OM.popped {B B0 b c qm qu qw g m cap x : Nat} {ms us : Nat → List Nat} {wt : Nat → Nat} {rd l : List Nat} {w : World} (h : OM B B0 b c qm qu qw (.slice (some ⟨g, 0, none⟩) (m + 1) cap) ms us wt rd w) (hl : rd = l ++ [x]) (hm : l.length = m) :
    OM B B0 b c qm qu qw (.slice (some ⟨g, 0, none⟩) m cap) ms us wt l (w.setCell ⟨b, 3, none⟩ (.slice (some ⟨g, 0, none⟩) m cap)) ∧ FrO B b (.slice (some ⟨g, 0, none⟩) (m + 1) cap) w (.slice (some ⟨g, 0, none⟩) m cap) (w.setCell ⟨b, 3, none⟩ (.slice (some ⟨g, 0, none⟩) m cap)) := by
  have hgb : g ≠ b := fun e => own_ne h.rdy h.blk (by decide) (by rw [e]; rfl)
  have hr := h.rdy
  rw [hl] at hr
  refine ⟨h.ready (Nat.le_of_eq (size_set _ _ _).symm) ?_ (fun k _ hkb => heap_set w ⟨b, 3, none⟩ _ k hkb) ((hr.pop hm).keepAt fun k e => by cases e; exact heap_set w ⟨b, 3, none⟩ _ g hgb) (fun y hy => h.inr y (by rw [hl]; exact List.mem_append_left _ hy)), (Below.refl B w).setCell (p := ⟨b, 3, none⟩) h.bb.1 _, fun k _ hkb _ => heap_set w ⟨b, 3, none⟩ _ k hkb, fun k e => .inl e⟩
  have := blk_setG h.blk (o := 3) (.slice (some ⟨g, 0, none⟩) m cap)
  rw [this]; rfl
theorem OM.drew' {B B0 b c qm qu qw : Nat} {rv : Value} {ms us : Nat → List Nat} {wt : Nat → Nat} {rd : List Nat} {w : World} (h : OM B B0 b c qm qu qw rv ms us wt rd w) (q : Nat) : OM B B0 b c qm qu qw rv ms us wt rd (w.drewN q) := h.below (below_drewN (Below.refl _ w) q)
set_option maxRecDepth 100000 in
set_option maxHeartbeats 4000000 in
theorem opop_any {B B0 b c qm qu qw x : Nat} {rv : Value} {ms us : Nat → List Nat} {wt : Nat → Nat} {l : List Nat} (w : World) (h : OM B B0 b c qm qu qw rv ms us wt (l ++ [x]) w) (hrl : l.length + 1 < 1000000000) :
    Calls Try.prog 59 #[.pointer (some ⟨b, 0, none⟩)] w fun e w' => e = .returned (.iface 3 (.int .i64 (x : Int))) ∧ ∃ rv', OM B B0 b c qm qu qw rv' ms us wt l w' ∧ FrO B b rv w rv' w' := by
  obtain ⟨y0, y1, y2, y3⟩ := cells4G h.blk
  have hpw := heap_at h.blk
  have fy := Lib.frozen_of_heap h.blk 3
  obtain ⟨g, cap, rfl, hcap, hg, hxc, hBg⟩ := own_last h.rdy
  obtain ⟨m, hm⟩ : ∃ m, l.length = m := ⟨_, rfl⟩
  rw [hm] at y3 hcap hxc hrl h ⊢
  have HP := Lib.hid (h.popped rfl hm)
  have hmI : ((m : Int) + 1 - 1) = (m : Int) := by omega
  have hm0 : (0 : Int) ≤ (m : Int) := by omega
  clear h
  go_enter Try.func59, Try.ntmps59
  go_wp2_with fail
  go_region
  go_wp2_with fail
  go_region
  generalize w.setCell ⟨b, 3, none⟩ (.slice (some ⟨g, 0, none⟩) m cap) = W1 at *
  go_wp2
  go_ret
  exact ⟨rfl, _, HP.out.1.drew.drew, HP.out.2.drewN 2⟩
end Go.Proofs.Ytlpifioneafciaa
