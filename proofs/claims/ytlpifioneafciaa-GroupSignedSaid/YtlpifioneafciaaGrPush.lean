/- orderer's Push. -/
import Derived.Test.YtlpifioneafciaaGrSwap
import Derived.Deep.RegionLaw
import Derived.Deep.AppendLies
namespace Go.Proofs.Ytlpifioneafciaa
open Go.RowKit Go.Maps Go.Lib
attribute [local go_sem] Oper.semAt_some

/-- Those that are ready grown, and stored. -/
theorem OM.pushed {B B0 b c qm qu qw g m cap : Nat} {rv : Value} {ms us : Nat → List Nat} {wt : Nat → Nat} {rd l : List Nat} {w w1 : World} {o : Obj} (h : OM B B0 b c qm qu qw rv ms us wt rd w) (hB0 : B0 ≤ w.heap.size) (hg : (w.drew.alloc o).grownBy w1 rv.ownBlock) (hat : rv.ownBlock = some g ∨ g = w.heap.size + 1) (ho : OwnI B0 (.slice (some ⟨g, 0, none⟩) m cap) l w1) (hi : ∀ x ∈ l, x < c) :
    w1.heap[b]? = w.heap[b]? ∧ OM B B0 b c qm qu qw (.slice (some ⟨g, 0, none⟩) m cap) ms us wt l (w1.setCell ⟨b, 3, none⟩ (.slice (some ⟨g, 0, none⟩) m cap)) ∧ FrO B b rv w (.slice (some ⟨g, 0, none⟩) m cap) (w1.setCell ⟨b, 3, none⟩ (.slice (some ⟨g, 0, none⟩) m cap)) := by
  have hbl := heap_at h.blk
  have hba : Below w.heap.size w (w.drew.alloc o) := ((Below.refl _ w).drew).alloc (Nat.le_refl _) o
  have hsz : (w.drew.alloc o).heap.size = w.heap.size + 1 := by simp
  have h1 : ∀ k, k < w.heap.size → rv.ownBlock ≠ some k → w1.heap[k]? = w.heap[k]? := fun k hk he => (hg.block k (by omega) (Ne.symm he)).trans (hba.block k hk)
  have hrb : rv.ownBlock ≠ some b := own_ne h.rdy h.blk (by decide)
  have e1 : w1.heap[b]? = w.heap[b]? := h1 b hbl hrb
  have hr0 : ∀ k, rv.ownBlock = some k → B0 ≤ k := fun k e => h.rdy.ge e
  have hs1 : w.heap.size ≤ w1.heap.size := by have := hg.size; omega
  have hgb : g ≠ b := fun e => by
    rcases hat with e2 | e2
    · exact hrb (by rw [e2, e])
    · omega
  have hB := h.bb
  refine ⟨e1, h.ready (by rw [size_set]; exact hs1) ?_ (fun k hk hkb => (heap_set w1 ⟨b, 3, none⟩ _ k hkb).trans (h1 k (by omega) fun e => by have := hr0 k e; omega)) (ho.keepAt fun k e => by cases e; exact heap_set w1 ⟨b, 3, none⟩ _ g hgb) hi, ?_, fun k hk hkb he => (heap_set w1 ⟨b, 3, none⟩ _ k hkb).trans (h1 k hk he), fun k e => ?_⟩
  · have := blk_setG (e1.trans h.blk) (o := 3) (.slice (some ⟨g, 0, none⟩) m cap)
    rw [this]; rfl
  · exact ((hba.mono (by omega)).grown hg (by omega) (fun j hj => by have := hr0 j hj; omega)).setCell (p := ⟨b, 3, none⟩) hB.1 _
  · obtain rfl : g = k := by simpa [Value.ownBlock] using e
    rcases hat with e2 | e2
    · exact .inl e2
    · exact .inr (by omega)
theorem ta_int (x : Value) (w : World) : (Instr.typeAssert (.iface 3 x) 20 3 false).run Try.prog w = .ok x w := by kernel_rfl
set_option maxRecDepth 100000 in
set_option maxHeartbeats 4000000 in
theorem opush_any {B B0 b c qm qu qw r : Nat} {rv : Value} {ms us : Nat → List Nat} {wt : Nat → Nat} {rd : List Nat} (w : World) (h : OM B B0 b c qm qu qw rv ms us wt rd w) (hB0 : B0 ≤ w.heap.size) (hr : r < c) (hrl : rd.length < 1000000000) :
    Calls Try.prog 60 #[.pointer (some ⟨b, 0, none⟩), .iface 3 (.int .i64 (r : Int))] w fun e w' => e = .returned (.tuple #[]) ∧ ∃ rv', OM B B0 b c qm qu qw rv' ms us wt (rd ++ [r]) w' ∧ FrO B b rv w rv' w' := by
  obtain ⟨i0, hi, hz0, hz1, hz2⟩ := info_parts Try.infoInt0
  obtain ⟨y0, y1, y2, y3⟩ := cells4G h.blk
  have hpw := heap_at h.blk
  have hbb : B0 ≤ w.heap.size ∧ b < B0 := ⟨hB0, h.bb.2.1⟩
  obtain ⟨a, cc, rfl⟩ := h.rdy.shape
  have hin : ∀ x ∈ rd ++ [r], x < c := fun x hx => by
    rcases List.mem_append.1 hx with hx | hx
    · exact h.inr x hx
    · simp at hx; omega
  have HR := Lib.hid (fun o : Obj => show (w.drew.alloc o).ownsRow B0 3 1 (.slice a rd.length cc) rd.length (intsV rd) from h.rdy.drew.alloc o)
  have HP := Lib.hid (fun (o : Obj) (w1 : World) (g cap : Nat) (hg : (w.drew.alloc o).grownBy w1 (Value.slice a rd.length cc).ownBlock) (hat : (Value.slice a rd.length cc).ownBlock = some g ∨ g = w.heap.size + 1) (ho : w1.ownsRow B0 3 1 (.slice (some ⟨g, 0, none⟩) (rd.length + 1) cap) (rd.length + 1) (intsV rd ++ [.int .i64 (r : Int)])) => h.pushed (m := rd.length + 1) (cap := cap) hB0 hg hat (OwnI.push ho) hin)
  have HBlk := Lib.hid h.blk
  have hta := fun w => ta_int (.int .i64 (r : Int)) w
  clear h hin
  go_enter Try.func60, Try.ntmps60
  go_wp2_with fail
  go_region_law ((refine step_append_lies _ (by rfl) _ _ 22 (by rfl) B0 3 i0 (.int .i64 0) 1 8 Try.underlying22 hi hz0 hz1 hz2 rfl (by decide) _ rd.length (intsV rd) (by rfl) (HR.out _) ⟨w.heap.size, 0, none⟩ 1 1 [.int .i64 (r : Int)] (by rfl) rfl (frz_oneI _ _ _) (by simp [Value.oneCell']) (by decide) (by unfold maxLen; omega) (by omega) (by simp; omega) (w.heap.size + 1) (by simp) ?_; intro g cap w1 hown hgr hat hlt; have H := Lib.hid (HP.out _ _ _ _ hgr hat hown); have hb1 := H.out.1.trans HBlk.out; have u0 : w1.cell? ⟨b, 3, none⟩ = some (.slice a rd.length cc) := (cells4G hb1).2.2.2; have u2 := Lib.frozen_of_heap hb1 3; clear hb1 hown hgr hat))
  all_goals
    go_wp2_with fail
    go_end0
    exact ⟨rfl, _, H.out.2.1, H.out.2.2⟩
end Go.Proofs.Ytlpifioneafciaa
