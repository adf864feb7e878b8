/- group.order: the rings' row stays while the tables grow. -/
import Derived.Test.YtlpifioneafciaaGrBuilt
namespace Go.Proofs.Ytlpifioneafciaa
open Go.RowKit Go.Maps Go.Lib
attribute [local go_sem] Oper.semAt_some

/-- Which ring each node is in, in a block of its own. -/
def RingK (B N c qr : Nat) (q : Bool → Nat) (qw : Nat) (rv : Bool → Nat → Value) (ring : Nat → Nat) (w : World) : Prop := OwnI B (.slice (some ⟨qr, 0, none⟩) N N) ((List.range N).map ring) w ∧ (∀ t, q t ≠ qr) ∧ qw ≠ qr ∧ ∀ t i, i < c → (rv t i).ownBlock ≠ some qr
theorem RingK.below {B N c qr : Nat} {q : Bool → Nat} {qw : Nat} {rv : Bool → Nat → Value} {ring : Nat → Nat} {w w' : World} (h : RingK B N c qr q qw rv ring w) (hb : Below w.heap.size w w') : RingK B N c qr q qw rv ring w' := ⟨h.1.below hb, h.2⟩
theorem RingK.push {B N p c qw qr r g m cap : Nat} {q : Bool → Nat} {rv : Bool → Nat → Value} {ls : Bool → Nat → List Nat} {wt ring : Nat → Nat} {w V w1 : World} (hk : RingK B N c qr q qw rv ring w) (_ : OB B p c q qw rv ls wt w) (t : Bool) (hr : r < c) (hV : Below w.heap.size w V) (hg : V.grownBy w1 (rv t r).ownBlock) (hat : (rv t r).ownBlock = some g ∨ w.heap.size ≤ g) :
    RingK B N c qr q qw (updBR rv t r (.slice (some ⟨g, 0, none⟩) m cap)) ring (w1.setCell ⟨q t, r, none⟩ (.slice (some ⟨g, 0, none⟩) m cap)) := by
  have hl := (hk.1.lt qr rfl).2
  refine ⟨hk.1.keepAt fun k e => ?_, hk.2.1, hk.2.2.1, fun t' i hi => ?_⟩
  · cases e
    exact (heap_set w1 ⟨q t, r, none⟩ _ qr (Ne.symm (hk.2.1 t))).trans ((hg.block qr (Nat.lt_of_lt_of_le hl hV.size) (Ne.symm (hk.2.2.2 t r hr))).trans (hV.block qr hl))
  · by_cases e : t' = t ∧ i = r
    · obtain ⟨rfl, rfl⟩ := e
      rw [updBR_same]
      intro e2
      obtain rfl : g = qr := by simpa [Value.ownBlock] using e2
      rcases hat with e3 | e3
      · exact hk.2.2.2 t' i hi e3
      · omega
    · rw [updBR_ne rv _ e]; exact hk.2.2.2 t' i hi
theorem RingK.setWait {B N c qw qr u x : Nat} {q : Bool → Nat} {rv : Bool → Nat → Value} {ring : Nat → Nat} {w : World} (hk : RingK B N c qr q qw rv ring w) : RingK B N c qr q qw rv ring (w.setCell ⟨qw, u, none⟩ (.int .i64 (x : Int))) :=
  ⟨hk.1.keepAt fun k e => by cases e; exact heap_set w ⟨qw, u, none⟩ _ qr (Ne.symm hk.2.2.1), hk.2⟩
/-- A table's row grown: all that the loops keep. -/
theorem grown_row {B N p c qw qr r g m cap : Nat} {q : Bool → Nat} {rv : Bool → Nat → Value} {ls : Bool → Nat → List Nat} {l : List Nat} {wt ring : Nat → Nat} {w0 w w1 : World} {o : Obj} (h : OB B p c q qw rv ls wt w) (hk : RingK B N c qr q qw rv ring w) (hb : Below B w0 w) (hBw : B ≤ w.heap.size) (t : Bool) (hr : r < c) (hg : (w.drew.alloc o).grownBy w1 (rv t r).ownBlock) (hat : (rv t r).ownBlock = some g ∨ g = w.heap.size + 1) (ho : OwnI B (.slice (some ⟨g, 0, none⟩) m cap) l w1) :
    OB B p c q qw (updBR rv t r (.slice (some ⟨g, 0, none⟩) m cap)) (updBR ls t r l) wt (w1.setCell ⟨q t, r, none⟩ (.slice (some ⟨g, 0, none⟩) m cap)) ∧ RingK B N c qr q qw (updBR rv t r (.slice (some ⟨g, 0, none⟩) m cap)) ring (w1.setCell ⟨q t, r, none⟩ (.slice (some ⟨g, 0, none⟩) m cap)) ∧ Below B w0 (w1.setCell ⟨q t, r, none⟩ (.slice (some ⟨g, 0, none⟩) m cap)) ∧ w1.heap[p]? = w.heap[p]? ∧ w1.heap[q t]? = w.heap[q t]? := by
  have hV : Below w.heap.size w (w.drew.alloc o) := ((Below.refl _ w).drew).alloc (Nat.le_refl _) o
  have hsz : (w.drew.alloc o).heap.size = w.heap.size + 1 := by simp
  have hat' : (rv t r).ownBlock = some g ∨ w.heap.size ≤ g := hat.imp id fun e => by omega
  have H := h.push t hr hV hg hat' ho
  obtain ⟨n1, n2, n3, n4⟩ := h.ne
  have hge : ∀ j, (rv t r).ownBlock = some j → B ≤ j := fun j e => (h.row t r hr).ge e
  have hsz0 := hb.size
  refine ⟨H.1, hk.push h t hr hV hg hat', ?_, H.2 p (heap_at h.blk) fun e => (n4 t r hr p e).1 rfl, H.2 _ (h.cell t hr).2.2 fun e => (n4 t r hr _ e).2 t rfl⟩
  exact ((hb.trans (hV.mono hBw)).grown hg (by omega) hge).setCell (p := ⟨q t, r, none⟩) (h.bb.2 t) _
end Go.Proofs.Ytlpifioneafciaa
