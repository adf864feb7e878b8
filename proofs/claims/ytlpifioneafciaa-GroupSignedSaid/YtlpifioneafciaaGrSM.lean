/- The search in memory: one thing of it turned. -/
import Derived.Test.YtlpifioneafciaaGrMem
namespace Go.Proofs.Ytlpifioneafciaa
open Go.RowKit Go.Maps Go.Lib
attribute [local go_sem] Oper.semAt_some

theorem heap_set (w : World) (a : Addr) (u : Value) (k : Nat) (h : k ≠ a.block) : (w.setCell a u).heap[k]? = w.heap[k]? := Below.heap_setCell w a u k h
theorem size_set (w : World) (a : Addr) (u : Value) : (w.setCell a u).heap.size = w.heap.size := by simp [World.setCell]
theorem blk_setG {w : World} {p o : Nat} {cs : Array Value} {T : TypeId} {fz : Nat × Nat} (h : w.heap[p]? = some (.cells cs T fz)) (u : Value) : (w.setCell ⟨p, o, none⟩ u).heap[p]? = some (.cells (cs.setIfInBounds o u) T fz) := by
  unfold World.setCell
  show (w.heap.modify p _)[p]? = _
  rw [Array.getElem?_modify]
  simp [h]
theorem own_ne {B p : Nat} {v : Value} {l : List Nat} {w : World} {cs : Array Value} {T : TypeId} {fz : Nat × Nat} (h : OwnI B v l w) (hp : w.heap[p]? = some (.cells cs T fz)) (hT : T ≠ 3) : v.ownBlock ≠ some p := fun e => by
  rcases h.2 with ⟨rfl, _⟩ | ⟨q, cap, cur, rfl, hb, hq, _⟩
  · cases e
  · obtain rfl : q = p := by simpa [Value.ownBlock] using e
    rw [hp] at hq; cases hq; exact hT rfl
theorem OwnI.ge {B : Nat} {v : Value} {l : List Nat} {w : World} (h : OwnI B v l w) {k : Nat} (e : v.ownBlock = some k) : B ≤ k := (h.lt k e).1
theorem RestAt.keep {B q n : Nat} {rest : Nat → List Nat} {w w' : World} (h : RestAt B q n rest w) (hq : w'.heap[q]? = w.heap[q]?) (hb : ∀ k, k < B → w'.heap[k]? = w.heap[k]?) : RestAt B q n rest w' := by
  obtain ⟨cs, h1, h2, h3⟩ := h
  exact ⟨cs, hq.trans h1, h2, fun i hi => by obtain ⟨v, e, hr⟩ := h3 i hi; exact ⟨v, e, hr.below hb⟩⟩
/-- What all its rows are, whatever the block p holds. -/
structure SR (B p n qs qm ql qr : Nat) (pv ov : Value) (s : SS) (w : World) : Prop where
  rest : RestAt B qs n s.rest w
  met : OwnI B (.slice (some ⟨qm, 0, none⟩) n n) ((List.range n).map s.met) w
  low : OwnI B (.slice (some ⟨ql, 0, none⟩) n n) ((List.range n).map s.low) w
  ring : OwnI B (.slice (some ⟨qr, 0, none⟩) n n) ((List.range n).map s.ring) w
  path : OwnI B pv s.path w
  opn : OwnI B ov s.opn w
theorem SM.rows {B p n qs cs qm ql qr : Nat} {pv ov : Value} {s : SS} {w : World} (h : SM B p n qs cs qm ql qr pv ov s w) : SR B p n qs qm ql qr pv ov s w := ⟨h.rest, h.met, h.low, h.ring, h.path, h.opn⟩
theorem SM.ne {B p n qs cs qm ql qr : Nat} {pv ov : Value} {s : SS} {w : World} (h : SM B p n qs cs qm ql qr pv ov s w) : (qm ≠ p ∧ ql ≠ p ∧ qr ≠ p ∧ qs ≠ p) ∧ (qm ≠ qs ∧ ql ≠ qs ∧ qr ≠ qs) ∧ (∀ k, pv.ownBlock = some k → k ≠ p ∧ k ≠ qs) ∧ (∀ k, ov.ownBlock = some k → k ≠ p ∧ k ≠ qs) := by
  obtain ⟨cs', hq, _⟩ := h.rest
  have a : ∀ {v l} (_ : OwnI B v l w) (k), v.ownBlock = some k → k ≠ p ∧ k ≠ qs := fun {v l} ho k e => ⟨fun ee => own_ne ho h.blk (by decide) (ee ▸ e), fun ee => own_ne ho hq (by decide) (ee ▸ e)⟩
  have hqp : qs ≠ p := fun e => by subst e; rw [h.blk] at hq; simp at hq
  exact ⟨⟨(a h.met qm rfl).1, (a h.low ql rfl).1, (a h.ring qr rfl).1, hqp⟩, ⟨(a h.met qm rfl).2, (a h.low ql rfl).2, (a h.ring qr rfl).2⟩, a h.path, a h.opn⟩
/-- The block p alone turned. -/
theorem SM.atP {B p n qs cs qm ql qr : Nat} {pv ov : Value} {s : SS} {w w' : World} (h : SM B p n qs cs qm ql qr pv ov s w) (hk : ∀ k, k ≠ p → w'.heap[k]? = w.heap[k]?) : SR B p n qs qm ql qr pv ov s w' := by
  obtain ⟨⟨n1, n2, n3, n4⟩, _, n5, n6⟩ := h.ne
  have hb : ∀ k, k < B → w'.heap[k]? = w.heap[k]? := fun k hkB => hk k (by have := h.low'.1; omega)
  exact ⟨h.rest.keep (hk _ n4) hb, h.met.keepAt fun k e => hk k (by cases e; exact n1), h.low.keepAt fun k e => hk k (by cases e; exact n2), h.ring.keepAt fun k e => hk k (by cases e; exact n3), h.path.keepAt fun k e => hk k (n5 k e).1, h.opn.keepAt fun k e => hk k (n6 k e).1⟩
theorem SM.setCount {B p n qs cs qm ql qr : Nat} {pv ov : Value} {s : SS} {w : World} (h : SM B p n qs cs qm ql qr pv ov s w) (c : Nat) : SM B p n qs cs qm ql qr pv ov { s with count := c } (w.setCell ⟨p, 6, none⟩ (.int .i64 (c : Int))) := by
  have r := h.atP (w' := w.setCell ⟨p, 6, none⟩ (.int .i64 (c : Int))) fun k hk => heap_set w ⟨p, 6, none⟩ _ k hk
  exact ⟨blk_setG h.blk _, r.rest, r.met, r.low, r.ring, r.path, r.opn, h.ml, h.mr, h.lr, h.pm, h.om, h.low'⟩
theorem SM.setRings {B p n qs cs qm ql qr : Nat} {pv ov : Value} {s : SS} {w : World} (h : SM B p n qs cs qm ql qr pv ov s w) (c : Nat) : SM B p n qs cs qm ql qr pv ov { s with rings := c } (w.setCell ⟨p, 7, none⟩ (.int .i64 (c : Int))) := by
  have r := h.atP (w' := w.setCell ⟨p, 7, none⟩ (.int .i64 (c : Int))) fun k hk => heap_set w ⟨p, 7, none⟩ _ k hk
  exact ⟨blk_setG h.blk _, r.rest, r.met, r.low, r.ring, r.path, r.opn, h.ml, h.mr, h.lr, h.pm, h.om, h.low'⟩
/-- One number of a row turned: all but that row. -/
theorem SM.but {B p n qs cs qm ql qr q : Nat} {pv ov : Value} {s : SS} {w w' : World} (h : SM B p n qs cs qm ql qr pv ov s w) (hk : ∀ k, k ≠ q → w'.heap[k]? = w.heap[k]?) (hB : B ≤ q) (hp : q ≠ p) (hs : q ≠ qs) :
    w'.heap[p]? = w.heap[p]? ∧ RestAt B qs n s.rest w' := ⟨hk p (Ne.symm hp), h.rest.keep (hk qs (Ne.symm hs)) fun k hkB => hk k (by omega)⟩
theorem SM.setMet {B p n qs cs qm ql qr r x : Nat} {pv ov : Value} {s : SS} {w : World} (h : SM B p n qs cs qm ql qr pv ov s w) (hr : r < n) : SM B p n qs cs qm ql qr pv ov { s with met := updN s.met r x } (w.setCell ⟨qm, r, none⟩ (.int .i64 (x : Int))) := by
  obtain ⟨⟨n1, _⟩, ⟨m1, _⟩, n5, n6⟩ := h.ne
  have hk : ∀ k, k ≠ qm → (w.setCell ⟨qm, r, none⟩ (.int .i64 (x : Int))).heap[k]? = w.heap[k]? := fun k hk => heap_set w ⟨qm, r, none⟩ _ k hk
  obtain ⟨e1, e2⟩ := h.but hk (h.met.ge rfl) n1 m1
  exact ⟨e1.trans h.blk, e2, h.met.set hr, h.low.keepAt fun k e => hk k (by cases e; exact Ne.symm h.ml), h.ring.keepAt fun k e => hk k (by cases e; exact Ne.symm h.mr), h.path.keepAt fun k e => hk k (h.pm k e).1, h.opn.keepAt fun k e => hk k (h.om k e).1, h.ml, h.mr, h.lr, h.pm, h.om, h.low'⟩
theorem SM.setLow {B p n qs cs qm ql qr r x : Nat} {pv ov : Value} {s : SS} {w : World} (h : SM B p n qs cs qm ql qr pv ov s w) (hr : r < n) : SM B p n qs cs qm ql qr pv ov { s with low := updN s.low r x } (w.setCell ⟨ql, r, none⟩ (.int .i64 (x : Int))) := by
  obtain ⟨⟨_, n1, _⟩, ⟨_, m1, _⟩, n5, n6⟩ := h.ne
  have hk : ∀ k, k ≠ ql → (w.setCell ⟨ql, r, none⟩ (.int .i64 (x : Int))).heap[k]? = w.heap[k]? := fun k hk => heap_set w ⟨ql, r, none⟩ _ k hk
  obtain ⟨e1, e2⟩ := h.but hk (h.low.ge rfl) n1 m1
  exact ⟨e1.trans h.blk, e2, h.met.keepAt fun k e => hk k (by cases e; exact h.ml), h.low.set hr, h.ring.keepAt fun k e => hk k (by cases e; exact Ne.symm h.lr), h.path.keepAt fun k e => hk k (h.pm k e).2.1, h.opn.keepAt fun k e => hk k (h.om k e).2.1, h.ml, h.mr, h.lr, h.pm, h.om, h.low'⟩
theorem SM.setRing {B p n qs cs qm ql qr r x : Nat} {pv ov : Value} {s : SS} {w : World} (h : SM B p n qs cs qm ql qr pv ov s w) (hr : r < n) : SM B p n qs cs qm ql qr pv ov { s with ring := updN s.ring r x } (w.setCell ⟨qr, r, none⟩ (.int .i64 (x : Int))) := by
  obtain ⟨⟨_, _, n1, _⟩, ⟨_, _, m1⟩, n5, n6⟩ := h.ne
  have hk : ∀ k, k ≠ qr → (w.setCell ⟨qr, r, none⟩ (.int .i64 (x : Int))).heap[k]? = w.heap[k]? := fun k hk => heap_set w ⟨qr, r, none⟩ _ k hk
  obtain ⟨e1, e2⟩ := h.but hk (h.ring.ge rfl) n1 m1
  exact ⟨e1.trans h.blk, e2, h.met.keepAt fun k e => hk k (by cases e; exact h.mr), h.low.keepAt fun k e => hk k (by cases e; exact h.lr), h.ring.set hr, h.path.keepAt fun k e => hk k (h.pm k e).2.2.1, h.opn.keepAt fun k e => hk k (h.om k e).2.2, h.ml, h.mr, h.lr, h.pm, h.om, h.low'⟩
/-- The rest of a node's needs turned. -/
theorem SM.setRest {B p n qs cs qm ql qr r : Nat} {pv ov v : Value} {l : List Nat} {s : SS} {w : World} (h : SM B p n qs cs qm ql qr pv ov s w) (hr : r < n) (hv : RowN B v l w) : SM B p n qs cs qm ql qr pv ov { s with rest := fun i => if i = r then l else s.rest i } (w.setCell ⟨qs, r, none⟩ v) := by
  obtain ⟨⟨_, _, _, n1⟩, ⟨m1, m2, m3⟩, n5, n6⟩ := h.ne
  have hk : ∀ k, k ≠ qs → (w.setCell ⟨qs, r, none⟩ v).heap[k]? = w.heap[k]? := fun k hk => heap_set w ⟨qs, r, none⟩ _ k hk
  have hb : ∀ k, k < B → (w.setCell ⟨qs, r, none⟩ v).heap[k]? = w.heap[k]? := fun k hkB => hk k (by have := h.low'.2; omega)
  refine ⟨(hk p (Ne.symm n1)).trans h.blk, ?_, h.met.keepAt fun k e => hk k (by cases e; exact m1), h.low.keepAt fun k e => hk k (by cases e; exact m2), h.ring.keepAt fun k e => hk k (by cases e; exact m3), h.path.keepAt fun k e => hk k (n5 k e).2, h.opn.keepAt fun k e => hk k (n6 k e).2, h.ml, h.mr, h.lr, h.pm, h.om, h.low'⟩
  obtain ⟨cs', h1, h2, h3⟩ := h.rest
  refine ⟨_, blk_setG h1 _, by simpa using h2, fun i hi => ?_⟩
  by_cases e : i = r
  · subst e
    exact ⟨v, by simp [show i < cs'.size by omega], by show RowN B v (if i = i then l else s.rest i) _; rw [if_pos rfl]; exact hv.below hb⟩
  · obtain ⟨u, e1, e2⟩ := h3 i hi
    exact ⟨u, by rw [Array.getElem?_setIfInBounds_ne (Ne.symm e)]; exact e1, by show RowN B u (if i = r then l else s.rest i) _; rw [if_neg e]; exact e2.below hb⟩
/-- The way grown, and stored. -/
theorem SM.growPath {B p n qs cs qm ql qr g cap m : Nat} {pv ov : Value} {l : List Nat} {s : SS} {w w5 : World} (h : SM B p n qs cs qm ql qr pv ov s w) (hg : w.grownBy w5 pv.ownBlock) (hat : pv.ownBlock = some g ∨ g = w.heap.size) (ho : OwnI B (.slice (some ⟨g, 0, none⟩) m cap) l w5) :
    SM B p n qs cs qm ql qr (.slice (some ⟨g, 0, none⟩) m cap) ov { s with path := l } (w5.setCell ⟨p, 4, none⟩ (.slice (some ⟨g, 0, none⟩) m cap)) ∧ w5.heap[p]? = w.heap[p]? := by
  obtain ⟨⟨n1, n2, n3, n4⟩, ⟨m1, m2, m3⟩, n5, n6⟩ := h.ne
  obtain ⟨cs', hq, _⟩ := h.rest
  have lt : ∀ {v l'} (_ : OwnI B v l' w) (k), v.ownBlock = some k → k < w.heap.size := fun {v l'} ho k e => (ho.lt k e).2
  have hp5 : w5.heap[p]? = w.heap[p]? := hg.block p (heap_at h.blk) fun e => (n5 p e.symm).1 rfl
  have keep : ∀ k, k < w.heap.size → k ≠ p → pv.ownBlock ≠ some k → (w5.setCell ⟨p, 4, none⟩ (.slice (some ⟨g, 0, none⟩) m cap)).heap[k]? = w.heap[k]? := fun k hk hkp he => (heap_set w5 ⟨p, 4, none⟩ _ k hkp).trans (hg.block k hk (Ne.symm he))
  have gne : ∀ k, k < w.heap.size → pv.ownBlock ≠ some k → k ≠ g := fun k hk he e => by
    rcases hat with h1 | h1
    · exact he (e ▸ h1)
    · omega
  have gp : g ≠ p := fun e => by
    rcases hat with h1 | h1
    · exact (n5 g h1).1 e
    · have := heap_at h.blk; omega
  have am := fun e => (h.pm qm e).1 rfl
  have al := fun e => (h.pm ql e).2.1 rfl
  have ar := fun e => (h.pm qr e).2.2.1 rfl
  refine ⟨⟨blk_setG (hp5.trans h.blk) _, h.rest.keep (keep qs (heap_at hq) n4 fun e => (n5 qs e).2 rfl) (fun k hkB => keep k (by have := (h.met.lt qm rfl); omega) (by have := h.low'.1; omega) fun e => by have := h.path.ge e; omega), h.met.keepAt fun k e => by cases e; exact keep qm (lt h.met qm rfl) n1 am, h.low.keepAt fun k e => by cases e; exact keep ql (lt h.low ql rfl) n2 al, h.ring.keepAt fun k e => by cases e; exact keep qr (lt h.ring qr rfl) n3 ar,
    ho.keepAt fun k e => by cases e; exact heap_set w5 ⟨p, 4, none⟩ _ g gp, h.opn.keepAt fun k e => keep k (lt h.opn k e) (n6 k e).1 fun e2 => (h.pm k e2).2.2.2 e, h.ml, h.mr, h.lr, fun k e => ?_, h.om, h.low'⟩, hp5⟩
  obtain rfl : g = k := by simpa [Value.ownBlock] using e
  exact ⟨Ne.symm (gne qm (lt h.met qm rfl) am), Ne.symm (gne ql (lt h.low ql rfl) al), Ne.symm (gne qr (lt h.ring qr rfl) ar), fun e2 => gne g (lt h.opn g e2) (fun e3 => (h.pm g e3).2.2.2 e2) rfl⟩
/-- The open ones grown, and stored. -/
theorem SM.growOpn {B p n qs cs qm ql qr g cap m : Nat} {pv ov : Value} {l : List Nat} {s : SS} {w w5 : World} (h : SM B p n qs cs qm ql qr pv ov s w) (hg : w.grownBy w5 ov.ownBlock) (hat : ov.ownBlock = some g ∨ g = w.heap.size) (ho : OwnI B (.slice (some ⟨g, 0, none⟩) m cap) l w5) :
    SM B p n qs cs qm ql qr pv (.slice (some ⟨g, 0, none⟩) m cap) { s with opn := l } (w5.setCell ⟨p, 5, none⟩ (.slice (some ⟨g, 0, none⟩) m cap)) ∧ w5.heap[p]? = w.heap[p]? := by
  obtain ⟨⟨n1, n2, n3, n4⟩, ⟨m1, m2, m3⟩, n5, n6⟩ := h.ne
  obtain ⟨cs', hq, _⟩ := h.rest
  have lt : ∀ {v l'} (_ : OwnI B v l' w) (k), v.ownBlock = some k → k < w.heap.size := fun {v l'} ho k e => (ho.lt k e).2
  have hp5 : w5.heap[p]? = w.heap[p]? := hg.block p (heap_at h.blk) fun e => (n6 p e.symm).1 rfl
  have keep : ∀ k, k < w.heap.size → k ≠ p → ov.ownBlock ≠ some k → (w5.setCell ⟨p, 5, none⟩ (.slice (some ⟨g, 0, none⟩) m cap)).heap[k]? = w.heap[k]? := fun k hk hkp he => (heap_set w5 ⟨p, 5, none⟩ _ k hkp).trans (hg.block k hk (Ne.symm he))
  have gne : ∀ k, k < w.heap.size → ov.ownBlock ≠ some k → k ≠ g := fun k hk he e => by
    rcases hat with h1 | h1
    · exact he (e ▸ h1)
    · omega
  have gp : g ≠ p := fun e => by
    rcases hat with h1 | h1
    · exact (n6 g h1).1 e
    · have := heap_at h.blk; omega
  have am := fun e => (h.om qm e).1 rfl
  have al := fun e => (h.om ql e).2.1 rfl
  have ar := fun e => (h.om qr e).2.2 rfl
  refine ⟨⟨blk_setG (hp5.trans h.blk) _, h.rest.keep (keep qs (heap_at hq) n4 fun e => (n6 qs e).2 rfl) (fun k hkB => keep k (by have := (h.met.lt qm rfl); omega) (by have := h.low'.1; omega) fun e => by have := h.opn.ge e; omega), h.met.keepAt fun k e => by cases e; exact keep qm (lt h.met qm rfl) n1 am, h.low.keepAt fun k e => by cases e; exact keep ql (lt h.low ql rfl) n2 al, h.ring.keepAt fun k e => by cases e; exact keep qr (lt h.ring qr rfl) n3 ar,
    h.path.keepAt fun k e => keep k (lt h.path k e) (n5 k e).1 fun e2 => (h.pm k e).2.2.2 e2, ho.keepAt fun k e => by cases e; exact heap_set w5 ⟨p, 5, none⟩ _ g gp, h.ml, h.mr, h.lr, fun k e => ?_, fun k e => ?_, h.low'⟩, hp5⟩
  · obtain ⟨a1, a2, a3, a4⟩ := h.pm k e
    refine ⟨a1, a2, a3, fun e2 => ?_⟩
    obtain rfl : g = k := by simpa [Value.ownBlock] using e2
    exact gne g (lt h.path g e) a4 rfl
  · obtain rfl : g = k := by simpa [Value.ownBlock] using e
    exact ⟨Ne.symm (gne qm (lt h.met qm rfl) am), Ne.symm (gne ql (lt h.low ql rfl) al), Ne.symm (gne qr (lt h.ring qr rfl) ar)⟩
theorem SM.drew {B p n qs cs qm ql qr : Nat} {pv ov : Value} {s : SS} {w : World} (h : SM B p n qs cs qm ql qr pv ov s w) : SM B p n qs cs qm ql qr pv ov s w.drew := ⟨h.blk, h.rest.keep rfl fun _ _ => rfl, h.met, h.low, h.ring, h.path, h.opn, h.ml, h.mr, h.lr, h.pm, h.om, h.low'⟩
theorem SM.below {B p n qs cs qm ql qr : Nat} {pv ov : Value} {s : SS} {w w' : World} (h : SM B p n qs cs qm ql qr pv ov s w) (hb : Below w.heap.size w w') : SM B p n qs cs qm ql qr pv ov s w' := by
  obtain ⟨cs', hq, _⟩ := h.rest
  exact ⟨(hb.block p (heap_at h.blk)).trans h.blk, h.rest.keep (hb.block qs (heap_at hq)) fun k hk => hb.block k (by have := (h.met.lt qm rfl); omega), h.met.below hb, h.low.below hb, h.ring.below hb, h.path.below hb, h.opn.below hb, h.ml, h.mr, h.lr, h.pm, h.om, h.low'⟩
theorem frz_oneI (w : World) (x : Value) (t : TypeId) : ∀ j v, [x][j]? = some v → (w.alloc (.cells #[x] t)).cell? ((⟨w.heap.size, 0, none⟩ : Addr).add j) = some v := by
  intro j v hv
  have hadd : (⟨w.heap.size, 0, none⟩ : Addr).add j = ⟨w.heap.size, j, none⟩ := by unfold Addr.add; split <;> simp_all
  rw [hadd]
  have hn : (w.alloc (.cells #[x] t)).heap[w.heap.size]? = some (.cells #[x] t (0, 0)) := by show (w.heap.push _)[w.heap.size]? = _; simp
  rw [Lib.cell_of_heap hn]
  match j, hv with
  | 0, hv => simpa using hv
  | n + 1, hv => simp at hv
theorem below_allocG (X : World) (o : Obj) : Below X.heap.size X (X.alloc o) := (Below.refl _ X).alloc (Nat.le_refl _) o
theorem row_cell {B q n r : Nat} {W : Nat → Nat} {w : World} (h : OwnI B (.slice (some ⟨q, 0, none⟩) n n) ((List.range n).map W) w) (hr : r < n) : w.cell? ⟨q, r, none⟩ = some (.int .i64 (W r : Int)) ∧ w.frozen? ⟨q, r, none⟩ = false ∧ q < w.heap.size := by
  have hl : ((List.range n).map W).length = n := by simp
  refine ⟨?_, h.free r, (h.lt q rfl).2⟩
  have h2 : OwnI B (.slice (some ⟨q, 0, none⟩) ((List.range n).map W).length n) ((List.range n).map W) w := by rw [hl]; exact h
  have := h2.get (i := r) (by omega)
  rw [this]
  simp [List.getD, hr]
end Go.Proofs.Ytlpifioneafciaa
