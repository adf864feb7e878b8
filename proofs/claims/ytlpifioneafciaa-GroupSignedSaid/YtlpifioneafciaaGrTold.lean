/- The row of groups that are told; what waits turned. -/
import Derived.Test.YtlpifioneafciaaGrTopo
namespace Go.Proofs.Ytlpifioneafciaa
open Go.RowKit Go.Maps Go.Lib
attribute [local go_sem] Oper.semAt_some

theorem Try.infoRows : (Try.prog.info? 22).map (fun i => (i.zero, i.size, i.bytes)) = some (some (.slice none 0 0), 1, 24) := by kernel_rfl
/-- The groups that are told, in blocks from B on. -/
def TolR (B : Nat) (ok : Nat → Prop) (tv : Value) (ms : Nat → List Nat) (tl : List Nat) (w : World) : Prop := ∃ vs : List Value, w.ownsRow B 22 1 tv tl.length vs ∧ vs.length = tl.length ∧ ∀ i, i < tl.length → RowQ ok (vs.getD i .nilIface) (ms (tl.getD i 0)) w
theorem TolR.keep {B : Nat} {ok : Nat → Prop} {tv : Value} {ms : Nat → List Nat} {tl : List Nat} {w w' : World} (h : TolR B ok tv ms tl w) (hs : w.heap.size ≤ w'.heap.size) (hk : ∀ k, tv.ownBlock = some k → w'.heap[k]? = w.heap[k]?) (hb : ∀ k, ok k → k < w.heap.size → w'.heap[k]? = w.heap[k]?) : TolR B ok tv ms tl w' := by
  obtain ⟨vs, h1, h2, h3⟩ := h
  refine ⟨vs, ⟨h1.1, ?_⟩, h2, fun i hi => (h3 i hi).keep hs hb⟩
  rcases h1.2 with e | ⟨q, cap, cur, rfl, hb, hq, r⟩
  · exact .inl e
  · exact .inr ⟨q, cap, cur, rfl, hb, (hk q rfl).trans hq, r⟩
theorem TolR.lt {B : Nat} {ok : Nat → Prop} {tv : Value} {ms : Nat → List Nat} {tl : List Nat} {w : World} (h : TolR B ok tv ms tl w) {k : Nat} (e : tv.ownBlock = some k) : B ≤ k ∧ k < w.heap.size := by
  obtain ⟨vs, h1, _⟩ := h
  exact h1.lt k e
theorem TolR.shape {B : Nat} {ok : Nat → Prop} {tv : Value} {ms : Nat → List Nat} {tl : List Nat} {w : World} (h : TolR B ok tv ms tl w) : ∃ a c, tv = .slice a tl.length c := by
  obtain ⟨vs, h1, _⟩ := h
  rcases h1.2 with ⟨rfl, e⟩ | ⟨q, cap, cur, rfl, _⟩
  · rw [e]; exact ⟨_, _, rfl⟩
  · exact ⟨_, _, rfl⟩
theorem TolR.ne {B p : Nat} {ok : Nat → Prop} {tv : Value} {ms : Nat → List Nat} {tl : List Nat} {w : World} {cs : Array Value} {T : TypeId} {fz : Nat × Nat} (h : TolR B ok tv ms tl w) (hp : w.heap[p]? = some (.cells cs T fz)) (hT : T ≠ 22) : tv.ownBlock ≠ some p := fun e => by
  obtain ⟨vs, h1, _⟩ := h
  rcases h1.2 with ⟨rfl, _⟩ | ⟨q, cap, cur, rfl, hb, hq, _⟩
  · cases e
  · obtain rfl : q = p := by simpa [Value.ownBlock] using e
    rw [hp] at hq; cases hq; exact hT rfl
/-- One more is told. -/
theorem TolR.push {B r : Nat} {ok : Nat → Prop} {tv' v : Value} {ms : Nat → List Nat} {tl : List Nat} {vs : List Value} {w w' : World} (h2 : vs.length = tl.length) (h3 : ∀ i, i < tl.length → RowQ ok (vs.getD i .nilIface) (ms (tl.getD i 0)) w) (hv : RowQ ok v (ms r) w) (hs : w.heap.size ≤ w'.heap.size) (hb : ∀ k, ok k → k < w.heap.size → w'.heap[k]? = w.heap[k]?)
    (ho : w'.ownsRow B 22 1 tv' (tl.length + 1) (vs ++ [v])) : TolR B ok tv' ms (tl ++ [r]) w' := by
  refine ⟨vs ++ [v], by rw [List.length_append]; exact ho, by simp [h2], fun i hi => ?_⟩
  by_cases e : i < tl.length
  · rw [getD_app e, show (vs ++ [v]).getD i .nilIface = vs.getD i .nilIface by simp [List.getD, List.getElem?_append_left (show i < vs.length by omega)]]
    exact (h3 i e).keep hs hb
  · have e : i = tl.length := by simp at hi; omega
    subst e
    rw [show (tl ++ [r]).getD tl.length 0 = r by simp [List.getD], show (vs ++ [v]).getD tl.length .nilIface = v by simp [List.getD, ← h2]]
    exact hv.keep hs hb
/-- What a ring waits for, turned. -/
theorem OM.setWait {B B0 b c qm qu qw u x : Nat} {rv : Value} {ms us : Nat → List Nat} {wt : Nat → Nat} {rd : List Nat} {w : World} (h : OM B B0 b c qm qu qw rv ms us wt rd w) (hu : u < c) : OM B B0 b c qm qu qw rv ms us (updN wt u x) rd (w.setCell ⟨qw, u, none⟩ (.int .i64 (x : Int))) := by
  obtain ⟨n1, n2, n3⟩ := h.ne
  obtain ⟨_, _, hm, _⟩ := id h.mem
  obtain ⟨_, _, hus, _⟩ := id h.usr
  have hk : ∀ k, k ≠ qw → (w.setCell ⟨qw, u, none⟩ (.int .i64 (x : Int))).heap[k]? = w.heap[k]? := fun k hk => heap_set w ⟨qw, u, none⟩ _ k hk
  have m1 : qm ≠ qw := fun e => own_ne h.wait hm (by decide) (by rw [e]; rfl)
  have m2 : qu ≠ qw := fun e => own_ne h.wait hus (by decide) (by rw [e]; rfl)
  have hsz := Nat.le_of_eq (size_set w ⟨qw, u, none⟩ (.int .i64 (x : Int))).symm
  have hB := h.bb
  exact ⟨(hk b (Ne.symm n3)).trans h.blk, h.mem.keep hsz (hk qm m1) fun k ok _ => hk k ok.2.1, h.usr.keep hsz (hk qu m2) fun k ok _ => hk k ok.2.1, h.wait.set hu, h.rdy.keepAt fun k e => hk k (by have := h.rdy.ge e; omega), h.bb, h.inr⟩
/-- A walk's step that leaves told's row and what the rows hold as they are. -/
theorem FrO.told {B B0 b qw : Nat} {rv rv' tv : Value} {ms : Nat → List Nat} {tl : List Nat} {w w' : World} (h : FrO B b rv w rv' w') (ht : TolR B0 (OkB B B0 qw b) tv ms tl w) (hb : tv.ownBlock ≠ some b) (hr : ∀ k, rv.ownBlock = some k → B0 ≤ k ∧ tv.ownBlock ≠ some k) : TolR B0 (OkB B B0 qw b) tv ms tl w' ∧ ∀ k, rv'.ownBlock = some k → tv.ownBlock ≠ some k := by
  refine ⟨ht.keep h.1.size (fun k e => h.2.1 k (ht.lt e).2 (fun e2 => hb (by rw [e, e2])) fun e2 => (hr k e2).2 e) (fun k ok hk => h.2.1 k hk ok.2.2.1 fun e2 => by have := (hr k e2).1; have := ok.1; omega), fun k e e2 => ?_⟩
  rcases h.2.2 k e with e3 | e3
  · exact (hr k e3).2 e2
  · have := (ht.lt e2).2; omega
end Go.Proofs.Ytlpifioneafciaa
