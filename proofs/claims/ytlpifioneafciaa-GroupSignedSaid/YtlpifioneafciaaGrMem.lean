/- The search in memory. -/
import Derived.Test.YtlpifioneafciaaGrPlain
import Derived.Test.YtlpifioneafciaaRows
import Derived.Test.YtlpifioneafciaaChecked
import Derived.WalkKit
import Derived.WalkSpells
import Derived.WalkLawsBesides
import Derived.Lib.Hide
import Derived.BigQuiet
import Derived.Maps.AppendAt
import Derived.OwnWalk
import Derived.Deep.RegionWith
import Derived.Deep.QuietTactic
import Derived.Lib.Walk
import Derived.Lib.Slices
import Derived.Laws.OwnMore
namespace Go.Proofs.Ytlpifioneafciaa
open Go.RowKit Go.Maps Go.Lib
attribute [local go_sem] Oper.semAt_some

theorem Try.infoInt0 : (Try.prog.info? 3).map (fun i => (i.zero, i.size, i.bytes)) = some (some (.int .i64 0), 1, 8) := by kernel_rfl
theorem heap_at {w : World} {p : Nat} {cs : Array Value} {T : TypeId} {fz : Nat × Nat} (h : w.heap[p]? = some (.cells cs T fz)) : p < w.heap.size := (Array.getElem?_eq_some_iff.1 h).1
def intsV (l : List Nat) : List Value := l.map fun i : Nat => .int .i64 (i : Int)
/-- A row of numbers of the call's own, in blocks from B on. -/
def OwnI (B : Nat) (v : Value) (l : List Nat) (w : World) : Prop := w.ownsRow B 3 1 v l.length (intsV l)
theorem OwnI.keepAt {B : Nat} {v : Value} {l : List Nat} {w w' : World} (h : OwnI B v l w) (hk : ∀ k, v.ownBlock = some k → w'.heap[k]? = w.heap[k]?) : OwnI B v l w' := by
  refine ⟨h.1, ?_⟩
  rcases h.2 with e | ⟨q, cap, cur, rfl, hb, hq, r⟩
  · exact .inl e
  · exact .inr ⟨q, cap, cur, rfl, hb, (hk q rfl).trans hq, r⟩
theorem OwnI.below {B : Nat} {v : Value} {l : List Nat} {w w' : World} (h : OwnI B v l w) (hk : Below w.heap.size w w') : OwnI B v l w' := h.keepAt fun k e => hk.block k (h.lt k e).2
theorem OwnI.alloc {B : Nat} {v : Value} {l : List Nat} {w : World} (h : OwnI B v l w) (o : Obj) : OwnI B v l (w.alloc o) := h.below ((Below.refl _ w).alloc (Nat.le_refl _) o)
theorem OwnI.drew {B : Nat} {v : Value} {l : List Nat} {w : World} (h : OwnI B v l w) : OwnI B v l w.drew := h
theorem OwnI.shape {B : Nat} {v : Value} {l : List Nat} {w : World} (h : OwnI B v l w) : ∃ a c, v = .slice a l.length c := by
  rcases h.2 with ⟨rfl, e⟩ | ⟨q, cap, cur, rfl, _⟩
  · rw [e]; exact ⟨_, _, rfl⟩
  · exact ⟨_, _, rfl⟩
theorem OwnI.get {B q cap : Nat} {l : List Nat} {w : World} (h : OwnI B (.slice (some ⟨q, 0, none⟩) l.length cap) l w) {i : Nat} (hi : i < l.length) : w.cell? ⟨q, i, none⟩ = some (.int .i64 (l.getD i 0 : Nat)) := by
  rw [World.ownsRow.cellAt h i (by omega)]
  simp [intsV, List.getD, hi]
theorem OwnI.at {B : Nat} {v : Value} {l : List Nat} {w : World} (h : OwnI B v l w) {i : Nat} (hi : i < l.length) : ∃ q cap, v = .slice (some ⟨q, 0, none⟩) l.length cap ∧ q < w.heap.size ∧ B ≤ q ∧ l.length ≤ cap ∧ w.cell? ⟨q, i, none⟩ = some (.int .i64 (l.getD i 0 : Nat)) := by
  rcases h.2 with ⟨_, e⟩ | ⟨q, cap, cur, rfl, hb, hq, hc, _⟩
  · omega
  · exact ⟨q, cap, rfl, heap_at hq, hb, hc, OwnI.get h hi⟩
theorem OwnI.free {B q cap n : Nat} {l : List Nat} {w : World} (h : OwnI B (.slice (some ⟨q, 0, none⟩) n cap) l w) (i : Nat) : w.frozen? ⟨q, i, none⟩ = false := by
  rcases h.2 with ⟨e, _⟩ | ⟨g, cap', cur, e, hb, hq, hc, _⟩
  · cases e
  · cases e; exact Lib.frozen_of_heap hq i
theorem intsV_set (W : Nat → Nat) (n r x : Nat) (hr : r < n) : (intsV ((List.range n).map W)).set r (.int .i64 (x : Int)) = intsV ((List.range n).map (updN W r x)) := by
  refine List.ext_getElem? fun k => ?_
  simp only [intsV, List.map_map]
  by_cases e : r = k
  · subst e
    simp [hr, updN]
  · rw [List.getElem?_set_ne e]
    by_cases hk : k < n
    · simp [hk, updN, show ¬ k = r from fun h => e h.symm]
    · simp [hk]
/-- A number turned. -/
theorem OwnI.set {B q cap n r x : Nat} {W : Nat → Nat} {w : World} (h : OwnI B (.slice (some ⟨q, 0, none⟩) n cap) ((List.range n).map W) w) (hr : r < n) : OwnI B (.slice (some ⟨q, 0, none⟩) n cap) ((List.range n).map (updN W r x)) (w.setCell ⟨q, r, none⟩ (.int .i64 (x : Int))) := by
  have hl : ((List.range n).map W).length = n := by simp
  unfold OwnI at h ⊢
  rw [hl] at h
  have := (h.stored r (.int .i64 (x : Int))).1
  rw [intsV_set W n r x hr] at this
  simpa using this
theorem OwnI.push {B : Nat} {v' : Value} {l : List Nat} {x : Nat} {w' : World} (h : w'.ownsRow B 3 1 v' (l.length + 1) (intsV l ++ [.int .i64 (x : Int)])) : OwnI B v' (l ++ [x]) w' := by
  unfold OwnI
  rw [List.length_append]
  have : intsV (l ++ [x]) = intsV l ++ [.int .i64 (x : Int)] := by simp [intsV]
  rw [this]; exact h
/-- The last one taken off. -/
theorem OwnI.pop {B q cap m x : Nat} {l : List Nat} {w : World} (h : OwnI B (.slice (some ⟨q, 0, none⟩) (m + 1) cap) (l ++ [x]) w) (hm : l.length = m) : OwnI B (.slice (some ⟨q, 0, none⟩) m cap) l w := by
  refine ⟨by simp [intsV], ?_⟩
  rcases h.2 with ⟨e, _⟩ | ⟨g, cap', cur, e, hb, hq, hc, hmx, hsz, ht⟩
  · cases e
  · have e1 := congrArg (fun v => match v with | Value.slice a _ c => (a, c) | _ => (none, 0)) e
    simp at e1
    obtain ⟨rfl, rfl⟩ := e1
    refine .inr ⟨q, cap, cur, by rw [hm], hb, hq, by simp at hc; omega, hmx, hsz, ?_⟩
    have h2 := congrArg (List.take (l.length * 1)) ht
    rw [List.take_take, List.length_append, Nat.min_eq_left (by simp)] at h2
    rw [h2]
    simp [intsV]
/-- A row of numbers that came in, at whatever place of its block. -/
def RowN (B : Nat) (v : Value) (l : List Nat) (w : World) : Prop :=
  (l = [] ∧ ∃ a c, v = .slice a 0 c) ∨ ∃ g o cap, v = .slice (some ⟨g, o, none⟩) l.length cap ∧ l.length ≤ cap ∧ g < B ∧ ∀ i, i < l.length → w.cell? ⟨g, o + i, none⟩ = some (.int .i64 (l.getD i 0 : Nat))
theorem RowN.shape {B : Nat} {v : Value} {l : List Nat} {w : World} (h : RowN B v l w) : ∃ a c, v = .slice a l.length c := by
  rcases h with ⟨rfl, a, c, rfl⟩ | ⟨g, o, cap, rfl, _⟩
  · exact ⟨a, c, rfl⟩
  · exact ⟨_, _, rfl⟩
theorem RowN.below {B : Nat} {v : Value} {l : List Nat} {w w' : World} (h : RowN B v l w) (hb : ∀ k, k < B → w'.heap[k]? = w.heap[k]?) : RowN B v l w' := by
  rcases h with h | ⟨g, o, cap, e, hl, hg, hc⟩
  · exact .inl h
  · exact .inr ⟨g, o, cap, e, hl, hg, fun i hi => (World.cell?_of_block (a := ⟨g, o + i, none⟩) (hb g hg)).trans (hc i hi)⟩
/-- What is left of the needs: block q holds the rows. -/
def RestAt (B q n : Nat) (rest : Nat → List Nat) (w : World) : Prop :=
  ∃ cs, w.heap[q]? = some (.cells cs 22 (0, 0)) ∧ n ≤ cs.size ∧ ∀ i, i < n → ∃ v, cs[i]? = some v ∧ RowN B v (rest i) w
/-- The search in block p. -/
structure SM (B p n qs cs qm ql qr : Nat) (pv ov : Value) (s : SS) (w : World) : Prop where
  blk : w.heap[p]? = some (.cells #[.slice (some ⟨qs, 0, none⟩) n cs, .slice (some ⟨qm, 0, none⟩) n n, .slice (some ⟨ql, 0, none⟩) n n, .slice (some ⟨qr, 0, none⟩) n n, pv, ov, .int .i64 (s.count : Int), .int .i64 (s.rings : Int)] 72 (0, 0))
  rest : RestAt B qs n s.rest w
  met : OwnI B (.slice (some ⟨qm, 0, none⟩) n n) ((List.range n).map s.met) w
  low : OwnI B (.slice (some ⟨ql, 0, none⟩) n n) ((List.range n).map s.low) w
  ring : OwnI B (.slice (some ⟨qr, 0, none⟩) n n) ((List.range n).map s.ring) w
  path : OwnI B pv s.path w
  opn : OwnI B ov s.opn w
  ml : qm ≠ ql
  mr : qm ≠ qr
  lr : ql ≠ qr
  pm : ∀ k, pv.ownBlock = some k → k ≠ qm ∧ k ≠ ql ∧ k ≠ qr ∧ ov.ownBlock ≠ some k
  om : ∀ k, ov.ownBlock = some k → k ≠ qm ∧ k ≠ ql ∧ k ≠ qr
  low' : B ≤ p ∧ B ≤ qs
theorem cells8 {w : World} {p : Nat} {a b c d e f g h : Value} {T : TypeId} {fz : Nat × Nat} (hh : w.heap[p]? = some (.cells #[a, b, c, d, e, f, g, h] T fz)) : w.cell? ⟨p, 0, none⟩ = some a ∧ w.cell? ⟨p, 1, none⟩ = some b ∧ w.cell? ⟨p, 2, none⟩ = some c ∧ w.cell? ⟨p, 3, none⟩ = some d ∧ w.cell? ⟨p, 4, none⟩ = some e ∧ w.cell? ⟨p, 5, none⟩ = some f ∧ w.cell? ⟨p, 6, none⟩ = some g ∧ w.cell? ⟨p, 7, none⟩ = some h := by
  refine ⟨?_, ?_, ?_, ?_, ?_, ?_, ?_, ?_⟩ <;> (rw [Lib.cell_of_heap hh]; rfl)
end Go.Proofs.Ytlpifioneafciaa
