/- group.orderer in memory: rings' members, users, what they wait for, a heap of those that are ready. -/
import Derived.Test.YtlpifioneafciaaGrSM
namespace Go.Proofs.Ytlpifioneafciaa
open Go.RowKit Go.Maps Go.Lib
attribute [local go_sem] Oper.semAt_some

/-- A row of numbers in a block of a kind, at whatever place. -/
def RowQ (ok : Nat → Prop) (v : Value) (l : List Nat) (w : World) : Prop :=
  (l = [] ∧ ∃ a c, v = .slice a 0 c) ∨ ∃ g o cap, v = .slice (some ⟨g, o, none⟩) l.length cap ∧ l.length ≤ cap ∧ ok g ∧ g < w.heap.size ∧ ∀ i, i < l.length → w.cell? ⟨g, o + i, none⟩ = some (.int .i64 (l.getD i 0 : Nat))
theorem RowQ.shape {ok : Nat → Prop} {v : Value} {l : List Nat} {w : World} (h : RowQ ok v l w) : ∃ a c, v = .slice a l.length c := by
  rcases h with ⟨rfl, a, c, rfl⟩ | ⟨g, o, cap, rfl, _⟩
  · exact ⟨a, c, rfl⟩
  · exact ⟨_, _, rfl⟩
theorem RowQ.keep {ok : Nat → Prop} {v : Value} {l : List Nat} {w w' : World} (h : RowQ ok v l w) (hs : w.heap.size ≤ w'.heap.size) (hb : ∀ k, ok k → k < w.heap.size → w'.heap[k]? = w.heap[k]?) : RowQ ok v l w' := by
  rcases h with h | ⟨g, o, cap, e, hl, hg, hlt, hc⟩
  · exact .inl h
  · exact .inr ⟨g, o, cap, e, hl, hg, by omega, fun i hi => (World.cell?_of_block (a := ⟨g, o + i, none⟩) (hb g hg hlt)).trans (hc i hi)⟩
theorem RowQ.at {ok : Nat → Prop} {a : Option Addr} {n c : Nat} {l : List Nat} {w : World} (h : RowQ ok (.slice a n c) l w) (hn : 0 < l.length) : ∃ g o, a = some ⟨g, o, none⟩ ∧ g < w.heap.size ∧ ∀ i, i < l.length → w.cell? ⟨g, o + i, none⟩ = some (.int .i64 (l.getD i 0 : Nat)) := by
  rcases h with ⟨rfl, _⟩ | ⟨g, o, cap, e, _, _, hg, hc⟩
  · exact absurd hn (Nat.lt_irrefl _)
  · cases e; exact ⟨g, o, rfl, hg, hc⟩
/-- Rows of numbers, in block q. -/
def TblAt (ok : Nat → Prop) (q c : Nat) (f : Nat → List Nat) (w : World) : Prop := ∃ cs fz, w.heap[q]? = some (.cells cs 22 fz) ∧ c ≤ cs.size ∧ ∀ i, i < c → ∃ v, cs[i]? = some v ∧ RowQ ok v (f i) w
theorem TblAt.cell {ok : Nat → Prop} {q c i : Nat} {f : Nat → List Nat} {w : World} (h : TblAt ok q c f w) (hi : i < c) : ∃ v, w.cell? ⟨q, i, none⟩ = some v ∧ RowQ ok v (f i) w ∧ q < w.heap.size := by
  obtain ⟨cs, fz, h1, h2, h3⟩ := h
  obtain ⟨v, e, hr⟩ := h3 i hi
  exact ⟨v, by rw [Lib.cell_of_heap h1]; exact e, hr, heap_at h1⟩
theorem TblAt.keep {ok : Nat → Prop} {q c : Nat} {f : Nat → List Nat} {w w' : World} (h : TblAt ok q c f w) (hs : w.heap.size ≤ w'.heap.size) (hq : w'.heap[q]? = w.heap[q]?) (hb : ∀ k, ok k → k < w.heap.size → w'.heap[k]? = w.heap[k]?) : TblAt ok q c f w' := by
  obtain ⟨cs, fz, h1, h2, h3⟩ := h
  exact ⟨cs, fz, hq.trans h1, h2, fun i hi => by obtain ⟨v, e, hr⟩ := h3 i hi; exact ⟨v, e, hr.keep hs hb⟩⟩
/-- The blocks that a table's rows may lie in: those that were there, but the waiting ones' and the orderer's own. -/
def OkB (B B0 qw b : Nat) (k : Nat) : Prop := k < B0 ∧ k ≠ qw ∧ k ≠ b ∧ B ≤ k
/-- The orderer in block b. -/
structure OM (B B0 b c qm qu qw : Nat) (rv : Value) (ms us : Nat → List Nat) (wt : Nat → Nat) (rd : List Nat) (w : World) : Prop where
  blk : w.heap[b]? = some (.cells #[.slice (some ⟨qm, 0, none⟩) c c, .slice (some ⟨qu, 0, none⟩) c c, .slice (some ⟨qw, 0, none⟩) c c, rv] 59 (0, 0))
  mem : TblAt (OkB B B0 qw b) qm c ms w
  usr : TblAt (OkB B B0 qw b) qu c us w
  wait : OwnI B (.slice (some ⟨qw, 0, none⟩) c c) ((List.range c).map wt) w
  rdy : OwnI B0 rv rd w
  bb : B ≤ b ∧ b < B0 ∧ qm < B0 ∧ qu < B0 ∧ qw < B0 ∧ B ≤ B0
  inr : ∀ x ∈ rd, x < c
theorem cells4G {w : World} {p : Nat} {a b c d : Value} {T : TypeId} {fz : Nat × Nat} (hh : w.heap[p]? = some (.cells #[a, b, c, d] T fz)) : w.cell? ⟨p, 0, none⟩ = some a ∧ w.cell? ⟨p, 1, none⟩ = some b ∧ w.cell? ⟨p, 2, none⟩ = some c ∧ w.cell? ⟨p, 3, none⟩ = some d := by
  refine ⟨?_, ?_, ?_, ?_⟩ <;> (rw [Lib.cell_of_heap hh]; rfl)
theorem OM.ne {B B0 b c qm qu qw : Nat} {rv : Value} {ms us : Nat → List Nat} {wt : Nat → Nat} {rd : List Nat} {w : World} (h : OM B B0 b c qm qu qw rv ms us wt rd w) : qm ≠ b ∧ qu ≠ b ∧ qw ≠ b := by
  obtain ⟨_, _, hm, _⟩ := h.mem
  obtain ⟨_, _, hu, _⟩ := h.usr
  refine ⟨fun e => ?_, fun e => ?_, fun e => own_ne h.wait h.blk (by decide) (by rw [e]; rfl)⟩
  · subst e; rw [h.blk] at hm; simp at hm
  · subst e; rw [h.blk] at hu; simp at hu
/-- Those that are ready turned, and the orderer's block; nothing else of what was there. -/
theorem OM.ready {B B0 b c qm qu qw : Nat} {rv rv' : Value} {ms us : Nat → List Nat} {wt : Nat → Nat} {rd rd' : List Nat} {w w' : World} (h : OM B B0 b c qm qu qw rv ms us wt rd w) (hs : w.heap.size ≤ w'.heap.size) (hb : w'.heap[b]? = some (.cells #[.slice (some ⟨qm, 0, none⟩) c c, .slice (some ⟨qu, 0, none⟩) c c, .slice (some ⟨qw, 0, none⟩) c c, rv'] 59 (0, 0)))
    (hk : ∀ k, k < B0 → k ≠ b → w'.heap[k]? = w.heap[k]?) (hr : OwnI B0 rv' rd' w') (hi : ∀ x ∈ rd', x < c) : OM B B0 b c qm qu qw rv' ms us wt rd' w' := by
  obtain ⟨n1, n2, n3⟩ := h.ne
  obtain ⟨b1, b2, b3, b4, b5, b6⟩ := h.bb
  exact ⟨hb, h.mem.keep hs (hk qm b3 n1) fun k ok _ => hk k ok.1 ok.2.2.1, h.usr.keep hs (hk qu b4 n2) fun k ok _ => hk k ok.1 ok.2.2.1, h.wait.keepAt fun k e => by cases e; exact hk qw b5 n3, hr, h.bb, hi⟩
/-- What a call of the heap's leaves as it was. -/
def FrO (B b : Nat) (rv : Value) (w : World) (rv' : Value) (w' : World) : Prop := Below B w w' ∧ (∀ k, k < w.heap.size → k ≠ b → rv.ownBlock ≠ some k → w'.heap[k]? = w.heap[k]?) ∧ (∀ k, rv'.ownBlock = some k → rv.ownBlock = some k ∨ w.heap.size ≤ k)
theorem FrO.refl (B b : Nat) (rv : Value) (w : World) : FrO B b rv w rv w := ⟨Below.refl _ _, fun _ _ _ _ => rfl, fun _ h => .inl h⟩
theorem FrO.trans {B b : Nat} {rv rv' rv'' : Value} {w w' w'' : World} (h : FrO B b rv w rv' w') (g : FrO B b rv' w' rv'' w'') : FrO B b rv w rv'' w'' := by
  have hsz := h.1.size
  refine ⟨h.1.trans g.1, fun k hk hkb he => (g.2.1 k (by omega) hkb fun e => ?_).trans (h.2.1 k hk hkb he), fun k e => ?_⟩
  · rcases h.2.2 k e with e2 | e2
    · exact he e2
    · omega
  · rcases g.2.2 k e with e2 | e2
    · exact h.2.2 k e2
    · exact .inr (by omega)
theorem FrO.drewN {B b : Nat} {rv rv' : Value} {w w' : World} (h : FrO B b rv w rv' w') (q : Nat) : FrO B b rv w rv' (w'.drewN q) := ⟨below_drewN h.1 q, h.2.1, h.2.2⟩
theorem OwnI.setAt {B q cap n r x : Nat} {l : List Nat} {w : World} (h : OwnI B (.slice (some ⟨q, 0, none⟩) n cap) l w) (hl : l.length = n) (hr : r < n) : OwnI B (.slice (some ⟨q, 0, none⟩) n cap) (l.set r x) (w.setCell ⟨q, r, none⟩ (.int .i64 (x : Int))) := by
  unfold OwnI at h ⊢
  rw [hl] at h
  have h2 := (h.stored r (.int .i64 (x : Int))).1
  have e : intsV (l.set r x) = (intsV l).set r (.int .i64 (x : Int)) := by simp [intsV, List.map_set]
  rw [e, List.length_set, hl]
  simpa using h2
theorem OM.below {B B0 b c qm qu qw : Nat} {rv : Value} {ms us : Nat → List Nat} {wt : Nat → Nat} {rd : List Nat} {w w' : World} (h : OM B B0 b c qm qu qw rv ms us wt rd w) (hb : Below w.heap.size w w') : OM B B0 b c qm qu qw rv ms us wt rd w' := by
  obtain ⟨_, _, hm, _⟩ := id h.mem
  obtain ⟨_, _, hu, _⟩ := id h.usr
  exact ⟨(hb.block b (heap_at h.blk)).trans h.blk, h.mem.keep hb.size (hb.block qm (heap_at hm)) fun k _ hk => hb.block k hk, h.usr.keep hb.size (hb.block qu (heap_at hu)) fun k _ hk => hb.block k hk, h.wait.below hb, h.rdy.below hb, h.bb, h.inr⟩
theorem OM.drew {B B0 b c qm qu qw : Nat} {rv : Value} {ms us : Nat → List Nat} {wt : Nat → Nat} {rd : List Nat} {w : World} (h : OM B B0 b c qm qu qw rv ms us wt rd w) : OM B B0 b c qm qu qw rv ms us wt rd w.drew := h.below ((Below.refl _ w).drew)
/-- Lists of numbers in order. -/
def cmpN : List Nat → List Nat → Int
  | [], [] => 0
  | [], _ :: _ => -1
  | _ :: _, [] => 1
  | a :: l, b :: m => if a < b then -1 else if b < a then 1 else cmpN l m
set_option maxRecDepth 100000 in
theorem nan_any (a : Nat) (w : World) : Calls Try.prog 64 #[.int .i64 (a : Int)] w fun e w' => e = .returned (.bool false) ∧ w' = w := by
  go_enter Try.func64, Try.ntmps64
  go_wp2
  go_ret
  exact ⟨by simp, rfl⟩
set_option maxRecDepth 100000 in
theorem cmp_any (a b : Nat) (w : World) : Calls Try.prog 63 #[.int .i64 (a : Int), .int .i64 (b : Int)] w fun e w' => e = .returned (.int .i64 (if a < b then -1 else if b < a then 1 else 0)) ∧ w' = w := by
  by_cases h1 : a < b
  · have h1I : (a : Int) < (b : Int) := by omega
    rw [if_pos h1]
    go_enter Try.func63, Try.ntmps63
    go_wp2_with (go_at_call 64; refine (nan_any _ _).mono ?_; rintro e w' ⟨rfl, rfl⟩)
    go_ret
    exact ⟨rfl, rfl⟩
  · by_cases h2 : b < a
    · have h1I : ¬ (a : Int) < (b : Int) := by omega
      have h2I : (b : Int) < (a : Int) := by omega
      rw [if_neg h1, if_pos h2]
      go_enter Try.func63, Try.ntmps63
      go_wp2_with (go_at_call 64; refine (nan_any _ _).mono ?_; rintro e w' ⟨rfl, rfl⟩)
      go_ret
      exact ⟨rfl, rfl⟩
    · have h1I : ¬ (a : Int) < (b : Int) := by omega
      have h2I : ¬ (b : Int) < (a : Int) := by omega
      rw [if_neg h1, if_neg h2]
      go_enter Try.func63, Try.ntmps63
      go_wp2_with (go_at_call 64; refine (nan_any _ _).mono ?_; rintro e w' ⟨rfl, rfl⟩)
      go_ret
      exact ⟨rfl, rfl⟩
end Go.Proofs.Ytlpifioneafciaa
