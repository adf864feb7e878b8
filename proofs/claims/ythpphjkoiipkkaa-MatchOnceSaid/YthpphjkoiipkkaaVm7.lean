/- Merged: Told, Range, SbIter, SbGet, SbThenB, SbNext, SbRApp, SbRApp2, UfRThen. -/
import Derived.RangeFuncNested
import Derived.RangeFuncBound
import Derived.RangeFuncCalls
import Derived.RangeFuncLeaves
import Derived.Test.YthpphjkoiipkkaaVm5
import Derived.Test.YthpphjkoiipkkaaVm6
import Derived.Stop.RegionWithIn
import Derived.OwnWalkIn
import Derived.TacticsInMore
import Derived.LoopNIn
import Derived.LoopIn
import Derived.Test.YthpphjkoiipkkaaVm2
import Derived.Deep.AppendLies
import Derived.Deep.RegionLaw
/- A loop over an iterator whose rounds are told something of the memory beside what they are handed (an error that the iterator has just made), and that goes on reading blocks of its own behind a round: our own contract and our own law for the caller, over the library's steps of the loop's record. -/
namespace Go.Proofs.Ythpphjkoiipkkaa
open Go.RowKit

theorem grown_of_below {X Y : World} (h : Below X.heap.size X Y) : X.grownBy Y none := ⟨h.os, h.tape, h.output, h.size, fun k hk _ => h.block k hk⟩

/-- What a round keeps: the blocks from N on that were there, and those that K names. -/
structure Kept (K : Nat → Prop) (N : Nat) (X Y : World) : Prop where
  size : X.heap.size ≤ Y.heap.size
  block : ∀ k, N ≤ k ∨ K k → k < X.heap.size → Y.heap[k]? = X.heap[k]?

/-- The contract. Between two rounds the iterator may have laid blocks ('Below', from X0, where the last round ended, to X, where the next begins); the rounds may be told 'Ex x' of the world in which they are handed x; a round that goes on keeps what the iterator has laid since X0, and the blocks of K. -/
def SeqTold {α : Type} (n : Nat) (P : Program) (g : Nat) (lb : Array Value) (encs : α → Array Value) (Ex : α → World → Prop) (K : Nat → Prop) (S Sp : List α → Prop) (N : Nat) (w : World) : Prop :=
  ∀ (l : Nat) (J Jx : List α → World → Prop) (W : World), Below w.heap.size w W →
    (∀ pre x X0 X, J pre X0 → pre.length < N → Below X0.heap.size X0 X → Ex x X → YieldAt Fence.wide (n - 1) P l (encs x) X fun e Y =>
      (e = .returned (.bool true) ∧ J (pre ++ [x]) Y ∧ Kept K X0.heap.size X Y) ∨ (e = .returned (.bool false) ∧ Jx (pre ++ [x]) Y)) →
    J [] W →
    CallsIn Fence.wide n P g (#[.func (.yield l) #[] #[]] ++ lb) W fun e Y => (∃ v, e = .returned v) ∧ ((∃ xs, S xs ∧ J xs Y) ∨ (∃ pre, Sp pre ∧ Jx pre Y))

/-- How a round's body may be left: by its end, or by a return. The body may write the blocks of T alone, and what it has made itself. -/
def RoundPost {σ α : Type} (B : Nat) (T : Nat → Prop) (I : σ → List α → World → Prop) (Ix : List α → World → Prop) (xs : List α) (X : World) : Exit → Act → World → Prop
  | .normal, _, Y => KeepsFrom B X Y ∧ (∀ k, ¬ T k → k < X.heap.size → Y.heap[k]? = X.heap[k]?) ∧ ∃ s, I s xs Y
  | .ret, _, Y => KeepsFrom B X Y ∧ Ix xs Y
  | _, _, _ => False

/-- **The statement 'for .. := range f', its body left by its end or by a return.** 's': what the body keeps of its own; 'T s': the blocks that it may write there. -/
theorem range_told {n : Nat} {P : Program} {σ α : Type} {g : Operand} {ps : Array Tmp} {assign body : Code} {Q : Exit → Act → World → Prop} {a : Act} {w : World} (h1 : 1 ≤ n)
    {gf : Nat} {lb : Array Value} (hg : a.eval g = .func (.func gf) #[] lb) (eg : ∀ args w, (callFunc gf args).run P w = .ok (.enter gf args) w)
    {encs : α → Array Value} {Ex : α → World → Prop} {K : Nat → Prop} {S Sp : List α → Prop} {N : Nat} {w0 : World} (hseq : SeqTold (n - 1) P gf lb encs Ex K S Sp N w0)
    (hK : ∀ k, K k → k < w.heap.size) (hb0 : Below w0.heap.size w0 w) (hps : ∀ x, (encs x).size = ps.size)
    (I : σ → List α → World → Prop) (Ix : List α → World → Prop) (T : σ → Nat → Prop) (hI : ∀ s, OwnFrom w.heap.size (I s)) (hIx : OwnFrom w.heap.size Ix)
    (hT : ∀ s pre X k, I s pre X → T s k → k < X.heap.size ∧ ¬ K k) (h0 : ∃ s, I s [] w)
    (Ax : α → Act → World → Prop) (hAx : ∀ x a', OwnFrom w.heap.size (fun (_ : Unit) W => Ax x a' W))
    (hassign : ∀ (l : Nat) (s : σ) (pre : List α) (x : α) (X : World) (C : Act → World → Prop), I s pre X → Ex x X →
      (∀ a' Y, KeepsFrom w.heap.size X Y → Below X.heap.size X Y → Ax x a' Y → C a' Y) →
      assign.wpIn (Fence.wide.inRound l) (n - 1 - 1) P (Exit.then C (fun _ _ _ => False)) { tmps := (ps.zip (encs x)).foldl (fun t (p, v) => t.setIfInBounds p v) a.tmps, defers := [] } X)
    (hbody : ∀ (l : Nat) (s : σ) (pre : List α) (x : α) (a' : Act) (X : World), I s pre X → pre.length < N → Ax x a' X → body.wpIn (Fence.wide.inRound l) (n - 1 - 1) P (RoundPost w.heap.size (T s) I Ix (pre ++ [x]) X) a' X)
    (hdone : ∀ (D : Nat) (s : σ) (xs : List α) (W : World), w.heap.size ≤ D → S xs → I s xs W → W.heap[D]? = some (.deferred (some [])) → Q .normal { a with defers := { target := .collected D, args := #[] } :: a.defers } W)
    (hstop : ∀ (D : Nat) (pre : List α) (W : World), w.heap.size ≤ D → Sp pre → Ix pre W → W.heap[D]? = some (.deferred (some [])) → Code.ret.wpIn Fence.wide n P Q { a with defers := { target := .collected D, args := #[] } :: a.defers } W) :
    (Code.rangeFunc g ps assign body).wpIn Fence.wide n P Q a w := by
  refine wpIn_rangeFunc fun fn _ => ?_
  -- the two blocks that the loop lays: the rounds' deferred calls at B, the record behind it
  generalize hB : w.heap.size = B at *
  obtain ⟨R, hR⟩ : ∃ R : LoopState → Option Code → Obj, R = fun st pe => .loop { state := st, pending := pe, fn, tmps := a.tmps, params := ps, assign, body, defers := B } := ⟨_, rfl⟩
  have hcells : ∀ st pe, (R st pe).isCells = false := fun st pe => by rw [hR]; rfl
  obtain ⟨V, hV⟩ : ∃ V, (w.alloc (.deferred (some []))).alloc (R .ready none) = V := ⟨_, rfl⟩
  have below : Below w.heap.size w V := by rw [← hV]; exact ((Below.refl _ w).alloc (Nat.le_refl _) _).alloc (by simp) _
  have hVL : V.heap[B + 1]? = some (R .ready none) := by
    rw [← hV]
    have := World.alloc_heap_new (w.alloc (.deferred (some []))) (R .ready none)
    rwa [World.size_alloc, hB] at this
  have hVB : V.heap[B]? = some (.deferred (some [])) := by
    rw [← hV, Below.heap_alloc _ _ _ (by simp; omega), ← hB]
    exact World.alloc_heap_new w _
  obtain ⟨s0, h0⟩ := h0
  have hVI : I s0 [] V := hI _ _ _ _ none h0 (grown_of_below below) (fun r e => by cases e)
  -- turning the record keeps what is asked
  have turn : ∀ {X : World} {o : Obj} (o' : Obj), X.heap[B + 1]? = some o → o.isCells = false → (∀ s xs, I s xs X → I s xs (X.putObj (B + 1) o')) ∧ (∀ xs, Ix xs X → Ix xs (X.putObj (B + 1) o')) ∧
      (∀ x a', Ax x a' X → Ax x a' (X.putObj (B + 1) o')) ∧ (∀ k, k ≠ B + 1 → (X.putObj (B + 1) o').heap[k]? = X.heap[k]?) ∧ (X.putObj (B + 1) o').heap[B + 1]? = some o' ∧ (X.putObj (B + 1) o').heap[B]? = X.heap[B]? :=
    fun {X o} o' hl ho => by
      have hlt := (Array.getElem?_eq_some_iff.1 hl).1
      exact ⟨fun s xs h => (hI s).putObj _ h (by omega) hl ho, fun xs h => hIx.putObj _ h (by omega) hl ho, fun x a' h => (hAx x a').putObj (s := ()) _ h (by omega) hl ho,
        fun k hk => World.putObj_heap_other hk, World.putObj_heap_same hlt, World.putObj_heap_other (by omega)⟩
  refine ⟨B + 1, [{ target := .collected B, args := #[] }], V, { target := .fn (.func gf) lb, args := #[.func (.yield (B + 1)) #[] #[]] }, V, gf, #[.func (.yield (B + 1)) #[] #[]] ++ lb, V, ?_, ?_, fun _ _ => trivial, ?_, fun _ => h1, ?_⟩
  · have e := run_enterLoop_outer (P := P) (w := w) fn a.tmps ps assign body
    rw [hB] at e
    rw [← hV, hR]
    exact e
  · simp only [resolve, hg]
    simp [go_sem]
  · simp [invoke, go_sem, eg]
  · refine (hseq (B + 1)
      (fun pre X => (∃ s, I s pre X) ∧ X.heap[B + 1]? = some (R .ready none) ∧ X.heap[B]? = some (.deferred (some [])))
      (fun pre X => Ix pre X ∧ X.heap[B + 1]? = some (R .done (some .ret)) ∧ X.heap[B]? = some (.deferred (some [])))
      V (hb0.trans (below.mono (by rw [hB]; have := hb0.size; omega)))
      ?_ ⟨⟨s0, hVI⟩, hVL, hVB⟩).mono ?_
    · -- a round
      rintro pre x X0 X ⟨⟨s, hi0⟩, hl0, hd0⟩ hlen hX hex
      have hlt0 := (Array.getElem?_eq_some_iff.1 hl0).1
      have hi : I s pre X := hI _ _ _ _ none hi0 (grown_of_below hX) (fun r e => by cases e)
      have hl := (hX.block _ hlt0).trans hl0
      have hd := (hX.block _ (Array.getElem?_eq_some_iff.1 hd0).1).trans hd0
      have hl' := hl
      rw [hR] at hl'
      refine ⟨fn, _, assign, body, run_yield (P := P) (args := encs x) hl' (hps x), roundIn_of_wpIn trivial (hassign _ s pre x X _ hi hex ?_)⟩
      intro a' Y hk hb hax
      have hiY : I s pre Y := hI _ _ _ _ none hi (grown_of_below hb) (fun r e => by cases e)
      have hlY := hk.same _ _ (by omega) hl (hcells _ _)
      have hdY := hk.same _ _ (Nat.le_refl _) hd rfl
      have hlY' := hlY
      rw [hR] at hlY'
      have begins := run_beginRound (P := P) hlY' rfl
      obtain ⟨t1, _, t3, t4, t5, t6⟩ := turn (R .busy none) hlY (hcells _ _)
      refine ⟨Y.putObj (B + 1) (R .busy none), by rw [begins, hR], ?_⟩
      have ends : ∀ (jump : Option Code) (Z : World), KeepsFrom B (Y.putObj (B + 1) (R .busy none)) Z → Z.heap[B + 1]? = some (R .busy none) ∧ Z.heap[B]? = some (.deferred (some [])) ∧
          (Instr.endRound (B + 1) jump).run P Z = .ok (.bool jump.isNone) (Z.putObj (B + 1) (R (if jump.isNone then .ready else .done) jump)) := fun jump Z hz => by
        have z1 := hz.same _ _ (by omega) t5 (hcells _ _)
        refine ⟨z1, hz.same _ _ (Nat.le_refl _) (t6.trans hdY) rfl, ?_⟩
        rw [hR] at z1 ⊢
        exact run_endRound (P := P) jump z1
      refine wpIn_mono (hbody _ s pre x a' _ (t1 _ _ hiY) hlen (t3 _ _ hax)) ?_
      rintro e a3 Z hp
      cases e with
      | normal =>
        obtain ⟨hz, hzb, s', hzi⟩ := hp
        obtain ⟨z1, z2, z3⟩ := ends none Z hz
        obtain ⟨u1, _, _, u4, u5, u6⟩ := turn (R .ready none) z1 (hcells _ _)
        refine ⟨_, _, z3, .inl ⟨rfl, ⟨⟨s', u1 _ _ hzi⟩, u5, u6.trans z2⟩, ?_, ?_⟩⟩
        · have := hb.size; have := hz.size; simp at this ⊢; omega
        · intro k hk hkX
          have hne : k ≠ B + 1 := by
            rcases hk with hk | hk
            · omega
            · have := hK k hk; omega
          have hnT : ¬ T s k := by
            intro ht
            rcases hk with hk | hk
            · have := (hT s pre X0 k hi0 ht).1; omega
            · exact (hT s pre X0 k hi0 ht).2 hk
          have hkY : k < Y.heap.size := by have := hb.size; omega
          exact (u4 k hne).trans ((hzb k hnT (by simpa using hkY)).trans ((t4 k hne).trans (hb.block k hkX)))
      | ret =>
        obtain ⟨hz, hzi⟩ := hp
        obtain ⟨z1, z2, z3⟩ := ends (some .ret) Z hz
        obtain ⟨_, u2, _, _, u5, u6⟩ := turn (R .done (some .ret)) z1 (hcells _ _)
        exact ⟨_, _, z3, .inr ⟨rfl, u2 _ hzi, u5, u6.trans z2⟩⟩
      | exit id => exact hp.elim
      | goto t => exact hp.elim
      | panic ch => exact hp.elim
      | outgrown => exact hp.elim
    · -- behind the iterator
      rintro e Z ⟨⟨v, rfl⟩, (⟨xs, hS, ⟨s, hi⟩, hl, hd⟩ | ⟨pre, hSp, hi, hl, hd⟩)⟩
      · obtain ⟨u1, _, _, _, _, u6⟩ := turn (R .exhausted none) hl (hcells _ _)
        have hl' := hl
        rw [hR] at hl'
        refine ⟨none, _, by have e := run_endLoop (P := P) hl' (by simp); exact e, ?_⟩
        have := hdone B s xs _ (Nat.le_refl _) hS (u1 _ _ hi) (u6.trans hd)
        rw [hR] at this
        exact this
      · obtain ⟨_, u2, _, _, _, u6⟩ := turn (R .exhausted (some .ret)) hl (hcells _ _)
        have hl' := hl
        rw [hR] at hl'
        refine ⟨some .ret, _, by have e := run_endLoop (P := P) hl' (by simp); exact e, ?_⟩
        have := hstop B pre _ (Nat.le_refl _) hSp (u2 _ hi) (u6.trans hd)
        rw [hR] at this
        exact this
end Go.Proofs.Ythpphjkoiipkkaa
/- A loop over an iterator, once more: the rounds are told of the memory since the last round's end; the loop may be left by one jump (a return, or a break); what a round's frame holds may hang on what the body keeps. -/
namespace Go.Proofs.Ythpphjkoiipkkaa
open Go.RowKit

/-- The contract. Between two rounds the iterator may have laid blocks ('Below', from X0, where the last round ended, to X, where the next begins); the rounds may be told 'Ex x' of the world in which they are handed x; a round that goes on keeps what the iterator has laid since X0, and the blocks of K. -/
def SeqGen {α : Type} (n : Nat) (P : Program) (g : Nat) (lb : Array Value) (encs : α → Array Value) (Ex : List α → α → World → World → Prop) (K : Nat → Prop) (S Sp : List α → Prop) (N : Nat) (w : World) : Prop :=
  ∀ (l : Nat) (J Jx : List α → World → Prop) (W : World), Below w.heap.size w W →
    (∀ pre x X0 X, J pre X0 → pre.length < N → Below X0.heap.size X0 X → Ex pre x X0 X → YieldAt Fence.wide (n - 1) P l (encs x) X fun e Y =>
      (e = .returned (.bool true) ∧ J (pre ++ [x]) Y ∧ Kept K X0.heap.size X Y) ∨ (e = .returned (.bool false) ∧ Jx (pre ++ [x]) Y)) →
    J [] W →
    CallsIn Fence.wide n P g (#[.func (.yield l) #[] #[]] ++ lb) W fun e Y => (∃ v, e = .returned v) ∧ ((∃ xs, S xs ∧ J xs Y) ∨ (∃ pre, Sp pre ∧ Jx pre Y))

/-- How a round's body may be left: by its end, or by a return. The body may write the blocks of T alone, and what it has made itself. -/
def RoundGen {σ α : Type} (jump : Code) (B : Nat) (T : Nat → Prop) (I : σ → List α → World → Prop) (Ix : List α → World → Prop) (xs : List α) (X : World) : Exit → Act → World → Prop
  | .normal, _, Y => KeepsFrom B X Y ∧ (∀ k, ¬ T k → k < X.heap.size → Y.heap[k]? = X.heap[k]?) ∧ ∃ s, I s xs Y
  | .ret, _, Y => jump = .ret ∧ KeepsFrom B X Y ∧ Ix xs Y
  | .exit id, _, Y => jump = .exit id ∧ KeepsFrom B X Y ∧ Ix xs Y
  | _, _, _ => False

/-- **The statement 'for .. := range f', its body left by its end or by a return.** 's': what the body keeps of its own; 'T s': the blocks that it may write there. -/
theorem range_gen {n : Nat} {P : Program} {σ α : Type} {g : Operand} {ps : Array Tmp} {assign body : Code} {Q : Exit → Act → World → Prop} {a : Act} {w : World} (h1 : 1 ≤ n)
    {gf : Nat} {lb : Array Value} (hg : a.eval g = .func (.func gf) #[] lb) (eg : ∀ args w, (callFunc gf args).run P w = .ok (.enter gf args) w)
    {encs : α → Array Value} {Ex : List α → α → World → World → Prop} {K : Nat → Prop} {S Sp : List α → Prop} {N : Nat} {w0 : World} (hseq : SeqGen (n - 1) P gf lb encs Ex K S Sp N w0)
    (hK : ∀ k, K k → k < w.heap.size) (hb0 : Below w0.heap.size w0 w) (hps : ∀ x, (encs x).size = ps.size)
    (I : σ → List α → World → Prop) (Ix : List α → World → Prop) (T : σ → Nat → Prop) (hI : ∀ s, OwnFrom w.heap.size (I s)) (hIx : OwnFrom w.heap.size Ix)
    (hT : ∀ s pre X k, I s pre X → T s k → k < X.heap.size ∧ ¬ K k) (h0 : ∃ s, I s [] w)
    (Ax : σ → List α → α → Act → World → Prop) (hAx : ∀ s pre x a', OwnFrom w.heap.size (fun (_ : Unit) W => Ax s pre x a' W)) (jump : Code)
    (hassign : ∀ (l : Nat) (s : σ) (pre : List α) (x : α) (X0 X : World) (C : Act → World → Prop), I s pre X0 → Below X0.heap.size X0 X → I s pre X → Ex pre x X0 X →
      (∀ a' Y, KeepsFrom w.heap.size X Y → Below X.heap.size X Y → Ax s pre x a' Y → C a' Y) →
      assign.wpIn (Fence.wide.inRound l) (n - 1 - 1) P (Exit.then C (fun _ _ _ => False)) { tmps := (ps.zip (encs x)).foldl (fun t (p, v) => t.setIfInBounds p v) a.tmps, defers := [] } X)
    (hbody : ∀ (l : Nat) (s : σ) (pre : List α) (x : α) (a' : Act) (X : World), I s pre X → pre.length < N → Ax s pre x a' X → body.wpIn (Fence.wide.inRound l) (n - 1 - 1) P (RoundGen jump w.heap.size (T s) I Ix (pre ++ [x]) X) a' X)
    (hdone : ∀ (D : Nat) (s : σ) (xs : List α) (W : World), w.heap.size ≤ D → S xs → I s xs W → W.heap[D]? = some (.deferred (some [])) → Q .normal { a with defers := { target := .collected D, args := #[] } :: a.defers } W)
    (hstop : ∀ (D : Nat) (pre : List α) (W : World), w.heap.size ≤ D → Sp pre → Ix pre W → W.heap[D]? = some (.deferred (some [])) → jump.wpIn Fence.wide n P Q { a with defers := { target := .collected D, args := #[] } :: a.defers } W) :
    (Code.rangeFunc g ps assign body).wpIn Fence.wide n P Q a w := by
  refine wpIn_rangeFunc fun fn _ => ?_
  -- the two blocks that the loop lays: the rounds' deferred calls at B, the record behind it
  generalize hB : w.heap.size = B at *
  obtain ⟨R, hR⟩ : ∃ R : LoopState → Option Code → Obj, R = fun st pe => .loop { state := st, pending := pe, fn, tmps := a.tmps, params := ps, assign, body, defers := B } := ⟨_, rfl⟩
  have hcells : ∀ st pe, (R st pe).isCells = false := fun st pe => by rw [hR]; rfl
  obtain ⟨V, hV⟩ : ∃ V, (w.alloc (.deferred (some []))).alloc (R .ready none) = V := ⟨_, rfl⟩
  have below : Below w.heap.size w V := by rw [← hV]; exact ((Below.refl _ w).alloc (Nat.le_refl _) _).alloc (by simp) _
  have hVL : V.heap[B + 1]? = some (R .ready none) := by
    rw [← hV]
    have := World.alloc_heap_new (w.alloc (.deferred (some []))) (R .ready none)
    rwa [World.size_alloc, hB] at this
  have hVB : V.heap[B]? = some (.deferred (some [])) := by
    rw [← hV, Below.heap_alloc _ _ _ (by simp; omega), ← hB]
    exact World.alloc_heap_new w _
  obtain ⟨s0, h0⟩ := h0
  have hVI : I s0 [] V := hI _ _ _ _ none h0 (grown_of_below below) (fun r e => by cases e)
  -- turning the record keeps what is asked
  have turn : ∀ {X : World} {o : Obj} (o' : Obj), X.heap[B + 1]? = some o → o.isCells = false → (∀ s xs, I s xs X → I s xs (X.putObj (B + 1) o')) ∧ (∀ xs, Ix xs X → Ix xs (X.putObj (B + 1) o')) ∧
      (∀ s pre x a', Ax s pre x a' X → Ax s pre x a' (X.putObj (B + 1) o')) ∧ (∀ k, k ≠ B + 1 → (X.putObj (B + 1) o').heap[k]? = X.heap[k]?) ∧ (X.putObj (B + 1) o').heap[B + 1]? = some o' ∧ (X.putObj (B + 1) o').heap[B]? = X.heap[B]? :=
    fun {X o} o' hl ho => by
      have hlt := (Array.getElem?_eq_some_iff.1 hl).1
      exact ⟨fun s xs h => (hI s).putObj _ h (by omega) hl ho, fun xs h => hIx.putObj _ h (by omega) hl ho, fun s pre x a' h => (hAx s pre x a').putObj (s := ()) _ h (by omega) hl ho,
        fun k hk => World.putObj_heap_other hk, World.putObj_heap_same hlt, World.putObj_heap_other (by omega)⟩
  refine ⟨B + 1, [{ target := .collected B, args := #[] }], V, { target := .fn (.func gf) lb, args := #[.func (.yield (B + 1)) #[] #[]] }, V, gf, #[.func (.yield (B + 1)) #[] #[]] ++ lb, V, ?_, ?_, fun _ _ => trivial, ?_, fun _ => h1, ?_⟩
  · have e := run_enterLoop_outer (P := P) (w := w) fn a.tmps ps assign body
    rw [hB] at e
    rw [← hV, hR]
    exact e
  · simp only [resolve, hg]
    simp [go_sem]
  · simp [invoke, go_sem, eg]
  · refine (hseq (B + 1)
      (fun pre X => (∃ s, I s pre X) ∧ X.heap[B + 1]? = some (R .ready none) ∧ X.heap[B]? = some (.deferred (some [])))
      (fun pre X => Ix pre X ∧ X.heap[B + 1]? = some (R .done (some jump)) ∧ X.heap[B]? = some (.deferred (some [])))
      V (hb0.trans (below.mono (by rw [hB]; have := hb0.size; omega)))
      ?_ ⟨⟨s0, hVI⟩, hVL, hVB⟩).mono ?_
    · -- a round
      rintro pre x X0 X ⟨⟨s, hi0⟩, hl0, hd0⟩ hlen hX hex
      have hlt0 := (Array.getElem?_eq_some_iff.1 hl0).1
      have hi : I s pre X := hI _ _ _ _ none hi0 (grown_of_below hX) (fun r e => by cases e)
      have hl := (hX.block _ hlt0).trans hl0
      have hd := (hX.block _ (Array.getElem?_eq_some_iff.1 hd0).1).trans hd0
      have hl' := hl
      rw [hR] at hl'
      refine ⟨fn, _, assign, body, run_yield (P := P) (args := encs x) hl' (hps x), roundIn_of_wpIn trivial (hassign _ s pre x X0 X _ hi0 hX hi hex ?_)⟩
      intro a' Y hk hb hax
      have hiY : I s pre Y := hI _ _ _ _ none hi (grown_of_below hb) (fun r e => by cases e)
      have hlY := hk.same _ _ (by omega) hl (hcells _ _)
      have hdY := hk.same _ _ (Nat.le_refl _) hd rfl
      have hlY' := hlY
      rw [hR] at hlY'
      have begins := run_beginRound (P := P) hlY' rfl
      obtain ⟨t1, _, t3, t4, t5, t6⟩ := turn (R .busy none) hlY (hcells _ _)
      refine ⟨Y.putObj (B + 1) (R .busy none), by rw [begins, hR], ?_⟩
      have ends : ∀ (jump : Option Code) (Z : World), KeepsFrom B (Y.putObj (B + 1) (R .busy none)) Z → Z.heap[B + 1]? = some (R .busy none) ∧ Z.heap[B]? = some (.deferred (some [])) ∧
          (Instr.endRound (B + 1) jump).run P Z = .ok (.bool jump.isNone) (Z.putObj (B + 1) (R (if jump.isNone then .ready else .done) jump)) := fun jump Z hz => by
        have z1 := hz.same _ _ (by omega) t5 (hcells _ _)
        refine ⟨z1, hz.same _ _ (Nat.le_refl _) (t6.trans hdY) rfl, ?_⟩
        rw [hR] at z1 ⊢
        exact run_endRound (P := P) jump z1
      refine wpIn_mono (hbody _ s pre x a' _ (t1 _ _ hiY) hlen (t3 _ _ _ _ hax)) ?_
      rintro e a3 Z hp
      cases e with
      | normal =>
        obtain ⟨hz, hzb, s', hzi⟩ := hp
        obtain ⟨z1, z2, z3⟩ := ends none Z hz
        obtain ⟨u1, _, _, u4, u5, u6⟩ := turn (R .ready none) z1 (hcells _ _)
        refine ⟨_, _, z3, .inl ⟨rfl, ⟨⟨s', u1 _ _ hzi⟩, u5, u6.trans z2⟩, ?_, ?_⟩⟩
        · have := hb.size; have := hz.size; simp at this ⊢; omega
        · intro k hk hkX
          have hne : k ≠ B + 1 := by
            rcases hk with hk | hk
            · omega
            · have := hK k hk; omega
          have hnT : ¬ T s k := by
            intro ht
            rcases hk with hk | hk
            · have := (hT s pre X0 k hi0 ht).1; omega
            · exact (hT s pre X0 k hi0 ht).2 hk
          have hkY : k < Y.heap.size := by have := hb.size; omega
          exact (u4 k hne).trans ((hzb k hnT (by simpa using hkY)).trans ((t4 k hne).trans (hb.block k hkX)))
      | ret =>
        obtain ⟨rfl, hz, hzi⟩ := hp
        obtain ⟨z1, z2, z3⟩ := ends (some .ret) Z hz
        obtain ⟨_, u2, _, _, u5, u6⟩ := turn (R .done (some .ret)) z1 (hcells _ _)
        exact ⟨_, _, z3, .inr ⟨rfl, u2 _ hzi, u5, u6.trans z2⟩⟩
      | exit id =>
        obtain ⟨rfl, hz, hzi⟩ := hp
        obtain ⟨z1, z2, z3⟩ := ends (some (.exit id)) Z hz
        obtain ⟨_, u2, _, _, u5, u6⟩ := turn (R .done (some (.exit id))) z1 (hcells _ _)
        exact ⟨_, _, z3, .inr ⟨rfl, u2 _ hzi, u5, u6.trans z2⟩⟩
      | goto t => exact hp.elim
      | panic ch => exact hp.elim
      | outgrown => exact hp.elim
    · -- behind the iterator
      rintro e Z ⟨⟨v, rfl⟩, (⟨xs, hS, ⟨s, hi⟩, hl, hd⟩ | ⟨pre, hSp, hi, hl, hd⟩)⟩
      · obtain ⟨u1, _, _, _, _, u6⟩ := turn (R .exhausted none) hl (hcells _ _)
        have hl' := hl
        rw [hR] at hl'
        refine ⟨none, _, by have e := run_endLoop (P := P) hl' (by simp); exact e, ?_⟩
        have := hdone B s xs _ (Nat.le_refl _) hS (u1 _ _ hi) (u6.trans hd)
        rw [hR] at this
        exact this
      · obtain ⟨_, u2, _, _, _, u6⟩ := turn (R .exhausted (some jump)) hl (hcells _ _)
        have hl' := hl
        rw [hR] at hl'
        refine ⟨some jump, _, by have e := run_endLoop (P := P) hl' (by simp); exact e, ?_⟩
        have := hstop B pre _ (Nat.le_refl _) hSp (u2 _ hi) (u6.trans hd)
        rw [hR] at this
        exact this
end Go.Proofs.Ythpphjkoiipkkaa
/- (Subst).Pairs: the pairs, told one by one. -/
namespace Go.Proofs.Ythpphjkoiipkkaa
open Go.RowKit Go.Sort Go.Lib
attribute [local go_sem] Oper.semAt_some

def encQ (x : PR) : Array Value := #[.string x.n, .agg #[.int .i64 x.t.kind, .string x.t.name, .slice x.a x.t.kids.length x.c]]
/-- What is told is the next one of the row; its rows are new since the last round. -/
def ExQ (d : List PR) (pre : List PR) (x : PR) (X0 X : World) : Prop := TyIn (fun k => X0.heap.size ≤ k) X x.t (.slice x.a x.t.kids.length x.c) ∧ (pre.length < d.length ∧ x.n = (d.getD pre.length noP).n ∧ x.t = (d.getD pre.length noP).t)
/-- Rows of types, all of them in blocks that are ok. -/
theorem TyAt.inside {ok : Nat → Prop} {w : World} (hk : ∀ (k : Nat) (cs : Array Value) (fz : Nat × Nat), w.heap[k]? = some (.cells cs 26 fz) → ok k) {t : T} {k n v : Value} (h : TyAt w t k n v) : TyIn ok w t v := by
  induction h with
  | leaf t a c h => exact .leaf t a c h
  | row t g cap cs fz x y z h1 h2 h3 h4 ih =>
    refine .row t g cap cs fz z (hk _ _ _ h1) h1 h2 (fun i hi => ?_) ih
    obtain ⟨e1, e2, _⟩ := (h4 i hi).shape
    obtain ⟨c1, c2, c3⟩ := h3 i hi
    exact ⟨by rw [c1, e1], by rw [c2, e2], c3⟩
theorem TysAt.inside {ok : Nat → Prop} {w : World} (hk : ∀ (k : Nat) (cs : Array Value) (fz : Nat × Nat), w.heap[k]? = some (.cells cs 26 fz) → ok k) {t : T} {v : Value} (h : TysAt w v t.kids) : TyIn ok w t v := (TyAt.mk t h).inside hk
def KeepK (K : Nat → Prop) (X W : World) : Prop := ∀ k, K k → k < X.heap.size → W.heap[k]? = X.heap[k]?
theorem KeepK.trans {K : Nat → Prop} {X Y Z : World} (h : KeepK K X Y) (k : KeepK K Y Z) (hs : X.heap.size ≤ Y.heap.size) : KeepK K X Z := fun i hi hx => (k i hi (by omega)).trans (h i hi hx)
theorem KeepK.of_below {K : Nat → Prop} {X Y : World} (h : Below X.heap.size X Y) : KeepK K X Y := fun i _ hx => h.block i hx
theorem TyIn.keepK {K : Nat → Prop} {X W : World} {t : T} {v : Value} (h : TyIn K X t v) (hk : KeepK K X W) : TyIn K W t v := h.keep fun k _ _ h1 h2 => (hk k h1 (Array.getElem?_eq_some_iff.1 h2).1).trans h2
/-- The row of pairs that the iterator goes through: in blocks of K. -/
def Src (K : Nat → Prop) (a : Option Addr) (d : List PR) (w : World) : Prop := (∀ i, i < d.length → ∃ g, a = some ⟨g, 0, none⟩ ∧ K g ∧ RowP g d w) ∧ ∀ x ∈ d, TyIn K w x.t (.slice x.a x.t.kids.length x.c)
theorem Src.keepK {K : Nat → Prop} {a : Option Addr} {d : List PR} {X W : World} (h : Src K a d X) (hk : KeepK K X W) : Src K a d W :=
  ⟨fun i hi => by obtain ⟨g, e, h1, h2⟩ := h.1 i hi; exact ⟨g, e, h1, h2.same (hk g h1 h2.lt)⟩, fun x hx => (h.2 x hx).keepK hk⟩
theorem Src.of {K : Nat → Prop} {a : Option Addr} {n c : Nat} {d : List PR} {w : World} (h : SubAt (.slice a n c) d w) (h1 : ∀ (k : Nat) (cs : Array Value) (fz : Nat × Nat), w.heap[k]? = some (.cells cs 26 fz) → K k)
    (h2 : ∀ (k : Nat) (cs : Array Value) (fz : Nat × Nat), w.heap[k]? = some (.cells cs 68 fz) → K k) : Src K a d w := by
  obtain ⟨⟨hs, _⟩, ht⟩ := h
  refine ⟨fun i hi => ?_, fun x hx => (ht x hx).inside h1⟩
  rcases hs with ⟨rfl, _⟩ | ⟨g, cap, e, _, hr⟩
  · cases hi
  · simp only [Value.slice.injEq] at e
    have hr0 := hr
    obtain ⟨cs, hg, _⟩ := hr
    exact ⟨g, e.1, h2 g _ _ hg, hr0⟩
end Go.Proofs.Ythpphjkoiipkkaa
/- (Subst).Get. -/
namespace Go.Proofs.Ythpphjkoiipkkaa
open Go.RowKit Go.Sort Go.Lib
attribute [local go_sem] Oper.semAt_some

end Go.Proofs.Ythpphjkoiipkkaa
/- SubstThen: the pairs it is given, kept; its calls ahead of the regions. -/
namespace Go.Proofs.Ythpphjkoiipkkaa
open Go.RowKit Go.Sort Go.Lib
attribute [local go_sem] Oper.semAt_some

/-- What a call of pairs hands out. -/
def GP (v : Value) (d : List PR) (w : World) : Prop := (GivenP v d w ∧ Typ d w) ∧ d.length ≤ 4 ∧ ∀ x ∈ d, tsize x.t ≤ 56
theorem GP.keep {v : Value} {d : List PR} {w w' : World} (h : GP v d w) (hk : KeepT w w') (hr : ∀ g, RowP g d w → w'.heap[g]? = w.heap[g]?) : GP v d w' := by
  obtain ⟨⟨h1, h2⟩, h3⟩ := h
  refine ⟨⟨?_, h2.keep hk⟩, h3⟩
  rcases h1 with h1 | ⟨h0, g, cap, e, hg⟩
  · exact .inl h1
  · exact .inr ⟨h0, g, cap, e, hg.same (hr g hg)⟩
theorem GP.below {v : Value} {d : List PR} {w w' : World} (h : GP v d w) (hb : Below w.heap.size w w') : GP v d w' := h.keep (KeepT.of_below hb) fun g hg => hb.block g hg.lt
theorem GP.mk {B p : Nat} {a : Option Addr} {n c k : Nat} {v : Value} {d : List PR} {w w' : World} (h : GP v d w) (hf : MkFr B p w w') (hs : SeqAt B p a n c k w) : GP v d w' :=
  h.keep (KeepT.of_mk hf hs) fun g hg => by
    obtain ⟨cs, h1, _⟩ := hg
    refine (hf.2 g _ h1 ?_).trans h1.symm
    rintro rfl
    have := h1.symm.trans hs.1.2
    simp at this
theorem of_gp {v : Value} {d : List PR} {w : World} (h : GP v d w) :
    Calls Try.prog 22 #[v] w fun e w' => (∃ sv l, e = .returned (.agg #[sv]) ∧ SubAt sv l w' ∧ Sb 56 4 (app l) l) ∧ Below w.heap.size w w' := by
  obtain ⟨⟨h1, h2⟩, h3, h4⟩ := h
  refine (of_any h1 h2 (fun x hx => fits_small (by have := h4 x hx; omega)) (fun x hx => by have := h4 x hx; omega) (by omega)).mono ?_
  rintro e w' ⟨⟨sv, l, rfl, hs, hm⟩, hb⟩
  refine ⟨⟨sv, l, rfl, hs, by have := hm.len; omega, fun x hx => ?_, fun t => rfl⟩, hb⟩
  obtain ⟨y, hy, _, e⟩ := hm.sub x hx
  rw [e]; exact h4 y hy
theorem sb_nil : Sb 1 0 (fun t => t) [] := ⟨Nat.le_refl _, (fun _ h => nomatch h), app_nil⟩

theorem thl_one (w w5 : World) (t : T) (pa : Option Addr) (ca : Nat) (vA vB vC : Value) (dA dB dC : List PR) (HB : Below w.heap.size w w5) (HT : TysAt w5 (.slice pa t.kids.length ca) t.kids) (hA : GP vA dA w5) (hB : GP vB dB w5) (hC : GP vC dC w5) :
    Calls Try.prog 22 #[vA] (w5.alloc (.cells #[.int .i64 t.kind, .string t.name, .slice pa t.kids.length ca] 26))
      fun e w' => (∃ sv l, e = .returned (.agg #[sv]) ∧ SubAt sv l w' ∧ Sb 56 4 (app l) l) ∧ BoxT w5.heap.size t pa ca w' ∧ (GP vB dB w' ∧ GP vC dC w') ∧ Below w.heap.size w w' := by
  have b1 := below_a w5 (.cells #[.int .i64 t.kind, .string t.name, .slice pa t.kids.length ca] 26)
  have k1 := BoxT.new (t := t) HT
  generalize w5.alloc (.cells #[.int .i64 t.kind, .string t.name, .slice pa t.kids.length ca] 26) = V at *
  refine (of_gp (hA.below b1)).mono ?_
  rintro e w' ⟨h1, hb⟩
  exact ⟨h1, k1.below hb, ⟨(hB.below b1).below hb, (hC.below b1).below hb⟩, (HB.trans (b1.mono HB.size)).trans (hb.mono (Nat.le_trans HB.size b1.size))⟩
theorem thl_two (w w6 : World) (b11 : Nat) (t : T) (pa : Option Addr) (ca : Nat) (sx : Value) (lx : List PR) (vB vC : Value) (dB dC : List PR) (HB : Below w.heap.size w w6) (H1 : BoxT b11 t pa ca w6) (hx : SubAt sx lx w6) (hB : GP vB dB w6) (hC : GP vC dC w6) :
    Calls Try.prog 22 #[vB] (w6.alloc (.cells #[sx] 33))
      fun e w' => (∃ sv l, e = .returned (.agg #[sv]) ∧ SubAt sv l w' ∧ Sb 56 4 (app l) l) ∧ (BoxT b11 t pa ca w' ∧ BoxS w6.heap.size sx lx w') ∧ GP vC dC w' ∧ Below w.heap.size w w' := by
  have b1 := below_a w6 (.cells #[sx] 33)
  have k1 := BoxS.new hx
  generalize w6.alloc (.cells #[sx] 33) = V at *
  refine (of_gp (hB.below b1)).mono ?_
  rintro e w' ⟨h1, hb⟩
  exact ⟨h1, ⟨(H1.below b1).below hb, k1.below hb⟩, (hC.below b1).below hb, (HB.trans (b1.mono HB.size)).trans (hb.mono (Nat.le_trans HB.size b1.size))⟩
theorem thl_three (w w7 : World) (b11 b12 : Nat) (t : T) (pa : Option Addr) (ca : Nat) (sx sy : Value) (lx ly : List PR) (vC : Value) (dC : List PR) (HB : Below w.heap.size w w7) (H1 : BoxT b11 t pa ca w7) (H2 : BoxS b12 sx lx w7) (hy : SubAt sy ly w7) (hC : GP vC dC w7) :
    Calls Try.prog 22 #[vC] (w7.alloc (.cells #[sy] 33))
      fun e w' => (∃ sv l, e = .returned (.agg #[sv]) ∧ SubAt sv l w' ∧ Sb 56 4 (app l) l) ∧ (BoxT b11 t pa ca w' ∧ BoxS b12 sx lx w' ∧ BoxS w7.heap.size sy ly w') ∧ Below w.heap.size w w' := by
  have b1 := below_a w7 (.cells #[sy] 33)
  have k1 := BoxS.new hy
  generalize w7.alloc (.cells #[sy] 33) = V at *
  refine (of_gp (hC.below b1)).mono ?_
  rintro e w' ⟨h1, hb⟩
  exact ⟨h1, ⟨(H1.below b1).below hb, (H2.below b1).below hb, k1.below hb⟩, (HB.trans (b1.mono HB.size)).trans (hb.mono (Nat.le_trans HB.size b1.size))⟩
theorem thl_start (w w8 : World) (b11 b12 b13 : Nat) (t : T) (pa : Option Addr) (ca : Nat) (sx sy sz : Value) (lx ly lz : List PR) (HB : Below w.heap.size w w8) (H1 : BoxT b11 t pa ca w8) (H2 : BoxS b12 sx lx w8) (H3 : BoxS b13 sy ly w8) (hz : SubAt sz lz w8) :
    SS w b11 b12 b13 w8.heap.size (w8.heap.size + 1) t pa ca sx sy sz lx ly lz (((w8.alloc (.cells #[sz] 33)).alloc (.cells #[.slice none 0 0] 33)).drew) := by
  have b1 := below_a w8 (.cells #[sz] 33)
  have k1 := BoxS.new hz
  have b2 := below_a (w8.alloc (.cells #[sz] 33)) (.cells #[.slice none 0 0] 33)
  have k2 : BoxS (w8.alloc (.cells #[sz] 33)).heap.size nilV [] ((w8.alloc (.cells #[sz] 33)).alloc (.cells #[.slice none 0 0] 33)) := BoxS.new (sub_nil _ _ _ (fun _ => rfl))
  have e : (w8.alloc (.cells #[sz] 33)).heap.size = w8.heap.size + 1 := by simp
  rw [e] at k2
  exact SS.below ⟨((H1.below b1).below b2), ⟨⟨(H2.below b1).below b2, (H3.below b1).below b2⟩, k1.below b2, k2⟩, (HB.trans (b1.mono HB.size)).trans (b2.mono (Nat.le_trans HB.size b1.size))⟩ (below_d _)
end Go.Proofs.Ythpphjkoiipkkaa
/- (Subst).Pairs as a call; small facts of loops over it. -/
namespace Go.Proofs.Ythpphjkoiipkkaa
open Go.RowKit Go.Sort Go.Lib
attribute [local go_sem] Oper.semAt_some

theorem block_kept {W W' : World} {row : Option Nat} {b : Nat} {c : Array Value} {t : TypeId} {m : Nat × Nat} (h : W.heap[b]? = some (.cells c t m)) (hg : W.grownBy W' row)
    (hr : ∀ r, row = some r → ∃ o : Obj, W.heap[r]? = some o ∧ o.isCells = false) : W'.heap[b]? = some (.cells c t m) := by
  refine (hg.block b (Array.getElem?_eq_some_iff.1 h).1 fun e => ?_).trans h
  obtain ⟨o, ho, hc⟩ := hr b e.symm
  rw [h] at ho; cases ho; cases hc
theorem below_others {X Y : World} (h : Below X.heap.size X Y) : KeepsOthers X Y := ⟨h.size, fun k _ hk _ => (h.block k (Array.getElem?_eq_some_iff.1 hk).1).trans hk⟩
theorem own_cells {W : World} {base : Nat} {e : TypeId} {size : Nat} {v : Value} {n : Nat} {xs : List Value} (h : W.ownsRow base e size v n xs) (j : Nat) (o : Obj) (hj : v.ownBlock = some j) (ho : W.heap[j]? = some o) : o.isCells = true := by
  rcases h.2 with ⟨rfl, _⟩ | ⟨g, cap, cur, rfl, _, hg, _⟩
  · cases hj
  · obtain rfl : g = j := by simpa [Value.ownBlock] using hj
    rw [hg] at ho; cases ho; rfl
theorem others_grown {X w1 : World} {o : Obj} {base : Nat} {e : TypeId} {size : Nat} {v : Value} {n : Nat} {xs : List Value} (h : X.ownsRow base e size v n xs) (hg : (X.alloc o).grownBy w1 v.ownBlock) : KeepsOthers X w1 :=
  (KeepsOthers.alloc X o).trans (KeepsOthers.of_grownBy hg fun j ob hj ho => by
    have hlt := (h.lt j hj).2
    rw [Below.heap_alloc X o j hlt] at ho
    exact own_cells h j ob hj ho)

/-- The name of the last one. -/
def lastN (pre : List PR) : ByteArray := (pre.getLast?.map PR.n).getD ⟨#[]⟩
theorem lastN_snoc (pre : List PR) (x : PR) : lastN (pre ++ [x]) = x.n := by simp [lastN]
/-- As many as there are ahead; the same names, the same types. -/
def Ahead (ls pre : List PR) : Prop := pre.length ≤ ls.length ∧ ∀ i, i < pre.length → (pre.getD i noP).n = (ls.getD i noP).n ∧ (pre.getD i noP).t = (ls.getD i noP).t
theorem Ahead.nil (ls : List PR) : Ahead ls [] := ⟨Nat.zero_le _, fun _ hi => absurd hi (Nat.not_lt_zero _)⟩
theorem Ahead.snoc {ls pre : List PR} (h : Ahead ls pre) {x : PR} (hx : pre.length < ls.length ∧ x.n = (ls.getD pre.length noP).n ∧ x.t = (ls.getD pre.length noP).t) : Ahead ls (pre ++ [x]) := by
  refine ⟨by simp; omega, fun i hi => ?_⟩
  rw [List.length_append, List.length_singleton] at hi
  by_cases e : i = pre.length
  · subst e
    have : (pre ++ [x]).getD pre.length noP = x := by simp [List.getD]
    rw [this]; exact hx.2
  · have hlt : i < pre.length := by omega
    have : (pre ++ [x]).getD i noP = pre.getD i noP := by simp [List.getD, List.getElem?_append_left hlt]
    rw [this]; exact h.2 i hlt
theorem Ahead.copy {ls q : List PR} (h : Ahead ls q) (hl : q.length = ls.length) : Copy q ls := ⟨hl, h.2⟩
/-- In a row in order the last one's name is less than the next one's. -/
theorem Ahead.less {ls pre : List PR} (h : Ahead ls pre) (hn : Neat ls) (h0 : pre ≠ []) {x : PR} (hx : pre.length < ls.length ∧ x.n = (ls.getD pre.length noP).n) : Op.bytesLess x.n.toList (lastN pre).toList = false ∧ ¬ x.n.toList = (lastN pre).toList := by
  have hp : 0 < pre.length := List.length_pos_iff.2 h0
  have e : lastN pre = (pre.getD (pre.length - 1) noP).n := by
    unfold lastN
    rw [List.getLast?_eq_getElem?]
    simp [List.getD, List.getElem?_eq_getElem (show pre.length - 1 < pre.length by omega)]
  rw [e, (h.2 _ (by omega)).1, hx.2]
  have hs := List.pairwise_iff_getElem.1 hn.1 (pre.length - 1) pre.length (by omega) hx.1 (by omega)
  have e1 : ls.getD (pre.length - 1) noP = ls[pre.length - 1]'(by omega) := by simp [List.getD, List.getElem?_eq_getElem (show pre.length - 1 < ls.length by omega)]
  have e2 : ls.getD pre.length noP = ls[pre.length]'hx.1 := by simp [List.getD, List.getElem?_eq_getElem hx.1]
  rw [e1, e2, Lib.toList_data, Lib.toList_data, less_cmpL]
  have := hs
  unfold cmpP at this
  have hu := cmpL_neg (ls[pre.length - 1]'(by omega)).n.data.toList (ls[pre.length]'hx.1).n.data.toList
  refine ⟨by simp; omega, fun e => ?_⟩
  rw [e, cmpL_zero.2 rfl] at this
  omega
theorem next_lk {ls : List PR} (hn : Neat ls) {i : Nat} (hi : i < ls.length) : lk (ls.getD i noP).n ls = some (ls.getD i noP) := lk_sorted hn.1 (getD_mem hi)
theorem next_own {ls : List PR} (hn : Neat ls) {i : Nat} (hi : i < ls.length) : (ls.getD i noP).t ≠ .var (ls.getD i noP).n := fun e => by
  have := hn.2 _ (getD_mem hi)
  rw [ownP_iff.2 e] at this; cases this
theorem kind_name {t : T} {n : ByteArray} (hk : t.kind = 1) (h : t ≠ .var n) : t.name ≠ n := by
  cases t with
  | var m => intro e; exact h (by simp only [T.name] at e; rw [e])
  | con m l => simp [T.kind] at hk
  | fn a b => simp [T.kind] at hk
  | all m a => simp [T.kind] at hk

/-- What the rounds keep: how many, the last name, the row of what was told; all that lay in V. -/
def QI (b M : Nat) (V : World) (ls : List PR) (s : Value) (pre : List PR) (X : World) : Prop :=
  ((X.heap[b + 1]? = some (.cells #[.int .i64 (pre.length : Int)] 3 (0, 0)) ∧ X.heap[b + 2]? = some (.cells #[.string (lastN pre)] 9 (0, 0)) ∧ X.heap[b + 3]? = some (.cells #[s] 31 (0, 0))) ∧
    X.ownsRow M 68 4 s pre.length (cellsP pre) ∧ (pre = [] → s = .slice none 0 0)) ∧ (Typ pre X ∧ Ahead ls pre) ∧ M ≤ X.heap.size ∧ Below (b + 1) V X
theorem QI.kept {b M : Nat} {V : World} {ls : List PR} {s : Value} {pre : List PR} {X Y : World} {row : Option Nat} (h : QI b M V ls s pre X) (hg : X.grownBy Y row) (hr : ∀ r, row = some r → ∃ o : Obj, X.heap[r]? = some o ∧ o.isCells = false) (hb : Below (b + 1) V Y) : QI b M V ls s pre Y :=
  ⟨⟨⟨block_kept h.1.1.1 hg hr, block_kept h.1.1.2.1 hg hr, block_kept h.1.1.2.2 hg hr⟩, row_kept h.1.2.1 fun _ _ _ hk => block_kept hk hg hr, h.1.2.2⟩, ⟨h.2.1.1.keep fun _ _ _ hk => block_kept hk hg hr, h.2.1.2⟩, Nat.le_trans h.2.2.1 hg.size, hb⟩
theorem QI.below {b M : Nat} {V : World} {ls : List PR} {s : Value} {pre : List PR} {X Y : World} (h : QI b M V ls s pre X) (hb : Below X.heap.size X Y) (hN : b + 1 ≤ M) : QI b M V ls s pre Y :=
  h.kept (row := none) (grown_of_below hb) (fun r e => by cases e) (h.2.2.2.trans (hb.mono (by have := h.2.2.1; omega)))
end Go.Proofs.Ythpphjkoiipkkaa
/- The document's Apply. -/
namespace Go.Proofs.Ythpphjkoiipkkaa
open Go.RowKit Go.Sort Go.Lib
attribute [local go_sem] Oper.semAt_some

/-- A type, where its row lies. -/
abbrev Tl := T × Option Addr × Nat
/-- The cells of a row of types. -/
def cellsOf (l : List Tl) : List Value := l.flatMap (fun x => [.int .i64 x.1.kind, .string x.1.name, .slice x.2.1 x.1.kids.length x.2.2])
theorem cellsOf_snoc (l : List Tl) (x : Tl) : cellsOf (l ++ [x]) = cellsOf l ++ [.int .i64 x.1.kind, .string x.1.name, .slice x.2.1 x.1.kids.length x.2.2] := by simp [cellsOf]
theorem cellsOf_cons (x : Tl) (l : List Tl) : cellsOf (x :: l) = [.int .i64 x.1.kind, .string x.1.name, .slice x.2.1 x.1.kids.length x.2.2] ++ cellsOf l := by simp [cellsOf]
theorem cellsOf_at (l : List Tl) (i : Nat) (h : i < l.length) : (cellsOf l)[i * 3]? = some (.int .i64 l[i].1.kind) ∧ (cellsOf l)[i * 3 + 1]? = some (.string l[i].1.name) ∧ (cellsOf l)[i * 3 + 2]? = some (.slice l[i].2.1 l[i].1.kids.length l[i].2.2) := by
  induction l generalizing i with
  | nil => cases h
  | cons x l ih =>
    rw [cellsOf_cons]
    cases i with
    | zero => exact ⟨rfl, rfl, rfl⟩
    | succ i =>
      have := ih i (by simpa using h)
      rw [show (i + 1) * 3 = i * 3 + 3 by omega, List.getElem?_append_right (by simp), List.getElem?_append_right (by simp), List.getElem?_append_right (by simp)]
      simp only [List.length_cons, List.length_nil, List.getElem_cons_succ]
      rw [show i * 3 + 3 - (0 + 1 + 1 + 1) = i * 3 by omega, show i * 3 + 3 + 1 - (0 + 1 + 1 + 1) = i * 3 + 1 by omega, show i * 3 + 3 + 2 - (0 + 1 + 1 + 1) = i * 3 + 2 by omega]
      exact this
/-- A row of types out of its cells, in blocks that are ok. -/
theorem in_of_row {ok : Nat → Prop} {W : World} {B : Nat} {v : Value} {xs : List Tl} {t : T} (ht : t.kids = xs.map (·.1)) (h : W.ownsRow B 26 3 v xs.length (cellsOf xs)) (hv : ∀ g, v.ownBlock = some g → ok g) (hk : ∀ x ∈ xs, TyIn ok W x.1 (.slice x.2.1 x.1.kids.length x.2.2)) : TyIn ok W t v := by
  have hlen : t.kids.length = xs.length := by rw [ht]; simp
  rcases h.2 with ⟨rfl, h0⟩ | ⟨g, cap, cur, rfl, _, hg, hc, _, hsz, htk⟩
  · exact .leaf t none 0 (List.length_eq_zero_iff.1 (hlen.trans h0))
  · have hat : ∀ j, j < xs.length * 3 → cur[j]? = (cellsOf xs)[j]? := fun j hj => by
      rw [← htk, List.getElem?_take, if_pos hj, Array.getElem?_toList]
    rw [← hlen]
    refine .row t g cap cur (0, 0) (fun i => if h : i < xs.length then .slice xs[i].2.1 xs[i].1.kids.length xs[i].2.2 else undef) (hv g rfl) hg (by omega) (fun i hi => ?_) (fun i hi => ?_)
    · have hi' : i < xs.length := by omega
      obtain ⟨e1, e2, e3⟩ := cellsOf_at xs i hi'
      have ek : t.kids[i] = xs[i].1 := by simp [ht]
      simp only [dif_pos hi', ek]
      exact ⟨(hat _ (by omega)).trans e1, (hat _ (by omega)).trans e2, (hat _ (by omega)).trans e3⟩
    · have hi' : i < xs.length := by omega
      have ek : t.kids[i] = xs[i].1 := by simp [ht]
      simp only [dif_pos hi', ek]
      exact hk _ (List.getElem_mem hi')
/-- A part of a row. -/
theorem TyIn.part {K : Nat → Prop} {X : World} {t : T} {a : Option Addr} {c : Nat} (h : TyIn K X t (.slice a t.kids.length c)) (i : Nat) (hi : i < t.kids.length) : ∃ g pa ca, a = some ⟨g, 0, none⟩ ∧ t.kids.length ≤ c ∧ ∀ W, KeepK K X W → (g < W.heap.size ∧ W.cell? ⟨g, i * 3, none⟩ = some (.int .i64 t.kids[i].kind) ∧ W.cell? ⟨g, i * 3 + 1, none⟩ = some (.string t.kids[i].name) ∧ W.cell? ⟨g, i * 3 + 2, none⟩ = some (.slice pa t.kids[i].kids.length ca)) ∧ TyIn K W t.kids[i] (.slice pa t.kids[i].kids.length ca) := by
  obtain ⟨v, hv⟩ : ∃ v, v = Value.slice a t.kids.length c := ⟨_, rfl⟩
  rw [← hv] at h
  cases h with
  | leaf _ _ _ h0 => rw [h0] at hi; cases hi
  | row _ g cap cs fz z h0 h1 h2 h3 h4 =>
    cases hv
    obtain ⟨pa, ca, e⟩ := (h4 i hi).shape
    obtain ⟨c1, c2, c3⟩ := h3 i hi
    rw [e] at c3
    refine ⟨g, pa, ca, rfl, h2, fun W hk => ?_⟩
    have hW := (hk g h0 (Array.getElem?_eq_some_iff.1 h1).1).trans h1
    refine ⟨⟨(Array.getElem?_eq_some_iff.1 hW).1, ?_, ?_, ?_⟩, ?_⟩
    · simp only [World.cell?, hW]; simpa using c1
    · simp only [World.cell?, hW]; simpa using c2
    · simp only [World.cell?, hW]; simpa using c3
    · rw [← e]; exact (h4 i hi).keepK hk

/-- The pairs that the document's Apply is handed: their types' rows lie ahead of N. -/
def Src4 (N : Nat) (v : Value) (d : List PR) (w : World) : Prop := GivenG 63 v d w ∧ (∀ x ∈ d, TyIn (fun k => k < N) w x.t (.slice x.a x.t.kids.length x.c)) ∧ N ≤ w.heap.size
theorem Src4.below {N : Nat} {v : Value} {d : List PR} {w W : World} (h : Src4 N v d w) (hb : Below w.heap.size w W) : Src4 N v d W :=
  ⟨h.1.below hb, fun x hx => (h.2.1 x hx).keep fun k _ _ hk hh => (hb.block k (by have := h.2.2; omega)).trans hh, Nat.le_trans h.2.2 hb.size⟩
def RApp (d : List PR) (t : T) : Prop := ∀ (N : Nat) (v : Value) (a : Option Addr) (c : Nat) (w : World), Src4 N v d w → TyIn (fun k => k < N) w t (.slice a t.kids.length c) → tsize t ≤ 1000000000 →
    Calls Try.prog 13 #[v, tyV t (.slice a t.kids.length c)] w fun e w' => (∃ a' c', e = .returned (tyV (app d t) (.slice a' (app d t).kids.length c')) ∧ TyIn (fun k => k < N ∨ w.heap.size ≤ k) w' (app d t) (.slice a' (app d t).kids.length c')) ∧ Below w.heap.size w w'

set_option maxRecDepth 100000 in
set_option maxHeartbeats 4000000 in
theorem rapp_var (d : List PR) (hl : d.length < 1000000) (n : ByteArray) : RApp d (.var n) := by
  intro N v a c w hs ht hz
  have HG := Lib.hid (fun (V : World) (hb : Below w.heap.size w V) => rget_any v d n V (hs.1.below hb) (by omega))
  have HS := Lib.hid hs
  obtain ⟨av, cv, rfl, _⟩ := hs.1.shape
  have HB2 := Lib.hid (fun o1 o2 => below_two w o1 o2)
  have e0 : (T.var n).kids.length = 0 := rfl
  have e1 : (T.var n).kind = 1 := rfl
  have e2 : (T.var n).name = n := rfl
  obtain ⟨res, hres⟩ : ∃ r, lk n d = r := ⟨_, rfl⟩
  have HRes := Lib.hid hres
  have hap : app d (.var n) = ((res.map PR.t).getD (.var n)) := by rw [app_v]; unfold ty; rw [hres]
  rw [hap]
  simp only [tyV, e0, e1, e2]
  clear hs ht hz hap e0 e1 e2
  rw [hres] at HG
  clear hres
  go_enter Try.func13, Try.ntmps13
  cases res with
  | none =>
    simp only [fv', Option.isSome_none, Option.map_none, Option.getD_none] at HG ⊢
    go_wp2_with (go_at_call 27; refine (HG.out _ (HB2.out _ _)).mono ?_)
    rintro e w2 ⟨rfl, hb2⟩
    have hbw : Below w.heap.size w w2 := (HB2.out _ _).trans (hb2.mono (by simp; omega))
    have hy := (hb2.block w.heap.size (by simp; omega)).trans ((Below.heap_alloc _ _ _ (by simp)).trans (alloc_new w _))
    have hz := (hb2.block (w.heap.size + 1) (by simp)).trans (new_two w _ _)
    obtain ⟨y0, y1, y2⟩ := three_cells hy
    obtain ⟨z0, z1, z2⟩ := three_cells hz
    have u0 := Lib.frozen_of_heap hz 0
    have u1 := Lib.frozen_of_heap hz 1
    have u2 := Lib.frozen_of_heap hz 2
    have ly := (Array.getElem?_eq_some_iff.1 hy).1
    have lz := (Array.getElem?_eq_some_iff.1 hz).1
    have HB := Lib.hid hbw
    have HZ := Lib.hid hz
    have lW : w.heap.size < w2.heap.size := by omega
    clear hb2 hbw hy hz HG
    go_wp2
    have hs3 := set3_block HZ.out (.int .i64 1) (.string n) (.slice a 0 c)
    have hc := three_cells ((Below.heap_alloc _ (.cells #[.int .i64 0, .string ⟨#[]⟩, .slice none 0 0] 26) _ (Array.getElem?_eq_some_iff.1 hs3).1).trans hs3)
    exact bodyPost_ret (v := .agg #[.int .i64 1, .string n, .slice a 0 c]) (by simp [results, Try.results13, go_sem, hc.1, hc.2.1, hc.2.2]) rfl ⟨⟨a, c, rfl, .leaf _ _ _ rfl⟩, (below_set3 HB.out (Nat.le_succ _) _ _ _).alloc (by have := HB.out.size; simp; omega) _⟩
  | some x =>
    simp only [fv', Option.isSome_some, Option.map_some, Option.getD_some] at HG ⊢
    have HX := Lib.hid (HS.out.2.1 x (lk_name HRes.out).1)
    have HN := Lib.hid HS.out.2.2
    go_wp2_with (go_at_call 27; refine (HG.out _ (HB2.out _ _)).mono ?_)
    rintro e w2 ⟨rfl, hb2⟩
    have hbw : Below w.heap.size w w2 := (HB2.out _ _).trans (hb2.mono (by simp; omega))
    have hy := (hb2.block w.heap.size (by simp; omega)).trans ((Below.heap_alloc _ _ _ (by simp)).trans (alloc_new w _))
    have hz := (hb2.block (w.heap.size + 1) (by simp)).trans (new_two w _ _)
    obtain ⟨y0, y1, y2⟩ := three_cells hy
    obtain ⟨z0, z1, z2⟩ := three_cells hz
    have u0 := Lib.frozen_of_heap hz 0
    have u1 := Lib.frozen_of_heap hz 1
    have u2 := Lib.frozen_of_heap hz 2
    have ly := (Array.getElem?_eq_some_iff.1 hy).1
    have lz := (Array.getElem?_eq_some_iff.1 hz).1
    have HB := Lib.hid hbw
    have HZ := Lib.hid hz
    have lW : w.heap.size < w2.heap.size := by omega
    clear hb2 hbw hy hz HG
    go_wp2
    have hs3 := set3_block HZ.out (.int .i64 x.t.kind) (.string x.t.name) (.slice x.a x.t.kids.length x.c)
    have hc := three_cells ((Below.heap_alloc _ (.cells #[.int .i64 x.t.kind, .string x.t.name, .slice x.a x.t.kids.length x.c] 26) _ (Array.getElem?_eq_some_iff.1 hs3).1).trans hs3)
    refine bodyPost_ret (v := .agg #[.int .i64 x.t.kind, .string x.t.name, .slice x.a x.t.kids.length x.c]) (by simp [results, Try.results13, go_sem, hc.1, hc.2.1, hc.2.2]) rfl ⟨⟨x.a, x.c, rfl, ?_⟩, (below_set3 HB.out (Nat.le_succ _) _ _ _).alloc (by have := HB.out.size; simp; omega) _⟩
    refine (HX.out.keep fun k _ _ hk hh => ?_).mono fun k hk => .inl hk
    have hkw : k < w.heap.size := Nat.lt_of_lt_of_le hk HN.out
    exact (Below.heap_alloc _ _ k (by simp; omega)).trans ((set3_others _ _ _ (by omega)).trans ((HB.out.block k hkw).trans hh))
end Go.Proofs.Ythpphjkoiipkkaa
/- The document's Apply, of all types. -/
namespace Go.Proofs.Ythpphjkoiipkkaa
open Go.RowKit Go.Sort Go.Lib
attribute [local go_sem] Oper.semAt_some

/-- One more at the row's end: what lay beside the row lies beside it still. -/
theorem beside_next {ok : Nat → Prop} {X w1 : World} {o : Obj} {s v' : Value} {g : Nat} {xs : List Tl} {x : Tl} (hx : ∀ y ∈ xs, TyIn (fun k => ok k ∧ some k ≠ s.ownBlock) X y.1 (.slice y.2.1 y.1.kids.length y.2.2)) (hnew : TyIn (fun k => ok k ∧ some k ≠ s.ownBlock) X x.1 (.slice x.2.1 x.1.kids.length x.2.2))
    (hg : (X.alloc o).grownBy w1 s.ownBlock) (hat : s.ownBlock = some g ∨ g = (X.alloc o).heap.size) (hv' : v'.ownBlock = some g) : ∀ y ∈ xs ++ [x], TyIn (fun k => ok k ∧ some k ≠ v'.ownBlock) w1 y.1 (.slice y.2.1 y.1.kids.length y.2.2) := by
  have key : ∀ {t : T} {v : Value}, TyIn (fun k => ok k ∧ some k ≠ s.ownBlock) X t v → TyIn (fun k => ok k ∧ some k ≠ v'.ownBlock) w1 t v := fun {t v} ht => by
    have hgk : ∀ k, some k ≠ s.ownBlock ∧ k < X.heap.size → k ≠ g := fun k hk e => by
      subst e
      rcases hat with e | e
      · exact hk.1 e.symm
      · have := hk.2; simp at e; omega
    refine (ht.lt.keep fun k cs fz hk hh => ?_).mono fun k hk => ⟨hk.1.1, by rw [hv']; exact fun e => hgk k ⟨hk.1.2, hk.2⟩ (by simpa using e)⟩
    exact (hg.block k (by simp; omega) hk.1.2).trans ((Below.heap_alloc X o k hk.2).trans hh)
  intro y hy
  rcases List.mem_append.1 hy with hy | hy
  · exact key (hx y hy)
  · rw [List.mem_singleton.1 hy]; exact key hnew
theorem cell_new3 (w : World) (x y z : Value) (t : TypeId) : ∀ j v, [x, y, z][j]? = some v → (w.alloc (.cells #[x, y, z] t)).cell? ((⟨w.heap.size, 0, none⟩ : Addr).add j) = some v := by
  intro j v hv
  have hadd : (⟨w.heap.size, 0, none⟩ : Addr).add j = ⟨w.heap.size, j, none⟩ := by unfold Addr.add; split <;> simp_all
  rw [hadd]
  have := alloc_new w (.cells #[x, y, z] t)
  simp only [World.cell?, this]
  match j, hv with
  | 0, hv => simpa using hv
  | 1, hv => simpa using hv
  | 2, hv => simpa using hv
  | n + 3, hv => simp at hv
/-- What the loop keeps. -/
def AI (N : Nat) (w : World) (l : List T) (v : Value) (n : Nat) (wr : World) : Prop :=
  (∃ xs : List Tl, (xs.map (·.1) = l ∧ n = xs.length) ∧ wr.ownsRow (w.heap.size + 1 + 1) 26 3 v xs.length (cellsOf xs) ∧ ∀ x ∈ xs, TyIn (fun k => (k < N ∨ w.heap.size + 1 + 1 ≤ k) ∧ some k ≠ v.ownBlock) wr x.1 (.slice x.2.1 x.1.kids.length x.2.2)) ∧ Below w.heap.size w wr ∧ w.heap.size + 1 + 1 ≤ wr.heap.size
theorem AI.below {N : Nat} {w : World} {l : List T} {v : Value} {n : Nat} {X Y : World} (h : AI N w l v n X) (hb : Below X.heap.size X Y) : AI N w l v n Y := by
  obtain ⟨⟨xs, h1, h2, h3⟩, h4, h5⟩ := h
  refine ⟨⟨xs, h1, row_kept h2 fun k _ _ hk => (hb.block k (Array.getElem?_eq_some_iff.1 hk).1).trans hk, fun x hx => (h3 x hx).keep fun k _ _ _ hk => (hb.block k (Array.getElem?_eq_some_iff.1 hk).1).trans hk⟩, h4.trans (hb.mono h4.size), Nat.le_trans h5 hb.size⟩

set_option maxRecDepth 100000 in
set_option maxHeartbeats 4000000 in
theorem rapp_step (d : List PR) (t : T) (hv : ∀ n, t ≠ .var n) (H : ∀ k ∈ t.kids, RApp d k) : RApp d t := by
  intro N v a c w hs ht hz
  have hz' := tsize_eq t
  have hlen := len_sizes' t.kids
  have hk1 := kind_one hv
  obtain ⟨p1, p2, p3⟩ := app_parts d t hv
  have HS := Lib.hid hs
  have HR := Lib.hid ht.part
  have HH := Lib.hid H
  have HN := Lib.hid hs.2.2
  obtain ⟨av, cv, rfl, _⟩ := hs.1.shape
  obtain ⟨i0, hi, hz0, hz1, hz2⟩ := info_parts Try.infoTy
  have HB2 := Lib.hid (fun o1 o2 => below_two w o1 o2)
  have HP := Lib.hid (And.intro p1 (And.intro p2 p3))
  clear hs ht H p1 p2 p3 hv
  simp only [tyV]
  go_enter Try.func13, Try.ntmps13
  go_wp2
  go_loopw [7, 8] (fun vo vi wr => ∃ (i n e : Nat) (b : Option Addr), i ≤ t.kids.length ∧ vi = .int .i64 i ∧ vo = .slice b n e ∧ Hid (AI N w ((t.kids.take i).map (app d)) (.slice b n e) n wr) ∧ Hid (wr.heap[w.heap.size]? = some (.cells #[.int .i64 t.kind, .string t.name, .slice a t.kids.length c] 26 (0, 0)) ∧ wr.heap[w.heap.size + 1]? = some (.cells #[.int .i64 0, .string ⟨#[]⟩, .slice none 0 0] 26 (0, 0)))) (fun _ vi _ => t.kids.length - (intOf vi).toNat)
  case atStart =>
    exact ⟨0, 0, 0, none, Nat.zero_le _, rfl, rfl, Lib.hid ⟨⟨[], ⟨rfl, rfl⟩, World.ownsRow_nil _ _ _ _, (fun _ h => nomatch h)⟩, HB2.out _ _, by simp⟩, Lib.hid ⟨(Below.heap_alloc _ _ _ (by simp)).trans (alloc_new w _), new_two w _ _⟩⟩
  case round =>
    obtain ⟨i, n, e, b, hi', rfl, rfl, hF, hBox⟩ := hrel
    obtain ⟨b0, b1, b2⟩ := three_cells hBox.out.1
    obtain ⟨z0, z1, z2⟩ := three_cells hBox.out.2
    have lz := (Array.getElem?_eq_some_iff.1 hBox.out.2).1
    have ly := (Array.getElem?_eq_some_iff.1 hBox.out.1).1
    by_cases hlt : i < t.kids.length
    · obtain ⟨⟨xs, ⟨hx1, rfl⟩, hrow, hbs⟩, hBl, hsz⟩ := hF.out
      obtain ⟨g, pa, ca, rfl, hcap, hr⟩ := HR.out i hlt
      obtain ⟨⟨hg, x0, x1, x2⟩, xk⟩ := hr wr (fun k hk hx => hBl.block k hx)
      have hkk := size_mem' (List.getElem_mem hlt)
      have HC := Lib.hid (HH.out t.kids[i] (List.getElem_mem hlt) N _ pa ca wr (HS.out.below hBl) xk (by omega))
      obtain rfl : i = xs.length := by have := congrArg List.length hx1; simp at this; omega
      have HTk := Lib.hid (show (t.kids.take (xs.length + 1)).map (app d) = (t.kids.take xs.length).map (app d) ++ [app d t.kids[xs.length]] by rw [List.take_succ_eq_append_getElem hlt, List.map_append]; rfl)
      have HX1 := Lib.hid hx1
      have HRow := Lib.hid hrow; have HBs := Lib.hid hbs; have HBl := Lib.hid hBl; have HSz := Lib.hid hsz
      have HPc := Lib.hid HP.out.1
      clear hr xk hkk HH HR hx1 hrow hbs hBl hF
      generalize t.kids[xs.length] = u at x0 x1 x2 HC HTk
      simp only [tyV] at HC
      have hlt1 : ((xs.length : Int) < (t.kids.length : Int)) := by omega
      have hxs : xs.length ≤ 1000000000 := by omega
      go_wp2_with (first
        | (go_at_call 13; refine HC.out.mono ?_; rintro e2 w2 ⟨⟨a2, c2, rfl, g1⟩, g2⟩; have G1 := Lib.hid g1; have G2 := Lib.hid g2; have hq1 := (g2.block _ ly).trans hBox.out.1; have hq2 := (g2.block _ lz).trans hBox.out.2; have HBox2 := Lib.hid (And.intro hq1 hq2); have HRow2 := Lib.hid (row_kept HRow.out fun k cs fz hk => (g2.block k (Array.getElem?_eq_some_iff.1 hk).1).trans hk); clear g1 g2 hq1 hq2)
        | (at_builtin; refine wpList_append_lies _ rfl _ _ 24 rfl (w.heap.size + 1 + 1) 26 i0 (.agg #[.int .i64 0, .string ⟨#[]⟩, .slice none 0 0]) 3 48 Try.underlying24 hi hz0 hz1 hz2 rfl (by decide) _ _ _ rfl (HRow2.out.alloc _) ⟨w2.heap.size, 0, none⟩ 1 1 [.int .i64 (app d u).kind, .string (app d u).name, .slice a2 (app d u).kids.length c2] rfl rfl (cell_new3 _ _ _ _ _) (by simp [Value.oneCell']) (by decide) (by unfold maxLen; omega) (by omega) (by have := HSz.out; have := G2.out.size; simp; omega) _ rfl ?_; intro g3 cap3 w3 ho3 hg3 hat3 hlt3; have HO3 := Lib.hid ho3; have HG3 := Lib.hid hg3; have HAt3 := Lib.hid hat3; clear ho3 hg3 hat3 hlt3))
      go_roundw
      case rel =>
        have hlo := HRow.out.lt
        have hw2 := G2.out.size
        have hwl := HBl.out.size
        refine ⟨xs.length + 1, xs.length + 1, cap3, some ⟨g3, 0, none⟩, by omega, by go_num, rfl, Lib.hid ⟨⟨xs ++ [(app d u, a2, c2)], ⟨?_, by simp⟩, ?_, ?_⟩, ?_, ?_⟩, Lib.hid ⟨?_, ?_⟩⟩
        · rw [HTk.out, List.map_append, HX1.out]; rfl
        · rw [cellsOf_snoc, List.length_append]; exact HO3.out
        · refine beside_next (fun y hy => (HBs.out y hy).keep fun k _ _ _ hk => (G2.out.block k (Array.getElem?_eq_some_iff.1 hk).1).trans hk) (G1.out.mono fun k hk => ⟨?_, fun e => ?_⟩) HG3.out HAt3.out rfl
          · rcases hk with hk | hk
            · exact .inl hk
            · exact .inr (Nat.le_trans HSz.out hk)
          · have := hlo k e.symm
            have := HN.out
            rcases hk with hk | hk <;> omega
        · exact ((HBl.out.trans (G2.out.mono hwl)).alloc (by omega) _).grown HG3.out (by simp; omega) (fun j hj => by have := (hlo j hj).1; omega)
        · have := HG3.out.size; simp at this; omega
        · exact (HG3.out.block _ (by simp; omega) (fun e => by have := (hlo _ e.symm).1; omega)).trans ((Below.heap_alloc w2 _ _ (by omega)).trans HBox2.out.1)
        · exact (HG3.out.block _ (by simp; omega) (fun e => by have := (hlo _ e.symm).1; omega)).trans ((Below.heap_alloc w2 _ _ (by omega)).trans HBox2.out.2)
      case measure => simp [intOf]; omega
    · obtain rfl : i = t.kids.length := by omega
      rw [List.take_length] at hF
      have fb := Lib.frozen_of_heap hBox.out.1 2
      have u0 := Lib.frozen_of_heap hBox.out.2 0
      have u1 := Lib.frozen_of_heap hBox.out.2 1
      have u2 := Lib.frozen_of_heap hBox.out.2 2
      clear HR HH HS
      go_wp2
      obtain ⟨⟨xs, ⟨hx1, rfl⟩, hrow, hbs⟩, hBl, hsz⟩ := hF.out
      have hz4 := (Below.heap_setCell wr ⟨w.heap.size, 2, none⟩ (.slice b xs.length e) (w.heap.size + 1) (by simp)).trans hBox.out.2
      have hs3 := set3_block hz4 (.int .i64 t.kind) (.string t.name) (.slice b xs.length e)
      have hc := three_cells hs3
      have hlen2 : (app d t).kids.length = xs.length := by rw [HP.out.2.2, ← hx1]; simp
      have hin : TyIn (fun k => k < N ∨ w.heap.size + 1 + 1 ≤ k) wr (app d t) (.slice b xs.length e) := in_of_row (by rw [HP.out.2.2, hx1]) hrow (fun g hg => .inr (hrow.lt g hg).1) (fun x hx => (hbs x hx).mono fun k hk => hk.1)
      refine bodyPost_ret (v := .agg #[.int .i64 t.kind, .string t.name, .slice b xs.length e]) (by simp [results, Try.results13, go_sem, hc.1, hc.2.1, hc.2.2]) rfl ⟨⟨b, e, by rw [HP.out.1, HP.out.2.1, hlen2], ?_⟩, below_set3 (hBl.setCell (p := ⟨w.heap.size, 2, none⟩) (Nat.le_refl _) _) (Nat.le_succ _) _ _ _⟩
      rw [hlen2]
      refine (hin.keep fun k _ _ hk hh => ?_).mono fun k hk => hk.imp id (fun h => by omega)
      have hkN : k ≠ w.heap.size ∧ k ≠ w.heap.size + 1 := by have := HN.out; rcases hk with hk | hk <;> omega
      exact (set3_others _ _ _ hkN.2).trans ((Below.heap_setCell wr ⟨w.heap.size, 2, none⟩ _ k hkN.1).trans hh)
theorem rapp_ok (d : List PR) (hl : d.length < 1000000) (t : T) : RApp d t :=
  T.by_kids (P := RApp d) (fun t H => by
    cases t with
    | var n => exact rapp_var d hl n
    | con n l => exact rapp_step d _ (fun m h => by cases h) H
    | fn a b => exact rapp_step d _ (fun m h => by cases h) H
    | all n a => exact rapp_step d _ (fun m h => by cases h) H) t
/-- The document's Apply, whose result is told. -/
theorem rapp_big {d : List PR} {v : Value} {t : T} {a : Option Addr} {c : Nat} {w : World} (hl : d.length < 1000000) (hg : GivenG 63 v d w) (ht : Typ d w) (h : TysAt w (.slice a t.kids.length c) t.kids) (hz : tsize t ≤ 1000000000) :
    Calls Try.prog 13 #[v, .agg #[.int .i64 t.kind, .string t.name, .slice a t.kids.length c]] w fun e Y => (∃ za zc, e = .returned (.agg #[.int .i64 (app d t).kind, .string (app d t).name, .slice za (app d t).kids.length zc]) ∧ TysAt Y (.slice za (app d t).kids.length zc) (app d t).kids) ∧ Below w.heap.size w Y := by
  have lt : ∀ (k : Nat) (cs : Array Value) (fz : Nat × Nat), w.heap[k]? = some (.cells cs 26 fz) → k < w.heap.size := fun k _ _ hk => (Array.getElem?_eq_some_iff.1 hk).1
  refine (rapp_ok d hl t w.heap.size v a c w ⟨hg, fun x hx => (ht x hx).inside lt, Nat.le_refl _⟩ (h.inside lt) hz).mono ?_
  rintro e Y ⟨⟨a', c', rfl, hin⟩, hb⟩
  exact ⟨⟨a', c', rfl, hin.tys⟩, hb⟩
theorem rapp_ret {d : List PR} {v : Value} {t : T} {a : Option Addr} {c : Nat} {w : World} (hl : d.length < 1000000) (hg : GivenG 63 v d w) (ht : Typ d w) (h : TysAt w (.slice a t.kids.length c) t.kids) (hz : tsize t ≤ 1000000) :
    Calls Try.prog 13 #[v, .agg #[.int .i64 t.kind, .string t.name, .slice a t.kids.length c]] w fun e Y => (∃ za zc, e = .returned (.agg #[.int .i64 (app d t).kind, .string (app d t).name, .slice za (app d t).kids.length zc]) ∧ TysAt Y (.slice za (app d t).kids.length zc) (app d t).kids) ∧ Below w.heap.size w Y :=
  rapp_big hl hg ht h (Nat.le_trans hz (by decide))
end Go.Proofs.Ythpphjkoiipkkaa
/- The document's Then. -/
namespace Go.Proofs.Ythpphjkoiipkkaa
open Go.RowKit Go.Sort Go.Lib
attribute [local go_sem] Oper.semAt_some

theorem isV_kind {t : T} : t.isV = true ↔ t.kind = 1 := by cases t <;> simp [T.isV, T.kind]
theorem not_var {t : T} (h : t.isV = false) : ¬ t.kind = 1 := fun e => by rw [isV_kind.2 e] at h; cases h
/-- A pair without its place. -/
def nt (x : PR) : ByteArray × T := (x.n, x.t)
theorem ty_nt (n : ByteArray) : ∀ {l m : List PR}, l.map nt = m.map nt → ty n l = ty n m
  | [], [], _ => rfl
  | [], _ :: _, h => by cases h
  | _ :: _, [], h => by cases h
  | x :: l, y :: m, h => by
    rw [List.map_cons, List.map_cons] at h
    injection h with h1 h2
    have e := ty_nt n h2
    simp only [nt, Prod.mk.injEq] at h1
    unfold ty at e ⊢
    rw [lk_cons, lk_cons, h1.1]
    by_cases c : y.n = n
    · rw [if_pos c, if_pos c]; simp [h1.2]
    · rw [if_neg c, if_neg c]; exact e
theorem own_below4 {W W' : World} {base : Nat} {e : TypeId} {size : Nat} {v : Value} {n : Nat} {xs : List Value} (h : W.ownsRow base e size v n xs) (hb : Below W.heap.size W W') : W'.ownsRow base e size v n xs :=
  row_kept h fun k _ _ hk => (hb.block k (Array.getElem?_eq_some_iff.1 hk).1).trans hk
/-- The pairs that were made so far. -/
def TnI (w : World) (vo : Value) (ls : List PR) (want : List (ByteArray × T)) (X : World) : Prop :=
  ls.map nt = want ∧ (X.ownsRow w.heap.size 63 4 vo ls.length (cellsP ls) ∧ (ls = [] → vo = .slice none 0 0)) ∧ Typ ls X ∧ Below w.heap.size w X
theorem TnI.start (w : World) (o : World) (hb : Below w.heap.size w o) : TnI w (.slice none 0 0) [] [] o := ⟨rfl, ⟨World.ownsRow_nil _ _ _ _, fun _ => rfl⟩, (fun _ h => nomatch h), hb⟩
theorem TnI.below {w : World} {vo : Value} {ls : List PR} {want : List (ByteArray × T)} {X Y : World} (h : TnI w vo ls want X) (hb : Below X.heap.size X Y) : TnI w vo ls want Y :=
  ⟨h.1, ⟨own_below4 h.2.1.1 hb, h.2.1.2⟩, h.2.2.1.keep (KeepT.of_below hb), h.2.2.2.trans (hb.mono h.2.2.2.size)⟩
theorem TnI.next {w : World} {vo v' : Value} {ls : List PR} {want : List (ByteArray × T)} {x : PR} {X W : World} {o : Obj} (h : TnI w vo ls want X) (hx : TysAt X (.slice x.a x.t.kids.length x.c) x.t.kids) (ho : W.ownsRow w.heap.size 63 4 v' (ls.length + 1) (cellsP ls ++ encP x))
    (hg : (X.alloc o).grownBy W vo.ownBlock) : TnI w v' (ls ++ [x]) (want ++ [nt x]) W := by
  have hsz := h.2.2.2.size
  have hk : KeepT X W := (keepT_alloc X _).trans (KeepT.grown hg (h.2.1.1.alloc _) (by decide))
  refine ⟨by rw [List.map_append, h.1]; rfl, ⟨?_, fun e => by simp at e⟩, fun y hy => ?_, (h.2.2.2.alloc hsz _).grown hg (by simp; omega) fun j hj => (h.2.1.1.lt j hj).1⟩
  · rw [cellsP_snoc, List.length_append]; exact ho
  · rcases List.mem_append.1 hy with hy | hy
    · exact (h.2.2.1 y hy).keep hk
    · obtain rfl := List.mem_singleton.1 hy
      exact hx.keep hk
theorem take_none {d e : List PR} {i : Nat} (h : i < e.length) (hn : lk (e.getD i noP).n d = none) : ((e.take (i + 1)).filter fun y => (lk y.n d).isNone).map nt = ((e.take i).filter fun y => (lk y.n d).isNone).map nt ++ [nt (e.getD i noP)] := by
  have e1 : e.getD i noP = e[i] := by simp [List.getD, h]
  rw [e1] at hn ⊢
  rw [List.take_succ_eq_append_getElem h, List.filter_append, List.map_append]
  simp [hn]
theorem take_some {d e : List PR} {i : Nat} {x : PR} (h : i < e.length) (hn : lk (e.getD i noP).n d = some x) : ((e.take (i + 1)).filter fun y => (lk y.n d).isNone).map nt = ((e.take i).filter fun y => (lk y.n d).isNone).map nt := by
  have e1 : e.getD i noP = e[i] := by simp [List.getD, h]
  rw [e1] at hn
  rw [List.take_succ_eq_append_getElem h, List.filter_append, List.map_append]
  simp [hn]
theorem thenR_nt (d e : List PR) : (thenR d e).map nt = (d.map fun x => (x.n, app e x.t)) ++ (e.filter fun y => (lk y.n d).isNone).map nt := by
  unfold thenR
  rw [List.map_append, List.map_map]; rfl
end Go.Proofs.Ythpphjkoiipkkaa
