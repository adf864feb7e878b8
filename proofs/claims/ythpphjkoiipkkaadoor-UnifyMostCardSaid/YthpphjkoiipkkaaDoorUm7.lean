/- Merged: UgToldN, UgBackN, SbSort, SbClear, SbCompact, SbDelete, SbGather. -/
import Derived.Test.YthpphjkoiipkkaaDoorUm6
import Derived.Stop.RegionWithIn
import Derived.OwnWalkIn
import Derived.TacticsInMore
import Derived.LoopNIn
import Derived.LoopIn
import Derived.IntWalk
import Derived.Test.YthpphjkoiipkkaaDoorUm5
import Derived.Lib.SliceRun
/- A loop over an iterator whose rounds know which one they are. -/
namespace Go.Proofs.YthpphjkoiipkkaaDoor
open Go.RowKit

/-- As SeqTold, and each round knows which one it is. Between two rounds the iterator may have laid blocks ('Below', from X0, where the last round ended, to X, where the next begins); the rounds may be told 'Ex x' of the world in which they are handed x; a round that goes on keeps what the iterator has laid since X0, and the blocks of K. -/
def SeqToldN {α : Type} (n : Nat) (P : Program) (g : Nat) (lb : Array Value) (encs : α → Array Value) (Ex : α → World → Prop) (K : Nat → Prop) (Nx : List α → α → Prop) (S Sp : List α → Prop) (N : Nat) (w : World) : Prop :=
  ∀ (l : Nat) (J Jx : List α → World → Prop) (W : World), Below w.heap.size w W →
    (∀ pre x X0 X, J pre X0 → pre.length < N → Below X0.heap.size X0 X → Ex x X → Nx pre x → YieldAt Fence.wide (n - 1) P l (encs x) X fun e Y =>
      (e = .returned (.bool true) ∧ J (pre ++ [x]) Y ∧ Kept K X0.heap.size X Y) ∨ (e = .returned (.bool false) ∧ Jx (pre ++ [x]) Y)) →
    J [] W →
    CallsIn Fence.wide n P g (#[.func (.yield l) #[] #[]] ++ lb) W fun e Y => (∃ v, e = .returned v) ∧ ((∃ xs, S xs ∧ J xs Y) ∨ (∃ pre, Sp pre ∧ Jx pre Y))

/-- **The statement 'for .. := range f', its body left by its end or by a return.** 's': what the body keeps of its own; 'T s': the blocks that it may write there. -/
theorem range_toldN {n : Nat} {P : Program} {σ α : Type} {g : Operand} {ps : Array Tmp} {assign body : Code} {Q : Exit → Act → World → Prop} {a : Act} {w : World} (h1 : 1 ≤ n)
    {gf : Nat} {lb : Array Value} (hg : a.eval g = .func (.func gf) #[] lb) (eg : ∀ args w, (callFunc gf args).run P w = .ok (.enter gf args) w)
    {encs : α → Array Value} {Ex : α → World → Prop} {K : Nat → Prop} {Nx : List α → α → Prop} {S Sp : List α → Prop} {N : Nat} {w0 : World} (hseq : SeqToldN (n - 1) P gf lb encs Ex K Nx S Sp N w0)
    (hK : ∀ k, K k → k < w.heap.size) (hb0 : Below w0.heap.size w0 w) (hps : ∀ x, (encs x).size = ps.size)
    (I : σ → List α → World → Prop) (Ix : List α → World → Prop) (T : σ → Nat → Prop) (hI : ∀ s, OwnFrom w.heap.size (I s)) (hIx : OwnFrom w.heap.size Ix)
    (hT : ∀ s pre X k, I s pre X → T s k → k < X.heap.size ∧ ¬ K k) (h0 : ∃ s, I s [] w)
    (Ax : α → Act → World → Prop) (hAx : ∀ x a', OwnFrom w.heap.size (fun (_ : Unit) W => Ax x a' W))
    (hassign : ∀ (l : Nat) (s : σ) (pre : List α) (x : α) (X : World) (C : Act → World → Prop), I s pre X → Ex x X →
      (∀ a' Y, KeepsFrom w.heap.size X Y → Below X.heap.size X Y → Ax x a' Y → C a' Y) →
      assign.wpIn (Fence.wide.inRound l) (n - 1 - 1) P (Exit.then C (fun _ _ _ => False)) { tmps := (ps.zip (encs x)).foldl (fun t (p, v) => t.setIfInBounds p v) a.tmps, defers := [] } X)
    (hbody : ∀ (l : Nat) (s : σ) (pre : List α) (x : α) (a' : Act) (X : World), I s pre X → pre.length < N → Nx pre x → Ax x a' X → body.wpIn (Fence.wide.inRound l) (n - 1 - 1) P (RoundPost w.heap.size (T s) I Ix (pre ++ [x]) X) a' X)
    (hdone : ∀ (D : Nat) (s : σ) (xs : List α) (W : World), w.heap.size ≤ D → S xs → I s xs W → W.heap[D]? = some (.deferred (some [])) → Q .normal { a with defers := { target := .collected D, args := #[] } :: a.defers } W)
    (hstop : ∀ (D : Nat) (pre : List α) (W : World), w.heap.size ≤ D → Sp pre → Ix pre W → W.heap[D]? = some (.deferred (some [])) → Code.ret.wpIn Fence.wide n P Q { a with defers := { target := .collected D, args := #[] } :: a.defers } W) :
    (Code.rangeFunc g ps assign body).wpIn Fence.wide n P Q a w := by
  refine wpIn_rangeFunc fun fn _ => ?_
  -- the two blocks that the loop lays: the rounds' deferred calls at B, the record behind it
  generalize hB : w.heap.size = B at *
  obtain ⟨R, hR⟩ : ∃ R : LoopState → Option Code → Obj, R = fun st pe => .loop { state := st, pending := pe, fn, tmps := a.tmps, params := ps, assign, body, defers := B } := ⟨_, rfl⟩
  have hcells : ∀ st pe, (R st pe).isCells = false := fun st pe => by rw [hR]; rfl
  obtain ⟨V, hV⟩ : ∃ V, (w.alloc (.deferred (some []))).alloc (R .ready none) = V := ⟨_, rfl⟩
  have below : Below w.heap.size w V := by rw [← hV]; exact ((Below.refl _ w).alloc (Nat.le_refl _) _).alloc (by simp) _
  have hVL : V.heap[B + 1]? = some (R .ready none) := by
    rw [← hV]
    have := World.alloc_heap_new (w.alloc (.deferred (some []))) (R .ready none)
    rwa [World.size_alloc, hB] at this
  have hVB : V.heap[B]? = some (.deferred (some [])) := by
    rw [← hV, Below.heap_alloc _ _ _ (by simp; omega), ← hB]
    exact World.alloc_heap_new w _
  obtain ⟨s0, h0⟩ := h0
  have hVI : I s0 [] V := hI _ _ _ _ none h0 (grown_of_below below) (fun r e => by cases e)
  -- turning the record keeps what is asked
  have turn : ∀ {X : World} {o : Obj} (o' : Obj), X.heap[B + 1]? = some o → o.isCells = false → (∀ s xs, I s xs X → I s xs (X.putObj (B + 1) o')) ∧ (∀ xs, Ix xs X → Ix xs (X.putObj (B + 1) o')) ∧
      (∀ x a', Ax x a' X → Ax x a' (X.putObj (B + 1) o')) ∧ (∀ k, k ≠ B + 1 → (X.putObj (B + 1) o').heap[k]? = X.heap[k]?) ∧ (X.putObj (B + 1) o').heap[B + 1]? = some o' ∧ (X.putObj (B + 1) o').heap[B]? = X.heap[B]? :=
    fun {X o} o' hl ho => by
      have hlt := (Array.getElem?_eq_some_iff.1 hl).1
      exact ⟨fun s xs h => (hI s).putObj _ h (by omega) hl ho, fun xs h => hIx.putObj _ h (by omega) hl ho, fun x a' h => (hAx x a').putObj (s := ()) _ h (by omega) hl ho,
        fun k hk => World.putObj_heap_other hk, World.putObj_heap_same hlt, World.putObj_heap_other (by omega)⟩
  refine ⟨B + 1, [{ target := .collected B, args := #[] }], V, { target := .fn (.func gf) lb, args := #[.func (.yield (B + 1)) #[] #[]] }, V, gf, #[.func (.yield (B + 1)) #[] #[]] ++ lb, V, ?_, ?_, fun _ _ => trivial, ?_, fun _ => h1, ?_⟩
  · have e := run_enterLoop_outer (P := P) (w := w) fn a.tmps ps assign body
    rw [hB] at e
    rw [← hV, hR]
    exact e
  · simp only [resolve, hg]
    simp [go_sem]
  · simp [invoke, go_sem, eg]
  · refine (hseq (B + 1)
      (fun pre X => (∃ s, I s pre X) ∧ X.heap[B + 1]? = some (R .ready none) ∧ X.heap[B]? = some (.deferred (some [])))
      (fun pre X => Ix pre X ∧ X.heap[B + 1]? = some (R .done (some .ret)) ∧ X.heap[B]? = some (.deferred (some [])))
      V (hb0.trans (below.mono (by rw [hB]; have := hb0.size; omega)))
      ?_ ⟨⟨s0, hVI⟩, hVL, hVB⟩).mono ?_
    · -- a round
      rintro pre x X0 X ⟨⟨s, hi0⟩, hl0, hd0⟩ hlen hX hex hnx
      have hlt0 := (Array.getElem?_eq_some_iff.1 hl0).1
      have hi : I s pre X := hI _ _ _ _ none hi0 (grown_of_below hX) (fun r e => by cases e)
      have hl := (hX.block _ hlt0).trans hl0
      have hd := (hX.block _ (Array.getElem?_eq_some_iff.1 hd0).1).trans hd0
      have hl' := hl
      rw [hR] at hl'
      refine ⟨fn, _, assign, body, run_yield (P := P) (args := encs x) hl' (hps x), roundIn_of_wpIn trivial (hassign _ s pre x X _ hi hex ?_)⟩
      intro a' Y hk hb hax
      have hiY : I s pre Y := hI _ _ _ _ none hi (grown_of_below hb) (fun r e => by cases e)
      have hlY := hk.same _ _ (by omega) hl (hcells _ _)
      have hdY := hk.same _ _ (Nat.le_refl _) hd rfl
      have hlY' := hlY
      rw [hR] at hlY'
      have begins := run_beginRound (P := P) hlY' rfl
      obtain ⟨t1, _, t3, t4, t5, t6⟩ := turn (R .busy none) hlY (hcells _ _)
      refine ⟨Y.putObj (B + 1) (R .busy none), by rw [begins, hR], ?_⟩
      have ends : ∀ (jump : Option Code) (Z : World), KeepsFrom B (Y.putObj (B + 1) (R .busy none)) Z → Z.heap[B + 1]? = some (R .busy none) ∧ Z.heap[B]? = some (.deferred (some [])) ∧
          (Instr.endRound (B + 1) jump).run P Z = .ok (.bool jump.isNone) (Z.putObj (B + 1) (R (if jump.isNone then .ready else .done) jump)) := fun jump Z hz => by
        have z1 := hz.same _ _ (by omega) t5 (hcells _ _)
        refine ⟨z1, hz.same _ _ (Nat.le_refl _) (t6.trans hdY) rfl, ?_⟩
        rw [hR] at z1 ⊢
        exact run_endRound (P := P) jump z1
      refine wpIn_mono (hbody _ s pre x a' _ (t1 _ _ hiY) hlen hnx (t3 _ _ hax)) ?_
      rintro e a3 Z hp
      cases e with
      | normal =>
        obtain ⟨hz, hzb, s', hzi⟩ := hp
        obtain ⟨z1, z2, z3⟩ := ends none Z hz
        obtain ⟨u1, _, _, u4, u5, u6⟩ := turn (R .ready none) z1 (hcells _ _)
        refine ⟨_, _, z3, .inl ⟨rfl, ⟨⟨s', u1 _ _ hzi⟩, u5, u6.trans z2⟩, ?_, ?_⟩⟩
        · have := hb.size; have := hz.size; simp at this ⊢; omega
        · intro k hk hkX
          have hne : k ≠ B + 1 := by
            rcases hk with hk | hk
            · omega
            · have := hK k hk; omega
          have hnT : ¬ T s k := by
            intro ht
            rcases hk with hk | hk
            · have := (hT s pre X0 k hi0 ht).1; omega
            · exact (hT s pre X0 k hi0 ht).2 hk
          have hkY : k < Y.heap.size := by have := hb.size; omega
          exact (u4 k hne).trans ((hzb k hnT (by simpa using hkY)).trans ((t4 k hne).trans (hb.block k hkX)))
      | ret =>
        obtain ⟨hz, hzi⟩ := hp
        obtain ⟨z1, z2, z3⟩ := ends (some .ret) Z hz
        obtain ⟨_, u2, _, _, u5, u6⟩ := turn (R .done (some .ret)) z1 (hcells _ _)
        exact ⟨_, _, z3, .inr ⟨rfl, u2 _ hzi, u5, u6.trans z2⟩⟩
      | exit id => exact hp.elim
      | goto t => exact hp.elim
      | panic ch => exact hp.elim
      | outgrown => exact hp.elim
    · -- behind the iterator
      rintro e Z ⟨⟨v, rfl⟩, (⟨xs, hS, ⟨s, hi⟩, hl, hd⟩ | ⟨pre, hSp, hi, hl, hd⟩)⟩
      · obtain ⟨u1, _, _, _, _, u6⟩ := turn (R .exhausted none) hl (hcells _ _)
        have hl' := hl
        rw [hR] at hl'
        refine ⟨none, _, by have e := run_endLoop (P := P) hl' (by simp); exact e, ?_⟩
        have := hdone B s xs _ (Nat.le_refl _) hS (u1 _ _ hi) (u6.trans hd)
        rw [hR] at this
        exact this
      · obtain ⟨_, u2, _, _, _, u6⟩ := turn (R .exhausted (some .ret)) hl (hcells _ _)
        have hl' := hl
        rw [hR] at hl'
        refine ⟨some .ret, _, by have e := run_endLoop (P := P) hl' (by simp); exact e, ?_⟩
        have := hstop B pre _ (Nat.le_refl _) hSp (u2 _ hi) (u6.trans hd)
        rw [hR] at this
        exact this

end Go.Proofs.YthpphjkoiipkkaaDoor
/- A row of places from behind, each round told which one it is. -/
namespace Go.Proofs.YthpphjkoiipkkaaDoor
open Go.RowKit
attribute [local go_sem] Oper.semAt_some

set_option maxRecDepth 100000 in
set_option maxHeartbeats 2000000 in
theorem backI_toldN (n : Nat) (hn : 1 ≤ n) (vs : List Nat) (hvs : vs.length ≤ 1000000) (a : Option Addr) (cap g Bn : Nat) (w : World) (hBn : w.cell? ⟨Bn, 0, none⟩ = some (.slice a vs.length cap))
    (hrow : ∀ i, i < vs.length → a = some ⟨g, 0, none⟩ ∧ vs.length ≤ cap ∧ w.cell? ⟨g, i, none⟩ = some (.int .i64 (vs.getD i 0 : Nat))) :
    SeqToldN n Tryd.prog 62 #[.pointer (some ⟨Bn, 0, none⟩)] (encK vs) (fun _ _ => True) (fun k => k = Bn ∨ k = g) (fun pre x => pre ++ (List.range (x + 1)).reverse = (List.range vs.length).reverse) (fun xs => xs = (List.range vs.length).reverse) (fun _ => True) (vs.length + 1) w := by
  intro l J Jx W hW hY h0
  have hBW : W.cell? ⟨Bn, 0, none⟩ = some (.slice a vs.length cap) := (hW.cell (p := ⟨Bn, 0, none⟩) (World.block_lt_of_cell? _ _ hBn)).trans hBn
  have hrW : ∀ i, i < vs.length → a = some ⟨g, 0, none⟩ ∧ vs.length ≤ cap ∧ W.cell? ⟨g, i, none⟩ = some (.int .i64 (vs.getD i 0 : Nat)) := fun i hi => by
    obtain ⟨e1, e2, e3⟩ := hrow i hi
    exact ⟨e1, e2, (hW.cell (p := ⟨g, i, none⟩) (World.block_lt_of_cell? _ _ e3)).trans e3⟩
  have HRW := Lib.hid hrW
  clear hBn hrow hrW
  refine callsIn_of_wp Tryd.func62 rfl trivial ?_ rfl
  simp only [Tryd.ntmps62, List.size_toArray, List.length_cons, List.length_nil, Nat.reduceAdd, Nat.reduceSub, Array.replicate_succ, Array.replicate_zero, List.push_toArray, List.append_toArray, List.nil_append, List.cons_append]
  gi_wp2
  gi_loopw [3] (fun vi wr => ∃ (m : Nat) (pre : List Nat), vi = .int .i64 ((m : Int) - 1) ∧ (m ≤ vs.length ∧ pre.length + m = vs.length) ∧ Hid (pre ++ (List.range m).reverse = (List.range vs.length).reverse) ∧ J pre wr ∧
      wr.cell? ⟨Bn, 0, none⟩ = some (.slice a vs.length cap) ∧ Hid (∀ i, i < vs.length → a = some ⟨g, 0, none⟩ ∧ vs.length ≤ cap ∧ wr.cell? ⟨g, i, none⟩ = some (.int .i64 (vs.getD i 0 : Nat)))) (fun vi _ => (intOf vi + 1).toNat)
  case atStart => exact ⟨vs.length, [], rfl, ⟨Nat.le_refl _, by simp⟩, Lib.hid (by simp), h0, hBW, HRW⟩
  case round =>
    obtain ⟨m, pre, rfl, ⟨hm, hpl⟩, hpre, hJ, hBr, hRr⟩ := hrel
    by_cases hpos : 0 < m
    · obtain ⟨m', rfl⟩ : ∃ m', m = m' + 1 := ⟨m - 1, by omega⟩
      have hI : ((m' + 1 : Nat) : Int) - 1 = (m' : Int) := by omega
      obtain ⟨rfl, hcap, hcell⟩ := hRr.out m' (by omega)
      obtain ⟨fn, tmps, assign, body, hy, hR⟩ := hY pre m' wr wr hJ (by omega) (Below.refl _ _) trivial hpre.out
      dsimp only [encK] at hy
      rw [hI]
      have hlt1 : (m' : Int) < (vs.length : Int) := by omega
      have hge1 : (0 : Int) ≤ (m' : Int) := by omega
      have HPre := Lib.hid (rangeI_back m' vs.length pre hpre.out)
      obtain ⟨t, ht⟩ : ∃ t, vs.getD m' 0 = t := ⟨_, rfl⟩
      rw [ht] at hcell hy
      clear hY hI ht hBW HRW hpre
      gi_wp2
      refine hR.mono ?_
      clear hR hy
      rintro e W3 (⟨rfl, hJ3, hk3⟩ | ⟨rfl, hJx3⟩)
      · have hbl : ∀ (b o : Nat) (u : Value), b = Bn ∨ b = g → wr.cell? ⟨b, o, none⟩ = some u → W3.cell? ⟨b, o, none⟩ = some u := fun b o u hb hu => by
          have q1 := World.block_lt_of_cell? _ _ hu
          have q3 := hk3.block b (.inr hb) q1
          exact (World.cell?_of_block (a := ⟨b, o, none⟩) q3).trans hu
        have cB := hbl Bn 0 _ (.inl rfl) hBr
        have CR := Lib.hid (fun i (hi : i < vs.length) => (⟨rfl, (hRr.out i hi).2.1, hbl g i _ (.inr rfl) (hRr.out i hi).2.2⟩ : (some (⟨g, 0, none⟩ : Addr) = some ⟨g, 0, none⟩ ∧ vs.length ≤ cap ∧ W3.cell? ⟨g, i, none⟩ = some (.int .i64 (vs.getD i 0 : Nat)))))
        clear hbl hk3
        gi_wp2
        go_roundw
        case rel => exact ⟨m', pre ++ [m'], by go_num, ⟨by omega, by simp; omega⟩, HPre, hJ3, cB, CR⟩
        case measure => simp [intOf]
      · gi_wp2
        refine bodyPost_ret (results_none rfl _ _ _) rfl ⟨⟨_, rfl⟩, .inr ⟨_, trivial, hJx3⟩⟩
    · obtain rfl : m = 0 := by omega
      clear hY hBW HRW
      gi_wp2
      go_end0
      exact ⟨⟨_, rfl⟩, .inl ⟨pre, by have := hpre.out; simpa using this, hJ⟩⟩
end Go.Proofs.YthpphjkoiipkkaaDoor
/- A row of pairs is sorted by names: slices.SortStableFunc of fewer than twenty. -/
namespace Go.Proofs.YthpphjkoiipkkaaDoor
open Go.RowKit Go.Sort
attribute [local go_sem] Oper.semAt_some

def pairV (x : PR) : Value := .agg #[.string x.n, .int .i64 x.t.kind, .string x.t.name, .slice x.a x.t.kids.length x.c]

set_option maxRecDepth 100000 in
set_option maxHeartbeats 1000000 in
theorem cmpP_any (x y : PR) (w : World) :
    Calls Tryd.prog 70 #[pairV x, pairV y] w fun e w' => e = .returned (.int .i64 (cmpP x y)) ∧ w' = (w.alloc (.cells (encP x).toArray 93)).alloc (.cells (encP y).toArray 93) := by
  have HC := Lib.hid (fun W => cmpStr_any x.n y.n W)
  have hr : cmpL x.n.data.toList y.n.data.toList = cmpP x y := rfl
  rw [hr] at HC
  clear hr
  generalize cmpP x y = r at *
  simp only [pairV, encP]
  go_enter Tryd.func70, Tryd.ntmps70
  go_wp2_with (go_at_call 45; refine (HC.out _).mono ?_; rintro e w2 ⟨rfl, rfl⟩)
  go_ret
  exact ⟨rfl, rfl⟩

theorem cmpP_lays (blk off size : Nat) (w : World) : CmpLays Tryd.prog 70 #[] encP 4 cmpP blk off size w := by
  intro m os dk _ x y
  refine (cmpP_any x y _).mono ?_
  rintro e w' ⟨rfl, rfl⟩
  refine ⟨rfl, 0, #[.cells (encP x).toArray 93, .cells (encP y).toArray 93], ?_⟩
  rw [alloc_eq_grow, alloc_eq_grow, grow_grow]; rfl

def insRen : Go.Shelf.Ren := ⟨fun | 20 => 80 | n => n, fun | 0 => 0 | 3 => 3 | 4 => 4 | 22 => 31 | 24 => 93 | 25 => 130 | n => n, fun n => n⟩
theorem insLay : SlLaysF0.n20 Tryd.prog insRen :=
  { mixed := by kernel_rfl
    f20 := ⟨Tryd.f80.name, by decide, by kernel_rfl⟩
    t0 := by kernel_rfl
    a0 := fun _ => by kernel_rfl
    z0 := fun _ => by kernel_rfl
    v0 := fun _ => by kernel_rfl
    t3 := by kernel_rfl
    a3 := fun _ => by kernel_rfl
    z3 := fun _ => by kernel_rfl
    v3 := fun _ => by kernel_rfl
    t4 := by kernel_rfl
    a4 := fun _ => by kernel_rfl
    z4 := fun _ => by kernel_rfl
    v4 := fun _ => by kernel_rfl
    t22 := by kernel_rfl
    a22 := fun _ => by kernel_rfl
    z22 := fun _ => by kernel_rfl
    v22 := fun _ => by kernel_rfl
    t25 := by kernel_rfl
    a25 := fun _ => by kernel_rfl
    z25 := fun _ => by kernel_rfl
    v25 := fun _ => by kernel_rfl }
theorem insert_any (g cap : Nat) (l : List PR) (w : World) (h : RowP g l w) (hl : l.length < 4611686018427387904) :
    Calls Tryd.prog 80 #[.slice (some ⟨g, 0, none⟩) l.length cap, .int .i64 0, .int .i64 (l.length : Int), .func (.func 70) #[] #[]] w fun e w' =>
      e = .returned (.tuple #[]) ∧ ∃ m os, w' = sortWorldK encP 4 w g 0 m (insertionSort ltP l.toArray 0 l.toArray.size) os := by
  have : Calls Tryd.prog 80 _ _ _ := AnyQ.insertionSortCmpFunc insLay 4 Tryd.isAgg93 Tryd.sizeOf93 encP encP_len encP_one cmpP 70 #[] g 0 cap 0 l.length l.toArray w
    (enters_of Tryd.func70 (by kernel_rfl) rfl) (cmpP_lays g 0 _ w) h.holds h.lt (Nat.zero_le _) (by simp) (by simpa using hl)
  have e : (ltOf cmpP : PR → PR → Bool) = ltP := rfl
  rw [e, List.size_toArray] at this
  simpa using this

set_option maxRecDepth 100000 in
set_option maxHeartbeats 1000000 in
theorem stable_any (g cap : Nat) (l : List PR) (w : World) (h : RowP g l w) (hl : l.length < 20) :
    Calls Tryd.prog 76 #[.slice (some ⟨g, 0, none⟩) l.length cap, .int .i64 (l.length : Int), .func (.func 70) #[] #[]] w fun e w' =>
      e = .returned (.tuple #[]) ∧ ∃ m os, w' = sortWorldK encP 4 w g 0 m (insertionSort ltP l.toArray 0 l.toArray.size) os := by
  have HI := Lib.hid (insert_any g cap l w h (by omega))
  have hz : ¬ ((20 : Int) ≤ (l.length : Int)) := by omega
  have hz2 : ¬ ((20 : Int) < (l.length : Int)) := by omega
  clear h
  generalize insertionSort ltP l.toArray 0 l.toArray.size = r at *
  go_enter Tryd.func76, Tryd.ntmps76
  go_wp2
  refine wp_loop_rounds 1 ?_
  rw [rounds_succ]
  go_wp2_with (go_at_call 80; refine HI.out.mono ?_)
  rintro e w2 ⟨rfl, m, os, rfl⟩
  go_wp2
  refine wp_loop_rounds 1 ?_
  rw [rounds_succ]
  go_wp2
  go_end0
  exact ⟨rfl, m, os, rfl⟩

theorem sortStable_any (g cap : Nat) (l : List PR) (w : World) (h : RowP g l w) (hl : l.length < 20) :
    Calls Tryd.prog 69 #[.slice (some ⟨g, 0, none⟩) l.length cap, .func (.func 70) #[] #[]] w fun e w' =>
      e = .returned (.tuple #[]) ∧ ∃ m os, w' = sortWorldK encP 4 w g 0 m (insertionSort ltP l.toArray 0 l.toArray.size) os := by
  have HI := Lib.hid (stable_any g cap l w h hl)
  clear h
  generalize insertionSort ltP l.toArray 0 l.toArray.size = r at *
  go_enter Tryd.func69, Tryd.ntmps69
  go_wp2_with (go_at_call 76; refine HI.out.mono ?_)
  rintro e w2 ⟨rfl, m, os, rfl⟩
  go_wp2
  go_end0
  exact ⟨rfl, m, os, rfl⟩

theorem sortNone (a : Option Addr) (c : Nat) (w : World) :
    Calls Tryd.prog 69 #[.slice a 0 c, .func (.func 70) #[] #[]] w fun e w' => e = .returned (.tuple #[]) ∧ w = w' := by
  have hI : ∀ W, Calls Tryd.prog 80 #[.slice a 0 c, .int .i64 0, .int .i64 0, .func (.func 70) #[] #[]] W fun e w' => e = .returned (.tuple #[]) ∧ W = w' := by
    intro W
    go_enter Tryd.func80, Tryd.ntmps80
    go_wp2
    refine wp_loop_rounds 1 ?_
    rw [rounds_succ]
    go_wp2
    go_end0
    exact ⟨rfl, rfl⟩
  have hS : ∀ W, Calls Tryd.prog 76 #[.slice a 0 c, .int .i64 0, .func (.func 70) #[] #[]] W fun e w' => e = .returned (.tuple #[]) ∧ W = w' := by
    intro W
    go_enter Tryd.func76, Tryd.ntmps76
    go_wp2
    refine wp_loop_rounds 1 ?_
    rw [rounds_succ]
    go_wp2_with (go_at_call 80; refine (hI _).mono ?_)
    rintro e w2 ⟨rfl, rfl⟩
    go_wp2
    refine wp_loop_rounds 1 ?_
    rw [rounds_succ]
    go_wp2
    go_end0
    exact ⟨rfl, rfl⟩
  go_enter Tryd.func69, Tryd.ntmps69
  go_wp2_with (go_at_call 76; refine (hS _).mono ?_)
  rintro e w2 ⟨rfl, rfl⟩
  go_wp2
  go_end0
  exact ⟨rfl, rfl⟩
end Go.Proofs.YthpphjkoiipkkaaDoor
/- clear of a row's tail; whether two pairs have one name. -/
namespace Go.Proofs.YthpphjkoiipkkaaDoor
open Go.RowKit Go.Sort
attribute [local go_sem] Oper.semAt_some

set_option maxRecDepth 100000 in
set_option maxHeartbeats 1000000 in
theorem eqP_any (x y : PR) (w : World) :
    Calls Tryd.prog 72 #[pairV x, pairV y] w fun e w' => e = .returned (.bool (x.n.toList == y.n.toList)) ∧ Below w.heap.size w w' := by
  have HB := Lib.hid (show ∀ o1 o2 : Obj, Below w.heap.size w ((w.alloc o1).alloc o2) from fun o1 o2 => ((Below.refl _ w).alloc (Nat.le_refl _) _).alloc (by simp) _)
  simp only [pairV]
  go_enter Tryd.func72, Tryd.ntmps72
  go_wp2
  go_ret
  exact ⟨rfl, HB.out _ _⟩

theorem heap_setCells (g : Nat) : ∀ (vs : List Value) (o : Nat) (w : World) (k : Nat), k ≠ g → (w.setCells g o vs).heap[k]? = w.heap[k]?
  | [], _, _, _, _ => rfl
  | v :: r, o, w, k, hk => by
    rw [World.setCells, heap_setCells g r (o + 1) _ k hk]
    exact Below.heap_setCell _ ⟨g, o, none⟩ _ k hk
theorem below_setCells (g N : Nat) (hN : N ≤ g) : ∀ (vs : List Value) (o : Nat) (w : World), Below N w (w.setCells g o vs)
  | [], _, w => Below.refl N w
  | v :: r, o, w => by
    rw [World.setCells]
    exact ((Below.refl N w).setCell (p := ⟨g, o, none⟩) hN v).trans (below_setCells g N hN r (o + 1) _)
theorem block_setCells (g : Nat) {T : TypeId} {fz : Nat × Nat} : ∀ (vs : List Value) (o : Nat) (w : World) (cs : Array Value), w.heap[g]? = some (.cells cs T fz) →
    ∃ cs', (w.setCells g o vs).heap[g]? = some (.cells cs' T fz) ∧ cs'.size = cs.size ∧ ∀ j, j < o → cs'[j]? = cs[j]?
  | [], _, _, cs, h => ⟨cs, h, rfl, fun _ _ => rfl⟩
  | v :: r, o, w, cs, h => by
    obtain ⟨cs', h1, h2, h3⟩ := block_setCells g r (o + 1) (w.setCell ⟨g, o, none⟩ v) _ (blk_set h v)
    refine ⟨cs', h1, by simpa using h2, fun j hj => ?_⟩
    rw [h3 j (by omega), Array.getElem?_setIfInBounds_ne (by omega)]
theorem Fr.setCells (g : Nat) (vs : List Value) (o : Nat) (w : World) : Fr g w (w.setCells g o vs) := ⟨below_setCells g 0 (Nat.zero_le _) vs o w, fun k _ hg => heap_setCells g vs o w k hg⟩
theorem RowP.setCells {g : Nat} {l : List PR} {w : World} (h : RowP g l w) (k : Nat) (hk : k ≤ l.length) (vs : List Value) : RowP g (l.take k) (w.setCells g (k * 4) vs) := by
  obtain ⟨cs, h1, h2, h3⟩ := h.take k
  obtain ⟨cs', e1, e2, e3⟩ := block_setCells g vs (k * 4) w cs h1
  refine ⟨cs', e1, by omega, fun i hi => ?_⟩
  have hik : i < k := by simp at hi; omega
  rw [e3 _ (by omega), e3 _ (by omega), e3 _ (by omega), e3 _ (by omega)]
  exact h3 i hi

def zeroP : Array Value := #[.string ⟨#[]⟩, .int .i64 0, .string ⟨#[]⟩, .slice none 0 0]
theorem zeroP_one : ∀ v ∈ zeroP, v.oneCell' = true := by
  intro v hv
  simp [zeroP] at hv
  rcases hv with rfl | rfl | rfl | rfl <;> rfl
theorem zeroCells_one (n : Nat) : ∀ v ∈ (Builtin.zeroCells zeroP n).toList, v.oneCell' = true := by
  intro v hv
  simp only [Builtin.zeroCells, Array.toList_map, List.mem_map] at hv
  obtain ⟨i, _, rfl⟩ := hv
  have h4 : i % zeroP.size < zeroP.size := Nat.mod_lt _ (by decide)
  rw [getElem!_pos zeroP _ h4]
  exact zeroP_one _ (Array.getElem_mem _)
theorem run_clear (w : World) (g k : Nat) (l : List PR) (h : RowP g l w) (hk : k < l.length) (c : Nat) (ty : TypeId) :
    (Builtin.clear_ #[31] ty #[.slice (some ⟨g, k * 4, none⟩) (l.length - k) c]).run Tryd.prog w = .ok (.tuple #[]) (w.setCells g (k * 4) (Builtin.zeroCells zeroP (l.length - k)).toList) := by
  have hz : ∀ w, (zeroValue 93).run Tryd.prog w = .ok (.agg zeroP) w := fun _ => by kernel_rfl
  have hlen : (Builtin.zeroCells zeroP (l.length - k)).toList.length = (l.length - k) * 4 := by simp [Builtin.zeroCells, zeroP]
  obtain ⟨cs, h1, h2, _⟩ := h
  have hst := run_storeCells_cells (P := Tryd.prog) g (k * 4) (Builtin.zeroCells zeroP (l.length - k)).toList 0 w (fun j hj => by rw [hlen] at hj; rw [Lib.cell_of_heap h1, Array.getElem?_eq_getElem (by omega)]; rfl) (fun j _ => Lib.frozen_of_heap h1 _) (zeroCells_one _)
  simp only [Nat.add_zero] at hst
  obtain ⟨m, hm⟩ : ∃ m, l.length - k = m + 1 := ⟨l.length - k - 1, by omega⟩
  rw [hm] at hst ⊢
  simp [Builtin.clear_, run_underlying (Tryd.underlying31), hz, Value.cells, hst]
end Go.Proofs.YthpphjkoiipkkaaDoor
/- slices.CompactFunc of a row of pairs. -/
namespace Go.Proofs.YthpphjkoiipkkaaDoor
open Go.RowKit Go.Sort Go.Lib
attribute [local go_sem] Oper.semAt_some

theorem name_beq (x y : PR) : (x.n.toList == y.n.toList) = true ↔ x.n = y.n := by
  rw [bytes_beq]; exact eqB_iff
theorem getD_bang (d : Array PR) (i : Nat) (h : i < d.size) : d.toList.getD i noP = d[i]! := by rw [bang d i h]; simp [List.getD, h]
theorem getD_list (l : List PR) (i : Nat) (h : i < l.length) : l.getD i noP = l.toArray[i]! := by have := getD_bang l.toArray i (by simpa using h); simpa using this

set_option maxRecDepth 100000 in
set_option maxHeartbeats 4000000 in
theorem compact_any (g cap : Nat) (d : List PR) (w : World) (h : RowP g d w) (hc : d.length ≤ cap) (hl : d.length < 1152921504606846976) (h0 : d ≠ []) :
    Calls Tryd.prog 71 #[.slice (some ⟨g, 0, none⟩) d.length cap, .func (.func 72) #[] #[]] w fun e w' =>
      e = .returned (.slice (some ⟨g, 0, none⟩) (keptUpTo (kpC d.toArray) d.toArray d.length).length cap) ∧ RowP g (keptUpTo (kpC d.toArray) d.toArray d.length) w' ∧ Fr g w w' := by
  have HH := Lib.hid h
  have hpos : 0 < d.length := List.length_pos_iff.2 h0
  obtain ⟨A, hA⟩ : ∃ A, d.toArray = A := ⟨_, rfl⟩
  have hAs : A.size = d.length := by rw [← hA]; simp
  have hAl : A.toList = d := by rw [← hA]
  rw [hA]
  have HA := Lib.hid hAl
  clear h hA hAl h0
  by_cases h2 : d.length < 2
  · have h1 : d.length = 1 := by omega
    have hk : keptUpTo (kpC A) A 1 = d := by
      have : keptUpTo (kpC A) A 1 = [A[0]!] := by rw [keptUpTo_succ, kpC_true (.inl rfl)]; rfl
      rw [this, ← getD_bang A 0 (by omega), HA.out]
      match d, h1 with
      | [x], _ => rfl
    rw [h1, hk]
    clear hk
    rw [h1] at *
    go_enter Tryd.func71, Tryd.ntmps71
    go_wp2
    go_ret
    exact ⟨rfl, HH.out, Fr.refl _ _⟩
  · have h2i : ¬ ((d.length : Int) < 2) := by omega
    obtain ⟨res, hres⟩ : ∃ r, keptUpTo (kpC A) A d.length = r := ⟨_, rfl⟩
    have HR := Lib.hid hres
    rw [hres]
    clear hres
    go_enter Tryd.func71, Tryd.ntmps71
    go_wp2
    go_loopw [5] (fun vk wr => ∃ k : Nat, (1 ≤ k ∧ k ≤ d.length) ∧ vk = .int .i64 k ∧ Hid (Below w.heap.size w wr) ∧ Hid (∀ j, j < k → kpC A j = true)) (fun vk _ => d.length - (intOf vk).toNat)
    case atStart => exact ⟨1, ⟨Nat.le_refl _, by omega⟩, rfl, Lib.hid (Below.refl _ _), Lib.hid fun j hj => kpC_true (.inl (by omega))⟩
    case round =>
      obtain ⟨k, ⟨hk1, hk⟩, rfl, hB, hall⟩ := hrel
      by_cases hlt : k < d.length
      · obtain ⟨q, rfl⟩ : ∃ q, k = q + 1 := ⟨k - 1, by omega⟩
        have HRr := Lib.hid (HH.out.below hB.out)
        obtain ⟨x0, x1, x2, x3⟩ := HRr.out.cells hlt
        obtain ⟨y0, y1, y2, y3⟩ := HRr.out.cells (i := q) (by omega)
        have e1 : d.getD (q + 1) noP = A[q + 1]! := by rw [← HA.out]; exact getD_bang A _ (by omega)
        have e2 : d.getD q noP = A[q]! := by rw [← HA.out]; exact getD_bang A _ (by omega)
        have HE := Lib.hid (name_beq (d.getD (q + 1) noP) (d.getD q noP))
        have HK := Lib.hid (show (d.getD (q + 1) noP).n = (d.getD q noP).n ↔ A[q]!.n = A[q + 1]!.n by rw [e1, e2]; exact eq_comm)
        have HC := Lib.hid (fun W => eqP_any (d.getD (q + 1) noP) (d.getD q noP) W)
        clear e1 e2
        generalize d.getD (q + 1) noP = x at *
        generalize d.getD q noP = y at *
        simp only [pairV] at HC
        obtain ⟨bb, hbb⟩ : ∃ b, (x.n.toList == y.n.toList) = b := ⟨_, rfl⟩
        rw [hbb] at HC HE
        clear hbb
        have hwp : IntKind.i64.wrap (q : Int) = (q : Int) := by rw [IntKind.wrap_i64]; omega
        have hwp2 : IntKind.i64.wrap (((q + 1 : Nat) : Int) - 1) = (q : Int) := by rw [IntKind.wrap_i64]; omega
        have jz : (q : Int) + 1 < (d.length : Int) := by omega
        have jz1 : (q : Int) < (d.length : Int) := by omega
        have p0 : (0 : Int) ≤ (q : Int) + 1 := by omega
        have e0 : ((q : Int) + 1).toNat = q + 1 := by omega
        go_wp2
        go_cut [28] from 18 to 28 (fun v W => v = .bool bb ∧ Hid (Below wr.heap.size wr W))
        case first =>
          cases bb <;> (
            go_region_with (first
              | (go_at_call 72; refine (HC.out _).mono ?_; rintro e w2 ⟨rfl, hb2⟩; have HB2 := Lib.hid hb2; clear hb2)))
          all_goals
            go_wp2_with fail
            go_meet
            exact ⟨rfl, Lib.hid ((Below.refl _ _).drew.trans HB2.out)⟩
        case rest =>
        obtain ⟨rfl, HB2⟩ := hcut
        clear x0 x1 x2 x3 y0 y1 y2 y3 HC
        cases bb with
        | true =>
            have HD := Lib.hid (HK.out.1 (HE.out.1 rfl))
            have HFr := Lib.hid ((Fr.of_below (g := g) hB.out).trans (Fr.of_below HB2.out))
            have HRw := Lib.hid (HRr.out.below HB2.out)
            clear HE HK hB HB2 HRr
            have hjc : (q : Int) + 1 ≤ (cap : Int) := by omega
            go_wp2
            generalize hm2 : d.length - (q + 1) = m2
            generalize cap - (q + 1) = c2
            go_loopw [5, 7] (fun vk vk2 wr => ∃ (k k2 : Nat) (dk : Array PR), (1 ≤ k2 ∧ q + 1 + k2 ≤ d.length) ∧ vk = .int .i64 k ∧ vk2 = .int .i64 k2 ∧ Hid (KeptInv (kpC A) A (q + 1 + k2) k dk) ∧ Hid (RowP g dk.toList wr) ∧ Hid (Fr g w wr)) (fun _ vk2 _ => d.length - (intOf vk2).toNat)
            case atStart =>
              refine ⟨q + 1, 1, A, ⟨Nat.le_refl _, by omega⟩, by go_num, by go_num, Lib.hid (KeptInv.start hall.out (kpC_false ?_)), Lib.hid (by rw [HA.out]; exact HRw.out), HFr⟩
              rintro (h | h)
              · omega
              · exact h (by simpa using HD.out)
            case round =>
              obtain ⟨k, k2, dk, ⟨hk21, hk2⟩, rfl, rfl, hI, hRow, hF⟩ := hrel
              have hsz : dk.size = d.length := hI.out.size.trans hAs
              have hkm := hI.out.lt
              by_cases hlt2 : k2 < m2
              · obtain ⟨r, rfl⟩ : ∃ r, k2 = r + 1 := ⟨k2 - 1, by omega⟩
                have hlt3 : q + 1 + (r + 1) < d.length := by omega
                obtain ⟨x0, x1, x2, x3⟩ := hRow.out.cells (i := q + 1 + (r + 1)) (by simp; omega)
                obtain ⟨y0, y1, y2, y3⟩ := hRow.out.cells (i := q + 1 + r) (by simp; omega)
                have e1 : dk.toList.getD (q + 1 + (r + 1)) noP = A[q + 1 + (r + 1)]! := by rw [getD_bang dk _ (by omega)]; exact hI.out.high _ (by omega)
                have e2 : dk.toList.getD (q + 1 + r) noP = A[q + 1 + r]! := by rw [getD_bang dk _ (by omega)]; exact hI.out.high _ (by omega)
                rw [e1] at x0 x1 x2 x3
                rw [e2] at y0 y1 y2 y3
                have ea : (q + 1 + (r + 1)) * 4 = (q + 1) * 4 + (r + 1) * 4 := by omega
                have eb : (q + 1 + r) * 4 = (q + 1) * 4 + r * 4 := by omega
                rw [ea] at x0 x1 x2 x3
                rw [eb] at y0 y1 y2 y3
                have HE := Lib.hid (name_beq A[q + 1 + (r + 1)]! A[q + 1 + r]!)
                have HC := Lib.hid (fun W => eqP_any A[q + 1 + (r + 1)]! A[q + 1 + r]! W)
                have HKt := Lib.hid (fun (h : A[q + 1 + (r + 1)]!.n ≠ A[q + 1 + r]!.n) => hI.out.keep (by omega) (kpC_true (d := A) (j := q + 1 + (r + 1)) (.inr fun e => h (by simpa using e.symm))))
                have HKf := Lib.hid (fun (h : A[q + 1 + (r + 1)]!.n = A[q + 1 + r]!.n) => hI.out.skip (kpC_false (d := A) (j := q + 1 + (r + 1)) (by rintro (h' | h'); omega; exact h' (by simpa using h.symm))))
                have HX := Lib.hid (fun (W : World) (h : Below wr.heap.size wr W) => (hRow.out.below h).cells (i := q + 1 + (r + 1)) (by simp; omega))
                rw [e1, ea] at HX
                clear e1 e2 ea eb
                generalize A[q + 1 + (r + 1)]! = x' at *
                generalize A[q + 1 + r]! = y' at *
                simp only [pairV] at HC
                obtain ⟨bb, hbb⟩ : ∃ b, (x'.n.toList == y'.n.toList) = b := ⟨_, rfl⟩
                rw [hbb] at HC HE
                clear hbb
                have hwp3 : IntKind.i64.wrap (r : Int) = (r : Int) := by rw [IntKind.wrap_i64]; omega
                have hwp4 : IntKind.i64.wrap (((r + 1 : Nat) : Int) - 1) = (r : Int) := by rw [IntKind.wrap_i64]; omega
                have jz3 : (r : Int) + 1 < (m2 : Int) := by omega
                have jz4 : (r : Int) < (m2 : Int) := by omega
                have p3 : (0 : Int) ≤ (r : Int) + 1 := by omega
                have e3 : ((r : Int) + 1).toNat = r + 1 := by omega
                have kz : (k : Int) < (d.length : Int) := by omega
                go_wp2
                go_cut [49] from 38 to 49 (fun v W => v = .bool (!bb) ∧ Hid (Below wr.heap.size wr W))
                case first =>
                  cases bb <;> (
                    go_region_with (first
                      | (go_at_call 72; refine (HC.out _).mono ?_; rintro e w2 ⟨rfl, hb2⟩; have HB2 := Lib.hid hb2; clear hb2)))
                  all_goals
                    go_wp2_with fail
                    go_meet
                    exact ⟨rfl, Lib.hid ((Below.refl _ _).drew.trans HB2.out)⟩
                case rest =>
                obtain ⟨rfl, HB2⟩ := hcut
                clear x0 x1 x2 x3 y0 y1 y2 y3 HC
                have HRw2 := Lib.hid (hRow.out.below HB2.out)
                have HFr2 := Lib.hid (hF.out.trans (Fr.of_below HB2.out))
                cases bb with
                | true =>
                  have HQ := Lib.hid (HE.out.1 rfl)
                  go_wp2
                  go_roundw
                  case rel => exact ⟨k, r + 1 + 1, dk, ⟨by omega, by omega⟩, rfl, by go_num, Lib.hid (HKf.out HQ.out), HRw2, HFr2⟩
                  case measure => simp [intOf]; omega
                | false =>
                  have HQ : Hid (x'.n ≠ y'.n) := Lib.hid (fun h => Bool.noConfusion (HE.out.2 h))
                  obtain ⟨x0, x1, x2, x3⟩ := HX.out _ HB2.out
                  obtain ⟨o0, o1, o2, o3⟩ := HRw2.out.cells (i := k) (by simp; omega)
                  have z0 := HRw2.out.free (k * 4)
                  have z1 := HRw2.out.free (k * 4 + 1)
                  have z2 := HRw2.out.free (k * 4 + 2)
                  have z3 := HRw2.out.free (k * 4 + 3)
                  clear HB2
                  go_wp2
                  go_roundw
                  case rel => exact ⟨k + 1, r + 1 + 1, dk.setIfInBounds k x', ⟨by omega, by omega⟩, by go_num, by go_num, Lib.hid (HKt.out HQ.out), Lib.hid ((HRw2.out.set k x').of_eq (by simp)), Lib.hid (HFr2.out.trans (Fr.set4 g k _ x'))⟩
                  case measure => simp [intOf]; omega
              · have hm : q + 1 + k2 = d.length := by omega
                obtain rfl : k2 = m2 := by omega
                have hcl : ∀ ty c, (Builtin.clear_ #[31] ty #[.slice (some ⟨g, k * 4, none⟩) (d.length - k) c]).run Tryd.prog wr = .ok (.tuple #[]) (wr.setCells g (k * 4) (Builtin.zeroCells zeroP (d.length - k)).toList) := fun ty c => by
                  have := run_clear wr g k dk.toList hRow.out (by simp; omega) c ty
                  rwa [show dk.toList.length = d.length by simpa using hsz] at this
                have hlow := hI.out.low
                have hlen := hI.out.len
                rw [hm, HR.out] at hlow hlen
                have HT : Hid (dk.toList.take k = res) := Lib.hid (by
                  apply List.ext_getElem?
                  intro j
                  by_cases hj : j < k
                  · rw [hlow j hj, List.getElem?_take_of_lt hj, ← getD_bang dk j (by omega)]
                    simp [List.getD, show j < dk.size by omega]
                  · rw [List.getElem?_eq_none (by simp; omega), List.getElem?_eq_none (by omega)])
                have HL := Lib.hid hlen
                have kz : (k : Int) ≤ (d.length : Int) := by omega
                have kz2 : (k : Int) ≤ (cap : Int) := by omega
                clear hlow hlen HR
                go_wp2
                go_ret
                exact ⟨by rw [HL.out]; rfl, (hRow.out.setCells k (by simp; omega) _).of_eq HT.out, hF.out.trans (Fr.setCells g _ _ _)⟩
        | false =>
          have HQ : Hid (¬ (A[q]!.n = A[q + 1]!.n)) := Lib.hid (fun h => Bool.noConfusion (HE.out.2 (HK.out.2 h)))
          go_wp2
          go_roundw
          case rel =>
            refine ⟨q + 1 + 1, ⟨by omega, by omega⟩, by go_num, Lib.hid (hB.out.trans (HB2.out.mono hB.out.size)), Lib.hid fun j hj => ?_⟩
            by_cases e : j = q + 1
            · subst e; exact kpC_true (.inr (by simpa using HQ.out))
            · exact hall.out j (by omega)
          case measure => simp [intOf]; omega
      · obtain rfl : k = d.length := by omega
        have hres : res = d := by
          rw [← HR.out, keptUpTo_all _ _ _ hall.out, ← hAs, range_map_get, HA.out]
        subst hres
        clear HR
        go_wp2
        go_ret
        exact ⟨rfl, HH.out.below hB.out, Fr.of_below hB.out⟩
end Go.Proofs.YthpphjkoiipkkaaDoor
/- slices.DeleteFunc of a row of pairs: those that are their own type go. -/
namespace Go.Proofs.YthpphjkoiipkkaaDoor
open Go.RowKit Go.Sort Go.Lib
attribute [local go_sem] Oper.semAt_some

set_option maxRecDepth 100000 in
set_option maxHeartbeats 1000000 in
theorem tvar_any (n : ByteArray) (w : World) :
    Calls Tryd.prog 79 #[.string n] w fun e w' => (∃ u, e = .returned (tyV (.var n) u) ∧ TysAt w' u []) ∧ Below w.heap.size w w' := by
  go_enter Tryd.func79, Tryd.ntmps79
  go_wp2
  refine bodyPost_ret (v := tyV (.var n) (.slice none 0 0)) (by simp [results, Tryd.results79, go_sem, tyV, T.kind, T.name]) rfl ⟨⟨_, rfl, TysAt.nil _ _ _⟩, (Below.refl _ w).alloc (Nat.le_refl _) _⟩
theorem four_cells {w : World} {p : Nat} {x y z u : Value} {T : TypeId} {fz : Nat × Nat} (h : w.heap[p]? = some (.cells #[x, y, z, u] T fz)) : w.cell? ⟨p, 0, none⟩ = some x ∧ w.cell? ⟨p, 1, none⟩ = some y ∧ w.cell? ⟨p, 2, none⟩ = some z ∧ w.cell? ⟨p, 3, none⟩ = some u := by
  refine ⟨?_, ?_, ?_, ?_⟩ <;> (rw [Lib.cell_of_heap h]; rfl)

theorem ownP_eq (x : PR) : (cmpT x.t (.var x.n) == 0) = ownP x := by
  rw [Bool.eq_iff_iff, ownP_iff, beq_iff_eq]; exact cmp_zero _ _

set_option maxRecDepth 100000 in
set_option maxHeartbeats 2000000 in
theorem isOwn_any (x : PR) (w : World) (hf : Fits x.t) (h : TysAt w (.slice x.a x.t.kids.length x.c) x.t.kids) :
    Calls Tryd.prog 74 #[pairV x] w fun e w' => e = .returned (.bool (ownP x)) ∧ Below w.heap.size w w' := by
  have HS := Lib.hid (fun (u : Value) (W : World) (k : KeepT w W) (hu : TysAt W u []) => same_any (t' := .var x.n) (v' := u) (w := W) hf (h.keep k) hu)
  simp only [ownP_eq] at HS
  generalize ownP x = r at *
  have HV := Lib.hid (fun W => tvar_any x.n W)
  have HB := Lib.hid (show ∀ o1 : Obj, Below w.heap.size w (w.alloc o1) from fun o1 => (Below.refl _ w).alloc (Nat.le_refl _) _)
  clear h hf
  simp only [pairV, tyV] at HS ⊢
  go_enter Tryd.func74, Tryd.ntmps74
  go_wp2
  go_region_with (first
    | (go_at_call 79; refine (HV.out _).mono ?_; rintro e w2 ⟨⟨u, rfl, hu⟩, hb2⟩; obtain ⟨b0, b1, b2, b3⟩ := four_cells ((hb2.block w.heap.size (by simp)).trans (alloc_new w _)); have HU := Lib.hid hu; have HB2 := Lib.hid ((HB.out _).drew.trans (hb2.mono (by simp))); clear hu hb2; simp only [tyV])
    | (go_at_call 78; refine (HS.out _ _ ?kk HU.out).mono ?_; (case kk => exact KeepT.of_below HB2.out); rintro e w3 ⟨rfl, hb3⟩; have HB3 := Lib.hid (HB2.out.trans (hb3.mono HB2.out.size)); clear hb3))
  all_goals go_wp2
  all_goals go_ret
  all_goals exact ⟨rfl, HB3.out⟩

/-- Each type's lists are no longer than any memory. -/
def FitsAll (d : List PR) : Prop := ∀ x ∈ d, Fits x.t
theorem getD_mem {d : List PR} {i : Nat} (h : i < d.length) : d.getD i noP ∈ d := by
  have : d.getD i noP = d[i] := by simp [List.getD, h]
  rw [this]; exact List.getElem_mem h

set_option maxRecDepth 100000 in
set_option maxHeartbeats 2000000 in
theorem index_any (g cap : Nat) (d : List PR) (w : World) (h : RowP g d w) (ht : Typ d w) (hf : FitsAll d) (hl : d.length < 1152921504606846976) :
    Calls Tryd.prog 77 #[.slice (some ⟨g, 0, none⟩) d.length cap, .func (.func 74) #[] #[]] w fun e w' =>
      (∃ r : Int, e = .returned (.int .i64 r) ∧ ((r = -1 ∧ ∀ j, j < d.length → ownP (d.getD j noP) = false) ∨ ∃ k : Nat, r = k ∧ k < d.length ∧ ownP (d.getD k noP) = true ∧ ∀ j, j < k → ownP (d.getD j noP) = false)) ∧ Below w.heap.size w w' := by
  have HH := Lib.hid h; have HT := Lib.hid ht; have HF := Lib.hid hf
  clear h ht hf
  go_enter Tryd.func77, Tryd.ntmps77
  go_wp2
  go_loopw [8] (fun vk wr => ∃ k : Nat, k ≤ d.length ∧ vk = .int .i64 k ∧ Hid (Below w.heap.size w wr) ∧ Hid (∀ j, j < k → ownP (d.getD j noP) = false)) (fun vk _ => d.length - (intOf vk).toNat)
  case atStart => exact ⟨0, Nat.zero_le _, rfl, Lib.hid (Below.refl _ _), Lib.hid fun j hj => absurd hj (Nat.not_lt_zero _)⟩
  case round =>
    obtain ⟨k, hk, rfl, hB, hall⟩ := hrel
    by_cases hlt : k < d.length
    · obtain ⟨x0, x1, x2, x3⟩ := (HH.out.below hB.out).cells hlt
      have HC := Lib.hid (isOwn_any (d.getD k noP) wr (HF.out _ (getD_mem hlt)) ((HT.out _ (getD_mem hlt)).keep (KeepT.of_below hB.out)))
      obtain ⟨bb, hbb⟩ : ∃ b, ownP (d.getD k noP) = b := ⟨_, rfl⟩
      have HO := Lib.hid hbb
      rw [hbb] at HC
      clear hbb
      generalize d.getD k noP = x at x0 x1 x2 x3 HC
      simp only [pairV] at HC
      cases bb with
      | true =>
        go_wp2_with (go_at_call 74; refine HC.out.mono ?_)
        rintro e w2 ⟨rfl, hb2⟩
        have HB2 := Lib.hid (hB.out.trans (hb2.mono hB.out.size))
        clear hb2
        go_wp2
        go_ret
        exact ⟨⟨_, rfl, .inr ⟨k, rfl, hlt, HO.out, hall.out⟩⟩, HB2.out⟩
      | false =>
        go_wp2_with (go_at_call 74; refine HC.out.mono ?_)
        rintro e w2 ⟨rfl, hb2⟩
        have HB2 := Lib.hid (hB.out.trans (hb2.mono hB.out.size))
        clear hb2
        go_wp2
        refine ⟨⟨k + 1, by omega, by go_num, HB2, Lib.hid fun j hj => ?_⟩, by simp [intOf]; omega⟩
        by_cases e : j = k
        · subst e; exact HO.out
        · exact hall.out j (by omega)
    · obtain rfl : k = d.length := by omega
      go_wp2
      go_ret
      exact ⟨⟨_, rfl, .inl ⟨rfl, hall.out⟩⟩, hB.out⟩

set_option maxRecDepth 100000 in
set_option maxHeartbeats 4000000 in
theorem delete_any (g cap : Nat) (d : List PR) (w : World) (h : RowP g d w) (ht : Typ d w) (hf : FitsAll d) (hc : d.length ≤ cap) (hl : d.length < 1152921504606846976) :
    Calls Tryd.prog 73 #[.slice (some ⟨g, 0, none⟩) d.length cap, .func (.func 74) #[] #[]] w fun e w' =>
      e = .returned (.slice (some ⟨g, 0, none⟩) (d.filter fun x => !ownP x).length cap) ∧ RowP g (d.filter fun x => !ownP x) w' ∧ Fr g w w' := by
  have HH := Lib.hid h; have HT := Lib.hid ht; have HF := Lib.hid hf
  have HI := Lib.hid (index_any g cap d w h ht hf hl)
  obtain ⟨A, hA⟩ : ∃ A, d.toArray = A := ⟨_, rfl⟩
  have hAs : A.size = d.length := by rw [← hA]; simp
  have hAl : A.toList = d := by rw [← hA]
  have HA := Lib.hid hAl
  obtain ⟨kp, HK⟩ : ∃ kp : Nat → Bool, Hid (kp = fun j => !ownP A[j]!) := ⟨_, rfl⟩
  have hfil : (d.filter fun x => !ownP x) = keptUpTo kp A d.length := by rw [HK.out, ← hAs, ← hAl]; exact (keptUpTo_filter (fun x => !ownP x) A).symm
  rw [hfil]
  obtain ⟨res, hres⟩ : ∃ r, keptUpTo kp A d.length = r := ⟨_, rfl⟩
  have HR := Lib.hid hres
  rw [hres]
  have hg : ∀ j, j < d.length → d.getD j noP = A[j]! := fun j hj => by rw [← hAl]; exact getD_bang A j (by omega)
  have HG := Lib.hid hg
  clear h ht hf hA hAl hfil hres hg
  go_enter Tryd.func73, Tryd.ntmps73
  go_wp2_with (go_at_call 77; refine HI.out.mono ?_)
  rintro e w1 ⟨⟨r, rfl, ⟨rfl, hall⟩ | ⟨k0, rfl, hk0, hown, hall⟩⟩, hb1⟩
  · have hres : res = d := by
      rw [← HR.out, keptUpTo_all _ _ _ (fun j hj => by rw [HK.out]; show (!ownP A[j]!) = true; rw [← HG.out j hj, hall j hj]; rfl), ← hAs, range_map_get, HA.out]
    subst hres
    have HB := Lib.hid hb1
    clear HR hall hb1
    go_wp2
    go_ret
    exact ⟨rfl, HH.out.below HB.out, Fr.of_below HB.out⟩
  · have hkeep : ∀ j, j < k0 → kp j = true := fun j hj => by rw [HK.out]; show (!ownP A[j]!) = true; rw [← HG.out j (by omega), hall j hj]; rfl
    have hdrop : kp k0 = false := by rw [HK.out]; show (!ownP A[k0]!) = false; rw [← HG.out k0 hk0, hown]; rfl
    have HS : Hid (KeptInv kp A (k0 + 1) k0 A) := Lib.hid (KeptInv.start hkeep hdrop)
    have HB := Lib.hid hb1
    have hne1 : ((k0 : Int) == -1) = false := beq_eq_false_iff_ne.2 (by omega)
    clear hkeep hdrop hall hown hb1
    go_wp2
    go_loopw [5, 6] (fun vk vk2 wr => ∃ (k m : Nat) (dk : Array PR), m ≤ d.length ∧ vk = .int .i64 k ∧ vk2 = .int .i64 m ∧ Hid (KeptInv kp A m k dk) ∧ Hid (RowP g dk.toList wr) ∧ Hid (Fr g w wr)) (fun _ vk2 _ => d.length - (intOf vk2).toNat)
    case atStart => exact ⟨k0, k0 + 1, A, by omega, by go_num, by go_num, HS, Lib.hid (by rw [HA.out]; exact HH.out.below HB.out), Lib.hid (Fr.of_below HB.out)⟩
    case round =>
      obtain ⟨k, m, dk, hm, rfl, rfl, hI, hRow, hF⟩ := hrel
      have hsz : dk.size = d.length := hI.out.size.trans hAs
      have hkm := hI.out.lt
      by_cases hlt : m < d.length
      · obtain ⟨x0, x1, x2, x3⟩ := hRow.out.cells (i := m) (by simp; omega)
        have e1 : dk.toList.getD m noP = d.getD m noP := by rw [getD_bang dk _ (by omega), HG.out m hlt]; exact hI.out.high _ (by omega)
        rw [e1] at x0 x1 x2 x3
        have hmem := getD_mem hlt
        have HC := Lib.hid (fun o => isOwn_any (d.getD m noP) (wr.alloc o) (HF.out _ hmem) ((HT.out _ hmem).keep ((hF.out.keepT HH.out).trans (keepT_alloc wr o))))
        have HKt := Lib.hid (fun (h : ownP (d.getD m noP) = false) => hI.out.keep (by omega) (by rw [HK.out]; show (!ownP A[m]!) = true; rw [← HG.out m hlt, h]; rfl))
        have HKf := Lib.hid (fun (h : ownP (d.getD m noP) = true) => hI.out.skip (by rw [HK.out]; show (!ownP A[m]!) = false; rw [← HG.out m hlt, h]; rfl))
        rw [← HG.out m hlt] at HKt
        clear e1 hmem
        obtain ⟨bb, hbb⟩ : ∃ b, ownP (d.getD m noP) = b := ⟨_, rfl⟩
        have HO := Lib.hid hbb
        rw [hbb] at HC
        clear hbb
        generalize d.getD m noP = x at *
        simp only [pairV] at HC
        have kz : (k : Int) < (d.length : Int) := by omega
        go_wp2_with (go_at_call 74; refine (HC.out _).mono ?_)
        rintro e w2 ⟨rfl, hb2⟩
        have bx := (hb2.block wr.heap.size (by simp)).trans (alloc_new wr _)
        obtain ⟨y0, y1, y2, y3⟩ := four_cells bx
        have HB2 := Lib.hid (((Below.refl _ wr).alloc (Nat.le_refl _) (.cells #[.string x.n, .int .i64 x.t.kind, .string x.t.name, .slice x.a x.t.kids.length x.c] 93)).trans (hb2.mono (by simp)))
        have HRw2 := Lib.hid (hRow.out.below HB2.out)
        have HFr2 := Lib.hid (hF.out.trans (Fr.of_below HB2.out))
        clear x0 x1 x2 x3 HC hb2 bx
        cases bb with
        | true =>
          clear y0 y1 y2 y3
          go_wp2
          go_roundw
          case rel => exact ⟨k, m + 1, dk, by omega, rfl, by go_num, Lib.hid (HKf.out HO.out), HRw2, HFr2⟩
          case measure => simp [intOf]; omega
        | false =>
          obtain ⟨o0, o1, o2, o3⟩ := HRw2.out.cells (i := k) (by simp; omega)
          have z0 := HRw2.out.free (k * 4)
          have z1 := HRw2.out.free (k * 4 + 1)
          have z2 := HRw2.out.free (k * 4 + 2)
          have z3 := HRw2.out.free (k * 4 + 3)
          clear HB2
          go_wp2
          go_roundw
          case rel => exact ⟨k + 1, m + 1, dk.setIfInBounds k x, by omega, by go_num, by go_num, Lib.hid (HKt.out HO.out), Lib.hid ((HRw2.out.set k x).of_eq (by simp)), Lib.hid (HFr2.out.trans (Fr.set4 g k _ x))⟩
          case measure => simp [intOf]; omega
      · obtain rfl : m = d.length := by omega
        have hcl : ∀ ty c, (Builtin.clear_ #[31] ty #[.slice (some ⟨g, k * 4, none⟩) (d.length - k) c]).run Tryd.prog wr = .ok (.tuple #[]) (wr.setCells g (k * 4) (Builtin.zeroCells zeroP (d.length - k)).toList) := fun ty c => by
          have := run_clear wr g k dk.toList hRow.out (by simp; omega) c ty
          rwa [show dk.toList.length = d.length by simpa using hsz] at this
        have hlow := hI.out.low
        have hlen := hI.out.len
        rw [HR.out] at hlow hlen
        have HTk : Hid (dk.toList.take k = res) := Lib.hid (by
          apply List.ext_getElem?
          intro j
          by_cases hj : j < k
          · rw [hlow j hj, List.getElem?_take_of_lt hj, ← getD_bang dk j (by omega)]
            simp [List.getD, show j < dk.size by omega]
          · rw [List.getElem?_eq_none (by simp; omega), List.getElem?_eq_none (by omega)])
        have HL := Lib.hid hlen
        have kz : (k : Int) ≤ (d.length : Int) := by omega
        have kz2 : (k : Int) ≤ (cap : Int) := by omega
        clear hlow hlen HR
        go_wp2
        go_ret
        exact ⟨by rw [HL.out]; rfl, (hRow.out.setCells k (by simp; omega) _).of_eq HTk.out, hF.out.trans (Fr.setCells g _ _ _)⟩
end Go.Proofs.YthpphjkoiipkkaaDoor
/- subst.gather: a row of pairs is put in order, the first of each name, none that is its own type. -/
namespace Go.Proofs.YthpphjkoiipkkaaDoor
open Go.RowKit Go.Sort Go.Lib
attribute [local go_sem] Oper.semAt_some

theorem gath (d d1 : List PR) (h1 : ∀ x, x ∈ d1 ↔ x ∈ d) (h2 : d1.length = d.length) (h3 : ∀ n, lk n d1 = lk n d) (h4 : d1.Pairwise (fun x y => ltP y x = false)) :
    Gath d ((keptUpTo (kpC d1.toArray) d1.toArray d1.length).filter fun x => !ownP x) := by
  obtain ⟨f1, f2, f3, _⟩ := comp_facts d1.toArray (by simpa using h4) d1.length (by simp)
  have e : d1.toArray.toList.take d1.length = d1 := by simp
  rw [e] at f2 f3
  obtain ⟨n1, n2⟩ := neat_filter f1
  refine ⟨n1, fun x hx => (h1 x).1 (f2 x (List.mem_filter.1 hx).1), ?_, fun n => ?_⟩
  · refine Nat.le_trans (List.length_filter_le _ _) ?_
    unfold keptUpTo
    rw [List.length_map, ← h2]
    exact Nat.le_trans (List.length_filter_le _ _) (by simp)
  · rw [n2 n]; unfold ty; rw [f3 n, h3 n]

set_option maxRecDepth 100000 in
set_option maxHeartbeats 2000000 in
theorem gather_some (g cap : Nat) (d : List PR) (w : World) (h : RowP g d w) (ht : Typ d w) (hf : FitsAll d) (hc : d.length ≤ cap) (hl : d.length < 20) (h0 : d ≠ []) :
    Calls Tryd.prog 63 #[.slice (some ⟨g, 0, none⟩) d.length cap] w fun e w' =>
      (∃ l, (e = .returned (.agg #[.slice (some ⟨g, 0, none⟩) l.length cap]) ∧ l.length ≤ cap) ∧ RowP g l w' ∧ Gath d l) ∧ Fr g w w' := by
  obtain ⟨s1, s2, s3, s4⟩ := sort_facts d.toArray
  have HS := Lib.hid (fun o => sortStable_any g cap d (w.alloc o) (h.below ((Below.refl _ w).alloc (Nat.le_refl _) o)) hl)
  have HRow := Lib.hid (fun o m os => (h.below ((Below.refl _ w).alloc (Nat.le_refl _) o)).sort m (insertionSort ltP d.toArray 0 d.toArray.size) os (by simpa using s2))
  have HFr := Lib.hid (fun o m os => (Fr.of_below (g := g) ((Below.refl _ w).alloc (Nat.le_refl _) o)).trans (Fr.sort (w.alloc o) g m (insertionSort ltP d.toArray 0 d.toArray.size) os))
  have hlt := h.lt
  obtain ⟨D, hD⟩ : ∃ D, insertionSort ltP d.toArray 0 d.toArray.size = D := ⟨_, rfl⟩
  rw [hD] at s1 s2 s3 s4 HS HRow HFr
  obtain ⟨d1, hd1⟩ : ∃ d1, D.toList = d1 := ⟨_, rfl⟩
  rw [hd1] at s1 s2 s3 s4 HRow
  have s2' : d1.length = d.length := by simpa using s2
  have hD1 : D = d1.toArray := by rw [← hd1]
  have HG := Lib.hid (gath d d1 (by simpa using s1) s2' (by simpa using s3) s4)
  have h01 : d1 ≠ [] := fun e => h0 (List.length_eq_zero_iff.1 (by rw [← s2', e]; rfl))
  have HT := Lib.hid ht
  have HM := Lib.hid (fun x (hx : x ∈ keptUpTo (kpC d1.toArray) d1.toArray d1.length) => (s1 x).1 (by
    have := (comp_facts d1.toArray (by simpa using s4) d1.length (by simp)).2.1 x hx
    exact List.mem_of_mem_take this))
  have HC := Lib.hid (fun W (hr : RowP g d1 W) => compact_any g cap d1 W hr (by omega) (by omega) h01)
  rw [s2'] at HC
  have hkl : (keptUpTo (kpC d1.toArray) d1.toArray d.length).length ≤ d.length := by
    unfold keptUpTo
    rw [List.length_map]
    exact Nat.le_trans (List.length_filter_le _ _) (by simp)
  rw [s2'] at HG HM
  obtain ⟨d2, hd2⟩ : ∃ d2, keptUpTo (kpC d1.toArray) d1.toArray d.length = d2 := ⟨_, rfl⟩
  rw [hd2] at HG HM HC hkl
  have HD := Lib.hid (fun W (hr : RowP g d2 W) (hk : KeepT w W) => delete_any g cap d2 W hr (fun x hx => ht.keep hk x (by simpa using HM.out x hx)) (fun x hx => hf x (by simpa using HM.out x hx)) (by omega) (by omega))
  have hfl : (d2.filter fun x => !ownP x).length ≤ d2.length := List.length_filter_le _ _
  obtain ⟨d3, hd3⟩ : ∃ d3, (d2.filter fun x => !ownP x) = d3 := ⟨_, rfl⟩
  rw [hd3] at HG HD hfl
  have HK := Lib.hid (fun W (f : Fr g w W) => f.keepT h)
  clear s1 s2 s3 s4 h ht hf hD hd1 hD1 h0 h01 hd2 hd3 HT HM
  go_enter Tryd.func63, Tryd.ntmps63
  go_wp2_with (go_at_call 69; refine (HS.out _).mono ?_)
  rintro e w1 ⟨rfl, m, os, hw1⟩
  have HR1 := Lib.hid (HRow.out (.cells #[.slice none 0 0] 33) m os)
  have HF1 := Lib.hid (HFr.out (.cells #[.slice none 0 0] 33) m os)
  have hb1 : w1.heap[w.heap.size]? = some (.cells #[.slice none 0 0] 33 (0, 0)) := by
    rw [hw1, heap_sortW _ _ _ _ _ _ (by simp) (by omega)]; exact alloc_new w _
  rw [← hw1] at HR1 HF1
  clear HRow HFr HS hw1
  have HB1 := Lib.hid hb1
  clear hb1
  go_wp2_with (go_at_call 71; refine (HC.out _ HR1.out).mono ?_)
  rintro e w2 ⟨rfl, hr2, hf2⟩
  have HB2 := Lib.hid ((hf2.2 _ (Array.getElem?_eq_some_iff.1 HB1.out).1 (by omega)).trans HB1.out)
  have HR2 := Lib.hid hr2
  have HF2 := Lib.hid (HF1.out.trans hf2)
  clear hr2 hf2
  go_wp2_with (go_at_call 73; refine (HD.out _ HR2.out (HK.out _ HF2.out)).mono ?_)
  rintro e w3 ⟨rfl, hr3, hf3⟩
  have hb3 := (hf3.2 _ (Array.getElem?_eq_some_iff.1 HB2.out).1 (by omega)).trans HB2.out
  have c3 : w3.cell? ⟨w.heap.size, 0, none⟩ = some (.slice none 0 0) := by rw [Lib.cell_of_heap hb3]; rfl
  have z3 := Lib.frozen_of_heap hb3 0
  have HB3 := Lib.hid hb3
  have HR3 := Lib.hid hr3
  have HF3 := Lib.hid (HF2.out.trans hf3)
  clear hr3 hf3 hb3
  go_wp2
  have hs := blk_set (o := 0) HB3.out (.slice (some ⟨g, 0, none⟩) d3.length cap)
  have hc0 : (w3.setCell ⟨w.heap.size, 0, none⟩ (.slice (some ⟨g, 0, none⟩) d3.length cap)).cell? ⟨w.heap.size, 0, none⟩ = some (.slice (some ⟨g, 0, none⟩) d3.length cap) := by rw [Lib.cell_of_heap hs]; rfl
  refine bodyPost_ret (v := .agg #[.slice (some ⟨g, 0, none⟩) d3.length cap]) (by simp [results, Tryd.results63, go_sem, hc0]) rfl ⟨⟨d3, ⟨rfl, by omega⟩, HR3.out.same (Below.heap_setCell _ ⟨w.heap.size, 0, none⟩ _ _ (by show g ≠ w.heap.size; omega)), HG.out⟩, HF3.out.1.trans ((Below.refl 0 w3).setCell (p := ⟨w.heap.size, 0, none⟩) (Nat.zero_le _) _), fun k hk hg => (Below.heap_setCell _ ⟨w.heap.size, 0, none⟩ _ _ (by show k ≠ w.heap.size; omega)).trans (HF3.out.2 k hk hg)⟩

/-! Of no pair. -/
theorem compact_none (a : Option Addr) (c : Nat) (w : World) :
    Calls Tryd.prog 71 #[.slice a 0 c, .func (.func 72) #[] #[]] w fun e w' => e = .returned (.slice a 0 c) ∧ w = w' := by
  go_enter Tryd.func71, Tryd.ntmps71
  go_wp2
  go_ret
  exact ⟨rfl, rfl⟩
theorem index_none (a : Option Addr) (c : Nat) (w : World) :
    Calls Tryd.prog 77 #[.slice a 0 c, .func (.func 74) #[] #[]] w fun e w' => e = .returned (.int .i64 (-1)) ∧ w = w' := by
  go_enter Tryd.func77, Tryd.ntmps77
  go_wp2
  refine wp_loop_rounds 1 ?_
  rw [rounds_succ]
  go_wp2
  go_ret
  exact ⟨rfl, rfl⟩
theorem delete_none (a : Option Addr) (c : Nat) (w : World) :
    Calls Tryd.prog 73 #[.slice a 0 c, .func (.func 74) #[] #[]] w fun e w' => e = .returned (.slice a 0 c) ∧ w = w' := by
  go_enter Tryd.func73, Tryd.ntmps73
  go_wp2_with (go_at_call 77; refine (index_none _ _ _).mono ?_)
  rintro e w1 ⟨rfl, rfl⟩
  go_wp2
  go_ret
  exact ⟨rfl, rfl⟩
set_option maxRecDepth 100000 in
set_option maxHeartbeats 1000000 in
theorem gather_none (a : Option Addr) (c : Nat) (w : World) :
    Calls Tryd.prog 63 #[.slice a 0 c] w fun e w' => e = .returned (.agg #[.slice a 0 c]) ∧ Below w.heap.size w w' := by
  go_enter Tryd.func63, Tryd.ntmps63
  go_wp2_with (first
    | (go_at_call 69; refine (sortNone _ _ _).mono ?_; rintro e w1 ⟨rfl, rfl⟩)
    | (go_at_call 71; refine (compact_none _ _ _).mono ?_; rintro e w1 ⟨rfl, rfl⟩)
    | (go_at_call 73; refine (delete_none _ _ _).mono ?_; rintro e w1 ⟨rfl, rfl⟩))
  refine bodyPost_ret (v := .agg #[.slice a 0 c]) (by simp [results, Tryd.results63, go_sem]) rfl ⟨rfl, (Below.refl _ w).alloc (Nat.le_refl _) _⟩

/-- A slice of pairs. -/
def SlP (v : Value) (d : List PR) (w : World) : Prop := (d = [] ∧ ∃ a c, v = .slice a 0 c ∧ (a = none → c = 0)) ∨ ∃ g cap, v = .slice (some ⟨g, 0, none⟩) d.length cap ∧ d.length ≤ cap ∧ RowP g d w
/-- Types for variables, as they lie in memory: the pairs by names. -/
def SubAt (v : Value) (d : List PR) (w : World) : Prop := (SlP v d w ∧ Neat d) ∧ Typ d w
theorem SubAt.below {v : Value} {d : List PR} {w w' : World} (h : SubAt v d w) (hb : Below w.heap.size w w') : SubAt v d w' := by
  obtain ⟨⟨h1, h2⟩, h3⟩ := h
  refine ⟨⟨?_, h2⟩, h3.keep (KeepT.of_below hb)⟩
  rcases h1 with h1 | ⟨g, cap, e, hc, hr⟩
  · exact .inl h1
  · exact .inr ⟨g, cap, e, hc, hr.below hb⟩
theorem gath_nil : Gath [] [] := ⟨⟨List.Pairwise.nil, fun x hx => by cases hx⟩, fun x hx => hx, Nat.le_refl _, fun _ => rfl⟩
end Go.Proofs.YthpphjkoiipkkaaDoor
