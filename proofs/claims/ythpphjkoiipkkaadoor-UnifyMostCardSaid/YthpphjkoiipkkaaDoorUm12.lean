/- Merged: UgFoundB, RegRound, UgFoundC, UgFoundR, UgFoundE. -/
import Derived.Test.YthpphjkoiipkkaaDoorUm8
import Derived.Test.YthpphjkoiipkkaaDoorUm11
import Derived.RangeFuncFrom
import Derived.OrdersIn
import Derived.OwnWalkIn
/- found: what its first loop keeps. -/
namespace Go.Proofs.YthpphjkoiipkkaaDoor
open Go.RowKit Go.Maps Go.Sort Go.Lib
attribute [local go_sem] Oper.semAt_some

theorem GM.grown {B : Nat} {G : Gr} {rt : Nat → Nat} {E c g mb : Nat} {pv : Value} {sl : Nat → Value} {X Y : World} {row : Option Nat} (h : GM B G rt E c g mb pv sl X) (hg : X.grownBy Y row) (hr : ∀ r, row = some r → ∃ o : Obj, X.heap[r]? = some o ∧ o.isCells = false) (hm : row ≠ some mb) : GM B G rt E c g mb pv sl Y := by
  obtain ⟨h1, h2, ⟨nx, hh, h3, h4, h5⟩, ⟨f, h6, h7, h8⟩⟩ := h
  exact ⟨h1, block_kept h2 hg hr, ⟨nx, hh, h3, row_kept h4 fun _ _ _ hk => block_kept hk hg hr, fun i hi => (h5 i hi).keep fun _ _ _ hk => block_kept hk hg hr⟩, ⟨f, h6, h7.kept hg (fun e => hm e.symm), h8⟩⟩
/-- What the loop over the order keeps. w: the world at the call. -/
structure FI (B : Nat) (G : Gr) (rt : Nat → Nat) (E c g mb p cap : Nat) (sl : Nat → Value) (σ : Sg) (ls : List Nat) (w : World) (pre : List Nat) (X : World) : Prop where
  gm : GM B G rt E c g mb (.slice (some ⟨p, 0, none⟩) G.N cap) sl X
  b0 : X.heap[w.heap.size]? = some (.cells #[gp g] 96 (0, 0))
  b1 : X.heap[w.heap.size + 1]? = some (.cells #[.slice none 0 0] 33 (0, 0))
  b3 : X.heap[w.heap.size + 1 + 1 + 1]? = some (.cells #[.slice (some ⟨w.heap.size + 1 + 1, 0, none⟩) G.N G.N] 27 (0, 0))
  made : ∃ m D, pre ++ (List.range m).reverse = (List.range ls.length).reverse ∧ D ≤ X.heap.size ∧ w.heap.size + 1 + 1 + 1 ≤ D ∧ MadeAt (w.heap.size + 1 + 1) D G.N (fun i => sub σ (G.tr i)) (dnOf ls m) X
  low : Below B w X
theorem FI.kept {B : Nat} {G : Gr} {rt : Nat → Nat} {E c g mb p cap : Nat} {sl : Nat → Value} {σ : Sg} {ls : List Nat} {w : World} {pre : List Nat} {X Y : World} {row : Option Nat} (h : FI B G rt E c g mb p cap sl σ ls w pre X) (hg : X.grownBy Y row) {N : Nat} (hr : ∀ r, row = some r → N ≤ r ∧ ∃ o : Obj, X.heap[r]? = some o ∧ o.isCells = false) (hB : B ≤ N) (hmb : mb < N) : FI B G rt E c g mb p cap sl σ ls w pre Y := by
  obtain ⟨h1, h2, h3, h4, ⟨m, D, h5, h6, h7, h8⟩, h9⟩ := h
  have hr' : ∀ r, row = some r → ∃ o : Obj, X.heap[r]? = some o ∧ o.isCells = false := fun r e => (hr r e).2
  exact ⟨h1.grown hg hr' (fun e => by have := (hr _ e).1; omega), block_kept h2 hg hr', block_kept h3 hg hr', block_kept h4 hg hr', ⟨m, D, h5, Nat.le_trans h6 hg.size, h7, h8.keep (fun k cs fz _ _ hk => block_kept hk hg hr') (Nat.le_refl _)⟩, h9.trans ⟨hg.os, hg.tape, hg.output, hg.size, fun k hk => hg.block k (by have := h1.bg; have := h1.lt; omega) (fun e => by have := (hr k e.symm).1; omega)⟩⟩
/-- The loop's beginning. -/
theorem FI.start {B : Nat} {G : Gr} {rt : Nat → Nat} {E c g mb p cap : Nat} {sl : Nat → Value} {w : World} (h : GM B G rt E c g mb (.slice (some ⟨p, 0, none⟩) G.N cap) sl w) (hB : B ≤ w.heap.size) (σ : Sg) (ls : List Nat) (a : Option Addr) (n k : Nat) :
    FI B G rt E c g mb p cap sl σ ls w [] (((((w.alloc (.cells #[gp g] 96)).alloc (.cells #[.slice none 0 0] 33)).alloc (.cells (zeros G.N) 29)).alloc (.cells #[.slice (some ⟨w.heap.size + 1 + 1, 0, none⟩) G.N G.N] 27)).alloc (.cells #[.slice a n k] 22)) := by
  have hb : Below w.heap.size w (((((w.alloc (.cells #[gp g] 96)).alloc (.cells #[.slice none 0 0] 33)).alloc (.cells (zeros G.N) 29)).alloc (.cells #[.slice (some ⟨w.heap.size + 1 + 1, 0, none⟩) G.N G.N] 27)).alloc (.cells #[.slice a n k] 22)) :=
    (((((Below.refl w.heap.size w).alloc (Nat.le_refl _) _).alloc (by simp) _).alloc (by simp; omega) _).alloc (by simp; omega) _).alloc (by simp; omega) _
  have at' : ∀ (W : World) (o o' : Obj) (k : Nat), W.heap[k]? = some o → (W.alloc o').heap[k]? = some o := fun W o o' k hk => (Below.heap_alloc W o' k (Array.getElem?_eq_some_iff.1 hk).1).trans hk
  have new' : ∀ (W : World) (o : Obj) (k : Nat), k = W.heap.size → (W.alloc o).heap[k]? = some o := fun W o k e => by subst e; exact alloc_new W o
  refine ⟨h.keep hb, at' _ _ _ _ (at' _ _ _ _ (at' _ _ _ _ (at' _ _ _ _ (new' _ _ _ rfl)))), at' _ _ _ _ (at' _ _ _ _ (at' _ _ _ _ (new' _ _ _ (by simp)))), at' _ _ _ _ (new' _ _ _ (by simp)), ⟨ls.length, w.heap.size + 1 + 1 + 1, by simp, by simp <;> omega, Nat.le_refl _, ?_⟩, hb.mono hB⟩
  obtain ⟨cs, z, k1, k2, k3⟩ := MadeAt.start (w.heap.size + 1 + 1) (w.heap.size + 1 + 1 + 1) G.N (fun i => sub σ (G.tr i)) (((((w.alloc (.cells #[gp g] 96)).alloc (.cells #[.slice none 0 0] 33)).alloc (.cells (zeros G.N) 29)).alloc (.cells #[.slice (some ⟨w.heap.size + 1 + 1, 0, none⟩) G.N G.N] 27)).alloc (.cells #[.slice a n k] 22)) (at' _ _ _ _ (at' _ _ _ _ (new' _ _ _ (by simp))))
  exact ⟨cs, z, k1, k2, fun j hj hd => by obtain ⟨q, h1, h2, _⟩ := hd; omega⟩
end Go.Proofs.YthpphjkoiipkkaaDoor
/- A region that draws its order, inside a round of a range over a function: as region_inv; no operation defers. -/
namespace Go.Proofs.YthpphjkoiipkkaaDoor

def noDefer (o : Oper) : Bool := match o.op with | .defer _ => false | _ => true
theorem noDefer_out {o : Oper} (h : noDefer o = true) : ∀ c, o.op ≠ .defer c := fun c e => by simp [noDefer, e] at h
theorem calls_round {l n : Nat} {P : Program} {f : FuncId} {args : Array Value} {w : World} {R : Ending → World → Prop} (h : Calls P f args w R) : CallsIn (Fence.wide.inRound l) n P f args w R :=
  (callsIn_wide (n := n)).2 h
theorem rows_round {l n : Nat} {P : Program} {row : String} {args : Array Value} {w : World} {R : Value → World → Prop} (h : Rows P row args w R) : RowsIn (Fence.wide.inRound l) n P row args w R :=
  fun c cs _ => let ⟨v, w', r, s⟩ := h c cs; ⟨v, w', r, (stepsIn_wide (P := P)).2 s⟩
theorem oper_round {l n : Nat} {P : Program} {o : Oper} {a : Act} {w : World} {K : Act → World → Prop} {Q : Exit → Act → World → Prop} (hd : noDefer o = true) (h : Oper.wp P o a w K Q) : Oper.wpIn (Fence.wide.inRound l) n P o a w K Q := by
  refine ⟨fun _ _ => trivial, ?_⟩
  rw [Oper.semAt_plain _ _ _ (noDefer_out hd)]
  unfold Oper.wp at h
  have hdep : (Fence.wide.inRound l).depth.isSome = true → 1 ≤ n := fun h => by simp [Fence.wide] at h
  generalize (execOp a.eval o).run P w = r at h
  cases r with
  | ok x w' =>
    cases x <;> simp only [Oper.upon, Oper.uponIn] at h ⊢ <;> first
      | exact h
      | exact ⟨hdep, calls_round h⟩
      | exact ⟨hdep, rows_round h⟩
      | exact h.elim
  | halt x w' => cases x <;> simp only [Oper.upon, Oper.uponIn] at h ⊢ <;> first | exact h | exact h.elim

section
variable {P : Program} {ops : Array Oper} {Q : Exit → Act → World → Prop} {fr : (Nat → Value) → Act} {S : World → Prop} {Rel : World → World → Prop} {Vals : Nat → Value → World → Prop}

theorem nd_get (hnd : ops.all noDefer = true) {i : Nat} {o : Oper} (ho : ops[i]? = some o) : noDefer o = true := by
  obtain ⟨hlt, rfl⟩ := Array.getElem?_eq_some_iff.1 ho
  exact (Array.all_eq_true'.1 hnd) _ (Array.getElem_mem hlt)
theorem inv_round {l n : Nat} (hnd : ops.all noDefer = true) (hput : ∀ i o, ops[i]? = some o → StepAt P fr S Rel Vals ops Q i o)
    (hrel : ∀ w w', S w → Rel w w' → S w') (hval : ∀ i v w w', S w → Vals i v w → Rel w w' → Vals i v w')
    (hfin : ∀ x w, S w → (∀ i, i < ops.size → Vals i (x i) w) → Q .normal (fr x) w) :
    ∀ (fuel : Nat) (listed : Array Bool) (x : Nat → Value) (w : World), listed.size = ops.size → ops.size ≤ fuel + listed.toList.count true → S w →
      (∀ i, listed.getD i false = true → Vals i (x i) w) → wpAnyIn (Fence.wide.inRound l) n P .any ops Q fuel listed (fr x) w := by
  have hend : ∀ (listed : Array Bool) (x : Nat → Value) (w : World), listed.size = ops.size → S w → (∀ i, listed.getD i false = true → Vals i (x i) w) →
      Region.ready .any ops listed = [] → Q .normal (fr x) w := fun listed x w hz hS hV h =>
    hfin x w hS fun i hi => hV i (all_of_none (fun i o h => (hput i o h).back) hz h i hi)
  intro fuel
  induction fuel with
  | zero =>
    intro listed x w hz hc hS hV
    have hall : listed.toList.count true = listed.toList.length := by
      have := List.count_le_length (a := true) (l := listed.toList)
      simp at this hc ⊢; omega
    have hr : Region.ready .any ops listed = [] := by
      cases h : Region.ready .any ops listed with
      | nil => rfl
      | cons i l =>
        have hi : i ∈ Region.ready .any ops listed := by rw [h]; simp
        obtain ⟨h0, o, ho, _⟩ := mem_ready.1 hi
        have hlt : i < listed.size := by rw [hz]; exact (Array.getElem?_eq_some_iff.1 ho).1
        have := List.count_eq_length.1 hall listed[i] (by simp)
        simp [hlt] at h0
        rw [h0] at this; cases this
    exact ⟨hr, hend listed x w hz hS hV hr⟩
  | succ fuel ih =>
    intro listed x w hz hc hS hV
    refine ⟨hend listed x w hz hS hV, fun i hi => ?_⟩
    obtain ⟨h0, o, ho, hdep⟩ := mem_ready.1 hi
    have hlt : i < listed.size := by rw [hz]; exact (Array.getElem?_eq_some_iff.1 ho).1
    have h0' : listed[i] = false := by simpa [hlt] using h0
    have H := hput i o ho
    have hK : ∀ v w', Rel w w' → Vals i v w' → wpAnyIn (Fence.wide.inRound l) n P .any ops Q fuel (listed.setIfInBounds i true) ((fr x).put o.dst v) w' := fun v w' hr hv => by
      rw [H.put]
      refine ih _ _ _ (by simpa using hz) ?_ (hrel w w' hS hr) fun j hj => ?_
      · have : (listed.setIfInBounds i true).toList.count true = listed.toList.count true + 1 := by
          rw [Array.toList_setIfInBounds, List.count_set (by simpa using hlt)]
          simp [h0']
        omega
      · by_cases hji : j = i
        · subst hji; rw [upd_same]; exact hv
        · rw [upd_other x v hji]
          exact hval _ _ _ _ hS (hV j (by rw [getD_set_ne false (Ne.symm hji)] at hj; exact hj)) hr
    have := H.run x w hS (fun e he hb => hV e.on (hdep e he hb)) _ hK
    unfold wpOpIn
    simp only [ho]
    split
    · rename_i hw; rw [if_pos hw] at this; exact oper_round (nd_get hnd ho) this
    · rename_i hw; rw [if_neg hw] at this; exact ⟨fun _ _ => trivial, this⟩

theorem last_round {l n s : Nat} (hnd : ops.all noDefer = true) (hsz : ops.size = s + 1) (hput : ∀ i o, i < s → ops[i]? = some o → StepAt P fr S Rel Vals ops Q i o)
    (hbs : ∀ o, ops[s]? = some o → ∀ e ∈ o.after, Region.binds .any e = true → e.on < s)
    (hcov : ∀ i, i < s → ∃ j o e, i < j ∧ j ≤ s ∧ ops[j]? = some o ∧ e ∈ o.after ∧ Region.binds .any e = true ∧ e.on = i)
    (hrel : ∀ w w', S w → Rel w w' → S w') (hval : ∀ i v w w', S w → Vals i v w → Rel w w' → Vals i v w')
    (hlast : ∀ o x w, ops[s]? = some o → S w → (∀ i, i < s → Vals i (x i) w) → ∀ K : Act → World → Prop, (∀ v w', Q .normal ((fr x).put o.dst v) w' → K ((fr x).put o.dst v) w') →
      if Region.wanted o (yielded ops (fr x).tmps) = true then Oper.wp P o (fr x) w K Q else K ((fr x).put o.dst undef) w) :
    ∀ (fuel : Nat) (listed : Array Bool) (x : Nat → Value) (w : World), listed.size = ops.size → ops.size ≤ fuel + listed.toList.count true → S w → listed.getD s false = false →
      (∀ j o, listed.getD j false = true → ops[j]? = some o → ∀ e ∈ o.after, Region.binds .any e = true → listed.getD e.on false = true) →
      (∀ i, listed.getD i false = true → Vals i (x i) w) → wpAnyIn (Fence.wide.inRound l) n P .any ops Q fuel listed (fr x) w := by
  have hback : ∀ i o, ops[i]? = some o → ∀ e ∈ o.after, Region.binds .any e = true → e.on < i := fun i o ho => by
    have hi : i < s + 1 := by rw [← hsz]; exact (Array.getElem?_eq_some_iff.1 ho).1
    by_cases e : i = s
    · subst e; exact hbs o ho
    · exact (hput i o (by omega) ho).back
  have hend : ∀ (listed : Array Bool), listed.size = ops.size → listed.getD s false = false → Region.ready .any ops listed = [] → False := fun listed hz h0 h => by
    have := all_of_none hback hz h s (by omega)
    rw [h0] at this; cases this
  intro fuel
  induction fuel with
  | zero =>
    intro listed x w hz hc hS h0 hcl hV
    have hall : listed.toList.count true = listed.toList.length := by
      have := List.count_le_length (a := true) (l := listed.toList)
      simp at this hc ⊢; omega
    have hlt : s < listed.size := by omega
    have := List.count_eq_length.1 hall listed[s] (by simp)
    simp [hlt] at h0
    rw [h0] at this; cases this
  | succ fuel ih =>
    intro listed x w hz hc hS h0 hcl hV
    refine ⟨fun h => (hend listed hz h0 h).elim, fun i hi => ?_⟩
    obtain ⟨hi0, o, ho, hdep⟩ := mem_ready.1 hi
    have hlt : i < listed.size := by rw [hz]; exact (Array.getElem?_eq_some_iff.1 ho).1
    have hi0' : listed[i] = false := by simpa [hlt] using hi0
    have hsetD : ∀ j, (listed.setIfInBounds i true).getD j false = true → j = i ∨ listed.getD j false = true := fun j hj => by
      by_cases hji : j = i
      · exact .inl hji
      · rw [getD_set_ne false (Ne.symm hji)] at hj; exact .inr hj
    have hsetI : (listed.setIfInBounds i true).getD i false = true := by simp [hlt]
    have hmono : ∀ j, listed.getD j false = true → (listed.setIfInBounds i true).getD j false = true := fun j hj => by
      by_cases hji : j = i
      · subst hji; exact hsetI
      · rw [getD_set_ne false (Ne.symm hji)]; exact hj
    by_cases his : i = s
    · subst his
      have hK : ∀ v w', Q .normal ((fr x).put o.dst v) w' → wpAnyIn (Fence.wide.inRound l) n P .any ops Q fuel (listed.setIfInBounds i true) ((fr x).put o.dst v) w' := fun v w' hq => by
        have hnone : Region.ready .any ops (listed.setIfInBounds i true) = [] := by
          cases h : Region.ready .any ops (listed.setIfInBounds i true) with
          | nil => rfl
          | cons j l =>
            have hj : j ∈ Region.ready .any ops (listed.setIfInBounds i true) := by rw [h]; simp
            obtain ⟨hj0, oj, hoj, _⟩ := mem_ready.1 hj
            have hjl : j < i + 1 := by rw [← hsz]; exact (Array.getElem?_eq_some_iff.1 hoj).1
            by_cases e : j = i
            · subst e; rw [getD_tt hsetI] at hj0; cases hj0
            · have := hmono j (all_ahead hcov hcl (fun o' ho' => by rw [ho] at ho'; cases ho'; exact hdep) (i - j) j (by omega) (by omega))
              rw [getD_tt this] at hj0; cases hj0
        cases fuel with
        | zero => exact ⟨hnone, hq⟩
        | succ fuel => exact ⟨fun _ => hq, fun j hj => by rw [hnone] at hj; cases hj⟩
      have := hlast o x w ho hS (fun j hj => hV j (all_ahead hcov hcl (fun o' ho' => by rw [ho] at ho'; cases ho'; exact hdep) (i - j) j (by omega) (by omega))) _ hK
      unfold wpOpIn
      simp only [ho]
      split
      · rename_i hw; rw [if_pos hw] at this; exact oper_round (nd_get hnd ho) this
      · rename_i hw; rw [if_neg hw] at this; exact ⟨fun _ _ => trivial, this⟩
    · have hil : i < s := by omega
      have H := hput i o hil ho
      have hK : ∀ v w', Rel w w' → Vals i v w' → wpAnyIn (Fence.wide.inRound l) n P .any ops Q fuel (listed.setIfInBounds i true) ((fr x).put o.dst v) w' := fun v w' hr hv => by
        rw [H.put]
        refine ih _ _ _ (by simpa using hz) ?_ (hrel w w' hS hr) (by rw [getD_set_ne false his]; exact h0) (fun j oj hj hoj e he hb => ?_) fun j hj => ?_
        · have : (listed.setIfInBounds i true).toList.count true = listed.toList.count true + 1 := by
            rw [Array.toList_setIfInBounds, List.count_set (by simpa using hlt)]
            simp [hi0']
          omega
        · rcases hsetD j hj with rfl | hj'
          · rw [ho] at hoj; cases hoj
            exact hmono _ (hdep e he hb)
          · exact hmono _ (hcl j oj hj' hoj e he hb)
        · by_cases hji : j = i
          · subst hji; rw [upd_same]; exact hv
          · rw [upd_other x v hji]
            exact hval _ _ _ _ hS (hV j (by rw [getD_set_ne false (Ne.symm hji)] at hj; exact hj)) hr
      have := H.run x w hS (fun e he hb => hV e.on (hdep e he hb)) _ hK
      unfold wpOpIn
      simp only [ho]
      split
      · rename_i hw; rw [if_pos hw] at this; exact oper_round (nd_get hnd ho) this
      · rename_i hw; rw [if_neg hw] at this; exact ⟨fun _ _ => trivial, this⟩

theorem region_round {l n : Nat} (fr : (Nat → Value) → Act) (S : World → Prop) (Rel : World → World → Prop) (Vals : Nat → Value → World → Prop) (x0 : Nat → Value) {id : Nat} {a : Act} {w : World}
    (hm : P.follows .mixedOrders = true) (hnd : ops.all noDefer = true) (ha : a = fr x0) (hS : S w.drew)
    (hrel : ∀ w w', S w → Rel w w' → S w') (hval : ∀ i v w w', S w → Vals i v w → Rel w w' → Vals i v w')
    (hops : AllAt (StepAt P fr S Rel Vals ops Q) 0 ops.toList)
    (hfin : ∀ x w, S w → (∀ i, i < ops.size → Vals i (x i) w) → Q .normal (fr x) w) : (Code.region id ops true).wpIn (Fence.wide.inRound l) n P Q a w := by
  subst ha
  refine wpIn_region_any hm ?_
  exact inv_round hnd (fun i o h => by have := hops.get (i := i) (o := o) (by simpa using h); rwa [Nat.zero_add] at this) hrel hval hfin _ _ _ _ (by simp) (by simp) hS
    (fun i hi => by
      by_cases h : i < ops.size
      · simp [h] at hi
      · simp [h] at hi)
theorem region_last_round {l n : Nat} (fr : (Nat → Value) → Act) (S : World → Prop) (Rel : World → World → Prop) (Vals : Nat → Value → World → Prop) (x0 : Nat → Value) (s : Nat) {id : Nat} {a : Act} {w : World}
    (hm : P.follows .mixedOrders = true) (hnd : ops.all noDefer = true) (ha : a = fr x0) (hS : S w.drew) (hsz : ops.size = s + 1) (hcov : covered ops s = true)
    (hrel : ∀ w w', S w → Rel w w' → S w') (hval : ∀ i v w w', S w → Vals i v w → Rel w w' → Vals i v w')
    (hops : AllBut (StepAt P fr S Rel Vals ops Q) (LastAt P fr S Vals ops Q s) 0 ops.toList) : (Code.region id ops true).wpIn (Fence.wide.inRound l) n P Q a w := by
  subst ha
  refine wpIn_region_any hm ?_
  have hg := fun (i : Nat) (o : Oper) (h : ops[i]? = some o) => hops.get (i := i) (o := o) (by simpa using h)
  refine last_round hnd hsz (fun i o hi h => ?_) (fun o h => ?_) (covered_get hcov) hrel hval (fun o x w h hS hV K hK => ?_) _ _ _ _ (by simp) (by simp) hS (by simp [hsz]) (fun j o hj => ?_) (fun i hi => ?_)
  · have := (hg i o h).1 (by simp [hsz]; omega); rwa [Nat.zero_add] at this
  · exact ((hg s o h).2 (by simp [hsz])).back
  · exact ((hg s o h).2 (by simp [hsz])).run x w hS hV K hK
  · by_cases h : j < ops.size
    · simp [h] at hj
    · simp [h] at hj
  · by_cases h : i < ops.size
    · simp [h] at hi
    · simp [h] at hi
end
end Go.Proofs.YthpphjkoiipkkaaDoor
/- found: what its inner loop's drawn region keeps. -/
namespace Go.Proofs.YthpphjkoiipkkaaDoor
open Go.RowKit Go.Maps Go.Sort Go.Lib
attribute [local go_sem] Oper.semAt_some

theorem Fr.cell {p : Nat} {w v : World} (h : Fr p w v) {k o : Nat} {x : Value} (hk : w.cell? ⟨k, o, none⟩ = some x) (hp : k ≠ p) : v.cell? ⟨k, o, none⟩ = some x := by
  have hl : k < w.heap.size := World.block_lt_of_cell? w ⟨k, o, none⟩ hk
  rw [← hk]; simp only [World.cell?, h.2 k hl hp]
theorem Fr.frozen {p : Nat} {w v : World} (h : Fr p w v) {k o : Nat} (hl : k < w.heap.size) (hp : k ≠ p) {x : Bool} (hk : w.frozen? ⟨k, o, none⟩ = x) : v.frozen? ⟨k, o, none⟩ = x := by
  rw [← hk]; simp only [World.frozen?, h.2 k hl hp]
/-- The cells that an argument's round reads and writes. -/
structure FC (p b2 b5 M R N j r g : Nat) (u : T) (a : Option Addr) (c : Nat) (w : World) : Prop where
  c2 : w.cell? ⟨b2, 0, none⟩ = some (gp g)
  c5 : w.cell? ⟨b5, 0, none⟩ = some (.slice (some ⟨M, 0, none⟩) N N)
  m0 : w.cell? ⟨M, r * 3, none⟩ = some (.int .i64 u.kind)
  m1 : w.cell? ⟨M, r * 3 + 1, none⟩ = some (.string u.name)
  m2 : w.cell? ⟨M, r * 3 + 2, none⟩ = some (.slice a u.kids.length c)
  r0 : ∃ x, w.cell? ⟨R, j * 3, none⟩ = some x
  r1 : ∃ x, w.cell? ⟨R, j * 3 + 1, none⟩ = some x
  r2 : ∃ x, w.cell? ⟨R, j * 3 + 2, none⟩ = some x
  s0 : w.frozen? ⟨R, j * 3, none⟩ = false
  s1 : w.frozen? ⟨R, j * 3 + 1, none⟩ = false
  s2 : w.frozen? ⟨R, j * 3 + 2, none⟩ = false
  ne : b2 ≠ p ∧ b5 ≠ p ∧ M ≠ p ∧ R ≠ p
theorem FC.fr {p b2 b5 M R N j r g : Nat} {u : T} {a : Option Addr} {c : Nat} {w v : World} (h : FC p b2 b5 M R N j r g u a c w) (hf : Fr p w v) : FC p b2 b5 M R N j r g u a c v := by
  obtain ⟨c2, c5, m0, m1, m2, ⟨x0, r0⟩, ⟨x1, r1⟩, ⟨x2, r2⟩, s0, s1, s2, n0, n1, n2, n3⟩ := h
  have hl : R < w.heap.size := World.block_lt_of_cell? w ⟨R, j * 3, none⟩ r0
  exact ⟨hf.cell c2 n0, hf.cell c5 n1, hf.cell m0 n2, hf.cell m1 n2, hf.cell m2 n2, ⟨x0, hf.cell r0 n3⟩, ⟨x1, hf.cell r1 n3⟩, ⟨x2, hf.cell r2 n3⟩, hf.frozen hl n3 s0, hf.frozen hl n3 s1, hf.frozen hl n3 s2, n0, n1, n2, n3⟩
/-- What the region keeps. -/
def FSt (B : Nat) (G : Gr) (rt : Nat → Nat) (E c g mb p cap : Nat) (sl : Nat → Value) (b2 b5 M R j r : Nat) (u : T) (a : Option Addr) (ac : Nat) (wr V : World) : Prop :=
  GM B G rt E c g mb (.slice (some ⟨p, 0, none⟩) G.N cap) sl V ∧ Fr p wr V ∧ FC p b2 b5 M R G.N j r g u a ac V
def FRel (B : Nat) (G : Gr) (rt : Nat → Nat) (E c g mb p cap : Nat) (sl : Nat → Value) (V Y : World) : Prop :=
  GM B G rt E c g mb (.slice (some ⟨p, 0, none⟩) G.N cap) sl Y ∧ Fr p V Y
theorem FSt.step {B : Nat} {G : Gr} {rt : Nat → Nat} {E c g mb p cap : Nat} {sl : Nat → Value} {b2 b5 M R j r : Nat} {u : T} {a : Option Addr} {ac : Nat} {wr V Y : World} (h : FSt B G rt E c g mb p cap sl b2 b5 M R j r u a ac wr V) (hr : FRel B G rt E c g mb p cap sl V Y) : FSt B G rt E c g mb p cap sl b2 b5 M R j r u a ac wr Y :=
  ⟨hr.1, h.2.1.trans hr.2, h.2.2.fr hr.2⟩
theorem FSt.rel {B : Nat} {G : Gr} {rt : Nat → Nat} {E c g mb p cap : Nat} {sl : Nat → Value} {b2 b5 M R j r : Nat} {u : T} {a : Option Addr} {ac : Nat} {wr V : World} (h : FSt B G rt E c g mb p cap sl b2 b5 M R j r u a ac wr V) : FRel B G rt E c g mb p cap sl V V := ⟨h.1, Fr.refl _ _⟩
theorem FSt.start {B : Nat} {G : Gr} {rt : Nat → Nat} {E c g mb p cap : Nat} {sl : Nat → Value} {b2 b5 M R j r : Nat} {u : T} {a : Option Addr} {ac : Nat} {wr : World} (h : GM B G rt E c g mb (.slice (some ⟨p, 0, none⟩) G.N cap) sl wr) (hc : FC p b2 b5 M R G.N j r g u a ac wr) : FSt B G rt E c g mb p cap sl b2 b5 M R j r u a ac wr wr.drew :=
  ⟨h.drew, (Fr.refl _ _).drew, hc.fr (Fr.refl _ _).drew⟩
end Go.Proofs.YthpphjkoiipkkaaDoor
/- found: its last statement, a region of 10 operations that draws its order, by an invariant. (Made by a program.) -/
namespace Go.Proofs.YthpphjkoiipkkaaDoor
open Go.RowKit Go.Maps Go.Sort Go.Lib
attribute [local go_sem] Oper.semAt_some

noncomputable def fndOps : Array Oper := regionIn 9 (Tryd.f37.body.getD .skip)
def fndFr (b : Nat → Value) (d : List Deferred) (x : Nat → Value) : Act := { tmps := #[b 0, b 1, b 2, b 3, b 4, b 5, b 6, b 7, b 8, b 9, b 10, b 11, b 12, b 13, b 14, b 15, b 16, b 17, b 18, b 19, b 20, b 21, b 22, b 23, b 24, b 25, b 26, b 27, b 28, b 29, b 30, b 31, b 32, b 33, b 34, b 35, b 36, b 37, b 38, b 39, b 40, b 41, b 42, b 43, x 0, x 1, x 2, x 3, x 4, x 5, x 6, x 7, x 8, b 53, b 54, b 55, b 56, b 57, b 58, b 59, b 60, b 61, b 62, b 63, b 64, b 65, b 66, b 67, b 68, b 69, b 70, b 71, b 72, b 73, b 74, b 75, b 76, b 77, b 78, b 79, b 80, b 81, b 82, b 83, b 84, b 85, b 86, b 87, b 88, b 89, b 90], defers := d }

def fndVals (G : Gr) (rt : Nat → Nat) (g : Nat) (M R j n ix : Nat) (u : T) (ad : Option Addr) (ac : Nat) (i : Nat) (v : Value) (_ : World) : Prop :=
  match i with
  | 0 => v = .slice (some ⟨R, 0, none⟩) n n
  | 1 => v = .int .i64 (j : Int)
  | 2 => v = .slice (some ⟨M, 0, none⟩) G.N G.N
  | 3 => v = gp g
  | 4 => v = .int .i64 (ix : Int)
  | 5 => v = .int .i64 (rt ix : Nat)
  | 6 => v = .pointer (some ⟨M, rt ix * 3, none⟩)
  | 7 => v = .agg #[.int .i64 u.kind, .string u.name, .slice ad u.kids.length ac]
  | 8 => v = .pointer (some ⟨R, j * 3, none⟩)
  | _ => True

theorem fndVals_keep {G : Gr} {rt : Nat → Nat} {g : Nat} {M R j n ix : Nat} {u : T} {ad : Option Addr} {ac : Nat} {B : Nat} {E c mb p cap : Nat} {sl : Nat → Value} (i : Nat) (v : Value) (V Y : World) (h : fndVals G rt g M R j n ix u ad ac i v V) (_ : FRel B G rt E c g mb p cap sl V Y) : fndVals G rt g M R j n ix u ad ac i v Y := by
  unfold fndVals at *
  split at h <;> first
    | exact h


theorem fnd_nd : fndOps.all noDefer = true := by kernel_rfl
theorem fnd_size : fndOps.size = 10 := by kernel_rfl
theorem fnd_cov : covered fndOps 9 = true := by kernel_rfl
set_option linter.unusedSimpArgs false in
set_option maxRecDepth 100000 in
set_option maxHeartbeats 8000000 in
theorem fnd_region {l nn : Nat} {B : Nat} {G : Gr} {rt : Nat → Nat} {E c g mb p cap : Nat} {sl : Nat → Value} {b2 b5 M R j n ix : Nat} {u : T} {ad : Option Addr} {ac : Nat} {wr : World} (hjz : (j : Int) < (n : Int)) (hrz : ((rt ix : Nat) : Int) < (G.N : Int)) {b : Nat → Value} {d : List Deferred}
    (h9 : b 9 = .slice (some ⟨R, 0, none⟩) n n) (h10 : b 10 = .int .i64 (j : Int)) (h5 : b 5 = .pointer (some ⟨b5, 0, none⟩)) (h2 : b 2 = .pointer (some ⟨b2, 0, none⟩)) (h11 : b 11 = .int .i64 (ix : Int))
    (HC5 : ∀ V, FSt B G rt E c g mb p cap sl b2 b5 M R j (rt ix) u ad ac wr V → Calls Tryd.prog 46 #[gp g, .int .i64 (ix : Int)] V fun e Y => e = .returned (.int .i64 (rt ix : Nat)) ∧ FRel B G rt E c g mb p cap sl V Y)
    {Q : Exit → Act → World → Prop} {ops : Array Oper} (hops : ops = fndOps) (x0 : Nat → Value) (X : World) (hS : FSt B G rt E c g mb p cap sl b2 b5 M R j (rt ix) u ad ac wr X.drew)
    (hfin : ∀ x V, FSt B G rt E c g mb p cap sl b2 b5 M R j (rt ix) u ad ac wr V → x 7 = .agg #[.int .i64 u.kind, .string u.name, .slice ad u.kids.length ac] → Q .normal (fndFr b d x) (((V.setCell ⟨R, j * 3, none⟩ (.int .i64 u.kind)).setCell ⟨R, j * 3 + 1, none⟩ (.string u.name)).setCell ⟨R, j * 3 + 2, none⟩ (.slice ad u.kids.length ac))) : (Code.region 9 ops true).wpIn (Fence.wide.inRound l) nn Tryd.prog Q (fndFr b d x0) X := by
  have HC := Lib.hid (HC5)
  clear HC5
  have hszo : ops.size = 9 + 1 := by rw [hops]; exact fnd_size
  have hcovo : covered ops 9 = true := by rw [hops]; exact fnd_cov
  have hndo : ops.all noDefer = true := by rw [hops]; exact fnd_nd
  refine region_last_round (fndFr b d) (fun V => FSt B G rt E c g mb p cap sl b2 b5 M R j (rt ix) u ad ac wr V) (fun V Y => FRel B G rt E c g mb p cap sl V Y) (fndVals G rt g M R j n ix u ad ac) x0 9 (by kernel_rfl) hndo rfl hS hszo hcovo (fun V Y h hb => h.step hb) (fun i v V Y _ h hb => fndVals_keep i v V Y h hb) ?_
  have HFIN := Lib.hid hfin
  clear hfin hS hszo hcovo hndo
  obtain ⟨gl, hgl⟩ : ∃ qq, LastAt Tryd.prog (fndFr b d) (fun V => FSt B G rt E c g mb p cap sl b2 b5 M R j (rt ix) u ad ac wr V) (fndVals G rt g M R j n ix u ad ac) ops Q 9 = qq := ⟨_, rfl⟩
  rw [hgl]
  obtain ⟨f, hf⟩ : ∃ qq, StepAt Tryd.prog (fndFr b d) (fun V => FSt B G rt E c g mb p cap sl b2 b5 M R j (rt ix) u ad ac wr V) (fun V Y => FRel B G rt E c g mb p cap sl V Y) (fndVals G rt g M R j n ix u ad ac) ops Q = qq := ⟨_, rfl⟩
  rw [hf, hops]
  simp only [fndOps, Tryd.f37, regionIn, Option.getD_some, Nat.reduceBEq, Bool.false_eq_true, if_false, if_true, beq_self_eq_true, Array.append_empty, Array.empty_append, List.append_eq, List.cons_append, List.nil_append, AllBut, Nat.reduceAdd, Nat.zero_add]
  -- 0: slot 44 := Op.move t9
  refine And.intro ?_ ?_
  · clear HFIN hgl
    rw [← hf]; clear hf
    refine ⟨by decide +kernel, fun x v => by kernel_rfl, fun x V hV hdep K hK => ?_⟩
    clear hdep
    refine run_bare (by kernel_rfl) ?_
    unfold fndFr
    go_simp
    refine kfit (hK _ _ (hV.rel) rfl) ?_
    first | (simp only [fndFr, Act.put, List.setIfInBounds_toArray, List.set_cons_zero, List.set_cons_succ, h9, h10, h5, h2, h11]; done) | (simp only [fndFr, Act.put, List.setIfInBounds_toArray, List.set_cons_zero, List.set_cons_succ, h9, h10, h5, h2, h11]; rfl)
  -- 1: slot 45 := Op.move t10
  refine And.intro ?_ ?_
  · clear HFIN hgl
    rw [← hf]; clear hf
    refine ⟨by decide +kernel, fun x v => by kernel_rfl, fun x V hV hdep K hK => ?_⟩
    clear hdep
    refine run_bare (by kernel_rfl) ?_
    unfold fndFr
    go_simp
    refine kfit (hK _ _ (hV.rel) rfl) ?_
    first | (simp only [fndFr, Act.put, List.setIfInBounds_toArray, List.set_cons_zero, List.set_cons_succ, h9, h10, h5, h2, h11]; done) | (simp only [fndFr, Act.put, List.setIfInBounds_toArray, List.set_cons_zero, List.set_cons_succ, h9, h10, h5, h2, h11]; rfl)
  -- 2: slot 46 := Op.load 27 t5
  refine And.intro ?_ ?_
  · clear HFIN hgl
    rw [← hf]; clear hf
    refine ⟨by decide +kernel, fun x v => by kernel_rfl, fun x V hV hdep K hK => ?_⟩
    clear hdep
    refine run_bare (by kernel_rfl) ?_
    unfold fndFr
    obtain ⟨y0, y1, y2, y3, y4, ⟨_, y5⟩, ⟨_, y6⟩, ⟨_, y7⟩, y8, y9, y10, _⟩ := hV.2.2
    go_simp
    refine kfit (hK _ _ (hV.rel) rfl) ?_
    first | (simp only [fndFr, Act.put, List.setIfInBounds_toArray, List.set_cons_zero, List.set_cons_succ, h9, h10, h5, h2, h11]; done) | (simp only [fndFr, Act.put, List.setIfInBounds_toArray, List.set_cons_zero, List.set_cons_succ, h9, h10, h5, h2, h11]; rfl)
  -- 3: slot 47 := Op.load 96 t2
  refine And.intro ?_ ?_
  · clear HFIN hgl
    rw [← hf]; clear hf
    refine ⟨by decide +kernel, fun x v => by kernel_rfl, fun x V hV hdep K hK => ?_⟩
    clear hdep
    refine run_bare (by kernel_rfl) ?_
    unfold fndFr
    obtain ⟨y0, y1, y2, y3, y4, ⟨_, y5⟩, ⟨_, y6⟩, ⟨_, y7⟩, y8, y9, y10, _⟩ := hV.2.2
    go_simp
    refine kfit (hK _ _ (hV.rel) rfl) ?_
    first | (simp only [fndFr, Act.put, List.setIfInBounds_toArray, List.set_cons_zero, List.set_cons_succ, h9, h10, h5, h2, h11]; done) | (simp only [fndFr, Act.put, List.setIfInBounds_toArray, List.set_cons_zero, List.set_cons_succ, h9, h10, h5, h2, h11]; rfl)
  -- 4: slot 48 := Op.move t11
  refine And.intro ?_ ?_
  · clear HFIN hgl
    rw [← hf]; clear hf
    refine ⟨by decide +kernel, fun x v => by kernel_rfl, fun x V hV hdep K hK => ?_⟩
    clear hdep
    refine run_bare (by kernel_rfl) ?_
    unfold fndFr
    go_simp
    refine kfit (hK _ _ (hV.rel) rfl) ?_
    first | (simp only [fndFr, Act.put, List.setIfInBounds_toArray, List.set_cons_zero, List.set_cons_succ, h9, h10, h5, h2, h11]; done) | (simp only [fndFr, Act.put, List.setIfInBounds_toArray, List.set_cons_zero, List.set_cons_succ, h9, h10, h5, h2, h11]; rfl)
  -- 5: slot 49 := Op.call { value (Operand.func 46), args := #[t47, t48], argT
  refine And.intro ?_ ?_
  · clear HFIN hgl
    rw [← hf]; clear hf
    refine ⟨by decide +kernel, fun x v => by kernel_rfl, fun x V hV hdep K hK => ?_⟩
    have e3 : x 3 = gp g := depOf hdep 3 (by decide +kernel)
    have e4 : x 4 = .int .i64 (ix : Int) := depOf hdep 4 (by decide +kernel)
    clear hdep
    refine run_bare (by kernel_rfl) ?_
    unfold fndFr
    have HC5 := HC.out
    have H := HC5 V hV
    replace H := Lib.hid H; clear HC5
    go_simp
    go_at_call 46
    refine H.out.mono ?_
    rintro e Y ⟨rfl, hb⟩; refine kfit (hK _ _ hb rfl) ?_
    first | (simp only [fndFr, Act.put, List.setIfInBounds_toArray, List.set_cons_zero, List.set_cons_succ, h9, h10, h5, h2, h11, e3, e4]; done) | (simp only [fndFr, Act.put, List.setIfInBounds_toArray, List.set_cons_zero, List.set_cons_succ, h9, h10, h5, h2, h11, e3, e4]; rfl)
  -- 6: slot 50 := Op.indexAddr 27 t46 t49
  refine And.intro ?_ ?_
  · clear HFIN hgl
    rw [← hf]; clear hf
    refine ⟨by decide +kernel, fun x v => by kernel_rfl, fun x V hV hdep K hK => ?_⟩
    have e2 : x 2 = .slice (some ⟨M, 0, none⟩) G.N G.N := depOf hdep 2 (by decide +kernel)
    have e5 : x 5 = .int .i64 (rt ix : Nat) := depOf hdep 5 (by decide +kernel)
    clear hdep
    refine run_bare (by kernel_rfl) ?_
    unfold fndFr
    go_simp
    refine kfit (hK _ _ (hV.rel) rfl) ?_
    first | (simp only [fndFr, Act.put, List.setIfInBounds_toArray, List.set_cons_zero, List.set_cons_succ, h9, h10, h5, h2, h11, e2, e5]; done) | (simp only [fndFr, Act.put, List.setIfInBounds_toArray, List.set_cons_zero, List.set_cons_succ, h9, h10, h5, h2, h11, e2, e5]; rfl)
  -- 7: slot 51 := Op.load 29 t50
  refine And.intro ?_ ?_
  · clear HFIN hgl
    rw [← hf]; clear hf
    refine ⟨by decide +kernel, fun x v => by kernel_rfl, fun x V hV hdep K hK => ?_⟩
    have e6 : x 6 = .pointer (some ⟨M, rt ix * 3, none⟩) := depOf hdep 6 (by decide +kernel)
    clear hdep
    refine run_bare (by kernel_rfl) ?_
    unfold fndFr
    obtain ⟨y0, y1, y2, y3, y4, ⟨_, y5⟩, ⟨_, y6⟩, ⟨_, y7⟩, y8, y9, y10, _⟩ := hV.2.2
    go_simp
    refine kfit (hK _ _ (hV.rel) rfl) ?_
    first | (simp only [fndFr, Act.put, List.setIfInBounds_toArray, List.set_cons_zero, List.set_cons_succ, h9, h10, h5, h2, h11, e6]; done) | (simp only [fndFr, Act.put, List.setIfInBounds_toArray, List.set_cons_zero, List.set_cons_succ, h9, h10, h5, h2, h11, e6]; rfl)
  -- 8: slot 52 := Op.indexAddr 27 t44 t45
  refine And.intro ?_ ?_
  · clear HFIN hgl
    rw [← hf]; clear hf
    refine ⟨by decide +kernel, fun x v => by kernel_rfl, fun x V hV hdep K hK => ?_⟩
    have e0 : x 0 = .slice (some ⟨R, 0, none⟩) n n := depOf hdep 0 (by decide +kernel)
    have e1 : x 1 = .int .i64 (j : Int) := depOf hdep 1 (by decide +kernel)
    clear hdep
    refine run_bare (by kernel_rfl) ?_
    unfold fndFr
    go_simp
    refine kfit (hK _ _ (hV.rel) rfl) ?_
    first | (simp only [fndFr, Act.put, List.setIfInBounds_toArray, List.set_cons_zero, List.set_cons_succ, h9, h10, h5, h2, h11, e0, e1]; done) | (simp only [fndFr, Act.put, List.setIfInBounds_toArray, List.set_cons_zero, List.set_cons_succ, h9, h10, h5, h2, h11, e0, e1]; rfl)
  -- 9: slot none := Op.store 29 t52 t51
  · clear HC
    rw [← hgl]; clear hgl
    refine ⟨by decide +kernel, fun x V hV hall K hK => ?_⟩
    have e7 : x 7 = .agg #[.int .i64 u.kind, .string u.name, .slice ad u.kids.length ac] := hall 7 (by decide)
    have e8 : x 8 = .pointer (some ⟨R, j * 3, none⟩) := hall 8 (by decide)
    clear hall
    refine run_bare (by kernel_rfl) ?_
    unfold fndFr
    obtain ⟨y0, y1, y2, y3, y4, ⟨_, y5⟩, ⟨_, y6⟩, ⟨_, y7⟩, y8, y9, y10, _⟩ := hV.2.2
    have H := Lib.hid (HFIN.out x V hV e7)
    clear HFIN hV
    go_simp
    refine kfit (hK undef _ H.out) ?_
    first | (simp only [fndFr, Act.put, h9, h10, h5, h2, h11, e7, e8]; done) | (simp only [fndFr, Act.put, h9, h10, h5, h2, h11, e7, e8]; rfl)
theorem fnd_here {l nn : Nat} {B : Nat} {G : Gr} {rt : Nat → Nat} {E c g mb p cap : Nat} {sl : Nat → Value} {b2 b5 M R j n ix : Nat} {u : T} {ad : Option Addr} {ac : Nat} {wr : World} (hjz : (j : Int) < (n : Int)) (hrz : ((rt ix : Nat) : Int) < (G.N : Int))
    (HC5 : ∀ V, FSt B G rt E c g mb p cap sl b2 b5 M R j (rt ix) u ad ac wr V → Calls Tryd.prog 46 #[gp g, .int .i64 (ix : Int)] V fun e Y => e = .returned (.int .i64 (rt ix : Nat)) ∧ FRel B G rt E c g mb p cap sl V Y)
    {Q : Exit → Act → World → Prop} {ops : Array Oper} {a : Act} (X : World) (hops : ops = fndOps)
    (h9 : a.tmps.getD 9 undef = .slice (some ⟨R, 0, none⟩) n n) (h10 : a.tmps.getD 10 undef = .int .i64 (j : Int)) (h5 : a.tmps.getD 5 undef = .pointer (some ⟨b5, 0, none⟩)) (h2 : a.tmps.getD 2 undef = .pointer (some ⟨b2, 0, none⟩)) (h11 : a.tmps.getD 11 undef = .int .i64 (ix : Int))
    (ha : a = fndFr (fun j => a.tmps.getD j undef) a.defers (fun i => a.tmps.getD (44 + i) undef)) (hS : FSt B G rt E c g mb p cap sl b2 b5 M R j (rt ix) u ad ac wr X.drew)
    (hfin : ∀ x V, FSt B G rt E c g mb p cap sl b2 b5 M R j (rt ix) u ad ac wr V → x 7 = .agg #[.int .i64 u.kind, .string u.name, .slice ad u.kids.length ac] → Q .normal (fndFr (fun j => a.tmps.getD j undef) a.defers x) (((V.setCell ⟨R, j * 3, none⟩ (.int .i64 u.kind)).setCell ⟨R, j * 3 + 1, none⟩ (.string u.name)).setCell ⟨R, j * 3 + 2, none⟩ (.slice ad u.kids.length ac))) : (Code.region 9 ops true).wpIn (Fence.wide.inRound l) nn Tryd.prog Q a X :=
  cast (congrArg (fun z => (Code.region 9 ops true).wpIn (Fence.wide.inRound l) nn Tryd.prog Q z X) ha.symm) (fnd_region hjz hrz (b := fun j => a.tmps.getD j undef) (d := a.defers) h9 h10 h5 h2 h11 HC5 hops _ X hS hfin)
end Go.Proofs.YthpphjkoiipkkaaDoor
/- found: a round of its inner loop, a round of its outer loop. -/
namespace Go.Proofs.YthpphjkoiipkkaaDoor
open Go.RowKit Go.Maps Go.Sort Go.Lib
attribute [local go_sem] Oper.semAt_some

theorem plc_row {w : World} {v : Value} {ls : List Nat} (h : PlcAt w v ls) : ∃ a c g, v = .slice a ls.length c ∧ (g = w.heap.size ∨ ∃ cs fz, w.heap[g]? = some (.cells cs 3 fz)) ∧ ∀ i, i < ls.length → a = some ⟨g, 0, none⟩ ∧ ls.length ≤ c ∧ w.cell? ⟨g, i, none⟩ = some (.int .i64 (ls.getD i 0 : Nat)) := by
  rcases h with ⟨rfl, a, c, rfl⟩ | ⟨q, cap, cs, fz, rfl, h1, h2, h3⟩
  · exact ⟨a, c, w.heap.size, rfl, .inl rfl, fun i hi => by simp at hi⟩
  · refine ⟨_, cap, q, rfl, .inr ⟨cs, fz, h1⟩, fun i hi => ⟨rfl, h2, ?_⟩⟩
    simp only [World.cell?, h1]
    have e : ls.getD i 0 = ls[i] := by simp [List.getD, hi]
    rw [e]
    simpa using h3 i hi
theorem GM.kind {B : Nat} {G : Gr} {rt : Nat → Nat} {E c g mb p cap : Nat} {sl : Nat → Value} {w : World} (h : GM B G rt E c g mb (.slice (some ⟨p, 0, none⟩) G.N cap) sl w) : ∃ cur, w.heap[p]? = some (.cells cur 102 (0, 0)) := by
  obtain ⟨_, _, ⟨_, _, _, r, _⟩, _⟩ := h
  rcases r.2 with ⟨e, _⟩ | ⟨_, _, cur, e, _, hb, _⟩
  · cases e
  · cases e; exact ⟨cur, hb⟩
theorem GM.bp {B : Nat} {G : Gr} {rt : Nat → Nat} {E c g mb p cap : Nat} {sl : Nat → Value} {w : World} (h : GM B G rt E c g mb (.slice (some ⟨p, 0, none⟩) G.N cap) sl w) : B ≤ p := by
  obtain ⟨_, _, ⟨_, _, _, r, _⟩, _⟩ := h; exact (r.lt p rfl).1
/-- What the loop over one type's parts keeps. -/
def LI (B : Nat) (G : Gr) (rt : Nat → Nat) (E c g mb p cap : Nat) (sl : Nat → Value) (M R : Nat) (l : List T) (X1 : World) (j : Nat) (wr : World) : Prop :=
  GM B G rt E c g mb (.slice (some ⟨p, 0, none⟩) G.N cap) sl wr ∧ RowTo (M + 1) R l j wr ∧ (∀ k, k < R → k ≠ p → wr.heap[k]? = X1.heap[k]?) ∧ Below 0 X1 wr ∧ KeepsOthers X1 wr
theorem LI.start {B : Nat} {G : Gr} {rt : Nat → Nat} {E c g mb p cap : Nat} {sl : Nat → Value} {M R n : Nat} {l : List T} {X1 : World} (h : GM B G rt E c g mb (.slice (some ⟨p, 0, none⟩) G.N cap) sl X1) (hR : X1.heap[R]? = some (.cells (zeros n) 29 (0, 0))) (hn : n = l.length) : LI B G rt E c g mb p cap sl M R l X1 0 X1 := by
  subst hn
  exact ⟨h, RowTo.start _ l X1 R hR, fun _ _ _ => rfl, Below.refl _ _, KeepsOthers.refl _⟩
theorem GM.part4 {B : Nat} {G : Gr} {rt : Nat → Nat} {E c g mb p cap : Nat} {sl : Nat → Value} {w : World} (h : GM B G rt E c g mb (.slice (some ⟨p, 0, none⟩) G.N cap) sl w) {i : Nat} (hi : i < G.N) : ∃ x : Nat, w.cell? ⟨p, i * 4 + 3, none⟩ = some (.int .i64 (x : Int)) := by
  obtain ⟨_, _, ⟨nx, hh, _, h4, h5⟩, _⟩ := h
  exact ⟨nx i, (h4.cellAt (i * 4 + 3) (by omega)).trans (rowN_get G.tr sl nx G.N i 3 hi (by omega))⟩

/-- Three stores into one block. -/
def st3 (w : World) (b o : Nat) (x y z : Value) : World := ((w.setCell ⟨b, o, none⟩ x).setCell ⟨b, o + 1, none⟩ y).setCell ⟨b, o + 2, none⟩ z
theorem st3_heap (w : World) (b o : Nat) (x y z : Value) {k : Nat} (h : k ≠ b) : (st3 w b o x y z).heap[k]? = w.heap[k]? :=
  (Below.heap_setCell _ ⟨b, o + 2, none⟩ _ k h).trans ((Below.heap_setCell _ ⟨b, o + 1, none⟩ _ k h).trans (Below.heap_setCell _ ⟨b, o, none⟩ _ k h))
theorem st3_size (w : World) (b o : Nat) (x y z : Value) : (st3 w b o x y z).heap.size = w.heap.size := by simp [st3, World.setCell]
theorem st3_below (w : World) (b o : Nat) (x y z : Value) {N : Nat} (h : N ≤ b) : Below N w (st3 w b o x y z) := ⟨rfl, rfl, rfl, by rw [st3_size]; exact Nat.le_refl _, fun k hk => st3_heap w b o x y z (by omega)⟩
theorem st3_others (w : World) (b o : Nat) (x y z : Value) : KeepsOthers w (st3 w b o x y z) := ((KeepsOthers.setCell _ _ _).trans (KeepsOthers.setCell _ _ _)).trans (KeepsOthers.setCell _ _ _)
theorem Fr.others {p : Nat} {w v : World} (h : Fr p w v) {cs : Array Value} {T : TypeId} {fz : Nat × Nat} (hp : w.heap[p]? = some (.cells cs T fz)) : KeepsOthers w v :=
  ⟨h.1.size, fun k o hk ho => (h.2 k (Array.getElem?_eq_some_iff.1 hk).1 (fun e => by subst e; rw [hp] at hk; cases hk; cases ho)).trans hk⟩
theorem LI.next {B : Nat} {G : Gr} {rt : Nat → Nat} {E c g mb p cap : Nat} {sl : Nat → Value} {M R j : Nat} {l : List T} {X X1 wr V : World} {u : T} {a : Option Addr} {ac : Nat} (hX : GM B G rt E c g mb (.slice (some ⟨p, 0, none⟩) G.N cap) sl X) (hXR : X.heap.size ≤ R) (h : LI B G rt E c g mb p cap sl M R l X1 j wr) (hV : GM B G rt E c g mb (.slice (some ⟨p, 0, none⟩) G.N cap) sl V) (hF : Fr p wr V) (hj : j < l.length) (hu : l[j] = u)
    (hty : TyIn (fun k => (M + 1 ≤ k ∧ k ≠ R) ∧ k < V.heap.size) V u (.slice a u.kids.length ac)) (hpM : p < M + 1) (hpR : p < R) : LI B G rt E c g mb p cap sl M R l X1 (j + 1) (st3 V R (j * 3) (.int .i64 u.kind) (.string u.name) (.slice a u.kids.length ac)) := by
  subst hu
  obtain ⟨h1, h2, h3, h4, h5⟩ := h
  have hRl := (h2.cells hj)
  obtain ⟨_, _, _, r0, _⟩ := hRl
  have hRs : R < wr.heap.size := World.block_lt_of_cell? wr ⟨R, j * 3, none⟩ r0
  refine ⟨GM.low hX hV (st3_below _ _ _ _ _ _ hXR), RowTo.next (h2.fr hF hpM hpR) hj hty, fun k hk hkp => ?_, h4.trans (hF.1.trans (st3_below _ _ _ _ _ _ (Nat.zero_le _))), h5.trans ((hF.others h1.kind.choose_spec).trans (st3_others _ _ _ _ _ _))⟩
  exact (st3_heap _ _ _ _ _ _ (by omega)).trans ((hF.2 k (by omega) hkp).trans (h3 k hk hkp))
/-- The end of a round of the outer loop. -/
theorem FI.round {B : Nat} {G : Gr} {rt : Nat → Nat} {σ : Sg} {E c g mb p cap D i t n : Nat} {sl : Nat → Value} {ls pre : List Nat} {w X X1 wr : World} (gi : GI G rt) (hsi : SI G σ rt)
    (hb0 : X.heap[w.heap.size]? = some (.cells #[gp g] 96 (0, 0))) (hb1 : X.heap[w.heap.size + 1]? = some (.cells #[.slice none 0 0] 33 (0, 0)))
    (hb3 : X.heap[w.heap.size + 1 + 1 + 1]? = some (.cells #[.slice (some ⟨w.heap.size + 1 + 1, 0, none⟩) G.N G.N] 27 (0, 0))) (hpre : pre ++ (List.range (i + 1)).reverse = (List.range ls.length).reverse) (hD : D ≤ X.heap.size)
    (hmade : MadeAt (w.heap.size + 1 + 1) D G.N (fun i => sub σ (G.tr i)) (dnOf ls (i + 1)) X) (hlow : Below B w X) (hbX : Below X.heap.size X X1) (hoX : KeepsOthers X X1) (hX1 : X1.heap.size = X.heap.size + 1 + 1)
    (hL : LI B G rt E c g mb p cap sl (w.heap.size + 1 + 1) (X.heap.size + 1) ((G.ag t).map fun x => sub σ (G.tr (rt x))) X1 n wr) (hn : (G.ag t).length = n) (htN : t < G.N) (htr : rt t = t) (hti : ls.getD i 0 = t) (hw : GM B G rt E c g mb (.slice (some ⟨p, 0, none⟩) G.N cap) sl w) (hpw : p < w.heap.size) (hBp : B ≤ p) {k : Int} {nm : ByteArray} (hk : (G.tr t).kind = k) (hnm : (G.tr t).name = nm) :
    KeepsOthers X (st3 wr (w.heap.size + 1 + 1) (t * 3) (.int .i64 k) (.string nm) (.slice (some ⟨X.heap.size + 1, 0, none⟩) n n)) ∧ (∀ k', ¬ (k' = p ∨ k' = w.heap.size + 1 + 1) → k' < X.heap.size → (st3 wr (w.heap.size + 1 + 1) (t * 3) (.int .i64 k) (.string nm) (.slice (some ⟨X.heap.size + 1, 0, none⟩) n n)).heap[k']? = X.heap[k']?) ∧
      FI B G rt E c g mb p cap sl σ ls w (pre ++ [i]) (st3 wr (w.heap.size + 1 + 1) (t * 3) (.int .i64 k) (.string nm) (.slice (some ⟨X.heap.size + 1, 0, none⟩) n n)) := by
  subst hk hnm hn
  obtain ⟨h1, h2, h3, h4, h5⟩ := hL
  obtain ⟨e1, e2, e3⟩ := sub_place gi hsi htN htr
  have hMs : w.heap.size + 1 + 1 + 1 < X.heap.size := (Array.getElem?_eq_some_iff.1 hb3).1
  have hsw : X.heap.size + 1 + 1 ≤ wr.heap.size := by rw [← hX1]; exact h4.size
  have keep : ∀ k, k ≠ p → k < X.heap.size → wr.heap[k]? = X.heap[k]? := fun k hkp hk => (h3 k (by omega) hkp).trans (hbX.block k hk)
  have keep' : ∀ k, k ≠ p → k ≠ w.heap.size + 1 + 1 → k < X.heap.size → (st3 wr (w.heap.size + 1 + 1) (t * 3) (.int .i64 (G.tr t).kind) (.string (G.tr t).name) (.slice (some ⟨X.heap.size + 1, 0, none⟩) (G.ag t).length (G.ag t).length)).heap[k]? = X.heap[k]? := fun k h h' hk => (st3_heap _ _ _ _ _ _ h').trans (keep k h hk)
  refine ⟨(hoX.trans h5).trans (st3_others _ _ _ _ _ _), fun k hk hkX => keep' k (fun e => hk (.inl e)) (fun e => hk (.inr e)) hkX, ?_⟩
  have hmw : MadeAt (w.heap.size + 1 + 1) wr.heap.size G.N (fun i => sub σ (G.tr i)) (dnOf ls (i + 1)) wr := hmade.keep (fun k cs fz hk1 hk2 hk => (keep k (by omega) (Array.getElem?_eq_some_iff.1 hk).1).trans hk) (by omega)
  have hfin := h2
  rw [show (G.ag t).length = ((G.ag t).map fun x => sub σ (G.tr (rt x))).length from (List.length_map ..).symm] at hfin
  have hty := hfin.fin (by omega) (t := sub σ (G.tr t)) e3
  rw [List.length_map] at hty
  have hset := hmw.set (i := t) htN hty (dn' := dnOf ls i) (fun j hj => by
    rcases dnOf_step j hj with h | h
    · exact .inl h
    · exact .inr (h.trans hti))
  rw [e1, e2] at hset
  have hpl : ∀ k, k < w.heap.size + 1 + 1 → k ≠ p → k < X.heap.size → (st3 wr (w.heap.size + 1 + 1) (t * 3) (.int .i64 (G.tr t).kind) (.string (G.tr t).name) (.slice (some ⟨X.heap.size + 1, 0, none⟩) (G.ag t).length (G.ag t).length)).heap[k]? = X.heap[k]? := fun k h h' hk => keep' k h' (by omega) hk
  have hbm : Below (w.heap.size + 1 + 1) wr (st3 wr (w.heap.size + 1 + 1) (t * 3) (.int .i64 (G.tr t).kind) (.string (G.tr t).name) (.slice (some ⟨X.heap.size + 1, 0, none⟩) (G.ag t).length (G.ag t).length)) := st3_below _ _ _ _ _ _ (Nat.le_refl _)
  refine ⟨?_, (hpl _ (by omega) (by omega) (by omega)).trans hb0, (hpl _ (by omega) (by omega) (by omega)).trans hb1, (keep' _ (by omega) (by omega) (by omega)).trans hb3, ⟨i, wr.heap.size, ?_, by rw [st3_size]; exact Nat.le_refl _, by omega, hset⟩, ?_⟩
  · exact GM.low hw h1 (hbm.mono (by omega))
  · rw [← hpre, List.range_succ, List.reverse_append]; simp
  · refine ⟨hbm.os.trans (h4.os.trans (hbX.os.trans hlow.os)), hbm.tape.trans (h4.tape.trans (hbX.tape.trans hlow.tape)), hbm.output.trans (h4.output.trans (hbX.output.trans hlow.output)), by rw [st3_size]; have := hlow.size; omega, fun k hk => ?_⟩
    exact (keep' k (by omega) (by omega) (by omega)).trans (hlow.block k hk)
end Go.Proofs.YthpphjkoiipkkaaDoor
