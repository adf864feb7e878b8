/- Merged: SbOthersA, Range, SbOthersR, SbIter, SbGet, SbPairs, SbThen, RegLast, SbThenA, SbThenB, SbNext, UgFoundB, RegRound, UgFoundC, UgFoundR, UgFoundE. -/
import Derived.Test.YtdcfemojkdoakaaDoorVm4
import Derived.Stop.RegionWithIn
import Derived.OwnWalkIn
import Derived.TacticsInMore
import Derived.LoopNIn
import Derived.LoopIn
import Derived.Deep.RegionLaw
import Derived.Test.YtdcfemojkdoakaaDoorVm3
import Derived.RangeFuncFrom
import Derived.OrdersIn
/- SubstOthers: plain facts; what its last statement keeps. -/
namespace Go.Proofs.YtdcfemojkdoakaaDoor
open Go.RowKit Go.Sort Go.Lib
attribute [local go_sem] Oper.semAt_some

/-- Type t lies in block b. -/
def BoxT (b : Nat) (t : T) (a : Option Addr) (c : Nat) (w : World) : Prop :=
  w.heap[b]? = some (.cells #[.int .i64 t.kind, .string t.name, .slice a t.kids.length c] 29 (0, 0)) ∧ TysAt w (.slice a t.kids.length c) t.kids
theorem BoxT.below {b : Nat} {t : T} {a : Option Addr} {c : Nat} {w W : World} (h : BoxT b t a c w) (hb : Below w.heap.size w W) : BoxT b t a c W :=
  ⟨(hb.block b (Array.getElem?_eq_some_iff.1 h.1).1).trans h.1, h.2.keep (KeepT.of_below hb)⟩
theorem BoxT.alloc {b : Nat} {t : T} {a : Option Addr} {c : Nat} {w : World} (h : BoxT b t a c w) (o : Obj) : BoxT b t a c (w.alloc o) := h.below ((Below.refl _ w).alloc (Nat.le_refl _) o)
theorem BoxT.new {t : T} {a : Option Addr} {c : Nat} {w : World} (h : TysAt w (.slice a t.kids.length c) t.kids) : BoxT w.heap.size t a c (w.alloc (.cells #[.int .i64 t.kind, .string t.name, .slice a t.kids.length c] 29)) :=
  ⟨alloc_new w _, h.keep (keepT_alloc w _)⟩
theorem BoxT.cells {b : Nat} {t : T} {a : Option Addr} {c : Nat} {w : World} (h : BoxT b t a c w) : w.cell? ⟨b, 0, none⟩ = some (.int .i64 t.kind) ∧ w.cell? ⟨b, 1, none⟩ = some (.string t.name) ∧ w.cell? ⟨b, 2, none⟩ = some (.slice a t.kids.length c) := three_cells h.1
theorem BoxT.lt {b : Nat} {t : T} {a : Option Addr} {c : Nat} {w : World} (h : BoxT b t a c w) : b < w.heap.size := (Array.getElem?_eq_some_iff.1 h.1).1
/-- Types for variables lie in block b. -/
def BoxS (b : Nat) (v : Value) (d : List PR) (w : World) : Prop := w.heap[b]? = some (.cells #[v] 33 (0, 0)) ∧ SubAt v d w
theorem BoxS.below {b : Nat} {v : Value} {d : List PR} {w W : World} (h : BoxS b v d w) (hb : Below w.heap.size w W) : BoxS b v d W := ⟨(hb.block b (Array.getElem?_eq_some_iff.1 h.1).1).trans h.1, h.2.below hb⟩
theorem BoxS.alloc {b : Nat} {v : Value} {d : List PR} {w : World} (h : BoxS b v d w) (o : Obj) : BoxS b v d (w.alloc o) := h.below ((Below.refl _ w).alloc (Nat.le_refl _) o)
theorem BoxS.new {v : Value} {d : List PR} {w : World} (h : SubAt v d w) : BoxS w.heap.size v d (w.alloc (.cells #[v] 33)) := ⟨alloc_new w _, h.below ((Below.refl _ w).alloc (Nat.le_refl _) _)⟩
theorem BoxS.cell {b : Nat} {v : Value} {d : List PR} {w : World} (h : BoxS b v d w) : w.cell? ⟨b, 0, none⟩ = some v := by rw [Lib.cell_of_heap h.1]; rfl
theorem BoxS.lt {b : Nat} {v : Value} {d : List PR} {w : World} (h : BoxS b v d w) : b < w.heap.size := (Array.getElem?_eq_some_iff.1 h.1).1
theorem with_calls {P : Program} {f : Nat} {args : Array Value} {R : Ending → World → Prop} {w : World} (S : World → Prop) (h : S w) (k : ∀ W, S W → Calls P f args W R) : Calls P f args w R := k w h
theorem seq_new {w0 w : World} {a : Option Addr} {n c : Nat} (hb : Below w0.heap.size w0 w) (hl : IntsAt w0.heap.size a n w0) : SeqAt w0.heap.size w.heap.size a n c 0 (w.alloc (.cells #[.slice a n c, .int .i64 0] 26)) :=
  ⟨⟨hb.size, alloc_new w _⟩, hl.keep (hb.alloc hb.size _)⟩
theorem strs_two (w : World) (x y : ByteArray) : StrsP (.slice (some ⟨w.heap.size, 0, none⟩) 2 2) [x, y] (w.alloc (.cells #[.string x, .string y] 9)) :=
  .inr ⟨w.heap.size, 0, 2, rfl, by simp, fun i hi => by
    have h := alloc_new w (.cells #[.string x, .string y] 9)
    rw [Lib.cell_of_heap h]
    match i, hi with
    | 0, _ => rfl
    | 1, _ => rfl
    | n + 2, hi => simp at hi; omega⟩
theorem strs_three {w : World} {b : Nat} {x y z : ByteArray} (h : w.heap[b]? = some (.cells #[.string x, .string y, .string z] 9 (0, 0))) : StrsP (.slice (some ⟨b, 0, none⟩) 3 3) [x, y, z] w :=
  .inr ⟨b, 0, 3, rfl, (Array.getElem?_eq_some_iff.1 h).1, fun i hi => by
    rw [Lib.cell_of_heap h]
    match i, hi with
    | 0, _ => rfl
    | 1, _ => rfl
    | 2, _ => rfl
    | n + 3, hi => simp at hi; omega⟩

/-! Names for names. -/
/-- Of a made type: what is the same at a, b, c is the same. -/
theorem app_ext (d d' : List PR) (h : ∀ n : ByteArray, n.data.toList ∈ T.vnames → app d (.var n) = app d' (.var n)) : ∀ t, T.Good t → app d t = app d' t := by
  intro t
  refine T.by_kids (P := fun t => T.Good t → app d t = app d' t) (fun t H ht => ?_) t
  cases t with
  | var n => exact h n (by rwa [T.Good] at ht)
  | con n l =>
    rw [app, app, apps_map, apps_map]
    congr 1
    rw [T.Good] at ht
    exact List.map_congr_left fun k hk => H k hk (goods_mem ht.2 k hk)
  | fn a b =>
    rw [T.Good] at ht
    rw [app, app, H a (by simp [T.kids]) ht.1, H b (by simp [T.kids]) ht.2]
  | all n a => rw [T.Good] at ht; exact ht.elim
where
  goods_mem {l : List T} (h : T.Goods l) : ∀ k ∈ l, T.Good k := by
    induction l with
    | nil => intro k hk; cases hk
    | cons a l ih =>
      rw [T.Goods] at h
      intro k hk
      rcases List.mem_cons.1 hk with rfl | hk
      · exact h.1
      · exact ih h.2 k hk
theorem app_round (d d' : List PR) (h : ∀ n : ByteArray, n.data.toList ∈ T.vnames → app d (app d' (.var n)) = .var n) : ∀ t, T.Good t → app d (app d' t) = t := by
  intro t
  refine T.by_kids (P := fun t => T.Good t → app d (app d' t) = t) (fun t H ht => ?_) t
  cases t with
  | var n => exact h n (by rwa [T.Good] at ht)
  | con n l =>
    rw [app, app, apps_map, apps_map, List.map_map]
    congr 1
    rw [T.Good] at ht
    conv => rhs; rw [← List.map_id l]
    exact List.map_congr_left fun k hk => H k hk (app_ext.goods_mem ht.2 k hk)
  | fn a b =>
    rw [T.Good] at ht
    rw [app, app, H a (by simp [T.kids]) ht.1, H b (by simp [T.kids]) ht.2]
  | all n a => rw [T.Good] at ht; exact ht.elim
theorem app_same (d : List PR) (h : ∀ n : ByteArray, n.data.toList ∈ T.vnames → app d (.var n) = .var n) (t : T) (ht : T.Good t) : app d t = t := by
  have := app_round d [] (fun n hn => by rw [app_nil]; exact h n hn) t ht
  rwa [app_nil] at this
theorem size_app (d : List PR) (h : ∀ n : ByteArray, n.data.toList ∈ T.vnames → tsize (app d (.var n)) = 1) : ∀ t, T.Good t → tsize (app d t) = tsize t := by
  intro t
  refine T.by_kids (P := fun t => T.Good t → tsize (app d t) = tsize t) (fun t H ht => ?_) t
  cases t with
  | var n => rw [h n (by rwa [T.Good] at ht)]; rfl
  | con n l =>
    rw [T.Good] at ht
    rw [app, tsize, tsize, apps_map]
    have key : ∀ m : List T, (∀ k ∈ m, k ∈ l) → tsizes (m.map (app d)) = tsizes m := by
      intro m
      induction m with
      | nil => intro _; rfl
      | cons a m ih =>
        intro hm
        rw [List.map_cons, tsizes, tsizes, ih (fun k hk => hm k (List.mem_cons_of_mem _ hk)), H a (hm a (List.mem_cons_self ..)) (app_ext.goods_mem ht.2 a (hm a (List.mem_cons_self ..)))]
    rw [key l (fun k hk => hk)]
  | fn a b =>
    rw [T.Good] at ht
    rw [app, tsize, tsize, H a (by simp [T.kids]) ht.1, H b (by simp [T.kids]) ht.2]
  | all n a => rw [T.Good] at ht; exact ht.elim

def nA : ByteArray := ⟨#[97]⟩
def nB : ByteArray := ⟨#[98]⟩
def nC : ByteArray := ⟨#[99]⟩
def nX : ByteArray := ⟨#[120]⟩
def nZ : ByteArray := ⟨#[122, 122]⟩
theorem vn_cases {n : ByteArray} (h : n.data.toList ∈ T.vnames) : n = nA ∨ n = nB ∨ n = nC := by
  simp only [T.vnames, List.mem_cons, List.not_mem_nil, or_false] at h
  cases n with | mk d => cases d with | mk l =>
    simp only at h
    rcases h with rfl | rfl | rfl
    · exact .inl rfl
    · exact .inr (.inl rfl)
    · exact .inr (.inr rfl)
theorem app_v (n : ByteArray) (d : List PR) : app d (.var n) = ty n d := rfl
def dS : List PR := [⟨nA, .var nB, none, 0⟩, ⟨nB, .var nA, none, 0⟩]
def dU : List PR := [⟨nZ, .var nA, none, 0⟩]
def fromL : List ByteArray := [nA, nB, nC]
def toL : List ByteArray := [nC, nX, nB]
theorem tyc {n m : ByteArray} {t : T} {a : Option Addr} {c : Nat} {l : List PR} : ty n (⟨m, t, a, c⟩ :: l) = if m = n then t else ty n l := ty_cons n ⟨m, t, a, c⟩ l
theorem swap_twice (t : T) (h : T.Good t) : app dS (app dS t) = t := by
  refine app_round _ _ (fun n hn => ?_) t h
  rcases vn_cases hn with rfl | rfl | rfl
  · rw [app_v, dS, tyc, if_pos rfl, app_v, tyc, if_neg (by decide), tyc, if_pos rfl]
  · rw [app_v, dS, tyc, if_neg (by decide), tyc, if_pos rfl, app_v, tyc, if_pos rfl]
  · rw [app_v, dS, tyc, if_neg (by decide), tyc, if_neg (by decide), ty_nil, app_v, tyc, if_neg (by decide), tyc, if_neg (by decide), ty_nil]
theorem stays (t : T) (h : T.Good t) : app dU t = t := by
  refine app_same _ (fun n hn => ?_) t h
  rcases vn_cases hn with rfl | rfl | rfl <;> rw [app_v, dU, tyc, if_neg (by decide), ty_nil]
def dF : List PR := [⟨nA, .var nC, none, 0⟩, ⟨nB, .var nX, none, 0⟩, ⟨nC, .var nB, none, 0⟩]
def dT : List PR := [⟨nC, .var nA, none, 0⟩, ⟨nX, .var nB, none, 0⟩, ⟨nB, .var nC, none, 0⟩]
theorem prs_ft : prs fromL toL = dF := rfl
theorem prs_tf : prs toL fromL = dT := rfl
theorem there_back (t : T) (h : T.Good t) : app (prs toL fromL) (app (prs fromL toL) t) = t := by
  rw [prs_ft, prs_tf]
  refine app_round _ _ (fun n hn => ?_) t h
  rcases vn_cases hn with rfl | rfl | rfl
  · rw [app_v, dF, tyc, if_pos rfl, app_v, dT, tyc, if_pos rfl]
  · rw [app_v, dF, tyc, if_neg (by decide), tyc, if_pos rfl, app_v, dT, tyc, if_neg (by decide), tyc, if_pos rfl]
  · rw [app_v, dF, tyc, if_neg (by decide), tyc, if_neg (by decide), tyc, if_pos rfl, app_v, dT, tyc, if_neg (by decide), tyc, if_neg (by decide), tyc, if_pos rfl]
theorem swap_names (t : T) (h : T.Good t) : app (prs [nA, nB] [nB, nA]) t = app dS t := by
  refine app_ext _ _ (fun n _ => ?_) t h
  rfl
theorem swap_size (t : T) (h : T.Good t) : tsize (app dS t) = tsize t := by
  refine size_app _ (fun n hn => ?_) t h
  rcases vn_cases hn with rfl | rfl | rfl
  · rw [app_v, dS, tyc, if_pos rfl]; rfl
  · rw [app_v, dS, tyc, if_neg (by decide), tyc, if_pos rfl]; rfl
  · rw [app_v, dS, tyc, if_neg (by decide), tyc, if_neg (by decide), ty_nil]; rfl
theorem there_size (t : T) (h : T.Good t) : tsize (app (prs fromL toL) t) = tsize t := by
  rw [prs_ft]
  refine size_app _ (fun n hn => ?_) t h
  rcases vn_cases hn with rfl | rfl | rfl
  · rw [app_v, dF, tyc, if_pos rfl]; rfl
  · rw [app_v, dF, tyc, if_neg (by decide), tyc, if_pos rfl]; rfl
  · rw [app_v, dF, tyc, if_neg (by decide), tyc, if_neg (by decide), tyc, if_pos rfl]; rfl

theorem sized_made {d l : List PR} (h : Made d l) (hd : SizedAll d) : SizedAll l := fun x hx => by
  obtain ⟨y, hy, _, e⟩ := h.sub x hx
  rw [e]; exact hd y hy
/-- Calls whose results are told. -/
theorem apply_ret {d0 l : List PR} {t t' : T} (hm : Made d0 l) (hd : SizedAll d0) (hl : d0.length ≤ 1000) (ht : tsize t ≤ 1000000000) (e : app d0 t = t') {s : Value} {a : Option Addr} {c : Nat} {w : World} (hs : SubAt s l w) (h : TysAt w (.slice a t.kids.length c) t.kids) :
    Calls Tryd.prog 14 #[.agg #[s], .agg #[.int .i64 t.kind, .string t.name, .slice a t.kids.length c]] w fun e Y => (∃ za zc, e = .returned (.agg #[.int .i64 t'.kind, .string t'.name, .slice za t'.kids.length zc]) ∧ TysAt Y (.slice za t'.kids.length zc) t'.kids) ∧ Below w.heap.size w Y := by
  refine (apply_any (d := l) (t := t) (s := s) (w := w) (by have := hm.len; omega) (sized_made hm hd) ht hs h).mono ?_
  rintro e1 w5 ⟨⟨a, c, rfl, hin⟩, hb5⟩
  rw [made_ty hm, e] at hin ⊢
  exact ⟨⟨a, c, rfl, hin.tys⟩, hb5⟩
theorem same_ret {t : T} (ht : tsize t ≤ 1000000000) {a b : Option Addr} {c d : Nat} {w : World} (h : TysAt w (.slice a t.kids.length c) t.kids) (h' : TysAt w (.slice b t.kids.length d) t.kids) :
    Calls Tryd.prog 13 #[.agg #[.int .i64 t.kind, .string t.name, .slice a t.kids.length c], .agg #[.int .i64 t.kind, .string t.name, .slice b t.kids.length d]] w fun e Y => e = .returned (.bool true) ∧ Below w.heap.size w Y := by
  have := sameType_any (t := t) (t' := t) (w := w) (fits_small ht) h h'
  rwa [eqB_true rfl] at this
theorem size_ret {t : T} {n : Nat} (ht : tsize t ≤ 1000000000) (e : tsize t = n) {a : Option Addr} {c : Nat} {w : World} (h : TysAt w (.slice a t.kids.length c) t.kids) :
    Calls Tryd.prog 36 #[.agg #[.int .i64 t.kind, .string t.name, .slice a t.kids.length c]] w fun e Y => e = .returned (.int .i64 (n : Nat)) ∧ Below w.heap.size w Y := by
  subst e; exact rsize_any ht h

/-- What the last statement of SubstOthers keeps. -/
def SO (w : World) (b5 b8 b9 b12 : Nat) (t sw : T) (pa pw : Option Addr) (ca cw : Nat) (sv uv frv tov : Value) (ls lu : List PR) (X : World) : Prop :=
  (BoxT b5 t pa ca X ∧ BoxT b12 sw pw cw X) ∧ (BoxS b8 sv ls X ∧ BoxS b9 uv lu X) ∧ (StrsP frv fromL X ∧ StrsP tov toL X) ∧ Below w.heap.size w X
theorem SO.below {w : World} {b5 b8 b9 b12 : Nat} {t sw : T} {pa pw : Option Addr} {ca cw : Nat} {sv uv frv tov : Value} {ls lu : List PR} {X Y : World} (h : SO w b5 b8 b9 b12 t sw pa pw ca cw sv uv frv tov ls lu X) (hb : Below X.heap.size X Y) : SO w b5 b8 b9 b12 t sw pa pw ca cw sv uv frv tov ls lu Y :=
  ⟨⟨h.1.1.below hb, h.1.2.below hb⟩, ⟨h.2.1.1.below hb, h.2.1.2.below hb⟩, ⟨h.2.2.1.1.below hb, h.2.2.1.2.below hb⟩, h.2.2.2.trans (hb.mono h.2.2.2.size)⟩
theorem SO.cells {w : World} {b5 b8 b9 b12 : Nat} {t sw : T} {pa pw : Option Addr} {ca cw : Nat} {sv uv frv tov : Value} {ls lu : List PR} {X : World} (h : SO w b5 b8 b9 b12 t sw pa pw ca cw sv uv frv tov ls lu X) :
    (X.cell? ⟨b5, 0, none⟩ = some (.int .i64 t.kind) ∧ X.cell? ⟨b5, 1, none⟩ = some (.string t.name) ∧ X.cell? ⟨b5, 2, none⟩ = some (.slice pa t.kids.length ca)) ∧ (X.cell? ⟨b12, 0, none⟩ = some (.int .i64 sw.kind) ∧ X.cell? ⟨b12, 1, none⟩ = some (.string sw.name) ∧ X.cell? ⟨b12, 2, none⟩ = some (.slice pw sw.kids.length cw)) ∧
    X.cell? ⟨b8, 0, none⟩ = some sv ∧ X.cell? ⟨b9, 0, none⟩ = some uv := ⟨h.1.1.cells, h.1.2.cells, h.2.1.1.cell, h.2.1.2.cell⟩
end Go.Proofs.YtdcfemojkdoakaaDoor
/- A loop over an iterator, once more: the rounds are told of the memory since the last round's end; the loop may be left by one jump (a return, or a break); what a round's frame holds may hang on what the body keeps. -/
namespace Go.Proofs.YtdcfemojkdoakaaDoor
open Go.RowKit

/-- The contract. Between two rounds the iterator may have laid blocks ('Below', from X0, where the last round ended, to X, where the next begins); the rounds may be told 'Ex x' of the world in which they are handed x; a round that goes on keeps what the iterator has laid since X0, and the blocks of K. -/
def SeqGen {α : Type} (n : Nat) (P : Program) (g : Nat) (lb : Array Value) (encs : α → Array Value) (Ex : List α → α → World → World → Prop) (K : Nat → Prop) (S Sp : List α → Prop) (N : Nat) (w : World) : Prop :=
  ∀ (l : Nat) (J Jx : List α → World → Prop) (W : World), Below w.heap.size w W →
    (∀ pre x X0 X, J pre X0 → pre.length < N → Below X0.heap.size X0 X → Ex pre x X0 X → YieldAt Fence.wide (n - 1) P l (encs x) X fun e Y =>
      (e = .returned (.bool true) ∧ J (pre ++ [x]) Y ∧ Kept K X0.heap.size X Y) ∨ (e = .returned (.bool false) ∧ Jx (pre ++ [x]) Y)) →
    J [] W →
    CallsIn Fence.wide n P g (#[.func (.yield l) #[] #[]] ++ lb) W fun e Y => (∃ v, e = .returned v) ∧ ((∃ xs, S xs ∧ J xs Y) ∨ (∃ pre, Sp pre ∧ Jx pre Y))

/-- How a round's body may be left: by its end, or by a return. The body may write the blocks of T alone, and what it has made itself. -/
def RoundGen {σ α : Type} (jump : Code) (B : Nat) (T : Nat → Prop) (I : σ → List α → World → Prop) (Ix : List α → World → Prop) (xs : List α) (X : World) : Exit → Act → World → Prop
  | .normal, _, Y => KeepsFrom B X Y ∧ (∀ k, ¬ T k → k < X.heap.size → Y.heap[k]? = X.heap[k]?) ∧ ∃ s, I s xs Y
  | .ret, _, Y => jump = .ret ∧ KeepsFrom B X Y ∧ Ix xs Y
  | .exit id, _, Y => jump = .exit id ∧ KeepsFrom B X Y ∧ Ix xs Y
  | _, _, _ => False

/-- **The statement 'for .. := range f', its body left by its end or by a return.** 's': what the body keeps of its own; 'T s': the blocks that it may write there. -/
theorem range_gen {n : Nat} {P : Program} {σ α : Type} {g : Operand} {ps : Array Tmp} {assign body : Code} {Q : Exit → Act → World → Prop} {a : Act} {w : World} (h1 : 1 ≤ n)
    {gf : Nat} {lb : Array Value} (hg : a.eval g = .func (.func gf) #[] lb) (eg : ∀ args w, (callFunc gf args).run P w = .ok (.enter gf args) w)
    {encs : α → Array Value} {Ex : List α → α → World → World → Prop} {K : Nat → Prop} {S Sp : List α → Prop} {N : Nat} {w0 : World} (hseq : SeqGen (n - 1) P gf lb encs Ex K S Sp N w0)
    (hK : ∀ k, K k → k < w.heap.size) (hb0 : Below w0.heap.size w0 w) (hps : ∀ x, (encs x).size = ps.size)
    (I : σ → List α → World → Prop) (Ix : List α → World → Prop) (T : σ → Nat → Prop) (hI : ∀ s, OwnFrom w.heap.size (I s)) (hIx : OwnFrom w.heap.size Ix)
    (hT : ∀ s pre X k, I s pre X → T s k → k < X.heap.size ∧ ¬ K k) (h0 : ∃ s, I s [] w)
    (Ax : σ → List α → α → Act → World → Prop) (hAx : ∀ s pre x a', OwnFrom w.heap.size (fun (_ : Unit) W => Ax s pre x a' W)) (jump : Code)
    (hassign : ∀ (l : Nat) (s : σ) (pre : List α) (x : α) (X0 X : World) (C : Act → World → Prop), I s pre X0 → Below X0.heap.size X0 X → I s pre X → Ex pre x X0 X →
      (∀ a' Y, KeepsFrom w.heap.size X Y → Below X.heap.size X Y → Ax s pre x a' Y → C a' Y) →
      assign.wpIn (Fence.wide.inRound l) (n - 1 - 1) P (Exit.then C (fun _ _ _ => False)) { tmps := (ps.zip (encs x)).foldl (fun t (p, v) => t.setIfInBounds p v) a.tmps, defers := [] } X)
    (hbody : ∀ (l : Nat) (s : σ) (pre : List α) (x : α) (a' : Act) (X : World), I s pre X → pre.length < N → Ax s pre x a' X → body.wpIn (Fence.wide.inRound l) (n - 1 - 1) P (RoundGen jump w.heap.size (T s) I Ix (pre ++ [x]) X) a' X)
    (hdone : ∀ (D : Nat) (s : σ) (xs : List α) (W : World), w.heap.size ≤ D → S xs → I s xs W → W.heap[D]? = some (.deferred (some [])) → Q .normal { a with defers := { target := .collected D, args := #[] } :: a.defers } W)
    (hstop : ∀ (D : Nat) (pre : List α) (W : World), w.heap.size ≤ D → Sp pre → Ix pre W → W.heap[D]? = some (.deferred (some [])) → jump.wpIn Fence.wide n P Q { a with defers := { target := .collected D, args := #[] } :: a.defers } W) :
    (Code.rangeFunc g ps assign body).wpIn Fence.wide n P Q a w := by
  refine wpIn_rangeFunc fun fn _ => ?_
  -- the two blocks that the loop lays: the rounds' deferred calls at B, the record behind it
  generalize hB : w.heap.size = B at *
  obtain ⟨R, hR⟩ : ∃ R : LoopState → Option Code → Obj, R = fun st pe => .loop { state := st, pending := pe, fn, tmps := a.tmps, params := ps, assign, body, defers := B } := ⟨_, rfl⟩
  have hcells : ∀ st pe, (R st pe).isCells = false := fun st pe => by rw [hR]; rfl
  obtain ⟨V, hV⟩ : ∃ V, (w.alloc (.deferred (some []))).alloc (R .ready none) = V := ⟨_, rfl⟩
  have below : Below w.heap.size w V := by rw [← hV]; exact ((Below.refl _ w).alloc (Nat.le_refl _) _).alloc (by simp) _
  have hVL : V.heap[B + 1]? = some (R .ready none) := by
    rw [← hV]
    have := World.alloc_heap_new (w.alloc (.deferred (some []))) (R .ready none)
    rwa [World.size_alloc, hB] at this
  have hVB : V.heap[B]? = some (.deferred (some [])) := by
    rw [← hV, Below.heap_alloc _ _ _ (by simp; omega), ← hB]
    exact World.alloc_heap_new w _
  obtain ⟨s0, h0⟩ := h0
  have hVI : I s0 [] V := hI _ _ _ _ none h0 (grown_of_below below) (fun r e => by cases e)
  -- turning the record keeps what is asked
  have turn : ∀ {X : World} {o : Obj} (o' : Obj), X.heap[B + 1]? = some o → o.isCells = false → (∀ s xs, I s xs X → I s xs (X.putObj (B + 1) o')) ∧ (∀ xs, Ix xs X → Ix xs (X.putObj (B + 1) o')) ∧
      (∀ s pre x a', Ax s pre x a' X → Ax s pre x a' (X.putObj (B + 1) o')) ∧ (∀ k, k ≠ B + 1 → (X.putObj (B + 1) o').heap[k]? = X.heap[k]?) ∧ (X.putObj (B + 1) o').heap[B + 1]? = some o' ∧ (X.putObj (B + 1) o').heap[B]? = X.heap[B]? :=
    fun {X o} o' hl ho => by
      have hlt := (Array.getElem?_eq_some_iff.1 hl).1
      exact ⟨fun s xs h => (hI s).putObj _ h (by omega) hl ho, fun xs h => hIx.putObj _ h (by omega) hl ho, fun s pre x a' h => (hAx s pre x a').putObj (s := ()) _ h (by omega) hl ho,
        fun k hk => World.putObj_heap_other hk, World.putObj_heap_same hlt, World.putObj_heap_other (by omega)⟩
  refine ⟨B + 1, [{ target := .collected B, args := #[] }], V, { target := .fn (.func gf) lb, args := #[.func (.yield (B + 1)) #[] #[]] }, V, gf, #[.func (.yield (B + 1)) #[] #[]] ++ lb, V, ?_, ?_, fun _ _ => trivial, ?_, fun _ => h1, ?_⟩
  · have e := run_enterLoop_outer (P := P) (w := w) fn a.tmps ps assign body
    rw [hB] at e
    rw [← hV, hR]
    exact e
  · simp only [resolve, hg]
    simp [go_sem]
  · simp [invoke, go_sem, eg]
  · refine (hseq (B + 1)
      (fun pre X => (∃ s, I s pre X) ∧ X.heap[B + 1]? = some (R .ready none) ∧ X.heap[B]? = some (.deferred (some [])))
      (fun pre X => Ix pre X ∧ X.heap[B + 1]? = some (R .done (some jump)) ∧ X.heap[B]? = some (.deferred (some [])))
      V (hb0.trans (below.mono (by rw [hB]; have := hb0.size; omega)))
      ?_ ⟨⟨s0, hVI⟩, hVL, hVB⟩).mono ?_
    · -- a round
      rintro pre x X0 X ⟨⟨s, hi0⟩, hl0, hd0⟩ hlen hX hex
      have hlt0 := (Array.getElem?_eq_some_iff.1 hl0).1
      have hi : I s pre X := hI _ _ _ _ none hi0 (grown_of_below hX) (fun r e => by cases e)
      have hl := (hX.block _ hlt0).trans hl0
      have hd := (hX.block _ (Array.getElem?_eq_some_iff.1 hd0).1).trans hd0
      have hl' := hl
      rw [hR] at hl'
      refine ⟨fn, _, assign, body, run_yield (P := P) (args := encs x) hl' (hps x), roundIn_of_wpIn trivial (hassign _ s pre x X0 X _ hi0 hX hi hex ?_)⟩
      intro a' Y hk hb hax
      have hiY : I s pre Y := hI _ _ _ _ none hi (grown_of_below hb) (fun r e => by cases e)
      have hlY := hk.same _ _ (by omega) hl (hcells _ _)
      have hdY := hk.same _ _ (Nat.le_refl _) hd rfl
      have hlY' := hlY
      rw [hR] at hlY'
      have begins := run_beginRound (P := P) hlY' rfl
      obtain ⟨t1, _, t3, t4, t5, t6⟩ := turn (R .busy none) hlY (hcells _ _)
      refine ⟨Y.putObj (B + 1) (R .busy none), by rw [begins, hR], ?_⟩
      have ends : ∀ (jump : Option Code) (Z : World), KeepsFrom B (Y.putObj (B + 1) (R .busy none)) Z → Z.heap[B + 1]? = some (R .busy none) ∧ Z.heap[B]? = some (.deferred (some [])) ∧
          (Instr.endRound (B + 1) jump).run P Z = .ok (.bool jump.isNone) (Z.putObj (B + 1) (R (if jump.isNone then .ready else .done) jump)) := fun jump Z hz => by
        have z1 := hz.same _ _ (by omega) t5 (hcells _ _)
        refine ⟨z1, hz.same _ _ (Nat.le_refl _) (t6.trans hdY) rfl, ?_⟩
        rw [hR] at z1 ⊢
        exact run_endRound (P := P) jump z1
      refine wpIn_mono (hbody _ s pre x a' _ (t1 _ _ hiY) hlen (t3 _ _ _ _ hax)) ?_
      rintro e a3 Z hp
      cases e with
      | normal =>
        obtain ⟨hz, hzb, s', hzi⟩ := hp
        obtain ⟨z1, z2, z3⟩ := ends none Z hz
        obtain ⟨u1, _, _, u4, u5, u6⟩ := turn (R .ready none) z1 (hcells _ _)
        refine ⟨_, _, z3, .inl ⟨rfl, ⟨⟨s', u1 _ _ hzi⟩, u5, u6.trans z2⟩, ?_, ?_⟩⟩
        · have := hb.size; have := hz.size; simp at this ⊢; omega
        · intro k hk hkX
          have hne : k ≠ B + 1 := by
            rcases hk with hk | hk
            · omega
            · have := hK k hk; omega
          have hnT : ¬ T s k := by
            intro ht
            rcases hk with hk | hk
            · have := (hT s pre X0 k hi0 ht).1; omega
            · exact (hT s pre X0 k hi0 ht).2 hk
          have hkY : k < Y.heap.size := by have := hb.size; omega
          exact (u4 k hne).trans ((hzb k hnT (by simpa using hkY)).trans ((t4 k hne).trans (hb.block k hkX)))
      | ret =>
        obtain ⟨rfl, hz, hzi⟩ := hp
        obtain ⟨z1, z2, z3⟩ := ends (some .ret) Z hz
        obtain ⟨_, u2, _, _, u5, u6⟩ := turn (R .done (some .ret)) z1 (hcells _ _)
        exact ⟨_, _, z3, .inr ⟨rfl, u2 _ hzi, u5, u6.trans z2⟩⟩
      | exit id =>
        obtain ⟨rfl, hz, hzi⟩ := hp
        obtain ⟨z1, z2, z3⟩ := ends (some (.exit id)) Z hz
        obtain ⟨_, u2, _, _, u5, u6⟩ := turn (R .done (some (.exit id))) z1 (hcells _ _)
        exact ⟨_, _, z3, .inr ⟨rfl, u2 _ hzi, u5, u6.trans z2⟩⟩
      | goto t => exact hp.elim
      | panic ch => exact hp.elim
      | outgrown => exact hp.elim
    · -- behind the iterator
      rintro e Z ⟨⟨v, rfl⟩, (⟨xs, hS, ⟨s, hi⟩, hl, hd⟩ | ⟨pre, hSp, hi, hl, hd⟩)⟩
      · obtain ⟨u1, _, _, _, _, u6⟩ := turn (R .exhausted none) hl (hcells _ _)
        have hl' := hl
        rw [hR] at hl'
        refine ⟨none, _, by have e := run_endLoop (P := P) hl' (by simp); exact e, ?_⟩
        have := hdone B s xs _ (Nat.le_refl _) hS (u1 _ _ hi) (u6.trans hd)
        rw [hR] at this
        exact this
      · obtain ⟨_, u2, _, _, _, u6⟩ := turn (R .exhausted (some jump)) hl (hcells _ _)
        have hl' := hl
        rw [hR] at hl'
        refine ⟨some jump, _, by have e := run_endLoop (P := P) hl' (by simp); exact e, ?_⟩
        have := hstop B pre _ (Nat.le_refl _) hSp (u2 _ hi) (u6.trans hd)
        rw [hR] at this
        exact this
end Go.Proofs.YtdcfemojkdoakaaDoor
/- SubstOthers: its last statement, a region of 42 operations that draws its order, by an invariant. (Made by a program.) -/
namespace Go.Proofs.YtdcfemojkdoakaaDoor
open Go.RowKit Go.Sort Go.Lib
attribute [local go_sem] Oper.semAt_some

def regionIn : Nat → Code → Array Oper
  | n, .region id ops _ => if id == n then ops else #[]
  | n, .seq a b => regionIn n a ++ regionIn n b
  | n, .cond _ a b => regionIn n a ++ regionIn n b
  | n, .block _ b => regionIn n b
  | n, .loop b => regionIn n b
  | n, .rangeFunc _ _ a b => regionIn n a ++ regionIn n b
  | n, .scope b => regionIn n b
  | _, _ => #[]
theorem depOf {o : Oper} {Vals : Nat → Value → World → Prop} {x : Nat → Value} {V : World} (h : ∀ e ∈ o.after, Region.binds .any e = true → Vals e.on (x e.on) V) (j : Nat)
    (hj : (o.after.any fun e => Region.binds .any e && e.on == j) = true) : Vals j (x j) V := by
  rw [Array.any_eq_true'] at hj
  obtain ⟨e, he, hj⟩ := hj
  simp only [Bool.and_eq_true, beq_iff_eq] at hj
  have := h e he hj.1
  rw [hj.2] at this; exact this
theorem kfit {K : Act → World → Prop} {a a' : Act} {w : World} (h : K a w) (e : a = a') : K a' w := e ▸ h
theorem run_bare {P : Program} {o : Oper} {ops : Array Oper} {a : Act} {w : World} {K : Act → World → Prop} {Q : Exit → Act → World → Prop} {C : Prop} (hg : o.guard = none) (h : Oper.wp P o a w K Q) :
    if Region.wanted o (yielded ops a.tmps) = true then Oper.wp P o a w K Q else C := by
  rw [if_pos (by simp [Region.wanted, hg])]; exact h
theorem run_guard {P : Program} {o : Oper} {ops : Array Oper} {a : Act} {w : World} {K : Act → World → Prop} {Q : Exit → Act → World → Prop} {C : Prop} (g k : Nat) (v : Value) (hg : o.guard = some (g, true))
    (hk : (ops[g]?).bind (·.dst) = some k) (hv : a.tmps[k]? = some v) (e : v = .bool true) (h : Oper.wp P o a w K Q) :
    if Region.wanted o (yielded ops a.tmps) = true then Oper.wp P o a w K Q else C := by
  rw [if_pos (by simp [Region.wanted, hg, yielded, hk, hv, e])]; exact h
theorem below_a (X : World) (o : Obj) : Below X.heap.size X (X.alloc o) := (Below.refl _ X).alloc (Nat.le_refl _) o
theorem below_d (X : World) : Below X.heap.size X X.drew := (Below.refl _ X).drew

def othFr (b : Nat → Value) (d : List Deferred) (x : Nat → Value) : Act := { tmps := #[b 0, b 1, x 41, b 3, b 4, b 5, b 6, b 7, b 8, b 9, b 10, b 11, b 12, b 13, b 14, b 15, b 16, b 17, b 18, b 19, b 20, b 21, b 22, b 23, b 24, b 25, b 26, b 27, b 28, b 29, b 30, b 31, b 32, b 33, b 34, b 35, b 36, b 37, b 38, b 39, b 40, b 41, x 0, x 1, x 2, x 3, x 4, x 5, x 6, x 7, x 8, x 9, x 10, x 11, x 12, x 13, x 14, x 15, x 16, x 17, x 18, x 19, x 20, x 21, x 22, x 23, x 24, x 25, x 26, x 27, x 28, x 29, x 30, x 31, x 32, x 33, x 34, x 35, x 36, x 37, x 38, x 39, x 40], defers := d }

def othVals (t sw r1 : T) (pa pw : Option Addr) (ca cw : Nat) (sv uv frv tov : Value) (ts : Nat) (i : Nat) (v : Value) (V : World) : Prop :=
  match i with
  | 0 => v = .bool true
  | 1 => v = .bool true
  | 2 => v = .agg #[sv]
  | 3 => v = .agg #[.int .i64 (sw).kind, .string (sw).name, .slice pw (sw).kids.length cw]
  | 4 => ∃ za zc, v = .agg #[.int .i64 (t).kind, .string (t).name, .slice za (t).kids.length zc] ∧ TysAt V (.slice za (t).kids.length zc) (t).kids
  | 5 => v = .agg #[.int .i64 (t).kind, .string (t).name, .slice pa (t).kids.length ca]
  | 6 => v = .bool true
  | 7 => v = .bool true
  | 8 => v = .bool true
  | 9 => v = .agg #[uv]
  | 10 => v = .agg #[.int .i64 (t).kind, .string (t).name, .slice pa (t).kids.length ca]
  | 11 => ∃ za zc, v = .agg #[.int .i64 (t).kind, .string (t).name, .slice za (t).kids.length zc] ∧ TysAt V (.slice za (t).kids.length zc) (t).kids
  | 12 => v = .agg #[.int .i64 (t).kind, .string (t).name, .slice pa (t).kids.length ca]
  | 13 => v = .bool true
  | 14 => v = .bool true
  | 15 => v = .bool true
  | 16 => v = .agg #[.int .i64 (t).kind, .string (t).name, .slice pa (t).kids.length ca]
  | 17 => v = frv
  | 18 => v = tov
  | 19 => ∃ za zc, v = .agg #[.int .i64 (r1).kind, .string (r1).name, .slice za (r1).kids.length zc] ∧ TysAt V (.slice za (r1).kids.length zc) (r1).kids
  | 20 => v = tov
  | 21 => v = frv
  | 22 => ∃ za zc, v = .agg #[.int .i64 (t).kind, .string (t).name, .slice za (t).kids.length zc] ∧ TysAt V (.slice za (t).kids.length zc) (t).kids
  | 23 => v = .agg #[.int .i64 (t).kind, .string (t).name, .slice pa (t).kids.length ca]
  | 24 => v = .bool true
  | 25 => v = .bool true
  | 26 => v = .bool true
  | 27 => v = .agg #[.int .i64 (t).kind, .string (t).name, .slice pa (t).kids.length ca]
  | 28 => ∃ zk, v = .slice (some ⟨zk, 0, none⟩) 2 2 ∧ StrsP (.slice (some ⟨zk, 0, none⟩) 2 2) [⟨#[97]⟩, ⟨#[98]⟩] V
  | 29 => ∃ zk, v = .slice (some ⟨zk, 0, none⟩) 2 2 ∧ StrsP (.slice (some ⟨zk, 0, none⟩) 2 2) [⟨#[98]⟩, ⟨#[97]⟩] V
  | 30 => ∃ za zc, v = .agg #[.int .i64 (sw).kind, .string (sw).name, .slice za (sw).kids.length zc] ∧ TysAt V (.slice za (sw).kids.length zc) (sw).kids
  | 31 => v = .agg #[.int .i64 (sw).kind, .string (sw).name, .slice pw (sw).kids.length cw]
  | 32 => v = .bool true
  | 33 => v = .bool true
  | 34 => v = .bool true
  | 35 => v = .agg #[.int .i64 (sw).kind, .string (sw).name, .slice pw (sw).kids.length cw]
  | 36 => v = .int .i64 (ts : Nat)
  | 37 => v = .agg #[.int .i64 (t).kind, .string (t).name, .slice pa (t).kids.length ca]
  | 38 => v = .int .i64 (ts : Nat)
  | 39 => v = .bool true
  | 40 => v = .bool true
  | 41 => v = .bool true
  | _ => True

theorem othVals_keep {t sw r1 : T} {pa pw : Option Addr} {ca cw : Nat} {sv uv frv tov : Value} {ts : Nat} (i : Nat) (v : Value) (V Y : World) (h : othVals t sw r1 pa pw ca cw sv uv frv tov ts i v V) (hb : Below V.heap.size V Y) : othVals t sw r1 pa pw ca cw sv uv frv tov ts i v Y := by
  unfold othVals at *
  split at h <;> first
    | exact h
    | (obtain ⟨za, zc, e, h⟩ := h; exact ⟨za, zc, e, h.keep (KeepT.of_below hb)⟩)
    | (obtain ⟨zk, e, h⟩ := h; exact ⟨zk, e, h.below hb⟩)

end Go.Proofs.YtdcfemojkdoakaaDoor
/- (Subst).Pairs: the pairs, told one by one. -/
namespace Go.Proofs.YtdcfemojkdoakaaDoor
open Go.RowKit Go.Sort Go.Lib
attribute [local go_sem] Oper.semAt_some

def encQ (x : PR) : Array Value := #[.string x.n, .agg #[.int .i64 x.t.kind, .string x.t.name, .slice x.a x.t.kids.length x.c]]
/-- What is told is the next one of the row; its rows are new since the last round. -/
def ExQ (d : List PR) (pre : List PR) (x : PR) (X0 X : World) : Prop := TyIn (fun k => X0.heap.size ≤ k) X x.t (.slice x.a x.t.kids.length x.c) ∧ (pre.length < d.length ∧ x.n = (d.getD pre.length noP).n ∧ x.t = (d.getD pre.length noP).t)
/-- Rows of types, all of them in blocks that are ok. -/
theorem TyAt.inside {ok : Nat → Prop} {w : World} (hk : ∀ (k : Nat) (cs : Array Value) (fz : Nat × Nat), w.heap[k]? = some (.cells cs 29 fz) → ok k) {t : T} {k n v : Value} (h : TyAt w t k n v) : TyIn ok w t v := by
  induction h with
  | leaf t a c h => exact .leaf t a c h
  | row t g cap cs fz x y z h1 h2 h3 h4 ih =>
    refine .row t g cap cs fz z (hk _ _ _ h1) h1 h2 (fun i hi => ?_) ih
    obtain ⟨e1, e2, _⟩ := (h4 i hi).shape
    obtain ⟨c1, c2, c3⟩ := h3 i hi
    exact ⟨by rw [c1, e1], by rw [c2, e2], c3⟩
theorem TysAt.inside {ok : Nat → Prop} {w : World} (hk : ∀ (k : Nat) (cs : Array Value) (fz : Nat × Nat), w.heap[k]? = some (.cells cs 29 fz) → ok k) {t : T} {v : Value} (h : TysAt w v t.kids) : TyIn ok w t v := (TyAt.mk t h).inside hk
def KeepK (K : Nat → Prop) (X W : World) : Prop := ∀ k, K k → k < X.heap.size → W.heap[k]? = X.heap[k]?
theorem KeepK.trans {K : Nat → Prop} {X Y Z : World} (h : KeepK K X Y) (k : KeepK K Y Z) (hs : X.heap.size ≤ Y.heap.size) : KeepK K X Z := fun i hi hx => (k i hi (by omega)).trans (h i hi hx)
theorem KeepK.of_below {K : Nat → Prop} {X Y : World} (h : Below X.heap.size X Y) : KeepK K X Y := fun i _ hx => h.block i hx
theorem TyIn.keepK {K : Nat → Prop} {X W : World} {t : T} {v : Value} (h : TyIn K X t v) (hk : KeepK K X W) : TyIn K W t v := h.keep fun k _ _ h1 h2 => (hk k h1 (Array.getElem?_eq_some_iff.1 h2).1).trans h2
/-- The row of pairs that the iterator goes through: in blocks of K. -/
def Src (K : Nat → Prop) (a : Option Addr) (d : List PR) (w : World) : Prop := (∀ i, i < d.length → ∃ g, a = some ⟨g, 0, none⟩ ∧ K g ∧ RowP g d w) ∧ ∀ x ∈ d, TyIn K w x.t (.slice x.a x.t.kids.length x.c)
theorem Src.keepK {K : Nat → Prop} {a : Option Addr} {d : List PR} {X W : World} (h : Src K a d X) (hk : KeepK K X W) : Src K a d W :=
  ⟨fun i hi => by obtain ⟨g, e, h1, h2⟩ := h.1 i hi; exact ⟨g, e, h1, h2.same (hk g h1 h2.lt)⟩, fun x hx => (h.2 x hx).keepK hk⟩
theorem Src.of {K : Nat → Prop} {a : Option Addr} {n c : Nat} {d : List PR} {w : World} (h : SubAt (.slice a n c) d w) (h1 : ∀ (k : Nat) (cs : Array Value) (fz : Nat × Nat), w.heap[k]? = some (.cells cs 29 fz) → K k)
    (h2 : ∀ (k : Nat) (cs : Array Value) (fz : Nat × Nat), w.heap[k]? = some (.cells cs 119 fz) → K k) : Src K a d w := by
  obtain ⟨⟨hs, _⟩, ht⟩ := h
  refine ⟨fun i hi => ?_, fun x hx => (ht x hx).inside h1⟩
  rcases hs with ⟨rfl, _⟩ | ⟨g, cap, e, _, hr⟩
  · cases hi
  · simp only [Value.slice.injEq] at e
    have hr0 := hr
    obtain ⟨cs, hg, _⟩ := hr
    exact ⟨g, e.1, h2 g _ _ hg, hr0⟩
end Go.Proofs.YtdcfemojkdoakaaDoor
/- (Subst).Get. -/
namespace Go.Proofs.YtdcfemojkdoakaaDoor
open Go.RowKit Go.Sort Go.Lib
attribute [local go_sem] Oper.semAt_some

end Go.Proofs.YtdcfemojkdoakaaDoor
/- The law's pairs, made of numbers. -/
namespace Go.Proofs.YtdcfemojkdoakaaDoor
open Go.RowKit Go.Sort Go.Lib
attribute [local go_sem] Oper.semAt_some

theorem Tryd.infoRefPair : (Tryd.prog.info? 73).map (fun i => (i.zero, i.size, i.bytes)) = some (some (.agg zeroP), 4, 64) := by kernel_rfl
/-- The cells of a row of pairs. -/
def cellsP (d : List PR) : List Value := d.flatMap encP
theorem cellsP_snoc (d : List PR) (x : PR) : cellsP (d ++ [x]) = cellsP d ++ encP x := by simp [cellsP]
theorem cellsP_len : ∀ d : List PR, (cellsP d).length = d.length * 4
  | [] => rfl
  | x :: d => by
    have := cellsP_len d
    simp only [cellsP, List.flatMap_cons, List.length_append, encP_len, List.length_cons] at this ⊢
    omega
theorem cellsP_at (d : List PR) (i j : Nat) (hi : i < d.length) (hj : j < 4) : (cellsP d)[i * 4 + j]? = (encP (d.getD i noP))[j]? := by
  induction d generalizing i with
  | nil => cases hi
  | cons a r ih =>
    cases i with
    | zero =>
      have : (encP a ++ cellsP r)[j]? = (encP a)[j]? := List.getElem?_append_left (by rw [encP_len]; omega)
      simpa [cellsP] using this
    | succ i =>
      have e : (i + 1) * 4 + j = (encP a).length + (i * 4 + j) := by rw [encP_len]; omega
      have h1 : (encP a ++ cellsP r)[(encP a).length + (i * 4 + j)]? = (cellsP r)[i * 4 + j]? := by rw [List.getElem?_append_right (by omega)]; congr 1; omega
      have h2 := ih i (by simpa using hi)
      rw [e]
      simpa [cellsP, List.getD] using h1.trans h2
/-- As RowP, whatever the row's type is. -/
def RowG (T : TypeId) (g : Nat) (l : List PR) (w : World) : Prop :=
  ∃ cs, w.heap[g]? = some (.cells cs T (0, 0)) ∧ l.length * 4 ≤ cs.size ∧ ∀ i, i < l.length →
    cs[i * 4]? = some (.string (l.getD i noP).n) ∧ cs[i * 4 + 1]? = some (.int .i64 (l.getD i noP).t.kind) ∧ cs[i * 4 + 2]? = some (.string (l.getD i noP).t.name) ∧ cs[i * 4 + 3]? = some (.slice (l.getD i noP).a (l.getD i noP).t.kids.length (l.getD i noP).c)
theorem RowG.row {g : Nat} {l : List PR} {w : World} (h : RowG 119 g l w) : RowP g l w := h
/-- A list of pairs as the law makes it. -/
def GivenG (T : TypeId) (v : Value) (d : List PR) (w : World) : Prop := (d = [] ∧ v = .slice none 0 0) ∨ (d ≠ [] ∧ ∃ g cap, v = .slice (some ⟨g, 0, none⟩) d.length cap ∧ RowG T g d w)
theorem given_of_row {T : TypeId} {W : World} {base : Nat} {v : Value} {d : List PR} (h : W.ownsRow base T 4 v d.length (cellsP d)) (h0 : d = [] → v = .slice none 0 0) : GivenG T v d W := by
  by_cases hd : d = []
  · exact .inl ⟨hd, h0 hd⟩
  · rcases h.2 with ⟨rfl, hn0⟩ | ⟨g, cap, cur, rfl, _, hg, hc, hm, hcs, htk⟩
    · exact absurd (List.length_eq_zero_iff.1 hn0) hd
    · refine .inr ⟨hd, g, cap, rfl, cur, hg, by rw [hcs]; exact Nat.mul_le_mul_right 4 hc, fun i hi => ?_⟩
      have cell : ∀ j, j < 4 → cur[i * 4 + j]? = (encP (d.getD i noP))[j]? := fun j hj => by
        have hlt : i * 4 + j < d.length * 4 := by omega
        rw [← cellsP_at d i j hi hj, ← htk, List.getElem?_take, if_pos hlt, Array.getElem?_toList]
      exact ⟨(cell 0 (by omega)).trans rfl, (cell 1 (by omega)).trans rfl, (cell 2 (by omega)).trans rfl, (cell 3 (by omega)).trans rfl⟩
theorem own_keep {w w' : World} {p base : Nat} {e : TypeId} {size : Nat} {v : Value} {n : Nat} {xs : List Value} (h : w.ownsRow base e size v n xs) (hk : ∀ k o, w.heap[k]? = some o → k ≠ p → w'.heap[k]? = some o) (hp : p < base) : w'.ownsRow base e size v n xs := by
  refine ⟨h.1, ?_⟩
  rcases h.2 with h | ⟨g, cap, cur, rfl, hb, hg, r⟩
  · exact .inl h
  · exact .inr ⟨g, cap, cur, rfl, hb, hk g _ hg (by omega), r⟩
theorem KeepT.grown {W W' : World} {base : Nat} {e : TypeId} {size : Nat} {v : Value} {n : Nat} {xs : List Value} (hg : W.grownBy W' v.ownBlock) (h : W.ownsRow base e size v n xs) (he : e ≠ 29) : KeepT W W' := by
  intro k cs fz hk
  refine (hg.block k (Array.getElem?_eq_some_iff.1 hk).1 fun ee => ?_).trans hk
  rcases h.2 with ⟨rfl, _⟩ | ⟨g, cap, cur, rfl, _, hgb, _⟩
  · cases ee
  · obtain rfl : k = g := by simpa [Value.ownBlock] using ee
    rw [hk] at hgb
    cases hgb
    exact he rfl
theorem row_val {W : World} {base : Nat} {e : TypeId} {size : Nat} {v : Value} {n : Nat} {xs : List Value} (h : W.ownsRow base e size v n xs) : ∃ a c, v = .slice a n c := by
  rcases h.2 with ⟨rfl, rfl⟩ | ⟨g, cap, _, rfl, _⟩
  · exact ⟨_, _, rfl⟩
  · exact ⟨_, _, rfl⟩
theorem cell_new4 (w : World) (x y z u : Value) (t : TypeId) : ∀ j v, [x, y, z, u][j]? = some v → (w.alloc (.cells #[x, y, z, u] t)).cell? ((⟨w.heap.size, 0, none⟩ : Addr).add j) = some v := by
  intro j v hv
  have hadd : (⟨w.heap.size, 0, none⟩ : Addr).add j = ⟨w.heap.size, j, none⟩ := by unfold Addr.add; split <;> simp_all
  rw [hadd]
  have := alloc_new w (.cells #[x, y, z, u] t)
  simp only [World.cell?, this]
  match j, hv with
  | 0, hv => simpa using hv
  | 1, hv => simpa using hv
  | 2, hv => simpa using hv
  | 3, hv => simpa using hv
  | n + 4, hv => simp at hv

theorem rows_apart {W : World} {b1 b2 : Nat} {e1 e2 : TypeId} {s1 s2 n1 n2 : Nat} {v1 v2 : Value} {x1 x2 : List Value} (h1 : W.ownsRow b1 e1 s1 v1 n1 x1) (h2 : W.ownsRow b2 e2 s2 v2 n2 x2) (he : e1 ≠ e2) : v1.ownBlock = none ∨ v1.ownBlock ≠ v2.ownBlock := by
  rcases h1.2 with ⟨rfl, _⟩ | ⟨g, cap, cur, rfl, _, hg, _⟩
  · exact .inl rfl
  · refine .inr fun e => ?_
    rcases h2.2 with ⟨rfl, _⟩ | ⟨g', cap', cur', rfl, _, hg', _⟩
    · cases e
    · obtain rfl : g = g' := by simpa [Value.ownBlock] using e
      rw [hg] at hg'
      cases hg'
      exact he rfl
theorem cell_new4' (w : World) (o : Obj) (x y z u : Value) (t : TypeId) : ∀ j v, [x, y, z, u][j]? = some v → ((w.alloc o).alloc (.cells #[x, y, z, u] t)).cell? ((⟨w.heap.size + 1, 0, none⟩ : Addr).add j) = some v := by
  have := cell_new4 (w.alloc o) x y z u t
  simpa using this
/-- What the law's pairs hand back. -/
def MadeL (B p : Nat) (a : Option Addr) (n c k : Nat) (w : World) (e : Ending) (w' : World) : Prop :=
  (∃ d v u, e = .returned (.tuple #[v, u]) ∧ (d.length ≤ 4 ∧ ∀ x ∈ d, T.Good x.t ∧ Fits x.t ∧ (T.text x.t).length + 10 ≤ 56) ∧ (GivenG 119 v d w' ∧ GivenG 73 u d w') ∧ Typ d w') ∧ (∃ k', k' ≤ k + 40 ∧ SeqAt B p a n c k' w') ∧ MkFr B p w w'
theorem four_at {w : World} {b : Nat} {x y z u : ByteArray} {T : TypeId} {fz : Nat × Nat} (h : w.heap[b]? = some (.cells #[.string x, .string y, .string z, .string u] T fz)) (r : Nat) (hr : r < 4) : ∃ s : ByteArray, w.cell? ⟨b, r, none⟩ = some (.string s) := by
  rw [Lib.cell_of_heap h]
  match r, hr with
  | 0, _ => exact ⟨x, rfl⟩
  | 1, _ => exact ⟨y, rfl⟩
  | 2, _ => exact ⟨z, rfl⟩
  | 3, _ => exact ⟨u, rfl⟩
  | n + 4, hr => omega

end Go.Proofs.YtdcfemojkdoakaaDoor
/- (Subst).Then: one after the other. -/
namespace Go.Proofs.YtdcfemojkdoakaaDoor
open Go.RowKit Go.Sort Go.Lib
attribute [local go_sem] Oper.semAt_some

theorem make_cap4 (N : Nat) (hn : N ≤ 1000000000) (w : World) :
    (Instr.makeSlice 31 (.int .i64 0) (.int .i64 (N : Int))).run Tryd.prog w = .ok (.slice (some ⟨w.heap.size, 0, none⟩) 0 N) (w.alloc (.cells (zeros4 N) 119)) := by
  obtain ⟨i, hi, hzz⟩ := Option.map_eq_some_iff.1 Tryd.infoPair
  simp only [Prod.mk.injEq] at hzz
  obtain ⟨hz, hs, hb⟩ := hzz
  have hr := run_make (P := Tryd.prog) w 31 119 i _ Tryd.underlying31 hi hz .i64 .i64 0 N (by omega) (by omega) (by rw [hb]; omega) (by omega)
  simp only [Int.toNat_natCast, hs, Int.toNat_zero] at hr
  exact hr
theorem setCells_set4 (w : World) (g i : Nat) (x : PR) : w.setCells g (0 + i * 4) (encP x) = set4 w g i x := by
  rw [Nat.zero_add]; rfl
/-- The list that Then gathers. -/
noncomputable def thenL (ls lu : List PR) : List PR := ls.map (fun x => { x with t := app lu x.t }) ++ lu
theorem ty_append (n : ByteArray) (d e : List PR) : ty n (d ++ e) = if (lk n d).isSome then ty n d else ty n e := by
  unfold ty
  rw [lk_append]
  cases lk n d <;> rfl
theorem lk_map (f : T → T) (n : ByteArray) : ∀ d : List PR, lk n (d.map fun x => { x with t := f x.t }) = (lk n d).map fun x => { x with t := f x.t }
  | [] => rfl
  | x :: d => by
    rw [List.map_cons, lk_cons, lk_cons]
    by_cases h : x.n = n
    · rw [if_pos h, if_pos h]; rfl
    · rw [if_neg h, if_neg h]; exact lk_map f n d
theorem then_app (ls lu : List PR) : ∀ t, app (thenL ls lu) t = app lu (app ls t) := by
  intro t
  refine T.by_kids (P := fun t => app (thenL ls lu) t = app lu (app ls t)) (fun t H => ?_) t
  cases t with
  | var n =>
    rw [app_v, app_v, thenL, ty_append, lk_map]
    cases h : lk n ls with
    | none =>
      have e : ty n ls = .var n := by unfold ty; rw [h]; rfl
      rw [e]; rfl
    | some x =>
      have e : ty n ls = x.t := by unfold ty; rw [h]; rfl
      rw [e]
      unfold ty
      rw [lk_map, h]; rfl
  | con n l =>
    rw [app, app, app, apps_map, apps_map, apps_map, List.map_map]
    congr 1
    exact List.map_congr_left fun k hk => H k hk
  | fn a b => rw [app, app, app, H a (by simp [T.kids]), H b (by simp [T.kids])]
  | all n a => rw [app, app, app, H a (by simp [T.kids])]

theorem RowK.spare {g k : Nat} {l : List PR} {w : World} (h : RowK g k l w) {i : Nat} (hi : i < k) : ∀ j, j < 4 → (w.cell? ⟨g, 0 + i * 4 + j, none⟩).isSome = true ∧ w.frozen? ⟨g, 0 + i * 4 + j, none⟩ = false := by
  obtain ⟨x, y, z, u, h0, h1, h2, h3⟩ := h.cells hi
  intro j hj
  rw [Nat.zero_add]
  refine ⟨?_, h.row.free _⟩
  match j, hj with
  | 0, _ => rw [Nat.add_zero, h0]; rfl
  | 1, _ => rw [h1]; rfl
  | 2, _ => rw [h2]; rfl
  | 3, _ => rw [h3]; rfl
  | n + 4, hj => omega

theorem cellsP_get (d : List PR) (j : Nat) (hj : j < d.length * 4) : (cellsP d)[j]? = (encP (d.getD (j / 4) noP))[j % 4]? := by
  have := cellsP_at d (j / 4) (j % 4) (by omega) (by omega)
  rwa [show j / 4 * 4 + j % 4 = j by omega] at this
theorem enc_get {x : PR} {j : Nat} (hj : j < 4) : (encP x)[j]? = some (if j = 0 then .string x.n else if j = 1 then .int .i64 x.t.kind else if j = 2 then .string x.t.name else .slice x.a x.t.kids.length x.c) := by
  match j, hj with
  | 0, _ => rfl
  | 1, _ => rfl
  | 2, _ => rfl
  | 3, _ => rfl
  | n + 4, hj => omega
theorem row_cells {g : Nat} {l : List PR} {cs : Array Value} (h : ∀ i, i < l.length → cs[i * 4]? = some (.string (l.getD i noP).n) ∧ cs[i * 4 + 1]? = some (.int .i64 (l.getD i noP).t.kind) ∧ cs[i * 4 + 2]? = some (.string (l.getD i noP).t.name) ∧ cs[i * 4 + 3]? = some (.slice (l.getD i noP).a (l.getD i noP).t.kids.length (l.getD i noP).c)) (_ : g = g) (j : Nat) (hj : j < l.length * 4) : cs[j]? = (cellsP l)[j]? := by
  rw [cellsP_get l j hj, enc_get (by omega)]
  obtain ⟨a0, a1, a2, a3⟩ := h (j / 4) (by omega)
  have hc : j % 4 = 0 ∨ j % 4 = 1 ∨ j % 4 = 2 ∨ j % 4 = 3 := by omega
  rcases hc with e | e | e | e
  · rw [e, if_pos rfl, ← a0, show j = j / 4 * 4 by omega]; congr 1; omega
  · rw [e, if_neg (by decide), if_pos rfl, ← a1]; congr 1; omega
  · rw [e, if_neg (by decide), if_neg (by decide), if_pos rfl, ← a2]; congr 1; omega
  · rw [e, if_neg (by decide), if_neg (by decide), if_neg (by decide), ← a3]; congr 1; omega
theorem RowK.owns {g k base : Nat} {l : List PR} {w : World} (h : RowK g k l w) (hb : base ≤ g) (hk : k ≤ 1000000) : w.ownsRow base 119 4 (.slice (some ⟨g, 0, none⟩) l.length k) l.length (cellsP l) := by
  obtain ⟨cs, h1, h2, h3, h4⟩ := h
  refine ⟨cellsP_len l, .inr ⟨g, k, cs, rfl, hb, h1, h3, by unfold maxLen; omega, h2, ?_⟩⟩
  apply List.ext_getElem?
  intro j
  by_cases hj : j < l.length * 4
  · rw [List.getElem?_take_of_lt hj, Array.getElem?_toList, row_cells (g := g) h4 rfl j hj]
  · rw [List.getElem?_eq_none (by simp; omega), List.getElem?_eq_none (by rw [cellsP_len]; omega)]
theorem RowP.news {g : Nat} {l : List PR} {w : World} (h : RowP g l w) : ∀ j u, (cellsP l)[j]? = some u → w.cell? ((⟨g, 0, none⟩ : Addr).add j) = some u := by
  intro j u hu
  have hj : j < l.length * 4 := by have := (List.getElem?_eq_some_iff.1 hu).1; rwa [cellsP_len] at this
  have hadd : (⟨g, 0, none⟩ : Addr).add j = ⟨g, j, none⟩ := by unfold Addr.add; split <;> simp_all
  obtain ⟨cs, h1, _, h3⟩ := h
  rw [hadd, Lib.cell_of_heap h1, row_cells (g := g) h3 rfl j hj, hu]
theorem cellsP_one (l : List PR) : ∀ u ∈ cellsP l, u.oneCell' = true := by
  intro u hu
  obtain ⟨x, _, hx⟩ := List.mem_flatMap.1 hu
  exact encP_one x u hx
theorem cellsP_append (l m : List PR) : cellsP l ++ cellsP m = cellsP (l ++ m) := by simp [cellsP]
theorem row_of_owns {W : World} {base g cap : Nat} {d : List PR} (h : W.ownsRow base 119 4 (.slice (some ⟨g, 0, none⟩) d.length cap) d.length (cellsP d)) : RowP g d W := by
  rcases h.2 with ⟨e, _⟩ | ⟨g', cap', cur, e, _, hg, hc, hm, hcs, htk⟩
  · cases e
  · cases e
    refine ⟨cur, hg, by rw [hcs]; exact Nat.mul_le_mul_right 4 hc, fun i hi => ?_⟩
    have cell : ∀ j, j < 4 → cur[i * 4 + j]? = (encP (d.getD i noP))[j]? := fun j hj => by
      have hlt : i * 4 + j < d.length * 4 := by omega
      rw [← cellsP_at d i j hi hj, ← htk, List.getElem?_take, if_pos hlt, Array.getElem?_toList]
    exact ⟨(cell 0 (by omega)).trans rfl, (cell 1 (by omega)).trans rfl, (cell 2 (by omega)).trans rfl, (cell 3 (by omega)).trans rfl⟩
theorem SubAt.setS {v x : Value} {d : List PR} {w : World} {b : Nat} {cs : Array Value} {fz : Nat × Nat} (h : SubAt v d w) (hb : w.heap[b]? = some (.cells cs 33 fz)) : SubAt v d (w.setCell ⟨b, 0, none⟩ x) := by
  obtain ⟨⟨h1, h2⟩, h3⟩ := h
  refine ⟨⟨?_, h2⟩, h3.keep ?_⟩
  · rcases h1 with h1 | ⟨g, cap, e, hc, hr⟩
    · exact .inl h1
    · refine .inr ⟨g, cap, e, hc, hr.same (Below.heap_setCell _ ⟨b, 0, none⟩ _ _ ?_)⟩
      show g ≠ b
      rintro rfl
      obtain ⟨cs', hr, _⟩ := hr
      rw [hb] at hr
      simp at hr
  · intro k cs' fz' hk
    refine (Below.heap_setCell _ ⟨b, 0, none⟩ _ k ?_).trans hk
    show k ≠ b
    rintro rfl
    rw [hb] at hk
    simp at hk
theorem Made.copy {d d' l : List PR} (h : Made d l) (k : Copy d d') : Made d' l :=
  ⟨fun x hx => by obtain ⟨y, hy, e1, e2⟩ := h.sub x hx; obtain ⟨z, hz, f1, f2⟩ := k.mem y hy; exact ⟨z, hz, e1.trans f1, e2.trans f2⟩, by rw [← k.1]; exact h.len, fun n => by rw [h.same n]; unfold ty; rw [k.lk]⟩
theorem copy_then {q ls lu : List PR} (h1 : q.length = ls.length) (h2 : ∀ j, j < ls.length → (q.getD j noP).n = (ls.getD j noP).n ∧ (q.getD j noP).t = app lu (ls.getD j noP).t) : Copy (q ++ lu) (thenL ls lu) := by
  refine ⟨by simp [thenL, h1], fun i hi => ?_⟩
  unfold thenL
  by_cases hlt : i < ls.length
  · have e1 : (q ++ lu).getD i noP = q.getD i noP := by simp [List.getD, List.getElem?_append_left (show i < q.length by omega)]
    have e2 : (ls.map (fun x : PR => { x with t := app lu x.t }) ++ lu).getD i noP = { ls.getD i noP with t := app lu (ls.getD i noP).t } := by
      simp [List.getD, List.getElem?_append_left (show i < (ls.map (fun x : PR => { x with t := app lu x.t })).length by simpa using hlt), hlt]
    rw [e1, e2]; exact h2 i hlt
  · have e1 : (q ++ lu).getD i noP = lu.getD (i - ls.length) noP := by simp [List.getD, List.getElem?_append_right (show q.length ≤ i by omega), h1]
    have e2 : (ls.map (fun x : PR => { x with t := app lu x.t }) ++ lu).getD i noP = lu.getD (i - ls.length) noP := by
      simp [List.getD, List.getElem?_append_right (show (ls.map (fun x : PR => { x with t := app lu x.t })).length ≤ i by simp; omega)]
    rw [e1, e2]; exact ⟨rfl, rfl⟩

end Go.Proofs.YtdcfemojkdoakaaDoor
/- A region that draws its order and ends with a store: all but its last operation by an invariant, the last one when all else has come up. -/
namespace Go.Proofs.YtdcfemojkdoakaaDoor

section
variable {P : Program} {ops : Array Oper} {Q : Exit → Act → World → Prop} {fr : (Nat → Value) → Act} {S : World → Prop} {Rel : World → World → Prop} {Vals : Nat → Value → World → Prop} {s : Nat}

theorem getD_tt {l : Array Bool} {j : Nat} (h : l.getD j false = true) : l.getD j true = true := by
  by_cases hj : j < l.size
  · simp [hj] at h ⊢; exact h
  · simp [hj]
/-- Where operation s can come up, all ahead of it have. -/
theorem all_ahead {listed : Array Bool} (hcov : ∀ i, i < s → ∃ j o e, i < j ∧ j ≤ s ∧ ops[j]? = some o ∧ e ∈ o.after ∧ Region.binds .any e = true ∧ e.on = i)
    (hcl : ∀ j o, listed.getD j false = true → ops[j]? = some o → ∀ e ∈ o.after, Region.binds .any e = true → listed.getD e.on false = true)
    (hs : ∀ o, ops[s]? = some o → ∀ e ∈ o.after, Region.binds .any e = true → listed.getD e.on false = true) : ∀ n i, i + n = s → 0 < n → listed.getD i false = true := by
  intro n
  induction n using Nat.strongRecOn with
  | ind n ih =>
    intro i hi hn
    obtain ⟨j, o, e, hij, hjs, ho, he, hb, rfl⟩ := hcov i (by omega)
    by_cases hj : j = s
    · subst hj; exact hs o ho e he hb
    · exact hcl j o (ih (s - j) (by omega) j (by omega) (by omega)) ho e he hb

theorem last_any (hsz : ops.size = s + 1) (hput : ∀ i o, i < s → ops[i]? = some o → StepAt P fr S Rel Vals ops Q i o)
    (hbs : ∀ o, ops[s]? = some o → ∀ e ∈ o.after, Region.binds .any e = true → e.on < s)
    (hcov : ∀ i, i < s → ∃ j o e, i < j ∧ j ≤ s ∧ ops[j]? = some o ∧ e ∈ o.after ∧ Region.binds .any e = true ∧ e.on = i)
    (hrel : ∀ w w', S w → Rel w w' → S w') (hval : ∀ i v w w', S w → Vals i v w → Rel w w' → Vals i v w')
    (hlast : ∀ o x w, ops[s]? = some o → S w → (∀ i, i < s → Vals i (x i) w) → ∀ K : Act → World → Prop, (∀ v w', Q .normal ((fr x).put o.dst v) w' → K ((fr x).put o.dst v) w') →
      if Region.wanted o (yielded ops (fr x).tmps) = true then Oper.wp P o (fr x) w K Q else K ((fr x).put o.dst undef) w) :
    ∀ (fuel : Nat) (listed : Array Bool) (x : Nat → Value) (w : World), listed.size = ops.size → ops.size ≤ fuel + listed.toList.count true → S w → listed.getD s false = false →
      (∀ j o, listed.getD j false = true → ops[j]? = some o → ∀ e ∈ o.after, Region.binds .any e = true → listed.getD e.on false = true) →
      (∀ i, listed.getD i false = true → Vals i (x i) w) → wpAny P .any ops Q fuel listed (fr x) w := by
  have hback : ∀ i o, ops[i]? = some o → ∀ e ∈ o.after, Region.binds .any e = true → e.on < i := fun i o ho => by
    have hi : i < s + 1 := by rw [← hsz]; exact (Array.getElem?_eq_some_iff.1 ho).1
    by_cases e : i = s
    · subst e; exact hbs o ho
    · exact (hput i o (by omega) ho).back
  have hend : ∀ (listed : Array Bool), listed.size = ops.size → listed.getD s false = false → Region.ready .any ops listed = [] → False := fun listed hz h0 h => by
    have := all_of_none hback hz h s (by omega)
    rw [h0] at this; cases this
  intro fuel
  induction fuel with
  | zero =>
    intro listed x w hz hc hS h0 hcl hV
    have hall : listed.toList.count true = listed.toList.length := by
      have := List.count_le_length (a := true) (l := listed.toList)
      simp at this hc ⊢; omega
    have hlt : s < listed.size := by omega
    have := List.count_eq_length.1 hall listed[s] (by simp)
    simp [hlt] at h0
    rw [h0] at this; cases this
  | succ fuel ih =>
    intro listed x w hz hc hS h0 hcl hV
    refine ⟨fun h => (hend listed hz h0 h).elim, fun i hi => ?_⟩
    obtain ⟨hi0, o, ho, hdep⟩ := mem_ready.1 hi
    have hlt : i < listed.size := by rw [hz]; exact (Array.getElem?_eq_some_iff.1 ho).1
    have hi0' : listed[i] = false := by simpa [hlt] using hi0
    have hsetD : ∀ j, (listed.setIfInBounds i true).getD j false = true → j = i ∨ listed.getD j false = true := fun j hj => by
      by_cases hji : j = i
      · exact .inl hji
      · rw [getD_set_ne false (Ne.symm hji)] at hj; exact .inr hj
    have hsetI : (listed.setIfInBounds i true).getD i false = true := by simp [hlt]
    have hmono : ∀ j, listed.getD j false = true → (listed.setIfInBounds i true).getD j false = true := fun j hj => by
      by_cases hji : j = i
      · subst hji; exact hsetI
      · rw [getD_set_ne false (Ne.symm hji)]; exact hj
    by_cases his : i = s
    · subst his
      have hK : ∀ v w', Q .normal ((fr x).put o.dst v) w' → wpAny P .any ops Q fuel (listed.setIfInBounds i true) ((fr x).put o.dst v) w' := fun v w' hq => by
        have hnone : Region.ready .any ops (listed.setIfInBounds i true) = [] := by
          cases h : Region.ready .any ops (listed.setIfInBounds i true) with
          | nil => rfl
          | cons j l =>
            have hj : j ∈ Region.ready .any ops (listed.setIfInBounds i true) := by rw [h]; simp
            obtain ⟨hj0, oj, hoj, _⟩ := mem_ready.1 hj
            have hjl : j < i + 1 := by rw [← hsz]; exact (Array.getElem?_eq_some_iff.1 hoj).1
            by_cases e : j = i
            · subst e; rw [getD_tt hsetI] at hj0; cases hj0
            · have := hmono j (all_ahead hcov hcl (fun o' ho' => by rw [ho] at ho'; cases ho'; exact hdep) (i - j) j (by omega) (by omega))
              rw [getD_tt this] at hj0; cases hj0
        cases fuel with
        | zero => exact ⟨hnone, hq⟩
        | succ fuel => exact ⟨fun _ => hq, fun j hj => by rw [hnone] at hj; cases hj⟩
      have := hlast o x w ho hS (fun j hj => hV j (all_ahead hcov hcl (fun o' ho' => by rw [ho] at ho'; cases ho'; exact hdep) (i - j) j (by omega) (by omega))) _ hK
      unfold wpOp
      simp only [ho]
      split
      · rename_i hw; rw [if_pos hw] at this; exact .inl this
      · rename_i hw; rw [if_neg hw] at this; exact this
    · have hil : i < s := by omega
      have H := hput i o hil ho
      have hK : ∀ v w', Rel w w' → Vals i v w' → wpAny P .any ops Q fuel (listed.setIfInBounds i true) ((fr x).put o.dst v) w' := fun v w' hr hv => by
        rw [H.put]
        refine ih _ _ _ (by simpa using hz) ?_ (hrel w w' hS hr) (by rw [getD_set_ne false his]; exact h0) (fun j oj hj hoj e he hb => ?_) fun j hj => ?_
        · have : (listed.setIfInBounds i true).toList.count true = listed.toList.count true + 1 := by
            rw [Array.toList_setIfInBounds, List.count_set (by simpa using hlt)]
            simp [hi0']
          omega
        · rcases hsetD j hj with rfl | hj'
          · rw [ho] at hoj; cases hoj
            exact hmono _ (hdep e he hb)
          · exact hmono _ (hcl j oj hj' hoj e he hb)
        · by_cases hji : j = i
          · subst hji; rw [upd_same]; exact hv
          · rw [upd_other x v hji]
            exact hval _ _ _ _ hS (hV j (by rw [getD_set_ne false (Ne.symm hji)] at hj; exact hj)) hr
      have := H.run x w hS (fun e he hb => hV e.on (hdep e he hb)) _ hK
      unfold wpOp
      simp only [ho]
      split
      · rename_i hw; rw [if_pos hw] at this; exact .inl this
      · rename_i hw; rw [if_neg hw] at this; exact this

/-- Each operation ahead of the last is asked for by a later one. -/
def covered (ops : Array Oper) (s : Nat) : Bool := (List.range s).all fun i => (List.range (s + 1)).any fun j => decide (i < j) && (match ops[j]? with
  | some o => o.after.any fun e => Region.binds .any e && e.on == i
  | none => false)
theorem covered_get (h : covered ops s = true) : ∀ i, i < s → ∃ j o e, i < j ∧ j ≤ s ∧ ops[j]? = some o ∧ e ∈ o.after ∧ Region.binds .any e = true ∧ e.on = i := by
  intro i hi
  unfold covered at h
  rw [List.all_eq_true] at h
  have h1 := h i (List.mem_range.2 hi)
  rw [List.any_eq_true] at h1
  obtain ⟨j, hj, h2⟩ := h1
  rw [Bool.and_eq_true, decide_eq_true_eq] at h2
  cases ho : ops[j]? with
  | none => rw [ho] at h2; exact absurd h2.2 (by simp)
  | some o =>
    rw [ho] at h2
    have h3 := h2.2
    simp only at h3
    rw [Array.any_eq_true'] at h3
    obtain ⟨e, he, h4⟩ := h3
    rw [Bool.and_eq_true, beq_iff_eq] at h4
    exact ⟨j, o, e, h2.1, by have := List.mem_range.1 hj; omega, ho, he, h4.1, h4.2⟩

/-- What is asked of all but the last operation, and of the last. -/
def AllBut (f : Nat → Oper → Prop) (g : Oper → Prop) : Nat → List Oper → Prop
  | _, [] => True
  | _, [o] => g o
  | n, o :: o' :: os => f n o ∧ AllBut f g (n + 1) (o' :: os)
theorem AllBut.get {f : Nat → Oper → Prop} {g : Oper → Prop} : ∀ {l : List Oper} {n : Nat}, AllBut f g n l → ∀ {i : Nat} {o : Oper}, l[i]? = some o → (i + 1 < l.length → f (n + i) o) ∧ (i + 1 = l.length → g o)
  | [], _, _, i, o, h => by simp at h
  | [a], n, hl, 0, o, h => by simp at h; subst h; exact ⟨fun h => by simp at h, fun _ => hl⟩
  | [a], n, hl, i + 1, o, h => by simp at h
  | a :: b :: l, n, hl, 0, o, h => by simp at h; subst h; exact ⟨fun _ => hl.1, fun h => by simp at h⟩
  | a :: b :: l, n, hl, i + 1, o, h => by
    obtain ⟨h1, h2⟩ := AllBut.get hl.2 (i := i) (o := o) (by simpa using h)
    refine ⟨fun hi => ?_, fun hi => h2 (by simpa using hi)⟩
    have := h1 (by simpa using hi)
    rw [show n + (i + 1) = n + 1 + i by omega]; exact this

/-- What is asked of the last operation. -/
structure LastAt (P : Program) (fr : (Nat → Value) → Act) (S : World → Prop) (Vals : Nat → Value → World → Prop) (ops : Array Oper) (Q : Exit → Act → World → Prop) (s : Nat) (o : Oper) : Prop where
  back : ∀ e ∈ o.after, Region.binds .any e = true → e.on < s
  run : ∀ (x : Nat → Value) (w : World), S w → (∀ i, i < s → Vals i (x i) w) → ∀ K : Act → World → Prop, (∀ v w', Q .normal ((fr x).put o.dst v) w' → K ((fr x).put o.dst v) w') →
      if Region.wanted o (yielded ops (fr x).tmps) = true then Oper.wp P o (fr x) w K Q else K ((fr x).put o.dst undef) w

theorem region_last (fr : (Nat → Value) → Act) (S : World → Prop) (Rel : World → World → Prop) (Vals : Nat → Value → World → Prop) (x0 : Nat → Value) (s : Nat) {id : Nat} {a : Act} {w : World}
    (hm : P.follows .mixedOrders = true) (ha : a = fr x0) (hS : S w.drew) (hsz : ops.size = s + 1) (hcov : covered ops s = true)
    (hrel : ∀ w w', S w → Rel w w' → S w') (hval : ∀ i v w w', S w → Vals i v w → Rel w w' → Vals i v w')
    (hops : AllBut (StepAt P fr S Rel Vals ops Q) (LastAt P fr S Vals ops Q s) 0 ops.toList) : (Code.region id ops true).wp P Q a w := by
  subst ha
  refine wp_region_any hm ?_
  have hg := fun (i : Nat) (o : Oper) (h : ops[i]? = some o) => hops.get (i := i) (o := o) (by simpa using h)
  refine last_any hsz (fun i o hi h => ?_) (fun o h => ?_) (covered_get hcov) hrel hval (fun o x w h hS hV K hK => ?_) _ _ _ _ (by simp) (by simp) hS (by simp [hsz]) (fun j o hj => ?_) (fun i hi => ?_)
  · have := (hg i o h).1 (by simp [hsz]; omega); rwa [Nat.zero_add] at this
  · exact ((hg s o h).2 (by simp [hsz])).back
  · exact ((hg s o h).2 (by simp [hsz])).run x w hS hV K hK
  · by_cases h : j < ops.size
    · simp [h] at hj
    · simp [h] at hj
  · by_cases h : i < ops.size
    · simp [h] at hi
    · simp [h] at hi
end
end Go.Proofs.YtdcfemojkdoakaaDoor
/- SubstThen: what its statements keep; calls whose results are told. -/
namespace Go.Proofs.YtdcfemojkdoakaaDoor
open Go.RowKit Go.Sort Go.Lib
attribute [local go_sem] Oper.semAt_some

theorem size_le (d : List PR) (M : Nat) (h1 : 1 ≤ M) (hd : ∀ x ∈ d, tsize x.t ≤ M) : ∀ t, tsize (app d t) ≤ tsize t * M := by
  intro t
  refine T.by_kids (P := fun t => tsize (app d t) ≤ tsize t * M) (fun t H => ?_) t
  cases t with
  | var n =>
    rw [app_v, tsize, Nat.one_mul]
    unfold ty
    cases h : lk n d with
    | none => exact h1
    | some x => exact hd x (lk_name h).1
  | con n l =>
    rw [app, tsize, tsize, apps_map]
    have key : ∀ m : List T, (∀ k ∈ m, k ∈ l) → tsizes (m.map (app d)) ≤ tsizes m * M := by
      intro m
      induction m with
      | nil => intro _; exact Nat.zero_le _
      | cons a m ih =>
        intro hm
        rw [List.map_cons, tsizes, tsizes, Nat.add_mul]
        exact Nat.add_le_add (H a (hm a (List.mem_cons_self ..))) (ih fun k hk => hm k (List.mem_cons_of_mem _ hk))
    have := key l (fun k hk => hk)
    rw [Nat.add_mul]; omega
  | fn a b =>
    have ha := H a (by simp [T.kids])
    have hb := H b (by simp [T.kids])
    rw [app, tsize, tsize, Nat.add_mul, Nat.add_mul]; omega
  | all n a =>
    have ha := H a (by simp [T.kids])
    rw [app, tsize, tsize, Nat.add_mul]; omega
/-- Of a row of pairs: how many, how great, what it does. -/
def Sb (M n : Nat) (f : T → T) (l : List PR) : Prop := l.length ≤ n ∧ (∀ x ∈ l, tsize x.t ≤ M) ∧ ∀ t, app l t = f t
theorem app_ret {l : List PR} {t t' : T} {M n : Nat} {f : T → T} {s : Value} {a : Option Addr} {c : Nat} {w : World} (hs : SubAt s l w) (h : Sb M n f l) (hn : n ≤ 1000) (hM : M ≤ 1000000000) (ht : tsize t ≤ 1000000000) (e : f t = t') (hT : TysAt w (.slice a t.kids.length c) t.kids) :
    Calls Tryd.prog 14 #[.agg #[s], .agg #[.int .i64 t.kind, .string t.name, .slice a t.kids.length c]] w fun e Y => (∃ za zc, e = .returned (.agg #[.int .i64 t'.kind, .string t'.name, .slice za t'.kids.length zc]) ∧ TysAt Y (.slice za t'.kids.length zc) t'.kids) ∧ Below w.heap.size w Y := by
  refine (apply_any (d := l) (t := t) (s := s) (w := w) (by have := h.1; omega) (fun x hx => by have := h.2.1 x hx; omega) ht hs hT).mono ?_
  rintro e1 w5 ⟨⟨a, c, rfl, hin⟩, hb5⟩
  rw [h.2.2, e] at hin ⊢
  exact ⟨⟨a, c, rfl, hin.tys⟩, hb5⟩

def nilV : Value := .slice none 0 0
/-- What the statements of SubstThen keep. -/
def SS (w : World) (b11 b12 b13 b14 b15 : Nat) (t : T) (pa : Option Addr) (ca : Nat) (sx sy sz : Value) (lx ly lz : List PR) (X : World) : Prop :=
  BoxT b11 t pa ca X ∧ ((BoxS b12 sx lx X ∧ BoxS b13 sy ly X) ∧ BoxS b14 sz lz X ∧ BoxS b15 nilV [] X) ∧ Below w.heap.size w X
theorem SS.below {w : World} {b11 b12 b13 b14 b15 : Nat} {t : T} {pa : Option Addr} {ca : Nat} {sx sy sz : Value} {lx ly lz : List PR} {X Y : World} (h : SS w b11 b12 b13 b14 b15 t pa ca sx sy sz lx ly lz X) (hb : Below X.heap.size X Y) : SS w b11 b12 b13 b14 b15 t pa ca sx sy sz lx ly lz Y :=
  ⟨h.1.below hb, ⟨⟨h.2.1.1.1.below hb, h.2.1.1.2.below hb⟩, h.2.1.2.1.below hb, h.2.1.2.2.below hb⟩, h.2.2.trans (hb.mono h.2.2.size)⟩
theorem SS.cells {w : World} {b11 b12 b13 b14 b15 : Nat} {t : T} {pa : Option Addr} {ca : Nat} {sx sy sz : Value} {lx ly lz : List PR} {X : World} (h : SS w b11 b12 b13 b14 b15 t pa ca sx sy sz lx ly lz X) :
    (X.cell? ⟨b11, 0, none⟩ = some (.int .i64 t.kind) ∧ X.cell? ⟨b11, 1, none⟩ = some (.string t.name) ∧ X.cell? ⟨b11, 2, none⟩ = some (.slice pa t.kids.length ca)) ∧
    (X.cell? ⟨b12, 0, none⟩ = some sx ∧ X.cell? ⟨b13, 0, none⟩ = some sy) ∧ X.cell? ⟨b14, 0, none⟩ = some sz ∧ X.cell? ⟨b15, 0, none⟩ = some nilV := ⟨h.1.cells, ⟨h.2.1.1.1.cell, h.2.1.1.2.cell⟩, h.2.1.2.1.cell, h.2.1.2.2.cell⟩

/-! A box that is still empty is filled: all else stays. -/
def zeroT : Obj := .cells #[.int .i64 0, .string ⟨#[]⟩, .slice none 0 0] 29
theorem BoxT.fill {b k : Nat} {t : T} {a : Option Addr} {c : Nat} {w W : World} (h : BoxT b t a c w) (h0 : w.heap[k]? = some zeroT) (hk : ∀ j, j ≠ k → W.heap[j]? = w.heap[j]?) : BoxT b t a c W := by
  refine ⟨(hk b ?_).trans h.1, h.2.elsewhere h0 hk⟩
  rintro rfl
  have h1 := h.1
  rw [h0] at h1
  unfold zeroT at h1
  simp only [Option.some.injEq, Obj.cells.injEq, Array.mk.injEq, List.cons.injEq, Value.int.injEq] at h1
  have := (T.kind_pos t).1
  omega
theorem SubAt.fill {v : Value} {d : List PR} {k : Nat} {w W : World} (h : SubAt v d w) (h0 : w.heap[k]? = some zeroT) (hk : ∀ j, j ≠ k → W.heap[j]? = w.heap[j]?) : SubAt v d W := by
  obtain ⟨⟨h1, h2⟩, h3⟩ := h
  refine ⟨⟨?_, h2⟩, fun x hx => (h3 x hx).elsewhere h0 hk⟩
  rcases h1 with h1 | ⟨g, cap, e, hc, hr⟩
  · exact .inl h1
  · refine .inr ⟨g, cap, e, hc, hr.same (hk g ?_)⟩
    rintro rfl
    obtain ⟨cs, hr, _⟩ := hr
    rw [h0] at hr
    unfold zeroT at hr
    simp at hr
theorem BoxS.fill {b k : Nat} {v : Value} {d : List PR} {w W : World} (h : BoxS b v d w) (h0 : w.heap[k]? = some zeroT) (hk : ∀ j, j ≠ k → W.heap[j]? = w.heap[j]?) : BoxS b v d W := by
  refine ⟨(hk b ?_).trans h.1, h.2.fill h0 hk⟩
  rintro rfl
  have h1 := h.1
  rw [h0] at h1
  unfold zeroT at h1
  simp at h1
theorem SS.fill {w : World} {b11 b12 b13 b14 b15 : Nat} {t : T} {pa : Option Addr} {ca : Nat} {sx sy sz : Value} {lx ly lz : List PR} {X Y : World} {k : Nat} (h : SS w b11 b12 b13 b14 b15 t pa ca sx sy sz lx ly lz X) (h0 : X.heap[k]? = some zeroT) (hk : ∀ j, j ≠ k → Y.heap[j]? = X.heap[j]?) (hb : Below w.heap.size X Y) : SS w b11 b12 b13 b14 b15 t pa ca sx sy sz lx ly lz Y :=
  ⟨h.1.fill h0 hk, ⟨⟨h.2.1.1.1.fill h0 hk, h.2.1.1.2.fill h0 hk⟩, h.2.1.2.1.fill h0 hk, h.2.1.2.2.fill h0 hk⟩, h.2.2.trans hb⟩
theorem fill_box {k : Nat} {p : T} {a : Option Addr} {c : Nat} {w : World} (h0 : w.heap[k]? = some zeroT) (hp : TysAt w (.slice a p.kids.length c) p.kids) :
    BoxT k p a c (((w.setCell ⟨k, 0, none⟩ (.int .i64 p.kind)).setCell ⟨k, 1, none⟩ (.string p.name)).setCell ⟨k, 2, none⟩ (.slice a p.kids.length c)) :=
  ⟨set3_block h0 _ _ _, hp.elsewhere h0 (fun _ hj => set3_others _ _ _ hj)⟩
end Go.Proofs.YtdcfemojkdoakaaDoor
/- SubstThen: the pairs it is given, kept; its calls ahead of the regions. -/
namespace Go.Proofs.YtdcfemojkdoakaaDoor
open Go.RowKit Go.Sort Go.Lib
attribute [local go_sem] Oper.semAt_some

/-- What a call of pairs hands out. -/
def GP (v : Value) (d : List PR) (w : World) : Prop := (GivenP v d w ∧ Typ d w) ∧ d.length ≤ 4 ∧ ∀ x ∈ d, tsize x.t ≤ 56
theorem GP.keep {v : Value} {d : List PR} {w w' : World} (h : GP v d w) (hk : KeepT w w') (hr : ∀ g, RowP g d w → w'.heap[g]? = w.heap[g]?) : GP v d w' := by
  obtain ⟨⟨h1, h2⟩, h3⟩ := h
  refine ⟨⟨?_, h2.keep hk⟩, h3⟩
  rcases h1 with h1 | ⟨h0, g, cap, e, hg⟩
  · exact .inl h1
  · exact .inr ⟨h0, g, cap, e, hg.same (hr g hg)⟩
theorem GP.below {v : Value} {d : List PR} {w w' : World} (h : GP v d w) (hb : Below w.heap.size w w') : GP v d w' := h.keep (KeepT.of_below hb) fun g hg => hb.block g hg.lt
theorem GP.mk {B p : Nat} {a : Option Addr} {n c k : Nat} {v : Value} {d : List PR} {w w' : World} (h : GP v d w) (hf : MkFr B p w w') (hs : SeqAt B p a n c k w) : GP v d w' :=
  h.keep (KeepT.of_mk hf hs) fun g hg => by
    obtain ⟨cs, h1, _⟩ := hg
    refine (hf.2 g _ h1 ?_).trans h1.symm
    rintro rfl
    have := h1.symm.trans hs.1.2
    simp at this
theorem of_gp {v : Value} {d : List PR} {w : World} (h : GP v d w) :
    Calls Tryd.prog 81 #[v] w fun e w' => (∃ sv l, e = .returned (.agg #[sv]) ∧ SubAt sv l w' ∧ Sb 56 4 (app l) l) ∧ Below w.heap.size w w' := by
  obtain ⟨⟨h1, h2⟩, h3, h4⟩ := h
  refine (of_any h1 h2 (fun x hx => fits_small (by have := h4 x hx; omega)) (fun x hx => by have := h4 x hx; omega) (by omega)).mono ?_
  rintro e w' ⟨⟨sv, l, rfl, hs, hm⟩, hb⟩
  refine ⟨⟨sv, l, rfl, hs, by have := hm.len; omega, fun x hx => ?_, fun t => rfl⟩, hb⟩
  obtain ⟨y, hy, _, e⟩ := hm.sub x hx
  rw [e]; exact h4 y hy
theorem sb_nil : Sb 1 0 (fun t => t) [] := ⟨Nat.le_refl _, (fun _ h => nomatch h), app_nil⟩

theorem thl_one (w w5 : World) (t : T) (pa : Option Addr) (ca : Nat) (vA vB vC : Value) (dA dB dC : List PR) (HB : Below w.heap.size w w5) (HT : TysAt w5 (.slice pa t.kids.length ca) t.kids) (hA : GP vA dA w5) (hB : GP vB dB w5) (hC : GP vC dC w5) :
    Calls Tryd.prog 81 #[vA] (w5.alloc (.cells #[.int .i64 t.kind, .string t.name, .slice pa t.kids.length ca] 29))
      fun e w' => (∃ sv l, e = .returned (.agg #[sv]) ∧ SubAt sv l w' ∧ Sb 56 4 (app l) l) ∧ BoxT w5.heap.size t pa ca w' ∧ (GP vB dB w' ∧ GP vC dC w') ∧ Below w.heap.size w w' := by
  have b1 := below_a w5 (.cells #[.int .i64 t.kind, .string t.name, .slice pa t.kids.length ca] 29)
  have k1 := BoxT.new (t := t) HT
  generalize w5.alloc (.cells #[.int .i64 t.kind, .string t.name, .slice pa t.kids.length ca] 29) = V at *
  refine (of_gp (hA.below b1)).mono ?_
  rintro e w' ⟨h1, hb⟩
  exact ⟨h1, k1.below hb, ⟨(hB.below b1).below hb, (hC.below b1).below hb⟩, (HB.trans (b1.mono HB.size)).trans (hb.mono (Nat.le_trans HB.size b1.size))⟩
theorem thl_two (w w6 : World) (b11 : Nat) (t : T) (pa : Option Addr) (ca : Nat) (sx : Value) (lx : List PR) (vB vC : Value) (dB dC : List PR) (HB : Below w.heap.size w w6) (H1 : BoxT b11 t pa ca w6) (hx : SubAt sx lx w6) (hB : GP vB dB w6) (hC : GP vC dC w6) :
    Calls Tryd.prog 81 #[vB] (w6.alloc (.cells #[sx] 33))
      fun e w' => (∃ sv l, e = .returned (.agg #[sv]) ∧ SubAt sv l w' ∧ Sb 56 4 (app l) l) ∧ (BoxT b11 t pa ca w' ∧ BoxS w6.heap.size sx lx w') ∧ GP vC dC w' ∧ Below w.heap.size w w' := by
  have b1 := below_a w6 (.cells #[sx] 33)
  have k1 := BoxS.new hx
  generalize w6.alloc (.cells #[sx] 33) = V at *
  refine (of_gp (hB.below b1)).mono ?_
  rintro e w' ⟨h1, hb⟩
  exact ⟨h1, ⟨(H1.below b1).below hb, k1.below hb⟩, (hC.below b1).below hb, (HB.trans (b1.mono HB.size)).trans (hb.mono (Nat.le_trans HB.size b1.size))⟩
theorem thl_three (w w7 : World) (b11 b12 : Nat) (t : T) (pa : Option Addr) (ca : Nat) (sx sy : Value) (lx ly : List PR) (vC : Value) (dC : List PR) (HB : Below w.heap.size w w7) (H1 : BoxT b11 t pa ca w7) (H2 : BoxS b12 sx lx w7) (hy : SubAt sy ly w7) (hC : GP vC dC w7) :
    Calls Tryd.prog 81 #[vC] (w7.alloc (.cells #[sy] 33))
      fun e w' => (∃ sv l, e = .returned (.agg #[sv]) ∧ SubAt sv l w' ∧ Sb 56 4 (app l) l) ∧ (BoxT b11 t pa ca w' ∧ BoxS b12 sx lx w' ∧ BoxS w7.heap.size sy ly w') ∧ Below w.heap.size w w' := by
  have b1 := below_a w7 (.cells #[sy] 33)
  have k1 := BoxS.new hy
  generalize w7.alloc (.cells #[sy] 33) = V at *
  refine (of_gp (hC.below b1)).mono ?_
  rintro e w' ⟨h1, hb⟩
  exact ⟨h1, ⟨(H1.below b1).below hb, (H2.below b1).below hb, k1.below hb⟩, (HB.trans (b1.mono HB.size)).trans (hb.mono (Nat.le_trans HB.size b1.size))⟩
theorem thl_start (w w8 : World) (b11 b12 b13 : Nat) (t : T) (pa : Option Addr) (ca : Nat) (sx sy sz : Value) (lx ly lz : List PR) (HB : Below w.heap.size w w8) (H1 : BoxT b11 t pa ca w8) (H2 : BoxS b12 sx lx w8) (H3 : BoxS b13 sy ly w8) (hz : SubAt sz lz w8) :
    SS w b11 b12 b13 w8.heap.size (w8.heap.size + 1) t pa ca sx sy sz lx ly lz (((w8.alloc (.cells #[sz] 33)).alloc (.cells #[.slice none 0 0] 33)).drew) := by
  have b1 := below_a w8 (.cells #[sz] 33)
  have k1 := BoxS.new hz
  have b2 := below_a (w8.alloc (.cells #[sz] 33)) (.cells #[.slice none 0 0] 33)
  have k2 : BoxS (w8.alloc (.cells #[sz] 33)).heap.size nilV [] ((w8.alloc (.cells #[sz] 33)).alloc (.cells #[.slice none 0 0] 33)) := BoxS.new (sub_nil _ _ _ (fun _ => rfl))
  have e : (w8.alloc (.cells #[sz] 33)).heap.size = w8.heap.size + 1 := by simp
  rw [e] at k2
  exact SS.below ⟨((H1.below b1).below b2), ⟨⟨(H2.below b1).below b2, (H3.below b1).below b2⟩, k1.below b2, k2⟩, (HB.trans (b1.mono HB.size)).trans (b2.mono (Nat.le_trans HB.size b1.size))⟩ (below_d _)
end Go.Proofs.YtdcfemojkdoakaaDoor
/- (Subst).Pairs as a call; small facts of loops over it. -/
namespace Go.Proofs.YtdcfemojkdoakaaDoor
open Go.RowKit Go.Sort Go.Lib
attribute [local go_sem] Oper.semAt_some

theorem block_kept {W W' : World} {row : Option Nat} {b : Nat} {c : Array Value} {t : TypeId} {m : Nat × Nat} (h : W.heap[b]? = some (.cells c t m)) (hg : W.grownBy W' row)
    (hr : ∀ r, row = some r → ∃ o : Obj, W.heap[r]? = some o ∧ o.isCells = false) : W'.heap[b]? = some (.cells c t m) := by
  refine (hg.block b (Array.getElem?_eq_some_iff.1 h).1 fun e => ?_).trans h
  obtain ⟨o, ho, hc⟩ := hr b e.symm
  rw [h] at ho; cases ho; cases hc
theorem below_others {X Y : World} (h : Below X.heap.size X Y) : KeepsOthers X Y := ⟨h.size, fun k _ hk _ => (h.block k (Array.getElem?_eq_some_iff.1 hk).1).trans hk⟩
theorem own_cells {W : World} {base : Nat} {e : TypeId} {size : Nat} {v : Value} {n : Nat} {xs : List Value} (h : W.ownsRow base e size v n xs) (j : Nat) (o : Obj) (hj : v.ownBlock = some j) (ho : W.heap[j]? = some o) : o.isCells = true := by
  rcases h.2 with ⟨rfl, _⟩ | ⟨g, cap, cur, rfl, _, hg, _⟩
  · cases hj
  · obtain rfl : g = j := by simpa [Value.ownBlock] using hj
    rw [hg] at ho; cases ho; rfl
theorem others_grown {X w1 : World} {o : Obj} {base : Nat} {e : TypeId} {size : Nat} {v : Value} {n : Nat} {xs : List Value} (h : X.ownsRow base e size v n xs) (hg : (X.alloc o).grownBy w1 v.ownBlock) : KeepsOthers X w1 :=
  (KeepsOthers.alloc X o).trans (KeepsOthers.of_grownBy hg fun j ob hj ho => by
    have hlt := (h.lt j hj).2
    rw [Below.heap_alloc X o j hlt] at ho
    exact own_cells h j ob hj ho)

/-- The name of the last one. -/
def lastN (pre : List PR) : ByteArray := (pre.getLast?.map PR.n).getD ⟨#[]⟩
theorem lastN_snoc (pre : List PR) (x : PR) : lastN (pre ++ [x]) = x.n := by simp [lastN]
/-- As many as there are ahead; the same names, the same types. -/
def Ahead (ls pre : List PR) : Prop := pre.length ≤ ls.length ∧ ∀ i, i < pre.length → (pre.getD i noP).n = (ls.getD i noP).n ∧ (pre.getD i noP).t = (ls.getD i noP).t
theorem Ahead.nil (ls : List PR) : Ahead ls [] := ⟨Nat.zero_le _, fun _ hi => absurd hi (Nat.not_lt_zero _)⟩
theorem Ahead.snoc {ls pre : List PR} (h : Ahead ls pre) {x : PR} (hx : pre.length < ls.length ∧ x.n = (ls.getD pre.length noP).n ∧ x.t = (ls.getD pre.length noP).t) : Ahead ls (pre ++ [x]) := by
  refine ⟨by simp; omega, fun i hi => ?_⟩
  rw [List.length_append, List.length_singleton] at hi
  by_cases e : i = pre.length
  · subst e
    have : (pre ++ [x]).getD pre.length noP = x := by simp [List.getD]
    rw [this]; exact hx.2
  · have hlt : i < pre.length := by omega
    have : (pre ++ [x]).getD i noP = pre.getD i noP := by simp [List.getD, List.getElem?_append_left hlt]
    rw [this]; exact h.2 i hlt
theorem Ahead.copy {ls q : List PR} (h : Ahead ls q) (hl : q.length = ls.length) : Copy q ls := ⟨hl, h.2⟩
/-- In a row in order the last one's name is less than the next one's. -/
theorem Ahead.less {ls pre : List PR} (h : Ahead ls pre) (hn : Neat ls) (h0 : pre ≠ []) {x : PR} (hx : pre.length < ls.length ∧ x.n = (ls.getD pre.length noP).n) : Op.bytesLess x.n.toList (lastN pre).toList = false ∧ ¬ x.n.toList = (lastN pre).toList := by
  have hp : 0 < pre.length := List.length_pos_iff.2 h0
  have e : lastN pre = (pre.getD (pre.length - 1) noP).n := by
    unfold lastN
    rw [List.getLast?_eq_getElem?]
    simp [List.getD, List.getElem?_eq_getElem (show pre.length - 1 < pre.length by omega)]
  rw [e, (h.2 _ (by omega)).1, hx.2]
  have hs := List.pairwise_iff_getElem.1 hn.1 (pre.length - 1) pre.length (by omega) hx.1 (by omega)
  have e1 : ls.getD (pre.length - 1) noP = ls[pre.length - 1]'(by omega) := by simp [List.getD, List.getElem?_eq_getElem (show pre.length - 1 < ls.length by omega)]
  have e2 : ls.getD pre.length noP = ls[pre.length]'hx.1 := by simp [List.getD, List.getElem?_eq_getElem hx.1]
  rw [e1, e2, Lib.toList_data, Lib.toList_data, less_cmpL]
  have := hs
  unfold cmpP at this
  have hu := cmpL_neg (ls[pre.length - 1]'(by omega)).n.data.toList (ls[pre.length]'hx.1).n.data.toList
  refine ⟨by simp; omega, fun e => ?_⟩
  rw [e, cmpL_zero.2 rfl] at this
  omega
theorem next_lk {ls : List PR} (hn : Neat ls) {i : Nat} (hi : i < ls.length) : lk (ls.getD i noP).n ls = some (ls.getD i noP) := lk_sorted hn.1 (getD_mem hi)
theorem next_own {ls : List PR} (hn : Neat ls) {i : Nat} (hi : i < ls.length) : (ls.getD i noP).t ≠ .var (ls.getD i noP).n := fun e => by
  have := hn.2 _ (getD_mem hi)
  rw [ownP_iff.2 e] at this; cases this
theorem kind_name {t : T} {n : ByteArray} (hk : t.kind = 1) (h : t ≠ .var n) : t.name ≠ n := by
  cases t with
  | var m => intro e; exact h (by simp only [T.name] at e; rw [e])
  | con m l => simp [T.kind] at hk
  | fn a b => simp [T.kind] at hk
  | all m a => simp [T.kind] at hk

/-- What the rounds keep: how many, the last name, the row of what was told; all that lay in V. -/
def QI (b M : Nat) (V : World) (ls : List PR) (s : Value) (pre : List PR) (X : World) : Prop :=
  ((X.heap[b + 1]? = some (.cells #[.int .i64 (pre.length : Int)] 3 (0, 0)) ∧ X.heap[b + 2]? = some (.cells #[.string (lastN pre)] 9 (0, 0)) ∧ X.heap[b + 3]? = some (.cells #[s] 31 (0, 0))) ∧
    X.ownsRow M 119 4 s pre.length (cellsP pre) ∧ (pre = [] → s = .slice none 0 0)) ∧ (Typ pre X ∧ Ahead ls pre) ∧ M ≤ X.heap.size ∧ Below (b + 1) V X
theorem QI.kept {b M : Nat} {V : World} {ls : List PR} {s : Value} {pre : List PR} {X Y : World} {row : Option Nat} (h : QI b M V ls s pre X) (hg : X.grownBy Y row) (hr : ∀ r, row = some r → ∃ o : Obj, X.heap[r]? = some o ∧ o.isCells = false) (hb : Below (b + 1) V Y) : QI b M V ls s pre Y :=
  ⟨⟨⟨block_kept h.1.1.1 hg hr, block_kept h.1.1.2.1 hg hr, block_kept h.1.1.2.2 hg hr⟩, row_kept h.1.2.1 fun _ _ _ hk => block_kept hk hg hr, h.1.2.2⟩, ⟨h.2.1.1.keep fun _ _ _ hk => block_kept hk hg hr, h.2.1.2⟩, Nat.le_trans h.2.2.1 hg.size, hb⟩
theorem QI.below {b M : Nat} {V : World} {ls : List PR} {s : Value} {pre : List PR} {X Y : World} (h : QI b M V ls s pre X) (hb : Below X.heap.size X Y) (hN : b + 1 ≤ M) : QI b M V ls s pre Y :=
  h.kept (row := none) (grown_of_below hb) (fun r e => by cases e) (h.2.2.2.trans (hb.mono (by have := h.2.2.1; omega)))
end Go.Proofs.YtdcfemojkdoakaaDoor
/- found: what its first loop keeps. -/
namespace Go.Proofs.YtdcfemojkdoakaaDoor
open Go.RowKit Go.Maps Go.Sort Go.Lib
attribute [local go_sem] Oper.semAt_some

theorem GM.grown {B : Nat} {G : Gr} {rt : Nat → Nat} {E c g mb : Nat} {pv : Value} {sl : Nat → Value} {X Y : World} {row : Option Nat} (h : GM B G rt E c g mb pv sl X) (hg : X.grownBy Y row) (hr : ∀ r, row = some r → ∃ o : Obj, X.heap[r]? = some o ∧ o.isCells = false) (hm : row ≠ some mb) : GM B G rt E c g mb pv sl Y := by
  obtain ⟨h1, h2, ⟨nx, hh, h3, h4, h5⟩, ⟨f, h6, h7, h8⟩⟩ := h
  exact ⟨h1, block_kept h2 hg hr, ⟨nx, hh, h3, row_kept h4 fun _ _ _ hk => block_kept hk hg hr, fun i hi => (h5 i hi).keep fun _ _ _ hk => block_kept hk hg hr⟩, ⟨f, h6, h7.kept hg (fun e => hm e.symm), h8⟩⟩
/-- What the loop over the order keeps. w: the world at the call. -/
structure FI (B : Nat) (G : Gr) (rt : Nat → Nat) (E c g mb p cap : Nat) (sl : Nat → Value) (σ : Sg) (ls : List Nat) (w : World) (pre : List Nat) (X : World) : Prop where
  gm : GM B G rt E c g mb (.slice (some ⟨p, 0, none⟩) G.N cap) sl X
  b0 : X.heap[w.heap.size]? = some (.cells #[gp g] 122 (0, 0))
  b1 : X.heap[w.heap.size + 1]? = some (.cells #[.slice none 0 0] 33 (0, 0))
  b3 : X.heap[w.heap.size + 1 + 1 + 1]? = some (.cells #[.slice (some ⟨w.heap.size + 1 + 1, 0, none⟩) G.N G.N] 27 (0, 0))
  made : ∃ m D, pre ++ (List.range m).reverse = (List.range ls.length).reverse ∧ D ≤ X.heap.size ∧ w.heap.size + 1 + 1 + 1 ≤ D ∧ MadeAt (w.heap.size + 1 + 1) D G.N (fun i => sub σ (G.tr i)) (dnOf ls m) X
  low : Below B w X
theorem FI.kept {B : Nat} {G : Gr} {rt : Nat → Nat} {E c g mb p cap : Nat} {sl : Nat → Value} {σ : Sg} {ls : List Nat} {w : World} {pre : List Nat} {X Y : World} {row : Option Nat} (h : FI B G rt E c g mb p cap sl σ ls w pre X) (hg : X.grownBy Y row) {N : Nat} (hr : ∀ r, row = some r → N ≤ r ∧ ∃ o : Obj, X.heap[r]? = some o ∧ o.isCells = false) (hB : B ≤ N) (hmb : mb < N) : FI B G rt E c g mb p cap sl σ ls w pre Y := by
  obtain ⟨h1, h2, h3, h4, ⟨m, D, h5, h6, h7, h8⟩, h9⟩ := h
  have hr' : ∀ r, row = some r → ∃ o : Obj, X.heap[r]? = some o ∧ o.isCells = false := fun r e => (hr r e).2
  exact ⟨h1.grown hg hr' (fun e => by have := (hr _ e).1; omega), block_kept h2 hg hr', block_kept h3 hg hr', block_kept h4 hg hr', ⟨m, D, h5, Nat.le_trans h6 hg.size, h7, h8.keep (fun k cs fz _ _ hk => block_kept hk hg hr') (Nat.le_refl _)⟩, h9.trans ⟨hg.os, hg.tape, hg.output, hg.size, fun k hk => hg.block k (by have := h1.bg; have := h1.lt; omega) (fun e => by have := (hr k e.symm).1; omega)⟩⟩
/-- The loop's beginning. -/
theorem FI.start {B : Nat} {G : Gr} {rt : Nat → Nat} {E c g mb p cap : Nat} {sl : Nat → Value} {w : World} (h : GM B G rt E c g mb (.slice (some ⟨p, 0, none⟩) G.N cap) sl w) (hB : B ≤ w.heap.size) (σ : Sg) (ls : List Nat) (a : Option Addr) (n k : Nat) :
    FI B G rt E c g mb p cap sl σ ls w [] (((((w.alloc (.cells #[gp g] 122)).alloc (.cells #[.slice none 0 0] 33)).alloc (.cells (zeros G.N) 29)).alloc (.cells #[.slice (some ⟨w.heap.size + 1 + 1, 0, none⟩) G.N G.N] 27)).alloc (.cells #[.slice a n k] 22)) := by
  have hb : Below w.heap.size w (((((w.alloc (.cells #[gp g] 122)).alloc (.cells #[.slice none 0 0] 33)).alloc (.cells (zeros G.N) 29)).alloc (.cells #[.slice (some ⟨w.heap.size + 1 + 1, 0, none⟩) G.N G.N] 27)).alloc (.cells #[.slice a n k] 22)) :=
    (((((Below.refl w.heap.size w).alloc (Nat.le_refl _) _).alloc (by simp) _).alloc (by simp; omega) _).alloc (by simp; omega) _).alloc (by simp; omega) _
  have at' : ∀ (W : World) (o o' : Obj) (k : Nat), W.heap[k]? = some o → (W.alloc o').heap[k]? = some o := fun W o o' k hk => (Below.heap_alloc W o' k (Array.getElem?_eq_some_iff.1 hk).1).trans hk
  have new' : ∀ (W : World) (o : Obj) (k : Nat), k = W.heap.size → (W.alloc o).heap[k]? = some o := fun W o k e => by subst e; exact alloc_new W o
  refine ⟨h.keep hb, at' _ _ _ _ (at' _ _ _ _ (at' _ _ _ _ (at' _ _ _ _ (new' _ _ _ rfl)))), at' _ _ _ _ (at' _ _ _ _ (at' _ _ _ _ (new' _ _ _ (by simp)))), at' _ _ _ _ (new' _ _ _ (by simp)), ⟨ls.length, w.heap.size + 1 + 1 + 1, by simp, by simp <;> omega, Nat.le_refl _, ?_⟩, hb.mono hB⟩
  obtain ⟨cs, z, k1, k2, k3⟩ := MadeAt.start (w.heap.size + 1 + 1) (w.heap.size + 1 + 1 + 1) G.N (fun i => sub σ (G.tr i)) (((((w.alloc (.cells #[gp g] 122)).alloc (.cells #[.slice none 0 0] 33)).alloc (.cells (zeros G.N) 29)).alloc (.cells #[.slice (some ⟨w.heap.size + 1 + 1, 0, none⟩) G.N G.N] 27)).alloc (.cells #[.slice a n k] 22)) (at' _ _ _ _ (at' _ _ _ _ (new' _ _ _ (by simp))))
  exact ⟨cs, z, k1, k2, fun j hj hd => by obtain ⟨q, h1, h2, _⟩ := hd; omega⟩
end Go.Proofs.YtdcfemojkdoakaaDoor
/- A region that draws its order, inside a round of a range over a function: as region_inv; no operation defers. -/
namespace Go.Proofs.YtdcfemojkdoakaaDoor

def noDefer (o : Oper) : Bool := match o.op with | .defer _ => false | _ => true
theorem noDefer_out {o : Oper} (h : noDefer o = true) : ∀ c, o.op ≠ .defer c := fun c e => by simp [noDefer, e] at h
theorem calls_round {l n : Nat} {P : Program} {f : FuncId} {args : Array Value} {w : World} {R : Ending → World → Prop} (h : Calls P f args w R) : CallsIn (Fence.wide.inRound l) n P f args w R :=
  (callsIn_wide (n := n)).2 h
theorem rows_round {l n : Nat} {P : Program} {row : String} {args : Array Value} {w : World} {R : Value → World → Prop} (h : Rows P row args w R) : RowsIn (Fence.wide.inRound l) n P row args w R :=
  fun c cs _ => let ⟨v, w', r, s⟩ := h c cs; ⟨v, w', r, (stepsIn_wide (P := P)).2 s⟩
theorem oper_round {l n : Nat} {P : Program} {o : Oper} {a : Act} {w : World} {K : Act → World → Prop} {Q : Exit → Act → World → Prop} (hd : noDefer o = true) (h : Oper.wp P o a w K Q) : Oper.wpIn (Fence.wide.inRound l) n P o a w K Q := by
  refine ⟨fun _ _ => trivial, ?_⟩
  rw [Oper.semAt_plain _ _ _ (noDefer_out hd)]
  unfold Oper.wp at h
  have hdep : (Fence.wide.inRound l).depth.isSome = true → 1 ≤ n := fun h => by simp [Fence.wide] at h
  generalize (execOp a.eval o).run P w = r at h
  cases r with
  | ok x w' =>
    cases x <;> simp only [Oper.upon, Oper.uponIn] at h ⊢ <;> first
      | exact h
      | exact ⟨hdep, calls_round h⟩
      | exact ⟨hdep, rows_round h⟩
      | exact h.elim
  | halt x w' => cases x <;> simp only [Oper.upon, Oper.uponIn] at h ⊢ <;> first | exact h | exact h.elim

section
variable {P : Program} {ops : Array Oper} {Q : Exit → Act → World → Prop} {fr : (Nat → Value) → Act} {S : World → Prop} {Rel : World → World → Prop} {Vals : Nat → Value → World → Prop}

theorem nd_get (hnd : ops.all noDefer = true) {i : Nat} {o : Oper} (ho : ops[i]? = some o) : noDefer o = true := by
  obtain ⟨hlt, rfl⟩ := Array.getElem?_eq_some_iff.1 ho
  exact (Array.all_eq_true'.1 hnd) _ (Array.getElem_mem hlt)
theorem inv_round {l n : Nat} (hnd : ops.all noDefer = true) (hput : ∀ i o, ops[i]? = some o → StepAt P fr S Rel Vals ops Q i o)
    (hrel : ∀ w w', S w → Rel w w' → S w') (hval : ∀ i v w w', S w → Vals i v w → Rel w w' → Vals i v w')
    (hfin : ∀ x w, S w → (∀ i, i < ops.size → Vals i (x i) w) → Q .normal (fr x) w) :
    ∀ (fuel : Nat) (listed : Array Bool) (x : Nat → Value) (w : World), listed.size = ops.size → ops.size ≤ fuel + listed.toList.count true → S w →
      (∀ i, listed.getD i false = true → Vals i (x i) w) → wpAnyIn (Fence.wide.inRound l) n P .any ops Q fuel listed (fr x) w := by
  have hend : ∀ (listed : Array Bool) (x : Nat → Value) (w : World), listed.size = ops.size → S w → (∀ i, listed.getD i false = true → Vals i (x i) w) →
      Region.ready .any ops listed = [] → Q .normal (fr x) w := fun listed x w hz hS hV h =>
    hfin x w hS fun i hi => hV i (all_of_none (fun i o h => (hput i o h).back) hz h i hi)
  intro fuel
  induction fuel with
  | zero =>
    intro listed x w hz hc hS hV
    have hall : listed.toList.count true = listed.toList.length := by
      have := List.count_le_length (a := true) (l := listed.toList)
      simp at this hc ⊢; omega
    have hr : Region.ready .any ops listed = [] := by
      cases h : Region.ready .any ops listed with
      | nil => rfl
      | cons i l =>
        have hi : i ∈ Region.ready .any ops listed := by rw [h]; simp
        obtain ⟨h0, o, ho, _⟩ := mem_ready.1 hi
        have hlt : i < listed.size := by rw [hz]; exact (Array.getElem?_eq_some_iff.1 ho).1
        have := List.count_eq_length.1 hall listed[i] (by simp)
        simp [hlt] at h0
        rw [h0] at this; cases this
    exact ⟨hr, hend listed x w hz hS hV hr⟩
  | succ fuel ih =>
    intro listed x w hz hc hS hV
    refine ⟨hend listed x w hz hS hV, fun i hi => ?_⟩
    obtain ⟨h0, o, ho, hdep⟩ := mem_ready.1 hi
    have hlt : i < listed.size := by rw [hz]; exact (Array.getElem?_eq_some_iff.1 ho).1
    have h0' : listed[i] = false := by simpa [hlt] using h0
    have H := hput i o ho
    have hK : ∀ v w', Rel w w' → Vals i v w' → wpAnyIn (Fence.wide.inRound l) n P .any ops Q fuel (listed.setIfInBounds i true) ((fr x).put o.dst v) w' := fun v w' hr hv => by
      rw [H.put]
      refine ih _ _ _ (by simpa using hz) ?_ (hrel w w' hS hr) fun j hj => ?_
      · have : (listed.setIfInBounds i true).toList.count true = listed.toList.count true + 1 := by
          rw [Array.toList_setIfInBounds, List.count_set (by simpa using hlt)]
          simp [h0']
        omega
      · by_cases hji : j = i
        · subst hji; rw [upd_same]; exact hv
        · rw [upd_other x v hji]
          exact hval _ _ _ _ hS (hV j (by rw [getD_set_ne false (Ne.symm hji)] at hj; exact hj)) hr
    have := H.run x w hS (fun e he hb => hV e.on (hdep e he hb)) _ hK
    unfold wpOpIn
    simp only [ho]
    split
    · rename_i hw; rw [if_pos hw] at this; exact oper_round (nd_get hnd ho) this
    · rename_i hw; rw [if_neg hw] at this; exact ⟨fun _ _ => trivial, this⟩

theorem last_round {l n s : Nat} (hnd : ops.all noDefer = true) (hsz : ops.size = s + 1) (hput : ∀ i o, i < s → ops[i]? = some o → StepAt P fr S Rel Vals ops Q i o)
    (hbs : ∀ o, ops[s]? = some o → ∀ e ∈ o.after, Region.binds .any e = true → e.on < s)
    (hcov : ∀ i, i < s → ∃ j o e, i < j ∧ j ≤ s ∧ ops[j]? = some o ∧ e ∈ o.after ∧ Region.binds .any e = true ∧ e.on = i)
    (hrel : ∀ w w', S w → Rel w w' → S w') (hval : ∀ i v w w', S w → Vals i v w → Rel w w' → Vals i v w')
    (hlast : ∀ o x w, ops[s]? = some o → S w → (∀ i, i < s → Vals i (x i) w) → ∀ K : Act → World → Prop, (∀ v w', Q .normal ((fr x).put o.dst v) w' → K ((fr x).put o.dst v) w') →
      if Region.wanted o (yielded ops (fr x).tmps) = true then Oper.wp P o (fr x) w K Q else K ((fr x).put o.dst undef) w) :
    ∀ (fuel : Nat) (listed : Array Bool) (x : Nat → Value) (w : World), listed.size = ops.size → ops.size ≤ fuel + listed.toList.count true → S w → listed.getD s false = false →
      (∀ j o, listed.getD j false = true → ops[j]? = some o → ∀ e ∈ o.after, Region.binds .any e = true → listed.getD e.on false = true) →
      (∀ i, listed.getD i false = true → Vals i (x i) w) → wpAnyIn (Fence.wide.inRound l) n P .any ops Q fuel listed (fr x) w := by
  have hback : ∀ i o, ops[i]? = some o → ∀ e ∈ o.after, Region.binds .any e = true → e.on < i := fun i o ho => by
    have hi : i < s + 1 := by rw [← hsz]; exact (Array.getElem?_eq_some_iff.1 ho).1
    by_cases e : i = s
    · subst e; exact hbs o ho
    · exact (hput i o (by omega) ho).back
  have hend : ∀ (listed : Array Bool), listed.size = ops.size → listed.getD s false = false → Region.ready .any ops listed = [] → False := fun listed hz h0 h => by
    have := all_of_none hback hz h s (by omega)
    rw [h0] at this; cases this
  intro fuel
  induction fuel with
  | zero =>
    intro listed x w hz hc hS h0 hcl hV
    have hall : listed.toList.count true = listed.toList.length := by
      have := List.count_le_length (a := true) (l := listed.toList)
      simp at this hc ⊢; omega
    have hlt : s < listed.size := by omega
    have := List.count_eq_length.1 hall listed[s] (by simp)
    simp [hlt] at h0
    rw [h0] at this; cases this
  | succ fuel ih =>
    intro listed x w hz hc hS h0 hcl hV
    refine ⟨fun h => (hend listed hz h0 h).elim, fun i hi => ?_⟩
    obtain ⟨hi0, o, ho, hdep⟩ := mem_ready.1 hi
    have hlt : i < listed.size := by rw [hz]; exact (Array.getElem?_eq_some_iff.1 ho).1
    have hi0' : listed[i] = false := by simpa [hlt] using hi0
    have hsetD : ∀ j, (listed.setIfInBounds i true).getD j false = true → j = i ∨ listed.getD j false = true := fun j hj => by
      by_cases hji : j = i
      · exact .inl hji
      · rw [getD_set_ne false (Ne.symm hji)] at hj; exact .inr hj
    have hsetI : (listed.setIfInBounds i true).getD i false = true := by simp [hlt]
    have hmono : ∀ j, listed.getD j false = true → (listed.setIfInBounds i true).getD j false = true := fun j hj => by
      by_cases hji : j = i
      · subst hji; exact hsetI
      · rw [getD_set_ne false (Ne.symm hji)]; exact hj
    by_cases his : i = s
    · subst his
      have hK : ∀ v w', Q .normal ((fr x).put o.dst v) w' → wpAnyIn (Fence.wide.inRound l) n P .any ops Q fuel (listed.setIfInBounds i true) ((fr x).put o.dst v) w' := fun v w' hq => by
        have hnone : Region.ready .any ops (listed.setIfInBounds i true) = [] := by
          cases h : Region.ready .any ops (listed.setIfInBounds i true) with
          | nil => rfl
          | cons j l =>
            have hj : j ∈ Region.ready .any ops (listed.setIfInBounds i true) := by rw [h]; simp
            obtain ⟨hj0, oj, hoj, _⟩ := mem_ready.1 hj
            have hjl : j < i + 1 := by rw [← hsz]; exact (Array.getElem?_eq_some_iff.1 hoj).1
            by_cases e : j = i
            · subst e; rw [getD_tt hsetI] at hj0; cases hj0
            · have := hmono j (all_ahead hcov hcl (fun o' ho' => by rw [ho] at ho'; cases ho'; exact hdep) (i - j) j (by omega) (by omega))
              rw [getD_tt this] at hj0; cases hj0
        cases fuel with
        | zero => exact ⟨hnone, hq⟩
        | succ fuel => exact ⟨fun _ => hq, fun j hj => by rw [hnone] at hj; cases hj⟩
      have := hlast o x w ho hS (fun j hj => hV j (all_ahead hcov hcl (fun o' ho' => by rw [ho] at ho'; cases ho'; exact hdep) (i - j) j (by omega) (by omega))) _ hK
      unfold wpOpIn
      simp only [ho]
      split
      · rename_i hw; rw [if_pos hw] at this; exact oper_round (nd_get hnd ho) this
      · rename_i hw; rw [if_neg hw] at this; exact ⟨fun _ _ => trivial, this⟩
    · have hil : i < s := by omega
      have H := hput i o hil ho
      have hK : ∀ v w', Rel w w' → Vals i v w' → wpAnyIn (Fence.wide.inRound l) n P .any ops Q fuel (listed.setIfInBounds i true) ((fr x).put o.dst v) w' := fun v w' hr hv => by
        rw [H.put]
        refine ih _ _ _ (by simpa using hz) ?_ (hrel w w' hS hr) (by rw [getD_set_ne false his]; exact h0) (fun j oj hj hoj e he hb => ?_) fun j hj => ?_
        · have : (listed.setIfInBounds i true).toList.count true = listed.toList.count true + 1 := by
            rw [Array.toList_setIfInBounds, List.count_set (by simpa using hlt)]
            simp [hi0']
          omega
        · rcases hsetD j hj with rfl | hj'
          · rw [ho] at hoj; cases hoj
            exact hmono _ (hdep e he hb)
          · exact hmono _ (hcl j oj hj' hoj e he hb)
        · by_cases hji : j = i
          · subst hji; rw [upd_same]; exact hv
          · rw [upd_other x v hji]
            exact hval _ _ _ _ hS (hV j (by rw [getD_set_ne false (Ne.symm hji)] at hj; exact hj)) hr
      have := H.run x w hS (fun e he hb => hV e.on (hdep e he hb)) _ hK
      unfold wpOpIn
      simp only [ho]
      split
      · rename_i hw; rw [if_pos hw] at this; exact oper_round (nd_get hnd ho) this
      · rename_i hw; rw [if_neg hw] at this; exact ⟨fun _ _ => trivial, this⟩

theorem region_round {l n : Nat} (fr : (Nat → Value) → Act) (S : World → Prop) (Rel : World → World → Prop) (Vals : Nat → Value → World → Prop) (x0 : Nat → Value) {id : Nat} {a : Act} {w : World}
    (hm : P.follows .mixedOrders = true) (hnd : ops.all noDefer = true) (ha : a = fr x0) (hS : S w.drew)
    (hrel : ∀ w w', S w → Rel w w' → S w') (hval : ∀ i v w w', S w → Vals i v w → Rel w w' → Vals i v w')
    (hops : AllAt (StepAt P fr S Rel Vals ops Q) 0 ops.toList)
    (hfin : ∀ x w, S w → (∀ i, i < ops.size → Vals i (x i) w) → Q .normal (fr x) w) : (Code.region id ops true).wpIn (Fence.wide.inRound l) n P Q a w := by
  subst ha
  refine wpIn_region_any hm ?_
  exact inv_round hnd (fun i o h => by have := hops.get (i := i) (o := o) (by simpa using h); rwa [Nat.zero_add] at this) hrel hval hfin _ _ _ _ (by simp) (by simp) hS
    (fun i hi => by
      by_cases h : i < ops.size
      · simp [h] at hi
      · simp [h] at hi)
theorem region_last_round {l n : Nat} (fr : (Nat → Value) → Act) (S : World → Prop) (Rel : World → World → Prop) (Vals : Nat → Value → World → Prop) (x0 : Nat → Value) (s : Nat) {id : Nat} {a : Act} {w : World}
    (hm : P.follows .mixedOrders = true) (hnd : ops.all noDefer = true) (ha : a = fr x0) (hS : S w.drew) (hsz : ops.size = s + 1) (hcov : covered ops s = true)
    (hrel : ∀ w w', S w → Rel w w' → S w') (hval : ∀ i v w w', S w → Vals i v w → Rel w w' → Vals i v w')
    (hops : AllBut (StepAt P fr S Rel Vals ops Q) (LastAt P fr S Vals ops Q s) 0 ops.toList) : (Code.region id ops true).wpIn (Fence.wide.inRound l) n P Q a w := by
  subst ha
  refine wpIn_region_any hm ?_
  have hg := fun (i : Nat) (o : Oper) (h : ops[i]? = some o) => hops.get (i := i) (o := o) (by simpa using h)
  refine last_round hnd hsz (fun i o hi h => ?_) (fun o h => ?_) (covered_get hcov) hrel hval (fun o x w h hS hV K hK => ?_) _ _ _ _ (by simp) (by simp) hS (by simp [hsz]) (fun j o hj => ?_) (fun i hi => ?_)
  · have := (hg i o h).1 (by simp [hsz]; omega); rwa [Nat.zero_add] at this
  · exact ((hg s o h).2 (by simp [hsz])).back
  · exact ((hg s o h).2 (by simp [hsz])).run x w hS hV K hK
  · by_cases h : j < ops.size
    · simp [h] at hj
    · simp [h] at hj
  · by_cases h : i < ops.size
    · simp [h] at hi
    · simp [h] at hi
end
end Go.Proofs.YtdcfemojkdoakaaDoor
/- found: what its inner loop's drawn region keeps. -/
namespace Go.Proofs.YtdcfemojkdoakaaDoor
open Go.RowKit Go.Maps Go.Sort Go.Lib
attribute [local go_sem] Oper.semAt_some

theorem Fr.cell {p : Nat} {w v : World} (h : Fr p w v) {k o : Nat} {x : Value} (hk : w.cell? ⟨k, o, none⟩ = some x) (hp : k ≠ p) : v.cell? ⟨k, o, none⟩ = some x := by
  have hl : k < w.heap.size := World.block_lt_of_cell? w ⟨k, o, none⟩ hk
  rw [← hk]; simp only [World.cell?, h.2 k hl hp]
theorem Fr.frozen {p : Nat} {w v : World} (h : Fr p w v) {k o : Nat} (hl : k < w.heap.size) (hp : k ≠ p) {x : Bool} (hk : w.frozen? ⟨k, o, none⟩ = x) : v.frozen? ⟨k, o, none⟩ = x := by
  rw [← hk]; simp only [World.frozen?, h.2 k hl hp]
/-- The cells that an argument's round reads and writes. -/
structure FC (p b2 b5 M R N j r g : Nat) (u : T) (a : Option Addr) (c : Nat) (w : World) : Prop where
  c2 : w.cell? ⟨b2, 0, none⟩ = some (gp g)
  c5 : w.cell? ⟨b5, 0, none⟩ = some (.slice (some ⟨M, 0, none⟩) N N)
  m0 : w.cell? ⟨M, r * 3, none⟩ = some (.int .i64 u.kind)
  m1 : w.cell? ⟨M, r * 3 + 1, none⟩ = some (.string u.name)
  m2 : w.cell? ⟨M, r * 3 + 2, none⟩ = some (.slice a u.kids.length c)
  r0 : ∃ x, w.cell? ⟨R, j * 3, none⟩ = some x
  r1 : ∃ x, w.cell? ⟨R, j * 3 + 1, none⟩ = some x
  r2 : ∃ x, w.cell? ⟨R, j * 3 + 2, none⟩ = some x
  s0 : w.frozen? ⟨R, j * 3, none⟩ = false
  s1 : w.frozen? ⟨R, j * 3 + 1, none⟩ = false
  s2 : w.frozen? ⟨R, j * 3 + 2, none⟩ = false
  ne : b2 ≠ p ∧ b5 ≠ p ∧ M ≠ p ∧ R ≠ p
theorem FC.fr {p b2 b5 M R N j r g : Nat} {u : T} {a : Option Addr} {c : Nat} {w v : World} (h : FC p b2 b5 M R N j r g u a c w) (hf : Fr p w v) : FC p b2 b5 M R N j r g u a c v := by
  obtain ⟨c2, c5, m0, m1, m2, ⟨x0, r0⟩, ⟨x1, r1⟩, ⟨x2, r2⟩, s0, s1, s2, n0, n1, n2, n3⟩ := h
  have hl : R < w.heap.size := World.block_lt_of_cell? w ⟨R, j * 3, none⟩ r0
  exact ⟨hf.cell c2 n0, hf.cell c5 n1, hf.cell m0 n2, hf.cell m1 n2, hf.cell m2 n2, ⟨x0, hf.cell r0 n3⟩, ⟨x1, hf.cell r1 n3⟩, ⟨x2, hf.cell r2 n3⟩, hf.frozen hl n3 s0, hf.frozen hl n3 s1, hf.frozen hl n3 s2, n0, n1, n2, n3⟩
/-- What the region keeps. -/
def FSt (B : Nat) (G : Gr) (rt : Nat → Nat) (E c g mb p cap : Nat) (sl : Nat → Value) (b2 b5 M R j r : Nat) (u : T) (a : Option Addr) (ac : Nat) (wr V : World) : Prop :=
  GM B G rt E c g mb (.slice (some ⟨p, 0, none⟩) G.N cap) sl V ∧ Fr p wr V ∧ FC p b2 b5 M R G.N j r g u a ac V
def FRel (B : Nat) (G : Gr) (rt : Nat → Nat) (E c g mb p cap : Nat) (sl : Nat → Value) (V Y : World) : Prop :=
  GM B G rt E c g mb (.slice (some ⟨p, 0, none⟩) G.N cap) sl Y ∧ Fr p V Y
theorem FSt.step {B : Nat} {G : Gr} {rt : Nat → Nat} {E c g mb p cap : Nat} {sl : Nat → Value} {b2 b5 M R j r : Nat} {u : T} {a : Option Addr} {ac : Nat} {wr V Y : World} (h : FSt B G rt E c g mb p cap sl b2 b5 M R j r u a ac wr V) (hr : FRel B G rt E c g mb p cap sl V Y) : FSt B G rt E c g mb p cap sl b2 b5 M R j r u a ac wr Y :=
  ⟨hr.1, h.2.1.trans hr.2, h.2.2.fr hr.2⟩
theorem FSt.rel {B : Nat} {G : Gr} {rt : Nat → Nat} {E c g mb p cap : Nat} {sl : Nat → Value} {b2 b5 M R j r : Nat} {u : T} {a : Option Addr} {ac : Nat} {wr V : World} (h : FSt B G rt E c g mb p cap sl b2 b5 M R j r u a ac wr V) : FRel B G rt E c g mb p cap sl V V := ⟨h.1, Fr.refl _ _⟩
theorem FSt.start {B : Nat} {G : Gr} {rt : Nat → Nat} {E c g mb p cap : Nat} {sl : Nat → Value} {b2 b5 M R j r : Nat} {u : T} {a : Option Addr} {ac : Nat} {wr : World} (h : GM B G rt E c g mb (.slice (some ⟨p, 0, none⟩) G.N cap) sl wr) (hc : FC p b2 b5 M R G.N j r g u a ac wr) : FSt B G rt E c g mb p cap sl b2 b5 M R j r u a ac wr wr.drew :=
  ⟨h.drew, (Fr.refl _ _).drew, hc.fr (Fr.refl _ _).drew⟩
end Go.Proofs.YtdcfemojkdoakaaDoor
/- found: its last statement, a region of 10 operations that draws its order, by an invariant. (Made by a program.) -/
namespace Go.Proofs.YtdcfemojkdoakaaDoor
open Go.RowKit Go.Maps Go.Sort Go.Lib
attribute [local go_sem] Oper.semAt_some

noncomputable def fndOps : Array Oper := regionIn 9 (Tryd.f50.body.getD .skip)
def fndFr (b : Nat → Value) (d : List Deferred) (x : Nat → Value) : Act := { tmps := #[b 0, b 1, b 2, b 3, b 4, b 5, b 6, b 7, b 8, b 9, b 10, b 11, b 12, b 13, b 14, b 15, b 16, b 17, b 18, b 19, b 20, b 21, b 22, b 23, b 24, b 25, b 26, b 27, b 28, b 29, b 30, b 31, b 32, b 33, b 34, b 35, b 36, b 37, b 38, b 39, b 40, b 41, b 42, b 43, x 0, x 1, x 2, x 3, x 4, x 5, x 6, x 7, x 8, b 53, b 54, b 55, b 56, b 57, b 58, b 59, b 60, b 61, b 62, b 63, b 64, b 65, b 66, b 67, b 68, b 69, b 70, b 71, b 72, b 73, b 74, b 75, b 76, b 77, b 78, b 79, b 80, b 81, b 82, b 83, b 84, b 85, b 86, b 87, b 88, b 89, b 90], defers := d }

def fndVals (G : Gr) (rt : Nat → Nat) (g : Nat) (M R j n ix : Nat) (u : T) (ad : Option Addr) (ac : Nat) (i : Nat) (v : Value) (_ : World) : Prop :=
  match i with
  | 0 => v = .slice (some ⟨R, 0, none⟩) n n
  | 1 => v = .int .i64 (j : Int)
  | 2 => v = .slice (some ⟨M, 0, none⟩) G.N G.N
  | 3 => v = gp g
  | 4 => v = .int .i64 (ix : Int)
  | 5 => v = .int .i64 (rt ix : Nat)
  | 6 => v = .pointer (some ⟨M, rt ix * 3, none⟩)
  | 7 => v = .agg #[.int .i64 u.kind, .string u.name, .slice ad u.kids.length ac]
  | 8 => v = .pointer (some ⟨R, j * 3, none⟩)
  | _ => True

theorem fndVals_keep {G : Gr} {rt : Nat → Nat} {g : Nat} {M R j n ix : Nat} {u : T} {ad : Option Addr} {ac : Nat} {B : Nat} {E c mb p cap : Nat} {sl : Nat → Value} (i : Nat) (v : Value) (V Y : World) (h : fndVals G rt g M R j n ix u ad ac i v V) (_ : FRel B G rt E c g mb p cap sl V Y) : fndVals G rt g M R j n ix u ad ac i v Y := by
  unfold fndVals at *
  split at h <;> first
    | exact h


theorem fnd_nd : fndOps.all noDefer = true := by kernel_rfl
theorem fnd_size : fndOps.size = 10 := by kernel_rfl
theorem fnd_cov : covered fndOps 9 = true := by kernel_rfl
set_option linter.unusedSimpArgs false in
set_option maxRecDepth 100000 in
set_option maxHeartbeats 8000000 in
theorem fnd_region {l nn : Nat} {B : Nat} {G : Gr} {rt : Nat → Nat} {E c g mb p cap : Nat} {sl : Nat → Value} {b2 b5 M R j n ix : Nat} {u : T} {ad : Option Addr} {ac : Nat} {wr : World} (hjz : (j : Int) < (n : Int)) (hrz : ((rt ix : Nat) : Int) < (G.N : Int)) {b : Nat → Value} {d : List Deferred}
    (h9 : b 9 = .slice (some ⟨R, 0, none⟩) n n) (h10 : b 10 = .int .i64 (j : Int)) (h5 : b 5 = .pointer (some ⟨b5, 0, none⟩)) (h2 : b 2 = .pointer (some ⟨b2, 0, none⟩)) (h11 : b 11 = .int .i64 (ix : Int))
    (HC5 : ∀ V, FSt B G rt E c g mb p cap sl b2 b5 M R j (rt ix) u ad ac wr V → Calls Tryd.prog 73 #[gp g, .int .i64 (ix : Int)] V fun e Y => e = .returned (.int .i64 (rt ix : Nat)) ∧ FRel B G rt E c g mb p cap sl V Y)
    {Q : Exit → Act → World → Prop} {ops : Array Oper} (hops : ops = fndOps) (x0 : Nat → Value) (X : World) (hS : FSt B G rt E c g mb p cap sl b2 b5 M R j (rt ix) u ad ac wr X.drew)
    (hfin : ∀ x V, FSt B G rt E c g mb p cap sl b2 b5 M R j (rt ix) u ad ac wr V → x 7 = .agg #[.int .i64 u.kind, .string u.name, .slice ad u.kids.length ac] → Q .normal (fndFr b d x) (((V.setCell ⟨R, j * 3, none⟩ (.int .i64 u.kind)).setCell ⟨R, j * 3 + 1, none⟩ (.string u.name)).setCell ⟨R, j * 3 + 2, none⟩ (.slice ad u.kids.length ac))) : (Code.region 9 ops true).wpIn (Fence.wide.inRound l) nn Tryd.prog Q (fndFr b d x0) X := by
  have HC := Lib.hid (HC5)
  clear HC5
  have hszo : ops.size = 9 + 1 := by rw [hops]; exact fnd_size
  have hcovo : covered ops 9 = true := by rw [hops]; exact fnd_cov
  have hndo : ops.all noDefer = true := by rw [hops]; exact fnd_nd
  refine region_last_round (fndFr b d) (fun V => FSt B G rt E c g mb p cap sl b2 b5 M R j (rt ix) u ad ac wr V) (fun V Y => FRel B G rt E c g mb p cap sl V Y) (fndVals G rt g M R j n ix u ad ac) x0 9 (by kernel_rfl) hndo rfl hS hszo hcovo (fun V Y h hb => h.step hb) (fun i v V Y _ h hb => fndVals_keep i v V Y h hb) ?_
  have HFIN := Lib.hid hfin
  clear hfin hS hszo hcovo hndo
  obtain ⟨gl, hgl⟩ : ∃ qq, LastAt Tryd.prog (fndFr b d) (fun V => FSt B G rt E c g mb p cap sl b2 b5 M R j (rt ix) u ad ac wr V) (fndVals G rt g M R j n ix u ad ac) ops Q 9 = qq := ⟨_, rfl⟩
  rw [hgl]
  obtain ⟨f, hf⟩ : ∃ qq, StepAt Tryd.prog (fndFr b d) (fun V => FSt B G rt E c g mb p cap sl b2 b5 M R j (rt ix) u ad ac wr V) (fun V Y => FRel B G rt E c g mb p cap sl V Y) (fndVals G rt g M R j n ix u ad ac) ops Q = qq := ⟨_, rfl⟩
  rw [hf, hops]
  simp only [fndOps, Tryd.f50, regionIn, Option.getD_some, Nat.reduceBEq, Bool.false_eq_true, if_false, if_true, beq_self_eq_true, Array.append_empty, Array.empty_append, List.append_eq, List.cons_append, List.nil_append, AllBut, Nat.reduceAdd, Nat.zero_add]
  -- 0: slot 44 := Op.move t9
  refine And.intro ?_ ?_
  · clear HFIN hgl
    rw [← hf]; clear hf
    refine ⟨by decide +kernel, fun x v => by kernel_rfl, fun x V hV hdep K hK => ?_⟩
    clear hdep
    refine run_bare (by kernel_rfl) ?_
    unfold fndFr
    go_simp
    refine kfit (hK _ _ (hV.rel) rfl) ?_
    first | (simp only [fndFr, Act.put, List.setIfInBounds_toArray, List.set_cons_zero, List.set_cons_succ, h9, h10, h5, h2, h11]; done) | (simp only [fndFr, Act.put, List.setIfInBounds_toArray, List.set_cons_zero, List.set_cons_succ, h9, h10, h5, h2, h11]; rfl)
  -- 1: slot 45 := Op.move t10
  refine And.intro ?_ ?_
  · clear HFIN hgl
    rw [← hf]; clear hf
    refine ⟨by decide +kernel, fun x v => by kernel_rfl, fun x V hV hdep K hK => ?_⟩
    clear hdep
    refine run_bare (by kernel_rfl) ?_
    unfold fndFr
    go_simp
    refine kfit (hK _ _ (hV.rel) rfl) ?_
    first | (simp only [fndFr, Act.put, List.setIfInBounds_toArray, List.set_cons_zero, List.set_cons_succ, h9, h10, h5, h2, h11]; done) | (simp only [fndFr, Act.put, List.setIfInBounds_toArray, List.set_cons_zero, List.set_cons_succ, h9, h10, h5, h2, h11]; rfl)
  -- 2: slot 46 := Op.load 27 t5
  refine And.intro ?_ ?_
  · clear HFIN hgl
    rw [← hf]; clear hf
    refine ⟨by decide +kernel, fun x v => by kernel_rfl, fun x V hV hdep K hK => ?_⟩
    clear hdep
    refine run_bare (by kernel_rfl) ?_
    unfold fndFr
    obtain ⟨y0, y1, y2, y3, y4, ⟨_, y5⟩, ⟨_, y6⟩, ⟨_, y7⟩, y8, y9, y10, _⟩ := hV.2.2
    go_simp
    refine kfit (hK _ _ (hV.rel) rfl) ?_
    first | (simp only [fndFr, Act.put, List.setIfInBounds_toArray, List.set_cons_zero, List.set_cons_succ, h9, h10, h5, h2, h11]; done) | (simp only [fndFr, Act.put, List.setIfInBounds_toArray, List.set_cons_zero, List.set_cons_succ, h9, h10, h5, h2, h11]; rfl)
  -- 3: slot 47 := Op.load 96 t2
  refine And.intro ?_ ?_
  · clear HFIN hgl
    rw [← hf]; clear hf
    refine ⟨by decide +kernel, fun x v => by kernel_rfl, fun x V hV hdep K hK => ?_⟩
    clear hdep
    refine run_bare (by kernel_rfl) ?_
    unfold fndFr
    obtain ⟨y0, y1, y2, y3, y4, ⟨_, y5⟩, ⟨_, y6⟩, ⟨_, y7⟩, y8, y9, y10, _⟩ := hV.2.2
    go_simp
    refine kfit (hK _ _ (hV.rel) rfl) ?_
    first | (simp only [fndFr, Act.put, List.setIfInBounds_toArray, List.set_cons_zero, List.set_cons_succ, h9, h10, h5, h2, h11]; done) | (simp only [fndFr, Act.put, List.setIfInBounds_toArray, List.set_cons_zero, List.set_cons_succ, h9, h10, h5, h2, h11]; rfl)
  -- 4: slot 48 := Op.move t11
  refine And.intro ?_ ?_
  · clear HFIN hgl
    rw [← hf]; clear hf
    refine ⟨by decide +kernel, fun x v => by kernel_rfl, fun x V hV hdep K hK => ?_⟩
    clear hdep
    refine run_bare (by kernel_rfl) ?_
    unfold fndFr
    go_simp
    refine kfit (hK _ _ (hV.rel) rfl) ?_
    first | (simp only [fndFr, Act.put, List.setIfInBounds_toArray, List.set_cons_zero, List.set_cons_succ, h9, h10, h5, h2, h11]; done) | (simp only [fndFr, Act.put, List.setIfInBounds_toArray, List.set_cons_zero, List.set_cons_succ, h9, h10, h5, h2, h11]; rfl)
  -- 5: slot 49 := Op.call { value (Operand.func 46), args := #[t47, t48], argT
  refine And.intro ?_ ?_
  · clear HFIN hgl
    rw [← hf]; clear hf
    refine ⟨by decide +kernel, fun x v => by kernel_rfl, fun x V hV hdep K hK => ?_⟩
    have e3 : x 3 = gp g := depOf hdep 3 (by decide +kernel)
    have e4 : x 4 = .int .i64 (ix : Int) := depOf hdep 4 (by decide +kernel)
    clear hdep
    refine run_bare (by kernel_rfl) ?_
    unfold fndFr
    have HC5 := HC.out
    have H := HC5 V hV
    replace H := Lib.hid H; clear HC5
    go_simp
    go_at_call 73
    refine H.out.mono ?_
    rintro e Y ⟨rfl, hb⟩; refine kfit (hK _ _ hb rfl) ?_
    first | (simp only [fndFr, Act.put, List.setIfInBounds_toArray, List.set_cons_zero, List.set_cons_succ, h9, h10, h5, h2, h11, e3, e4]; done) | (simp only [fndFr, Act.put, List.setIfInBounds_toArray, List.set_cons_zero, List.set_cons_succ, h9, h10, h5, h2, h11, e3, e4]; rfl)
  -- 6: slot 50 := Op.indexAddr 27 t46 t49
  refine And.intro ?_ ?_
  · clear HFIN hgl
    rw [← hf]; clear hf
    refine ⟨by decide +kernel, fun x v => by kernel_rfl, fun x V hV hdep K hK => ?_⟩
    have e2 : x 2 = .slice (some ⟨M, 0, none⟩) G.N G.N := depOf hdep 2 (by decide +kernel)
    have e5 : x 5 = .int .i64 (rt ix : Nat) := depOf hdep 5 (by decide +kernel)
    clear hdep
    refine run_bare (by kernel_rfl) ?_
    unfold fndFr
    go_simp
    refine kfit (hK _ _ (hV.rel) rfl) ?_
    first | (simp only [fndFr, Act.put, List.setIfInBounds_toArray, List.set_cons_zero, List.set_cons_succ, h9, h10, h5, h2, h11, e2, e5]; done) | (simp only [fndFr, Act.put, List.setIfInBounds_toArray, List.set_cons_zero, List.set_cons_succ, h9, h10, h5, h2, h11, e2, e5]; rfl)
  -- 7: slot 51 := Op.load 29 t50
  refine And.intro ?_ ?_
  · clear HFIN hgl
    rw [← hf]; clear hf
    refine ⟨by decide +kernel, fun x v => by kernel_rfl, fun x V hV hdep K hK => ?_⟩
    have e6 : x 6 = .pointer (some ⟨M, rt ix * 3, none⟩) := depOf hdep 6 (by decide +kernel)
    clear hdep
    refine run_bare (by kernel_rfl) ?_
    unfold fndFr
    obtain ⟨y0, y1, y2, y3, y4, ⟨_, y5⟩, ⟨_, y6⟩, ⟨_, y7⟩, y8, y9, y10, _⟩ := hV.2.2
    go_simp
    refine kfit (hK _ _ (hV.rel) rfl) ?_
    first | (simp only [fndFr, Act.put, List.setIfInBounds_toArray, List.set_cons_zero, List.set_cons_succ, h9, h10, h5, h2, h11, e6]; done) | (simp only [fndFr, Act.put, List.setIfInBounds_toArray, List.set_cons_zero, List.set_cons_succ, h9, h10, h5, h2, h11, e6]; rfl)
  -- 8: slot 52 := Op.indexAddr 27 t44 t45
  refine And.intro ?_ ?_
  · clear HFIN hgl
    rw [← hf]; clear hf
    refine ⟨by decide +kernel, fun x v => by kernel_rfl, fun x V hV hdep K hK => ?_⟩
    have e0 : x 0 = .slice (some ⟨R, 0, none⟩) n n := depOf hdep 0 (by decide +kernel)
    have e1 : x 1 = .int .i64 (j : Int) := depOf hdep 1 (by decide +kernel)
    clear hdep
    refine run_bare (by kernel_rfl) ?_
    unfold fndFr
    go_simp
    refine kfit (hK _ _ (hV.rel) rfl) ?_
    first | (simp only [fndFr, Act.put, List.setIfInBounds_toArray, List.set_cons_zero, List.set_cons_succ, h9, h10, h5, h2, h11, e0, e1]; done) | (simp only [fndFr, Act.put, List.setIfInBounds_toArray, List.set_cons_zero, List.set_cons_succ, h9, h10, h5, h2, h11, e0, e1]; rfl)
  -- 9: slot none := Op.store 29 t52 t51
  · clear HC
    rw [← hgl]; clear hgl
    refine ⟨by decide +kernel, fun x V hV hall K hK => ?_⟩
    have e7 : x 7 = .agg #[.int .i64 u.kind, .string u.name, .slice ad u.kids.length ac] := hall 7 (by decide)
    have e8 : x 8 = .pointer (some ⟨R, j * 3, none⟩) := hall 8 (by decide)
    clear hall
    refine run_bare (by kernel_rfl) ?_
    unfold fndFr
    obtain ⟨y0, y1, y2, y3, y4, ⟨_, y5⟩, ⟨_, y6⟩, ⟨_, y7⟩, y8, y9, y10, _⟩ := hV.2.2
    have H := Lib.hid (HFIN.out x V hV e7)
    clear HFIN hV
    go_simp
    refine kfit (hK undef _ H.out) ?_
    first | (simp only [fndFr, Act.put, h9, h10, h5, h2, h11, e7, e8]; done) | (simp only [fndFr, Act.put, h9, h10, h5, h2, h11, e7, e8]; rfl)
theorem fnd_here {l nn : Nat} {B : Nat} {G : Gr} {rt : Nat → Nat} {E c g mb p cap : Nat} {sl : Nat → Value} {b2 b5 M R j n ix : Nat} {u : T} {ad : Option Addr} {ac : Nat} {wr : World} (hjz : (j : Int) < (n : Int)) (hrz : ((rt ix : Nat) : Int) < (G.N : Int))
    (HC5 : ∀ V, FSt B G rt E c g mb p cap sl b2 b5 M R j (rt ix) u ad ac wr V → Calls Tryd.prog 73 #[gp g, .int .i64 (ix : Int)] V fun e Y => e = .returned (.int .i64 (rt ix : Nat)) ∧ FRel B G rt E c g mb p cap sl V Y)
    {Q : Exit → Act → World → Prop} {ops : Array Oper} {a : Act} (X : World) (hops : ops = fndOps)
    (h9 : a.tmps.getD 9 undef = .slice (some ⟨R, 0, none⟩) n n) (h10 : a.tmps.getD 10 undef = .int .i64 (j : Int)) (h5 : a.tmps.getD 5 undef = .pointer (some ⟨b5, 0, none⟩)) (h2 : a.tmps.getD 2 undef = .pointer (some ⟨b2, 0, none⟩)) (h11 : a.tmps.getD 11 undef = .int .i64 (ix : Int))
    (ha : a = fndFr (fun j => a.tmps.getD j undef) a.defers (fun i => a.tmps.getD (44 + i) undef)) (hS : FSt B G rt E c g mb p cap sl b2 b5 M R j (rt ix) u ad ac wr X.drew)
    (hfin : ∀ x V, FSt B G rt E c g mb p cap sl b2 b5 M R j (rt ix) u ad ac wr V → x 7 = .agg #[.int .i64 u.kind, .string u.name, .slice ad u.kids.length ac] → Q .normal (fndFr (fun j => a.tmps.getD j undef) a.defers x) (((V.setCell ⟨R, j * 3, none⟩ (.int .i64 u.kind)).setCell ⟨R, j * 3 + 1, none⟩ (.string u.name)).setCell ⟨R, j * 3 + 2, none⟩ (.slice ad u.kids.length ac))) : (Code.region 9 ops true).wpIn (Fence.wide.inRound l) nn Tryd.prog Q a X :=
  cast (congrArg (fun z => (Code.region 9 ops true).wpIn (Fence.wide.inRound l) nn Tryd.prog Q z X) ha.symm) (fnd_region hjz hrz (b := fun j => a.tmps.getD j undef) (d := a.defers) h9 h10 h5 h2 h11 HC5 hops _ X hS hfin)
end Go.Proofs.YtdcfemojkdoakaaDoor
/- found: a round of its inner loop, a round of its outer loop. -/
namespace Go.Proofs.YtdcfemojkdoakaaDoor
open Go.RowKit Go.Maps Go.Sort Go.Lib
attribute [local go_sem] Oper.semAt_some

theorem plc_row {w : World} {v : Value} {ls : List Nat} (h : PlcAt w v ls) : ∃ a c g, v = .slice a ls.length c ∧ (g = w.heap.size ∨ ∃ cs fz, w.heap[g]? = some (.cells cs 3 fz)) ∧ ∀ i, i < ls.length → a = some ⟨g, 0, none⟩ ∧ ls.length ≤ c ∧ w.cell? ⟨g, i, none⟩ = some (.int .i64 (ls.getD i 0 : Nat)) := by
  rcases h with ⟨rfl, a, c, rfl⟩ | ⟨q, cap, cs, fz, rfl, h1, h2, h3⟩
  · exact ⟨a, c, w.heap.size, rfl, .inl rfl, fun i hi => by simp at hi⟩
  · refine ⟨_, cap, q, rfl, .inr ⟨cs, fz, h1⟩, fun i hi => ⟨rfl, h2, ?_⟩⟩
    simp only [World.cell?, h1]
    have e : ls.getD i 0 = ls[i] := by simp [List.getD, hi]
    rw [e]
    simpa using h3 i hi
theorem GM.kind {B : Nat} {G : Gr} {rt : Nat → Nat} {E c g mb p cap : Nat} {sl : Nat → Value} {w : World} (h : GM B G rt E c g mb (.slice (some ⟨p, 0, none⟩) G.N cap) sl w) : ∃ cur, w.heap[p]? = some (.cells cur 128 (0, 0)) := by
  obtain ⟨_, _, ⟨_, _, _, r, _⟩, _⟩ := h
  rcases r.2 with ⟨e, _⟩ | ⟨_, _, cur, e, _, hb, _⟩
  · cases e
  · cases e; exact ⟨cur, hb⟩
theorem GM.bp {B : Nat} {G : Gr} {rt : Nat → Nat} {E c g mb p cap : Nat} {sl : Nat → Value} {w : World} (h : GM B G rt E c g mb (.slice (some ⟨p, 0, none⟩) G.N cap) sl w) : B ≤ p := by
  obtain ⟨_, _, ⟨_, _, _, r, _⟩, _⟩ := h; exact (r.lt p rfl).1
/-- What the loop over one type's parts keeps. -/
def LI (B : Nat) (G : Gr) (rt : Nat → Nat) (E c g mb p cap : Nat) (sl : Nat → Value) (M R : Nat) (l : List T) (X1 : World) (j : Nat) (wr : World) : Prop :=
  GM B G rt E c g mb (.slice (some ⟨p, 0, none⟩) G.N cap) sl wr ∧ RowTo (M + 1) R l j wr ∧ (∀ k, k < R → k ≠ p → wr.heap[k]? = X1.heap[k]?) ∧ Below 0 X1 wr ∧ KeepsOthers X1 wr
theorem LI.start {B : Nat} {G : Gr} {rt : Nat → Nat} {E c g mb p cap : Nat} {sl : Nat → Value} {M R n : Nat} {l : List T} {X1 : World} (h : GM B G rt E c g mb (.slice (some ⟨p, 0, none⟩) G.N cap) sl X1) (hR : X1.heap[R]? = some (.cells (zeros n) 29 (0, 0))) (hn : n = l.length) : LI B G rt E c g mb p cap sl M R l X1 0 X1 := by
  subst hn
  exact ⟨h, RowTo.start _ l X1 R hR, fun _ _ _ => rfl, Below.refl _ _, KeepsOthers.refl _⟩
theorem GM.part4 {B : Nat} {G : Gr} {rt : Nat → Nat} {E c g mb p cap : Nat} {sl : Nat → Value} {w : World} (h : GM B G rt E c g mb (.slice (some ⟨p, 0, none⟩) G.N cap) sl w) {i : Nat} (hi : i < G.N) : ∃ x : Nat, w.cell? ⟨p, i * 4 + 3, none⟩ = some (.int .i64 (x : Int)) := by
  obtain ⟨_, _, ⟨nx, hh, _, h4, h5⟩, _⟩ := h
  exact ⟨nx i, (h4.cellAt (i * 4 + 3) (by omega)).trans (rowN_get G.tr sl nx G.N i 3 hi (by omega))⟩

/-- Three stores into one block. -/
def st3 (w : World) (b o : Nat) (x y z : Value) : World := ((w.setCell ⟨b, o, none⟩ x).setCell ⟨b, o + 1, none⟩ y).setCell ⟨b, o + 2, none⟩ z
theorem st3_heap (w : World) (b o : Nat) (x y z : Value) {k : Nat} (h : k ≠ b) : (st3 w b o x y z).heap[k]? = w.heap[k]? :=
  (Below.heap_setCell _ ⟨b, o + 2, none⟩ _ k h).trans ((Below.heap_setCell _ ⟨b, o + 1, none⟩ _ k h).trans (Below.heap_setCell _ ⟨b, o, none⟩ _ k h))
theorem st3_size (w : World) (b o : Nat) (x y z : Value) : (st3 w b o x y z).heap.size = w.heap.size := by simp [st3, World.setCell]
theorem st3_below (w : World) (b o : Nat) (x y z : Value) {N : Nat} (h : N ≤ b) : Below N w (st3 w b o x y z) := ⟨rfl, rfl, rfl, by rw [st3_size]; exact Nat.le_refl _, fun k hk => st3_heap w b o x y z (by omega)⟩
theorem st3_others (w : World) (b o : Nat) (x y z : Value) : KeepsOthers w (st3 w b o x y z) := ((KeepsOthers.setCell _ _ _).trans (KeepsOthers.setCell _ _ _)).trans (KeepsOthers.setCell _ _ _)
theorem Fr.others {p : Nat} {w v : World} (h : Fr p w v) {cs : Array Value} {T : TypeId} {fz : Nat × Nat} (hp : w.heap[p]? = some (.cells cs T fz)) : KeepsOthers w v :=
  ⟨h.1.size, fun k o hk ho => (h.2 k (Array.getElem?_eq_some_iff.1 hk).1 (fun e => by subst e; rw [hp] at hk; cases hk; cases ho)).trans hk⟩
theorem LI.next {B : Nat} {G : Gr} {rt : Nat → Nat} {E c g mb p cap : Nat} {sl : Nat → Value} {M R j : Nat} {l : List T} {X X1 wr V : World} {u : T} {a : Option Addr} {ac : Nat} (hX : GM B G rt E c g mb (.slice (some ⟨p, 0, none⟩) G.N cap) sl X) (hXR : X.heap.size ≤ R) (h : LI B G rt E c g mb p cap sl M R l X1 j wr) (hV : GM B G rt E c g mb (.slice (some ⟨p, 0, none⟩) G.N cap) sl V) (hF : Fr p wr V) (hj : j < l.length) (hu : l[j] = u)
    (hty : TyIn (fun k => (M + 1 ≤ k ∧ k ≠ R) ∧ k < V.heap.size) V u (.slice a u.kids.length ac)) (hpM : p < M + 1) (hpR : p < R) : LI B G rt E c g mb p cap sl M R l X1 (j + 1) (st3 V R (j * 3) (.int .i64 u.kind) (.string u.name) (.slice a u.kids.length ac)) := by
  subst hu
  obtain ⟨h1, h2, h3, h4, h5⟩ := h
  have hRl := (h2.cells hj)
  obtain ⟨_, _, _, r0, _⟩ := hRl
  have hRs : R < wr.heap.size := World.block_lt_of_cell? wr ⟨R, j * 3, none⟩ r0
  refine ⟨GM.low hX hV (st3_below _ _ _ _ _ _ hXR), RowTo.next (h2.fr hF hpM hpR) hj hty, fun k hk hkp => ?_, h4.trans (hF.1.trans (st3_below _ _ _ _ _ _ (Nat.zero_le _))), h5.trans ((hF.others h1.kind.choose_spec).trans (st3_others _ _ _ _ _ _))⟩
  exact (st3_heap _ _ _ _ _ _ (by omega)).trans ((hF.2 k (by omega) hkp).trans (h3 k hk hkp))
/-- The end of a round of the outer loop. -/
theorem FI.round {B : Nat} {G : Gr} {rt : Nat → Nat} {σ : Sg} {E c g mb p cap D i t n : Nat} {sl : Nat → Value} {ls pre : List Nat} {w X X1 wr : World} (gi : GI G rt) (hsi : SI G σ rt)
    (hb0 : X.heap[w.heap.size]? = some (.cells #[gp g] 122 (0, 0))) (hb1 : X.heap[w.heap.size + 1]? = some (.cells #[.slice none 0 0] 33 (0, 0)))
    (hb3 : X.heap[w.heap.size + 1 + 1 + 1]? = some (.cells #[.slice (some ⟨w.heap.size + 1 + 1, 0, none⟩) G.N G.N] 27 (0, 0))) (hpre : pre ++ (List.range (i + 1)).reverse = (List.range ls.length).reverse) (hD : D ≤ X.heap.size)
    (hmade : MadeAt (w.heap.size + 1 + 1) D G.N (fun i => sub σ (G.tr i)) (dnOf ls (i + 1)) X) (hlow : Below B w X) (hbX : Below X.heap.size X X1) (hoX : KeepsOthers X X1) (hX1 : X1.heap.size = X.heap.size + 1 + 1)
    (hL : LI B G rt E c g mb p cap sl (w.heap.size + 1 + 1) (X.heap.size + 1) ((G.ag t).map fun x => sub σ (G.tr (rt x))) X1 n wr) (hn : (G.ag t).length = n) (htN : t < G.N) (htr : rt t = t) (hti : ls.getD i 0 = t) (hw : GM B G rt E c g mb (.slice (some ⟨p, 0, none⟩) G.N cap) sl w) (hpw : p < w.heap.size) (hBp : B ≤ p) {k : Int} {nm : ByteArray} (hk : (G.tr t).kind = k) (hnm : (G.tr t).name = nm) :
    KeepsOthers X (st3 wr (w.heap.size + 1 + 1) (t * 3) (.int .i64 k) (.string nm) (.slice (some ⟨X.heap.size + 1, 0, none⟩) n n)) ∧ (∀ k', ¬ (k' = p ∨ k' = w.heap.size + 1 + 1) → k' < X.heap.size → (st3 wr (w.heap.size + 1 + 1) (t * 3) (.int .i64 k) (.string nm) (.slice (some ⟨X.heap.size + 1, 0, none⟩) n n)).heap[k']? = X.heap[k']?) ∧
      FI B G rt E c g mb p cap sl σ ls w (pre ++ [i]) (st3 wr (w.heap.size + 1 + 1) (t * 3) (.int .i64 k) (.string nm) (.slice (some ⟨X.heap.size + 1, 0, none⟩) n n)) := by
  subst hk hnm hn
  obtain ⟨h1, h2, h3, h4, h5⟩ := hL
  obtain ⟨e1, e2, e3⟩ := sub_place gi hsi htN htr
  have hMs : w.heap.size + 1 + 1 + 1 < X.heap.size := (Array.getElem?_eq_some_iff.1 hb3).1
  have hsw : X.heap.size + 1 + 1 ≤ wr.heap.size := by rw [← hX1]; exact h4.size
  have keep : ∀ k, k ≠ p → k < X.heap.size → wr.heap[k]? = X.heap[k]? := fun k hkp hk => (h3 k (by omega) hkp).trans (hbX.block k hk)
  have keep' : ∀ k, k ≠ p → k ≠ w.heap.size + 1 + 1 → k < X.heap.size → (st3 wr (w.heap.size + 1 + 1) (t * 3) (.int .i64 (G.tr t).kind) (.string (G.tr t).name) (.slice (some ⟨X.heap.size + 1, 0, none⟩) (G.ag t).length (G.ag t).length)).heap[k]? = X.heap[k]? := fun k h h' hk => (st3_heap _ _ _ _ _ _ h').trans (keep k h hk)
  refine ⟨(hoX.trans h5).trans (st3_others _ _ _ _ _ _), fun k hk hkX => keep' k (fun e => hk (.inl e)) (fun e => hk (.inr e)) hkX, ?_⟩
  have hmw : MadeAt (w.heap.size + 1 + 1) wr.heap.size G.N (fun i => sub σ (G.tr i)) (dnOf ls (i + 1)) wr := hmade.keep (fun k cs fz hk1 hk2 hk => (keep k (by omega) (Array.getElem?_eq_some_iff.1 hk).1).trans hk) (by omega)
  have hfin := h2
  rw [show (G.ag t).length = ((G.ag t).map fun x => sub σ (G.tr (rt x))).length from (List.length_map ..).symm] at hfin
  have hty := hfin.fin (by omega) (t := sub σ (G.tr t)) e3
  rw [List.length_map] at hty
  have hset := hmw.set (i := t) htN hty (dn' := dnOf ls i) (fun j hj => by
    rcases dnOf_step j hj with h | h
    · exact .inl h
    · exact .inr (h.trans hti))
  rw [e1, e2] at hset
  have hpl : ∀ k, k < w.heap.size + 1 + 1 → k ≠ p → k < X.heap.size → (st3 wr (w.heap.size + 1 + 1) (t * 3) (.int .i64 (G.tr t).kind) (.string (G.tr t).name) (.slice (some ⟨X.heap.size + 1, 0, none⟩) (G.ag t).length (G.ag t).length)).heap[k]? = X.heap[k]? := fun k h h' hk => keep' k h' (by omega) hk
  have hbm : Below (w.heap.size + 1 + 1) wr (st3 wr (w.heap.size + 1 + 1) (t * 3) (.int .i64 (G.tr t).kind) (.string (G.tr t).name) (.slice (some ⟨X.heap.size + 1, 0, none⟩) (G.ag t).length (G.ag t).length)) := st3_below _ _ _ _ _ _ (Nat.le_refl _)
  refine ⟨?_, (hpl _ (by omega) (by omega) (by omega)).trans hb0, (hpl _ (by omega) (by omega) (by omega)).trans hb1, (keep' _ (by omega) (by omega) (by omega)).trans hb3, ⟨i, wr.heap.size, ?_, by rw [st3_size]; exact Nat.le_refl _, by omega, hset⟩, ?_⟩
  · exact GM.low hw h1 (hbm.mono (by omega))
  · rw [← hpre, List.range_succ, List.reverse_append]; simp
  · refine ⟨hbm.os.trans (h4.os.trans (hbX.os.trans hlow.os)), hbm.tape.trans (h4.tape.trans (hbX.tape.trans hlow.tape)), hbm.output.trans (h4.output.trans (hbX.output.trans hlow.output)), by rw [st3_size]; have := hlow.size; omega, fun k hk => ?_⟩
    exact (keep' k (by omega) (by omega) (by omega)).trans (hlow.block k hk)
end Go.Proofs.YtdcfemojkdoakaaDoor
