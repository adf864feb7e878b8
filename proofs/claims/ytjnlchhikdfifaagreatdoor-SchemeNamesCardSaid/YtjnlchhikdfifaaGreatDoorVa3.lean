/- Merged: SbOthersA, SbPairs, ScSplit, ScZero, ScVars, ScOf, ScName, ScNew, SbGet, RegLast, SbOthersR, ScFive, SbRGet, SpCmp, SbPr, SbMkPr, SbThen, SbThenA, SbThenB, SbPreds, SpRow. -/
import Derived.Test.YtjnlchhikdfifaaGreatDoorVa2
import Derived.Test.YtjnlchhikdfifaaGreatDoorVa1
import Derived.Lib.Bytes
import Derived.Deep.AppendLies
import Derived.Deep.RegionLaw
import Derived.Lib.QuietBelow
/- SubstOthers: plain facts; what its last statement keeps. -/
namespace Go.Proofs.YtjnlchhikdfifaaGreatDoor
open Go.RowKit Go.Sort Go.Lib
attribute [local go_sem] Oper.semAt_some

/-- Type t lies in block b. -/
def BoxT (b : Nat) (t : T) (a : Option Addr) (c : Nat) (w : World) : Prop :=
  w.heap[b]? = some (.cells #[.int .i64 t.kind, .string t.name, .slice a t.kids.length c] 31 (0, 0)) ∧ TysAt w (.slice a t.kids.length c) t.kids
theorem BoxT.below {b : Nat} {t : T} {a : Option Addr} {c : Nat} {w W : World} (h : BoxT b t a c w) (hb : Below w.heap.size w W) : BoxT b t a c W :=
  ⟨(hb.block b (Array.getElem?_eq_some_iff.1 h.1).1).trans h.1, h.2.keep (KeepT.of_below hb)⟩
theorem BoxT.alloc {b : Nat} {t : T} {a : Option Addr} {c : Nat} {w : World} (h : BoxT b t a c w) (o : Obj) : BoxT b t a c (w.alloc o) := h.below ((Below.refl _ w).alloc (Nat.le_refl _) o)
theorem BoxT.new {t : T} {a : Option Addr} {c : Nat} {w : World} (h : TysAt w (.slice a t.kids.length c) t.kids) : BoxT w.heap.size t a c (w.alloc (.cells #[.int .i64 t.kind, .string t.name, .slice a t.kids.length c] 31)) :=
  ⟨alloc_new w _, h.keep (keepT_alloc w _)⟩
theorem BoxT.cells {b : Nat} {t : T} {a : Option Addr} {c : Nat} {w : World} (h : BoxT b t a c w) : w.cell? ⟨b, 0, none⟩ = some (.int .i64 t.kind) ∧ w.cell? ⟨b, 1, none⟩ = some (.string t.name) ∧ w.cell? ⟨b, 2, none⟩ = some (.slice a t.kids.length c) := three_cells h.1
theorem BoxT.lt {b : Nat} {t : T} {a : Option Addr} {c : Nat} {w : World} (h : BoxT b t a c w) : b < w.heap.size := (Array.getElem?_eq_some_iff.1 h.1).1
/-- Types for variables lie in block b. -/
def BoxS (b : Nat) (v : Value) (d : List PR) (w : World) : Prop := w.heap[b]? = some (.cells #[v] 73 (0, 0)) ∧ SubAt v d w
theorem BoxS.below {b : Nat} {v : Value} {d : List PR} {w W : World} (h : BoxS b v d w) (hb : Below w.heap.size w W) : BoxS b v d W := ⟨(hb.block b (Array.getElem?_eq_some_iff.1 h.1).1).trans h.1, h.2.below hb⟩
theorem BoxS.alloc {b : Nat} {v : Value} {d : List PR} {w : World} (h : BoxS b v d w) (o : Obj) : BoxS b v d (w.alloc o) := h.below ((Below.refl _ w).alloc (Nat.le_refl _) o)
theorem BoxS.new {v : Value} {d : List PR} {w : World} (h : SubAt v d w) : BoxS w.heap.size v d (w.alloc (.cells #[v] 73)) := ⟨alloc_new w _, h.below ((Below.refl _ w).alloc (Nat.le_refl _) _)⟩
theorem BoxS.cell {b : Nat} {v : Value} {d : List PR} {w : World} (h : BoxS b v d w) : w.cell? ⟨b, 0, none⟩ = some v := by rw [Lib.cell_of_heap h.1]; rfl
theorem BoxS.lt {b : Nat} {v : Value} {d : List PR} {w : World} (h : BoxS b v d w) : b < w.heap.size := (Array.getElem?_eq_some_iff.1 h.1).1
theorem with_calls {P : Program} {f : Nat} {args : Array Value} {R : Ending → World → Prop} {w : World} (S : World → Prop) (h : S w) (k : ∀ W, S W → Calls P f args W R) : Calls P f args w R := k w h
theorem seq_new {w0 w : World} {a : Option Addr} {n c : Nat} (hb : Below w0.heap.size w0 w) (hl : IntsAt w0.heap.size a n w0) : SeqAt w0.heap.size w.heap.size a n c 0 (w.alloc (.cells #[.slice a n c, .int .i64 0] 27)) :=
  ⟨⟨hb.size, alloc_new w _⟩, hl.keep (hb.alloc hb.size _)⟩
theorem strs_two (w : World) (x y : ByteArray) : StrsP (.slice (some ⟨w.heap.size, 0, none⟩) 2 2) [x, y] (w.alloc (.cells #[.string x, .string y] 9)) :=
  .inr ⟨w.heap.size, 0, 2, rfl, by simp, fun i hi => by
    have h := alloc_new w (.cells #[.string x, .string y] 9)
    rw [Lib.cell_of_heap h]
    match i, hi with
    | 0, _ => rfl
    | 1, _ => rfl
    | n + 2, hi => simp at hi; omega⟩
theorem strs_three {w : World} {b : Nat} {x y z : ByteArray} (h : w.heap[b]? = some (.cells #[.string x, .string y, .string z] 9 (0, 0))) : StrsP (.slice (some ⟨b, 0, none⟩) 3 3) [x, y, z] w :=
  .inr ⟨b, 0, 3, rfl, (Array.getElem?_eq_some_iff.1 h).1, fun i hi => by
    rw [Lib.cell_of_heap h]
    match i, hi with
    | 0, _ => rfl
    | 1, _ => rfl
    | 2, _ => rfl
    | n + 3, hi => simp at hi; omega⟩

/-! Names for names. -/
/-- Of a made type: what is the same at a, b, c is the same. -/
theorem app_ext (d d' : List PR) (h : ∀ n : ByteArray, n.data.toList ∈ T.vnames → app d (.var n) = app d' (.var n)) : ∀ t, T.Good t → app d t = app d' t := by
  intro t
  refine T.by_kids (P := fun t => T.Good t → app d t = app d' t) (fun t H ht => ?_) t
  cases t with
  | var n => exact h n (by rwa [T.Good] at ht)
  | con n l =>
    rw [app, app, apps_map, apps_map]
    congr 1
    rw [T.Good] at ht
    exact List.map_congr_left fun k hk => H k hk (goods_mem ht.2 k hk)
  | fn a b =>
    rw [T.Good] at ht
    rw [app, app, H a (by simp [T.kids]) ht.1, H b (by simp [T.kids]) ht.2]
  | all n a => rw [T.Good] at ht; exact ht.elim
where
  goods_mem {l : List T} (h : T.Goods l) : ∀ k ∈ l, T.Good k := by
    induction l with
    | nil => intro k hk; cases hk
    | cons a l ih =>
      rw [T.Goods] at h
      intro k hk
      rcases List.mem_cons.1 hk with rfl | hk
      · exact h.1
      · exact ih h.2 k hk
theorem app_round (d d' : List PR) (h : ∀ n : ByteArray, n.data.toList ∈ T.vnames → app d (app d' (.var n)) = .var n) : ∀ t, T.Good t → app d (app d' t) = t := by
  intro t
  refine T.by_kids (P := fun t => T.Good t → app d (app d' t) = t) (fun t H ht => ?_) t
  cases t with
  | var n => exact h n (by rwa [T.Good] at ht)
  | con n l =>
    rw [app, app, apps_map, apps_map, List.map_map]
    congr 1
    rw [T.Good] at ht
    conv => rhs; rw [← List.map_id l]
    exact List.map_congr_left fun k hk => H k hk (app_ext.goods_mem ht.2 k hk)
  | fn a b =>
    rw [T.Good] at ht
    rw [app, app, H a (by simp [T.kids]) ht.1, H b (by simp [T.kids]) ht.2]
  | all n a => rw [T.Good] at ht; exact ht.elim
theorem app_same (d : List PR) (h : ∀ n : ByteArray, n.data.toList ∈ T.vnames → app d (.var n) = .var n) (t : T) (ht : T.Good t) : app d t = t := by
  have := app_round d [] (fun n hn => by rw [app_nil]; exact h n hn) t ht
  rwa [app_nil] at this
theorem size_app (d : List PR) (h : ∀ n : ByteArray, n.data.toList ∈ T.vnames → tsize (app d (.var n)) = 1) : ∀ t, T.Good t → tsize (app d t) = tsize t := by
  intro t
  refine T.by_kids (P := fun t => T.Good t → tsize (app d t) = tsize t) (fun t H ht => ?_) t
  cases t with
  | var n => rw [h n (by rwa [T.Good] at ht)]; rfl
  | con n l =>
    rw [T.Good] at ht
    rw [app, tsize, tsize, apps_map]
    have key : ∀ m : List T, (∀ k ∈ m, k ∈ l) → tsizes (m.map (app d)) = tsizes m := by
      intro m
      induction m with
      | nil => intro _; rfl
      | cons a m ih =>
        intro hm
        rw [List.map_cons, tsizes, tsizes, ih (fun k hk => hm k (List.mem_cons_of_mem _ hk)), H a (hm a (List.mem_cons_self ..)) (app_ext.goods_mem ht.2 a (hm a (List.mem_cons_self ..)))]
    rw [key l (fun k hk => hk)]
  | fn a b =>
    rw [T.Good] at ht
    rw [app, tsize, tsize, H a (by simp [T.kids]) ht.1, H b (by simp [T.kids]) ht.2]
  | all n a => rw [T.Good] at ht; exact ht.elim

def nA : ByteArray := ⟨#[97]⟩
def nB : ByteArray := ⟨#[98]⟩
def nC : ByteArray := ⟨#[99]⟩
def nX : ByteArray := ⟨#[120]⟩
def nZ : ByteArray := ⟨#[122, 122]⟩
theorem vn_cases {n : ByteArray} (h : n.data.toList ∈ T.vnames) : n = nA ∨ n = nB ∨ n = nC := by
  simp only [T.vnames, List.mem_cons, List.not_mem_nil, or_false] at h
  cases n with | mk d => cases d with | mk l =>
    simp only at h
    rcases h with rfl | rfl | rfl
    · exact .inl rfl
    · exact .inr (.inl rfl)
    · exact .inr (.inr rfl)
theorem app_v (n : ByteArray) (d : List PR) : app d (.var n) = ty n d := rfl
def dS : List PR := [⟨nA, .var nB, none, 0⟩, ⟨nB, .var nA, none, 0⟩]
def dU : List PR := [⟨nZ, .var nA, none, 0⟩]
def fromL : List ByteArray := [nA, nB, nC]
def toL : List ByteArray := [nC, nX, nB]
theorem tyc {n m : ByteArray} {t : T} {a : Option Addr} {c : Nat} {l : List PR} : ty n (⟨m, t, a, c⟩ :: l) = if m = n then t else ty n l := ty_cons n ⟨m, t, a, c⟩ l
theorem swap_twice (t : T) (h : T.Good t) : app dS (app dS t) = t := by
  refine app_round _ _ (fun n hn => ?_) t h
  rcases vn_cases hn with rfl | rfl | rfl
  · rw [app_v, dS, tyc, if_pos rfl, app_v, tyc, if_neg (by decide), tyc, if_pos rfl]
  · rw [app_v, dS, tyc, if_neg (by decide), tyc, if_pos rfl, app_v, tyc, if_pos rfl]
  · rw [app_v, dS, tyc, if_neg (by decide), tyc, if_neg (by decide), ty_nil, app_v, tyc, if_neg (by decide), tyc, if_neg (by decide), ty_nil]
theorem stays (t : T) (h : T.Good t) : app dU t = t := by
  refine app_same _ (fun n hn => ?_) t h
  rcases vn_cases hn with rfl | rfl | rfl <;> rw [app_v, dU, tyc, if_neg (by decide), ty_nil]
def dF : List PR := [⟨nA, .var nC, none, 0⟩, ⟨nB, .var nX, none, 0⟩, ⟨nC, .var nB, none, 0⟩]
def dT : List PR := [⟨nC, .var nA, none, 0⟩, ⟨nX, .var nB, none, 0⟩, ⟨nB, .var nC, none, 0⟩]
theorem prs_ft : prs fromL toL = dF := rfl
theorem prs_tf : prs toL fromL = dT := rfl
theorem there_back (t : T) (h : T.Good t) : app (prs toL fromL) (app (prs fromL toL) t) = t := by
  rw [prs_ft, prs_tf]
  refine app_round _ _ (fun n hn => ?_) t h
  rcases vn_cases hn with rfl | rfl | rfl
  · rw [app_v, dF, tyc, if_pos rfl, app_v, dT, tyc, if_pos rfl]
  · rw [app_v, dF, tyc, if_neg (by decide), tyc, if_pos rfl, app_v, dT, tyc, if_neg (by decide), tyc, if_pos rfl]
  · rw [app_v, dF, tyc, if_neg (by decide), tyc, if_neg (by decide), tyc, if_pos rfl, app_v, dT, tyc, if_neg (by decide), tyc, if_neg (by decide), tyc, if_pos rfl]
theorem swap_names (t : T) (h : T.Good t) : app (prs [nA, nB] [nB, nA]) t = app dS t := by
  refine app_ext _ _ (fun n _ => ?_) t h
  rfl
theorem swap_size (t : T) (h : T.Good t) : tsize (app dS t) = tsize t := by
  refine size_app _ (fun n hn => ?_) t h
  rcases vn_cases hn with rfl | rfl | rfl
  · rw [app_v, dS, tyc, if_pos rfl]; rfl
  · rw [app_v, dS, tyc, if_neg (by decide), tyc, if_pos rfl]; rfl
  · rw [app_v, dS, tyc, if_neg (by decide), tyc, if_neg (by decide), ty_nil]; rfl
theorem there_size (t : T) (h : T.Good t) : tsize (app (prs fromL toL) t) = tsize t := by
  rw [prs_ft]
  refine size_app _ (fun n hn => ?_) t h
  rcases vn_cases hn with rfl | rfl | rfl
  · rw [app_v, dF, tyc, if_pos rfl]; rfl
  · rw [app_v, dF, tyc, if_neg (by decide), tyc, if_pos rfl]; rfl
  · rw [app_v, dF, tyc, if_neg (by decide), tyc, if_neg (by decide), tyc, if_pos rfl]; rfl

theorem sized_made {d l : List PR} (h : Made d l) (hd : SizedAll d) : SizedAll l := fun x hx => by
  obtain ⟨y, hy, _, e⟩ := h.sub x hx
  rw [e]; exact hd y hy
/-- Calls whose results are told. -/
theorem apply_ret {d0 l : List PR} {t t' : T} (hm : Made d0 l) (hd : SizedAll d0) (hl : d0.length ≤ 1000) (ht : tsize t ≤ 1000000000) (e : app d0 t = t') {s : Value} {a : Option Addr} {c : Nat} {w : World} (hs : SubAt s l w) (h : TysAt w (.slice a t.kids.length c) t.kids) :
    Calls Tryz.prog 41 #[.agg #[s], .agg #[.int .i64 t.kind, .string t.name, .slice a t.kids.length c]] w fun e Y => (∃ za zc, e = .returned (.agg #[.int .i64 t'.kind, .string t'.name, .slice za t'.kids.length zc]) ∧ TysAt Y (.slice za t'.kids.length zc) t'.kids) ∧ Below w.heap.size w Y := by
  refine (apply_any (d := l) (t := t) (s := s) (w := w) (by have := hm.len; omega) (sized_made hm hd) ht hs h).mono ?_
  rintro e1 w5 ⟨⟨a, c, rfl, hin⟩, hb5⟩
  rw [made_ty hm, e] at hin ⊢
  exact ⟨⟨a, c, rfl, hin.tys⟩, hb5⟩
theorem same_ret {t : T} (ht : tsize t ≤ 1000000000) {a b : Option Addr} {c d : Nat} {w : World} (h : TysAt w (.slice a t.kids.length c) t.kids) (h' : TysAt w (.slice b t.kids.length d) t.kids) :
    Calls Tryz.prog 35 #[.agg #[.int .i64 t.kind, .string t.name, .slice a t.kids.length c], .agg #[.int .i64 t.kind, .string t.name, .slice b t.kids.length d]] w fun e Y => e = .returned (.bool true) ∧ Below w.heap.size w Y := by
  have := sameType_any (t := t) (t' := t) (w := w) (fits_small ht) h h'
  rwa [eqB_true rfl] at this
/-- What the last statement of SubstOthers keeps. -/
def SO (w : World) (b5 b8 b9 b12 : Nat) (t sw : T) (pa pw : Option Addr) (ca cw : Nat) (sv uv frv tov : Value) (ls lu : List PR) (X : World) : Prop :=
  (BoxT b5 t pa ca X ∧ BoxT b12 sw pw cw X) ∧ (BoxS b8 sv ls X ∧ BoxS b9 uv lu X) ∧ (StrsP frv fromL X ∧ StrsP tov toL X) ∧ Below w.heap.size w X
theorem SO.below {w : World} {b5 b8 b9 b12 : Nat} {t sw : T} {pa pw : Option Addr} {ca cw : Nat} {sv uv frv tov : Value} {ls lu : List PR} {X Y : World} (h : SO w b5 b8 b9 b12 t sw pa pw ca cw sv uv frv tov ls lu X) (hb : Below X.heap.size X Y) : SO w b5 b8 b9 b12 t sw pa pw ca cw sv uv frv tov ls lu Y :=
  ⟨⟨h.1.1.below hb, h.1.2.below hb⟩, ⟨h.2.1.1.below hb, h.2.1.2.below hb⟩, ⟨h.2.2.1.1.below hb, h.2.2.1.2.below hb⟩, h.2.2.2.trans (hb.mono h.2.2.2.size)⟩
theorem SO.cells {w : World} {b5 b8 b9 b12 : Nat} {t sw : T} {pa pw : Option Addr} {ca cw : Nat} {sv uv frv tov : Value} {ls lu : List PR} {X : World} (h : SO w b5 b8 b9 b12 t sw pa pw ca cw sv uv frv tov ls lu X) :
    (X.cell? ⟨b5, 0, none⟩ = some (.int .i64 t.kind) ∧ X.cell? ⟨b5, 1, none⟩ = some (.string t.name) ∧ X.cell? ⟨b5, 2, none⟩ = some (.slice pa t.kids.length ca)) ∧ (X.cell? ⟨b12, 0, none⟩ = some (.int .i64 sw.kind) ∧ X.cell? ⟨b12, 1, none⟩ = some (.string sw.name) ∧ X.cell? ⟨b12, 2, none⟩ = some (.slice pw sw.kids.length cw)) ∧
    X.cell? ⟨b8, 0, none⟩ = some sv ∧ X.cell? ⟨b9, 0, none⟩ = some uv := ⟨h.1.1.cells, h.1.2.cells, h.2.1.1.cell, h.2.1.2.cell⟩
end Go.Proofs.YtjnlchhikdfifaaGreatDoor
/- The law's pairs, made of numbers. -/
namespace Go.Proofs.YtjnlchhikdfifaaGreatDoor
open Go.RowKit Go.Sort Go.Lib
attribute [local go_sem] Oper.semAt_some

theorem Tryz.infoRefPair : (Tryz.prog.info? 53).map (fun i => (i.zero, i.size, i.bytes)) = some (some (.agg zeroP), 4, 64) := by kernel_rfl
/-- The cells of a row of pairs. -/
def cellsP (d : List PR) : List Value := d.flatMap encP
theorem cellsP_snoc (d : List PR) (x : PR) : cellsP (d ++ [x]) = cellsP d ++ encP x := by simp [cellsP]
theorem cellsP_len : ∀ d : List PR, (cellsP d).length = d.length * 4
  | [] => rfl
  | x :: d => by
    have := cellsP_len d
    simp only [cellsP, List.flatMap_cons, List.length_append, encP_len, List.length_cons] at this ⊢
    omega
theorem cellsP_at (d : List PR) (i j : Nat) (hi : i < d.length) (hj : j < 4) : (cellsP d)[i * 4 + j]? = (encP (d.getD i noP))[j]? := by
  induction d generalizing i with
  | nil => cases hi
  | cons a r ih =>
    cases i with
    | zero =>
      have : (encP a ++ cellsP r)[j]? = (encP a)[j]? := List.getElem?_append_left (by rw [encP_len]; omega)
      simpa [cellsP] using this
    | succ i =>
      have e : (i + 1) * 4 + j = (encP a).length + (i * 4 + j) := by rw [encP_len]; omega
      have h1 : (encP a ++ cellsP r)[(encP a).length + (i * 4 + j)]? = (cellsP r)[i * 4 + j]? := by rw [List.getElem?_append_right (by omega)]; congr 1; omega
      have h2 := ih i (by simpa using hi)
      rw [e]
      simpa [cellsP, List.getD] using h1.trans h2
/-- As RowP, whatever the row's type is. -/
def RowG (T : TypeId) (g : Nat) (l : List PR) (w : World) : Prop :=
  ∃ cs, w.heap[g]? = some (.cells cs T (0, 0)) ∧ l.length * 4 ≤ cs.size ∧ ∀ i, i < l.length →
    cs[i * 4]? = some (.string (l.getD i noP).n) ∧ cs[i * 4 + 1]? = some (.int .i64 (l.getD i noP).t.kind) ∧ cs[i * 4 + 2]? = some (.string (l.getD i noP).t.name) ∧ cs[i * 4 + 3]? = some (.slice (l.getD i noP).a (l.getD i noP).t.kids.length (l.getD i noP).c)
theorem RowG.row {g : Nat} {l : List PR} {w : World} (h : RowG 90 g l w) : RowP g l w := h
/-- A list of pairs as the law makes it. -/
def GivenG (T : TypeId) (v : Value) (d : List PR) (w : World) : Prop := (d = [] ∧ v = .slice none 0 0) ∨ (d ≠ [] ∧ ∃ g cap, v = .slice (some ⟨g, 0, none⟩) d.length cap ∧ RowG T g d w)
theorem given_of_row {T : TypeId} {W : World} {base : Nat} {v : Value} {d : List PR} (h : W.ownsRow base T 4 v d.length (cellsP d)) (h0 : d = [] → v = .slice none 0 0) : GivenG T v d W := by
  by_cases hd : d = []
  · exact .inl ⟨hd, h0 hd⟩
  · rcases h.2 with ⟨rfl, hn0⟩ | ⟨g, cap, cur, rfl, _, hg, hc, hm, hcs, htk⟩
    · exact absurd (List.length_eq_zero_iff.1 hn0) hd
    · refine .inr ⟨hd, g, cap, rfl, cur, hg, by rw [hcs]; exact Nat.mul_le_mul_right 4 hc, fun i hi => ?_⟩
      have cell : ∀ j, j < 4 → cur[i * 4 + j]? = (encP (d.getD i noP))[j]? := fun j hj => by
        have hlt : i * 4 + j < d.length * 4 := by omega
        rw [← cellsP_at d i j hi hj, ← htk, List.getElem?_take, if_pos hlt, Array.getElem?_toList]
      exact ⟨(cell 0 (by omega)).trans rfl, (cell 1 (by omega)).trans rfl, (cell 2 (by omega)).trans rfl, (cell 3 (by omega)).trans rfl⟩
theorem own_keep {w w' : World} {p base : Nat} {e : TypeId} {size : Nat} {v : Value} {n : Nat} {xs : List Value} (h : w.ownsRow base e size v n xs) (hk : ∀ k o, w.heap[k]? = some o → k ≠ p → w'.heap[k]? = some o) (hp : p < base) : w'.ownsRow base e size v n xs := by
  refine ⟨h.1, ?_⟩
  rcases h.2 with h | ⟨g, cap, cur, rfl, hb, hg, r⟩
  · exact .inl h
  · exact .inr ⟨g, cap, cur, rfl, hb, hk g _ hg (by omega), r⟩
theorem KeepT.grown {W W' : World} {base : Nat} {e : TypeId} {size : Nat} {v : Value} {n : Nat} {xs : List Value} (hg : W.grownBy W' v.ownBlock) (h : W.ownsRow base e size v n xs) (he : e ≠ 31) : KeepT W W' := by
  intro k cs fz hk
  refine (hg.block k (Array.getElem?_eq_some_iff.1 hk).1 fun ee => ?_).trans hk
  rcases h.2 with ⟨rfl, _⟩ | ⟨g, cap, cur, rfl, _, hgb, _⟩
  · cases ee
  · obtain rfl : k = g := by simpa [Value.ownBlock] using ee
    rw [hk] at hgb
    cases hgb
    exact he rfl
theorem row_val {W : World} {base : Nat} {e : TypeId} {size : Nat} {v : Value} {n : Nat} {xs : List Value} (h : W.ownsRow base e size v n xs) : ∃ a c, v = .slice a n c := by
  rcases h.2 with ⟨rfl, rfl⟩ | ⟨g, cap, _, rfl, _⟩
  · exact ⟨_, _, rfl⟩
  · exact ⟨_, _, rfl⟩
theorem cell_new4 (w : World) (x y z u : Value) (t : TypeId) : ∀ j v, [x, y, z, u][j]? = some v → (w.alloc (.cells #[x, y, z, u] t)).cell? ((⟨w.heap.size, 0, none⟩ : Addr).add j) = some v := by
  intro j v hv
  have hadd : (⟨w.heap.size, 0, none⟩ : Addr).add j = ⟨w.heap.size, j, none⟩ := by unfold Addr.add; split <;> simp_all
  rw [hadd]
  have := alloc_new w (.cells #[x, y, z, u] t)
  simp only [World.cell?, this]
  match j, hv with
  | 0, hv => simpa using hv
  | 1, hv => simpa using hv
  | 2, hv => simpa using hv
  | 3, hv => simpa using hv
  | n + 4, hv => simp at hv

theorem rows_apart {W : World} {b1 b2 : Nat} {e1 e2 : TypeId} {s1 s2 n1 n2 : Nat} {v1 v2 : Value} {x1 x2 : List Value} (h1 : W.ownsRow b1 e1 s1 v1 n1 x1) (h2 : W.ownsRow b2 e2 s2 v2 n2 x2) (he : e1 ≠ e2) : v1.ownBlock = none ∨ v1.ownBlock ≠ v2.ownBlock := by
  rcases h1.2 with ⟨rfl, _⟩ | ⟨g, cap, cur, rfl, _, hg, _⟩
  · exact .inl rfl
  · refine .inr fun e => ?_
    rcases h2.2 with ⟨rfl, _⟩ | ⟨g', cap', cur', rfl, _, hg', _⟩
    · cases e
    · obtain rfl : g = g' := by simpa [Value.ownBlock] using e
      rw [hg] at hg'
      cases hg'
      exact he rfl
theorem cell_new4' (w : World) (o : Obj) (x y z u : Value) (t : TypeId) : ∀ j v, [x, y, z, u][j]? = some v → ((w.alloc o).alloc (.cells #[x, y, z, u] t)).cell? ((⟨w.heap.size + 1, 0, none⟩ : Addr).add j) = some v := by
  have := cell_new4 (w.alloc o) x y z u t
  simpa using this
/-- What the law's pairs hand back. -/
def MadeL (B p : Nat) (a : Option Addr) (n c k : Nat) (w : World) (e : Ending) (w' : World) : Prop :=
  (∃ d v u, e = .returned (.tuple #[v, u]) ∧ (d.length ≤ 4 ∧ ∀ x ∈ d, T.Good x.t ∧ Fits x.t ∧ (T.text x.t).length + 10 ≤ 56) ∧ (GivenG 90 v d w' ∧ GivenG 53 u d w') ∧ Typ d w') ∧ (∃ k', k' ≤ k + 40 ∧ SeqAt B p a n c k' w') ∧ MkFr B p w w'
theorem four_at {w : World} {b : Nat} {x y z u : ByteArray} {T : TypeId} {fz : Nat × Nat} (h : w.heap[b]? = some (.cells #[.string x, .string y, .string z, .string u] T fz)) (r : Nat) (hr : r < 4) : ∃ s : ByteArray, w.cell? ⟨b, r, none⟩ = some (.string s) := by
  rw [Lib.cell_of_heap h]
  match r, hr with
  | 0, _ => exact ⟨x, rfl⟩
  | 1, _ => exact ⟨y, rfl⟩
  | 2, _ => exact ⟨z, rfl⟩
  | 3, _ => exact ⟨u, rfl⟩
  | n + 4, hr => omega

end Go.Proofs.YtjnlchhikdfifaaGreatDoor
/- scheme.split: the names that are in a list, and those that are not. -/
namespace Go.Proofs.YtjnlchhikdfifaaGreatDoor
open Go.RowKit Go.Maps
attribute [local go_sem] Oper.semAt_some

theorem Tryz.infoStrS : (Tryz.prog.info? 9).map (fun i => (i.zero, i.size, i.bytes)) = some (some (.string ⟨#[]⟩), 1, 16) := by kernel_rfl
/-- A row of texts that is one's own. -/
def OwnT (base : Nat) (v : Value) (l : List ByteArray) (w : World) : Prop := w.ownsRow base 9 1 v l.length (l.map Value.string)
theorem OwnT.nil (base : Nat) (w : World) : OwnT base (.slice none 0 0) [] w := World.ownsRow_nil _ _ _ _
theorem OwnT.below {base : Nat} {v : Value} {l : List ByteArray} {w W : World} (h : OwnT base v l w) (hb : Below w.heap.size w W) : OwnT base v l W := World.ownsRow.kept (row := none) h (grown_of_belowS hb) (by cases e : v.ownBlock with | none => exact .inl rfl | some g => exact .inr (by simp))
theorem OwnT.apart {base M m : Nat} {S : ByteArray → Bool} {v : Value} {l : List ByteArray} {w : World} (h : OwnT base v l w) (hM : SetV M m S w) : some M ≠ v.ownBlock := fun e => by
  rcases h.2 with ⟨rfl, _⟩ | ⟨g, cap, cur, rfl, _, hg, _⟩
  · cases e
  · obtain rfl : M = g := by simpa [Value.ownBlock] using e
    exact hM.ne hg rfl
theorem OwnT.texts {base : Nat} {v : Value} {l : List ByteArray} {w : World} (h : OwnT base v l w) : TextsAt w v l := TextsAt.of_row h
theorem OwnT.shape {base : Nat} {v : Value} {l : List ByteArray} {w : World} (h : OwnT base v l w) : ∃ a c, v = .slice a l.length c := row_val h
/-- One more, at the end. -/
theorem OwnT.snoc {base : Nat} {v : Value} {l : List ByteArray} {n : ByteArray} {w : World} (h : w.ownsRow base 9 1 v (l.length + 1) (l.map Value.string ++ [.string n])) : OwnT base v (l ++ [n]) w := by
  unfold OwnT
  rw [List.length_append, List.length_singleton, List.map_append]; exact h
theorem filter_take {l : List ByteArray} {p : ByteArray → Bool} {i : Nat} (hi : i < l.length) : (l.take (i + 1)).filter p = if p l[i] = true then (l.take i).filter p ++ [l[i]] else (l.take i).filter p := by
  have e : l.take (i + 1) = l.take i ++ [l[i]] := by rw [List.take_add_one, List.getElem?_eq_getElem hi]; rfl
  rw [e, List.filter_append]
  by_cases hp : p l[i] = true
  · rw [if_pos hp]; simp [hp]
  · rw [if_neg hp]; simp [hp]
theorem TextsAt.cell {w wr : World} {a : Option Addr} {c : Nat} {l : List ByteArray} (h : TextsAt w (.slice a l.length c) l) (hb : Below w.heap.size w wr) {i : Nat} (hi : i < l.length) : ∃ g, a = some ⟨g, 0, none⟩ ∧ l.length ≤ c ∧ g < wr.heap.size ∧ wr.cell? ⟨g, i, none⟩ = some (.string l[i]) := by
  obtain ⟨g, e, hc, hg, hr⟩ := h.part.2 i hi
  exact ⟨g, e, hc, Nat.lt_of_lt_of_le hg hb.size, hr wr fun k cs fz hk => (hb.block k (Array.getElem?_eq_some_iff.1 hk).1).trans hk⟩
theorem apart_symm {a b : Option Nat} (h : a = none ∨ a ≠ b) : b = none ∨ b ≠ a := by
  rcases h with rfl | h
  · cases b with | none => exact .inl rfl | some k => exact .inr (by simp)
  · exact .inr (Ne.symm h)
theorem apart_new {a b c : Option Nat} {n : Nat} (h : a = none ∨ a ≠ b) (hc : c = a ∨ c = some n) (hb : ∀ k, b = some k → k < n) : c = none ∨ c ≠ b := by
  rcases hc with rfl | rfl
  · exact h
  · exact .inr fun e => by have := hb n e.symm; omega
/-- A row grows: what is apart of it stays, and stays apart. -/
theorem grown_apart {base M m : Nat} {S : ByteArray → Bool} {va vb v4 : Value} {p q : List ByteArray} {nm : ByteArray} {w wr W4 : World} {o1 o2 : Obj} (hva : OwnT base va p wr) (hvb : OwnT base vb q wr) (hap : va.ownBlock = none ∨ va.ownBlock ≠ vb.ownBlock) (hM : SetV M m S wr) (hb : Below w.heap.size w wr) (hbase : w.heap.size ≤ base)
    (ho : W4.ownsRow base 9 1 v4 (p.length + 1) (p.map Value.string ++ [.string nm])) (hg : ((wr.alloc o1).alloc o2).grownBy W4 va.ownBlock) (hat : v4.ownBlock = va.ownBlock ∨ v4.ownBlock = some (wr.heap.size + 1 + 1)) :
    OwnT base v4 (p ++ [nm]) W4 ∧ OwnT base vb q W4 ∧ (v4.ownBlock = none ∨ v4.ownBlock ≠ vb.ownBlock) ∧ SetV M m S W4 ∧ Below w.heap.size w W4 := by
  have hz : ((wr.alloc o1).alloc o2).heap.size = wr.heap.size + 1 + 1 := by simp
  have hb2 : Below wr.heap.size wr ((wr.alloc o1).alloc o2) := ((Below.refl _ wr).alloc (Nat.le_refl _) o1).alloc (by simp) o2
  refine ⟨OwnT.snoc ho, (World.ownsRow.kept (w := (wr.alloc o1).alloc o2) (World.ownsRow.alloc (World.ownsRow.alloc hvb o1) o2) hg (apart_symm hap)), apart_new hap hat (fun k e => by have := (hvb.lt k e).2; omega), (hM.below hb2).kept hg (hva.apart hM), ?_⟩
  exact (hb.trans (hb2.mono hb.size)).grown hg (by have := hb.size; omega) (fun k e => by have := (hva.lt k e).1; omega)
/-- Where the loop stands. -/
def SplI (w : World) (M m : Nat) (l1 l2 : List ByteArray) (i : Nat) (vi vo : Value) (wr : World) : Prop :=
  (OwnT w.heap.size vi ((l1.take i).filter (inB l2)) wr ∧ OwnT w.heap.size vo ((l1.take i).filter fun n => !inB l2 n) wr) ∧ (vi.ownBlock = none ∨ vi.ownBlock ≠ vo.ownBlock) ∧ SetV M m (inB l2) wr ∧ Below w.heap.size w wr
set_option maxRecDepth 100000 in
set_option maxHeartbeats 4000000 in
theorem split_any (l1 l2 : List ByteArray) (hl1 : l1.length ≤ 1000000) (hl2 : l2.length ≤ 1000000) (hs1 : ∀ n ∈ l1, n.size ≤ 1000000) (hs2 : ∀ n ∈ l2, n.size ≤ 1000000) (a1 a2 : Option Addr) (c1 c2 : Nat) (w : World) (h1 : TextsAt w (.slice a1 l1.length c1) l1) (h2 : TextsAt w (.slice a2 l2.length c2) l2) :
    Calls Tryz.prog 37 #[.slice a1 l1.length c1, .slice a2 l2.length c2] w fun e w' =>
      (∃ vi vo, e = .returned (.tuple #[vi, vo]) ∧ TextsAt w' vi (l1.filter (inB l2)) ∧ TextsAt w' vo (l1.filter fun n => !inB l2 n)) ∧ Below w.heap.size w w' := by
  have HC := Lib.hid (setOf_any l2 hl2 hs2 a2 c2 w h2)
  have H1 := Lib.hid h1
  have HS := Lib.hid hs1
  obtain ⟨i0, hi0, hz0, hz1, hz2⟩ := info_parts Tryz.infoStrS
  clear h1 h2 hs1 hs2
  go_enter Tryz.func37, Tryz.ntmps37
  go_wp2_with (go_at_call 63; fail)
  refine HC.out.mono ?_
  rintro e w1 ⟨⟨M, rfl, hM, hMb⟩, hb1⟩
  have H0 := Lib.hid (show SplI w M l2.length l1 l2 0 (.slice none 0 0) (.slice none 0 0) w1 from ⟨⟨OwnT.nil _ _, OwnT.nil _ _⟩, .inl rfl, hM, hb1⟩)
  have HMb := Lib.hid hMb
  clear hM hb1 HC hMb
  go_wp2_with (fail)
  go_loopw [4, 5, 15] (fun vi vo vk wr => ∃ i : Nat, i ≤ l1.length ∧ vk = .int .i64 i ∧ Hid (SplI w M l2.length l1 l2 i vi vo wr)) (fun _ _ vk _ => l1.length - (intOf vk).toNat)
  case atStart => exact ⟨0, Nat.zero_le _, rfl, H0⟩
  case round =>
    obtain ⟨i, hi, rfl, hF⟩ := hrel
    by_cases hlt : i < l1.length
    · have hltI : (i : Int) < (l1.length : Int) := by omega
      obtain ⟨⟨hvi, hvo⟩, hap, hM, hb⟩ := hF.out
      obtain ⟨g, rfl, hc, hg, hcell⟩ := H1.out.cell hb hlt
      have hlk := hM.look l1[i] (by have := HS.out _ (List.getElem_mem hlt); unfold maxLen; omega)
      have hwz := hb.size
      have hti := filter_take (p := inB l2) hlt
      have hto := filter_take (p := fun n => !inB l2 n) hlt
      have hlen1 : ((l1.take i).filter (inB l2)).length ≤ 1000000 := by have := List.length_filter_le (inB l2) (l1.take i); rw [List.length_take] at this; omega
      have hlen2 : ((l1.take i).filter fun n => !inB l2 n).length ≤ 1000000 := by have := List.length_filter_le (fun n => !inB l2 n) (l1.take i); rw [List.length_take] at this; omega
      have HVI := Lib.hid hvi; have HVO := Lib.hid hvo; have HAP := Lib.hid hap; have HM := Lib.hid hM; have HB := Lib.hid hb
      have HNX := Lib.hid (fun vi vo (wr' : World) (h : OwnT w.heap.size vi ((l1.take (i + 1)).filter (inB l2)) wr' ∧ OwnT w.heap.size vo ((l1.take (i + 1)).filter fun n => !inB l2 n) wr') (h2 : vi.ownBlock = none ∨ vi.ownBlock ≠ vo.ownBlock) (h3 : SetV M l2.length (inB l2) wr') (h4 : Below w.heap.size w wr') => (show SplI w M l2.length l1 l2 (i + 1) vi vo wr' from ⟨h, h2, h3, h4⟩))
      rw [hti, hto] at HNX
      clear hvi hvo hap hM hb hF hti hto H0
      obtain ⟨p, hp⟩ : ∃ p, (l1.take i).filter (inB l2) = p := ⟨_, rfl⟩
      obtain ⟨q, hq⟩ : ∃ q, ((l1.take i).filter fun n => !inB l2 n) = q := ⟨_, rfl⟩
      rw [hp] at HVI HNX hlen1
      rw [hq] at HVO HNX hlen2
      clear hp hq
      generalize l1[i] = nm at *
      cases hin : inB l2 nm with
      | true =>
        rw [hin] at hlk HNX
        simp only [if_true, Bool.not_true, Bool.false_eq_true, if_false] at HNX
        go_wp2_with (at_builtin; refine wpList_append_own_at _ rfl _ _ 23 rfl w.heap.size 9 i0 (.string ⟨#[]⟩) 1 16 Tryz.underlying23 hi0 hz0 hz1 hz2 rfl (by decide) _ _ _ rfl ((World.ownsRow.alloc HVI.out _).alloc _) ⟨wr.heap.size + 1, 0, none⟩ 1 1 [.string nm] rfl rfl (by have := cell_one_new (wr.alloc (.cells #[] 95)) (.string nm) 9; simpa using this) (by simp [Value.oneCell']) ?c3 ?c4 ?c5 ?_)
        case c3 => unfold maxLen; omega
        case c4 => omega
        case c5 => simp; omega
        intro v4 W4 hown4 hgr4 _ hat4
        obtain ⟨k1, k2, k3, k4, k5⟩ := grown_apart HVI.out HVO.out HAP.out HM.out HB.out (Nat.le_refl _) hown4 hgr4 hat4
        have HE := Lib.hid (HNX.out v4 u5 W4 ⟨k1, k2⟩ k3 k4 k5)
        clear hown4 hgr4 hat4 k1 k2 k3 k4 k5
        go_wp2
        go_roundw
        case rel => exact ⟨i + 1, by omega, by go_num, HE⟩
        case measure => simp [intOf]; omega
      | false =>
        rw [hin] at hlk HNX
        simp only [if_true, Bool.not_false, Bool.false_eq_true, if_false] at HNX
        go_wp2_with (at_builtin; refine wpList_append_own_at _ rfl _ _ 23 rfl w.heap.size 9 i0 (.string ⟨#[]⟩) 1 16 Tryz.underlying23 hi0 hz0 hz1 hz2 rfl (by decide) _ _ _ rfl ((World.ownsRow.alloc HVO.out _).alloc _) ⟨wr.heap.size + 1, 0, none⟩ 1 1 [.string nm] rfl rfl (by have := cell_one_new (wr.alloc (.cells #[] 95)) (.string nm) 9; simpa using this) (by simp [Value.oneCell']) ?c3 ?c4 ?c5 ?_)
        case c3 => unfold maxLen; omega
        case c4 => omega
        case c5 => simp; omega
        intro v4 W4 hown4 hgr4 _ hat4
        obtain ⟨k1, k2, k3, k4, k5⟩ := grown_apart HVO.out HVI.out (apart_symm HAP.out) HM.out HB.out (Nat.le_refl _) hown4 hgr4 hat4
        have HE := Lib.hid (HNX.out u4 v4 W4 ⟨k2, k1⟩ (apart_symm k3) k4 k5)
        clear hown4 hgr4 hat4 k1 k2 k3 k4 k5
        go_wp2
        go_roundw
        case rel => exact ⟨i + 1, by omega, by go_num, HE⟩
        case measure => simp [intOf]; omega
    · have hltI : ¬ ((i : Int) < (l1.length : Int)) := by omega
      have hil : i = l1.length := by omega
      have hF2 := hF.out
      rw [hil] at hF2
      unfold SplI at hF2
      rw [List.take_length] at hF2
      obtain ⟨⟨hvi, hvo⟩, _, _, hb⟩ := hF2
      have HI := Lib.hid hvi.texts; have HO := Lib.hid hvo.texts; have HB := Lib.hid hb
      obtain ⟨xa, xc, hxi⟩ := hvi.shape
      obtain ⟨ya, yc, hxo⟩ := hvo.shape
      generalize (l1.filter (inB l2)).length = z1 at hxi
      generalize (l1.filter fun n => !inB l2 n).length = z2 at hxo
      subst hxi hxo
      clear hvi hvo hb hF hil H0
      go_wp2
      exact bodyPost_ret (v := .tuple #[.slice xa z1 xc, .slice ya z2 yc]) (by simp [results, Tryz.results37, go_sem]) rfl ⟨⟨_, _, rfl, HI.out, HO.out⟩, HB.out⟩
end Go.Proofs.YtjnlchhikdfifaaGreatDoor
/- Contexts of nothing: Preds, SortFunc, CompactFunc, scheme.SortPreds of an empty row. -/
namespace Go.Proofs.YtjnlchhikdfifaaGreatDoor
open Go.RowKit
attribute [local go_sem] Oper.semAt_some

theorem Tryz.infoPredZ : (Tryz.prog.info? 55).map (fun i => (i.zero, i.size, i.bytes)) = some (some (.agg #[.string ⟨#[]⟩, .int .i64 0, .string ⟨#[]⟩, .slice none 0 0]), 4, 64) := by kernel_rfl
set_option maxHeartbeats 1000000 in
theorem preds0_any (v : Value) (a : Option Addr) (c : Nat) (w : World) : Calls Tryz.prog 40 #[.agg #[v], .slice a 0 c] w fun e w' => (∃ a', e = .returned (.slice (some a') 0 0)) ∧ Below w.heap.size w w' := by
  have hmk : ∀ W : World, (Instr.makeSlice 28 (.int .i64 0) (.int .i64 0)).run Tryz.prog W = .ok (.slice (some ⟨W.heap.size, 0, none⟩) 0 0) (W.alloc (.cells #[] 55)) := fun W => by kernel_rfl
  go_enter Tryz.func40, Tryz.ntmps40
  go_wp2
  refine wp_loop_rounds 1 ?_
  rw [rounds_succ]
  go_wp2
  go_ret
  exact ⟨⟨_, rfl⟩, ((Below.refl _ w).alloc (Nat.le_refl _) _).alloc (by simp) _⟩
theorem bitsLen64_0 (w : World) : Calls Tryz.prog 89 #[.int .u64 0] w fun e w' => e = .returned (.int .i64 0) ∧ w = w' := by
  go_enter Tryz.func89, Tryz.ntmps89
  go_wp2
  go_ret
  exact ⟨by kernel_rfl, rfl⟩
theorem bitsLen_0 (w : World) : Calls Tryz.prog 68 #[.int .u64 0] w fun e w' => e = .returned (.int .i64 0) ∧ w = w' := by
  go_enter Tryz.func68, Tryz.ntmps68
  go_wp2_with (go_at_call 89; refine (bitsLen64_0 _).mono ?_; rintro e w' ⟨rfl, rfl⟩)
  go_ret
  exact ⟨rfl, rfl⟩
theorem insertion0 (a : Option Addr) (c : Nat) (g : Value) (w : World) : Calls Tryz.prog 80 #[.slice a 0 c, .int .i64 0, .int .i64 0, g] w fun e w' => e = .returned (.tuple #[]) ∧ w = w' := by
  go_enter Tryz.func80, Tryz.ntmps80
  go_wp2
  refine wp_loop_rounds 1 ?_
  rw [rounds_succ]
  go_wp2
  go_end0
  exact ⟨rfl, rfl⟩
set_option maxRecDepth 100000 in
set_option maxHeartbeats 1000000 in
theorem pdq0 (a : Option Addr) (c : Nat) (g : Value) (w : World) : Calls Tryz.prog 67 #[.slice a 0 c, .int .i64 0, .int .i64 0, .int .i64 0, g] w fun e w' => e = .returned (.tuple #[]) ∧ w = w' := by
  go_enter Tryz.func67, Tryz.ntmps67
  go_wp2
  refine wp_loop_rounds 1 ?_
  rw [rounds_succ]
  go_wp2_with (go_at_call 80; refine (insertion0 _ _ _ _).mono ?_)
  rintro e w' ⟨rfl, rfl⟩
  go_wp2
  exact bodyPost_ret (v := .tuple #[]) (by simp [results, Tryz.results67, go_sem]) rfl ⟨rfl, rfl⟩
theorem sort0 (a : Option Addr) (c : Nat) (g : Value) (w : World) : Calls Tryz.prog 43 #[.slice a 0 c, g] w fun e w' => e = .returned (.tuple #[]) ∧ w = w' := by
  go_enter Tryz.func43, Tryz.ntmps43
  go_wp2_with (first
    | (go_at_call 68; refine (bitsLen_0 _).mono ?_; rintro e w' ⟨rfl, rfl⟩)
    | (go_at_call 67; refine (pdq0 _ _ _ _).mono ?_; rintro e w' ⟨rfl, rfl⟩))
  go_end0
  exact ⟨rfl, rfl⟩
set_option maxRecDepth 100000 in
theorem compact0 (a : Option Addr) (c : Nat) (g : Value) (w : World) : Calls Tryz.prog 45 #[.slice a 0 c, g] w fun e w' => e = .returned (.slice a 0 c) ∧ w = w' := by
  go_enter Tryz.func45, Tryz.ntmps45
  go_wp2
  go_ret
  exact ⟨rfl, rfl⟩
theorem sortPreds0 (a : Option Addr) (c : Nat) (w : World) : Calls Tryz.prog 19 #[.slice a 0 c] w fun e w' => (∃ a' c', e = .returned (.slice a' 0 c')) ∧ Below w.heap.size w w' := by
  go_enter Tryz.func19, Tryz.ntmps19
  go_wp2_with (go_at_call 40; refine (preds0_any _ _ _ _).mono ?_; rintro e w1 ⟨⟨a1, rfl⟩, hb1⟩; have HB1 := Lib.hid hb1; clear hb1)
  go_wp2_with (first
    | (go_at_call 43; refine (sort0 _ _ _ _).mono ?_; rintro e w' ⟨rfl, rfl⟩)
    | (go_at_call 45; refine (compact0 _ _ _ _).mono ?_; rintro e w' ⟨rfl, rfl⟩))
  go_ret
  exact ⟨⟨_, _, rfl⟩, HB1.out⟩
end Go.Proofs.YtjnlchhikdfifaaGreatDoor
/- scheme.variables of a type alone. -/
namespace Go.Proofs.YtjnlchhikdfifaaGreatDoor
open Go.RowKit Go.Maps
attribute [local go_sem] Oper.semAt_some

theorem Tryz.infoTyS : (Tryz.prog.info? 31).map (fun i => (i.zero, i.size, i.bytes)) = some (some (.agg #[.int .i64 0, .string ⟨#[]⟩, .slice none 0 0]), 3, 48) := by kernel_rfl
theorem cell_newT (w : World) (x y z : Value) (t : TypeId) : ∀ j v, [x, y, z][j]? = some v → (w.alloc (.cells #[x, y, z] t)).cell? ((⟨w.heap.size, 0, none⟩ : Addr).add j) = some v := by
  intro j v hv
  have hadd : (⟨w.heap.size, 0, none⟩ : Addr).add j = ⟨w.heap.size, j, none⟩ := by unfold Addr.add; split <;> simp_all
  rw [hadd]
  have := alloc_new w (.cells #[x, y, z] t)
  simp only [World.cell?, this]
  match j, hv with
  | 0, hv => simpa using hv
  | 1, hv => simpa using hv
  | 2, hv => simpa using hv
  | n + 3, hv => simp at hv
/-- A row of one type. -/
theorem tys_own1 {W : World} {base : Nat} {v : Value} {t : T} {ta : Option Addr} {tc : Nat} (h : W.ownsRow base 31 3 v 1 [.int .i64 t.kind, .string t.name, .slice ta t.kids.length tc]) (ht : TysAt W (.slice ta t.kids.length tc) t.kids) : TysAt W v [t] := by
  rcases h.2 with ⟨_, h0⟩ | ⟨g, cap, cur, rfl, _, hg, hc, hm, hcs, htk⟩
  · cases h0
  · refine .inr ⟨g, cap, cur, (0, 0), fun _ => .int .i64 t.kind, fun _ => .string t.name, fun _ => .slice ta t.kids.length tc, rfl, hg, hc, fun i hi => ?_, fun i hi => ?_⟩
    · obtain rfl : i = 0 := by simpa using hi
      have cell : ∀ j, j < 3 → cur[j]? = [Value.int .i64 t.kind, .string t.name, .slice ta t.kids.length tc][j]? := fun j hj => by
        rw [← htk, List.getElem?_take, if_pos (by omega), Array.getElem?_toList]
      exact ⟨(cell 0 (by decide)).trans rfl, (cell 1 (by decide)).trans rfl, (cell 2 (by decide)).trans rfl⟩
    · obtain rfl : i = 0 := by simpa using hi
      exact (tyAt_iff W t _ _ _).2 ⟨rfl, rfl, ht⟩
set_option maxRecDepth 100000 in
set_option maxHeartbeats 2000000 in
theorem vars1_any (t : T) (hn : Nm t) (hs : tsize t ≤ 90000000) (a ta : Option Addr) (c tc : Nat) (w : World) (ht : TysAt w (.slice ta t.kids.length tc) t.kids) :
    Calls Tryz.prog 38 #[.slice a 0 c, .agg #[.int .i64 t.kind, .string t.name, .slice ta t.kids.length tc]] w fun e w' => (∃ v, e = .returned v ∧ TextsAt w' v (fvs [] [] [t])) ∧ Below w.heap.size w w' := by
  have hmk : ∀ W : World, (Instr.makeSlice 29 (.int .i64 0) (.int .i64 1)).run Tryz.prog W = .ok (.slice (some ⟨W.heap.size, 0, none⟩) 0 1) (W.alloc (.cells #[.int .i64 0, .string ⟨#[]⟩, .slice none 0 0] 31)) := fun W => by kernel_rfl
  obtain ⟨i0, hi0, hz0, hz1, hz2⟩ := info_parts Tryz.infoTyS
  have HT := Lib.hid ht
  have HV := Lib.hid (fun (a : Option Addr) (c : Nat) (W : World) (h : TysAt W (.slice a 1 c) [t]) => vars_any [t] (fun k hk => by rw [List.mem_singleton.1 hk]; exact hn) (by simp [tsizes]; omega) a c W h)
  have HB0 := Lib.hid (Below.refl w.heap.size w)
  clear ht hn
  go_enter Tryz.func38, Tryz.ntmps38
  go_wp2_with (at_builtin; refine wpList_append_own _ rfl _ _ 29 rfl w.heap.size 31 i0 (.agg #[.int .i64 0, .string ⟨#[]⟩, .slice none 0 0]) 3 48 Tryz.underlying29 hi0 hz0 hz1 hz2 rfl (by decide) _ 0 [] rfl ?own ⟨w.heap.size + 1 + 1, 0, none⟩ 1 1 [.int .i64 t.kind, .string t.name, .slice ta t.kids.length tc] rfl rfl ?news (by simp [Value.oneCell']) ?c3 ?c4 ?c5 ?_)
  case own =>
    have := World.ownsRow_made (base := w.heap.size) (e := 31) (size := 3) (w.alloc (.cells #[.int .i64 t.kind, .string t.name, .slice ta t.kids.length tc] 31)) #[.int .i64 0, .string ⟨#[]⟩, .slice none 0 0] 1 (by simp) (by unfold maxLen; omega) rfl
    have h2 := World.ownsRow.alloc this (.cells #[.int .i64 t.kind, .string t.name, .slice ta t.kids.length tc] 31)
    have e : (w.alloc (.cells #[.int .i64 t.kind, .string t.name, .slice ta t.kids.length tc] 31)).heap.size = w.heap.size + 1 := by simp
    rw [e] at h2
    exact h2
  case news =>
    have := cell_newT ((w.alloc (.cells #[.int .i64 t.kind, .string t.name, .slice ta t.kids.length tc] 31)).alloc (.cells #[.int .i64 0, .string ⟨#[]⟩, .slice none 0 0] 31)) (.int .i64 t.kind) (.string t.name) (.slice ta t.kids.length tc) 31
    simpa using this
  case c3 => unfold maxLen; omega
  case c4 => omega
  case c5 => simp; omega
  intro v4 W4 hown4 hgr4 _
  have hb4 : Below w.heap.size w W4 := ((((Below.refl w.heap.size w).alloc (Nat.le_refl _) _).alloc (by simp) _).alloc (by simp; omega) _).grown hgr4 (by simp; omega) (fun k e => by simp [Value.ownBlock] at e; omega)
  have hty := tys_own1 hown4 (HT.out.keep (KeepT.of_below hb4))
  obtain ⟨va, vc, rfl⟩ := row_val hown4
  have HTy := Lib.hid hty; have HB4 := Lib.hid hb4
  clear hown4 hgr4 hb4 hty
  go_wp2
  refine wp_loop_rounds 1 ?_
  rw [rounds_succ]
  go_wp2_with (go_at_call 64; fail)
  refine (HV.out _ _ _ HTy.out).mono ?_
  rintro e w5 ⟨⟨v, rfl, hv⟩, _, hb5⟩
  obtain ⟨za, zc, hz⟩ := hv.shape
  have HVx := Lib.hid hv; have HB5 := Lib.hid (HB4.out.trans (hb5.mono HB4.out.size))
  clear hv hb5
  generalize (fvs [] [] [t]).length = zn at hz
  subst hz
  go_wp2
  go_ret
  exact ⟨⟨_, rfl, HVx.out⟩, HB5.out⟩
end Go.Proofs.YtjnlchhikdfifaaGreatDoor
/- subst.Of of a row that was made, of nothing too. -/
namespace Go.Proofs.YtjnlchhikdfifaaGreatDoor
open Go.RowKit Go.Sort Go.Lib
attribute [local go_sem] Oper.semAt_some

theorem clone_zero (a : Addr) (c : Nat) (ha : a.spot = none) (w : World) : Calls Tryz.prog 76 #[.slice (some a) 0 c] w fun e w' => (∃ x k, e = .returned (.slice (some x) 0 k)) ∧ Below w.heap.size w w' := by
  obtain ⟨b, o, s⟩ := a
  obtain rfl : s = none := ha
  obtain ⟨i0, hi, hz0, hz1, hz2⟩ := info_parts Tryz.infoPair
  have : Calls Tryz.prog 76 _ _ _ := AnyE.slices_Clone cloneLay i0 (.agg zeroP) 4 64 hi hz0 hz1 hz2 rfl (by decide) Tryz.sizeOf90 b o 0 c [] w rfl (by unfold maxLen; omega) (by omega) (fun j u h => by simp at h) (fun u h => nomatch h)
  refine this.mono ?_
  rintro e w' ⟨v, rfl, ho, hne, hb⟩
  rcases ho.2 with ⟨rfl, _⟩ | ⟨g, cap, cur, rfl, _⟩
  · exact absurd rfl hne
  · exact ⟨⟨_, cap, rfl⟩, hb⟩
theorem of_zero (a : Addr) (c : Nat) (ha : a.spot = none) (w : World) :
    Calls Tryz.prog 61 #[.slice (some a) 0 c] w fun e w' => (∃ v l, e = .returned (.agg #[v]) ∧ SubAt v l w' ∧ Made [] l) ∧ Below w.heap.size w w' := by
  have HB := Lib.hid (fun o => (Below.refl _ w).alloc (Nat.le_refl _) o)
  have HC := Lib.hid (fun W => clone_zero a c ha W)
  go_enter Tryz.func61, Tryz.ntmps61
  go_wp2_with (go_at_call 76; fail)
  refine (HC.out _).mono ?_
  rintro e w1 ⟨⟨x, k, rfl⟩, hb1⟩
  have hz1 : w.heap.size + 1 ≤ w1.heap.size := by have := hb1.size; simpa using this
  have b1 := (hb1.block w.heap.size (by simp)).trans (alloc_new w _)
  have HB1 := Lib.hid ((HB.out _).trans (hb1.mono (by simp)))
  have Hb1 := Lib.hid b1
  clear hb1 HC b1
  go_wp2_with (go_at_call 75; fail)
  refine (gather_none (some x) k _).mono ?_
  rintro e w2 ⟨rfl, hb⟩
  have b0 := (hb.block w.heap.size (by omega)).trans Hb1.out
  have hz2 : w1.heap.size ≤ w2.heap.size := hb.size
  have HB2 := Lib.hid (HB1.out.trans (hb.mono (by omega)))
  have y0 : w2.cell? ⟨w.heap.size, 0, none⟩ = some (.slice none 0 0) := by rw [Lib.cell_of_heap b0]; rfl
  have y1 := Lib.frozen_of_heap b0 0
  have l2 := (Array.getElem?_eq_some_iff.1 b0).1
  have Hb := Lib.hid b0
  clear hb b0 HB HB1 Hb1
  go_wp2
  refine wp_loop_rounds 1 ?_
  rw [rounds_succ]
  go_wp2
  have hs : ∀ o : Obj, ((w2.setCell ⟨w.heap.size, 0, none⟩ (.slice (some x) 0 k)).alloc o).heap[w.heap.size]? = some (.cells #[.slice (some x) 0 k] 73 (0, 0)) := fun o => by
    rw [Below.heap_alloc _ _ _ (by simpa using l2)]; exact blk_set (o := 0) Hb.out (.slice (some x) 0 k)
  have hc0 : ((w2.setCell ⟨w.heap.size, 0, none⟩ (.slice (some x) 0 k)).alloc (.cells #[.slice (some x) 0 k] 73)).cell? ⟨w.heap.size, 0, none⟩ = some (.slice (some x) 0 k) := by rw [Lib.cell_of_heap (hs _)]; rfl
  exact bodyPost_ret (v := .agg #[.slice (some x) 0 k]) (by simp [results, Tryz.results61, go_sem, hc0]) rfl ⟨⟨_, [], rfl, sub_nil _ _ _ (fun h => nomatch h), gath_nil.made (Copy.refl [])⟩, (HB2.out.setCell (p := ⟨w.heap.size, 0, none⟩) (Nat.le_refl _) _).alloc (by simp; omega) _⟩
theorem of_all (g cap : Nat) (d : List PR) (w : World) (h : RowP g d w) (ht : Typ d w) (hf : FitsAll d) (hz : SizedAll d) (hl : d.length < 20) :
    Calls Tryz.prog 61 #[.slice (some ⟨g, 0, none⟩) d.length cap] w fun e w' => (∃ v l, e = .returned (.agg #[v]) ∧ SubAt v l w' ∧ Made d l) ∧ Below w.heap.size w w' := by
  by_cases h0 : d = []
  · subst h0
    exact of_zero _ cap rfl w
  · exact of_some g cap d w h ht hf hz hl h0
end Go.Proofs.YtjnlchhikdfifaaGreatDoor
/- scheme.Name: the first letters; the chapter's examples. -/
namespace Go.Proofs.YtjnlchhikdfifaaGreatDoor
open Go.RowKit
attribute [local go_sem] Oper.semAt_some

def nameAt (i : Nat) : ByteArray := ⟨#[UInt8.ofNat (97 + i)]⟩
set_option maxRecDepth 100000 in
theorem name_low (i : Nat) (hi : i < 8) (w : World) : Calls Tryz.prog 21 #[.int .i64 (i : Int)] w fun e w' => e = .returned (.string (nameAt i)) ∧ w = w' := by
  have h : i = 0 ∨ i = 1 ∨ i = 2 ∨ i = 3 ∨ i = 4 ∨ i = 5 ∨ i = 6 ∨ i = 7 := by omega
  rcases h with rfl | rfl | rfl | rfl | rfl | rfl | rfl | rfl
  all_goals
    go_enter Tryz.func21, Tryz.ntmps21
    go_wp2
    go_ret
    exact ⟨by kernel_rfl, rfl⟩
set_option maxRecDepth 100000 in
theorem name_neg (w : World) : Calls Tryz.prog 21 #[.int .i64 (-3)] w fun e w' => e = .returned (.string ⟨#[97]⟩) ∧ w = w' := by
  go_enter Tryz.func21, Tryz.ntmps21
  go_wp2
  go_ret
  exact ⟨by kernel_rfl, rfl⟩
set_option maxRecDepth 100000 in
theorem small_1 (w : World) : Calls Tryz.prog 96 #[.int .i64 1] w fun e w' => e = .returned (.string ⟨#[49]⟩) ∧ w = w' := by
  go_enter Tryz.func96, Tryz.ntmps96
  go_wp2
  go_ret
  exact ⟨by kernel_rfl, rfl⟩
theorem fmt_1 (w : World) : Calls Tryz.prog 95 #[.int .i64 1, .int .i64 10] w fun e w' => e = .returned (.string ⟨#[49]⟩) ∧ w = w' := by
  go_enter Tryz.func95, Tryz.ntmps95
  go_wp2_with (go_at_call 96; refine (small_1 _).mono ?_; rintro e w' ⟨rfl, rfl⟩)
  go_ret
  exact ⟨by kernel_rfl, rfl⟩
theorem iItoa_1 (w : World) : Calls Tryz.prog 72 #[.int .i64 1] w fun e w' => e = .returned (.string ⟨#[49]⟩) ∧ w = w' := by
  go_enter Tryz.func72, Tryz.ntmps72
  go_wp2_with (go_at_call 95; refine (fmt_1 _).mono ?_; rintro e w' ⟨rfl, rfl⟩)
  go_ret
  exact ⟨rfl, rfl⟩
theorem itoa_1 (w : World) : Calls Tryz.prog 49 #[.int .i64 1] w fun e w' => e = .returned (.string ⟨#[49]⟩) ∧ w = w' := by
  go_enter Tryz.func49, Tryz.ntmps49
  go_wp2_with (go_at_call 72; refine (iItoa_1 _).mono ?_; rintro e w' ⟨rfl, rfl⟩)
  go_ret
  exact ⟨rfl, rfl⟩
set_option maxRecDepth 100000 in
theorem name_27 (w : World) : Calls Tryz.prog 21 #[.int .i64 27] w fun e w' => e = .returned (.string ⟨#[98, 49]⟩) ∧ w = w' := by
  go_enter Tryz.func21, Tryz.ntmps21
  go_wp2_with (go_at_call 49; refine (itoa_1 _).mono ?_; rintro e w' ⟨rfl, rfl⟩)
  go_ret
  exact ⟨by kernel_rfl, rfl⟩
theorem name_0 (w : World) : Calls Tryz.prog 21 #[.int .i64 0] w fun e w' => e = .returned (.string ⟨#[97]⟩) ∧ w = w' := by
  have h := name_low 0 (by decide) w
  have e : nameAt 0 = ⟨#[97]⟩ := by decide
  rw [e] at h
  exact h
set_option maxRecDepth 100000 in
theorem first8_any (w : World) : Calls Tryz.prog 5 #[] w fun e w' => e = .returned (.bool true) ∧ w = w' := by
  go_enter Tryz.func5, Tryz.ntmps5
  go_wp2_with (go_at_call 21; fail)
  refine (name_27 _).mono ?_
  rintro e w' ⟨rfl, rfl⟩
  go_wp2_with (go_at_call 21; fail)
  refine (name_0 _).mono ?_
  rintro e w' ⟨rfl, rfl⟩
  go_wp2_with (go_at_call 21; fail)
  refine (name_neg _).mono ?_
  rintro e w' ⟨rfl, rfl⟩
  go_wp2
  go_ret
  exact ⟨rfl, rfl⟩
end Go.Proofs.YtjnlchhikdfifaaGreatDoor
/- scheme.newNames: the first names that are not taken. -/
namespace Go.Proofs.YtjnlchhikdfifaaGreatDoor
open Go.RowKit Go.Maps
attribute [local go_sem] Oper.semAt_some

theorem nodup_lenS {α : Type} [DecidableEq α] {l R : List α} (hn : l.Nodup) (hs : ∀ i ∈ l, i ∈ R) : l.length ≤ R.length := by
  induction l generalizing R with
  | nil => exact Nat.zero_le _
  | cons a l ih =>
    have hp := List.perm_cons_erase (hs a (by simp))
    have hn' := List.nodup_cons.1 hn
    have := ih (R := R.erase a) hn'.2 fun j hj => (List.mem_erase_of_ne (fun e => hn'.1 (by rw [← e]; exact hj))).2 (hs j (List.mem_cons_of_mem _ hj))
    rw [hp.length_eq, List.length_cons, List.length_cons]; omega
open Classical in
theorem grown_apart2 {base M m : Nat} {S : ByteArray → Bool} {va vb v4 : Value} {p q : List ByteArray} {nm : ByteArray} {w wr W4 : World} {o1 o2 : Obj} (hva : OwnT base va p wr) (hvb : OwnT base vb q wr) (hap : va.ownBlock = none ∨ va.ownBlock ≠ vb.ownBlock) (hM : SetV M m S wr) (hb : Below w.heap.size w wr) (hbase : w.heap.size ≤ base)
    (ho : W4.ownsRow base 9 1 v4 (p.length + 1) (p.map Value.string ++ [.string nm])) (hg : ((wr.alloc o1).alloc o2).grownBy W4 va.ownBlock) (hat : v4.ownBlock = va.ownBlock ∨ v4.ownBlock = some ((wr.alloc o1).alloc o2).heap.size) :
    OwnT base v4 (p ++ [nm]) W4 ∧ OwnT base vb q W4 ∧ (v4.ownBlock = none ∨ v4.ownBlock ≠ vb.ownBlock) ∧ SetV M m S W4 ∧ Below w.heap.size w W4 :=
  grown_apart hva hvb hap hM hb hbase ho hg (by simpa using hat)
/-- The first i names, but those that are taken. -/
noncomputable def newsTo (taken : List ByteArray) (i : Nat) : List ByteArray := ((List.range i).map nameAt).filter fun x => !inB taken x
theorem newsTo_succ (taken : List ByteArray) (i : Nat) : newsTo taken (i + 1) = if inB taken (nameAt i) = true then newsTo taken i else newsTo taken i ++ [nameAt i] := by
  unfold newsTo
  rw [List.range_succ, List.map_append, List.filter_append]
  cases h : inB taken (nameAt i) <;> simp [h]
theorem nameAt_inj {i j : Nat} (hi : i < 100) (hj : j < 100) (h : nameAt i = nameAt j) : i = j := by
  have h1 : UInt8.ofNat (97 + i) = UInt8.ofNat (97 + j) := by simpa [nameAt] using h
  have h2 := congrArg UInt8.toNat h1
  simp only [UInt8.toNat_ofNat'] at h2
  omega
theorem names_nodup (i : Nat) (hi : i ≤ 100) : ((List.range i).map nameAt).Nodup := by
  rw [List.nodup_iff_pairwise_ne, List.pairwise_map]
  refine List.Pairwise.imp_of_mem (fun {a b} ha hb hab e => hab (nameAt_inj (by have := List.mem_range.1 ha; omega) (by have := List.mem_range.1 hb; omega) e)) List.nodup_range
theorem newsTo_nodup (taken : List ByteArray) (i : Nat) (hi : i ≤ 100) : (newsTo taken i).Nodup := (names_nodup i hi).filter _
theorem newsTo_free {taken : List ByteArray} {i : Nat} {x : ByteArray} (h : x ∈ newsTo taken i) : x ∉ taken := fun hx => by
  have := (List.mem_filter.1 h).2
  rw [inB_iff.2 hx] at this
  cases this
theorem newsTo_size {taken : List ByteArray} {i : Nat} {x : ByteArray} (h : x ∈ newsTo taken i) : x.size = 1 := by
  obtain ⟨k, _, rfl⟩ := List.mem_map.1 (List.mem_filter.1 h).1
  rfl
/-- Of so many no more than are taken are left out. -/
theorem newsTo_len (taken : List ByteArray) (i : Nat) (hi : i ≤ 100) : i ≤ (newsTo taken i).length + taken.length := by
  have h1 : ((List.range i).map nameAt).length = i := by simp
  have h2 := nodup_lenS ((names_nodup i hi).filter (fun x => inB taken x)) (R := taken) (fun x hx => inB_iff.1 (List.mem_filter.1 hx).2)
  have h3 : ∀ l : List ByteArray, l.length = (l.filter fun x => !inB taken x).length + (l.filter fun x => inB taken x).length := by
    intro l
    induction l with
    | nil => rfl
    | cons a l ih => cases h : inB taken a <;> simp [h] <;> omega
  have h4 := h3 ((List.range i).map nameAt)
  unfold newsTo
  omega
theorem newsTo_next {taken : List ByteArray} {i n : Nat} (h : i + 1 ≤ n + taken.length) (hlt : (newsTo taken i).length < n) (e : newsTo taken (i + 1) = if inB taken (nameAt i) = true then newsTo taken i else newsTo taken i ++ [nameAt i]) : i + 1 ≤ n + taken.length ∧ (newsTo taken (i + 1)).length ≤ n := by
  refine ⟨h, ?_⟩
  rw [e]
  by_cases hx : inB taken (nameAt i) = true
  · rw [if_pos hx]; omega
  · rw [if_neg hx, List.length_append, List.length_singleton]; omega
/-- What newNames hands back. -/
def NewN (n : Nat) (taken names : List ByteArray) : Prop := names.length = n ∧ names.Nodup ∧ (∀ x ∈ names, x ∉ taken ∧ x.size = 1)
/-- Where its loop stands. -/
def NewI (w : World) (M m : Nat) (taken : List ByteArray) (i : Nat) (v : Value) (wr : World) : Prop :=
  OwnT w.heap.size v (newsTo taken i) wr ∧ SetV M m (inB taken) wr ∧ Below w.heap.size w wr
theorem own_made (base : Nat) (w : World) (n : Nat) (hb : base ≤ w.heap.size) (hn : n ≤ 1000000) : OwnT base (.slice (some ⟨w.heap.size, 0, none⟩) 0 n) [] (w.alloc (.cells (madeCells #[.string ⟨#[]⟩] n) 9)) :=
  World.ownsRow_made (base := base) (e := 9) (size := 1) w _ n hb (by unfold maxLen; omega) (by rw [size_madeCells, Nat.mul_one])
theorem newI_a {w w1 : World} {n M m : Nat} {taken : List ByteArray} (hn : n ≤ 1000000) (hM : SetV M m (inB taken) w1) (hb : Below (w.alloc (.cells (madeCells #[.string ⟨#[]⟩] n) 9)).drew.heap.size (w.alloc (.cells (madeCells #[.string ⟨#[]⟩] n) 9)).drew w1) : NewI w M m taken 0 (.slice (some ⟨w.heap.size, 0, none⟩) 0 n) w1 :=
  ⟨OwnT.below (w := (w.alloc (.cells (madeCells #[.string ⟨#[]⟩] n) 9)).drew) (own_made w.heap.size w n (Nat.le_refl _) hn) hb, hM, (((Below.refl w.heap.size w).alloc (Nat.le_refl _) (.cells (madeCells #[.string ⟨#[]⟩] n) 9)).drew).trans (hb.mono (by show w.heap.size ≤ (w.alloc _).heap.size; simp))⟩
theorem newI_b {w w1 : World} {n M m : Nat} {taken : List ByteArray} (hn : n ≤ 1000000) (hM : SetV M m (inB taken) w1) (hb : Below w.drew.heap.size w.drew w1) : NewI w M m taken 0 (.slice (some ⟨w1.heap.size, 0, none⟩) 0 n) (w1.alloc (.cells (madeCells #[.string ⟨#[]⟩] n) 9)) :=
  ⟨own_made w.heap.size w1 n hb.size hn, hM.below ((Below.refl _ w1).alloc (Nat.le_refl _) _), (((Below.refl w.heap.size w).drew).trans hb).alloc hb.size _⟩
set_option maxRecDepth 100000 in
set_option maxHeartbeats 4000000 in
theorem newNames_any (n : Nat) (taken : List ByteArray) (hn : n + taken.length ≤ 7) (hs : ∀ x ∈ taken, x.size ≤ 1000000) (a : Option Addr) (c : Nat) (w : World) (h : TextsAt w (.slice a taken.length c) taken) :
    Calls Tryz.prog 39 #[.int .i64 (n : Int), .slice a taken.length c] w fun e w' => (∃ v names, e = .returned v ∧ TextsAt w' v names ∧ NewN n taken names) ∧ Below w.heap.size w w' := by
  obtain ⟨i0, hi0, hz0, hz1, hz2⟩ := info_parts Tryz.infoStrS
  have hmk : ∀ W : World, (Instr.makeSlice 23 (.int .i64 0) (.int .i64 (n : Int))).run Tryz.prog W = .ok (.slice (some ⟨W.heap.size, 0, none⟩) 0 n) (W.alloc (.cells (madeCells #[.string ⟨#[]⟩] n) 9)) := fun W => by
    have hr := run_make (P := Tryz.prog) W 23 9 i0 _ Tryz.underlying23 hi0 hz0 .i64 .i64 0 n (Int.le_refl _) (by omega) (by rw [hz2]; omega) (by omega)
    simp only [Int.toNat_natCast, hz1, Nat.mul_one] at hr
    exact hr
  have HC := Lib.hid (fun (W : World) (hb : Below w.heap.size w W) => setOf_any taken (by omega) hs a c W (h.below hb))
  have HB0 := Lib.hid (Below.refl w.heap.size w)
  clear h hs
  go_enter Tryz.func39, Tryz.ntmps39
  go_wp2
  go_region_with (go_at_call 63; refine (HC.out _ (by first | exact (Below.refl _ w).drew | exact ((Below.refl _ w).drew).alloc (Nat.le_refl _) _)).mono ?_; rintro e w1 ⟨⟨M, rfl, hM, hMb⟩, hb1⟩; have HM := Lib.hid hM; have HB1 := Lib.hid hb1; clear hM hb1 hMb)
  all_goals
    have H0 := Lib.hid (show NewI w M taken.length taken 0 _ _ from by first | exact newI_a (n := n) (by omega) HM.out HB1.out | exact newI_b (n := n) (by omega) HM.out HB1.out)
    clear HM HB1
    go_wp2
    go_loopw [5, 7] (fun vv vi wr => ∃ i : Nat, vi = .int .i64 i ∧ Hid (i ≤ n + taken.length ∧ (newsTo taken i).length ≤ n) ∧ Hid (NewI w M taken.length taken i vv wr)) (fun _ vi _ => n + taken.length + 1 - (intOf vi).toNat)
    case atStart => exact ⟨0, rfl, Lib.hid ⟨by omega, Nat.zero_le _⟩, H0⟩
    case round =>
      obtain ⟨i, rfl, hi, hF⟩ := hrel
      clear H0
      obtain ⟨vo, hM, hb⟩ := hF.out
      obtain ⟨xa, xc, rfl⟩ := vo.shape
      have hcnt := newsTo_len taken i (by have := hi.out.1; omega)
      have hi1 := hi.out.1; have hi2 := hi.out.2
      have hsc := newsTo_succ taken i
      by_cases hlt : (newsTo taken i).length < n
      · have hltI : ((newsTo taken i).length : Int) < (n : Int) := by omega
        have hi7 : i < 7 := by omega
        have hlk := hM.look (nameAt i) (by show (1 : Nat) ≤ maxLen; unfold maxLen; omega)
        have hwz := hb.size
        have HVO := Lib.hid vo; have HM := Lib.hid hM; have HB := Lib.hid hb
        have HSC := Lib.hid (fun v (wr' : World) (h : OwnT w.heap.size v (if inB taken (nameAt i) = true then newsTo taken i else newsTo taken i ++ [nameAt i]) wr') (h2 : SetV M taken.length (inB taken) wr') (h3 : Below w.heap.size w wr') => (show NewI w M taken.length taken (i + 1) v wr' from ⟨by rw [hsc]; exact h, h2, h3⟩))
        have HLen := Lib.hid (newsTo_next (by omega) hlt hsc)
        have hmz : i < n + taken.length := by omega
        clear vo hM hb hF hcnt hi hi1 hi2 hsc
        have hpl : (newsTo taken i).length ≤ 7 := by omega
        generalize newsTo taken i = p at *
        obtain ⟨nm, hnm⟩ : ∃ nm, nameAt i = nm := ⟨_, rfl⟩
        have HN := Lib.hid (fun W => name_low i (by omega) W)
        rw [hnm] at HN hlk HSC
        clear hnm
        cases hin : inB taken nm with
        | true =>
          rw [hin] at hlk HSC
          simp only [if_true] at HSC
          go_wp2_with (go_at_call 21; refine (HN.out _).mono ?_; rintro e w' ⟨rfl, rfl⟩)
          have HE := Lib.hid (HSC.out _ _ (HVO.out.below ((Below.refl _ wr).alloc (Nat.le_refl _) (.cells #[] 95))) (HM.out.below ((Below.refl _ wr).alloc (Nat.le_refl _) (.cells #[] 95))) (HB.out.alloc HB.out.size _))
          go_roundw
          case rel => exact ⟨i + 1, by go_num, HLen, HE⟩
          case measure => simp [intOf]; omega
        | false =>
          rw [hin] at hlk HSC
          simp only [Bool.false_eq_true, if_false] at HSC
          go_wp2_with (first
            | (go_at_call 21; refine (HN.out _).mono ?_; rintro e w' ⟨rfl, rfl⟩)
            | (at_builtin; refine wpList_append_own_at _ rfl _ _ 23 rfl w.heap.size 9 i0 (.string ⟨#[]⟩) 1 16 Tryz.underlying23 hi0 hz0 hz1 hz2 rfl (by decide) _ _ _ rfl ((World.ownsRow.alloc HVO.out _).alloc _) ⟨wr.heap.size + 1, 0, none⟩ 1 1 [.string nm] rfl rfl (by have := cell_one_new (wr.alloc (.cells #[] 95)) (.string nm) 9; simpa using this) (by simp [Value.oneCell']) (by unfold maxLen; omega) (by omega) (by simp; omega) ?_; intro v4 W4 hown4 hgr4 _ hat4; obtain ⟨k1, k2, k3, k4, k5⟩ := grown_apart2 HVO.out (OwnT.nil w.heap.size wr) (apart_symm (.inl rfl)) HM.out HB.out (Nat.le_refl _) hown4 hgr4 hat4; have HE := Lib.hid (HSC.out v4 W4 k1 k4 k5); clear hown4 hgr4 hat4 k1 k2 k3 k4 k5))
          go_roundw
          case rel => exact ⟨i + 1, by go_num, HLen, HE⟩
          case measure => simp [intOf]; omega
      · have hltI : ¬ ((newsTo taken i).length : Int) < (n : Int) := by omega
        have hlen : (newsTo taken i).length = n := by omega
        have HE := Lib.hid (show TextsAt wr (.slice xa (newsTo taken i).length xc) (newsTo taken i) ∧ NewN n taken (newsTo taken i) ∧ Below w.heap.size w wr from ⟨vo.texts, ⟨hlen, newsTo_nodup taken i (by omega), fun x hx => ⟨newsTo_free hx, newsTo_size hx⟩⟩, hb⟩)
        clear vo hM hb hF hcnt hi hi1 hi2 hsc hlen
        generalize newsTo taken i = p at *
        go_wp2
        go_ret
        exact ⟨⟨_, rfl, p, HE.out.1, HE.out.2.1⟩, HE.out.2.2⟩
end Go.Proofs.YtjnlchhikdfifaaGreatDoor
/- (Subst).Get. -/
namespace Go.Proofs.YtjnlchhikdfifaaGreatDoor
open Go.RowKit Go.Sort Go.Lib
attribute [local go_sem] Oper.semAt_some

end Go.Proofs.YtjnlchhikdfifaaGreatDoor
/- A region that draws its order and ends with a store: all but its last operation by an invariant, the last one when all else has come up. -/
namespace Go.Proofs.YtjnlchhikdfifaaGreatDoor

section
variable {P : Program} {ops : Array Oper} {Q : Exit → Act → World → Prop} {fr : (Nat → Value) → Act} {S : World → Prop} {Rel : World → World → Prop} {Vals : Nat → Value → World → Prop} {s : Nat}

theorem getD_tt {l : Array Bool} {j : Nat} (h : l.getD j false = true) : l.getD j true = true := by
  by_cases hj : j < l.size
  · simp [hj] at h ⊢; exact h
  · simp [hj]
/-- Where operation s can come up, all ahead of it have. -/
theorem all_ahead {listed : Array Bool} (hcov : ∀ i, i < s → ∃ j o e, i < j ∧ j ≤ s ∧ ops[j]? = some o ∧ e ∈ o.after ∧ Region.binds .any e = true ∧ e.on = i)
    (hcl : ∀ j o, listed.getD j false = true → ops[j]? = some o → ∀ e ∈ o.after, Region.binds .any e = true → listed.getD e.on false = true)
    (hs : ∀ o, ops[s]? = some o → ∀ e ∈ o.after, Region.binds .any e = true → listed.getD e.on false = true) : ∀ n i, i + n = s → 0 < n → listed.getD i false = true := by
  intro n
  induction n using Nat.strongRecOn with
  | ind n ih =>
    intro i hi hn
    obtain ⟨j, o, e, hij, hjs, ho, he, hb, rfl⟩ := hcov i (by omega)
    by_cases hj : j = s
    · subst hj; exact hs o ho e he hb
    · exact hcl j o (ih (s - j) (by omega) j (by omega) (by omega)) ho e he hb

theorem last_any (hsz : ops.size = s + 1) (hput : ∀ i o, i < s → ops[i]? = some o → StepAt P fr S Rel Vals ops Q i o)
    (hbs : ∀ o, ops[s]? = some o → ∀ e ∈ o.after, Region.binds .any e = true → e.on < s)
    (hcov : ∀ i, i < s → ∃ j o e, i < j ∧ j ≤ s ∧ ops[j]? = some o ∧ e ∈ o.after ∧ Region.binds .any e = true ∧ e.on = i)
    (hrel : ∀ w w', S w → Rel w w' → S w') (hval : ∀ i v w w', S w → Vals i v w → Rel w w' → Vals i v w')
    (hlast : ∀ o x w, ops[s]? = some o → S w → (∀ i, i < s → Vals i (x i) w) → ∀ K : Act → World → Prop, (∀ v w', Q .normal ((fr x).put o.dst v) w' → K ((fr x).put o.dst v) w') →
      if Region.wanted o (yielded ops (fr x).tmps) = true then Oper.wp P o (fr x) w K Q else K ((fr x).put o.dst undef) w) :
    ∀ (fuel : Nat) (listed : Array Bool) (x : Nat → Value) (w : World), listed.size = ops.size → ops.size ≤ fuel + listed.toList.count true → S w → listed.getD s false = false →
      (∀ j o, listed.getD j false = true → ops[j]? = some o → ∀ e ∈ o.after, Region.binds .any e = true → listed.getD e.on false = true) →
      (∀ i, listed.getD i false = true → Vals i (x i) w) → wpAny P .any ops Q fuel listed (fr x) w := by
  have hback : ∀ i o, ops[i]? = some o → ∀ e ∈ o.after, Region.binds .any e = true → e.on < i := fun i o ho => by
    have hi : i < s + 1 := by rw [← hsz]; exact (Array.getElem?_eq_some_iff.1 ho).1
    by_cases e : i = s
    · subst e; exact hbs o ho
    · exact (hput i o (by omega) ho).back
  have hend : ∀ (listed : Array Bool), listed.size = ops.size → listed.getD s false = false → Region.ready .any ops listed = [] → False := fun listed hz h0 h => by
    have := all_of_none hback hz h s (by omega)
    rw [h0] at this; cases this
  intro fuel
  induction fuel with
  | zero =>
    intro listed x w hz hc hS h0 hcl hV
    have hall : listed.toList.count true = listed.toList.length := by
      have := List.count_le_length (a := true) (l := listed.toList)
      simp at this hc ⊢; omega
    have hlt : s < listed.size := by omega
    have := List.count_eq_length.1 hall listed[s] (by simp)
    simp [hlt] at h0
    rw [h0] at this; cases this
  | succ fuel ih =>
    intro listed x w hz hc hS h0 hcl hV
    refine ⟨fun h => (hend listed hz h0 h).elim, fun i hi => ?_⟩
    obtain ⟨hi0, o, ho, hdep⟩ := mem_ready.1 hi
    have hlt : i < listed.size := by rw [hz]; exact (Array.getElem?_eq_some_iff.1 ho).1
    have hi0' : listed[i] = false := by simpa [hlt] using hi0
    have hsetD : ∀ j, (listed.setIfInBounds i true).getD j false = true → j = i ∨ listed.getD j false = true := fun j hj => by
      by_cases hji : j = i
      · exact .inl hji
      · rw [getD_set_ne false (Ne.symm hji)] at hj; exact .inr hj
    have hsetI : (listed.setIfInBounds i true).getD i false = true := by simp [hlt]
    have hmono : ∀ j, listed.getD j false = true → (listed.setIfInBounds i true).getD j false = true := fun j hj => by
      by_cases hji : j = i
      · subst hji; exact hsetI
      · rw [getD_set_ne false (Ne.symm hji)]; exact hj
    by_cases his : i = s
    · subst his
      have hK : ∀ v w', Q .normal ((fr x).put o.dst v) w' → wpAny P .any ops Q fuel (listed.setIfInBounds i true) ((fr x).put o.dst v) w' := fun v w' hq => by
        have hnone : Region.ready .any ops (listed.setIfInBounds i true) = [] := by
          cases h : Region.ready .any ops (listed.setIfInBounds i true) with
          | nil => rfl
          | cons j l =>
            have hj : j ∈ Region.ready .any ops (listed.setIfInBounds i true) := by rw [h]; simp
            obtain ⟨hj0, oj, hoj, _⟩ := mem_ready.1 hj
            have hjl : j < i + 1 := by rw [← hsz]; exact (Array.getElem?_eq_some_iff.1 hoj).1
            by_cases e : j = i
            · subst e; rw [getD_tt hsetI] at hj0; cases hj0
            · have := hmono j (all_ahead hcov hcl (fun o' ho' => by rw [ho] at ho'; cases ho'; exact hdep) (i - j) j (by omega) (by omega))
              rw [getD_tt this] at hj0; cases hj0
        cases fuel with
        | zero => exact ⟨hnone, hq⟩
        | succ fuel => exact ⟨fun _ => hq, fun j hj => by rw [hnone] at hj; cases hj⟩
      have := hlast o x w ho hS (fun j hj => hV j (all_ahead hcov hcl (fun o' ho' => by rw [ho] at ho'; cases ho'; exact hdep) (i - j) j (by omega) (by omega))) _ hK
      unfold wpOp
      simp only [ho]
      split
      · rename_i hw; rw [if_pos hw] at this; exact .inl this
      · rename_i hw; rw [if_neg hw] at this; exact this
    · have hil : i < s := by omega
      have H := hput i o hil ho
      have hK : ∀ v w', Rel w w' → Vals i v w' → wpAny P .any ops Q fuel (listed.setIfInBounds i true) ((fr x).put o.dst v) w' := fun v w' hr hv => by
        rw [H.put]
        refine ih _ _ _ (by simpa using hz) ?_ (hrel w w' hS hr) (by rw [getD_set_ne false his]; exact h0) (fun j oj hj hoj e he hb => ?_) fun j hj => ?_
        · have : (listed.setIfInBounds i true).toList.count true = listed.toList.count true + 1 := by
            rw [Array.toList_setIfInBounds, List.count_set (by simpa using hlt)]
            simp [hi0']
          omega
        · rcases hsetD j hj with rfl | hj'
          · rw [ho] at hoj; cases hoj
            exact hmono _ (hdep e he hb)
          · exact hmono _ (hcl j oj hj' hoj e he hb)
        · by_cases hji : j = i
          · subst hji; rw [upd_same]; exact hv
          · rw [upd_other x v hji]
            exact hval _ _ _ _ hS (hV j (by rw [getD_set_ne false (Ne.symm hji)] at hj; exact hj)) hr
      have := H.run x w hS (fun e he hb => hV e.on (hdep e he hb)) _ hK
      unfold wpOp
      simp only [ho]
      split
      · rename_i hw; rw [if_pos hw] at this; exact .inl this
      · rename_i hw; rw [if_neg hw] at this; exact this

/-- Each operation ahead of the last is asked for by a later one. -/
def covered (ops : Array Oper) (s : Nat) : Bool := (List.range s).all fun i => (List.range (s + 1)).any fun j => decide (i < j) && (match ops[j]? with
  | some o => o.after.any fun e => Region.binds .any e && e.on == i
  | none => false)
theorem covered_get (h : covered ops s = true) : ∀ i, i < s → ∃ j o e, i < j ∧ j ≤ s ∧ ops[j]? = some o ∧ e ∈ o.after ∧ Region.binds .any e = true ∧ e.on = i := by
  intro i hi
  unfold covered at h
  rw [List.all_eq_true] at h
  have h1 := h i (List.mem_range.2 hi)
  rw [List.any_eq_true] at h1
  obtain ⟨j, hj, h2⟩ := h1
  rw [Bool.and_eq_true, decide_eq_true_eq] at h2
  cases ho : ops[j]? with
  | none => rw [ho] at h2; exact absurd h2.2 (by simp)
  | some o =>
    rw [ho] at h2
    have h3 := h2.2
    simp only at h3
    rw [Array.any_eq_true'] at h3
    obtain ⟨e, he, h4⟩ := h3
    rw [Bool.and_eq_true, beq_iff_eq] at h4
    exact ⟨j, o, e, h2.1, by have := List.mem_range.1 hj; omega, ho, he, h4.1, h4.2⟩

/-- What is asked of all but the last operation, and of the last. -/
def AllBut (f : Nat → Oper → Prop) (g : Oper → Prop) : Nat → List Oper → Prop
  | _, [] => True
  | _, [o] => g o
  | n, o :: o' :: os => f n o ∧ AllBut f g (n + 1) (o' :: os)
theorem AllBut.get {f : Nat → Oper → Prop} {g : Oper → Prop} : ∀ {l : List Oper} {n : Nat}, AllBut f g n l → ∀ {i : Nat} {o : Oper}, l[i]? = some o → (i + 1 < l.length → f (n + i) o) ∧ (i + 1 = l.length → g o)
  | [], _, _, i, o, h => by simp at h
  | [a], n, hl, 0, o, h => by simp at h; subst h; exact ⟨fun h => by simp at h, fun _ => hl⟩
  | [a], n, hl, i + 1, o, h => by simp at h
  | a :: b :: l, n, hl, 0, o, h => by simp at h; subst h; exact ⟨fun _ => hl.1, fun h => by simp at h⟩
  | a :: b :: l, n, hl, i + 1, o, h => by
    obtain ⟨h1, h2⟩ := AllBut.get hl.2 (i := i) (o := o) (by simpa using h)
    refine ⟨fun hi => ?_, fun hi => h2 (by simpa using hi)⟩
    have := h1 (by simpa using hi)
    rw [show n + (i + 1) = n + 1 + i by omega]; exact this

/-- What is asked of the last operation. -/
structure LastAt (P : Program) (fr : (Nat → Value) → Act) (S : World → Prop) (Vals : Nat → Value → World → Prop) (ops : Array Oper) (Q : Exit → Act → World → Prop) (s : Nat) (o : Oper) : Prop where
  back : ∀ e ∈ o.after, Region.binds .any e = true → e.on < s
  run : ∀ (x : Nat → Value) (w : World), S w → (∀ i, i < s → Vals i (x i) w) → ∀ K : Act → World → Prop, (∀ v w', Q .normal ((fr x).put o.dst v) w' → K ((fr x).put o.dst v) w') →
      if Region.wanted o (yielded ops (fr x).tmps) = true then Oper.wp P o (fr x) w K Q else K ((fr x).put o.dst undef) w

theorem region_last (fr : (Nat → Value) → Act) (S : World → Prop) (Rel : World → World → Prop) (Vals : Nat → Value → World → Prop) (x0 : Nat → Value) (s : Nat) {id : Nat} {a : Act} {w : World}
    (hm : P.follows .mixedOrders = true) (ha : a = fr x0) (hS : S w.drew) (hsz : ops.size = s + 1) (hcov : covered ops s = true)
    (hrel : ∀ w w', S w → Rel w w' → S w') (hval : ∀ i v w w', S w → Vals i v w → Rel w w' → Vals i v w')
    (hops : AllBut (StepAt P fr S Rel Vals ops Q) (LastAt P fr S Vals ops Q s) 0 ops.toList) : (Code.region id ops true).wp P Q a w := by
  subst ha
  refine wp_region_any hm ?_
  have hg := fun (i : Nat) (o : Oper) (h : ops[i]? = some o) => hops.get (i := i) (o := o) (by simpa using h)
  refine last_any hsz (fun i o hi h => ?_) (fun o h => ?_) (covered_get hcov) hrel hval (fun o x w h hS hV K hK => ?_) _ _ _ _ (by simp) (by simp) hS (by simp [hsz]) (fun j o hj => ?_) (fun i hi => ?_)
  · have := (hg i o h).1 (by simp [hsz]; omega); rwa [Nat.zero_add] at this
  · exact ((hg s o h).2 (by simp [hsz])).back
  · exact ((hg s o h).2 (by simp [hsz])).run x w hS hV K hK
  · by_cases h : j < ops.size
    · simp [h] at hj
    · simp [h] at hj
  · by_cases h : i < ops.size
    · simp [h] at hi
    · simp [h] at hi
end
end Go.Proofs.YtjnlchhikdfifaaGreatDoor
/- SubstOthers: its last statement, a region of 42 operations that draws its order, by an invariant. (Made by a program.) -/
namespace Go.Proofs.YtjnlchhikdfifaaGreatDoor
open Go.RowKit Go.Sort Go.Lib
attribute [local go_sem] Oper.semAt_some

def regionIn : Nat → Code → Array Oper
  | n, .region id ops _ => if id == n then ops else #[]
  | n, .seq a b => regionIn n a ++ regionIn n b
  | n, .cond _ a b => regionIn n a ++ regionIn n b
  | n, .block _ b => regionIn n b
  | n, .loop b => regionIn n b
  | n, .rangeFunc _ _ a b => regionIn n a ++ regionIn n b
  | n, .scope b => regionIn n b
  | _, _ => #[]
theorem depOf {o : Oper} {Vals : Nat → Value → World → Prop} {x : Nat → Value} {V : World} (h : ∀ e ∈ o.after, Region.binds .any e = true → Vals e.on (x e.on) V) (j : Nat)
    (hj : (o.after.any fun e => Region.binds .any e && e.on == j) = true) : Vals j (x j) V := by
  rw [Array.any_eq_true'] at hj
  obtain ⟨e, he, hj⟩ := hj
  simp only [Bool.and_eq_true, beq_iff_eq] at hj
  have := h e he hj.1
  rw [hj.2] at this; exact this
theorem kfit {K : Act → World → Prop} {a a' : Act} {w : World} (h : K a w) (e : a = a') : K a' w := e ▸ h
theorem run_bare {P : Program} {o : Oper} {ops : Array Oper} {a : Act} {w : World} {K : Act → World → Prop} {Q : Exit → Act → World → Prop} {C : Prop} (hg : o.guard = none) (h : Oper.wp P o a w K Q) :
    if Region.wanted o (yielded ops a.tmps) = true then Oper.wp P o a w K Q else C := by
  rw [if_pos (by simp [Region.wanted, hg])]; exact h
theorem run_guard {P : Program} {o : Oper} {ops : Array Oper} {a : Act} {w : World} {K : Act → World → Prop} {Q : Exit → Act → World → Prop} {C : Prop} (g k : Nat) (v : Value) (hg : o.guard = some (g, true))
    (hk : (ops[g]?).bind (·.dst) = some k) (hv : a.tmps[k]? = some v) (e : v = .bool true) (h : Oper.wp P o a w K Q) :
    if Region.wanted o (yielded ops a.tmps) = true then Oper.wp P o a w K Q else C := by
  rw [if_pos (by simp [Region.wanted, hg, yielded, hk, hv, e])]; exact h
theorem below_a (X : World) (o : Obj) : Below X.heap.size X (X.alloc o) := (Below.refl _ X).alloc (Nat.le_refl _) o
theorem below_d (X : World) : Below X.heap.size X X.drew := (Below.refl _ X).drew

def othFr (b : Nat → Value) (d : List Deferred) (x : Nat → Value) : Act := { tmps := #[b 0, b 1, x 41, b 3, b 4, b 5, b 6, b 7, b 8, b 9, b 10, b 11, b 12, b 13, b 14, b 15, b 16, b 17, b 18, b 19, b 20, b 21, b 22, b 23, b 24, b 25, b 26, b 27, b 28, b 29, b 30, b 31, b 32, b 33, b 34, b 35, b 36, b 37, b 38, b 39, b 40, b 41, x 0, x 1, x 2, x 3, x 4, x 5, x 6, x 7, x 8, x 9, x 10, x 11, x 12, x 13, x 14, x 15, x 16, x 17, x 18, x 19, x 20, x 21, x 22, x 23, x 24, x 25, x 26, x 27, x 28, x 29, x 30, x 31, x 32, x 33, x 34, x 35, x 36, x 37, x 38, x 39, x 40], defers := d }

def othVals (t sw r1 : T) (pa pw : Option Addr) (ca cw : Nat) (sv uv frv tov : Value) (ts : Nat) (i : Nat) (v : Value) (V : World) : Prop :=
  match i with
  | 0 => v = .bool true
  | 1 => v = .bool true
  | 2 => v = .agg #[sv]
  | 3 => v = .agg #[.int .i64 (sw).kind, .string (sw).name, .slice pw (sw).kids.length cw]
  | 4 => ∃ za zc, v = .agg #[.int .i64 (t).kind, .string (t).name, .slice za (t).kids.length zc] ∧ TysAt V (.slice za (t).kids.length zc) (t).kids
  | 5 => v = .agg #[.int .i64 (t).kind, .string (t).name, .slice pa (t).kids.length ca]
  | 6 => v = .bool true
  | 7 => v = .bool true
  | 8 => v = .bool true
  | 9 => v = .agg #[uv]
  | 10 => v = .agg #[.int .i64 (t).kind, .string (t).name, .slice pa (t).kids.length ca]
  | 11 => ∃ za zc, v = .agg #[.int .i64 (t).kind, .string (t).name, .slice za (t).kids.length zc] ∧ TysAt V (.slice za (t).kids.length zc) (t).kids
  | 12 => v = .agg #[.int .i64 (t).kind, .string (t).name, .slice pa (t).kids.length ca]
  | 13 => v = .bool true
  | 14 => v = .bool true
  | 15 => v = .bool true
  | 16 => v = .agg #[.int .i64 (t).kind, .string (t).name, .slice pa (t).kids.length ca]
  | 17 => v = frv
  | 18 => v = tov
  | 19 => ∃ za zc, v = .agg #[.int .i64 (r1).kind, .string (r1).name, .slice za (r1).kids.length zc] ∧ TysAt V (.slice za (r1).kids.length zc) (r1).kids
  | 20 => v = tov
  | 21 => v = frv
  | 22 => ∃ za zc, v = .agg #[.int .i64 (t).kind, .string (t).name, .slice za (t).kids.length zc] ∧ TysAt V (.slice za (t).kids.length zc) (t).kids
  | 23 => v = .agg #[.int .i64 (t).kind, .string (t).name, .slice pa (t).kids.length ca]
  | 24 => v = .bool true
  | 25 => v = .bool true
  | 26 => v = .bool true
  | 27 => v = .agg #[.int .i64 (t).kind, .string (t).name, .slice pa (t).kids.length ca]
  | 28 => ∃ zk, v = .slice (some ⟨zk, 0, none⟩) 2 2 ∧ StrsP (.slice (some ⟨zk, 0, none⟩) 2 2) [⟨#[97]⟩, ⟨#[98]⟩] V
  | 29 => ∃ zk, v = .slice (some ⟨zk, 0, none⟩) 2 2 ∧ StrsP (.slice (some ⟨zk, 0, none⟩) 2 2) [⟨#[98]⟩, ⟨#[97]⟩] V
  | 30 => ∃ za zc, v = .agg #[.int .i64 (sw).kind, .string (sw).name, .slice za (sw).kids.length zc] ∧ TysAt V (.slice za (sw).kids.length zc) (sw).kids
  | 31 => v = .agg #[.int .i64 (sw).kind, .string (sw).name, .slice pw (sw).kids.length cw]
  | 32 => v = .bool true
  | 33 => v = .bool true
  | 34 => v = .bool true
  | 35 => v = .agg #[.int .i64 (sw).kind, .string (sw).name, .slice pw (sw).kids.length cw]
  | 36 => v = .int .i64 (ts : Nat)
  | 37 => v = .agg #[.int .i64 (t).kind, .string (t).name, .slice pa (t).kids.length ca]
  | 38 => v = .int .i64 (ts : Nat)
  | 39 => v = .bool true
  | 40 => v = .bool true
  | 41 => v = .bool true
  | _ => True

theorem othVals_keep {t sw r1 : T} {pa pw : Option Addr} {ca cw : Nat} {sv uv frv tov : Value} {ts : Nat} (i : Nat) (v : Value) (V Y : World) (h : othVals t sw r1 pa pw ca cw sv uv frv tov ts i v V) (hb : Below V.heap.size V Y) : othVals t sw r1 pa pw ca cw sv uv frv tov ts i v Y := by
  unfold othVals at *
  split at h <;> first
    | exact h
    | (obtain ⟨za, zc, e, h⟩ := h; exact ⟨za, zc, e, h.keep (KeepT.of_below hb)⟩)
    | (obtain ⟨zk, e, h⟩ := h; exact ⟨zk, e, h.below hb⟩)

end Go.Proofs.YtjnlchhikdfifaaGreatDoor
/- Schemes in memory: their five cells. -/
namespace Go.Proofs.YtjnlchhikdfifaaGreatDoor
open Go.RowKit Go.Sort Go.Lib
attribute [local go_sem] Oper.semAt_some

def set5 (W : World) (r : Nat) (x y z u v : Value) : World := ((((W.setCell ⟨r, 0, none⟩ x).setCell ⟨r, 1, none⟩ y).setCell ⟨r, 2, none⟩ z).setCell ⟨r, 3, none⟩ u).setCell ⟨r, 4, none⟩ v
theorem cells5 {w : World} {p : Nat} {x y z u v : Value} {T : TypeId} {fz : Nat × Nat} (h : w.heap[p]? = some (.cells #[x, y, z, u, v] T fz)) : w.cell? ⟨p, 0, none⟩ = some x ∧ w.cell? ⟨p, 1, none⟩ = some y ∧ w.cell? ⟨p, 2, none⟩ = some z ∧ w.cell? ⟨p, 3, none⟩ = some u ∧ w.cell? ⟨p, 4, none⟩ = some v := by
  refine ⟨?_, ?_, ?_, ?_, ?_⟩ <;> (rw [Lib.cell_of_heap h]; rfl)
theorem set5_block {W : World} {r : Nat} {x0 y0 z0 u0 v0 : Value} {T : TypeId} (h : W.heap[r]? = some (.cells #[x0, y0, z0, u0, v0] T (0, 0))) (x y z u v : Value) : (set5 W r x y z u v).heap[r]? = some (.cells #[x, y, z, u, v] T (0, 0)) :=
  blk_set (o := 4) (blk_set (o := 3) (blk_set (o := 2) (blk_set (o := 1) (blk_set (o := 0) h x) y) z) u) v
theorem set5_other (W : World) (r : Nat) (x y z u v : Value) {k : Nat} (hk : k ≠ r) : (set5 W r x y z u v).heap[k]? = W.heap[k]? :=
  (Below.heap_setCell _ ⟨r, 4, none⟩ _ k hk).trans ((Below.heap_setCell _ ⟨r, 3, none⟩ _ k hk).trans ((Below.heap_setCell _ ⟨r, 2, none⟩ _ k hk).trans ((Below.heap_setCell _ ⟨r, 1, none⟩ _ k hk).trans (Below.heap_setCell _ ⟨r, 0, none⟩ _ k hk))))
theorem below_set5 {B : Nat} {w W : World} (h : Below B w W) {r : Nat} (hB : B ≤ r) (x y z u v : Value) : Below B w (set5 W r x y z u v) :=
  ((((h.setCell (p := ⟨r, 0, none⟩) hB x).setCell (p := ⟨r, 1, none⟩) hB y).setCell (p := ⟨r, 2, none⟩) hB z).setCell (p := ⟨r, 3, none⟩) hB u).setCell (p := ⟨r, 4, none⟩) hB v
theorem TextsAt.strs {w : World} {v : Value} {l : List ByteArray} (h : TextsAt w v l) : StrsP v l w := by
  obtain ⟨a, cap, rfl, h⟩ := h
  rcases h with rfl | ⟨g, rfl, hc, cs, fz, hg, hr⟩
  · exact .inl ⟨rfl, a, cap, rfl⟩
  · refine .inr ⟨g, 0, cap, rfl, (Array.getElem?_eq_some_iff.1 hg).1, fun i hi => ?_⟩
    rw [Nat.zero_add, Lib.cell_of_heap hg, show (cs[(⟨g, i, none⟩ : Addr).off]? : Option Value) = cs[i]? from rfl, hr i hi]
    simp [List.getD, hi]
/-- Block b holds a scheme: its variables, its context, its type. -/
def SchB (b : Nat) (xv cv : Value) (t : T) (ta : Option Addr) (tc : Nat) (V : World) : Prop := V.heap[b]? = some (.cells #[xv, cv, .int .i64 t.kind, .string t.name, .slice ta t.kids.length tc] 33 (0, 0)) ∧ TysAt V (.slice ta t.kids.length tc) t.kids
theorem SchB.below {b : Nat} {xv cv : Value} {t : T} {ta : Option Addr} {tc : Nat} {V Y : World} (h : SchB b xv cv t ta tc V) (hb : Below V.heap.size V Y) : SchB b xv cv t ta tc Y := ⟨(hb.block b (Array.getElem?_eq_some_iff.1 h.1).1).trans h.1, h.2.keep (KeepT.of_below hb)⟩
theorem SchB.lt {b : Nat} {xv cv : Value} {t : T} {ta : Option Addr} {tc : Nat} {V : World} (h : SchB b xv cv t ta tc V) : b < V.heap.size := (Array.getElem?_eq_some_iff.1 h.1).1
theorem SchB.new {xv cv : Value} {t : T} {ta : Option Addr} {tc : Nat} {V : World} (h : TysAt V (.slice ta t.kids.length tc) t.kids) : SchB V.heap.size xv cv t ta tc (V.alloc (.cells #[xv, cv, .int .i64 t.kind, .string t.name, .slice ta t.kids.length tc] 33)) := ⟨alloc_new V _, h.keep (keepT_alloc V _)⟩
/-- A block that is to hold a scheme. -/
def Sch0 (b : Nat) (V : World) : Prop := V.heap[b]? = some (.cells #[.slice none 0 0, .slice none 0 0, .int .i64 0, .string ⟨#[]⟩, .slice none 0 0] 33 (0, 0))
theorem Sch0.below {b : Nat} {V Y : World} (h : Sch0 b V) (hb : Below V.heap.size V Y) : Sch0 b Y := (hb.block b (Array.getElem?_eq_some_iff.1 h).1).trans h
/-- What rename's last statement keeps. -/
def SR (w : World) (b3 b6 b10 : Nat) (xv cv : Value) (t : T) (ta : Option Addr) (tc : Nat) (sa : Option Addr) (sc : Nat) (l : List PR) (V : World) : Prop :=
  SchB b3 xv cv t ta tc V ∧ Sch0 b6 V ∧ BoxS b10 (.slice sa l.length sc) l V ∧ Below w.heap.size w V
theorem SR.below {w : World} {b3 b6 b10 : Nat} {xv cv : Value} {t : T} {ta : Option Addr} {tc : Nat} {sa : Option Addr} {sc : Nat} {l : List PR} {V Y : World} (h : SR w b3 b6 b10 xv cv t ta tc sa sc l V) (hb : Below V.heap.size V Y) : SR w b3 b6 b10 xv cv t ta tc sa sc l Y :=
  ⟨h.1.below hb, h.2.1.below hb, h.2.2.1.below hb, h.2.2.2.trans (hb.mono h.2.2.2.size)⟩
/-- What Close's last statement keeps. -/
def SC (w : World) (b4 b6 b9 : Nat) (t : T) (ta : Option Addr) (tc : Nat) (V : World) : Prop := BoxT b4 t ta tc V ∧ Sch0 b6 V ∧ BoxS b9 (.slice none 0 0) [] V ∧ Below w.heap.size w V
theorem SC.below {w : World} {b4 b6 b9 : Nat} {t : T} {ta : Option Addr} {tc : Nat} {V Y : World} (h : SC w b4 b6 b9 t ta tc V) (hb : Below V.heap.size V Y) : SC w b4 b6 b9 t ta tc Y :=
  ⟨h.1.below hb, h.2.1.below hb, h.2.2.1.below hb, h.2.2.2.trans (hb.mono h.2.2.2.size)⟩
/-- A scheme without a context, and its variables. -/
def SF (w : World) (b1 : Nat) (xa : Option Addr) (xc : Nat) (xs : List ByteArray) (ca : Option Addr) (cc : Nat) (t : T) (ta : Option Addr) (tc : Nat) (V : World) : Prop :=
  SchB b1 (.slice xa xs.length xc) (.slice ca 0 cc) t ta tc V ∧ TextsAt V (.slice xa xs.length xc) xs ∧ Below w.heap.size w V
theorem SF.below {w : World} {b1 : Nat} {xa : Option Addr} {xc : Nat} {xs : List ByteArray} {ca : Option Addr} {cc : Nat} {t : T} {ta : Option Addr} {tc : Nat} {V Y : World} (h : SF w b1 xa xc xs ca cc t ta tc V) (hb : Below V.heap.size V Y) : SF w b1 xa xc xs ca cc t ta tc Y :=
  ⟨h.1.below hb, h.2.1.below hb, h.2.2.trans (hb.mono h.2.2.size)⟩
/-- A scheme, the variables that are named anew, and those that are free. -/
def SN (w : World) (b1 b2 : Nat) (xa : Option Addr) (xn xc : Nat) (ca : Option Addr) (cc : Nat) (t : T) (ta : Option Addr) (tc : Nat) (ba : Option Addr) (bc : Nat) (oa : Option Addr) (oc : Nat) (bs os : List ByteArray) (V : World) : Prop :=
  SchB b1 (.slice xa xn xc) (.slice ca 0 cc) t ta tc V ∧ Sch0 b2 V ∧ (TextsAt V (.slice ba bs.length bc) bs ∧ TextsAt V (.slice oa os.length oc) os) ∧ Below w.heap.size w V
theorem SN.below {w : World} {b1 b2 : Nat} {xa : Option Addr} {xn xc : Nat} {ca : Option Addr} {cc : Nat} {t : T} {ta : Option Addr} {tc : Nat} {ba : Option Addr} {bc : Nat} {oa : Option Addr} {oc : Nat} {bs os : List ByteArray} {V Y : World} (h : SN w b1 b2 xa xn xc ca cc t ta tc ba bc oa oc bs os V) (hb : Below V.heap.size V Y) : SN w b1 b2 xa xn xc ca cc t ta tc ba bc oa oc bs os Y :=
  ⟨h.1.below hb, h.2.1.below hb, ⟨h.2.2.1.1.below hb, h.2.2.1.2.below hb⟩, h.2.2.2.trans (hb.mono h.2.2.2.size)⟩
end Go.Proofs.YtjnlchhikdfifaaGreatDoor
/- The document's get: the first of a name. -/
namespace Go.Proofs.YtjnlchhikdfifaaGreatDoor
open Go.RowKit Go.Sort Go.Lib
attribute [local go_sem] Oper.semAt_some

theorem RowG.lt {T : TypeId} {g : Nat} {l : List PR} {w : World} (h : RowG T g l w) : g < w.heap.size := by
  obtain ⟨cs, h1, _⟩ := h; exact (Array.getElem?_eq_some_iff.1 h1).1
theorem RowG.same {T : TypeId} {g : Nat} {l : List PR} {w w' : World} (h : RowG T g l w) (k : w'.heap[g]? = w.heap[g]?) : RowG T g l w' := by
  obtain ⟨cs, h1, h2⟩ := h; exact ⟨cs, k.trans h1, h2⟩
theorem RowG.below {T : TypeId} {g : Nat} {l : List PR} {w w' : World} (h : RowG T g l w) (k : Below w.heap.size w w') : RowG T g l w' := h.same (k.block g h.lt)
theorem RowG.cells {T : TypeId} {g : Nat} {l : List PR} {w : World} (h : RowG T g l w) {i : Nat} (hi : i < l.length) :
    w.cell? ⟨g, i * 4, none⟩ = some (.string (l.getD i noP).n) ∧ w.cell? ⟨g, i * 4 + 1, none⟩ = some (.int .i64 (l.getD i noP).t.kind) ∧ w.cell? ⟨g, i * 4 + 2, none⟩ = some (.string (l.getD i noP).t.name) ∧ w.cell? ⟨g, i * 4 + 3, none⟩ = some (.slice (l.getD i noP).a (l.getD i noP).t.kids.length (l.getD i noP).c) := by
  obtain ⟨cs, h1, _, h3⟩ := h
  rw [Lib.cell_of_heap h1, Lib.cell_of_heap h1, Lib.cell_of_heap h1, Lib.cell_of_heap h1]
  exact h3 i hi
theorem GivenG.shape {T : TypeId} {v : Value} {d : List PR} {w : World} (h : GivenG T v d w) : ∃ a c, v = .slice a d.length c ∧ ∀ i, i < d.length → ∃ g, a = some ⟨g, 0, none⟩ ∧ RowG T g d w := by
  rcases h with ⟨rfl, rfl⟩ | ⟨_, g, cap, rfl, hr⟩
  · exact ⟨none, 0, rfl, fun i hi => absurd hi (Nat.not_lt_zero _)⟩
  · exact ⟨_, cap, rfl, fun i _ => ⟨g, rfl, hr⟩⟩
theorem GivenG.below {T : TypeId} {v : Value} {d : List PR} {w w' : World} (h : GivenG T v d w) (hb : Below w.heap.size w w') : GivenG T v d w' := by
  rcases h with h | ⟨h0, g, cap, e, hr⟩
  · exact .inl h
  · exact .inr ⟨h0, g, cap, e, hr.below hb⟩
theorem lk_ahead (n : ByteArray) : ∀ (l : List PR) (i : Nat), i < l.length → (∀ j, j < i → (l.getD j noP).n ≠ n) → (l.getD i noP).n = n → lk n l = some (l.getD i noP)
  | [], i, hi, _, _ => absurd hi (Nat.not_lt_zero _)
  | x :: l, 0, _, _, h => by rw [lk_cons]; exact if_pos h
  | x :: l, i + 1, hi, ha, h => by
    rw [lk_cons, if_neg (show ¬ x.n = n from ha 0 (Nat.succ_pos _))]
    exact lk_ahead n l i (by simpa using hi) (fun j hj => ha (j + 1) (by omega)) h
theorem lk_none (n : ByteArray) : ∀ (l : List PR), (∀ j, j < l.length → (l.getD j noP).n ≠ n) → lk n l = none
  | [], _ => rfl
  | x :: l, ha => by
    rw [lk_cons, if_neg (show ¬ x.n = n from ha 0 (Nat.succ_pos _))]
    exact lk_none n l (fun j hj => ha (j + 1) (by simpa using hj))

theorem next_none {d : List PR} {n : ByteArray} {i : Nat} (hA : ∀ j, j < i → (d.getD j noP).n ≠ n) (h : (d.getD i noP).n ≠ n) : ∀ j, j < i + 1 → (d.getD j noP).n ≠ n := by
  intro j hj
  by_cases e : j = i
  · rw [e]; exact h
  · exact hA j (by omega)
set_option maxRecDepth 100000 in
set_option maxHeartbeats 2000000 in
theorem rget_any (v : Value) (d : List PR) (n : ByteArray) (w : World) (h : GivenG 53 v d w) (hl : d.length < 1152921504606846976) :
    Calls Tryz.prog 55 #[v, .string n] w fun e w' => e = .returned (.tuple #[fv' (lk n d), .bool (lk n d).isSome]) ∧ Below w.heap.size w w' := by
  obtain ⟨a, c, rfl, hr⟩ := h.shape
  have HR := Lib.hid hr
  have HB0 := Lib.hid (fun o => (Below.refl _ w).alloc (Nat.le_refl _) o)
  clear h hr
  obtain ⟨res, hres⟩ : ∃ r, lk n d = r := ⟨_, rfl⟩
  have HRes := Lib.hid hres
  rw [hres]
  clear hres
  go_enter Tryz.func55, Tryz.ntmps55
  go_wp2
  go_loopw [6] (fun vi wr => ∃ i : Nat, i ≤ d.length ∧ vi = .int .i64 i ∧ Hid (∀ j, j < i → (d.getD j noP).n ≠ n) ∧ Hid (Below w.heap.size w wr) ∧ Hid (wr.heap[w.heap.size]? = some (.cells #[.int .i64 0, .string ⟨#[]⟩, .slice none 0 0] 31 (0, 0)))) (fun vi _ => d.length - (intOf vi).toNat)
  case atStart => exact ⟨0, Nat.zero_le _, rfl, Lib.hid (fun j hj => absurd hj (Nat.not_lt_zero _)), Lib.hid (HB0.out _), Lib.hid (alloc_new w _)⟩
  case round =>
    obtain ⟨i, hi, rfl, hA, hB, hZ⟩ := hrel
    obtain ⟨z0, z1, z2⟩ := three_cells hZ.out
    have u0 := Lib.frozen_of_heap hZ.out 0
    have u1 := Lib.frozen_of_heap hZ.out 1
    have u2 := Lib.frozen_of_heap hZ.out 2
    have lz := (Array.getElem?_eq_some_iff.1 hZ.out).1
    by_cases hlt : i < d.length
    · obtain ⟨g, rfl, hr⟩ := HR.out i hlt
      obtain ⟨x0, x1, x2, x3⟩ := (hr.below hB.out).cells hlt
      have hiz : (i : Int) < (d.length : Int) := by omega
      have HN := Lib.hid (fun h => lk_ahead n d i hlt hA.out h)
      have HE := Lib.hid (next_none (d := d) (n := n) hA.out)
      clear hr HR
      generalize d.getD i noP = x at x0 x1 x2 x3 HN HE
      by_cases hq : x.n = n
      · have hqB : (x.n.toList == n.toList) = true := by rw [bytes_beq]; exact eqB_true hq
        have hs : res = some x := by rw [← HRes.out]; exact HN.out hq
        subst hs
        clear HRes HN HE hq
        go_wp2
        have hs3 := set3_block hZ.out (.int .i64 x.t.kind) (.string x.t.name) (.slice x.a x.t.kids.length x.c)
        have hc := three_cells hs3
        refine bodyPost_ret (v := .tuple #[.agg #[.int .i64 x.t.kind, .string x.t.name, .slice x.a x.t.kids.length x.c], .bool true]) (by simp [results, Tryz.results55, go_sem, hc.1, hc.2.1, hc.2.2]) rfl ⟨rfl, below_set3 hB.out (Nat.le_refl _) _ _ _⟩
      · have hqB : (x.n.toList == n.toList) = false := by rw [bytes_beq]; exact eqB_false hq
        have HQ := Lib.hid hq
        clear hq HN
        go_wp2
        go_roundw
        case rel => exact ⟨i + 1, by omega, by go_num, Lib.hid (HE.out HQ.out), hB, hZ⟩
        case measure => simp [intOf]; omega
    · obtain rfl : i = d.length := by omega
      have hs : res = none := by rw [← HRes.out]; exact lk_none n d hA.out
      subst hs
      clear HRes HR
      go_wp2
      have hs3 := set3_block hZ.out (.int .i64 0) (.string ⟨#[]⟩) (.slice none 0 0)
      have hc := three_cells hs3
      refine bodyPost_ret (v := .tuple #[.agg #[.int .i64 0, .string ⟨#[]⟩, .slice none 0 0], .bool false]) (by simp [results, Tryz.results55, go_sem, hc.1, hc.2.1, hc.2.2]) rfl ⟨rfl, below_set3 hB.out (Nat.le_refl _) _ _ _⟩
end Go.Proofs.YtjnlchhikdfifaaGreatDoor
/- Predicates are compared: by class, then by type. -/
namespace Go.Proofs.YtjnlchhikdfifaaGreatDoor
open Go.RowKit Go.Sort Go.Lib
attribute [local go_sem] Oper.semAt_some

def cmpR (x y : PR) : Int := orI (cmpL x.n.data.toList y.n.data.toList) (cmpT x.t y.t)
theorem cmpR_neg (x y : PR) : cmpR y x = - cmpR x y := by
  unfold cmpR; rw [cmpL_neg, cmp_neg, orI_neg]
theorem cmpR_unit (x y : PR) : Unit1 (cmpR x y) := orI_unit (cmpL_unit _ _) (cmp_unit _ _)
theorem cmpR_zero (x y : PR) : cmpR x y = 0 ↔ x.n = y.n ∧ x.t = y.t := by
  unfold cmpR
  rw [orI_zero, cmpL_zero, cmp_zero]
  constructor
  · rintro ⟨h1, h2⟩
    refine ⟨?_, h2⟩
    cases hx : x.n with | mk a => cases hy : y.n with | mk b =>
      rw [hx, hy] at h1
      congr 1
      exact Array.toList_inj.1 h1
  · rintro ⟨h1, h2⟩; rw [h1, h2]; exact ⟨rfl, rfl⟩
theorem cmpR_tri (x y z : PR) : Tri (cmpR x y) (cmpR y z) (cmpR x z) := orI_tri (cmpL_tri _ _ _) (cmp_tri _ _ _)
theorem cmpR_le {x y z : PR} (h1 : cmpR x y ≤ 0) (h2 : cmpR y z ≤ 0) : cmpR x z ≤ 0 := by
  have := cmpR_tri x y z
  unfold Tri at this
  obtain ⟨a1, a2, a3, a4⟩ := this
  have u1 := cmpR_unit x y; have u2 := cmpR_unit y z; have u3 := cmpR_unit x z
  unfold Unit1 at u1 u2 u3
  omega
set_option maxRecDepth 100000 in
set_option maxHeartbeats 1000000 in
theorem cmpQ_any (x y : PR) (w : World) (hf : Fits x.t) (hx : TysAt w (.slice x.a x.t.kids.length x.c) x.t.kids) (hy : TysAt w (.slice y.a y.t.kids.length y.c) y.t.kids) :
    Calls Tryz.prog 44 #[pairV x, pairV y] w fun e w' => e = .returned (.int .i64 (cmpR x y)) ∧ Below w.heap.size w w' := by
  have HC := Lib.hid (fun W => cmpStr_any x.n y.n W)
  have HT := Lib.hid (fun (W : World) (k : Below w.heap.size w W) => compare_any (w := W) hf (hx.keep (KeepT.of_below k)) (hy.keep (KeepT.of_below k)))
  have HB := Lib.hid (show ∀ o1 o2 : Obj, Below w.heap.size w ((w.alloc o1).alloc o2) from fun o1 o2 => ((Below.refl _ w).alloc (Nat.le_refl _) _).alloc (by simp) _)
  obtain ⟨p, hp⟩ : ∃ p, cmpL x.n.data.toList y.n.data.toList = p := ⟨_, rfl⟩
  have hr : cmpR x y = orI p (cmpT x.t y.t) := by unfold cmpR; rw [hp]
  rw [hp] at HC
  rw [hr]
  clear hr hp hf hx hy
  generalize cmpT x.t y.t = q at *
  simp only [pairV, tyV] at *
  go_enter Tryz.func44, Tryz.ntmps44
  by_cases h0 : p = 0
  · have e : orI p q = q := by rw [orI, if_pos h0]
    rw [e]
    subst h0
    clear e
    go_wp2_with (first
      | (go_at_call 69; refine (HC.out _).mono ?_; rintro e w2 ⟨rfl, rfl⟩)
      | (go_at_call 70; refine (HT.out _ (HB.out _ _)).mono ?_; rintro e w3 ⟨rfl, hb3⟩; have HB3 := Lib.hid ((HB.out _ _).trans (hb3.mono (HB.out _ _).size)); clear hb3))
    go_ret
    exact ⟨rfl, HB3.out⟩
  · have e : orI p q = p := by rw [orI, if_neg h0]
    rw [e]
    clear e
    go_wp2_with (first
      | (go_at_call 69; refine (HC.out _).mono ?_; rintro e w2 ⟨rfl, rfl⟩))
    go_ret
    exact ⟨rfl, HB.out _ _⟩
set_option maxRecDepth 100000 in
set_option maxHeartbeats 1000000 in
theorem sameQ_any (x y : PR) (w : World) (hf : Fits x.t) (hx : TysAt w (.slice x.a x.t.kids.length x.c) x.t.kids) (hy : TysAt w (.slice y.a y.t.kids.length y.c) y.t.kids) :
    Calls Tryz.prog 46 #[pairV x, pairV y] w fun e w' => e = .returned (.bool (cmpR x y == 0)) ∧ Below w.heap.size w w' := by
  have HT := Lib.hid (fun (W : World) (k : Below w.heap.size w W) => cmpQ_any x y W hf (hx.keep (KeepT.of_below k)) (hy.keep (KeepT.of_below k)))
  have HB := Lib.hid (show ∀ o1 o2 : Obj, Below w.heap.size w ((w.alloc o1).alloc o2) from fun o1 o2 => ((Below.refl _ w).alloc (Nat.le_refl _) _).alloc (by simp) _)
  clear hf hx hy
  generalize cmpR x y = q at *
  simp only [pairV] at *
  go_enter Tryz.func46, Tryz.ntmps46
  go_wp2_with (first
    | (go_at_call 44; refine (HT.out _ (by first | exact HB.out _ _ | exact Below.refl _ _)).mono ?_; rintro e w3 ⟨rfl, hb3⟩; have HB3 := Lib.hid hb3; clear hb3))
  go_ret
  exact ⟨by first | rfl | simp, by first | exact HB3.out | exact (HB.out _ _).trans (HB3.out.mono (HB.out _ _).size)⟩
end Go.Proofs.YtjnlchhikdfifaaGreatDoor
/- Predicates in memory; whether two, two rows of them are the same. -/
namespace Go.Proofs.YtjnlchhikdfifaaGreatDoor
open Go.RowKit
attribute [local go_sem] Oper.semAt_some

abbrev Pr := ByteArray × T
def prV (p : Pr) (v : Value) : Value := .agg #[.string p.1, .int .i64 p.2.kind, .string p.2.name, v]
/-- v is a slice of the predicates l. -/
def PrsAt (w : World) (v : Value) (l : List Pr) : Prop :=
  (l = [] ∧ ∃ a c, v = .slice a 0 c) ∨ ∃ g cap cs fz, ∃ u : Nat → Value, v = .slice (some ⟨g, 0, none⟩) l.length cap ∧ w.heap[g]? = some (.cells cs 55 fz) ∧ l.length ≤ cap ∧
    ∀ i (h : i < l.length), (cs[i * 4]? = some (.string l[i].1) ∧ cs[i * 4 + 1]? = some (.int .i64 l[i].2.kind) ∧ cs[i * 4 + 2]? = some (.string l[i].2.name) ∧ cs[i * 4 + 3]? = some (u i)) ∧ TysAt w (u i) l[i].2.kids
def KeepP (w w' : World) : Prop := ∀ (k : Nat) (cs : Array Value) (fz : Nat × Nat), w.heap[k]? = some (.cells cs 55 fz) → w'.heap[k]? = some (.cells cs 55 fz)
theorem KeepP.trans {a b c : World} (h : KeepP a b) (k : KeepP b c) : KeepP a c := fun i cs fz hi => k i cs fz (h i cs fz hi)
theorem KeepP.of_below {w w' : World} (h : Below w.heap.size w w') : KeepP w w' := fun k _ _ hk => (h.block k (Array.getElem?_eq_some_iff.1 hk).1).trans hk
theorem keepP_alloc (w : World) (o : Obj) : KeepP w (w.alloc o) := .of_below ((Below.refl _ w).alloc (Nat.le_refl _) o)
theorem PrsAt.keep {w w' : World} (hk : KeepT w w') (hp : KeepP w w') {v : Value} {l : List Pr} (h : PrsAt w v l) : PrsAt w' v l := by
  rcases h with h | ⟨g, cap, cs, fz, u, rfl, h1, h2, h3⟩
  · exact .inl h
  · exact .inr ⟨g, cap, cs, fz, u, rfl, hp _ _ _ h1, h2, fun i hi => ⟨(h3 i hi).1, (h3 i hi).2.keep hk⟩⟩
theorem PrsAt.shape {w : World} {v : Value} {l : List Pr} (h : PrsAt w v l) : ∃ a c, v = .slice a l.length c := by
  rcases h with ⟨rfl, a, c, rfl⟩ | ⟨g, cap, cs, fz, u, rfl, _⟩
  · exact ⟨a, c, rfl⟩
  · exact ⟨_, _, rfl⟩
theorem PrsAt.row {w : World} {v : Value} {l : List Pr} (h : PrsAt w v l) (h0 : l ≠ []) : ∃ g cap, v = .slice (some ⟨g, 0, none⟩) l.length cap ∧ g < w.heap.size ∧ l.length ≤ cap ∧
    ∀ i (h : i < l.length), ∃ a c, w.cell? ⟨g, i * 4, none⟩ = some (.string l[i].1) ∧ w.cell? ⟨g, i * 4 + 1, none⟩ = some (.int .i64 l[i].2.kind) ∧ w.cell? ⟨g, i * 4 + 2, none⟩ = some (.string l[i].2.name) ∧ w.cell? ⟨g, i * 4 + 3, none⟩ = some (.slice a l[i].2.kids.length c) ∧
      TysAt w (.slice a l[i].2.kids.length c) l[i].2.kids := by
  rcases h with ⟨h, _⟩ | ⟨g, cap, cs, fz, u, rfl, h1, h2, h3⟩
  · exact absurd h h0
  · refine ⟨g, cap, rfl, (Array.getElem?_eq_some_iff.1 h1).1, h2, fun i hi => ?_⟩
    obtain ⟨⟨c0, c1, c2, c3⟩, ht⟩ := h3 i hi
    obtain ⟨a, c, e⟩ := ht.shape
    rw [e] at c3 ht
    refine ⟨a, c, ?_, ?_, ?_, ?_, ht⟩
    · simp only [World.cell?, h1]; simpa using c0
    · simp only [World.cell?, h1]; simpa using c1
    · simp only [World.cell?, h1]; simpa using c2
    · simp only [World.cell?, h1]; simpa using c3

set_option maxRecDepth 100000 in
set_option maxHeartbeats 1000000 in
theorem samePred_any (q q' : Pr) (hf : Fits q.2) (a b : Option Addr) (c d : Nat) (w : World) (h : TysAt w (.slice a q.2.kids.length c) q.2.kids) (h' : TysAt w (.slice b q'.2.kids.length d) q'.2.kids) :
    Calls Tryz.prog 42 #[prV q (.slice a q.2.kids.length c), prV q' (.slice b q'.2.kids.length d)] w fun e w' => e = .returned (.bool (eqB q q')) ∧ Below w.heap.size w w' := by
  have HC := Lib.hid (fun (W : World) (k : KeepT w W) => sameType_any hf (h.keep k) (h'.keep k))
  have HZ := Lib.hid (fun o1 o2 : Obj => (keepT_alloc w o1).trans (keepT_alloc (w.alloc o1) o2))
  have HB := Lib.hid (fun o1 o2 : Obj => ((Below.refl _ w).alloc (Nat.le_refl _) o1).alloc (show w.heap.size ≤ (w.alloc o1).heap.size by simp) o2)
  obtain ⟨n, t⟩ := q
  obtain ⟨n', t'⟩ := q'
  have e1 := bytes_beq n n'
  clear hf h h'
  obtain ⟨res, hres⟩ : ∃ r, eqB (n, t) (n', t') = r := ⟨_, rfl⟩
  have HR := Lib.hid hres
  rw [hres]; clear hres
  simp only [tyV, prV] at HC ⊢
  by_cases hm : n = n'
  · rw [eqB_true hm] at e1
    have HM := Lib.hid hm; clear hm
    go_enter Tryz.func42, Tryz.ntmps42
    go_wp2_with (go_at_call 35; refine (HC.out _ (HZ.out _ _)).mono ?_)
    rintro e w2 ⟨rfl, hb2⟩
    have HB2 := Lib.hid hb2; clear hb2
    go_wp2
    go_ret
    refine ⟨?_, (HB.out _ _).trans (HB2.out.mono (by simp; omega))⟩
    rw [← HR.out]
    by_cases hq : t = t'
    · rw [eqB_true hq, eqB_true (show (n, t) = (n', t') by rw [HM.out, hq])]
      rfl
    · rw [eqB_false hq, eqB_false (fun e => hq (Prod.mk.inj e).2)]
      rfl
  · rw [eqB_false hm] at e1
    have hr : res = false := by rw [← HR.out]; exact eqB_false (fun e => hm (Prod.mk.inj e).1)
    subst hr
    clear HR hm
    go_enter Tryz.func42, Tryz.ntmps42
    go_wp2_with (first | fail)
    go_ret
    exact ⟨rfl, HB.out _ _⟩

set_option maxRecDepth 100000 in
set_option maxHeartbeats 600000 in
theorem samePreds_of (l l' : List Pr) (H : ∀ q ∈ l, Fits q.2) (a b : Option Addr) (c d : Nat) (w : World) (h : PrsAt w (.slice a l.length c) l) (h' : PrsAt w (.slice b l'.length d) l') (hn : l.length < 1152921504606846976) :
    Calls Tryz.prog 18 #[.slice a l.length c, .slice b l'.length d] w fun e w' => e = .returned (.bool (eqB l l')) ∧ Below w.heap.size w w' := by
  by_cases hl : l.length = l'.length
  · by_cases h0 : l = []
    · subst h0
      obtain rfl : l' = [] := List.length_eq_zero_iff.1 hl.symm
      rw [eqB_true rfl]
      clear h h' H
      go_enter Tryz.func18, Tryz.ntmps18
      go_wp2
      go_loopw [5] (fun vi wr => vi = .int .i64 0 ∧ Hid (Below w.heap.size w wr)) (fun _ _ => 0)
      case atStart => exact ⟨rfl, Lib.hid (Below.refl _ _)⟩
      case round =>
        obtain ⟨rfl, hB⟩ := hrel
        go_wp2
        go_ret
        exact ⟨rfl, hB.out⟩
    · have h0' : l' ≠ [] := by intro e; rw [e] at hl; exact h0 (List.length_eq_zero_iff.1 hl)
      obtain ⟨g1, c1, e1, hg1, hc1, r1⟩ := h.row h0
      obtain ⟨g2, c2, e2, hg2, hc2, r2⟩ := h'.row h0'
      cases e1; cases e2
      have HR1 := Lib.hid r1; clear r1
      have HR2 := Lib.hid r2; clear r2
      have HS := Lib.hid H; clear H
      obtain ⟨res, hres⟩ : ∃ r, eqB l l' = r := ⟨_, rfl⟩
      have HRes := Lib.hid hres
      rw [hres]; clear hres h h'
      rw [← hl] at hc2 ⊢
      have HL := Lib.hid hl; clear hl
      have hm : ((l.length : Int) != (l.length : Int)) = false := by simp
      go_enter Tryz.func18, Tryz.ntmps18
      go_wp2
      go_loopw [5] (fun vi wr => ∃ i : Nat, i ≤ l.length ∧ vi = .int .i64 i ∧ Hid (Below w.heap.size w wr) ∧ Hid (∀ j (h1 : j < l.length) (h2 : j < l'.length), j < i → l[j] = l'[j])) (fun vi _ => l.length - (intOf vi).toNat)
      case atStart => exact ⟨0, Nat.zero_le _, rfl, Lib.hid (Below.refl _ _), Lib.hid (fun j _ _ h => absurd h (by omega))⟩
      case round =>
        obtain ⟨i, hi, rfl, hB, hS⟩ := hrel
        by_cases hlt : i < l.length
        · have hlt' : i < l'.length := HL.out ▸ hlt
          obtain ⟨pa, ca, x0, x1, x2, x3, xk⟩ := HR1.out i hlt
          obtain ⟨pb, cb, y0, y1, y2, y3, yk⟩ := HR2.out i hlt'
          have f1 := fun o => hB.out.cell (p := ⟨g1, o, none⟩) hg1
          have f2 := fun o => hB.out.cell (p := ⟨g2, o, none⟩) hg2
          rw [← f1] at x0 x1 x2 x3; rw [← f2] at y0 y1 y2 y3
          have hcall := samePred_any l[i] l'[i] (HS.out l[i] (List.getElem_mem hlt)) pa pb ca cb
          have XK := Lib.hid xk; have YK := Lib.hid yk
          clear xk yk f1 f2
          have HE := Lib.hid (show l[i] = l[i] ∧ l'[i] = l'[i] from ⟨rfl, rfl⟩)
          obtain ⟨t, ht⟩ : ∃ t, l[i] = t := ⟨_, rfl⟩
          obtain ⟨u, hu⟩ : ∃ u, l'[i] = u := ⟨_, rfl⟩
          have HT := Lib.hid ht; have HU := Lib.hid hu
          rw [ht] at x0 x1 x2 x3 hcall XK
          rw [hu] at y0 y1 y2 y3 hcall YK
          simp only [prV] at hcall
          clear ht hu HE
          have HC := Lib.hid (fun W (k : KeepT w W) => hcall W (XK.out.keep k) (YK.out.keep k)); clear hcall
          have HK : Hid (KeepT w wr.drew) := Lib.hid (fun k cs fz h => KeepT.of_below hB.out k cs fz h)
          go_wp2
          by_cases hq : t = u
          · rw [eqB_true hq] at HC
            have HQ := Lib.hid hq; clear hq
            go_region_with (first
              | (go_at_call 42; refine (HC.out _ ?kk).mono ?_; (case kk => exact HK.out); rintro e w2 ⟨rfl, hb2⟩; have HB2 := Lib.hid hb2; clear hb2))
            all_goals go_wp2
            all_goals
              go_roundw
              case rel => exact ⟨i + 1, by omega, by go_num, Lib.hid (hB.out.drew.trans (HB2.out.mono hB.out.size)), Lib.hid (fun j h1 h2 hj => by
                by_cases hji : j = i
                · subst hji; rw [HT.out, HU.out]; exact HQ.out
                · exact hS.out j h1 h2 (by omega))⟩
              case measure => simp [intOf]; omega
          · rw [eqB_false hq] at HC
            have hres : res = false := by
              rw [← HRes.out]
              refine eqB_false fun e => hq ?_
              rw [← HT.out, ← HU.out]
              exact List.getElem_of_eq e hlt
            clear HT HU HRes hq
            subst hres
            go_region_with (first
              | (go_at_call 42; refine (HC.out _ ?kk).mono ?_; (case kk => exact HK.out); rintro e w2 ⟨rfl, hb2⟩; have HB2 := Lib.hid hb2; clear hb2))
            all_goals go_wp2
            all_goals go_ret
            all_goals exact ⟨rfl, hB.out.drew.trans (HB2.out.mono hB.out.size)⟩
        · obtain rfl : i = l.length := by omega
          have hres : res = true := by
            rw [← HRes.out]
            exact eqB_true (List.ext_getElem HL.out (fun j h1 h2 => hS.out j h1 h2 h1))
          clear HRes
          subst hres
          go_wp2
          go_ret
          exact ⟨rfl, hB.out⟩
  · have hm : ((l.length : Int) != (l'.length : Int)) = true := by simp; omega
    rw [eqB_false (fun e => hl (by rw [e]))]
    clear h h' H
    go_enter Tryz.func18, Tryz.ntmps18
    go_wp2
    go_ret
    exact ⟨rfl, Below.refl _ _⟩

end Go.Proofs.YtjnlchhikdfifaaGreatDoor
/- Predicates, rows of them, that are made of numbers. -/
namespace Go.Proofs.YtjnlchhikdfifaaGreatDoor
open Go.RowKit
attribute [local go_sem] Oper.semAt_some
attribute [local go_sem ↓] Go.wp_at_zero Go.wp_at_succ

/-- Nothing but block r has turned. -/
structure Else (r : Nat) (w w' : World) : Prop where
  below : ∀ B, B ≤ r → Below B w w'
  block : ∀ k, k ≠ r → w'.heap[k]? = w.heap[k]?
theorem Else.set (w : World) (r o : Nat) (v : Value) : Else r w (w.setCell ⟨r, o, none⟩ v) := ⟨fun B hB => (Below.refl B w).setCell (p := ⟨r, o, none⟩) hB v, fun k hk => Below.heap_setCell w ⟨r, o, none⟩ v k hk⟩
theorem Else.trans {r : Nat} {a b c : World} (h : Else r a b) (k : Else r b c) : Else r a c := ⟨fun B hB => (h.below B hB).trans (k.below B hB), fun i hi => (k.block i hi).trans (h.block i hi)⟩
theorem KeepT.else {r : Nat} {w w' : World} {cs : Array Value} {T : TypeId} {fz : Nat × Nat} (h : Else r w w') (hr : w.heap[r]? = some (.cells cs T fz)) (hT : T ≠ 31) : KeepT w w' := by
  intro k cs' fz' hk
  refine (h.block k fun e => ?_).trans hk
  subst e
  rw [hr] at hk
  cases hk
  exact hT rfl
/-- The end of a maker whose result lies in a block of its own. -/
theorem else_fin {B p r : Nat} {a : Option Addr} {n c k : Nat} {w W W' : World} {O : Obj} (hr : r = w.heap.size) (hs : SeqAt B p a n c k W) (hfr : MkFr B p (w.alloc O) W) (hp : p < w.heap.size) (he : Else r W W') :
    SeqAt B p a n c k W' ∧ MkFr B p w W' := by
  subst hr
  have hB := hs.1.1
  refine ⟨⟨⟨hB, (he.block p (by omega)).trans hs.1.2⟩, hs.2.keep (he.below B (by omega))⟩, ?_, ?_⟩
  · exact (((Below.refl B w).alloc (by omega) O).trans hfr.1).trans (he.below B (by omega))
  · intro i o hi hip
    have hlt := (Array.getElem?_eq_some_iff.1 hi).1
    exact (he.block i (by omega)).trans (hfr.2 i o ((Below.heap_alloc w O i hlt).trans hi) hip)

def MadeP (B p : Nat) (a : Option Addr) (n c k : Nat) (w : World) (e : Ending) (w' : World) : Prop :=
  (∃ q u, e = .returned (prV q u) ∧ tsize q.2 ≤ 56 ∧ TysAt w' u q.2.kids) ∧ (∃ k', k' ≤ k + 9 ∧ SeqAt B p a n c k' w') ∧ MkFr B p w w'

theorem four_strs {w : World} {g : Nat} {x y z u : Value} (h : w.heap[g]? = some (.cells #[x, y, z, u] 9 (0, 0))) : w.cell? ⟨g, 0, none⟩ = some x ∧ w.cell? ⟨g, 1, none⟩ = some y ∧ w.cell? ⟨g, 2, none⟩ = some z ∧ w.cell? ⟨g, 3, none⟩ = some u := four_cells h

theorem set4_cells {W : World} {r : Nat} {x0 y0 z0 u0 : Value} {T : TypeId} (h : W.heap[r]? = some (.cells #[x0, y0, z0, u0] T (0, 0))) (x y z u : Value) :
    ((((W.setCell ⟨r, 0, none⟩ x).setCell ⟨r, 1, none⟩ y).setCell ⟨r, 2, none⟩ z).setCell ⟨r, 3, none⟩ u).cell? ⟨r, 0, none⟩ = some x ∧ ((((W.setCell ⟨r, 0, none⟩ x).setCell ⟨r, 1, none⟩ y).setCell ⟨r, 2, none⟩ z).setCell ⟨r, 3, none⟩ u).cell? ⟨r, 1, none⟩ = some y ∧ ((((W.setCell ⟨r, 0, none⟩ x).setCell ⟨r, 1, none⟩ y).setCell ⟨r, 2, none⟩ z).setCell ⟨r, 3, none⟩ u).cell? ⟨r, 2, none⟩ = some z ∧ ((((W.setCell ⟨r, 0, none⟩ x).setCell ⟨r, 1, none⟩ y).setCell ⟨r, 2, none⟩ z).setCell ⟨r, 3, none⟩ u).cell? ⟨r, 3, none⟩ = some u :=
  four_cells (block_set (o := 3) (block_set (o := 2) (block_set (o := 1) (block_set (o := 0) h x) y) z) u)
theorem pred_fin {B p : Nat} {a : Option Addr} {n c k k2 : Nat} {w W : World} {O1 O2 : Obj} {q : Pr} {v x y z u x0 y0 z0 u0 : Value} (hs : SeqAt B p a n c k2 W) (hk2 : k2 + 1 ≤ k + 1 + 8) (hfr : MkFr B p ((w.alloc O1).alloc O2) W) (hp : p < w.heap.size)
    (h0 : W.heap[w.heap.size]? = some (.cells #[x0, y0, z0, u0] 55 (0, 0))) (hu : TysAt W v q.2.kids) (hg : tsize q.2 ≤ 56) :
    MadeP B p a n c k w (.returned (prV q v)) ((((W.setCell ⟨w.heap.size, 0, none⟩ x).setCell ⟨w.heap.size, 1, none⟩ y).setCell ⟨w.heap.size, 2, none⟩ z).setCell ⟨w.heap.size, 3, none⟩ u) := by
  have he : Else w.heap.size W ((((W.setCell ⟨w.heap.size, 0, none⟩ x).setCell ⟨w.heap.size, 1, none⟩ y).setCell ⟨w.heap.size, 2, none⟩ z).setCell ⟨w.heap.size, 3, none⟩ u) := (((Else.set _ _ _ _).trans (Else.set _ _ _ _)).trans (Else.set _ _ _ _)).trans (Else.set _ _ _ _)
  obtain ⟨e1, e2⟩ := else_fin rfl hs ((MkFr.of_below ((Below.refl _ _).alloc (Nat.le_refl _) O2) (by have := hs.1.1; simp; omega)).trans hfr) hp he
  exact ⟨⟨q, v, rfl, hg, hu.keep (KeepT.else he h0 (by decide))⟩, ⟨k2, by omega, e1⟩, e2⟩
set_option maxRecDepth 100000 in
set_option maxHeartbeats 4000000 in
theorem make_pred (B p : Nat) (a : Option Addr) (n c k : Nat) (w : World) (h : SeqAt B p a n c k w) (hk : k < 1000000000000000000) (hn : n < 1152921504606846976) :
    Calls Tryz.prog 31 #[.pointer (some ⟨p, 0, none⟩), .int .i64 2] w (MadeP B p a n c k w) := by
  have hp := h.lt
  have HN := Lib.hid (fun o1 o2 => next_any B p a n c k 4 ((w.alloc o1).alloc o2) (h.below (((Below.refl _ w).alloc (Nat.le_refl _) o1).alloc (show w.heap.size ≤ (w.alloc o1).heap.size by simp) o2)) (by decide) (by decide) (by omega) hn)
  have HT := Lib.hid (fun W (hs : SeqAt B p a n c (k + 1) W) => make_type2 B p a n c (k + 1) W hs (by omega) hn)
  have HNe := Lib.hid (show w.heap.size ≠ p by omega)
  have HNe1 := Lib.hid (show w.heap.size + 1 ≠ p by omega)
  have HBp := Lib.hid h.1.1
  clear h
  go_enter Tryz.func31, Tryz.ntmps31
  go_wp2_with (go_at_call 30; refine (HN.out _ _).mono ?_)
  rintro e W1 ⟨⟨r, hr, rfl⟩, h1, h2⟩
  have hz := h2.2 _ _ ((Below.heap_alloc _ _ _ (by simp)).trans (alloc_new w _)) HNe.out
  have hs := h2.2 _ _ (show ((w.alloc _).alloc _).heap[w.heap.size + 1]? = _ from by rw [show w.heap.size + 1 = (w.alloc (.cells #[.string ⟨#[]⟩, .int .i64 0, .string ⟨#[]⟩, .slice none 0 0] 55)).heap.size from by simp]; exact alloc_new _ _) HNe1.out
  obtain ⟨s0, s1, s2, s3⟩ := four_strs hs
  have hzl := (Array.getElem?_eq_some_iff.1 hz).1
  have HZ := Lib.hid hz; have H1 := Lib.hid h1; have H2 := Lib.hid h2
  clear hz hs h1 h2
  obtain ⟨z, hz⟩ : ∃ z : Int, (r : Int) = z := ⟨_, rfl⟩
  rw [hz]
  have h4 : z = 0 ∨ z = 1 ∨ z = 2 ∨ z = 3 := by omega
  clear hz hr
  rcases h4 with rfl | rfl | rfl | rfl
  · go_wp2_with (go_at_call 24; refine (HT.out _ H1.out).mono ?_)
    rintro e W2 ⟨⟨t, u, rfl, hg, hu⟩, ⟨k2, hk2, hs2⟩, hf2⟩
    obtain ⟨a2, n2, rfl⟩ := hu.shape
    have hz2 := hf2.2 _ _ HZ.out HNe.out
    obtain ⟨d0, d1, d2, d3⟩ := four_cells hz2
    have g0 := Lib.frozen_of_heap hz2 0
    have g1 := Lib.frozen_of_heap hz2 1
    have g2 := Lib.frozen_of_heap hz2 2
    have g3 := Lib.frozen_of_heap hz2 3
    have HZ2 := Lib.hid hz2; have HU := Lib.hid hu; have HS2 := Lib.hid hs2; have HF2 := Lib.hid hf2; have HG := Lib.hid hg
    clear hz2 hu hs2 hf2 hg s0 s1 s2 s3
    simp only [tyV]
    go_wp2
    exact bodyPost_ret (v := prV (⟨#[69, 113]⟩, t) (.slice a2 t.kids.length n2)) (by have hc := set4_cells HZ2.out (.string ⟨#[69, 113]⟩) (.int .i64 t.kind) (.string t.name) (.slice a2 t.kids.length n2); simp [results, Tryz.results31, go_sem, prV, hc.1, hc.2.1, hc.2.2.1, hc.2.2.2]) rfl (pred_fin (q := (⟨#[69, 113]⟩, t)) HS2.out hk2 (H2.out.trans HF2.out) hp HZ2.out HU.out (by have := size_text t HG.out.1; have := HG.out.2.2; show tsize t ≤ 56; omega))
  · go_wp2_with (go_at_call 24; refine (HT.out _ H1.out).mono ?_)
    rintro e W2 ⟨⟨t, u, rfl, hg, hu⟩, ⟨k2, hk2, hs2⟩, hf2⟩
    obtain ⟨a2, n2, rfl⟩ := hu.shape
    have hz2 := hf2.2 _ _ HZ.out HNe.out
    obtain ⟨d0, d1, d2, d3⟩ := four_cells hz2
    have g0 := Lib.frozen_of_heap hz2 0
    have g1 := Lib.frozen_of_heap hz2 1
    have g2 := Lib.frozen_of_heap hz2 2
    have g3 := Lib.frozen_of_heap hz2 3
    have HZ2 := Lib.hid hz2; have HU := Lib.hid hu; have HS2 := Lib.hid hs2; have HF2 := Lib.hid hf2; have HG := Lib.hid hg
    clear hz2 hu hs2 hf2 hg s0 s1 s2 s3
    simp only [tyV]
    go_wp2
    exact bodyPost_ret (v := prV (⟨#[79, 114, 100]⟩, t) (.slice a2 t.kids.length n2)) (by have hc := set4_cells HZ2.out (.string ⟨#[79, 114, 100]⟩) (.int .i64 t.kind) (.string t.name) (.slice a2 t.kids.length n2); simp [results, Tryz.results31, go_sem, prV, hc.1, hc.2.1, hc.2.2.1, hc.2.2.2]) rfl (pred_fin (q := (⟨#[79, 114, 100]⟩, t)) HS2.out hk2 (H2.out.trans HF2.out) hp HZ2.out HU.out (by have := size_text t HG.out.1; have := HG.out.2.2; show tsize t ≤ 56; omega))
  · go_wp2_with (go_at_call 24; refine (HT.out _ H1.out).mono ?_)
    rintro e W2 ⟨⟨t, u, rfl, hg, hu⟩, ⟨k2, hk2, hs2⟩, hf2⟩
    obtain ⟨a2, n2, rfl⟩ := hu.shape
    have hz2 := hf2.2 _ _ HZ.out HNe.out
    obtain ⟨d0, d1, d2, d3⟩ := four_cells hz2
    have g0 := Lib.frozen_of_heap hz2 0
    have g1 := Lib.frozen_of_heap hz2 1
    have g2 := Lib.frozen_of_heap hz2 2
    have g3 := Lib.frozen_of_heap hz2 3
    have HZ2 := Lib.hid hz2; have HU := Lib.hid hu; have HS2 := Lib.hid hs2; have HF2 := Lib.hid hf2; have HG := Lib.hid hg
    clear hz2 hu hs2 hf2 hg s0 s1 s2 s3
    simp only [tyV]
    go_wp2
    exact bodyPost_ret (v := prV (⟨#[83, 104, 111, 119]⟩, t) (.slice a2 t.kids.length n2)) (by have hc := set4_cells HZ2.out (.string ⟨#[83, 104, 111, 119]⟩) (.int .i64 t.kind) (.string t.name) (.slice a2 t.kids.length n2); simp [results, Tryz.results31, go_sem, prV, hc.1, hc.2.1, hc.2.2.1, hc.2.2.2]) rfl (pred_fin (q := (⟨#[83, 104, 111, 119]⟩, t)) HS2.out hk2 (H2.out.trans HF2.out) hp HZ2.out HU.out (by have := size_text t HG.out.1; have := HG.out.2.2; show tsize t ≤ 56; omega))
  · go_wp2_with (go_at_call 24; refine (HT.out _ H1.out).mono ?_)
    rintro e W2 ⟨⟨t, u, rfl, hg, hu⟩, ⟨k2, hk2, hs2⟩, hf2⟩
    obtain ⟨a2, n2, rfl⟩ := hu.shape
    have hz2 := hf2.2 _ _ HZ.out HNe.out
    obtain ⟨d0, d1, d2, d3⟩ := four_cells hz2
    have g0 := Lib.frozen_of_heap hz2 0
    have g1 := Lib.frozen_of_heap hz2 1
    have g2 := Lib.frozen_of_heap hz2 2
    have g3 := Lib.frozen_of_heap hz2 3
    have HZ2 := Lib.hid hz2; have HU := Lib.hid hu; have HS2 := Lib.hid hs2; have HF2 := Lib.hid hf2; have HG := Lib.hid hg
    clear hz2 hu hs2 hf2 hg s0 s1 s2 s3
    simp only [tyV]
    go_wp2
    exact bodyPost_ret (v := prV (⟨#[78, 117, 109]⟩, t) (.slice a2 t.kids.length n2)) (by have hc := set4_cells HZ2.out (.string ⟨#[78, 117, 109]⟩) (.int .i64 t.kind) (.string t.name) (.slice a2 t.kids.length n2); simp [results, Tryz.results31, go_sem, prV, hc.1, hc.2.1, hc.2.2.1, hc.2.2.2]) rfl (pred_fin (q := (⟨#[78, 117, 109]⟩, t)) HS2.out hk2 (H2.out.trans HF2.out) hp HZ2.out HU.out (by have := size_text t HG.out.1; have := HG.out.2.2; show tsize t ≤ 56; omega))

theorem Tryz.infoPred : (Tryz.prog.info? 55).map (fun i => (i.zero, i.size, i.bytes)) = some (some (.agg #[.string ⟨#[]⟩, .int .i64 0, .string ⟨#[]⟩, .slice none 0 0]), 4, 64) := by kernel_rfl

def prCells (x : Pr × Value) : List Value := [.string x.1.1, .int .i64 x.1.2.kind, .string x.1.2.name, x.2]
def prRow (q : List (Pr × Value)) : List Value := q.flatMap prCells
theorem prRow_snoc (q : List (Pr × Value)) (x : Pr × Value) : prRow (q ++ [x]) = prRow q ++ prCells x := by simp [prRow]
theorem prRow_at (q : List (Pr × Value)) (i j : Nat) (hi : i < q.length) (hj : j < 4) : (prRow q)[i * 4 + j]? = (prCells q[i])[j]? := by
  induction q generalizing i with
  | nil => cases hi
  | cons a r ih =>
    cases i with
    | zero =>
      have : (prCells a ++ prRow r)[j]? = (prCells a)[j]? := List.getElem?_append_left (by simp [prCells]; omega)
      simpa [prRow] using this
    | succ i =>
      have e : (i + 1) * 4 + j = (prCells a).length + (i * 4 + j) := by simp [prCells]; omega
      have h1 : (prCells a ++ prRow r)[(prCells a).length + (i * 4 + j)]? = (prRow r)[i * 4 + j]? := by rw [List.getElem?_append_right (by omega)]; congr 1; omega
      have h2 := ih i (by simpa using hi)
      rw [e]
      simpa [prRow] using h1.trans h2
theorem prs_of_row {W : World} {base : Nat} {v : Value} {q : List (Pr × Value)} (h : W.ownsRow base 55 4 v q.length (prRow q)) (hq : ∀ x ∈ q, TysAt W x.2 x.1.2.kids) : PrsAt W v (q.map (·.1)) := by
  rcases h.2 with ⟨rfl, h0⟩ | ⟨g, cap, cur, rfl, _, hg, hc, hm, hcs, htk⟩
  · have : q = [] := List.length_eq_zero_iff.1 h0
    subst this
    exact .inl ⟨rfl, none, 0, rfl⟩
  · refine .inr ⟨g, cap, cur, _, fun i => (q[i]?.map (·.2)).getD undef, by simp, hg, by simpa using hc, fun i hi => ?_⟩
    have hi' : i < q.length := by simpa using hi
    have cell : ∀ j, j < 4 → cur[i * 4 + j]? = (prCells q[i])[j]? := fun j hj => by
      have hlt : i * 4 + j < q.length * 4 := by omega
      rw [← prRow_at q i j hi' hj, ← htk, List.getElem?_take, if_pos hlt, Array.getElem?_toList]
    have e : (q.map (·.1))[i] = q[i].1 := by simp
    rw [e]
    refine ⟨⟨(cell 0 (by omega)).trans rfl, (cell 1 (by omega)).trans rfl, (cell 2 (by omega)).trans rfl, (cell 3 (by omega)).trans ?_⟩, ?_⟩
    · simp [prCells, hi']
    · simpa [hi'] using hq q[i] (List.getElem_mem hi')
def MadePs (B p : Nat) (a : Option Addr) (n c k : Nat) (w : World) (e : Ending) (w' : World) : Prop :=
  (∃ l v, e = .returned v ∧ (l.length ≤ 3 ∧ ∀ q ∈ l, tsize q.2 ≤ 56) ∧ PrsAt w' v l) ∧ (∃ k', k' ≤ k + 40 ∧ SeqAt B p a n c k' w') ∧ MkFr B p w w'

set_option maxRecDepth 100000 in
set_option maxHeartbeats 4000000 in
theorem make_preds (B p : Nat) (a : Option Addr) (n c k : Nat) (w : World) (h : SeqAt B p a n c k w) (hk : k < 900000000000000000) (hn : n < 1152921504606846976) :
    Calls Tryz.prog 7 #[.pointer (some ⟨p, 0, none⟩), .int .i64 3, .int .i64 2] w (MadePs B p a n c k w) := by
  have hp := h.lt
  obtain ⟨i0, hi, hz0, hz1, hz2⟩ := info_parts Tryz.infoPred
  have HN := Lib.hid (next_any B p a n c k 4 w h (by decide) (by decide) (by omega) hn)
  have HB := Lib.hid h.1.1
  clear h
  go_enter Tryz.func7, Tryz.ntmps7
  go_wp2_with (go_at_call 30; refine HN.out.mono ?_)
  rintro e W1 ⟨⟨r, hr, rfl⟩, h1, h2⟩
  have H1 := Lib.hid h1; have H2 := Lib.hid h2
  clear h1 h2
  go_wp2_with fail
  go_loopw [7, 8] (fun vl vi wr => ∃ (q : List (Pr × Value)) (i k' : Nat), vi = .int .i64 i ∧ i + q.length ≤ 3 ∧ Hid (wr.ownsRow w.heap.size 55 4 vl q.length (prRow q)) ∧ Hid (∀ x ∈ q, TysAt wr x.2 x.1.2.kids) ∧ Hid (∀ x ∈ q, tsize x.1.2 ≤ 56) ∧ Hid (k' ≤ k + 1 + 9 * q.length ∧ SeqAt B p a n c k' wr) ∧ Hid (MkFr B p w wr)) (fun _ vi _ => (intOf vi).toNat)
  case atStart => exact ⟨[], r, k + 1, rfl, by simp; omega, Lib.hid (World.ownsRow_nil _ _ _ _), Lib.hid (fun x hx => by cases hx), Lib.hid (fun x hx => by cases hx), Lib.hid ⟨by simp, H1.out⟩, Lib.hid H2.out⟩
  case round =>
    obtain ⟨q, i, k', rfl, hq3, hrow, hty, hgd, hsq, hfr⟩ := hrel
    by_cases hpos : 0 < i
    · have hposI : (0 : Int) < (i : Int) := by omega
      go_wp2_with (go_at_call 31; refine (make_pred B p a n c k' _ hsq.out.2 (by have := hsq.out.1; omega) hn).mono ?_)
      rintro e W2 ⟨⟨x, u, rfl, hg, hu⟩, ⟨k2, hk2, hs2⟩, hf2⟩
      obtain ⟨a2, n2, rfl⟩ := hu.shape
      have hrow2 := own_keep hrow.out hf2.2 hp
      have HF2 := Lib.hid (hfr.out.trans hf2)
      have HS2 := Lib.hid hs2; have HU := Lib.hid hu; have HG := Lib.hid hg; have HR2 := Lib.hid hrow2
      have HTY2 := Lib.hid (fun y hy => (hty.out y hy).keep (KeepT.of_mk hf2 hsq.out.2))
      have HKq := Lib.hid hk2
      clear hrow2 hs2 hu hg hf2 hk2
      simp only [prV]
      go_wp2_with (at_builtin; refine wpList_append_own _ rfl _ _ 28 rfl w.heap.size 55 i0 (.agg #[.string ⟨#[]⟩, .int .i64 0, .string ⟨#[]⟩, .slice none 0 0]) 4 64 Tryz.underlying28 hi hz0 hz1 hz2 rfl (by decide) _ _ _ rfl (HR2.out.alloc _) ⟨W2.heap.size, 0, none⟩ 1 1 (prCells (x, .slice a2 x.2.kids.length n2)) rfl rfl (cell_new4 _ _ _ _ _ _) (by simp [prCells, Value.oneCell']) ?c3 ?c4 ?c5 ?_)
      case c3 => unfold maxLen; omega
      case c4 => omega
      case c5 => have := HF2.out.1.size; simp; omega
      intro v' W3 hown3 hgrow _
      have hkt : KeepT W2 W3 := (keepT_alloc W2 _).trans (KeepT.grown hgrow (HR2.out.alloc _) (by decide))
      have hsz : w.heap.size ≤ W2.heap.size := HF2.out.1.size
      have hBw : B ≤ w.heap.size := by have := HB.out; omega
      have hbelB : Below B W2 W3 := ((Below.refl B W2).alloc (Nat.le_trans hBw hsz) _).grown hgrow (by simp; omega) (fun j hj => Nat.le_trans hBw (HR2.out.lt j hj).1)
      have hblk : ∀ j o, W2.heap[j]? = some o → j < w.heap.size → W3.heap[j]? = some o := fun j o hj hlt =>
        (hgrow.block j (by simp; omega) (fun e => by have := (HR2.out.lt j e.symm).1; omega)).trans ((Below.heap_alloc W2 _ j (by omega)).trans hj)
      have HS3 := Lib.hid (show SeqAt B p a n c k2 W3 from ⟨⟨HB.out, hblk p _ HS2.out.1.2 hp⟩, HS2.out.2.keep hbelB⟩)
      have HF3 := Lib.hid (show MkFr B p w W3 from ⟨HF2.out.1.trans hbelB, fun j o hj hjp => hblk j o (HF2.out.2 j o hj hjp) (Array.getElem?_eq_some_iff.1 hj).1⟩)
      have HT3 := Lib.hid (fun y hy => (HTY2.out y hy).keep hkt)
      have HX3 := Lib.hid (HU.out.keep hkt)
      have HO3 := Lib.hid hown3
      clear hkt hbelB hblk hown3 hgrow
      go_wp2
      go_roundw
      case rel =>
        refine ⟨q ++ [(x, .slice a2 x.2.kids.length n2)], i - 1, k2, congrArg (Value.int .i64) (by omega), by simp; omega, Lib.hid ?_, Lib.hid ?_, Lib.hid ?_, Lib.hid ⟨?_, HS3.out⟩, HF3⟩
        · rw [prRow_snoc, List.length_append]; exact HO3.out
        · intro y hy
          rcases List.mem_append.1 hy with hy | hy
          · exact HT3.out y hy
          · obtain rfl := List.mem_singleton.1 hy
            exact HX3.out
        · intro y hy
          rcases List.mem_append.1 hy with hy | hy
          · exact hgd.out y hy
          · obtain rfl := List.mem_singleton.1 hy
            exact HG.out
        · have h1 := HKq.out; have h2 := hsq.out.1
          rw [List.length_append, List.length_singleton]; omega
      case measure => simp [intOf]; omega
    · obtain rfl : i = 0 := by omega
      obtain ⟨va, vc, rfl⟩ := row_val hrow.out
      go_wp2
      go_ret
      have h2 := hsq.out.1
      refine ⟨⟨q.map (·.1), .slice va q.length vc, rfl, ⟨by simp; omega, fun y hy => ?_⟩, prs_of_row hrow.out hty.out⟩, ⟨k', by omega, hsq.out.2⟩, hfr.out⟩
      obtain ⟨z, hz, rfl⟩ := List.mem_map.1 hy
      exact hgd.out z hz
end Go.Proofs.YtjnlchhikdfifaaGreatDoor
/- (Subst).Then: one after the other. -/
namespace Go.Proofs.YtjnlchhikdfifaaGreatDoor
open Go.RowKit Go.Sort Go.Lib
attribute [local go_sem] Oper.semAt_some

theorem make_cap4 (N : Nat) (hn : N ≤ 1000000000) (w : World) :
    (Instr.makeSlice 71 (.int .i64 0) (.int .i64 (N : Int))).run Tryz.prog w = .ok (.slice (some ⟨w.heap.size, 0, none⟩) 0 N) (w.alloc (.cells (zeros4 N) 90)) := by
  obtain ⟨i, hi, hzz⟩ := Option.map_eq_some_iff.1 Tryz.infoPair
  simp only [Prod.mk.injEq] at hzz
  obtain ⟨hz, hs, hb⟩ := hzz
  have hr := run_make (P := Tryz.prog) w 71 90 i _ Tryz.underlying71 hi hz .i64 .i64 0 N (by omega) (by omega) (by rw [hb]; omega) (by omega)
  simp only [Int.toNat_natCast, hs, Int.toNat_zero] at hr
  exact hr
theorem setCells_set4 (w : World) (g i : Nat) (x : PR) : w.setCells g (0 + i * 4) (encP x) = set4 w g i x := by
  rw [Nat.zero_add]; rfl
/-- The list that Then gathers. -/
noncomputable def thenL (ls lu : List PR) : List PR := ls.map (fun x => { x with t := app lu x.t }) ++ lu
theorem ty_append (n : ByteArray) (d e : List PR) : ty n (d ++ e) = if (lk n d).isSome then ty n d else ty n e := by
  unfold ty
  rw [lk_append]
  cases lk n d <;> rfl
theorem lk_map (f : T → T) (n : ByteArray) : ∀ d : List PR, lk n (d.map fun x => { x with t := f x.t }) = (lk n d).map fun x => { x with t := f x.t }
  | [] => rfl
  | x :: d => by
    rw [List.map_cons, lk_cons, lk_cons]
    by_cases h : x.n = n
    · rw [if_pos h, if_pos h]; rfl
    · rw [if_neg h, if_neg h]; exact lk_map f n d
theorem then_app (ls lu : List PR) : ∀ t, app (thenL ls lu) t = app lu (app ls t) := by
  intro t
  refine T.by_kids (P := fun t => app (thenL ls lu) t = app lu (app ls t)) (fun t H => ?_) t
  cases t with
  | var n =>
    rw [app_v, app_v, thenL, ty_append, lk_map]
    cases h : lk n ls with
    | none =>
      have e : ty n ls = .var n := by unfold ty; rw [h]; rfl
      rw [e]; rfl
    | some x =>
      have e : ty n ls = x.t := by unfold ty; rw [h]; rfl
      rw [e]
      unfold ty
      rw [lk_map, h]; rfl
  | con n l =>
    rw [app, app, app, apps_map, apps_map, apps_map, List.map_map]
    congr 1
    exact List.map_congr_left fun k hk => H k hk
  | fn a b => rw [app, app, app, H a (by simp [T.kids]), H b (by simp [T.kids])]
  | all n a => rw [app, app, app, H a (by simp [T.kids])]

theorem RowK.spare {g k : Nat} {l : List PR} {w : World} (h : RowK g k l w) {i : Nat} (hi : i < k) : ∀ j, j < 4 → (w.cell? ⟨g, 0 + i * 4 + j, none⟩).isSome = true ∧ w.frozen? ⟨g, 0 + i * 4 + j, none⟩ = false := by
  obtain ⟨x, y, z, u, h0, h1, h2, h3⟩ := h.cells hi
  intro j hj
  rw [Nat.zero_add]
  refine ⟨?_, h.row.free _⟩
  match j, hj with
  | 0, _ => rw [Nat.add_zero, h0]; rfl
  | 1, _ => rw [h1]; rfl
  | 2, _ => rw [h2]; rfl
  | 3, _ => rw [h3]; rfl
  | n + 4, hj => omega

theorem cellsP_get (d : List PR) (j : Nat) (hj : j < d.length * 4) : (cellsP d)[j]? = (encP (d.getD (j / 4) noP))[j % 4]? := by
  have := cellsP_at d (j / 4) (j % 4) (by omega) (by omega)
  rwa [show j / 4 * 4 + j % 4 = j by omega] at this
theorem enc_get {x : PR} {j : Nat} (hj : j < 4) : (encP x)[j]? = some (if j = 0 then .string x.n else if j = 1 then .int .i64 x.t.kind else if j = 2 then .string x.t.name else .slice x.a x.t.kids.length x.c) := by
  match j, hj with
  | 0, _ => rfl
  | 1, _ => rfl
  | 2, _ => rfl
  | 3, _ => rfl
  | n + 4, hj => omega
theorem row_cells {g : Nat} {l : List PR} {cs : Array Value} (h : ∀ i, i < l.length → cs[i * 4]? = some (.string (l.getD i noP).n) ∧ cs[i * 4 + 1]? = some (.int .i64 (l.getD i noP).t.kind) ∧ cs[i * 4 + 2]? = some (.string (l.getD i noP).t.name) ∧ cs[i * 4 + 3]? = some (.slice (l.getD i noP).a (l.getD i noP).t.kids.length (l.getD i noP).c)) (_ : g = g) (j : Nat) (hj : j < l.length * 4) : cs[j]? = (cellsP l)[j]? := by
  rw [cellsP_get l j hj, enc_get (by omega)]
  obtain ⟨a0, a1, a2, a3⟩ := h (j / 4) (by omega)
  have hc : j % 4 = 0 ∨ j % 4 = 1 ∨ j % 4 = 2 ∨ j % 4 = 3 := by omega
  rcases hc with e | e | e | e
  · rw [e, if_pos rfl, ← a0, show j = j / 4 * 4 by omega]; congr 1; omega
  · rw [e, if_neg (by decide), if_pos rfl, ← a1]; congr 1; omega
  · rw [e, if_neg (by decide), if_neg (by decide), if_pos rfl, ← a2]; congr 1; omega
  · rw [e, if_neg (by decide), if_neg (by decide), if_neg (by decide), ← a3]; congr 1; omega
theorem RowK.owns {g k base : Nat} {l : List PR} {w : World} (h : RowK g k l w) (hb : base ≤ g) (hk : k ≤ 1000000) : w.ownsRow base 90 4 (.slice (some ⟨g, 0, none⟩) l.length k) l.length (cellsP l) := by
  obtain ⟨cs, h1, h2, h3, h4⟩ := h
  refine ⟨cellsP_len l, .inr ⟨g, k, cs, rfl, hb, h1, h3, by unfold maxLen; omega, h2, ?_⟩⟩
  apply List.ext_getElem?
  intro j
  by_cases hj : j < l.length * 4
  · rw [List.getElem?_take_of_lt hj, Array.getElem?_toList, row_cells (g := g) h4 rfl j hj]
  · rw [List.getElem?_eq_none (by simp; omega), List.getElem?_eq_none (by rw [cellsP_len]; omega)]
theorem RowP.news {g : Nat} {l : List PR} {w : World} (h : RowP g l w) : ∀ j u, (cellsP l)[j]? = some u → w.cell? ((⟨g, 0, none⟩ : Addr).add j) = some u := by
  intro j u hu
  have hj : j < l.length * 4 := by have := (List.getElem?_eq_some_iff.1 hu).1; rwa [cellsP_len] at this
  have hadd : (⟨g, 0, none⟩ : Addr).add j = ⟨g, j, none⟩ := by unfold Addr.add; split <;> simp_all
  obtain ⟨cs, h1, _, h3⟩ := h
  rw [hadd, Lib.cell_of_heap h1, row_cells (g := g) h3 rfl j hj, hu]
theorem cellsP_one (l : List PR) : ∀ u ∈ cellsP l, u.oneCell' = true := by
  intro u hu
  obtain ⟨x, _, hx⟩ := List.mem_flatMap.1 hu
  exact encP_one x u hx
theorem cellsP_append (l m : List PR) : cellsP l ++ cellsP m = cellsP (l ++ m) := by simp [cellsP]
theorem row_of_owns {W : World} {base g cap : Nat} {d : List PR} (h : W.ownsRow base 90 4 (.slice (some ⟨g, 0, none⟩) d.length cap) d.length (cellsP d)) : RowP g d W := by
  rcases h.2 with ⟨e, _⟩ | ⟨g', cap', cur, e, _, hg, hc, hm, hcs, htk⟩
  · cases e
  · cases e
    refine ⟨cur, hg, by rw [hcs]; exact Nat.mul_le_mul_right 4 hc, fun i hi => ?_⟩
    have cell : ∀ j, j < 4 → cur[i * 4 + j]? = (encP (d.getD i noP))[j]? := fun j hj => by
      have hlt : i * 4 + j < d.length * 4 := by omega
      rw [← cellsP_at d i j hi hj, ← htk, List.getElem?_take, if_pos hlt, Array.getElem?_toList]
    exact ⟨(cell 0 (by omega)).trans rfl, (cell 1 (by omega)).trans rfl, (cell 2 (by omega)).trans rfl, (cell 3 (by omega)).trans rfl⟩
theorem SubAt.setS {v x : Value} {d : List PR} {w : World} {b : Nat} {cs : Array Value} {fz : Nat × Nat} (h : SubAt v d w) (hb : w.heap[b]? = some (.cells cs 73 fz)) : SubAt v d (w.setCell ⟨b, 0, none⟩ x) := by
  obtain ⟨⟨h1, h2⟩, h3⟩ := h
  refine ⟨⟨?_, h2⟩, h3.keep ?_⟩
  · rcases h1 with h1 | ⟨g, cap, e, hc, hr⟩
    · exact .inl h1
    · refine .inr ⟨g, cap, e, hc, hr.same (Below.heap_setCell _ ⟨b, 0, none⟩ _ _ ?_)⟩
      show g ≠ b
      rintro rfl
      obtain ⟨cs', hr, _⟩ := hr
      rw [hb] at hr
      simp at hr
  · intro k cs' fz' hk
    refine (Below.heap_setCell _ ⟨b, 0, none⟩ _ k ?_).trans hk
    show k ≠ b
    rintro rfl
    rw [hb] at hk
    simp at hk
theorem Made.copy {d d' l : List PR} (h : Made d l) (k : Copy d d') : Made d' l :=
  ⟨fun x hx => by obtain ⟨y, hy, e1, e2⟩ := h.sub x hx; obtain ⟨z, hz, f1, f2⟩ := k.mem y hy; exact ⟨z, hz, e1.trans f1, e2.trans f2⟩, by rw [← k.1]; exact h.len, fun n => by rw [h.same n]; unfold ty; rw [k.lk]⟩
theorem copy_then {q ls lu : List PR} (h1 : q.length = ls.length) (h2 : ∀ j, j < ls.length → (q.getD j noP).n = (ls.getD j noP).n ∧ (q.getD j noP).t = app lu (ls.getD j noP).t) : Copy (q ++ lu) (thenL ls lu) := by
  refine ⟨by simp [thenL, h1], fun i hi => ?_⟩
  unfold thenL
  by_cases hlt : i < ls.length
  · have e1 : (q ++ lu).getD i noP = q.getD i noP := by simp [List.getD, List.getElem?_append_left (show i < q.length by omega)]
    have e2 : (ls.map (fun x : PR => { x with t := app lu x.t }) ++ lu).getD i noP = { ls.getD i noP with t := app lu (ls.getD i noP).t } := by
      simp [List.getD, List.getElem?_append_left (show i < (ls.map (fun x : PR => { x with t := app lu x.t })).length by simpa using hlt), hlt]
    rw [e1, e2]; exact h2 i hlt
  · have e1 : (q ++ lu).getD i noP = lu.getD (i - ls.length) noP := by simp [List.getD, List.getElem?_append_right (show q.length ≤ i by omega), h1]
    have e2 : (ls.map (fun x : PR => { x with t := app lu x.t }) ++ lu).getD i noP = lu.getD (i - ls.length) noP := by
      simp [List.getD, List.getElem?_append_right (show (ls.map (fun x : PR => { x with t := app lu x.t })).length ≤ i by simp; omega)]
    rw [e1, e2]; exact ⟨rfl, rfl⟩

end Go.Proofs.YtjnlchhikdfifaaGreatDoor
/- SubstThen: what its statements keep; calls whose results are told. -/
namespace Go.Proofs.YtjnlchhikdfifaaGreatDoor
open Go.RowKit Go.Sort Go.Lib
attribute [local go_sem] Oper.semAt_some

theorem size_le (d : List PR) (M : Nat) (h1 : 1 ≤ M) (hd : ∀ x ∈ d, tsize x.t ≤ M) : ∀ t, tsize (app d t) ≤ tsize t * M := by
  intro t
  refine T.by_kids (P := fun t => tsize (app d t) ≤ tsize t * M) (fun t H => ?_) t
  cases t with
  | var n =>
    rw [app_v, tsize, Nat.one_mul]
    unfold ty
    cases h : lk n d with
    | none => exact h1
    | some x => exact hd x (lk_name h).1
  | con n l =>
    rw [app, tsize, tsize, apps_map]
    have key : ∀ m : List T, (∀ k ∈ m, k ∈ l) → tsizes (m.map (app d)) ≤ tsizes m * M := by
      intro m
      induction m with
      | nil => intro _; exact Nat.zero_le _
      | cons a m ih =>
        intro hm
        rw [List.map_cons, tsizes, tsizes, Nat.add_mul]
        exact Nat.add_le_add (H a (hm a (List.mem_cons_self ..))) (ih fun k hk => hm k (List.mem_cons_of_mem _ hk))
    have := key l (fun k hk => hk)
    rw [Nat.add_mul]; omega
  | fn a b =>
    have ha := H a (by simp [T.kids])
    have hb := H b (by simp [T.kids])
    rw [app, tsize, tsize, Nat.add_mul, Nat.add_mul]; omega
  | all n a =>
    have ha := H a (by simp [T.kids])
    rw [app, tsize, tsize, Nat.add_mul]; omega
/-- Of a row of pairs: how many, how great, what it does. -/
def Sb (M n : Nat) (f : T → T) (l : List PR) : Prop := l.length ≤ n ∧ (∀ x ∈ l, tsize x.t ≤ M) ∧ ∀ t, app l t = f t
theorem app_ret {l : List PR} {t t' : T} {M n : Nat} {f : T → T} {s : Value} {a : Option Addr} {c : Nat} {w : World} (hs : SubAt s l w) (h : Sb M n f l) (hn : n ≤ 1000) (hM : M ≤ 1000000000) (ht : tsize t ≤ 1000000000) (e : f t = t') (hT : TysAt w (.slice a t.kids.length c) t.kids) :
    Calls Tryz.prog 41 #[.agg #[s], .agg #[.int .i64 t.kind, .string t.name, .slice a t.kids.length c]] w fun e Y => (∃ za zc, e = .returned (.agg #[.int .i64 t'.kind, .string t'.name, .slice za t'.kids.length zc]) ∧ TysAt Y (.slice za t'.kids.length zc) t'.kids) ∧ Below w.heap.size w Y := by
  refine (apply_any (d := l) (t := t) (s := s) (w := w) (by have := h.1; omega) (fun x hx => by have := h.2.1 x hx; omega) ht hs hT).mono ?_
  rintro e1 w5 ⟨⟨a, c, rfl, hin⟩, hb5⟩
  rw [h.2.2, e] at hin ⊢
  exact ⟨⟨a, c, rfl, hin.tys⟩, hb5⟩

def nilV : Value := .slice none 0 0
/-- What the statements of SubstThen keep. -/
def SS (w : World) (b11 b12 b13 b14 b15 : Nat) (t : T) (pa : Option Addr) (ca : Nat) (sx sy sz : Value) (lx ly lz : List PR) (X : World) : Prop :=
  BoxT b11 t pa ca X ∧ ((BoxS b12 sx lx X ∧ BoxS b13 sy ly X) ∧ BoxS b14 sz lz X ∧ BoxS b15 nilV [] X) ∧ Below w.heap.size w X
theorem SS.below {w : World} {b11 b12 b13 b14 b15 : Nat} {t : T} {pa : Option Addr} {ca : Nat} {sx sy sz : Value} {lx ly lz : List PR} {X Y : World} (h : SS w b11 b12 b13 b14 b15 t pa ca sx sy sz lx ly lz X) (hb : Below X.heap.size X Y) : SS w b11 b12 b13 b14 b15 t pa ca sx sy sz lx ly lz Y :=
  ⟨h.1.below hb, ⟨⟨h.2.1.1.1.below hb, h.2.1.1.2.below hb⟩, h.2.1.2.1.below hb, h.2.1.2.2.below hb⟩, h.2.2.trans (hb.mono h.2.2.size)⟩
theorem SS.cells {w : World} {b11 b12 b13 b14 b15 : Nat} {t : T} {pa : Option Addr} {ca : Nat} {sx sy sz : Value} {lx ly lz : List PR} {X : World} (h : SS w b11 b12 b13 b14 b15 t pa ca sx sy sz lx ly lz X) :
    (X.cell? ⟨b11, 0, none⟩ = some (.int .i64 t.kind) ∧ X.cell? ⟨b11, 1, none⟩ = some (.string t.name) ∧ X.cell? ⟨b11, 2, none⟩ = some (.slice pa t.kids.length ca)) ∧
    (X.cell? ⟨b12, 0, none⟩ = some sx ∧ X.cell? ⟨b13, 0, none⟩ = some sy) ∧ X.cell? ⟨b14, 0, none⟩ = some sz ∧ X.cell? ⟨b15, 0, none⟩ = some nilV := ⟨h.1.cells, ⟨h.2.1.1.1.cell, h.2.1.1.2.cell⟩, h.2.1.2.1.cell, h.2.1.2.2.cell⟩

/-! A box that is still empty is filled: all else stays. -/
def zeroT : Obj := .cells #[.int .i64 0, .string ⟨#[]⟩, .slice none 0 0] 31
theorem BoxT.fill {b k : Nat} {t : T} {a : Option Addr} {c : Nat} {w W : World} (h : BoxT b t a c w) (h0 : w.heap[k]? = some zeroT) (hk : ∀ j, j ≠ k → W.heap[j]? = w.heap[j]?) : BoxT b t a c W := by
  refine ⟨(hk b ?_).trans h.1, h.2.elsewhere h0 hk⟩
  rintro rfl
  have h1 := h.1
  rw [h0] at h1
  unfold zeroT at h1
  simp only [Option.some.injEq, Obj.cells.injEq, Array.mk.injEq, List.cons.injEq, Value.int.injEq] at h1
  have := (T.kind_pos t).1
  omega
theorem SubAt.fill {v : Value} {d : List PR} {k : Nat} {w W : World} (h : SubAt v d w) (h0 : w.heap[k]? = some zeroT) (hk : ∀ j, j ≠ k → W.heap[j]? = w.heap[j]?) : SubAt v d W := by
  obtain ⟨⟨h1, h2⟩, h3⟩ := h
  refine ⟨⟨?_, h2⟩, fun x hx => (h3 x hx).elsewhere h0 hk⟩
  rcases h1 with h1 | ⟨g, cap, e, hc, hr⟩
  · exact .inl h1
  · refine .inr ⟨g, cap, e, hc, hr.same (hk g ?_)⟩
    rintro rfl
    obtain ⟨cs, hr, _⟩ := hr
    rw [h0] at hr
    unfold zeroT at hr
    simp at hr
theorem BoxS.fill {b k : Nat} {v : Value} {d : List PR} {w W : World} (h : BoxS b v d w) (h0 : w.heap[k]? = some zeroT) (hk : ∀ j, j ≠ k → W.heap[j]? = w.heap[j]?) : BoxS b v d W := by
  refine ⟨(hk b ?_).trans h.1, h.2.fill h0 hk⟩
  rintro rfl
  have h1 := h.1
  rw [h0] at h1
  unfold zeroT at h1
  simp at h1
theorem SS.fill {w : World} {b11 b12 b13 b14 b15 : Nat} {t : T} {pa : Option Addr} {ca : Nat} {sx sy sz : Value} {lx ly lz : List PR} {X Y : World} {k : Nat} (h : SS w b11 b12 b13 b14 b15 t pa ca sx sy sz lx ly lz X) (h0 : X.heap[k]? = some zeroT) (hk : ∀ j, j ≠ k → Y.heap[j]? = X.heap[j]?) (hb : Below w.heap.size X Y) : SS w b11 b12 b13 b14 b15 t pa ca sx sy sz lx ly lz Y :=
  ⟨h.1.fill h0 hk, ⟨⟨h.2.1.1.1.fill h0 hk, h.2.1.1.2.fill h0 hk⟩, h.2.1.2.1.fill h0 hk, h.2.1.2.2.fill h0 hk⟩, h.2.2.trans hb⟩
theorem fill_box {k : Nat} {p : T} {a : Option Addr} {c : Nat} {w : World} (h0 : w.heap[k]? = some zeroT) (hp : TysAt w (.slice a p.kids.length c) p.kids) :
    BoxT k p a c (((w.setCell ⟨k, 0, none⟩ (.int .i64 p.kind)).setCell ⟨k, 1, none⟩ (.string p.name)).setCell ⟨k, 2, none⟩ (.slice a p.kids.length c)) :=
  ⟨set3_block h0 _ _ _, hp.elsewhere h0 (fun _ hj => set3_others _ _ _ hj)⟩
end Go.Proofs.YtjnlchhikdfifaaGreatDoor
/- SubstThen: the pairs it is given, kept; its calls ahead of the regions. -/
namespace Go.Proofs.YtjnlchhikdfifaaGreatDoor
open Go.RowKit Go.Sort Go.Lib
attribute [local go_sem] Oper.semAt_some

/-- What a call of pairs hands out. -/
def GP (v : Value) (d : List PR) (w : World) : Prop := (GivenP v d w ∧ Typ d w) ∧ d.length ≤ 4 ∧ ∀ x ∈ d, tsize x.t ≤ 56
theorem GP.keep {v : Value} {d : List PR} {w w' : World} (h : GP v d w) (hk : KeepT w w') (hr : ∀ g, RowP g d w → w'.heap[g]? = w.heap[g]?) : GP v d w' := by
  obtain ⟨⟨h1, h2⟩, h3⟩ := h
  refine ⟨⟨?_, h2.keep hk⟩, h3⟩
  rcases h1 with h1 | ⟨h0, g, cap, e, hg⟩
  · exact .inl h1
  · exact .inr ⟨h0, g, cap, e, hg.same (hr g hg)⟩
theorem GP.below {v : Value} {d : List PR} {w w' : World} (h : GP v d w) (hb : Below w.heap.size w w') : GP v d w' := h.keep (KeepT.of_below hb) fun g hg => hb.block g hg.lt
theorem GP.mk {B p : Nat} {a : Option Addr} {n c k : Nat} {v : Value} {d : List PR} {w w' : World} (h : GP v d w) (hf : MkFr B p w w') (hs : SeqAt B p a n c k w) : GP v d w' :=
  h.keep (KeepT.of_mk hf hs) fun g hg => by
    obtain ⟨cs, h1, _⟩ := hg
    refine (hf.2 g _ h1 ?_).trans h1.symm
    rintro rfl
    have := h1.symm.trans hs.1.2
    simp at this
theorem of_gp {v : Value} {d : List PR} {w : World} (h : GP v d w) :
    Calls Tryz.prog 61 #[v] w fun e w' => (∃ sv l, e = .returned (.agg #[sv]) ∧ SubAt sv l w' ∧ Sb 56 4 (app l) l) ∧ Below w.heap.size w w' := by
  obtain ⟨⟨h1, h2⟩, h3, h4⟩ := h
  refine (of_any h1 h2 (fun x hx => fits_small (by have := h4 x hx; omega)) (fun x hx => by have := h4 x hx; omega) (by omega)).mono ?_
  rintro e w' ⟨⟨sv, l, rfl, hs, hm⟩, hb⟩
  refine ⟨⟨sv, l, rfl, hs, by have := hm.len; omega, fun x hx => ?_, fun t => rfl⟩, hb⟩
  obtain ⟨y, hy, _, e⟩ := hm.sub x hx
  rw [e]; exact h4 y hy
theorem sb_nil : Sb 1 0 (fun t => t) [] := ⟨Nat.le_refl _, (fun _ h => nomatch h), app_nil⟩

theorem thl_one (w w5 : World) (t : T) (pa : Option Addr) (ca : Nat) (vA vB vC : Value) (dA dB dC : List PR) (HB : Below w.heap.size w w5) (HT : TysAt w5 (.slice pa t.kids.length ca) t.kids) (hA : GP vA dA w5) (hB : GP vB dB w5) (hC : GP vC dC w5) :
    Calls Tryz.prog 61 #[vA] (w5.alloc (.cells #[.int .i64 t.kind, .string t.name, .slice pa t.kids.length ca] 31))
      fun e w' => (∃ sv l, e = .returned (.agg #[sv]) ∧ SubAt sv l w' ∧ Sb 56 4 (app l) l) ∧ BoxT w5.heap.size t pa ca w' ∧ (GP vB dB w' ∧ GP vC dC w') ∧ Below w.heap.size w w' := by
  have b1 := below_a w5 (.cells #[.int .i64 t.kind, .string t.name, .slice pa t.kids.length ca] 31)
  have k1 := BoxT.new (t := t) HT
  generalize w5.alloc (.cells #[.int .i64 t.kind, .string t.name, .slice pa t.kids.length ca] 31) = V at *
  refine (of_gp (hA.below b1)).mono ?_
  rintro e w' ⟨h1, hb⟩
  exact ⟨h1, k1.below hb, ⟨(hB.below b1).below hb, (hC.below b1).below hb⟩, (HB.trans (b1.mono HB.size)).trans (hb.mono (Nat.le_trans HB.size b1.size))⟩
theorem thl_two (w w6 : World) (b11 : Nat) (t : T) (pa : Option Addr) (ca : Nat) (sx : Value) (lx : List PR) (vB vC : Value) (dB dC : List PR) (HB : Below w.heap.size w w6) (H1 : BoxT b11 t pa ca w6) (hx : SubAt sx lx w6) (hB : GP vB dB w6) (hC : GP vC dC w6) :
    Calls Tryz.prog 61 #[vB] (w6.alloc (.cells #[sx] 73))
      fun e w' => (∃ sv l, e = .returned (.agg #[sv]) ∧ SubAt sv l w' ∧ Sb 56 4 (app l) l) ∧ (BoxT b11 t pa ca w' ∧ BoxS w6.heap.size sx lx w') ∧ GP vC dC w' ∧ Below w.heap.size w w' := by
  have b1 := below_a w6 (.cells #[sx] 73)
  have k1 := BoxS.new hx
  generalize w6.alloc (.cells #[sx] 73) = V at *
  refine (of_gp (hB.below b1)).mono ?_
  rintro e w' ⟨h1, hb⟩
  exact ⟨h1, ⟨(H1.below b1).below hb, k1.below hb⟩, (hC.below b1).below hb, (HB.trans (b1.mono HB.size)).trans (hb.mono (Nat.le_trans HB.size b1.size))⟩
theorem thl_three (w w7 : World) (b11 b12 : Nat) (t : T) (pa : Option Addr) (ca : Nat) (sx sy : Value) (lx ly : List PR) (vC : Value) (dC : List PR) (HB : Below w.heap.size w w7) (H1 : BoxT b11 t pa ca w7) (H2 : BoxS b12 sx lx w7) (hy : SubAt sy ly w7) (hC : GP vC dC w7) :
    Calls Tryz.prog 61 #[vC] (w7.alloc (.cells #[sy] 73))
      fun e w' => (∃ sv l, e = .returned (.agg #[sv]) ∧ SubAt sv l w' ∧ Sb 56 4 (app l) l) ∧ (BoxT b11 t pa ca w' ∧ BoxS b12 sx lx w' ∧ BoxS w7.heap.size sy ly w') ∧ Below w.heap.size w w' := by
  have b1 := below_a w7 (.cells #[sy] 73)
  have k1 := BoxS.new hy
  generalize w7.alloc (.cells #[sy] 73) = V at *
  refine (of_gp (hC.below b1)).mono ?_
  rintro e w' ⟨h1, hb⟩
  exact ⟨h1, ⟨(H1.below b1).below hb, (H2.below b1).below hb, k1.below hb⟩, (HB.trans (b1.mono HB.size)).trans (hb.mono (Nat.le_trans HB.size b1.size))⟩
theorem thl_start (w w8 : World) (b11 b12 b13 : Nat) (t : T) (pa : Option Addr) (ca : Nat) (sx sy sz : Value) (lx ly lz : List PR) (HB : Below w.heap.size w w8) (H1 : BoxT b11 t pa ca w8) (H2 : BoxS b12 sx lx w8) (H3 : BoxS b13 sy ly w8) (hz : SubAt sz lz w8) :
    SS w b11 b12 b13 w8.heap.size (w8.heap.size + 1) t pa ca sx sy sz lx ly lz (((w8.alloc (.cells #[sz] 73)).alloc (.cells #[.slice none 0 0] 73)).drew) := by
  have b1 := below_a w8 (.cells #[sz] 73)
  have k1 := BoxS.new hz
  have b2 := below_a (w8.alloc (.cells #[sz] 73)) (.cells #[.slice none 0 0] 73)
  have k2 : BoxS (w8.alloc (.cells #[sz] 73)).heap.size nilV [] ((w8.alloc (.cells #[sz] 73)).alloc (.cells #[.slice none 0 0] 73)) := BoxS.new (sub_nil _ _ _ (fun _ => rfl))
  have e : (w8.alloc (.cells #[sz] 73)).heap.size = w8.heap.size + 1 := by simp
  rw [e] at k2
  exact SS.below ⟨((H1.below b1).below b2), ⟨⟨(H2.below b1).below b2, (H3.below b1).below b2⟩, k1.below b2, k2⟩, (HB.trans (b1.mono HB.size)).trans (b2.mono (Nat.le_trans HB.size b1.size))⟩ (below_d _)
end Go.Proofs.YtjnlchhikdfifaaGreatDoor
/- (Subst).Preds. -/
namespace Go.Proofs.YtjnlchhikdfifaaGreatDoor
open Go.RowKit Go.Sort Go.Lib
attribute [local go_sem] Oper.semAt_some

theorem make_rowP (n : Nat) (hn : n ≤ 1000000000) (w : World) :
    (Instr.makeSlice 28 (.int .i64 (n : Int)) (.int .i64 (n : Int))).run Tryz.prog w = .ok (.slice (some ⟨w.heap.size, 0, none⟩) n n) (w.alloc (.cells (zeros4 n) 55)) := by
  obtain ⟨i, hi, hzz⟩ := Option.map_eq_some_iff.1 Tryz.infoPred
  simp only [Prod.mk.injEq] at hzz
  obtain ⟨hz, hs, hb⟩ := hzz
  have hr := run_make (P := Tryz.prog) w 28 55 i _ Tryz.underlying28 hi hz .i64 .i64 n n (by omega) (Int.le_refl _) (by rw [hb]; omega) (by omega)
  simp only [Int.toNat_natCast, hs] at hr
  exact hr

/-- A row of k places, of which the first hold the pairs l. -/
def RowKP (g k : Nat) (l : List PR) (w : World) : Prop :=
  ∃ cs, w.heap[g]? = some (.cells cs 55 (0, 0)) ∧ cs.size = k * 4 ∧ l.length ≤ k ∧ ∀ i, i < l.length →
    cs[i * 4]? = some (.string (l.getD i noP).n) ∧ cs[i * 4 + 1]? = some (.int .i64 (l.getD i noP).t.kind) ∧ cs[i * 4 + 2]? = some (.string (l.getD i noP).t.name) ∧ cs[i * 4 + 3]? = some (.slice (l.getD i noP).a (l.getD i noP).t.kids.length (l.getD i noP).c)
theorem RowKP.row {g k : Nat} {l : List PR} {w : World} (h : RowKP g k l w) : RowG 55 g l w := by
  obtain ⟨cs, h1, h2, h3, h4⟩ := h; exact ⟨cs, h1, by omega, h4⟩
theorem RowKP.same {g k : Nat} {l : List PR} {w w' : World} (h : RowKP g k l w) (e : w'.heap[g]? = w.heap[g]?) : RowKP g k l w' := by
  obtain ⟨cs, h1, h2⟩ := h; exact ⟨cs, e.trans h1, h2⟩
theorem RowKP.lt {g k : Nat} {l : List PR} {w : World} (h : RowKP g k l w) : g < w.heap.size := h.row.lt
theorem RowKP.below {g k : Nat} {l : List PR} {w w' : World} (h : RowKP g k l w) (hb : Below w.heap.size w w') : RowKP g k l w' := h.same (hb.block g h.lt)
theorem RowKP.cells {g k : Nat} {l : List PR} {w : World} (h : RowKP g k l w) {i : Nat} (hi : i < k) : ∃ x y z u, w.cell? ⟨g, i * 4, none⟩ = some x ∧ w.cell? ⟨g, i * 4 + 1, none⟩ = some y ∧ w.cell? ⟨g, i * 4 + 2, none⟩ = some z ∧ w.cell? ⟨g, i * 4 + 3, none⟩ = some u := by
  obtain ⟨cs, h1, h2, _⟩ := h
  refine ⟨cs[i * 4]'(by omega), cs[i * 4 + 1]'(by omega), cs[i * 4 + 2]'(by omega), cs[i * 4 + 3]'(by omega), ?_, ?_, ?_, ?_⟩ <;> (rw [Lib.cell_of_heap h1]; simp)
theorem RowKP.push {g k : Nat} {l : List PR} {w : World} (h : RowKP g k l w) (hk : l.length < k) (x : PR) : RowKP g k (l ++ [x]) (set4 w g l.length x) := by
  obtain ⟨cs, h1, h2, h3, h4⟩ := h
  refine ⟨(((cs.setIfInBounds (l.length * 4) (.string x.n)).setIfInBounds (l.length * 4 + 1) (.int .i64 x.t.kind)).setIfInBounds (l.length * 4 + 2) (.string x.t.name)).setIfInBounds (l.length * 4 + 3) (.slice x.a x.t.kids.length x.c), blk_set (blk_set (blk_set (blk_set h1 _) _) _) _, by simpa using h2, by simp; omega, fun j hj => ?_⟩
  by_cases e : j = l.length
  · subst e
    have e2 : (l ++ [x]).getD l.length noP = x := by simp [List.getD]
    rw [e2]
    refine ⟨?_, ?_, ?_, ?_⟩ <;> (simp [Array.getElem?_setIfInBounds]; omega)
  · have hj' : j < l.length := by simp at hj; omega
    have e2 : (l ++ [x]).getD j noP = l.getD j noP := by simp [List.getD, List.getElem?_append_left hj']
    rw [e2]
    obtain ⟨a1, a2, a3, a4⟩ := h4 j hj'
    refine ⟨?_, ?_, ?_, ?_⟩
    · rw [Array.getElem?_setIfInBounds_ne (by omega), Array.getElem?_setIfInBounds_ne (by omega), Array.getElem?_setIfInBounds_ne (by omega), Array.getElem?_setIfInBounds_ne (by omega)]; exact a1
    · rw [Array.getElem?_setIfInBounds_ne (by omega), Array.getElem?_setIfInBounds_ne (by omega), Array.getElem?_setIfInBounds_ne (by omega), Array.getElem?_setIfInBounds_ne (by omega)]; exact a2
    · rw [Array.getElem?_setIfInBounds_ne (by omega), Array.getElem?_setIfInBounds_ne (by omega), Array.getElem?_setIfInBounds_ne (by omega), Array.getElem?_setIfInBounds_ne (by omega)]; exact a3
    · rw [Array.getElem?_setIfInBounds_ne (by omega), Array.getElem?_setIfInBounds_ne (by omega), Array.getElem?_setIfInBounds_ne (by omega), Array.getElem?_setIfInBounds_ne (by omega)]; exact a4
theorem RowKP.start (g k : Nat) (w : World) (h : w.heap[g]? = some (.cells (zeros4 k) 55 (0, 0))) : RowKP g k [] w :=
  ⟨_, h, by simp [zeros4, size_madeCells], Nat.zero_le _, fun _ hi => absurd hi (Nat.not_lt_zero _)⟩


def prOf (x : PR) : Pr := (x.n, x.t)
theorem prs_of_rowG {g cap : Nat} {l : List PR} {w : World} (h : RowG 55 g l w) (ht : Typ l w) (hc : l.length ≤ cap) : PrsAt w (.slice (some ⟨g, 0, none⟩) l.length cap) (l.map prOf) := by
  obtain ⟨cs, h1, h2, h3⟩ := h
  refine .inr ⟨g, cap, cs, (0, 0), fun i => .slice (l.getD i noP).a (l.getD i noP).t.kids.length (l.getD i noP).c, by simp, h1, by simpa using hc, fun i hi => ?_⟩
  have hi' : i < l.length := by simpa using hi
  have e : (l.map prOf)[i] = prOf (l.getD i noP) := by simp [List.getD, hi']
  rw [e]
  exact ⟨h3 i hi', ht _ (getD_mem hi')⟩
/-- Each one with types in variables' places. -/
noncomputable def appP (d : List PR) (l : List Pr) : List Pr := l.map fun q => (q.1, app d q.2)
theorem keepT_of_fr {g : Nat} {w w' : World} {cs : Array Value} {T : TypeId} (h : Fr g w w') (hg : w.heap[g]? = some (.cells cs T (0, 0))) (hT : T ≠ 31) : KeepT w w' := fun k cs' fz hk => by
  refine (h.2 k (Array.getElem?_eq_some_iff.1 hk).1 ?_).trans hk
  rintro rfl
  rw [hg] at hk; cases hk; exact hT rfl
theorem RowKP.keepT {g k : Nat} {l : List PR} {w w' : World} (h : RowKP g k l w) (hf : Fr g w w') : KeepT w w' := by
  obtain ⟨cs, h1, _⟩ := h
  exact keepT_of_fr hf h1 (by decide)

set_option maxRecDepth 100000 in
set_option maxHeartbeats 4000000 in
theorem preds_any (s v : Value) (d : List PR) (l : List Pr) (w : World) (hl : d.length < 1000000) (hd : SizedAll d) (hs : SubAt s d w) (h : PrsAt w v l) (hq : ∀ q ∈ l, tsize q.2 ≤ 1000000000) (hn : l.length ≤ 1000000) :
    Calls Tryz.prog 40 #[.agg #[s], v] w fun e w' => (∃ a c, e = .returned (.slice a l.length c) ∧ PrsAt w' (.slice a l.length c) (appP d l)) ∧ Below w.heap.size w w' := by
  obtain ⟨av, cv, rfl⟩ := h.shape
  have hmk := make_rowP l.length (by omega)
  have HS := Lib.hid hs
  obtain ⟨sa, sc, rfl⟩ := hs.shape
  have HRow := Lib.hid (fun (i : Nat) (hi : i < l.length) => (by obtain ⟨g, cap, e, hg, hc, hr⟩ := h.row (by rintro rfl; cases hi); exact ⟨g, cap, e, hg, hc, hr i hi⟩ : ∃ g cap, Value.slice av l.length cv = .slice (some ⟨g, 0, none⟩) l.length cap ∧ g < w.heap.size ∧ l.length ≤ cap ∧ ∃ a c, w.cell? ⟨g, i * 4, none⟩ = some (.string l[i].1) ∧ w.cell? ⟨g, i * 4 + 1, none⟩ = some (.int .i64 l[i].2.kind) ∧ w.cell? ⟨g, i * 4 + 2, none⟩ = some (.string l[i].2.name) ∧ w.cell? ⟨g, i * 4 + 3, none⟩ = some (.slice a l[i].2.kids.length c) ∧ TysAt w (.slice a l[i].2.kids.length c) l[i].2.kids))
  have HQ := Lib.hid hq
  have HB2 := Lib.hid (fun o1 o2 => below_two w o1 o2)
  clear hs h hq
  go_enter Tryz.func40, Tryz.ntmps40
  go_wp2
  go_loopw [13] (fun vi wr => ∃ (i : Nat) (ls : List PR), i ≤ l.length ∧ vi = .int .i64 i ∧ Hid ((ls.length = i ∧ ls.map prOf = appP d (l.take i)) ∧ RowKP (w.heap.size + 1) l.length ls wr ∧ Typ ls wr ∧ Below w.heap.size w wr) ∧ Hid (wr.heap[w.heap.size]? = some (.cells #[.slice sa d.length sc] 73 (0, 0)))) (fun vi _ => l.length - (intOf vi).toNat)
  case atStart =>
    exact ⟨0, [], Nat.zero_le _, rfl, Lib.hid ⟨⟨rfl, rfl⟩, RowKP.start _ _ _ (new_two w _ _), (fun _ h => nomatch h), HB2.out _ _⟩, Lib.hid ((Below.heap_alloc _ _ _ (by simp)).trans (alloc_new w _))⟩
  case round =>
    obtain ⟨i, ls, hi, rfl, hF, hBx⟩ := hrel
    have y0 : wr.cell? ⟨w.heap.size, 0, none⟩ = some (.slice sa d.length sc) := by rw [Lib.cell_of_heap hBx.out]; rfl
    have ly := (Array.getElem?_eq_some_iff.1 hBx.out).1
    have lG := hF.out.2.1.lt
    by_cases hlt : i < l.length
    · obtain ⟨⟨hll, hmap⟩, hRow, hTy, hB⟩ := hF.out
      obtain ⟨g, cap, e1, hg, hcap, pa, pc, x0, x1, x2, x3, xk⟩ := HRow.out i hlt
      cases e1
      have f1 := fun o => hB.cell (p := ⟨g, o, none⟩) hg
      rw [← f1] at x0 x1 x2 x3
      have hgw : g < wr.heap.size := Nat.lt_of_lt_of_le hg hB.size
      have hqs := HQ.out l[i] (List.getElem_mem hlt)
      have HA := Lib.hid (fun (V : World) (hb : Below w.heap.size w V) => apply_any (d := d) (t := l[i].2) (s := .slice sa d.length sc) (v := .slice pa l[i].2.kids.length pc) (w := V) (by omega) hd hqs (HS.out.below hb) (xk.keep (KeepT.of_below hb)))
      have HM := Lib.hid (show appP d (l.take (i + 1)) = appP d (l.take i) ++ [(l[i].1, app d l[i].2)] by unfold appP; rw [List.take_succ_eq_append_getElem hlt, List.map_append]; rfl)
      have HLen := Lib.hid hll; have HMap := Lib.hid hmap; have HRw := Lib.hid hRow; have HTy := Lib.hid hTy; have HB := Lib.hid hB
      clear f1 xk hqs hF hll hmap hRow hTy hB hmk HRow
      generalize l[i] = q at x0 x1 x2 x3 HA HM
      obtain ⟨cn, t⟩ := q
      simp only at x0 x1 x2 x3 HA HM
      simp only [ResT, tyV] at HA
      have hiz : (i : Int) < (l.length : Int) := by omega
      go_wp2
      have hbx := alloc_new wr (.cells #[.string cn, .int .i64 t.kind, .string t.name, .slice pa t.kids.length pc] 55)
      have hbb := below_a wr (.cells #[.string cn, .int .i64 t.kind, .string t.name, .slice pa t.kids.length pc] 55)
      have y0' : (wr.alloc (.cells #[.string cn, .int .i64 t.kind, .string t.name, .slice pa t.kids.length pc] 55)).cell? ⟨w.heap.size, 0, none⟩ = some (.slice sa d.length sc) := (hbb.cell (p := ⟨w.heap.size, 0, none⟩) ly).trans y0
      obtain ⟨V, hV⟩ : ∃ V, wr.alloc (.cells #[.string cn, .int .i64 t.kind, .string t.name, .slice pa t.kids.length pc] 55) = V := ⟨_, rfl⟩
      rw [hV] at hbx hbb y0' ⊢
      obtain ⟨v0, v1, v2, v3⟩ := four_cells hbx
      have HBX := Lib.hid hbx; have HBB := Lib.hid hbb
      have lV := (Array.getElem?_eq_some_iff.1 hbx).1
      clear hV hbx hbb x0 x1 x2 x3 y0
      go_region_with (first
        | (go_at_call 41; refine (HA.out _ ((HB.out.trans (HBB.out.mono HB.out.size)).drew)).mono ?_; rintro e w4 ⟨⟨a4, c4, rfl, g1⟩, g2⟩; have hB4 : Below wr.heap.size wr w4 := (HBB.out.drew).trans (g2.mono HBB.out.size); have hR4 := HRw.out.below hB4; obtain ⟨o0, o1, o2, o3, k0, k1, k2, k3⟩ := hR4.cells hlt; have f0 := Lib.frozen_of_heap hR4.row.choose_spec.1 (i * 4); have f1 := Lib.frozen_of_heap hR4.row.choose_spec.1 (i * 4 + 1); have f2 := Lib.frozen_of_heap hR4.row.choose_spec.1 (i * 4 + 2); have f3 := Lib.frozen_of_heap hR4.row.choose_spec.1 (i * 4 + 3); obtain ⟨n0, n1, n2, n3⟩ := four_cells ((g2.block _ lV).trans HBX.out); have HB4 := Lib.hid hB4; have HR4 := Lib.hid hR4; have HG1 := Lib.hid g1.tys; clear g1 g2 hB4 hR4))
      all_goals
        go_wp2
        have HP := HR4.out.push (by rw [HLen.out]; exact hlt) (⟨cn, app d t, a4, c4⟩ : PR)
        rw [HLen.out] at HP
        have HF4 := Lib.hid ((Fr.of_below (g := w.heap.size + 1) HB4.out).trans (Fr.set4 (w.heap.size + 1) i w4 (⟨cn, app d t, a4, c4⟩ : PR)))
        have hk1 := HR4.out.keepT (Fr.set4 (w.heap.size + 1) i w4 (⟨cn, app d t, a4, c4⟩ : PR))
        have hk2 : KeepT wr w4 := KeepT.of_below HB4.out
        go_roundw
        case rel =>
          refine ⟨i + 1, ls ++ [⟨cn, app d t, a4, c4⟩], by omega, by go_num, Lib.hid ⟨⟨by simp [HLen.out], ?_⟩, HP, ?_, HB.out.trans (HF4.out.below (by omega) HB.out.size)⟩, Lib.hid ((HF4.out.2 _ ly (by omega)).trans hBx.out)⟩
          · rw [List.map_append, HMap.out, HM.out]; rfl
          · intro y hy
            rcases List.mem_append.1 hy with hy | hy
            · exact ((HTy.out y hy).keep hk2).keep hk1
            · obtain rfl := List.mem_singleton.1 hy
              exact HG1.out.keep hk1
        case measure => simp [intOf]; omega
    · obtain rfl : i = l.length := by omega
      have hp := prs_of_rowG (cap := l.length) hF.out.2.1.row hF.out.2.2.1 (by rw [hF.out.1.1]; exact Nat.le_refl _)
      rw [hF.out.1.1, hF.out.1.2, List.take_length] at hp
      have HPp := Lib.hid hp; have HBz := Lib.hid hF.out.2.2.2
      clear hp hmk HRow
      go_wp2
      go_ret
      exact ⟨⟨_, _, rfl, HPp.out⟩, HBz.out⟩
end Go.Proofs.YtjnlchhikdfifaaGreatDoor
/- Rows of predicates; an order by insertion, as plain data. -/
namespace Go.Proofs.YtjnlchhikdfifaaGreatDoor
open Go.RowKit Go.Sort Go.Lib
attribute [local go_sem] Oper.semAt_some

theorem RowG.free' {T : TypeId} {g : Nat} {l : List PR} {w : World} (h : RowG T g l w) (o : Nat) : w.frozen? ⟨g, o, none⟩ = false := by
  obtain ⟨cs, h1, _⟩ := h; exact Lib.frozen_of_heap h1 o
theorem RowG.set {T : TypeId} {g : Nat} {l : List PR} {w : World} (h : RowG T g l w) (i : Nat) (x : PR) : RowG T g (l.set i x) (set4 w g i x) := by
  obtain ⟨cs, h1, h2, h3⟩ := h
  refine ⟨(((cs.setIfInBounds (i * 4) (.string x.n)).setIfInBounds (i * 4 + 1) (.int .i64 x.t.kind)).setIfInBounds (i * 4 + 2) (.string x.t.name)).setIfInBounds (i * 4 + 3) (.slice x.a x.t.kids.length x.c), blk_set (blk_set (blk_set (blk_set h1 _) _) _) _, by simpa using h2, fun j hj => ?_⟩
  have hj' : j < l.length := by simpa using hj
  by_cases e : j = i
  · subst e
    have e2 : (l.set j x).getD j noP = x := by simp [List.getD, hj']
    rw [e2]
    refine ⟨?_, ?_, ?_, ?_⟩ <;> (simp [Array.getElem?_setIfInBounds]; omega)
  · have e2 : (l.set i x).getD j noP = l.getD j noP := by simp [List.getD, Ne.symm e]
    rw [e2]
    obtain ⟨a1, a2, a3, a4⟩ := h3 j hj'
    refine ⟨?_, ?_, ?_, ?_⟩
    · rw [Array.getElem?_setIfInBounds_ne (by omega), Array.getElem?_setIfInBounds_ne (by omega), Array.getElem?_setIfInBounds_ne (by omega), Array.getElem?_setIfInBounds_ne (by omega)]; exact a1
    · rw [Array.getElem?_setIfInBounds_ne (by omega), Array.getElem?_setIfInBounds_ne (by omega), Array.getElem?_setIfInBounds_ne (by omega), Array.getElem?_setIfInBounds_ne (by omega)]; exact a2
    · rw [Array.getElem?_setIfInBounds_ne (by omega), Array.getElem?_setIfInBounds_ne (by omega), Array.getElem?_setIfInBounds_ne (by omega), Array.getElem?_setIfInBounds_ne (by omega)]; exact a3
    · rw [Array.getElem?_setIfInBounds_ne (by omega), Array.getElem?_setIfInBounds_ne (by omega), Array.getElem?_setIfInBounds_ne (by omega), Array.getElem?_setIfInBounds_ne (by omega)]; exact a4
theorem RowG.keepT {T : TypeId} {g : Nat} {l : List PR} {w w' : World} (h : RowG T g l w) (hT : T ≠ 31) (hf : Fr g w w') : KeepT w w' := by
  obtain ⟨cs, h1, _⟩ := h; exact keepT_of_fr hf h1 hT
/-- The first k are in order. -/
def LeTo (k : Nat) (d : List PR) : Prop := ∀ p q, p < q → q < k → cmpR (d.getD p noP) (d.getD q noP) ≤ 0
/-- All but the one at j are. -/
def InsI (i j : Nat) (d : List PR) : Prop := j ≤ i ∧ (∀ p q, p < q → q ≤ i → p ≠ j → q ≠ j → cmpR (d.getD p noP) (d.getD q noP) ≤ 0) ∧ ∀ q, j < q → q ≤ i → cmpR (d.getD j noP) (d.getD q noP) ≤ 0
def SameM (d l : List PR) : Prop := d.length = l.length ∧ ∀ x, x ∈ d ↔ x ∈ l
def swapL (d : List PR) (j : Nat) : List PR := (d.set (j + 1) (d.getD j noP)).set j (d.getD (j + 1) noP)
theorem swapL_get {d : List PR} {j : Nat} (h : j + 1 < d.length) (k : Nat) : (swapL d j).getD k noP = if k = j then d.getD (j + 1) noP else if k = j + 1 then d.getD j noP else d.getD k noP := by
  unfold swapL
  by_cases e : k = j
  · subst e; rw [if_pos rfl]; simp [List.getD, show k < d.length by omega]
  · rw [if_neg e]
    by_cases e2 : k = j + 1
    · subst e2; rw [if_pos rfl]; simp [List.getD, h]
    · rw [if_neg e2]; simp [List.getD, Ne.symm e, Ne.symm e2]
theorem swapL_len (d : List PR) (j : Nat) : (swapL d j).length = d.length := by simp [swapL]
theorem getD_memR {d : List PR} {k : Nat} (h : k < d.length) : d.getD k noP ∈ d := by
  rw [show d.getD k noP = d[k] by simp [List.getD, h]]; exact List.getElem_mem h
theorem mem_getD {d : List PR} {x : PR} (h : x ∈ d) : ∃ k, k < d.length ∧ d.getD k noP = x := by
  obtain ⟨k, hk, e⟩ := List.mem_iff_getElem.1 h
  exact ⟨k, hk, by simp [List.getD, hk, e]⟩
theorem SameM.swap {d l : List PR} {j : Nat} (h : SameM d l) (hj : j + 1 < d.length) : SameM (swapL d j) l := by
  refine ⟨(swapL_len d j).trans h.1, fun x => ?_⟩
  rw [← h.2]
  constructor
  · intro hx
    obtain ⟨k, hk, e⟩ := mem_getD hx
    rw [swapL_get hj] at e
    rw [swapL_len] at hk
    subst e
    split
    · exact getD_memR hj
    · split
      · exact getD_memR (by omega)
      · exact getD_memR hk
  · intro hx
    obtain ⟨k, hk, rfl⟩ := mem_getD hx
    by_cases e : k = j
    · subst e
      have := getD_memR (d := swapL d k) (k := k + 1) (by rw [swapL_len]; exact hj)
      rwa [swapL_get hj, if_neg (by omega), if_pos rfl] at this
    · by_cases e2 : k = j + 1
      · subst e2
        have := getD_memR (d := swapL d j) (k := j) (by rw [swapL_len]; omega)
        rwa [swapL_get hj, if_pos rfl] at this
      · have := getD_memR (d := swapL d j) (k := k) (by rw [swapL_len]; exact hk)
        rwa [swapL_get hj, if_neg e, if_neg e2] at this
theorem InsI.start {i : Nat} {d : List PR} (h : LeTo i d) : InsI i i d := ⟨Nat.le_refl _, fun p q h1 h2 _ h4 => h p q h1 (by omega), fun q h1 h2 => absurd h1 (by omega)⟩
theorem InsI.step {i j : Nat} {d : List PR} (h : InsI i (j + 1) d) (hi : i < d.length) (hc : cmpR (d.getD (j + 1) noP) (d.getD j noP) ≤ 0) : InsI i j (swapL d j) := by
  obtain ⟨h1, h2, h3⟩ := h
  have hj : j + 1 < d.length := by omega
  refine ⟨by omega, fun p q hpq hq hp hqj => ?_, fun q hq hqi => ?_⟩
  · rw [swapL_get hj, swapL_get hj, if_neg hp, if_neg hqj]
    by_cases e : p = j + 1
    · rw [if_pos e, if_neg (by omega)]; exact h2 j q (by omega) hq (by omega) (by omega)
    · rw [if_neg e]
      by_cases e2 : q = j + 1
      · rw [if_pos e2]; exact h2 p j (by omega) (by omega) e (by omega)
      · rw [if_neg e2]; exact h2 p q hpq hq e e2
  · rw [swapL_get hj, swapL_get hj, if_pos rfl, if_neg (by omega)]
    by_cases e2 : q = j + 1
    · rw [if_pos e2]; exact hc
    · rw [if_neg e2]; exact h3 q (by omega) hqi
theorem InsI.stop {i j : Nat} {d : List PR} (h : InsI i j d) (hc : j = 0 ∨ 0 ≤ cmpR (d.getD j noP) (d.getD (j - 1) noP)) : LeTo (i + 1) d := by
  obtain ⟨h1, h2, h3⟩ := h
  intro p q hpq hq
  by_cases e : p = j
  · subst e; exact h3 q hpq (by omega)
  · by_cases e2 : q = j
    · subst e2
      rcases hc with hc | hc
      · omega
      · have hn := cmpR_neg (d.getD q noP) (d.getD (q - 1) noP)
        by_cases e3 : p = q - 1
        · rw [e3, hn]; omega
        · exact cmpR_le (h2 p (q - 1) (by omega) (by omega) e (by omega)) (by rw [hn]; omega)
    · exact h2 p q hpq (by omega) e e2
/-- What the sort keeps. -/
def SrtI (w : World) (g : Nat) (l d : List PR) (wr : World) : Prop := SameM d l ∧ RowG 55 g d wr ∧ Fr g w wr
theorem SrtI.below {w : World} {g : Nat} {l d : List PR} {X Y : World} (h : SrtI w g l d X) (hb : Below X.heap.size X Y) : SrtI w g l d Y := ⟨h.1, h.2.1.below hb, h.2.2.trans (Fr.of_below hb)⟩
theorem SrtI.swap {w : World} {g : Nat} {l d : List PR} {X : World} {j : Nat} (h : SrtI w g l d X) (hj : j + 1 < d.length) : SrtI w g l (swapL d j) (set4 (set4 X g (j + 1) (d.getD j noP)) g j (d.getD (j + 1) noP)) :=
  ⟨h.1.swap hj, (h.2.1.set (j + 1) (d.getD j noP)).set j (d.getD (j + 1) noP), (h.2.2.trans (Fr.set4 g (j + 1) X _)).trans (Fr.set4 g j _ _)⟩
end Go.Proofs.YtjnlchhikdfifaaGreatDoor
