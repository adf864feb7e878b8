/- SubstOthers: plain facts; what its last statement keeps. -/
import Derived.Test.YtmbaolcdjgilpaaSbFirst
import Derived.Test.YtmbaolcdjgilpaaRegInv
namespace Go.Proofs.Ytmbaolcdjgilpaa
open Go.RowKit Go.Sort Go.Lib
attribute [local go_sem] Oper.semAt_some

/-- Type t lies in block b. -/
def BoxT (b : Nat) (t : T) (a : Option Addr) (c : Nat) (w : World) : Prop :=
  w.heap[b]? = some (.cells #[.int .i64 t.kind, .string t.name, .slice a t.kids.length c] 34 (0, 0)) ∧ TysAt w (.slice a t.kids.length c) t.kids
theorem BoxT.below {b : Nat} {t : T} {a : Option Addr} {c : Nat} {w W : World} (h : BoxT b t a c w) (hb : Below w.heap.size w W) : BoxT b t a c W :=
  ⟨(hb.block b (Array.getElem?_eq_some_iff.1 h.1).1).trans h.1, h.2.keep (KeepT.of_below hb)⟩
theorem BoxT.alloc {b : Nat} {t : T} {a : Option Addr} {c : Nat} {w : World} (h : BoxT b t a c w) (o : Obj) : BoxT b t a c (w.alloc o) := h.below ((Below.refl _ w).alloc (Nat.le_refl _) o)
theorem BoxT.new {t : T} {a : Option Addr} {c : Nat} {w : World} (h : TysAt w (.slice a t.kids.length c) t.kids) : BoxT w.heap.size t a c (w.alloc (.cells #[.int .i64 t.kind, .string t.name, .slice a t.kids.length c] 34)) :=
  ⟨alloc_new w _, h.keep (keepT_alloc w _)⟩
theorem BoxT.cells {b : Nat} {t : T} {a : Option Addr} {c : Nat} {w : World} (h : BoxT b t a c w) : w.cell? ⟨b, 0, none⟩ = some (.int .i64 t.kind) ∧ w.cell? ⟨b, 1, none⟩ = some (.string t.name) ∧ w.cell? ⟨b, 2, none⟩ = some (.slice a t.kids.length c) := three_cells h.1
theorem BoxT.lt {b : Nat} {t : T} {a : Option Addr} {c : Nat} {w : World} (h : BoxT b t a c w) : b < w.heap.size := (Array.getElem?_eq_some_iff.1 h.1).1
/-- Types for variables lie in block b. -/
def BoxS (b : Nat) (v : Value) (d : List PR) (w : World) : Prop := w.heap[b]? = some (.cells #[v] 39 (0, 0)) ∧ SubAt v d w
theorem BoxS.below {b : Nat} {v : Value} {d : List PR} {w W : World} (h : BoxS b v d w) (hb : Below w.heap.size w W) : BoxS b v d W := ⟨(hb.block b (Array.getElem?_eq_some_iff.1 h.1).1).trans h.1, h.2.below hb⟩
theorem BoxS.alloc {b : Nat} {v : Value} {d : List PR} {w : World} (h : BoxS b v d w) (o : Obj) : BoxS b v d (w.alloc o) := h.below ((Below.refl _ w).alloc (Nat.le_refl _) o)
theorem BoxS.new {v : Value} {d : List PR} {w : World} (h : SubAt v d w) : BoxS w.heap.size v d (w.alloc (.cells #[v] 39)) := ⟨alloc_new w _, h.below ((Below.refl _ w).alloc (Nat.le_refl _) _)⟩
theorem BoxS.cell {b : Nat} {v : Value} {d : List PR} {w : World} (h : BoxS b v d w) : w.cell? ⟨b, 0, none⟩ = some v := by rw [Lib.cell_of_heap h.1]; rfl
theorem BoxS.lt {b : Nat} {v : Value} {d : List PR} {w : World} (h : BoxS b v d w) : b < w.heap.size := (Array.getElem?_eq_some_iff.1 h.1).1
theorem with_calls {P : Program} {f : Nat} {args : Array Value} {R : Ending → World → Prop} {w : World} (S : World → Prop) (h : S w) (k : ∀ W, S W → Calls P f args W R) : Calls P f args w R := k w h
theorem seq_new {w0 w : World} {a : Option Addr} {n c : Nat} (hb : Below w0.heap.size w0 w) (hl : IntsAt w0.heap.size a n w0) : SeqAt w0.heap.size w.heap.size a n c 0 (w.alloc (.cells #[.slice a n c, .int .i64 0] 27)) :=
  ⟨⟨hb.size, alloc_new w _⟩, hl.keep (hb.alloc hb.size _)⟩
theorem strs_two (w : World) (x y : ByteArray) : StrsP (.slice (some ⟨w.heap.size, 0, none⟩) 2 2) [x, y] (w.alloc (.cells #[.string x, .string y] 9)) :=
  .inr ⟨w.heap.size, 0, 2, rfl, by simp, fun i hi => by
    have h := alloc_new w (.cells #[.string x, .string y] 9)
    rw [Lib.cell_of_heap h]
    match i, hi with
    | 0, _ => rfl
    | 1, _ => rfl
    | n + 2, hi => simp at hi; omega⟩
theorem strs_three {w : World} {b : Nat} {x y z : ByteArray} (h : w.heap[b]? = some (.cells #[.string x, .string y, .string z] 9 (0, 0))) : StrsP (.slice (some ⟨b, 0, none⟩) 3 3) [x, y, z] w :=
  .inr ⟨b, 0, 3, rfl, (Array.getElem?_eq_some_iff.1 h).1, fun i hi => by
    rw [Lib.cell_of_heap h]
    match i, hi with
    | 0, _ => rfl
    | 1, _ => rfl
    | 2, _ => rfl
    | n + 3, hi => simp at hi; omega⟩

/-! Names for names. -/
/-- Of a made type: what is the same at a, b, c is the same. -/
theorem app_ext (d d' : List PR) (h : ∀ n : ByteArray, n.data.toList ∈ T.vnames → app d (.var n) = app d' (.var n)) : ∀ t, T.Good t → app d t = app d' t := by
  intro t
  refine T.by_kids (P := fun t => T.Good t → app d t = app d' t) (fun t H ht => ?_) t
  cases t with
  | var n => exact h n (by rwa [T.Good] at ht)
  | con n l =>
    rw [app, app, apps_map, apps_map]
    congr 1
    rw [T.Good] at ht
    exact List.map_congr_left fun k hk => H k hk (goods_mem ht.2 k hk)
  | fn a b =>
    rw [T.Good] at ht
    rw [app, app, H a (by simp [T.kids]) ht.1, H b (by simp [T.kids]) ht.2]
  | all n a => rw [T.Good] at ht; exact ht.elim
where
  goods_mem {l : List T} (h : T.Goods l) : ∀ k ∈ l, T.Good k := by
    induction l with
    | nil => intro k hk; cases hk
    | cons a l ih =>
      rw [T.Goods] at h
      intro k hk
      rcases List.mem_cons.1 hk with rfl | hk
      · exact h.1
      · exact ih h.2 k hk
theorem app_round (d d' : List PR) (h : ∀ n : ByteArray, n.data.toList ∈ T.vnames → app d (app d' (.var n)) = .var n) : ∀ t, T.Good t → app d (app d' t) = t := by
  intro t
  refine T.by_kids (P := fun t => T.Good t → app d (app d' t) = t) (fun t H ht => ?_) t
  cases t with
  | var n => exact h n (by rwa [T.Good] at ht)
  | con n l =>
    rw [app, app, apps_map, apps_map, List.map_map]
    congr 1
    rw [T.Good] at ht
    conv => rhs; rw [← List.map_id l]
    exact List.map_congr_left fun k hk => H k hk (app_ext.goods_mem ht.2 k hk)
  | fn a b =>
    rw [T.Good] at ht
    rw [app, app, H a (by simp [T.kids]) ht.1, H b (by simp [T.kids]) ht.2]
  | all n a => rw [T.Good] at ht; exact ht.elim
theorem app_same (d : List PR) (h : ∀ n : ByteArray, n.data.toList ∈ T.vnames → app d (.var n) = .var n) (t : T) (ht : T.Good t) : app d t = t := by
  have := app_round d [] (fun n hn => by rw [app_nil]; exact h n hn) t ht
  rwa [app_nil] at this
theorem size_app (d : List PR) (h : ∀ n : ByteArray, n.data.toList ∈ T.vnames → tsize (app d (.var n)) = 1) : ∀ t, T.Good t → tsize (app d t) = tsize t := by
  intro t
  refine T.by_kids (P := fun t => T.Good t → tsize (app d t) = tsize t) (fun t H ht => ?_) t
  cases t with
  | var n => rw [h n (by rwa [T.Good] at ht)]; rfl
  | con n l =>
    rw [T.Good] at ht
    rw [app, tsize, tsize, apps_map]
    have key : ∀ m : List T, (∀ k ∈ m, k ∈ l) → tsizes (m.map (app d)) = tsizes m := by
      intro m
      induction m with
      | nil => intro _; rfl
      | cons a m ih =>
        intro hm
        rw [List.map_cons, tsizes, tsizes, ih (fun k hk => hm k (List.mem_cons_of_mem _ hk)), H a (hm a (List.mem_cons_self ..)) (app_ext.goods_mem ht.2 a (hm a (List.mem_cons_self ..)))]
    rw [key l (fun k hk => hk)]
  | fn a b =>
    rw [T.Good] at ht
    rw [app, tsize, tsize, H a (by simp [T.kids]) ht.1, H b (by simp [T.kids]) ht.2]
  | all n a => rw [T.Good] at ht; exact ht.elim

def nA : ByteArray := ⟨#[97]⟩
def nB : ByteArray := ⟨#[98]⟩
def nC : ByteArray := ⟨#[99]⟩
def nX : ByteArray := ⟨#[120]⟩
def nZ : ByteArray := ⟨#[122, 122]⟩
theorem vn_cases {n : ByteArray} (h : n.data.toList ∈ T.vnames) : n = nA ∨ n = nB ∨ n = nC := by
  simp only [T.vnames, List.mem_cons, List.not_mem_nil, or_false] at h
  cases n with | mk d => cases d with | mk l =>
    simp only at h
    rcases h with rfl | rfl | rfl
    · exact .inl rfl
    · exact .inr (.inl rfl)
    · exact .inr (.inr rfl)
theorem app_v (n : ByteArray) (d : List PR) : app d (.var n) = ty n d := rfl
def dS : List PR := [⟨nA, .var nB, none, 0⟩, ⟨nB, .var nA, none, 0⟩]
def dU : List PR := [⟨nZ, .var nA, none, 0⟩]
def fromL : List ByteArray := [nA, nB, nC]
def toL : List ByteArray := [nC, nX, nB]
theorem tyc {n m : ByteArray} {t : T} {a : Option Addr} {c : Nat} {l : List PR} : ty n (⟨m, t, a, c⟩ :: l) = if m = n then t else ty n l := ty_cons n ⟨m, t, a, c⟩ l
theorem swap_twice (t : T) (h : T.Good t) : app dS (app dS t) = t := by
  refine app_round _ _ (fun n hn => ?_) t h
  rcases vn_cases hn with rfl | rfl | rfl
  · rw [app_v, dS, tyc, if_pos rfl, app_v, tyc, if_neg (by decide), tyc, if_pos rfl]
  · rw [app_v, dS, tyc, if_neg (by decide), tyc, if_pos rfl, app_v, tyc, if_pos rfl]
  · rw [app_v, dS, tyc, if_neg (by decide), tyc, if_neg (by decide), ty_nil, app_v, tyc, if_neg (by decide), tyc, if_neg (by decide), ty_nil]
theorem stays (t : T) (h : T.Good t) : app dU t = t := by
  refine app_same _ (fun n hn => ?_) t h
  rcases vn_cases hn with rfl | rfl | rfl <;> rw [app_v, dU, tyc, if_neg (by decide), ty_nil]
def dF : List PR := [⟨nA, .var nC, none, 0⟩, ⟨nB, .var nX, none, 0⟩, ⟨nC, .var nB, none, 0⟩]
def dT : List PR := [⟨nC, .var nA, none, 0⟩, ⟨nX, .var nB, none, 0⟩, ⟨nB, .var nC, none, 0⟩]
theorem prs_ft : prs fromL toL = dF := rfl
theorem prs_tf : prs toL fromL = dT := rfl
theorem there_back (t : T) (h : T.Good t) : app (prs toL fromL) (app (prs fromL toL) t) = t := by
  rw [prs_ft, prs_tf]
  refine app_round _ _ (fun n hn => ?_) t h
  rcases vn_cases hn with rfl | rfl | rfl
  · rw [app_v, dF, tyc, if_pos rfl, app_v, dT, tyc, if_pos rfl]
  · rw [app_v, dF, tyc, if_neg (by decide), tyc, if_pos rfl, app_v, dT, tyc, if_neg (by decide), tyc, if_pos rfl]
  · rw [app_v, dF, tyc, if_neg (by decide), tyc, if_neg (by decide), tyc, if_pos rfl, app_v, dT, tyc, if_neg (by decide), tyc, if_neg (by decide), tyc, if_pos rfl]
theorem swap_names (t : T) (h : T.Good t) : app (prs [nA, nB] [nB, nA]) t = app dS t := by
  refine app_ext _ _ (fun n _ => ?_) t h
  rfl
theorem swap_size (t : T) (h : T.Good t) : tsize (app dS t) = tsize t := by
  refine size_app _ (fun n hn => ?_) t h
  rcases vn_cases hn with rfl | rfl | rfl
  · rw [app_v, dS, tyc, if_pos rfl]; rfl
  · rw [app_v, dS, tyc, if_neg (by decide), tyc, if_pos rfl]; rfl
  · rw [app_v, dS, tyc, if_neg (by decide), tyc, if_neg (by decide), ty_nil]; rfl
theorem there_size (t : T) (h : T.Good t) : tsize (app (prs fromL toL) t) = tsize t := by
  rw [prs_ft]
  refine size_app _ (fun n hn => ?_) t h
  rcases vn_cases hn with rfl | rfl | rfl
  · rw [app_v, dF, tyc, if_pos rfl]; rfl
  · rw [app_v, dF, tyc, if_neg (by decide), tyc, if_pos rfl]; rfl
  · rw [app_v, dF, tyc, if_neg (by decide), tyc, if_neg (by decide), tyc, if_pos rfl]; rfl

theorem sized_made {d l : List PR} (h : Made d l) (hd : SizedAll d) : SizedAll l := fun x hx => by
  obtain ⟨y, hy, _, e⟩ := h.sub x hx
  rw [e]; exact hd y hy
/-- Calls whose results are told. -/
theorem apply_ret {d0 l : List PR} {t t' : T} (hm : Made d0 l) (hd : SizedAll d0) (hl : d0.length ≤ 1000) (ht : tsize t ≤ 1000000000) (e : app d0 t = t') {s : Value} {a : Option Addr} {c : Nat} {w : World} (hs : SubAt s l w) (h : TysAt w (.slice a t.kids.length c) t.kids) :
    Calls Try.prog 16 #[.agg #[s], .agg #[.int .i64 t.kind, .string t.name, .slice a t.kids.length c]] w fun e Y => (∃ za zc, e = .returned (.agg #[.int .i64 t'.kind, .string t'.name, .slice za t'.kids.length zc]) ∧ TysAt Y (.slice za t'.kids.length zc) t'.kids) ∧ Below w.heap.size w Y := by
  refine (apply_any (d := l) (t := t) (s := s) (w := w) (by have := hm.len; omega) (sized_made hm hd) ht hs h).mono ?_
  rintro e1 w5 ⟨⟨a, c, rfl, hin⟩, hb5⟩
  rw [made_ty hm, e] at hin ⊢
  exact ⟨⟨a, c, rfl, hin.tys⟩, hb5⟩
theorem rename_ret {F G : List ByteArray} {t t' : T} (hF : F.length ≤ 10) (hG : G.length ≤ 10) (ht : tsize t ≤ 1000000000) (e : app (prs F G) t = t') {u v : Value} {a : Option Addr} {c : Nat} {w : World} (hu : StrsP u F w) (hv : StrsP v G w) (h : TysAt w (.slice a t.kids.length c) t.kids) :
    Calls Try.prog 21 #[.agg #[.int .i64 t.kind, .string t.name, .slice a t.kids.length c], u, v] w fun e Y => (∃ za zc, e = .returned (.agg #[.int .i64 t'.kind, .string t'.name, .slice za t'.kids.length zc]) ∧ TysAt Y (.slice za t'.kids.length zc) t'.kids) ∧ Below w.heap.size w Y := by
  obtain ⟨b, m, rfl⟩ := hu.shape
  obtain ⟨b', m', rfl⟩ := hv.shape
  refine (rename_any t a b b' c m m' F G w h hu hv (by omega) (by omega) ht).mono ?_
  rintro e1 w5 ⟨⟨a, c, rfl, hin⟩, hb5⟩
  rw [e] at hin ⊢
  exact ⟨⟨a, c, rfl, hin.tys⟩, hb5⟩
theorem same_ret {t : T} (ht : tsize t ≤ 1000000000) {a b : Option Addr} {c d : Nat} {w : World} (h : TysAt w (.slice a t.kids.length c) t.kids) (h' : TysAt w (.slice b t.kids.length d) t.kids) :
    Calls Try.prog 15 #[.agg #[.int .i64 t.kind, .string t.name, .slice a t.kids.length c], .agg #[.int .i64 t.kind, .string t.name, .slice b t.kids.length d]] w fun e Y => e = .returned (.bool true) ∧ Below w.heap.size w Y := by
  have := sameType_any (t := t) (t' := t) (w := w) (fits_small ht) h h'
  rwa [eqB_true rfl] at this
theorem size_ret {t : T} {n : Nat} (ht : tsize t ≤ 1000000000) (e : tsize t = n) {a : Option Addr} {c : Nat} {w : World} (h : TysAt w (.slice a t.kids.length c) t.kids) :
    Calls Try.prog 24 #[.agg #[.int .i64 t.kind, .string t.name, .slice a t.kids.length c]] w fun e Y => e = .returned (.int .i64 (n : Nat)) ∧ Below w.heap.size w Y := by
  subst e; exact rsize_any ht h

/-- What the last statement of SubstOthers keeps. -/
def SO (w : World) (b5 b8 b9 b12 : Nat) (t sw : T) (pa pw : Option Addr) (ca cw : Nat) (sv uv frv tov : Value) (ls lu : List PR) (X : World) : Prop :=
  (BoxT b5 t pa ca X ∧ BoxT b12 sw pw cw X) ∧ (BoxS b8 sv ls X ∧ BoxS b9 uv lu X) ∧ (StrsP frv fromL X ∧ StrsP tov toL X) ∧ Below w.heap.size w X
theorem SO.below {w : World} {b5 b8 b9 b12 : Nat} {t sw : T} {pa pw : Option Addr} {ca cw : Nat} {sv uv frv tov : Value} {ls lu : List PR} {X Y : World} (h : SO w b5 b8 b9 b12 t sw pa pw ca cw sv uv frv tov ls lu X) (hb : Below X.heap.size X Y) : SO w b5 b8 b9 b12 t sw pa pw ca cw sv uv frv tov ls lu Y :=
  ⟨⟨h.1.1.below hb, h.1.2.below hb⟩, ⟨h.2.1.1.below hb, h.2.1.2.below hb⟩, ⟨h.2.2.1.1.below hb, h.2.2.1.2.below hb⟩, h.2.2.2.trans (hb.mono h.2.2.2.size)⟩
theorem SO.cells {w : World} {b5 b8 b9 b12 : Nat} {t sw : T} {pa pw : Option Addr} {ca cw : Nat} {sv uv frv tov : Value} {ls lu : List PR} {X : World} (h : SO w b5 b8 b9 b12 t sw pa pw ca cw sv uv frv tov ls lu X) :
    (X.cell? ⟨b5, 0, none⟩ = some (.int .i64 t.kind) ∧ X.cell? ⟨b5, 1, none⟩ = some (.string t.name) ∧ X.cell? ⟨b5, 2, none⟩ = some (.slice pa t.kids.length ca)) ∧ (X.cell? ⟨b12, 0, none⟩ = some (.int .i64 sw.kind) ∧ X.cell? ⟨b12, 1, none⟩ = some (.string sw.name) ∧ X.cell? ⟨b12, 2, none⟩ = some (.slice pw sw.kids.length cw)) ∧
    X.cell? ⟨b8, 0, none⟩ = some sv ∧ X.cell? ⟨b9, 0, none⟩ = some uv := ⟨h.1.1.cells, h.1.2.cells, h.2.1.1.cell, h.2.1.2.cell⟩
end Go.Proofs.Ytmbaolcdjgilpaa
