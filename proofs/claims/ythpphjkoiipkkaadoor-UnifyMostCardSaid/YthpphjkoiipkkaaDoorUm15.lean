/- Merged: SbRApp2, UfRThen, TyTexts, TyRVars, TyRPlain, TyRAllQ, TyRVars2. -/
import Derived.Test.YthpphjkoiipkkaaDoorUm14
import Derived.Test.YthpphjkoiipkkaaDoorUm13
import Derived.Deep.RegionLaw
import Derived.Test.YthpphjkoiipkkaaDoorUm8
import Derived.Deep.AppendLies
import Derived.Deep.RegionHeld3
import Derived.Deep.DrawnRows
import Derived.BigRegion
/- The document's Apply, of all types. -/
namespace Go.Proofs.YthpphjkoiipkkaaDoor
open Go.RowKit Go.Sort Go.Lib
attribute [local go_sem] Oper.semAt_some

/-- One more at the row's end: what lay beside the row lies beside it still. -/
theorem beside_next {ok : Nat → Prop} {X w1 : World} {o : Obj} {s v' : Value} {g : Nat} {xs : List Tl} {x : Tl} (hx : ∀ y ∈ xs, TyIn (fun k => ok k ∧ some k ≠ s.ownBlock) X y.1 (.slice y.2.1 y.1.kids.length y.2.2)) (hnew : TyIn (fun k => ok k ∧ some k ≠ s.ownBlock) X x.1 (.slice x.2.1 x.1.kids.length x.2.2))
    (hg : (X.alloc o).grownBy w1 s.ownBlock) (hat : s.ownBlock = some g ∨ g = (X.alloc o).heap.size) (hv' : v'.ownBlock = some g) : ∀ y ∈ xs ++ [x], TyIn (fun k => ok k ∧ some k ≠ v'.ownBlock) w1 y.1 (.slice y.2.1 y.1.kids.length y.2.2) := by
  have key : ∀ {t : T} {v : Value}, TyIn (fun k => ok k ∧ some k ≠ s.ownBlock) X t v → TyIn (fun k => ok k ∧ some k ≠ v'.ownBlock) w1 t v := fun {t v} ht => by
    have hgk : ∀ k, some k ≠ s.ownBlock ∧ k < X.heap.size → k ≠ g := fun k hk e => by
      subst e
      rcases hat with e | e
      · exact hk.1 e.symm
      · have := hk.2; simp at e; omega
    refine (ht.lt.keep fun k cs fz hk hh => ?_).mono fun k hk => ⟨hk.1.1, by rw [hv']; exact fun e => hgk k ⟨hk.1.2, hk.2⟩ (by simpa using e)⟩
    exact (hg.block k (by simp; omega) hk.1.2).trans ((Below.heap_alloc X o k hk.2).trans hh)
  intro y hy
  rcases List.mem_append.1 hy with hy | hy
  · exact key (hx y hy)
  · rw [List.mem_singleton.1 hy]; exact key hnew
theorem cell_new3 (w : World) (x y z : Value) (t : TypeId) : ∀ j v, [x, y, z][j]? = some v → (w.alloc (.cells #[x, y, z] t)).cell? ((⟨w.heap.size, 0, none⟩ : Addr).add j) = some v := by
  intro j v hv
  have hadd : (⟨w.heap.size, 0, none⟩ : Addr).add j = ⟨w.heap.size, j, none⟩ := by unfold Addr.add; split <;> simp_all
  rw [hadd]
  have := alloc_new w (.cells #[x, y, z] t)
  simp only [World.cell?, this]
  match j, hv with
  | 0, hv => simpa using hv
  | 1, hv => simpa using hv
  | 2, hv => simpa using hv
  | n + 3, hv => simp at hv
/-- What the loop keeps. -/
def AI (N : Nat) (w : World) (l : List T) (v : Value) (n : Nat) (wr : World) : Prop :=
  (∃ xs : List Tl, (xs.map (·.1) = l ∧ n = xs.length) ∧ wr.ownsRow (w.heap.size + 1 + 1) 29 3 v xs.length (cellsOf xs) ∧ ∀ x ∈ xs, TyIn (fun k => (k < N ∨ w.heap.size + 1 + 1 ≤ k) ∧ some k ≠ v.ownBlock) wr x.1 (.slice x.2.1 x.1.kids.length x.2.2)) ∧ Below w.heap.size w wr ∧ w.heap.size + 1 + 1 ≤ wr.heap.size
theorem AI.below {N : Nat} {w : World} {l : List T} {v : Value} {n : Nat} {X Y : World} (h : AI N w l v n X) (hb : Below X.heap.size X Y) : AI N w l v n Y := by
  obtain ⟨⟨xs, h1, h2, h3⟩, h4, h5⟩ := h
  refine ⟨⟨xs, h1, row_kept h2 fun k _ _ hk => (hb.block k (Array.getElem?_eq_some_iff.1 hk).1).trans hk, fun x hx => (h3 x hx).keep fun k _ _ _ hk => (hb.block k (Array.getElem?_eq_some_iff.1 hk).1).trans hk⟩, h4.trans (hb.mono h4.size), Nat.le_trans h5 hb.size⟩

set_option maxRecDepth 100000 in
set_option maxHeartbeats 4000000 in
theorem rapp_step (d : List PR) (t : T) (hv : ∀ n, t ≠ .var n) (H : ∀ k ∈ t.kids, RApp d k) : RApp d t := by
  intro N v a c w hs ht hz
  have hz' := tsize_eq t
  have hlen := len_sizes' t.kids
  have hk1 := kind_one hv
  obtain ⟨p1, p2, p3⟩ := app_parts d t hv
  have HS := Lib.hid hs
  have HR := Lib.hid ht.part
  have HH := Lib.hid H
  have HN := Lib.hid hs.2.2
  obtain ⟨av, cv, rfl, _⟩ := hs.1.shape
  obtain ⟨i0, hi, hz0, hz1, hz2⟩ := info_parts Tryd.infoTy
  have HB2 := Lib.hid (fun o1 o2 => below_two w o1 o2)
  have HP := Lib.hid (And.intro p1 (And.intro p2 p3))
  clear hs ht H p1 p2 p3 hv
  simp only [tyV]
  go_enter Tryd.func15, Tryd.ntmps15
  go_wp2
  go_loopw [7, 8] (fun vo vi wr => ∃ (i n e : Nat) (b : Option Addr), i ≤ t.kids.length ∧ vi = .int .i64 i ∧ vo = .slice b n e ∧ Hid (AI N w ((t.kids.take i).map (app d)) (.slice b n e) n wr) ∧ Hid (wr.heap[w.heap.size]? = some (.cells #[.int .i64 t.kind, .string t.name, .slice a t.kids.length c] 29 (0, 0)) ∧ wr.heap[w.heap.size + 1]? = some (.cells #[.int .i64 0, .string ⟨#[]⟩, .slice none 0 0] 29 (0, 0)))) (fun _ vi _ => t.kids.length - (intOf vi).toNat)
  case atStart =>
    exact ⟨0, 0, 0, none, Nat.zero_le _, rfl, rfl, Lib.hid ⟨⟨[], ⟨rfl, rfl⟩, World.ownsRow_nil _ _ _ _, (fun _ h => nomatch h)⟩, HB2.out _ _, by simp⟩, Lib.hid ⟨(Below.heap_alloc _ _ _ (by simp)).trans (alloc_new w _), new_two w _ _⟩⟩
  case round =>
    obtain ⟨i, n, e, b, hi', rfl, rfl, hF, hBox⟩ := hrel
    obtain ⟨b0, b1, b2⟩ := three_cells hBox.out.1
    obtain ⟨z0, z1, z2⟩ := three_cells hBox.out.2
    have lz := (Array.getElem?_eq_some_iff.1 hBox.out.2).1
    have ly := (Array.getElem?_eq_some_iff.1 hBox.out.1).1
    by_cases hlt : i < t.kids.length
    · obtain ⟨⟨xs, ⟨hx1, rfl⟩, hrow, hbs⟩, hBl, hsz⟩ := hF.out
      obtain ⟨g, pa, ca, rfl, hcap, hr⟩ := HR.out i hlt
      obtain ⟨⟨hg, x0, x1, x2⟩, xk⟩ := hr wr (fun k hk hx => hBl.block k hx)
      have hkk := size_mem' (List.getElem_mem hlt)
      have HC := Lib.hid (HH.out t.kids[i] (List.getElem_mem hlt) N _ pa ca wr (HS.out.below hBl) xk (by omega))
      obtain rfl : i = xs.length := by have := congrArg List.length hx1; simp at this; omega
      have HTk := Lib.hid (show (t.kids.take (xs.length + 1)).map (app d) = (t.kids.take xs.length).map (app d) ++ [app d t.kids[xs.length]] by rw [List.take_succ_eq_append_getElem hlt, List.map_append]; rfl)
      have HX1 := Lib.hid hx1
      have HRow := Lib.hid hrow; have HBs := Lib.hid hbs; have HBl := Lib.hid hBl; have HSz := Lib.hid hsz
      have HPc := Lib.hid HP.out.1
      clear hr xk hkk HH HR hx1 hrow hbs hBl hF
      generalize t.kids[xs.length] = u at x0 x1 x2 HC HTk
      simp only [tyV] at HC
      have hlt1 : ((xs.length : Int) < (t.kids.length : Int)) := by omega
      have hxs : xs.length ≤ 1000000000 := by omega
      go_wp2_with (first
        | (go_at_call 15; refine HC.out.mono ?_; rintro e2 w2 ⟨⟨a2, c2, rfl, g1⟩, g2⟩; have G1 := Lib.hid g1; have G2 := Lib.hid g2; have hq1 := (g2.block _ ly).trans hBox.out.1; have hq2 := (g2.block _ lz).trans hBox.out.2; have HBox2 := Lib.hid (And.intro hq1 hq2); have HRow2 := Lib.hid (row_kept HRow.out fun k cs fz hk => (g2.block k (Array.getElem?_eq_some_iff.1 hk).1).trans hk); clear g1 g2 hq1 hq2)
        | (at_builtin; refine wpList_append_lies _ rfl _ _ 27 rfl (w.heap.size + 1 + 1) 29 i0 (.agg #[.int .i64 0, .string ⟨#[]⟩, .slice none 0 0]) 3 48 Tryd.underlying27 hi hz0 hz1 hz2 rfl (by decide) _ _ _ rfl (HRow2.out.alloc _) ⟨w2.heap.size, 0, none⟩ 1 1 [.int .i64 (app d u).kind, .string (app d u).name, .slice a2 (app d u).kids.length c2] rfl rfl (cell_new3 _ _ _ _ _) (by simp [Value.oneCell']) (by decide) (by unfold maxLen; omega) (by omega) (by have := HSz.out; have := G2.out.size; simp; omega) _ rfl ?_; intro g3 cap3 w3 ho3 hg3 hat3 hlt3; have HO3 := Lib.hid ho3; have HG3 := Lib.hid hg3; have HAt3 := Lib.hid hat3; clear ho3 hg3 hat3 hlt3))
      go_roundw
      case rel =>
        have hlo := HRow.out.lt
        have hw2 := G2.out.size
        have hwl := HBl.out.size
        refine ⟨xs.length + 1, xs.length + 1, cap3, some ⟨g3, 0, none⟩, by omega, by go_num, rfl, Lib.hid ⟨⟨xs ++ [(app d u, a2, c2)], ⟨?_, by simp⟩, ?_, ?_⟩, ?_, ?_⟩, Lib.hid ⟨?_, ?_⟩⟩
        · rw [HTk.out, List.map_append, HX1.out]; rfl
        · rw [cellsOf_snoc, List.length_append]; exact HO3.out
        · refine beside_next (fun y hy => (HBs.out y hy).keep fun k _ _ _ hk => (G2.out.block k (Array.getElem?_eq_some_iff.1 hk).1).trans hk) (G1.out.mono fun k hk => ⟨?_, fun e => ?_⟩) HG3.out HAt3.out rfl
          · rcases hk with hk | hk
            · exact .inl hk
            · exact .inr (Nat.le_trans HSz.out hk)
          · have := hlo k e.symm
            have := HN.out
            rcases hk with hk | hk <;> omega
        · exact ((HBl.out.trans (G2.out.mono hwl)).alloc (by omega) _).grown HG3.out (by simp; omega) (fun j hj => by have := (hlo j hj).1; omega)
        · have := HG3.out.size; simp at this; omega
        · exact (HG3.out.block _ (by simp; omega) (fun e => by have := (hlo _ e.symm).1; omega)).trans ((Below.heap_alloc w2 _ _ (by omega)).trans HBox2.out.1)
        · exact (HG3.out.block _ (by simp; omega) (fun e => by have := (hlo _ e.symm).1; omega)).trans ((Below.heap_alloc w2 _ _ (by omega)).trans HBox2.out.2)
      case measure => simp [intOf]; omega
    · obtain rfl : i = t.kids.length := by omega
      rw [List.take_length] at hF
      have fb := Lib.frozen_of_heap hBox.out.1 2
      have u0 := Lib.frozen_of_heap hBox.out.2 0
      have u1 := Lib.frozen_of_heap hBox.out.2 1
      have u2 := Lib.frozen_of_heap hBox.out.2 2
      clear HR HH HS
      go_wp2
      obtain ⟨⟨xs, ⟨hx1, rfl⟩, hrow, hbs⟩, hBl, hsz⟩ := hF.out
      have hz4 := (Below.heap_setCell wr ⟨w.heap.size, 2, none⟩ (.slice b xs.length e) (w.heap.size + 1) (by simp)).trans hBox.out.2
      have hs3 := set3_block hz4 (.int .i64 t.kind) (.string t.name) (.slice b xs.length e)
      have hc := three_cells hs3
      have hlen2 : (app d t).kids.length = xs.length := by rw [HP.out.2.2, ← hx1]; simp
      have hin : TyIn (fun k => k < N ∨ w.heap.size + 1 + 1 ≤ k) wr (app d t) (.slice b xs.length e) := in_of_row (by rw [HP.out.2.2, hx1]) hrow (fun g hg => .inr (hrow.lt g hg).1) (fun x hx => (hbs x hx).mono fun k hk => hk.1)
      refine bodyPost_ret (v := .agg #[.int .i64 t.kind, .string t.name, .slice b xs.length e]) (by simp [results, Tryd.results15, go_sem, hc.1, hc.2.1, hc.2.2]) rfl ⟨⟨b, e, by rw [HP.out.1, HP.out.2.1, hlen2], ?_⟩, below_set3 (hBl.setCell (p := ⟨w.heap.size, 2, none⟩) (Nat.le_refl _) _) (Nat.le_succ _) _ _ _⟩
      rw [hlen2]
      refine (hin.keep fun k _ _ hk hh => ?_).mono fun k hk => hk.imp id (fun h => by omega)
      have hkN : k ≠ w.heap.size ∧ k ≠ w.heap.size + 1 := by have := HN.out; rcases hk with hk | hk <;> omega
      exact (set3_others _ _ _ hkN.2).trans ((Below.heap_setCell wr ⟨w.heap.size, 2, none⟩ _ k hkN.1).trans hh)
theorem rapp_ok (d : List PR) (hl : d.length < 1000000) (t : T) : RApp d t :=
  T.by_kids (P := RApp d) (fun t H => by
    cases t with
    | var n => exact rapp_var d hl n
    | con n l => exact rapp_step d _ (fun m h => by cases h) H
    | fn a b => exact rapp_step d _ (fun m h => by cases h) H
    | all n a => exact rapp_step d _ (fun m h => by cases h) H) t
/-- The document's Apply, whose result is told. -/
theorem rapp_big {d : List PR} {v : Value} {t : T} {a : Option Addr} {c : Nat} {w : World} (hl : d.length < 1000000) (hg : GivenG 53 v d w) (ht : Typ d w) (h : TysAt w (.slice a t.kids.length c) t.kids) (hz : tsize t ≤ 1000000000) :
    Calls Tryd.prog 15 #[v, .agg #[.int .i64 t.kind, .string t.name, .slice a t.kids.length c]] w fun e Y => (∃ za zc, e = .returned (.agg #[.int .i64 (app d t).kind, .string (app d t).name, .slice za (app d t).kids.length zc]) ∧ TysAt Y (.slice za (app d t).kids.length zc) (app d t).kids) ∧ Below w.heap.size w Y := by
  have lt : ∀ (k : Nat) (cs : Array Value) (fz : Nat × Nat), w.heap[k]? = some (.cells cs 29 fz) → k < w.heap.size := fun k _ _ hk => (Array.getElem?_eq_some_iff.1 hk).1
  refine (rapp_ok d hl t w.heap.size v a c w ⟨hg, fun x hx => (ht x hx).inside lt, Nat.le_refl _⟩ (h.inside lt) hz).mono ?_
  rintro e Y ⟨⟨a', c', rfl, hin⟩, hb⟩
  exact ⟨⟨a', c', rfl, hin.tys⟩, hb⟩
theorem rapp_ret {d : List PR} {v : Value} {t : T} {a : Option Addr} {c : Nat} {w : World} (hl : d.length < 1000000) (hg : GivenG 53 v d w) (ht : Typ d w) (h : TysAt w (.slice a t.kids.length c) t.kids) (hz : tsize t ≤ 1000000) :
    Calls Tryd.prog 15 #[v, .agg #[.int .i64 t.kind, .string t.name, .slice a t.kids.length c]] w fun e Y => (∃ za zc, e = .returned (.agg #[.int .i64 (app d t).kind, .string (app d t).name, .slice za (app d t).kids.length zc]) ∧ TysAt Y (.slice za (app d t).kids.length zc) (app d t).kids) ∧ Below w.heap.size w Y :=
  rapp_big hl hg ht h (Nat.le_trans hz (by decide))
end Go.Proofs.YthpphjkoiipkkaaDoor
/- The document's Then. -/
namespace Go.Proofs.YthpphjkoiipkkaaDoor
open Go.RowKit Go.Sort Go.Lib
attribute [local go_sem] Oper.semAt_some

/-- A pair without its place. -/
def nt (x : PR) : ByteArray × T := (x.n, x.t)
theorem ty_nt (n : ByteArray) : ∀ {l m : List PR}, l.map nt = m.map nt → ty n l = ty n m
  | [], [], _ => rfl
  | [], _ :: _, h => by cases h
  | _ :: _, [], h => by cases h
  | x :: l, y :: m, h => by
    rw [List.map_cons, List.map_cons] at h
    injection h with h1 h2
    have e := ty_nt n h2
    simp only [nt, Prod.mk.injEq] at h1
    unfold ty at e ⊢
    rw [lk_cons, lk_cons, h1.1]
    by_cases c : y.n = n
    · rw [if_pos c, if_pos c]; simp [h1.2]
    · rw [if_neg c, if_neg c]; exact e
theorem own_below4 {W W' : World} {base : Nat} {e : TypeId} {size : Nat} {v : Value} {n : Nat} {xs : List Value} (h : W.ownsRow base e size v n xs) (hb : Below W.heap.size W W') : W'.ownsRow base e size v n xs :=
  row_kept h fun k _ _ hk => (hb.block k (Array.getElem?_eq_some_iff.1 hk).1).trans hk
/-- The pairs that were made so far. -/
def TnI (w : World) (vo : Value) (ls : List PR) (want : List (ByteArray × T)) (X : World) : Prop :=
  ls.map nt = want ∧ (X.ownsRow w.heap.size 53 4 vo ls.length (cellsP ls) ∧ (ls = [] → vo = .slice none 0 0)) ∧ Typ ls X ∧ Below w.heap.size w X
theorem TnI.start (w : World) (o : World) (hb : Below w.heap.size w o) : TnI w (.slice none 0 0) [] [] o := ⟨rfl, ⟨World.ownsRow_nil _ _ _ _, fun _ => rfl⟩, (fun _ h => nomatch h), hb⟩
theorem TnI.below {w : World} {vo : Value} {ls : List PR} {want : List (ByteArray × T)} {X Y : World} (h : TnI w vo ls want X) (hb : Below X.heap.size X Y) : TnI w vo ls want Y :=
  ⟨h.1, ⟨own_below4 h.2.1.1 hb, h.2.1.2⟩, h.2.2.1.keep (KeepT.of_below hb), h.2.2.2.trans (hb.mono h.2.2.2.size)⟩
theorem TnI.next {w : World} {vo v' : Value} {ls : List PR} {want : List (ByteArray × T)} {x : PR} {X W : World} {o : Obj} (h : TnI w vo ls want X) (hx : TysAt X (.slice x.a x.t.kids.length x.c) x.t.kids) (ho : W.ownsRow w.heap.size 53 4 v' (ls.length + 1) (cellsP ls ++ encP x))
    (hg : (X.alloc o).grownBy W vo.ownBlock) : TnI w v' (ls ++ [x]) (want ++ [nt x]) W := by
  have hsz := h.2.2.2.size
  have hk : KeepT X W := (keepT_alloc X _).trans (KeepT.grown hg (h.2.1.1.alloc _) (by decide))
  refine ⟨by rw [List.map_append, h.1]; rfl, ⟨?_, fun e => by simp at e⟩, fun y hy => ?_, (h.2.2.2.alloc hsz _).grown hg (by simp; omega) fun j hj => (h.2.1.1.lt j hj).1⟩
  · rw [cellsP_snoc, List.length_append]; exact ho
  · rcases List.mem_append.1 hy with hy | hy
    · exact (h.2.2.1 y hy).keep hk
    · obtain rfl := List.mem_singleton.1 hy
      exact hx.keep hk
theorem take_none {d e : List PR} {i : Nat} (h : i < e.length) (hn : lk (e.getD i noP).n d = none) : ((e.take (i + 1)).filter fun y => (lk y.n d).isNone).map nt = ((e.take i).filter fun y => (lk y.n d).isNone).map nt ++ [nt (e.getD i noP)] := by
  have e1 : e.getD i noP = e[i] := by simp [List.getD, h]
  rw [e1] at hn ⊢
  rw [List.take_succ_eq_append_getElem h, List.filter_append, List.map_append]
  simp [hn]
theorem take_some {d e : List PR} {i : Nat} {x : PR} (h : i < e.length) (hn : lk (e.getD i noP).n d = some x) : ((e.take (i + 1)).filter fun y => (lk y.n d).isNone).map nt = ((e.take i).filter fun y => (lk y.n d).isNone).map nt := by
  have e1 : e.getD i noP = e[i] := by simp [List.getD, h]
  rw [e1] at hn
  rw [List.take_succ_eq_append_getElem h, List.filter_append, List.map_append]
  simp [hn]
theorem thenR_nt (d e : List PR) : (thenR d e).map nt = (d.map fun x => (x.n, app e x.t)) ++ (e.filter fun y => (lk y.n d).isNone).map nt := by
  unfold thenR
  rw [List.map_append, List.map_map]; rfl
set_option maxRecDepth 100000 in
set_option maxHeartbeats 4000000 in
theorem rthen_any (sv uv : Value) (d e : List PR) (w : World) (hl : d.length < 1000) (hm : e.length < 1000) (hd : GivenG 53 sv d w) (he : GivenG 53 uv e w) (td : Typ d w) (te : Typ e w) (hq : ∀ x ∈ d, tsize x.t ≤ 1000000000) :
    Calls Tryd.prog 57 #[sv, uv] w fun E w' => (∃ v q, E = .returned v ∧ GivenG 53 v q w' ∧ Typ q w' ∧ q.map nt = (thenR d e).map nt) ∧ Below w.heap.size w w' := by
  obtain ⟨i0, hi, hz0, hz1, hz2⟩ := info_parts Tryd.infoRefPair
  have HD := Lib.hid hd; have HE := Lib.hid he; have HTd := Lib.hid td; have HTe := Lib.hid te; have HQ := Lib.hid hq
  obtain ⟨sa, sc, rfl, hsr⟩ := hd.shape
  obtain ⟨ua, uc, rfl, hur⟩ := he.shape
  have HS := Lib.hid hsr; have HU := Lib.hid hur
  clear hd he td te hq hsr hur
  go_enter Tryd.func57, Tryd.ntmps57
  go_wp2
  go_loopw [5, 6] (fun vo vi wr => ∃ (i : Nat) (ls : List PR), i ≤ d.length ∧ vi = .int .i64 i ∧ ls.length = i ∧ Hid (TnI w vo ls ((d.take i).map fun x => (x.n, app e x.t)) wr)) (fun _ vi _ => d.length - (intOf vi).toNat)
  case atStart => exact ⟨0, [], Nat.zero_le _, rfl, rfl, Lib.hid (TnI.start w w (Below.refl _ _))⟩
  case round =>
    obtain ⟨i, ls, hi', rfl, hll, hF⟩ := hrel
    by_cases hlt : i < d.length
    · obtain ⟨oa, oc, rfl⟩ := row_val hF.out.2.1.1
      have hB := hF.out.2.2.2
      obtain ⟨g, rfl, hr⟩ := HS.out i hlt
      obtain ⟨x0, x1, x2, x3⟩ := (hr.below hB).cells hlt
      have hgw : g < wr.heap.size := (hr.below hB).lt
      have hxs := HQ.out (d.getD i noP) (getD_mem hlt)
      have HA := Lib.hid (fun (V : World) (hb : Below w.heap.size w V) => rapp_big (d := e) (t := (d.getD i noP).t) (v := .slice ua e.length uc) (a := (d.getD i noP).a) (c := (d.getD i noP).c) (w := V) (by omega) (HE.out.below hb) (HTe.out.keep (KeepT.of_below hb)) ((HTd.out (d.getD i noP) (getD_mem hlt)).keep (KeepT.of_below hb)) hxs)
      have HM := Lib.hid (show (d.take (i + 1)).map (fun x => (x.n, app e x.t)) = (d.take i).map (fun x => (x.n, app e x.t)) ++ [((d.getD i noP).n, app e (d.getD i noP).t)] by rw [List.take_succ_eq_append_getElem hlt, List.map_append, show d.getD i noP = d[i] by simp [List.getD, hlt]]; rfl)
      have hls : ls.length < 1000 := by omega
      have HLen := Lib.hid hll
      have HB := Lib.hid hB
      clear hr hxs hll hB
      generalize d.getD i noP = q at x0 x1 x2 x3 HA HM
      obtain ⟨qn, qt, qa, qc⟩ := q
      simp only at x0 x1 x2 x3 HA HM
      have hiz : (i : Int) < (d.length : Int) := by omega
      go_wp2
      go_region_law (first
        | (refine run_bare rfl ?_; go_simp; go_at_call 15; refine (HA.out wr.drew HB.out.drew).mono ?_; rintro E w4 ⟨⟨a4, c4, rfl, hin⟩, hb4⟩; have hb4' : Below wr.heap.size wr w4 := (Below.refl _ wr).drew.trans hb4; have x04 := (hb4'.cell (p := ⟨g, i * 4, none⟩) hgw).trans x0; have HF4 := Lib.hid (hF.out.below hb4'); have HI4 := Lib.hid hin; clear hin hb4 hb4')
        | (refine step_append_lies _ (by rfl) _ _ 38 (by rfl) w.heap.size 53 i0 (.agg zeroP) 4 64 Tryd.underlying38 hi hz0 hz1 hz2 rfl (by decide) _ _ _ (by rfl) (HF4.out.2.1.1.alloc _) ⟨w4.heap.size, 0, none⟩ 1 1 [.string qn, .int .i64 (app e qt).kind, .string (app e qt).name, .slice a4 (app e qt).kids.length c4] (by rfl) rfl (cell_new4 _ _ _ _ _ _) (by simp [Value.oneCell']) (by decide) (by unfold maxLen; omega) (by omega) (by have := HF4.out.2.2.2.size; simp; omega) _ rfl ?_; intro g5 cap5 w5 ho5 hg5 hat5 hlt5; have HN5 := Lib.hid (HF4.out.next (x := ⟨qn, app e qt, a4, c4⟩) HI4.out ho5 hg5); clear ho5 hg5 hat5 hlt5))
      all_goals
        go_wp2
        go_roundw
        case rel => exact ⟨i + 1, ls ++ [⟨qn, app e qt, a4, c4⟩], by omega, by go_num, by simp [HLen.out], Lib.hid (by rw [HM.out]; exact HN5.out)⟩
        case measure => simp [intOf]; omega
    · obtain rfl : i = d.length := by omega
      have hF0 := hF.out
      rw [List.take_length] at hF0
      have HF0 := Lib.hid hF0
      have hiz : ¬ ((d.length : Int) < (d.length : Int)) := by omega
      clear hF hF0
      go_wp2
      go_loopw [5, 7] (fun vo vi wr2 => ∃ (i : Nat) (ls : List PR), i ≤ e.length ∧ vi = .int .i64 i ∧ ls.length ≤ 1000 + i ∧ Hid (TnI w vo ls ((d.map fun x => (x.n, app e x.t)) ++ ((e.take i).filter fun y => (lk y.n d).isNone).map nt) wr2)) (fun _ vi _ => e.length - (intOf vi).toNat)
      case atStart => exact ⟨0, ls, Nat.zero_le _, rfl, by omega, by simpa using HF0⟩
      case round =>
        obtain ⟨i, ls, hi', rfl, hll2, hF⟩ := hrel
        by_cases hlt : i < e.length
        · obtain ⟨oa, oc, rfl⟩ := row_val hF.out.2.1.1
          have hB := hF.out.2.2.2
          obtain ⟨g, rfl, hr⟩ := HU.out i hlt
          have hgw : g < wr.heap.size := (hr.below hB).lt
          have HR := Lib.hid (fun (V : World) (hb : Below w.heap.size w V) => (hr.below hb).cells hlt)
          have HX := Lib.hid (fun (V : World) (hb : Below w.heap.size w V) => (HTe.out (e.getD i noP) (getD_mem hlt)).keep (KeepT.of_below hb))
          have HG := Lib.hid (rget_any (.slice sa d.length sc) d (e.getD i noP).n wr (HD.out.below hB) (by omega))
          have HT1 := Lib.hid (fun h => take_none (d := d) hlt h)
          have HT2 := Lib.hid (fun x h => take_some (d := d) (x := x) hlt h)
          obtain ⟨x0, x1, x2, x3⟩ := HR.out wr hB
          have hls : ls.length < 2000 := by omega
          have hiz : (i : Int) < (e.length : Int) := by omega
          have HB := Lib.hid hB
          clear hr hB
          generalize e.getD i noP = q at *
          obtain ⟨qn, qt, qa, qc⟩ := q
          simp only at x0 x1 x2 x3 HG HT1 HT2 HX HR
          cases hres : lk qn d with
          | none =>
            have HM := Lib.hid (HT1.out hres)
            rw [hres] at HG
            simp only [fv', Option.isSome_none] at HG
            clear hres HT1 HT2
            go_wp2_with (first
              | (go_at_call 33; refine HG.out.mono ?_; rintro E w2 ⟨rfl, hb2⟩; have HF2 := Lib.hid ((hF.out.below hb2).below ((Below.refl _ w2).alloc (Nat.le_refl _) (.cells #[.int .i64 0, .string ⟨#[]⟩, .slice none 0 0] 29 (0, 0)))); have HX2 := Lib.hid ((HX.out w2 (HB.out.trans (hb2.mono HB.out.size))).keep (keepT_alloc w2 (.cells #[.int .i64 0, .string ⟨#[]⟩, .slice none 0 0] 29 (0, 0)))); clear x0 x1 x2 x3; obtain ⟨x0, x1, x2, x3⟩ := HR.out w2 (HB.out.trans (hb2.mono HB.out.size)); have hg2 : g < w2.heap.size := Nat.lt_of_lt_of_le hgw hb2.size; clear hb2 HG HR HX)
              | (at_builtin; refine wpList_append_lies _ rfl _ _ 38 rfl w.heap.size 53 i0 (.agg zeroP) 4 64 Tryd.underlying38 hi hz0 hz1 hz2 rfl (by decide) _ _ _ rfl (HF2.out.2.1.1.alloc _) ⟨w2.heap.size + 1, 0, none⟩ 1 1 [.string qn, .int .i64 qt.kind, .string qt.name, .slice qa qt.kids.length qc] rfl rfl (cell_new4' _ _ _ _ _ _ _) (by simp [Value.oneCell']) (by decide) (by unfold maxLen; omega) (by omega) (by have := HF2.out.2.2.2.size; simp at this ⊢; omega) _ rfl ?_; intro g5 cap5 w5 ho5 hg5 hat5 hlt5; have HN5 := Lib.hid (HF2.out.next (x := ⟨qn, qt, qa, qc⟩) HX2.out ho5 hg5); clear ho5 hg5 hat5 hlt5 x0 x1 x2 x3))
            go_roundw
            case rel => exact ⟨i + 1, ls ++ [⟨qn, qt, qa, qc⟩], by omega, by go_num, by simp; omega, Lib.hid (by rw [HM.out, ← List.append_assoc]; exact HN5.out)⟩
            case measure => simp [intOf]; omega
          | some x =>
            have HM := Lib.hid (HT2.out x hres)
            rw [hres] at HG
            simp only [fv', Option.isSome_some] at HG
            clear hres HT1 HT2
            go_wp2_with (go_at_call 33; refine HG.out.mono ?_; rintro E w2 ⟨rfl, hb2⟩; have HF2 := Lib.hid ((hF.out.below hb2).below ((Below.refl _ w2).alloc (Nat.le_refl _) (.cells #[.int .i64 x.t.kind, .string x.t.name, .slice x.a x.t.kids.length x.c] 29 (0, 0)))); clear hb2 HG HR HX)
            go_roundw
            case rel => exact ⟨i + 1, ls, by omega, by go_num, by omega, Lib.hid (by rw [HM.out]; exact HF2.out)⟩
            case measure => simp [intOf]; omega
        · obtain rfl : i = e.length := by omega
          have hF1 := hF.out
          rw [List.take_length, ← thenR_nt] at hF1
          have HF1 := Lib.hid hF1
          have hiz : ¬ ((e.length : Int) < (e.length : Int)) := by omega
          clear hF hF1
          go_wp2
          go_ret
          exact ⟨⟨_, rfl, ls, given_of_row HF1.out.2.1.1 HF1.out.2.1.2, HF1.out.2.2.1, HF1.out.1⟩, HF1.out.2.2.2⟩
end Go.Proofs.YthpphjkoiipkkaaDoor
/- Texts in rows: where one is, whether two rows are the same. -/
namespace Go.Proofs.YthpphjkoiipkkaaDoor
open Go.RowKit
attribute [local go_sem] Oper.semAt_some

theorem TextsAt.part {w : World} {a : Option Addr} {n c : Nat} {l : List ByteArray} (h : TextsAt w (.slice a n c) l) : n = l.length ∧ ∀ i (hi : i < l.length), ∃ g, a = some ⟨g, 0, none⟩ ∧ l.length ≤ c ∧ g < w.heap.size ∧ ∀ W : World, (∀ (k : Nat) (cs : Array Value) (fz : Nat × Nat), w.heap[k]? = some (.cells cs 9 fz) → W.heap[k]? = some (.cells cs 9 fz)) → W.cell? ⟨g, i, none⟩ = some (.string l[i]) := by
  obtain ⟨a', cap, e, h⟩ := h
  cases e
  refine ⟨rfl, fun i hi => ?_⟩
  rcases h with h | ⟨g, e, hc, cs, fz, hg, hh⟩
  · subst h; cases hi
  · refine ⟨g, e, hc, (Array.getElem?_eq_some_iff.1 hg).1, fun W hW => ?_⟩
    rw [Lib.cell_of_heap (hW _ _ _ hg)]; exact hh i hi
theorem TextsAt.shape {w : World} {v : Value} {l : List ByteArray} (h : TextsAt w v l) : ∃ a c, v = .slice a l.length c := by
  obtain ⟨a, c, e, _⟩ := h
  exact ⟨a, c, e⟩
theorem TextsAt.below {w w' : World} {v : Value} {l : List ByteArray} (h : TextsAt w v l) (hb : Below w.heap.size w w') : TextsAt w' v l := h.keep fun k _ _ hk => (hb.block k (Array.getElem?_eq_some_iff.1 hk).1).trans hk

/-- Is it none of the first i? -/
theorem inB_false {l : List ByteArray} {s : ByteArray} (h : ∀ i (hi : i < l.length), ¬ l[i] = s) : inB l s = false := by
  cases hb : inB l s with
  | false => rfl
  | true =>
    obtain ⟨i, hi, e⟩ := List.getElem_of_mem (inB_iff.1 hb)
    exact absurd e (h i hi)

set_option maxHeartbeats 2000000 in
theorem place_any (l : List ByteArray) (hl : l.length ≤ 1000000000) (s : ByteArray) (a : Option Addr) (c : Nat) (w : World) (h : TextsAt w (.slice a l.length c) l) :
    Calls Tryd.prog 65 #[.slice a l.length c, .string s] w fun e w' => (∃ r : Int, e = .returned (.int .i64 r) ∧ decide (0 ≤ r) = inB l s) ∧ w = w' := by
  have HR := Lib.hid (h.part.2)
  clear h
  go_enter Tryd.func65, Tryd.ntmps65
  go_wp2
  go_loop [5] (fun vi => ∃ i : Nat, i ≤ l.length ∧ vi = .int .i64 i ∧ Hid (∀ j (hj : j < l.length), j < i → ¬ l[j] = s)) (fun vi => l.length - (intOf vi).toNat)
  case atStart => exact ⟨0, Nat.zero_le _, rfl, Lib.hid fun j _ h => absurd h (by omega)⟩
  case round =>
    obtain ⟨i, hi, rfl, hS⟩ := hrel
    by_cases hlt : i < l.length
    · obtain ⟨g, rfl, hc, hg, hh⟩ := HR.out i hlt
      have x0 := hh w (fun _ _ _ h => h)
      have hb : (l[i].toList == s.toList) = eqB l[i] s := bytes_beq _ _
      have HE := Lib.hid (show l[i] = l[i] from rfl)
      obtain ⟨u, hu⟩ : ∃ u, l[i] = u := ⟨_, rfl⟩
      have HU := Lib.hid hu
      rw [hu] at x0 hb
      clear hh hu HR HE
      have hlt1 : ((i : Int) < (l.length : Int)) := by omega
      by_cases hq : u = s
      · rw [eqB_true hq] at hb
        have HQ := Lib.hid hq
        clear hq
        go_wp2
        go_ret
        exact ⟨⟨(i : Int), rfl, by
          have : inB l s = true := inB_iff.2 (by rw [← HQ.out, ← HU.out]; exact List.getElem_mem hlt)
          rw [this]; simp⟩, rfl⟩
      · rw [eqB_false hq] at hb
        have HQ := Lib.hid hq
        clear hq
        go_wp2
        go_round
        case rel => exact ⟨i + 1, by omega, by go_num, Lib.hid fun j hj hji => by
          by_cases e : j = i
          · subst e; rw [HU.out]; exact HQ.out
          · exact hS.out j hj (by omega)⟩
        case measure => simp [intOf]; omega
    · obtain rfl : i = l.length := by omega
      clear HR
      go_wp2
      go_ret
      exact ⟨⟨-1, rfl, by rw [inB_false (fun j hj => hS.out j hj hj)]; rfl⟩, rfl⟩

set_option maxHeartbeats 2000000 in
theorem hasR_any (l : List ByteArray) (hl : l.length ≤ 1000000000) (s : ByteArray) (a : Option Addr) (c : Nat) (w : World) (h : TextsAt w (.slice a l.length c) l) :
    Calls Tryd.prog 55 #[.slice a l.length c, .string s] w fun e w' => e = .returned (.bool (inB l s)) ∧ w = w' := by
  have HP := Lib.hid (place_any l hl s a c w h)
  clear h
  go_enter Tryd.func55, Tryd.ntmps55
  go_wp2_with (go_at_call 65; refine HP.out.mono ?_; rintro e w2 ⟨⟨r, rfl, hr⟩, rfl⟩)
  go_ret
  exact ⟨rfl, rfl⟩

end Go.Proofs.YthpphjkoiipkkaaDoor
/- The document's variables of a type: Texts, vars, Vars. -/
namespace Go.Proofs.YthpphjkoiipkkaaDoor
open Go.RowKit
attribute [local go_sem] Oper.semAt_some

theorem make_strs (n : Nat) (hn : n ≤ 1000000000) (w : World) :
    (Instr.makeSlice 65 (.int .i64 0) (.int .i64 (n : Int))).run Tryd.prog w = .ok (.slice (some ⟨w.heap.size, 0, none⟩) 0 n) (w.alloc (.cells (madeCells #[.string ⟨#[]⟩] n) 9)) := by
  obtain ⟨i, hi, hzz⟩ := Option.map_eq_some_iff.1 Tryd.infoStr
  simp only [Prod.mk.injEq] at hzz
  obtain ⟨hz, hs, hb⟩ := hzz
  have hr := run_make (P := Tryd.prog) w 65 9 i _ Tryd.underlying65 hi hz .i64 .i64 0 n (by omega) (by omega) (by rw [hb]; omega) (by omega)
  simp only [Int.toNat_natCast, hs, Nat.mul_one] at hr
  exact hr
theorem below_grown {B : Nat} {w X w1 : World} {o : Obj} {e : TypeId} {size n : Nat} {v : Value} {xs : List Value} (hB : Below B w X) (hown : X.ownsRow B e size v n xs) (hg : (X.alloc o).grownBy w1 v.ownBlock) (hb : B ≤ X.heap.size) : Below B w w1 :=
  hB.trans ⟨hg.os, hg.tape, hg.output, by have := hg.size; simp at this; omega, fun k hk => (hg.block k (by simp; omega) fun e => by have := (hown.lt k e.symm).1; omega).trans (Below.heap_alloc X o k (by omega))⟩

set_option maxHeartbeats 2000000 in
theorem textsR_any (l : List ByteArray) (hl : l.length ≤ 1000000000) (a : Option Addr) (c : Nat) (w : World) (h : TextsAt w (.slice a l.length c) l) :
    Calls Tryd.prog 75 #[.slice a l.length c] w fun e w' => (∃ v, e = .returned v ∧ w'.ownsRow w.heap.size 9 1 v l.length (l.map Value.string)) ∧ Below w.heap.size w w' := by
  have HR := Lib.hid (h.part.2)
  have hmk := make_strs l.length (by omega)
  obtain ⟨i0, hi, hz0, hz1, hz2⟩ := info_parts Tryd.infoStr
  clear h
  go_enter Tryd.func75, Tryd.ntmps75
  go_wp2
  go_loopw [3, 4] (fun v vi wr => ∃ (i : Nat) (b : Option Addr) (d : Nat), i ≤ l.length ∧ vi = .int .i64 i ∧ v = .slice b i d ∧ Hid (Below w.heap.size w wr) ∧ Hid (wr.ownsRow w.heap.size 9 1 (.slice b i d) i ((l.take i).map Value.string))) (fun _ vi _ => l.length - (intOf vi).toNat)
  case atStart => exact ⟨0, _, _, Nat.zero_le _, rfl, rfl, Lib.hid ((Below.refl _ w).alloc (Nat.le_refl _) _), Lib.hid (World.ownsRow_made w _ l.length (Nat.le_refl _) (by unfold maxLen; omega) (by simp [size_madeCells]))⟩
  case round =>
    obtain ⟨i, b, d, hi', rfl, rfl, hB, hO⟩ := hrel
    by_cases hlt : i < l.length
    · obtain ⟨g, rfl, hc, hg, hh⟩ := HR.out i hlt
      have x0 := hh wr (fun k _ _ hk => (hB.out.block k (Array.getElem?_eq_some_iff.1 hk).1).trans hk)
      have htk : l.take (i + 1) = l.take i ++ [l[i]] := by rw [List.take_succ_eq_append_getElem hlt]
      have HT := Lib.hid htk
      have hgr : g < wr.heap.size := Nat.lt_of_lt_of_le hg hB.out.size
      clear hh HR htk hmk
      generalize l[i] = u at x0 HT
      have hlt1 : ((i : Int) < (l.length : Int)) := by omega
      go_wp2_with (at_builtin; refine wpList_append_own _ rfl _ _ 65 rfl w.heap.size 9 i0 (.string ⟨#[]⟩) 1 16 Tryd.underlying65 hi hz0 hz1 hz2 rfl (by decide) _ _ _ rfl (hO.out.alloc _) ⟨wr.heap.size, 0, none⟩ 1 1 [.string u] rfl rfl (new_one _ _ _) (by simp [Value.oneCell']) (by unfold maxLen; omega) (by omega) (by simp; have := hB.out.size; omega) ?_; intro v' w1 hown' hgrow _; obtain ⟨ga, gc, rfl⟩ := row_slice hown'; have HOW := Lib.hid hown'; have HBW := Lib.hid (below_grown hB.out hO.out hgrow hB.out.size); clear hown' hgrow)
      go_roundw
      case rel => exact ⟨i + 1, ga, gc, by omega, by go_num, rfl, HBW, Lib.hid (by rw [HT.out, List.map_append]; exact HOW.out)⟩
      case measure => simp [intOf]; omega
    · obtain rfl : i = l.length := by omega
      rw [List.take_length] at hO
      clear HR hmk
      go_wp2
      go_ret
      exact ⟨⟨_, rfl, hO.out⟩, hB.out⟩

mutual
theorem fv_congr (t : T) (bd bd' out : List ByteArray) (h : ∀ x, x ∈ bd ↔ x ∈ bd') : fv bd out t = fv bd' out t := by
  cases t with
  | var n =>
    rw [fv, fv]
    by_cases hx : n ∈ bd ∨ n ∈ out
    · rw [if_pos hx, if_pos (by rw [← h]; exact hx)]
    · rw [if_neg hx, if_neg (by rw [← h]; exact hx)]
  | con n l => rw [fv, fv]; exact fvs_congr l bd bd' out h
  | fn a b => rw [fv, fv, fv_congr a bd bd' out h, fv_congr b bd bd' _ h]
  | all n a => rw [fv, fv]; exact fv_congr a _ _ out (fun x => by simp only [List.mem_cons, h])
theorem fvs_congr (l : List T) (bd bd' out : List ByteArray) (h : ∀ x, x ∈ bd ↔ x ∈ bd') : fvs bd out l = fvs bd' out l := by
  cases l with
  | nil => rw [fvs, fvs]
  | cons a l => rw [fvs, fvs, fv_congr a bd bd' out h, fvs_congr l bd bd' _ h]
end

def RVarsOK (t : T) : Prop := ∀ (bd out : List ByteArray) (oa ba a : Option Addr) (oc bc c : Nat) (w : World), TextsAt w (.slice oa out.length oc) out → TextsAt w (.slice ba bd.length bc) bd → TysAt w (.slice a t.kids.length c) t.kids →
    out.length + tsize t ≤ 1000000000 → bd.length + tsize t ≤ 1000000000 →
    Calls Tryd.prog 66 #[.slice oa out.length oc, .slice ba bd.length bc, tyV t (.slice a t.kids.length c)] w fun e w' => (∃ v, e = .returned v ∧ TextsAt w' v (fv bd out t)) ∧ Below w.heap.size w w'

theorem own_base {W : World} {b b' : Nat} {e : TypeId} {size n : Nat} {v : Value} {xs : List Value} (h : W.ownsRow b e size v n xs) (hb : b' ≤ b) : W.ownsRow b' e size v n xs := by
  refine ⟨h.1, ?_⟩
  rcases h.2 with h | ⟨g, cap, cur, rfl, hg, r⟩
  · exact .inl h
  · exact .inr ⟨g, cap, cur, rfl, Nat.le_trans hb hg, r⟩
theorem below_grown0 {B : Nat} {w X w1 : World} {e : TypeId} {size n : Nat} {v : Value} {xs : List Value} (hB : Below B w X) (hown : X.ownsRow B e size v n xs) (hg : X.grownBy w1 v.ownBlock) (hb : B ≤ X.heap.size) : Below B w w1 :=
  hB.trans ⟨hg.os, hg.tape, hg.output, hg.size, fun k hk => hg.block k (by omega) fun e => by have := (hown.lt k e.symm).1; omega⟩
theorem texts_snoc {W : World} {base : Nat} {v : Value} {l : List ByteArray} {x : ByteArray} (h : W.ownsRow base 9 1 v (l.length + 1) (l.map Value.string ++ [.string x])) : TextsAt W v (l ++ [x]) := by
  have e : l.length + 1 = (l ++ [x]).length := by simp
  have e2 : l.map Value.string ++ [.string x] = (l ++ [x]).map Value.string := by simp
  rw [e, e2] at h
  exact TextsAt.of_row h
set_option maxRecDepth 100000 in
set_option maxHeartbeats 4000000 in
theorem rvars_var (t : T) (hk : t.kind = 1) (h0 : t.kids = []) (bd out : List ByteArray) (oa ba a : Option Addr) (oc bc c : Nat) (w : World) (ho : TextsAt w (.slice oa out.length oc) out) (hb : TextsAt w (.slice ba bd.length bc) bd) (hol : out.length ≤ 1000000000) (hbl : bd.length ≤ 1000000000) (hn : out.length < 1000000000) :
    Calls Tryd.prog 66 #[.slice oa out.length oc, .slice ba bd.length bc, tyV t (.slice a t.kids.length c)] w fun e w' => (∃ v, e = .returned v ∧ TextsAt w' v (if inB out t.name = true ∨ inB bd t.name = true then out else out ++ [t.name])) ∧ Below w.heap.size w w' := by
  have hl : t.kids.length = 0 := by rw [h0]; rfl
  rw [hl]
  simp only [tyV, hk]
  have HBd := Lib.hid (fun o => (Below.refl _ w).alloc (Nat.le_refl _) o)
  have HO := Lib.hid (fun (V : World) (k : Below w.heap.size w V) => hasR_any out (by omega) t.name oa oc V (ho.below k))
  have HBb := Lib.hid (fun (V : World) (k : Below w.heap.size w V) => hasR_any bd (by omega) t.name ba bc V (hb.below k))
  have HOut := Lib.hid ho
  have HTx := Lib.hid (fun (V : World) (k : Below w.heap.size w V) => textsR_any out hol oa oc V (ho.below k))
  clear hl h0 hb ho
  cases h1 : inB out t.name with
  | true =>
    rw [if_pos (.inl rfl)]
    rw [h1] at HO
    clear h1 HBb HTx
    go_enter Tryd.func66, Tryd.ntmps66
    go_wp2_with (go_at_call 55; refine (HO.out _ ?kk).mono ?_; (case kk => exact HBd.out _); rintro e w2 ⟨rfl, rfl⟩)
    go_ret
    exact ⟨⟨_, rfl, HOut.out.below (HBd.out _)⟩, HBd.out _⟩
  | false =>
    rw [h1] at HO
    cases h2 : inB bd t.name with
    | true =>
      rw [if_pos (.inr rfl)]
      rw [h2] at HBb
      clear h1 h2 HTx
      go_enter Tryd.func66, Tryd.ntmps66
      go_wp2_with (go_at_call 55; first | ((with_reducible refine (HO.out _ ?kk).mono ?_); (case kk => exact HBd.out _); rintro e w2 ⟨rfl, rfl⟩) | ((with_reducible refine (HBb.out _ ?kk).mono ?_); (case kk => exact HBd.out _); rintro e w2 ⟨rfl, rfl⟩))
      go_ret
      exact ⟨⟨_, rfl, HOut.out.below (HBd.out _)⟩, HBd.out _⟩
    | false =>
      rw [if_neg (fun e => by simp at e)]
      rw [h2] at HBb
      clear h1 h2
      go_enter Tryd.func66, Tryd.ntmps66
      go_wp2_with (go_at_call 55; first | ((with_reducible refine (HO.out _ ?kk).mono ?_); (case kk => exact HBd.out _); rintro e w2 ⟨rfl, rfl⟩) | ((with_reducible refine (HBb.out _ ?kk).mono ?_); (case kk => exact HBd.out _); rintro e w2 ⟨rfl, rfl⟩))
      obtain ⟨i0, hi, hz0, hz1, hz2⟩ := info_parts Tryd.infoStr
      refine with_worldC (fun V => Below w.heap.size w V ∧ V.heap[w.heap.size]? = some (.cells #[.int .i64 1, .string t.name, .slice a 0 c] 29 (0, 0))) ⟨HBd.out _, alloc_new w _⟩ ?_
      rintro V ⟨hbV, hbox⟩
      obtain ⟨z0, z1, z2⟩ := three_cells hbox
      have HBV := Lib.hid hbV; have HBox := Lib.hid hbox
      have lV := (Array.getElem?_eq_some_iff.1 hbox).1
      have al : Hid (∀ (o : Obj), (V.alloc o).cell? ⟨w.heap.size, 1, none⟩ = some (.string t.name)) := Lib.hid fun o => (((Below.refl V.heap.size V).alloc (Nat.le_refl _) o).cell (p := ⟨w.heap.size, 1, none⟩) lV).trans z1
      clear hbV hbox
      go_region_held3 (fun V' => V'.cell? ⟨w.heap.size, 1, none⟩ = some (.string t.name)) (first | exact z1 | exact al.out _ | exact y1 | exact aly.out _ | exact u1)
        (first
          | (go_at_call 75; refine (HTx.out V.drew ?kk).mono ?_; (case kk => exact HBV.out.drew); rintro e Y ⟨⟨v, rfl, hown⟩, hbY⟩; obtain ⟨va, vc, rfl⟩ := row_slice hown; have y1 := (hbY.cell (p := ⟨w.heap.size, 1, none⟩) lV).trans z1; have lY : V.heap.size ≤ Y.heap.size := hbY.size; have HBY := Lib.hid (HBV.out.trans (((Below.refl _ V).drew.trans hbY).mono HBV.out.size)); have aly : Hid (∀ (o : Obj), (Y.alloc o).cell? ⟨w.heap.size, 1, none⟩ = some (.string t.name)) := Lib.hid (fun o => (((Below.refl Y.heap.size Y).alloc (Nat.le_refl _) o).cell (p := ⟨w.heap.size, 1, none⟩) (by show w.heap.size < Y.heap.size; omega)).trans y1); have HBoxY := Lib.hid ((hbY.block w.heap.size lV).trans HBox.out); have HOW := Lib.hid (show Y.ownsRow V.heap.size 9 1 _ _ _ from hown); clear hown hbY)
          | (go_at_call 75; refine (HTx.out (V.alloc (.cells #[.string t.name] 9)).drew ?kk).mono ?_; (case kk => exact (HBV.out.alloc HBV.out.size _).drew); rintro e Y ⟨⟨v, rfl, hown⟩, hbY⟩; obtain ⟨va, vc, rfl⟩ := row_slice hown; have hnb : Y.heap[V.heap.size]? = some (.cells #[.string t.name] 9 (0, 0)) := (hbY.block V.heap.size (by simp)).trans (alloc_new V _); have y1 : Y.cell? ⟨w.heap.size, 1, none⟩ = some (.string t.name) := (hbY.cell (p := ⟨w.heap.size, 1, none⟩) (by simp; omega)).trans (al.out _); have lY : V.heap.size < Y.heap.size := (Array.getElem?_eq_some_iff.1 hnb).1; have HBY := Lib.hid (HBV.out.trans ((((Below.refl _ V).alloc (Nat.le_refl _) _).drew.trans (hbY.mono (by simp))).mono HBV.out.size)); have HBoxY := Lib.hid ((hbY.block w.heap.size (by simp; omega)).trans ((Below.heap_alloc V _ _ lV).trans HBox.out)); have HNB := Lib.hid (World.news_of_block hnb); have hown' : Y.ownsRow (V.heap.size + 1) 9 1 (.slice va out.length vc) out.length (out.map Value.string) := (by simpa using hown); have HOW := Lib.hid hown'; clear hown hown' hbY hnb)
          | (refine step_append_lies _ (by rfl) _ _ 65 (by rfl) V.heap.size 9 i0 (.string ⟨#[]⟩) 1 16 Tryd.underlying65 hi hz0 hz1 hz2 rfl (by decide) _ out.length (out.map Value.string) (by rfl) (HOW.out.alloc _) ⟨Y.heap.size, 0, none⟩ 1 1 [.string t.name] (by rfl) rfl (new_one _ _ _) (by simp [Value.oneCell']) (by decide) (by unfold maxLen; omega) (by omega) (by simp; omega) (Y.heap.size + 1) (by simp) ?_; intro g' cap' w1 hown1 hgrow _ _; have hb1 := Lib.hid (below_grown (B := w.heap.size) HBY.out (own_base HOW.out HBV.out.size) hgrow (Nat.le_trans HBV.out.size lY)); have bx1 := Lib.hid ((row_other (HOW.out.alloc _) hgrow ((Below.heap_alloc Y _ _ (by omega)).trans HBoxY.out) (by decide))); have u1 : w1.cell? ⟨w.heap.size, 1, none⟩ = some (.string t.name) := (by rw [Lib.cell_of_heap bx1.out]; rfl); have HFin := Lib.hid (texts_snoc hown1); clear hown1 hgrow)
          | (refine step_append_lies _ (by rfl) _ _ 65 (by rfl) (V.heap.size + 1) 9 i0 (.string ⟨#[]⟩) 1 16 Tryd.underlying65 hi hz0 hz1 hz2 rfl (by decide) _ out.length (out.map Value.string) (by rfl) HOW.out ⟨V.heap.size, 0, none⟩ 1 1 [.string t.name] (by rfl) rfl HNB.out (by simp [Value.oneCell']) (by decide) (by unfold maxLen; omega) (by omega) (by omega) Y.heap.size rfl ?_; intro g' cap' w1 hown1 hgrow _ _; have hb1 := Lib.hid (below_grown0 (B := w.heap.size) HBY.out (own_base HOW.out (by have := HBV.out.size; omega)) hgrow (by have := HBV.out.size; omega)); have bx1 := Lib.hid (row_other HOW.out hgrow HBoxY.out (by decide)); have u1 : w1.cell? ⟨w.heap.size, 1, none⟩ = some (.string t.name) := (by rw [Lib.cell_of_heap bx1.out]; rfl); have HFin := Lib.hid (texts_snoc hown1); clear hown1 hgrow))
      all_goals
        clear y1
        go_wp2
        go_ret
        exact ⟨⟨_, rfl, HFin.out⟩, hb1.out⟩
end Go.Proofs.YthpphjkoiipkkaaDoor
/- The document's vars, of a constructor, of a function. -/
namespace Go.Proofs.YthpphjkoiipkkaaDoor
open Go.RowKit
attribute [local go_sem] Oper.semAt_some

set_option maxHeartbeats 800000 in
theorem rvars_plain (t : T) (H : ∀ k ∈ t.kids, RVarsOK k) (hk1 : ¬ t.kind = 1) (hk4 : ¬ t.kind = 4) (bd out : List ByteArray) (oa ba a : Option Addr) (oc bc c : Nat) (w : World) (ho : TextsAt w (.slice oa out.length oc) out) (hb : TextsAt w (.slice ba bd.length bc) bd) (ht : TysAt w (.slice a t.kids.length c) t.kids)
    (hol : out.length + tsize t ≤ 1000000000) (hbl : bd.length + tsize t ≤ 1000000000) :
    Calls Tryd.prog 66 #[.slice oa out.length oc, .slice ba bd.length bc, tyV t (.slice a t.kids.length c)] w fun e w' => (∃ v, e = .returned v ∧ TextsAt w' v (fvs bd out t.kids)) ∧ Below w.heap.size w w' := by
  have q1 : (t.kind == 1) = false := by simpa using hk1
  have q4 : (t.kind == 4) = false := by simpa using hk4
  have hz := tsize_eq t
  have hlen := len_sizes' t.kids
  have HBd := Lib.hid (fun o => (Below.refl _ w).alloc (Nat.le_refl _) o)
  have HR := Lib.hid ht.part
  have HS := Lib.hid H
  have HO := Lib.hid ho; have HBb := Lib.hid hb
  clear hk1 hk4 ht H ho hb
  simp only [tyV]
  go_enter Tryd.func66, Tryd.ntmps66
  go_wp2
  go_loopw [0, 7] (fun vo vi wr => ∃ (i : Nat) (b : Option Addr) (d n : Nat), i ≤ t.kids.length ∧ vi = .int .i64 i ∧ vo = .slice b n d ∧ Hid (n = (fvs bd out (t.kids.take i)).length ∧ TextsAt wr (.slice b n d) (fvs bd out (t.kids.take i)) ∧ Below w.heap.size w wr) ∧ Hid (TextsAt wr (.slice ba bd.length bc) bd) ∧ Hid (wr.heap[w.heap.size]? = some (.cells #[.int .i64 t.kind, .string t.name, .slice a t.kids.length c] 29 (0, 0)))) (fun _ vi _ => t.kids.length - (intOf vi).toNat)
  case atStart => exact ⟨0, oa, oc, out.length, Nat.zero_le _, rfl, rfl, Lib.hid ⟨by simp [fvs], by simpa [fvs] using HO.out.below (HBd.out _), HBd.out _⟩, Lib.hid (HBb.out.below (HBd.out _)), Lib.hid (alloc_new w _)⟩
  case round =>
    obtain ⟨i, ob, od, n, hi', rfl, rfl, hF, hBd, hBox⟩ := hrel
    obtain ⟨b0, b1, b2⟩ := three_cells hBox.out
    by_cases hlt : i < t.kids.length
    · obtain ⟨hn, hT, hBl⟩ := hF.out
      obtain ⟨g, pa, ca, rfl, hcap, hr⟩ := HR.out i hlt
      obtain ⟨⟨hg, x0, x1, x2⟩, xk⟩ := hr wr (KeepT.of_below hBl)
      have hsz := tsizes_take t.kids i hlt
      have hl1 := fvs_len (t.kids.take i) bd out
      have hkk := size_mem' (List.getElem_mem hlt)
      rw [hn] at hT ⊢
      have HC := Lib.hid (HS.out t.kids[i] (List.getElem_mem hlt) bd (fvs bd out (t.kids.take i)) ob ba pa od bc ca wr hT hBd.out xk (by omega) (by omega))
      rw [← fvs_drop bd out t.kids i hlt] at HC
      have HB1 := Lib.hid hBl
      clear hr xk hsz hl1 hkk HS HR hF hT hBl hn
      generalize t.kids[i] = u at x0 x1 x2 HC
      simp only [tyV] at HC
      have hlt1 : ((i : Int) < (t.kids.length : Int)) := by omega
      generalize (fvs bd out (t.kids.take i)).length = m at HC ⊢
      go_wp2_with (go_at_call 66; refine HC.out.mono ?_; rintro e w2 ⟨⟨v2, rfl, hT2⟩, hb2⟩; obtain ⟨oe, of, rfl⟩ := hT2.shape; have HF2 := Lib.hid (⟨hT2, HB1.out.trans (hb2.mono HB1.out.size)⟩ : TextsAt w2 (.slice oe (fvs bd out (t.kids.take (i + 1))).length of) (fvs bd out (t.kids.take (i + 1))) ∧ Below w.heap.size w w2); have HBd2 := Lib.hid (hBd.out.below hb2); have HBox2 := Lib.hid ((hb2.block _ (Array.getElem?_eq_some_iff.1 hBox.out).1).trans hBox.out); clear hT2 hb2)
      go_roundw
      case rel => exact ⟨i + 1, oe, of, _, by omega, by go_num, rfl, Lib.hid ⟨rfl, HF2.out⟩, HBd2, HBox2⟩
      case measure => simp [intOf]; omega
    · obtain rfl : i = t.kids.length := by omega
      rw [List.take_length] at hF
      clear HR HS
      go_wp2
      go_ret
      exact ⟨⟨_, rfl, hF.out.2.1⟩, hF.out.2.2⟩
end Go.Proofs.YthpphjkoiipkkaaDoor
/- The document's vars, of a type for all. -/
namespace Go.Proofs.YthpphjkoiipkkaaDoor
open Go.RowKit
attribute [local go_sem] Oper.semAt_some

set_option maxRecDepth 100000 in
set_option maxHeartbeats 1000000 in
theorem rvars_all (t : T) (H : ∀ k ∈ t.kids, RVarsOK k) (hk4 : t.kind = 4) (bd out : List ByteArray) (oa ba a : Option Addr) (oc bc c : Nat) (w : World) (ho : TextsAt w (.slice oa out.length oc) out) (hb : TextsAt w (.slice ba bd.length bc) bd) (ht : TysAt w (.slice a t.kids.length c) t.kids)
    (hol : out.length + tsize t ≤ 1000000000) (hbl : bd.length + tsize t ≤ 1000000000) :
    Calls Tryd.prog 66 #[.slice oa out.length oc, .slice ba bd.length bc, tyV t (.slice a t.kids.length c)] w fun e w' => (∃ v, e = .returned v ∧ TextsAt w' v (fvs (bd ++ [t.name]) out t.kids)) ∧ Below w.heap.size w w' := by
  have hz := tsize_eq t
  have hlen := len_sizes' t.kids
  have hbl2 : bd.length ≤ 1000000000 := by omega
  have HBd := Lib.hid (fun o => (Below.refl _ w).alloc (Nat.le_refl _) o)
  have HR := Lib.hid ht.part
  have HS := Lib.hid H
  have HO := Lib.hid ho
  have HTb := Lib.hid (fun (V : World) (k : Below w.heap.size w V) => textsR_any bd hbl2 ba bc V (hb.below k))
  clear ht H ho hb
  simp only [tyV, hk4]
  clear hk4
  go_enter Tryd.func66, Tryd.ntmps66
  go_wp2
  obtain ⟨i0, hi, hz0, hz1, hz2⟩ := info_parts Tryd.infoStr
  refine with_worldC (fun V => Below w.heap.size w V ∧ V.heap[w.heap.size]? = some (.cells #[.int .i64 4, .string t.name, .slice a t.kids.length c] 29 (0, 0))) ⟨HBd.out _, alloc_new w _⟩ ?_
  rintro V ⟨hbV, hbox⟩
  obtain ⟨z0, z1, z2⟩ := three_cells hbox
  have HBV := Lib.hid hbV; have HBox := Lib.hid hbox
  have lV := (Array.getElem?_eq_some_iff.1 hbox).1
  have al : Hid (∀ (o : Obj), (V.alloc o).cell? ⟨w.heap.size, 1, none⟩ = some (.string t.name)) := Lib.hid fun o => (((Below.refl V.heap.size V).alloc (Nat.le_refl _) o).cell (p := ⟨w.heap.size, 1, none⟩) lV).trans z1
  clear hbV hbox
  go_region_held3 (fun V' => V'.cell? ⟨w.heap.size, 1, none⟩ = some (.string t.name)) (first | exact z1 | exact al.out _ | exact y1 | exact aly.out _ | exact u1)
    (first
      | (go_at_call 75; refine (HTb.out V.drew ?kk).mono ?_; (case kk => exact HBV.out.drew); rintro e Y ⟨⟨v, rfl, hown⟩, hbY⟩; obtain ⟨va, vc, rfl⟩ := row_slice hown; have y1 := (hbY.cell (p := ⟨w.heap.size, 1, none⟩) lV).trans z1; have lY : V.heap.size ≤ Y.heap.size := hbY.size; have HBY := Lib.hid (HBV.out.trans (((Below.refl _ V).drew.trans hbY).mono HBV.out.size)); have aly : Hid (∀ (o : Obj), (Y.alloc o).cell? ⟨w.heap.size, 1, none⟩ = some (.string t.name)) := Lib.hid (fun o => (((Below.refl Y.heap.size Y).alloc (Nat.le_refl _) o).cell (p := ⟨w.heap.size, 1, none⟩) (by show w.heap.size < Y.heap.size; omega)).trans y1); have HBoxY := Lib.hid ((hbY.block w.heap.size lV).trans HBox.out); have HOW := Lib.hid (show Y.ownsRow V.heap.size 9 1 _ _ _ from hown); clear hown hbY)
      | (go_at_call 75; refine (HTb.out (V.alloc (.cells #[.string t.name] 9)).drew ?kk).mono ?_; (case kk => exact (HBV.out.alloc HBV.out.size _).drew); rintro e Y ⟨⟨v, rfl, hown⟩, hbY⟩; obtain ⟨va, vc, rfl⟩ := row_slice hown; have hnb : Y.heap[V.heap.size]? = some (.cells #[.string t.name] 9 (0, 0)) := (hbY.block V.heap.size (by simp)).trans (alloc_new V _); have y1 : Y.cell? ⟨w.heap.size, 1, none⟩ = some (.string t.name) := (hbY.cell (p := ⟨w.heap.size, 1, none⟩) (by simp; omega)).trans (al.out _); have lY : V.heap.size < Y.heap.size := (Array.getElem?_eq_some_iff.1 hnb).1; have HBY := Lib.hid (HBV.out.trans ((((Below.refl _ V).alloc (Nat.le_refl _) _).drew.trans (hbY.mono (by simp))).mono HBV.out.size)); have HBoxY := Lib.hid ((hbY.block w.heap.size (by simp; omega)).trans ((Below.heap_alloc V _ _ lV).trans HBox.out)); have HNB := Lib.hid (World.news_of_block hnb); have hown' : Y.ownsRow (V.heap.size + 1) 9 1 (.slice va bd.length vc) bd.length (bd.map Value.string) := (by simpa using hown); have HOW := Lib.hid hown'; clear hown hown' hbY hnb)
      | (refine step_append_lies _ (by rfl) _ _ 65 (by rfl) V.heap.size 9 i0 (.string ⟨#[]⟩) 1 16 Tryd.underlying65 hi hz0 hz1 hz2 rfl (by decide) _ bd.length (bd.map Value.string) (by rfl) (HOW.out.alloc _) ⟨Y.heap.size, 0, none⟩ 1 1 [.string t.name] (by rfl) rfl (new_one _ _ _) (by simp [Value.oneCell']) (by decide) (by unfold maxLen; omega) (by omega) (by simp; omega) (Y.heap.size + 1) (by simp) ?_; intro g' cap' w1 hown1 hgrow _ _; have hb1 := Lib.hid (below_grown (B := w.heap.size) HBY.out (own_base HOW.out HBV.out.size) hgrow (Nat.le_trans HBV.out.size lY)); have bx1 := Lib.hid ((row_other (HOW.out.alloc _) hgrow ((Below.heap_alloc Y _ _ (by omega)).trans HBoxY.out) (by decide))); have u1 : w1.cell? ⟨w.heap.size, 1, none⟩ = some (.string t.name) := (by rw [Lib.cell_of_heap bx1.out]; rfl); have HFin := Lib.hid (texts_snoc hown1); clear hown1 hgrow)
      | (refine step_append_lies _ (by rfl) _ _ 65 (by rfl) (V.heap.size + 1) 9 i0 (.string ⟨#[]⟩) 1 16 Tryd.underlying65 hi hz0 hz1 hz2 rfl (by decide) _ bd.length (bd.map Value.string) (by rfl) HOW.out ⟨V.heap.size, 0, none⟩ 1 1 [.string t.name] (by rfl) rfl HNB.out (by simp [Value.oneCell']) (by decide) (by unfold maxLen; omega) (by omega) (by omega) Y.heap.size rfl ?_; intro g' cap' w1 hown1 hgrow _ _; have hb1 := Lib.hid (below_grown0 (B := w.heap.size) HBY.out (own_base HOW.out (by have := HBV.out.size; omega)) hgrow (by have := HBV.out.size; omega)); have bx1 := Lib.hid (row_other HOW.out hgrow HBoxY.out (by decide)); have u1 : w1.cell? ⟨w.heap.size, 1, none⟩ = some (.string t.name) := (by rw [Lib.cell_of_heap bx1.out]; rfl); have HFin := Lib.hid (texts_snoc hown1); clear hown1 hgrow))
  all_goals
    clear y1 z0 z1 z2 u1 lV lY
    obtain ⟨bd', hbd⟩ : ∃ b, bd ++ [t.name] = b := ⟨_, rfl⟩
    have hl' : bd.length + 1 = bd'.length := by rw [← hbd]; simp
    rw [hbd, hl'] at HFin
    rw [hl']
    have HBE := Lib.hid hbd
    have hbl' : bd'.length + tsizes t.kids ≤ 1000000000 := by omega
    clear hbd hl' HOW
    go_wp2
    go_loopw [0, 7] (fun vo vi wr => ∃ (i : Nat) (b : Option Addr) (d n : Nat), i ≤ t.kids.length ∧ vi = .int .i64 i ∧ vo = .slice b n d ∧ Hid (n = (fvs bd' out (t.kids.take i)).length ∧ TextsAt wr (.slice b n d) (fvs bd' out (t.kids.take i)) ∧ Below w.heap.size w wr) ∧ Hid (TextsAt wr (.slice (some ⟨g', 0, none⟩) bd'.length cap') bd') ∧ Hid (wr.heap[w.heap.size]? = some (.cells #[.int .i64 4, .string t.name, .slice a t.kids.length c] 29 (0, 0)))) (fun _ vi _ => t.kids.length - (intOf vi).toNat)
    case atStart => exact ⟨0, oa, oc, out.length, Nat.zero_le _, rfl, rfl, Lib.hid ⟨by simp [fvs], by simpa [fvs] using HO.out.below hb1.out, hb1.out⟩, Lib.hid HFin.out, Lib.hid bx1.out⟩
    case round =>
      obtain ⟨i, ob, od, n, hi', rfl, rfl, hF, hBd, hBox⟩ := hrel
      obtain ⟨b0, b1, b2⟩ := three_cells hBox.out
      by_cases hlt : i < t.kids.length
      · obtain ⟨hn, hT, hBl⟩ := hF.out
        obtain ⟨g, pa, ca, rfl, hcap, hr⟩ := HR.out i hlt
        obtain ⟨⟨hg, x0, x1, x2⟩, xk⟩ := hr wr (KeepT.of_below hBl)
        have hsz := tsizes_take t.kids i hlt
        have hl1 := fvs_len (t.kids.take i) bd' out
        have hkk := size_mem' (List.getElem_mem hlt)
        rw [hn] at hT ⊢
        have HC := Lib.hid (HS.out t.kids[i] (List.getElem_mem hlt) bd' (fvs bd' out (t.kids.take i)) ob (some ⟨g', 0, none⟩) pa od cap' ca wr hT hBd.out xk (by omega) (by omega))
        rw [← fvs_drop bd' out t.kids i hlt] at HC
        have HB1 := Lib.hid hBl
        clear hr xk hsz hl1 hkk HS HR hF hT hBl hn
        generalize t.kids[i] = u at x0 x1 x2 HC
        simp only [tyV] at HC
        have hlt1 : ((i : Int) < (t.kids.length : Int)) := by omega
        generalize (fvs bd' out (t.kids.take i)).length = m at HC ⊢
        go_wp2_with (go_at_call 66; refine HC.out.mono ?_; rintro e w2 ⟨⟨v2, rfl, hT2⟩, hb2⟩; obtain ⟨oe, of, rfl⟩ := hT2.shape; have HF2 := Lib.hid (⟨hT2, HB1.out.trans (hb2.mono HB1.out.size)⟩ : TextsAt w2 (.slice oe (fvs bd' out (t.kids.take (i + 1))).length of) (fvs bd' out (t.kids.take (i + 1))) ∧ Below w.heap.size w w2); have HBd2 := Lib.hid (hBd.out.below hb2); have HBox2 := Lib.hid ((hb2.block _ (Array.getElem?_eq_some_iff.1 hBox.out).1).trans hBox.out); clear hT2 hb2)
        go_roundw
        case rel => exact ⟨i + 1, oe, of, _, by omega, by go_num, rfl, Lib.hid ⟨rfl, HF2.out⟩, HBd2, HBox2⟩
        case measure => simp [intOf]; omega
      · obtain rfl : i = t.kids.length := by omega
        rw [List.take_length] at hF
        clear HR HS
        go_wp2
        go_ret
        exact ⟨⟨_, rfl, by rw [HBE.out]; exact hF.out.2.1⟩, hF.out.2.2⟩
end Go.Proofs.YthpphjkoiipkkaaDoor
/- The document's Vars. -/
namespace Go.Proofs.YthpphjkoiipkkaaDoor
open Go.RowKit
attribute [local go_sem] Oper.semAt_some

theorem rvars_any (t : T) : RVarsOK t := by
  refine T.by_kids (P := RVarsOK) (fun t H => ?_) t
  have hz := tsize_eq t
  intro bd out oa ba a oc bc c w ho hb ht hol hbl
  cases t with
  | var n =>
    refine (rvars_var (.var n) rfl rfl bd out oa ba a oc bc c w ho hb (by omega) (by omega) (by omega)).mono ?_
    rintro e w' ⟨⟨v, rfl, h⟩, hb'⟩
    refine ⟨⟨v, rfl, ?_⟩, hb'⟩
    rw [fv]
    by_cases hx : n ∈ bd ∨ n ∈ out
    · rw [if_pos hx]; rw [if_pos (hx.elim (fun e => .inr (inB_iff.2 e)) (fun e => .inl (inB_iff.2 e)))] at h; exact h
    · rw [if_neg hx]; rw [if_neg (fun e => hx (e.elim (fun e => .inr (inB_iff.1 e)) (fun e => .inl (inB_iff.1 e))))] at h; exact h
  | con n l => rw [fv]; exact rvars_plain (.con n l) H (by simp [T.kind]) (by simp [T.kind]) bd out oa ba a oc bc c w ho hb ht hol hbl
  | fn x y =>
    have e : fv bd out (.fn x y) = fvs bd out (T.fn x y).kids := by simp [fv, T.kids, fvs]
    rw [e]
    exact rvars_plain (.fn x y) H (by simp [T.kind]) (by simp [T.kind]) bd out oa ba a oc bc c w ho hb ht hol hbl
  | all n x =>
    have e : fv bd out (.all n x) = fvs (bd ++ [(T.all n x).name]) out (T.all n x).kids := by
      simp only [fv, T.kids, fvs, T.name]
      exact fv_congr x _ _ out (fun y => by simp only [List.mem_cons, List.mem_append, List.not_mem_nil, or_false]; exact Or.comm)
    rw [e]
    exact rvars_all (.all n x) H rfl bd out oa ba a oc bc c w ho hb ht hol hbl

set_option maxHeartbeats 2000000 in
theorem rVars_any (l : List T) (hs : tsizes l ≤ 1000000000) (a : Option Addr) (c : Nat) (w : World) (ht : TysAt w (.slice a l.length c) l) :
    Calls Tryd.prog 56 #[.slice a l.length c] w fun e w' => (∃ v, e = .returned v ∧ TextsAt w' v (fvs [] [] l)) ∧ Below w.heap.size w w' := by
  have hlen := len_sizes' l
  have HR := Lib.hid ht.part
  clear ht
  go_enter Tryd.func56, Tryd.ntmps56
  go_wp2
  go_loopw [3, 4] (fun vo vi wr => ∃ (i : Nat) (b : Option Addr) (d n : Nat), i ≤ l.length ∧ vi = .int .i64 i ∧ vo = .slice b n d ∧ Hid (n = (fvs [] [] (l.take i)).length ∧ TextsAt wr (.slice b n d) (fvs [] [] (l.take i)) ∧ Below w.heap.size w wr)) (fun _ vi _ => l.length - (intOf vi).toNat)
  case atStart => exact ⟨0, none, 0, 0, Nat.zero_le _, rfl, rfl, Lib.hid ⟨by simp [fvs], ⟨none, 0, by simp [fvs], .inl (by simp [fvs])⟩, Below.refl _ _⟩⟩
  case round =>
    obtain ⟨i, ob, od, n, hi', rfl, rfl, hF⟩ := hrel
    by_cases hlt : i < l.length
    · obtain ⟨hn, hT, hBl⟩ := hF.out
      obtain ⟨g, pa, ca, rfl, hcap, hr⟩ := HR.out i hlt
      obtain ⟨⟨hg, x0, x1, x2⟩, xk⟩ := hr wr (KeepT.of_below hBl)
      have hsz := tsizes_take l i hlt
      have hl1 := fvs_len (l.take i) [] []
      have hkk := size_mem' (List.getElem_mem hlt)
      rw [hn] at hT ⊢
      simp only [List.length_nil] at hl1
      have HC := Lib.hid (rvars_any l[i] [] (fvs [] [] (l.take i)) ob none pa od 0 ca wr hT ⟨none, 0, rfl, .inl rfl⟩ xk (by omega) (by simp only [List.length_nil]; omega))
      rw [← fvs_drop [] [] l i hlt] at HC
      have HB1 := Lib.hid hBl
      clear hr xk hsz hl1 hkk HR hF hT hBl hn
      generalize l[i] = u at x0 x1 x2 HC
      simp only [tyV, List.length_nil] at HC
      have hlt1 : ((i : Int) < (l.length : Int)) := by omega
      generalize (fvs [] [] (l.take i)).length = m at HC ⊢
      go_wp2_with (go_at_call 66; refine HC.out.mono ?_; rintro e w2 ⟨⟨v2, rfl, hT2⟩, hb2⟩; obtain ⟨oe, of, rfl⟩ := hT2.shape; have HF2 := Lib.hid (⟨hT2, HB1.out.trans (hb2.mono HB1.out.size)⟩ : TextsAt w2 (.slice oe (fvs [] [] (l.take (i + 1))).length of) (fvs [] [] (l.take (i + 1))) ∧ Below w.heap.size w w2); clear hT2 hb2)
      go_roundw
      case rel => exact ⟨i + 1, oe, of, _, by omega, by go_num, rfl, Lib.hid ⟨rfl, HF2.out⟩⟩
      case measure => simp [intOf]; omega
    · obtain rfl : i = l.length := by omega
      rw [List.take_length] at hF
      clear HR
      go_wp2
      go_ret
      exact ⟨⟨_, rfl, hF.out.2.1⟩, hF.out.2.2⟩
end Go.Proofs.YthpphjkoiipkkaaDoor
