/- Merged: SbRApp, SbRApp2, FrAll, TySize, TyRVars, TyRPlain, TyRAllQ, TyRVars2, FrClose, NyClose, NyFree, FrNum, FrRenR, FrRen, FrFresh, NyNum, NyName, NyRef, NyNeg, SpRef. -/
import Derived.Test.YtdidgddcgjpokaaGreatDoorVa3
import Derived.Deep.AppendLies
import Derived.Test.YtdidgddcgjpokaaGreatDoorVa2
import Derived.Deep.RegionHeld3
import Derived.Deep.DrawnRows
import Derived.BigRegion
import Derived.Shelf.Strconv.Itoa1
import Derived.Shelf.Strconv.Itoa2
import Derived.Lib.ItoaMem
import Derived.Lib.AppendIntMem
/- The document's Apply. -/
namespace Go.Proofs.YtdidgddcgjpokaaGreatDoor
open Go.RowKit Go.Sort Go.Lib
attribute [local go_sem] Oper.semAt_some

/-- A type, where its row lies. -/
abbrev Tl := T × Option Addr × Nat
/-- The cells of a row of types. -/
def cellsOf (l : List Tl) : List Value := l.flatMap (fun x => [.int .i64 x.1.kind, .string x.1.name, .slice x.2.1 x.1.kids.length x.2.2])
theorem cellsOf_snoc (l : List Tl) (x : Tl) : cellsOf (l ++ [x]) = cellsOf l ++ [.int .i64 x.1.kind, .string x.1.name, .slice x.2.1 x.1.kids.length x.2.2] := by simp [cellsOf]
theorem cellsOf_cons (x : Tl) (l : List Tl) : cellsOf (x :: l) = [.int .i64 x.1.kind, .string x.1.name, .slice x.2.1 x.1.kids.length x.2.2] ++ cellsOf l := by simp [cellsOf]
theorem cellsOf_at (l : List Tl) (i : Nat) (h : i < l.length) : (cellsOf l)[i * 3]? = some (.int .i64 l[i].1.kind) ∧ (cellsOf l)[i * 3 + 1]? = some (.string l[i].1.name) ∧ (cellsOf l)[i * 3 + 2]? = some (.slice l[i].2.1 l[i].1.kids.length l[i].2.2) := by
  induction l generalizing i with
  | nil => cases h
  | cons x l ih =>
    rw [cellsOf_cons]
    cases i with
    | zero => exact ⟨rfl, rfl, rfl⟩
    | succ i =>
      have := ih i (by simpa using h)
      rw [show (i + 1) * 3 = i * 3 + 3 by omega, List.getElem?_append_right (by simp), List.getElem?_append_right (by simp), List.getElem?_append_right (by simp)]
      simp only [List.length_cons, List.length_nil, List.getElem_cons_succ]
      rw [show i * 3 + 3 - (0 + 1 + 1 + 1) = i * 3 by omega, show i * 3 + 3 + 1 - (0 + 1 + 1 + 1) = i * 3 + 1 by omega, show i * 3 + 3 + 2 - (0 + 1 + 1 + 1) = i * 3 + 2 by omega]
      exact this
/-- A row of types out of its cells, in blocks that are ok. -/
theorem in_of_row {ok : Nat → Prop} {W : World} {B : Nat} {v : Value} {xs : List Tl} {t : T} (ht : t.kids = xs.map (·.1)) (h : W.ownsRow B 31 3 v xs.length (cellsOf xs)) (hv : ∀ g, v.ownBlock = some g → ok g) (hk : ∀ x ∈ xs, TyIn ok W x.1 (.slice x.2.1 x.1.kids.length x.2.2)) : TyIn ok W t v := by
  have hlen : t.kids.length = xs.length := by rw [ht]; simp
  rcases h.2 with ⟨rfl, h0⟩ | ⟨g, cap, cur, rfl, _, hg, hc, _, hsz, htk⟩
  · exact .leaf t none 0 (List.length_eq_zero_iff.1 (hlen.trans h0))
  · have hat : ∀ j, j < xs.length * 3 → cur[j]? = (cellsOf xs)[j]? := fun j hj => by
      rw [← htk, List.getElem?_take, if_pos hj, Array.getElem?_toList]
    rw [← hlen]
    refine .row t g cap cur (0, 0) (fun i => if h : i < xs.length then .slice xs[i].2.1 xs[i].1.kids.length xs[i].2.2 else undef) (hv g rfl) hg (by omega) (fun i hi => ?_) (fun i hi => ?_)
    · have hi' : i < xs.length := by omega
      obtain ⟨e1, e2, e3⟩ := cellsOf_at xs i hi'
      have ek : t.kids[i] = xs[i].1 := by simp [ht]
      simp only [dif_pos hi', ek]
      exact ⟨(hat _ (by omega)).trans e1, (hat _ (by omega)).trans e2, (hat _ (by omega)).trans e3⟩
    · have hi' : i < xs.length := by omega
      have ek : t.kids[i] = xs[i].1 := by simp [ht]
      simp only [dif_pos hi', ek]
      exact hk _ (List.getElem_mem hi')
/-- A part of a row. -/
theorem TyIn.part {K : Nat → Prop} {X : World} {t : T} {a : Option Addr} {c : Nat} (h : TyIn K X t (.slice a t.kids.length c)) (i : Nat) (hi : i < t.kids.length) : ∃ g pa ca, a = some ⟨g, 0, none⟩ ∧ t.kids.length ≤ c ∧ ∀ W, KeepK K X W → (g < W.heap.size ∧ W.cell? ⟨g, i * 3, none⟩ = some (.int .i64 t.kids[i].kind) ∧ W.cell? ⟨g, i * 3 + 1, none⟩ = some (.string t.kids[i].name) ∧ W.cell? ⟨g, i * 3 + 2, none⟩ = some (.slice pa t.kids[i].kids.length ca)) ∧ TyIn K W t.kids[i] (.slice pa t.kids[i].kids.length ca) := by
  obtain ⟨v, hv⟩ : ∃ v, v = Value.slice a t.kids.length c := ⟨_, rfl⟩
  rw [← hv] at h
  cases h with
  | leaf _ _ _ h0 => rw [h0] at hi; cases hi
  | row _ g cap cs fz z h0 h1 h2 h3 h4 =>
    cases hv
    obtain ⟨pa, ca, e⟩ := (h4 i hi).shape
    obtain ⟨c1, c2, c3⟩ := h3 i hi
    rw [e] at c3
    refine ⟨g, pa, ca, rfl, h2, fun W hk => ?_⟩
    have hW := (hk g h0 (Array.getElem?_eq_some_iff.1 h1).1).trans h1
    refine ⟨⟨(Array.getElem?_eq_some_iff.1 hW).1, ?_, ?_, ?_⟩, ?_⟩
    · simp only [World.cell?, hW]; simpa using c1
    · simp only [World.cell?, hW]; simpa using c2
    · simp only [World.cell?, hW]; simpa using c3
    · rw [← e]; exact (h4 i hi).keepK hk

/-- The pairs that the document's Apply is handed: their types' rows lie ahead of N. -/
def Src4 (N : Nat) (v : Value) (d : List PR) (w : World) : Prop := GivenG 53 v d w ∧ (∀ x ∈ d, TyIn (fun k => k < N) w x.t (.slice x.a x.t.kids.length x.c)) ∧ N ≤ w.heap.size
theorem Src4.below {N : Nat} {v : Value} {d : List PR} {w W : World} (h : Src4 N v d w) (hb : Below w.heap.size w W) : Src4 N v d W :=
  ⟨h.1.below hb, fun x hx => (h.2.1 x hx).keep fun k _ _ hk hh => (hb.block k (by have := h.2.2; omega)).trans hh, Nat.le_trans h.2.2 hb.size⟩
def RApp (d : List PR) (t : T) : Prop := ∀ (N : Nat) (v : Value) (a : Option Addr) (c : Nat) (w : World), Src4 N v d w → TyIn (fun k => k < N) w t (.slice a t.kids.length c) → tsize t ≤ 1000000000 →
    Calls Tryz.prog 27 #[v, tyV t (.slice a t.kids.length c)] w fun e w' => (∃ a' c', e = .returned (tyV (app d t) (.slice a' (app d t).kids.length c')) ∧ TyIn (fun k => k < N ∨ w.heap.size ≤ k) w' (app d t) (.slice a' (app d t).kids.length c')) ∧ Below w.heap.size w w'

set_option maxRecDepth 100000 in
set_option maxHeartbeats 4000000 in
theorem rapp_var (d : List PR) (hl : d.length < 1000000) (n : ByteArray) : RApp d (.var n) := by
  intro N v a c w hs ht hz
  have HG := Lib.hid (fun (V : World) (hb : Below w.heap.size w V) => rget_any v d n V (hs.1.below hb) (by omega))
  have HS := Lib.hid hs
  obtain ⟨av, cv, rfl, _⟩ := hs.1.shape
  have HB2 := Lib.hid (fun o1 o2 => below_two w o1 o2)
  have e0 : (T.var n).kids.length = 0 := rfl
  have e1 : (T.var n).kind = 1 := rfl
  have e2 : (T.var n).name = n := rfl
  obtain ⟨res, hres⟩ : ∃ r, lk n d = r := ⟨_, rfl⟩
  have HRes := Lib.hid hres
  have hap : app d (.var n) = ((res.map PR.t).getD (.var n)) := by rw [app_v]; unfold ty; rw [hres]
  rw [hap]
  simp only [tyV, e0, e1, e2]
  clear hs ht hz hap e0 e1 e2
  rw [hres] at HG
  clear hres
  go_enter Tryz.func27, Tryz.ntmps27
  cases res with
  | none =>
    simp only [fv', Option.isSome_none, Option.map_none, Option.getD_none] at HG ⊢
    go_wp2_with (go_at_call 55; refine (HG.out _ (HB2.out _ _)).mono ?_)
    rintro e w2 ⟨rfl, hb2⟩
    have hbw : Below w.heap.size w w2 := (HB2.out _ _).trans (hb2.mono (by simp; omega))
    have hy := (hb2.block w.heap.size (by simp; omega)).trans ((Below.heap_alloc _ _ _ (by simp)).trans (alloc_new w _))
    have hz := (hb2.block (w.heap.size + 1) (by simp)).trans (new_two w _ _)
    obtain ⟨y0, y1, y2⟩ := three_cells hy
    obtain ⟨z0, z1, z2⟩ := three_cells hz
    have u0 := Lib.frozen_of_heap hz 0
    have u1 := Lib.frozen_of_heap hz 1
    have u2 := Lib.frozen_of_heap hz 2
    have ly := (Array.getElem?_eq_some_iff.1 hy).1
    have lz := (Array.getElem?_eq_some_iff.1 hz).1
    have HB := Lib.hid hbw
    have HZ := Lib.hid hz
    have lW : w.heap.size < w2.heap.size := by omega
    clear hb2 hbw hy hz HG
    go_wp2
    have hs3 := set3_block HZ.out (.int .i64 1) (.string n) (.slice a 0 c)
    have hc := three_cells ((Below.heap_alloc _ (.cells #[.int .i64 0, .string ⟨#[]⟩, .slice none 0 0] 31) _ (Array.getElem?_eq_some_iff.1 hs3).1).trans hs3)
    exact bodyPost_ret (v := .agg #[.int .i64 1, .string n, .slice a 0 c]) (by simp [results, Tryz.results27, go_sem, hc.1, hc.2.1, hc.2.2]) rfl ⟨⟨a, c, rfl, .leaf _ _ _ rfl⟩, (below_set3 HB.out (Nat.le_succ _) _ _ _).alloc (by have := HB.out.size; simp; omega) _⟩
  | some x =>
    simp only [fv', Option.isSome_some, Option.map_some, Option.getD_some] at HG ⊢
    have HX := Lib.hid (HS.out.2.1 x (lk_name HRes.out).1)
    have HN := Lib.hid HS.out.2.2
    go_wp2_with (go_at_call 55; refine (HG.out _ (HB2.out _ _)).mono ?_)
    rintro e w2 ⟨rfl, hb2⟩
    have hbw : Below w.heap.size w w2 := (HB2.out _ _).trans (hb2.mono (by simp; omega))
    have hy := (hb2.block w.heap.size (by simp; omega)).trans ((Below.heap_alloc _ _ _ (by simp)).trans (alloc_new w _))
    have hz := (hb2.block (w.heap.size + 1) (by simp)).trans (new_two w _ _)
    obtain ⟨y0, y1, y2⟩ := three_cells hy
    obtain ⟨z0, z1, z2⟩ := three_cells hz
    have u0 := Lib.frozen_of_heap hz 0
    have u1 := Lib.frozen_of_heap hz 1
    have u2 := Lib.frozen_of_heap hz 2
    have ly := (Array.getElem?_eq_some_iff.1 hy).1
    have lz := (Array.getElem?_eq_some_iff.1 hz).1
    have HB := Lib.hid hbw
    have HZ := Lib.hid hz
    have lW : w.heap.size < w2.heap.size := by omega
    clear hb2 hbw hy hz HG
    go_wp2
    have hs3 := set3_block HZ.out (.int .i64 x.t.kind) (.string x.t.name) (.slice x.a x.t.kids.length x.c)
    have hc := three_cells ((Below.heap_alloc _ (.cells #[.int .i64 x.t.kind, .string x.t.name, .slice x.a x.t.kids.length x.c] 31) _ (Array.getElem?_eq_some_iff.1 hs3).1).trans hs3)
    refine bodyPost_ret (v := .agg #[.int .i64 x.t.kind, .string x.t.name, .slice x.a x.t.kids.length x.c]) (by simp [results, Tryz.results27, go_sem, hc.1, hc.2.1, hc.2.2]) rfl ⟨⟨x.a, x.c, rfl, ?_⟩, (below_set3 HB.out (Nat.le_succ _) _ _ _).alloc (by have := HB.out.size; simp; omega) _⟩
    refine (HX.out.keep fun k _ _ hk hh => ?_).mono fun k hk => .inl hk
    have hkw : k < w.heap.size := Nat.lt_of_lt_of_le hk HN.out
    exact (Below.heap_alloc _ _ k (by simp; omega)).trans ((set3_others _ _ _ (by omega)).trans ((HB.out.block k hkw).trans hh))
end Go.Proofs.YtdidgddcgjpokaaGreatDoor
/- The document's Apply, of all types. -/
namespace Go.Proofs.YtdidgddcgjpokaaGreatDoor
open Go.RowKit Go.Sort Go.Lib
attribute [local go_sem] Oper.semAt_some

/-- One more at the row's end: what lay beside the row lies beside it still. -/
theorem beside_next {ok : Nat → Prop} {X w1 : World} {o : Obj} {s v' : Value} {g : Nat} {xs : List Tl} {x : Tl} (hx : ∀ y ∈ xs, TyIn (fun k => ok k ∧ some k ≠ s.ownBlock) X y.1 (.slice y.2.1 y.1.kids.length y.2.2)) (hnew : TyIn (fun k => ok k ∧ some k ≠ s.ownBlock) X x.1 (.slice x.2.1 x.1.kids.length x.2.2))
    (hg : (X.alloc o).grownBy w1 s.ownBlock) (hat : s.ownBlock = some g ∨ g = (X.alloc o).heap.size) (hv' : v'.ownBlock = some g) : ∀ y ∈ xs ++ [x], TyIn (fun k => ok k ∧ some k ≠ v'.ownBlock) w1 y.1 (.slice y.2.1 y.1.kids.length y.2.2) := by
  have key : ∀ {t : T} {v : Value}, TyIn (fun k => ok k ∧ some k ≠ s.ownBlock) X t v → TyIn (fun k => ok k ∧ some k ≠ v'.ownBlock) w1 t v := fun {t v} ht => by
    have hgk : ∀ k, some k ≠ s.ownBlock ∧ k < X.heap.size → k ≠ g := fun k hk e => by
      subst e
      rcases hat with e | e
      · exact hk.1 e.symm
      · have := hk.2; simp at e; omega
    refine (ht.lt.keep fun k cs fz hk hh => ?_).mono fun k hk => ⟨hk.1.1, by rw [hv']; exact fun e => hgk k ⟨hk.1.2, hk.2⟩ (by simpa using e)⟩
    exact (hg.block k (by simp; omega) hk.1.2).trans ((Below.heap_alloc X o k hk.2).trans hh)
  intro y hy
  rcases List.mem_append.1 hy with hy | hy
  · exact key (hx y hy)
  · rw [List.mem_singleton.1 hy]; exact key hnew
theorem cell_new3 (w : World) (x y z : Value) (t : TypeId) : ∀ j v, [x, y, z][j]? = some v → (w.alloc (.cells #[x, y, z] t)).cell? ((⟨w.heap.size, 0, none⟩ : Addr).add j) = some v := by
  intro j v hv
  have hadd : (⟨w.heap.size, 0, none⟩ : Addr).add j = ⟨w.heap.size, j, none⟩ := by unfold Addr.add; split <;> simp_all
  rw [hadd]
  have := alloc_new w (.cells #[x, y, z] t)
  simp only [World.cell?, this]
  match j, hv with
  | 0, hv => simpa using hv
  | 1, hv => simpa using hv
  | 2, hv => simpa using hv
  | n + 3, hv => simp at hv
/-- What the loop keeps. -/
def AI (N : Nat) (w : World) (l : List T) (v : Value) (n : Nat) (wr : World) : Prop :=
  (∃ xs : List Tl, (xs.map (·.1) = l ∧ n = xs.length) ∧ wr.ownsRow (w.heap.size + 1 + 1) 31 3 v xs.length (cellsOf xs) ∧ ∀ x ∈ xs, TyIn (fun k => (k < N ∨ w.heap.size + 1 + 1 ≤ k) ∧ some k ≠ v.ownBlock) wr x.1 (.slice x.2.1 x.1.kids.length x.2.2)) ∧ Below w.heap.size w wr ∧ w.heap.size + 1 + 1 ≤ wr.heap.size
set_option maxRecDepth 100000 in
set_option maxHeartbeats 4000000 in
theorem rapp_step (d : List PR) (t : T) (hv : ∀ n, t ≠ .var n) (H : ∀ k ∈ t.kids, RApp d k) : RApp d t := by
  intro N v a c w hs ht hz
  have hz' := tsize_eq t
  have hlen := len_sizes' t.kids
  have hk1 := kind_one hv
  obtain ⟨p1, p2, p3⟩ := app_parts d t hv
  have HS := Lib.hid hs
  have HR := Lib.hid ht.part
  have HH := Lib.hid H
  have HN := Lib.hid hs.2.2
  obtain ⟨av, cv, rfl, _⟩ := hs.1.shape
  obtain ⟨i0, hi, hz0, hz1, hz2⟩ := info_parts Tryz.infoTy
  have HB2 := Lib.hid (fun o1 o2 => below_two w o1 o2)
  have HP := Lib.hid (And.intro p1 (And.intro p2 p3))
  clear hs ht H p1 p2 p3 hv
  simp only [tyV]
  go_enter Tryz.func27, Tryz.ntmps27
  go_wp2
  go_loopw [7, 8] (fun vo vi wr => ∃ (i n e : Nat) (b : Option Addr), i ≤ t.kids.length ∧ vi = .int .i64 i ∧ vo = .slice b n e ∧ Hid (AI N w ((t.kids.take i).map (app d)) (.slice b n e) n wr) ∧ Hid (wr.heap[w.heap.size]? = some (.cells #[.int .i64 t.kind, .string t.name, .slice a t.kids.length c] 31 (0, 0)) ∧ wr.heap[w.heap.size + 1]? = some (.cells #[.int .i64 0, .string ⟨#[]⟩, .slice none 0 0] 31 (0, 0)))) (fun _ vi _ => t.kids.length - (intOf vi).toNat)
  case atStart =>
    exact ⟨0, 0, 0, none, Nat.zero_le _, rfl, rfl, Lib.hid ⟨⟨[], ⟨rfl, rfl⟩, World.ownsRow_nil _ _ _ _, (fun _ h => nomatch h)⟩, HB2.out _ _, by simp⟩, Lib.hid ⟨(Below.heap_alloc _ _ _ (by simp)).trans (alloc_new w _), new_two w _ _⟩⟩
  case round =>
    obtain ⟨i, n, e, b, hi', rfl, rfl, hF, hBox⟩ := hrel
    obtain ⟨b0, b1, b2⟩ := three_cells hBox.out.1
    obtain ⟨z0, z1, z2⟩ := three_cells hBox.out.2
    have lz := (Array.getElem?_eq_some_iff.1 hBox.out.2).1
    have ly := (Array.getElem?_eq_some_iff.1 hBox.out.1).1
    by_cases hlt : i < t.kids.length
    · obtain ⟨⟨xs, ⟨hx1, rfl⟩, hrow, hbs⟩, hBl, hsz⟩ := hF.out
      obtain ⟨g, pa, ca, rfl, hcap, hr⟩ := HR.out i hlt
      obtain ⟨⟨hg, x0, x1, x2⟩, xk⟩ := hr wr (fun k hk hx => hBl.block k hx)
      have hkk := size_mem' (List.getElem_mem hlt)
      have HC := Lib.hid (HH.out t.kids[i] (List.getElem_mem hlt) N _ pa ca wr (HS.out.below hBl) xk (by omega))
      obtain rfl : i = xs.length := by have := congrArg List.length hx1; simp at this; omega
      have HTk := Lib.hid (show (t.kids.take (xs.length + 1)).map (app d) = (t.kids.take xs.length).map (app d) ++ [app d t.kids[xs.length]] by rw [List.take_succ_eq_append_getElem hlt, List.map_append]; rfl)
      have HX1 := Lib.hid hx1
      have HRow := Lib.hid hrow; have HBs := Lib.hid hbs; have HBl := Lib.hid hBl; have HSz := Lib.hid hsz
      have HPc := Lib.hid HP.out.1
      clear hr xk hkk HH HR hx1 hrow hbs hBl hF
      generalize t.kids[xs.length] = u at x0 x1 x2 HC HTk
      simp only [tyV] at HC
      have hlt1 : ((xs.length : Int) < (t.kids.length : Int)) := by omega
      have hxs : xs.length ≤ 1000000000 := by omega
      go_wp2_with (first
        | (go_at_call 27; refine HC.out.mono ?_; rintro e2 w2 ⟨⟨a2, c2, rfl, g1⟩, g2⟩; have G1 := Lib.hid g1; have G2 := Lib.hid g2; have hq1 := (g2.block _ ly).trans hBox.out.1; have hq2 := (g2.block _ lz).trans hBox.out.2; have HBox2 := Lib.hid (And.intro hq1 hq2); have HRow2 := Lib.hid (row_kept HRow.out fun k cs fz hk => (g2.block k (Array.getElem?_eq_some_iff.1 hk).1).trans hk); clear g1 g2 hq1 hq2)
        | (at_builtin; refine wpList_append_lies _ rfl _ _ 29 rfl (w.heap.size + 1 + 1) 31 i0 (.agg #[.int .i64 0, .string ⟨#[]⟩, .slice none 0 0]) 3 48 Tryz.underlying29 hi hz0 hz1 hz2 rfl (by decide) _ _ _ rfl (HRow2.out.alloc _) ⟨w2.heap.size, 0, none⟩ 1 1 [.int .i64 (app d u).kind, .string (app d u).name, .slice a2 (app d u).kids.length c2] rfl rfl (cell_new3 _ _ _ _ _) (by simp [Value.oneCell']) (by decide) (by unfold maxLen; omega) (by omega) (by have := HSz.out; have := G2.out.size; simp; omega) _ rfl ?_; intro g3 cap3 w3 ho3 hg3 hat3 hlt3; have HO3 := Lib.hid ho3; have HG3 := Lib.hid hg3; have HAt3 := Lib.hid hat3; clear ho3 hg3 hat3 hlt3))
      go_roundw
      case rel =>
        have hlo := HRow.out.lt
        have hw2 := G2.out.size
        have hwl := HBl.out.size
        refine ⟨xs.length + 1, xs.length + 1, cap3, some ⟨g3, 0, none⟩, by omega, by go_num, rfl, Lib.hid ⟨⟨xs ++ [(app d u, a2, c2)], ⟨?_, by simp⟩, ?_, ?_⟩, ?_, ?_⟩, Lib.hid ⟨?_, ?_⟩⟩
        · rw [HTk.out, List.map_append, HX1.out]; rfl
        · rw [cellsOf_snoc, List.length_append]; exact HO3.out
        · refine beside_next (fun y hy => (HBs.out y hy).keep fun k _ _ _ hk => (G2.out.block k (Array.getElem?_eq_some_iff.1 hk).1).trans hk) (G1.out.mono fun k hk => ⟨?_, fun e => ?_⟩) HG3.out HAt3.out rfl
          · rcases hk with hk | hk
            · exact .inl hk
            · exact .inr (Nat.le_trans HSz.out hk)
          · have := hlo k e.symm
            have := HN.out
            rcases hk with hk | hk <;> omega
        · exact ((HBl.out.trans (G2.out.mono hwl)).alloc (by omega) _).grown HG3.out (by simp; omega) (fun j hj => by have := (hlo j hj).1; omega)
        · have := HG3.out.size; simp at this; omega
        · exact (HG3.out.block _ (by simp; omega) (fun e => by have := (hlo _ e.symm).1; omega)).trans ((Below.heap_alloc w2 _ _ (by omega)).trans HBox2.out.1)
        · exact (HG3.out.block _ (by simp; omega) (fun e => by have := (hlo _ e.symm).1; omega)).trans ((Below.heap_alloc w2 _ _ (by omega)).trans HBox2.out.2)
      case measure => simp [intOf]; omega
    · obtain rfl : i = t.kids.length := by omega
      rw [List.take_length] at hF
      have fb := Lib.frozen_of_heap hBox.out.1 2
      have u0 := Lib.frozen_of_heap hBox.out.2 0
      have u1 := Lib.frozen_of_heap hBox.out.2 1
      have u2 := Lib.frozen_of_heap hBox.out.2 2
      clear HR HH HS
      go_wp2
      obtain ⟨⟨xs, ⟨hx1, rfl⟩, hrow, hbs⟩, hBl, hsz⟩ := hF.out
      have hz4 := (Below.heap_setCell wr ⟨w.heap.size, 2, none⟩ (.slice b xs.length e) (w.heap.size + 1) (by simp)).trans hBox.out.2
      have hs3 := set3_block hz4 (.int .i64 t.kind) (.string t.name) (.slice b xs.length e)
      have hc := three_cells hs3
      have hlen2 : (app d t).kids.length = xs.length := by rw [HP.out.2.2, ← hx1]; simp
      have hin : TyIn (fun k => k < N ∨ w.heap.size + 1 + 1 ≤ k) wr (app d t) (.slice b xs.length e) := in_of_row (by rw [HP.out.2.2, hx1]) hrow (fun g hg => .inr (hrow.lt g hg).1) (fun x hx => (hbs x hx).mono fun k hk => hk.1)
      refine bodyPost_ret (v := .agg #[.int .i64 t.kind, .string t.name, .slice b xs.length e]) (by simp [results, Tryz.results27, go_sem, hc.1, hc.2.1, hc.2.2]) rfl ⟨⟨b, e, by rw [HP.out.1, HP.out.2.1, hlen2], ?_⟩, below_set3 (hBl.setCell (p := ⟨w.heap.size, 2, none⟩) (Nat.le_refl _) _) (Nat.le_succ _) _ _ _⟩
      rw [hlen2]
      refine (hin.keep fun k _ _ hk hh => ?_).mono fun k hk => hk.imp id (fun h => by omega)
      have hkN : k ≠ w.heap.size ∧ k ≠ w.heap.size + 1 := by have := HN.out; rcases hk with hk | hk <;> omega
      exact (set3_others _ _ _ hkN.2).trans ((Below.heap_setCell wr ⟨w.heap.size, 2, none⟩ _ k hkN.1).trans hh)
theorem rapp_ok (d : List PR) (hl : d.length < 1000000) (t : T) : RApp d t :=
  T.by_kids (P := RApp d) (fun t H => by
    cases t with
    | var n => exact rapp_var d hl n
    | con n l => exact rapp_step d _ (fun m h => by cases h) H
    | fn a b => exact rapp_step d _ (fun m h => by cases h) H
    | all n a => exact rapp_step d _ (fun m h => by cases h) H) t
/-- The document's Apply, whose result is told. -/
theorem rapp_big {d : List PR} {v : Value} {t : T} {a : Option Addr} {c : Nat} {w : World} (hl : d.length < 1000000) (hg : GivenG 53 v d w) (ht : Typ d w) (h : TysAt w (.slice a t.kids.length c) t.kids) (hz : tsize t ≤ 1000000000) :
    Calls Tryz.prog 27 #[v, .agg #[.int .i64 t.kind, .string t.name, .slice a t.kids.length c]] w fun e Y => (∃ za zc, e = .returned (.agg #[.int .i64 (app d t).kind, .string (app d t).name, .slice za (app d t).kids.length zc]) ∧ TysAt Y (.slice za (app d t).kids.length zc) (app d t).kids) ∧ Below w.heap.size w Y := by
  have lt : ∀ (k : Nat) (cs : Array Value) (fz : Nat × Nat), w.heap[k]? = some (.cells cs 31 fz) → k < w.heap.size := fun k _ _ hk => (Array.getElem?_eq_some_iff.1 hk).1
  refine (rapp_ok d hl t w.heap.size v a c w ⟨hg, fun x hx => (ht x hx).inside lt, Nat.le_refl _⟩ (h.inside lt) hz).mono ?_
  rintro e Y ⟨⟨a', c', rfl, hin⟩, hb⟩
  exact ⟨⟨a', c', rfl, hin.tys⟩, hb⟩
theorem rapp_ret {d : List PR} {v : Value} {t : T} {a : Option Addr} {c : Nat} {w : World} (hl : d.length < 1000000) (hg : GivenG 53 v d w) (ht : Typ d w) (h : TysAt w (.slice a t.kids.length c) t.kids) (hz : tsize t ≤ 1000000) :
    Calls Tryz.prog 27 #[v, .agg #[.int .i64 t.kind, .string t.name, .slice a t.kids.length c]] w fun e Y => (∃ za zc, e = .returned (.agg #[.int .i64 (app d t).kind, .string (app d t).name, .slice za (app d t).kids.length zc]) ∧ TysAt Y (.slice za (app d t).kids.length zc) (app d t).kids) ∧ Below w.heap.size w Y :=
  rapp_big hl hg ht h (Nat.le_trans hz (by decide))
end Go.Proofs.YtdidgddcgjpokaaGreatDoor
/- paideiaref4's all: a type, then those of a context. -/
namespace Go.Proofs.YtdidgddcgjpokaaGreatDoor
open Go.RowKit Go.Sort Go.Lib
attribute [local go_sem] Oper.semAt_some

/-- What the loop keeps: the types so far, in a row of one's own; their parts lie as they lay. -/
def ALI (w : World) (l : List T) (v : Value) (n : Nat) (wr : World) : Prop :=
  (∃ xs : List Tl, (xs.map (·.1) = l ∧ n = xs.length) ∧ wr.ownsRow w.heap.size 31 3 v xs.length (cellsOf xs) ∧ ∀ x ∈ xs, TyIn (fun k => k < w.heap.size) w x.1 (.slice x.2.1 x.1.kids.length x.2.2)) ∧ Below w.heap.size w wr
theorem ali_start {w : World} {o : Obj} {t : T} {a : Option Addr} {c : Nat} (h : TyIn (fun k => k < w.heap.size) w t (.slice a t.kids.length c)) :
    ALI w [t] (.slice (some ⟨w.heap.size + 1, 0, none⟩) 1 1) 1 ((w.alloc o).alloc (.cells #[.int .i64 t.kind, .string t.name, .slice a t.kids.length c] 31)) :=
  ⟨⟨[(t, a, c)], ⟨rfl, rfl⟩, ⟨rfl, .inr ⟨w.heap.size + 1, 1, #[.int .i64 t.kind, .string t.name, .slice a t.kids.length c], rfl, by omega, new_two w o _, Nat.le_refl _, by unfold maxLen; omega, rfl, rfl⟩⟩, fun x hx => by rw [List.mem_singleton.1 hx]; exact h⟩, below_two w _ _⟩
set_option maxRecDepth 100000 in
set_option maxHeartbeats 4000000 in
theorem rallc_any (t : T) (lc : List Pr) (ta va : Option Addr) (tc vc : Nat) (w : World) (ht : TysAt w (.slice ta t.kids.length tc) t.kids) (hP : PrsAt w (.slice va lc.length vc) lc) (hn : lc.length ≤ 1000000) :
    Calls Tryz.prog 36 #[.agg #[.int .i64 t.kind, .string t.name, .slice ta t.kids.length tc], .slice va lc.length vc] w fun e w' =>
      (∃ a c, e = .returned (.slice a (lc.length + 1) c) ∧ TysAt w' (.slice a (lc.length + 1) c) (t :: lc.map (·.2))) ∧ Below w.heap.size w w' := by
  obtain ⟨i0, hi, hz0, hz1, hz2⟩ := info_parts Tryz.infoTy
  have lt : ∀ (k : Nat) (cs : Array Value) (fz : Nat × Nat), w.heap[k]? = some (.cells cs 31 fz) → k < w.heap.size := fun k _ _ hk => (Array.getElem?_eq_some_iff.1 hk).1
  have HS0 := Lib.hid (fun o => ali_start (o := o) (ht.inside lt))
  have HRow := Lib.hid (fun (i : Nat) (hi : i < lc.length) => (by obtain ⟨g, cap, e, hg, hc, hr⟩ := hP.row (by rintro rfl; cases hi); exact ⟨g, cap, e, hg, hc, hr i hi⟩ : ∃ g cap, Value.slice va lc.length vc = .slice (some ⟨g, 0, none⟩) lc.length cap ∧ g < w.heap.size ∧ lc.length ≤ cap ∧ ∃ a c, w.cell? ⟨g, i * 4, none⟩ = some (.string lc[i].1) ∧ w.cell? ⟨g, i * 4 + 1, none⟩ = some (.int .i64 lc[i].2.kind) ∧ w.cell? ⟨g, i * 4 + 2, none⟩ = some (.string lc[i].2.name) ∧ w.cell? ⟨g, i * 4 + 3, none⟩ = some (.slice a lc[i].2.kids.length c) ∧ TysAt w (.slice a lc[i].2.kids.length c) lc[i].2.kids))
  have HLt := Lib.hid lt
  clear ht hP lt
  go_enter Tryz.func36, Tryz.ntmps36
  go_wp2
  go_loopw [5, 6] (fun vo vi wr => ∃ (i n e : Nat) (b : Option Addr), i ≤ lc.length ∧ vi = .int .i64 i ∧ vo = .slice b n e ∧ Hid (ALI w (t :: (lc.take i).map (·.2)) (.slice b n e) n wr)) (fun _ vi _ => lc.length - (intOf vi).toNat)
  case atStart => exact ⟨0, 1, 1, _, Nat.zero_le _, rfl, rfl, Lib.hid (HS0.out _)⟩
  case round =>
    obtain ⟨i, n, e, b, hi', rfl, rfl, hF⟩ := hrel
    by_cases hlt : i < lc.length
    · obtain ⟨⟨xs, ⟨hx1, rfl⟩, hrow, hbs⟩, hBl⟩ := hF.out
      obtain ⟨g, cap, he, hg, hcap, a, c, x0, x1, x2, x3, xk⟩ := HRow.out i hlt
      cases he
      have y1 := (hBl.cell (p := ⟨g, i * 4 + 1, none⟩) hg).trans x1
      have y2 := (hBl.cell (p := ⟨g, i * 4 + 2, none⟩) hg).trans x2
      have y3 := (hBl.cell (p := ⟨g, i * 4 + 3, none⟩) hg).trans x3
      have y0 := (hBl.cell (p := ⟨g, i * 4, none⟩) hg).trans x0
      have hxb : xs.length ≤ 1000001 := by have := congrArg List.length hx1; simp at this; omega
      have HTk := Lib.hid (show t :: (lc.take (i + 1)).map (·.2) = (t :: (lc.take i).map (·.2)) ++ [lc[i].2] by rw [List.take_succ_eq_append_getElem hlt, List.map_append]; rfl)
      have HX1 := Lib.hid hx1; have HIn := Lib.hid (xk.inside HLt.out)
      have HR := Lib.hid hrow; have HBs := Lib.hid hbs; have HBl := Lib.hid hBl
      have hz := hBl.size
      have hgz : g < wr.heap.size := by omega
      clear x0 x1 x2 x3 xk hx1 hrow hbs hBl hF HRow
      generalize lc[i] = u at *
      have hlt1 : ((i : Int) < (lc.length : Int)) := by omega
      go_wp2_with (at_builtin; refine wpList_append_lies _ rfl _ _ 29 rfl w.heap.size 31 i0 (.agg #[.int .i64 0, .string ⟨#[]⟩, .slice none 0 0]) 3 48 Tryz.underlying29 hi hz0 hz1 hz2 rfl (by decide) _ _ _ rfl (HR.out.alloc _) ⟨wr.heap.size, 0, none⟩ 1 1 [.int .i64 u.2.kind, .string u.2.name, .slice a u.2.kids.length c] rfl rfl (cell_new3 _ _ _ _ _) (by simp [Value.oneCell']) (by decide) ?c3 ?c4 ?c5 _ rfl ?_)
      case c3 => unfold maxLen; omega
      case c4 => omega
      case c5 => first | omega | (simp; omega)
      intro g3 cap3 W3 hown3 hgrow hat3 hlt3
      have HO3 := Lib.hid hown3
      have HB3 := Lib.hid ((HBl.out.alloc hz _).grown hgrow (by simp; omega) (fun j hj => (HR.out.lt j hj).1))
      clear hown3 hgrow hat3
      go_wp2
      go_roundw
      case rel =>
        refine ⟨i + 1, xs.length + 1, cap3, some ⟨g3, 0, none⟩, by omega, by go_num, rfl, Lib.hid ⟨⟨xs ++ [(u.2, a, c)], ⟨?_, by simp⟩, ?_, ?_⟩, HB3.out⟩⟩
        · rw [HTk.out, List.map_append, HX1.out]; rfl
        · rw [cellsOf_snoc, List.length_append]; exact HO3.out
        · intro y hy
          rcases List.mem_append.1 hy with hy | hy
          · exact HBs.out y hy
          · rw [List.mem_singleton.1 hy]; exact HIn.out
      case measure => simp [intOf]; omega
    · obtain rfl : i = lc.length := by omega
      rw [List.take_length] at hF
      have HF := Lib.hid hF.out
      clear hF HRow HLt HS0
      go_wp2
      go_ret
      obtain ⟨⟨xs, ⟨hx1, rfl⟩, hrow, hbs⟩, hBl⟩ := HF.out
      have hxl : xs.length = lc.length + 1 := by have := congrArg List.length hx1; simpa using this
      have hin : TyIn (fun k => k < w.heap.size ∨ w.heap.size ≤ k) wr (.con ⟨#[]⟩ (t :: lc.map (·.2))) (.slice b xs.length e) := in_of_row (by rw [hx1]; rfl) hrow (fun g hg => .inr (hrow.lt g hg).1) (fun x hx => ((hbs x hx).keep fun k _ _ hk hh => (hBl.block k hk).trans hh).mono fun k hk => .inl hk)
      have ht := hin.tys
      rw [hxl] at ht ⊢
      exact ⟨⟨b, e, rfl, ht⟩, hBl⟩
end Go.Proofs.YtdidgddcgjpokaaGreatDoor
/- types.Size, types.Has; the document's Size. -/
namespace Go.Proofs.YtdidgddcgjpokaaGreatDoor
open Go.RowKit
attribute [local go_sem] Oper.semAt_some

end Go.Proofs.YtdidgddcgjpokaaGreatDoor
/- The document's variables of a type: Texts, vars, Vars. -/
namespace Go.Proofs.YtdidgddcgjpokaaGreatDoor
open Go.RowKit
attribute [local go_sem] Oper.semAt_some

theorem make_strs (n : Nat) (hn : n ≤ 1000000000) (w : World) :
    (Instr.makeSlice 23 (.int .i64 0) (.int .i64 (n : Int))).run Tryz.prog w = .ok (.slice (some ⟨w.heap.size, 0, none⟩) 0 n) (w.alloc (.cells (madeCells #[.string ⟨#[]⟩] n) 9)) := by
  obtain ⟨i, hi, hzz⟩ := Option.map_eq_some_iff.1 Tryz.infoStr
  simp only [Prod.mk.injEq] at hzz
  obtain ⟨hz, hs, hb⟩ := hzz
  have hr := run_make (P := Tryz.prog) w 23 9 i _ Tryz.underlying23 hi hz .i64 .i64 0 n (by omega) (by omega) (by rw [hb]; omega) (by omega)
  simp only [Int.toNat_natCast, hs, Nat.mul_one] at hr
  exact hr
theorem below_grown {B : Nat} {w X w1 : World} {o : Obj} {e : TypeId} {size n : Nat} {v : Value} {xs : List Value} (hB : Below B w X) (hown : X.ownsRow B e size v n xs) (hg : (X.alloc o).grownBy w1 v.ownBlock) (hb : B ≤ X.heap.size) : Below B w w1 :=
  hB.trans ⟨hg.os, hg.tape, hg.output, by have := hg.size; simp at this; omega, fun k hk => (hg.block k (by simp; omega) fun e => by have := (hown.lt k e.symm).1; omega).trans (Below.heap_alloc X o k (by omega))⟩

set_option maxHeartbeats 2000000 in
theorem textsR_any (l : List ByteArray) (hl : l.length ≤ 1000000000) (a : Option Addr) (c : Nat) (w : World) (h : TextsAt w (.slice a l.length c) l) :
    Calls Tryz.prog 73 #[.slice a l.length c] w fun e w' => (∃ v, e = .returned v ∧ w'.ownsRow w.heap.size 9 1 v l.length (l.map Value.string)) ∧ Below w.heap.size w w' := by
  have HR := Lib.hid (h.part.2)
  have hmk := make_strs l.length (by omega)
  obtain ⟨i0, hi, hz0, hz1, hz2⟩ := info_parts Tryz.infoStr
  clear h
  go_enter Tryz.func73, Tryz.ntmps73
  go_wp2
  go_loopw [3, 4] (fun v vi wr => ∃ (i : Nat) (b : Option Addr) (d : Nat), i ≤ l.length ∧ vi = .int .i64 i ∧ v = .slice b i d ∧ Hid (Below w.heap.size w wr) ∧ Hid (wr.ownsRow w.heap.size 9 1 (.slice b i d) i ((l.take i).map Value.string))) (fun _ vi _ => l.length - (intOf vi).toNat)
  case atStart => exact ⟨0, _, _, Nat.zero_le _, rfl, rfl, Lib.hid ((Below.refl _ w).alloc (Nat.le_refl _) _), Lib.hid (World.ownsRow_made w _ l.length (Nat.le_refl _) (by unfold maxLen; omega) (by simp [size_madeCells]))⟩
  case round =>
    obtain ⟨i, b, d, hi', rfl, rfl, hB, hO⟩ := hrel
    by_cases hlt : i < l.length
    · obtain ⟨g, rfl, hc, hg, hh⟩ := HR.out i hlt
      have x0 := hh wr (fun k _ _ hk => (hB.out.block k (Array.getElem?_eq_some_iff.1 hk).1).trans hk)
      have htk : l.take (i + 1) = l.take i ++ [l[i]] := by rw [List.take_succ_eq_append_getElem hlt]
      have HT := Lib.hid htk
      have hgr : g < wr.heap.size := Nat.lt_of_lt_of_le hg hB.out.size
      clear hh HR htk hmk
      generalize l[i] = u at x0 HT
      have hlt1 : ((i : Int) < (l.length : Int)) := by omega
      go_wp2_with (at_builtin; refine wpList_append_own _ rfl _ _ 23 rfl w.heap.size 9 i0 (.string ⟨#[]⟩) 1 16 Tryz.underlying23 hi hz0 hz1 hz2 rfl (by decide) _ _ _ rfl (hO.out.alloc _) ⟨wr.heap.size, 0, none⟩ 1 1 [.string u] rfl rfl (new_one _ _ _) (by simp [Value.oneCell']) (by unfold maxLen; omega) (by omega) (by simp; have := hB.out.size; omega) ?_; intro v' w1 hown' hgrow _; obtain ⟨ga, gc, rfl⟩ := row_slice hown'; have HOW := Lib.hid hown'; have HBW := Lib.hid (below_grown hB.out hO.out hgrow hB.out.size); clear hown' hgrow)
      go_roundw
      case rel => exact ⟨i + 1, ga, gc, by omega, by go_num, rfl, HBW, Lib.hid (by rw [HT.out, List.map_append]; exact HOW.out)⟩
      case measure => simp [intOf]; omega
    · obtain rfl : i = l.length := by omega
      rw [List.take_length] at hO
      clear HR hmk
      go_wp2
      go_ret
      exact ⟨⟨_, rfl, hO.out⟩, hB.out⟩

mutual
theorem fv_congr (t : T) (bd bd' out : List ByteArray) (h : ∀ x, x ∈ bd ↔ x ∈ bd') : fv bd out t = fv bd' out t := by
  cases t with
  | var n =>
    rw [fv, fv]
    by_cases hx : n ∈ bd ∨ n ∈ out
    · rw [if_pos hx, if_pos (by rw [← h]; exact hx)]
    · rw [if_neg hx, if_neg (by rw [← h]; exact hx)]
  | con n l => rw [fv, fv]; exact fvs_congr l bd bd' out h
  | fn a b => rw [fv, fv, fv_congr a bd bd' out h, fv_congr b bd bd' _ h]
  | all n a => rw [fv, fv]; exact fv_congr a _ _ out (fun x => by simp only [List.mem_cons, h])
theorem fvs_congr (l : List T) (bd bd' out : List ByteArray) (h : ∀ x, x ∈ bd ↔ x ∈ bd') : fvs bd out l = fvs bd' out l := by
  cases l with
  | nil => rw [fvs, fvs]
  | cons a l => rw [fvs, fvs, fv_congr a bd bd' out h, fvs_congr l bd bd' _ h]
end

def RVarsOK (t : T) : Prop := ∀ (bd out : List ByteArray) (oa ba a : Option Addr) (oc bc c : Nat) (w : World), TextsAt w (.slice oa out.length oc) out → TextsAt w (.slice ba bd.length bc) bd → TysAt w (.slice a t.kids.length c) t.kids →
    out.length + tsize t ≤ 1000000000 → bd.length + tsize t ≤ 1000000000 →
    Calls Tryz.prog 56 #[.slice oa out.length oc, .slice ba bd.length bc, tyV t (.slice a t.kids.length c)] w fun e w' => (∃ v, e = .returned v ∧ TextsAt w' v (fv bd out t)) ∧ Below w.heap.size w w'

theorem own_base {W : World} {b b' : Nat} {e : TypeId} {size n : Nat} {v : Value} {xs : List Value} (h : W.ownsRow b e size v n xs) (hb : b' ≤ b) : W.ownsRow b' e size v n xs := by
  refine ⟨h.1, ?_⟩
  rcases h.2 with h | ⟨g, cap, cur, rfl, hg, r⟩
  · exact .inl h
  · exact .inr ⟨g, cap, cur, rfl, Nat.le_trans hb hg, r⟩
theorem below_grown0 {B : Nat} {w X w1 : World} {e : TypeId} {size n : Nat} {v : Value} {xs : List Value} (hB : Below B w X) (hown : X.ownsRow B e size v n xs) (hg : X.grownBy w1 v.ownBlock) (hb : B ≤ X.heap.size) : Below B w w1 :=
  hB.trans ⟨hg.os, hg.tape, hg.output, hg.size, fun k hk => hg.block k (by omega) fun e => by have := (hown.lt k e.symm).1; omega⟩
theorem texts_snoc {W : World} {base : Nat} {v : Value} {l : List ByteArray} {x : ByteArray} (h : W.ownsRow base 9 1 v (l.length + 1) (l.map Value.string ++ [.string x])) : TextsAt W v (l ++ [x]) := by
  have e : l.length + 1 = (l ++ [x]).length := by simp
  have e2 : l.map Value.string ++ [.string x] = (l ++ [x]).map Value.string := by simp
  rw [e, e2] at h
  exact TextsAt.of_row h
set_option maxRecDepth 100000 in
set_option maxHeartbeats 4000000 in
theorem rvars_var (t : T) (hk : t.kind = 1) (h0 : t.kids = []) (bd out : List ByteArray) (oa ba a : Option Addr) (oc bc c : Nat) (w : World) (ho : TextsAt w (.slice oa out.length oc) out) (hb : TextsAt w (.slice ba bd.length bc) bd) (hol : out.length ≤ 1000000000) (hbl : bd.length ≤ 1000000000) (hn : out.length < 1000000000) :
    Calls Tryz.prog 56 #[.slice oa out.length oc, .slice ba bd.length bc, tyV t (.slice a t.kids.length c)] w fun e w' => (∃ v, e = .returned v ∧ TextsAt w' v (if inB out t.name = true ∨ inB bd t.name = true then out else out ++ [t.name])) ∧ Below w.heap.size w w' := by
  have hl : t.kids.length = 0 := by rw [h0]; rfl
  rw [hl]
  simp only [tyV, hk]
  have HBd := Lib.hid (fun o => (Below.refl _ w).alloc (Nat.le_refl _) o)
  have HO := Lib.hid (fun (V : World) (k : Below w.heap.size w V) => hasR_any out (by omega) t.name oa oc V (ho.below k))
  have HBb := Lib.hid (fun (V : World) (k : Below w.heap.size w V) => hasR_any bd (by omega) t.name ba bc V (hb.below k))
  have HOut := Lib.hid ho
  have HTx := Lib.hid (fun (V : World) (k : Below w.heap.size w V) => textsR_any out hol oa oc V (ho.below k))
  clear hl h0 hb ho
  cases h1 : inB out t.name with
  | true =>
    rw [if_pos (.inl rfl)]
    rw [h1] at HO
    clear h1 HBb HTx
    go_enter Tryz.func56, Tryz.ntmps56
    go_wp2_with (go_at_call 29; refine (HO.out _ ?kk).mono ?_; (case kk => exact HBd.out _); rintro e w2 ⟨rfl, rfl⟩)
    go_ret
    exact ⟨⟨_, rfl, HOut.out.below (HBd.out _)⟩, HBd.out _⟩
  | false =>
    rw [h1] at HO
    cases h2 : inB bd t.name with
    | true =>
      rw [if_pos (.inr rfl)]
      rw [h2] at HBb
      clear h1 h2 HTx
      go_enter Tryz.func56, Tryz.ntmps56
      go_wp2_with (go_at_call 29; first | ((with_reducible refine (HO.out _ ?kk).mono ?_); (case kk => exact HBd.out _); rintro e w2 ⟨rfl, rfl⟩) | ((with_reducible refine (HBb.out _ ?kk).mono ?_); (case kk => exact HBd.out _); rintro e w2 ⟨rfl, rfl⟩))
      go_ret
      exact ⟨⟨_, rfl, HOut.out.below (HBd.out _)⟩, HBd.out _⟩
    | false =>
      rw [if_neg (fun e => by simp at e)]
      rw [h2] at HBb
      clear h1 h2
      go_enter Tryz.func56, Tryz.ntmps56
      go_wp2_with (go_at_call 29; first | ((with_reducible refine (HO.out _ ?kk).mono ?_); (case kk => exact HBd.out _); rintro e w2 ⟨rfl, rfl⟩) | ((with_reducible refine (HBb.out _ ?kk).mono ?_); (case kk => exact HBd.out _); rintro e w2 ⟨rfl, rfl⟩))
      obtain ⟨i0, hi, hz0, hz1, hz2⟩ := info_parts Tryz.infoStr
      refine with_worldC (fun V => Below w.heap.size w V ∧ V.heap[w.heap.size]? = some (.cells #[.int .i64 1, .string t.name, .slice a 0 c] 31 (0, 0))) ⟨HBd.out _, alloc_new w _⟩ ?_
      rintro V ⟨hbV, hbox⟩
      obtain ⟨z0, z1, z2⟩ := three_cells hbox
      have HBV := Lib.hid hbV; have HBox := Lib.hid hbox
      have lV := (Array.getElem?_eq_some_iff.1 hbox).1
      have al : Hid (∀ (o : Obj), (V.alloc o).cell? ⟨w.heap.size, 1, none⟩ = some (.string t.name)) := Lib.hid fun o => (((Below.refl V.heap.size V).alloc (Nat.le_refl _) o).cell (p := ⟨w.heap.size, 1, none⟩) lV).trans z1
      clear hbV hbox
      go_region_held3 (fun V' => V'.cell? ⟨w.heap.size, 1, none⟩ = some (.string t.name)) (first | exact z1 | exact al.out _ | exact y1 | exact aly.out _ | exact u1)
        (first
          | (go_at_call 73; refine (HTx.out V.drew ?kk).mono ?_; (case kk => exact HBV.out.drew); rintro e Y ⟨⟨v, rfl, hown⟩, hbY⟩; obtain ⟨va, vc, rfl⟩ := row_slice hown; have y1 := (hbY.cell (p := ⟨w.heap.size, 1, none⟩) lV).trans z1; have lY : V.heap.size ≤ Y.heap.size := hbY.size; have HBY := Lib.hid (HBV.out.trans (((Below.refl _ V).drew.trans hbY).mono HBV.out.size)); have aly : Hid (∀ (o : Obj), (Y.alloc o).cell? ⟨w.heap.size, 1, none⟩ = some (.string t.name)) := Lib.hid (fun o => (((Below.refl Y.heap.size Y).alloc (Nat.le_refl _) o).cell (p := ⟨w.heap.size, 1, none⟩) (by show w.heap.size < Y.heap.size; omega)).trans y1); have HBoxY := Lib.hid ((hbY.block w.heap.size lV).trans HBox.out); have HOW := Lib.hid (show Y.ownsRow V.heap.size 9 1 _ _ _ from hown); clear hown hbY)
          | (go_at_call 73; refine (HTx.out (V.alloc (.cells #[.string t.name] 9)).drew ?kk).mono ?_; (case kk => exact (HBV.out.alloc HBV.out.size _).drew); rintro e Y ⟨⟨v, rfl, hown⟩, hbY⟩; obtain ⟨va, vc, rfl⟩ := row_slice hown; have hnb : Y.heap[V.heap.size]? = some (.cells #[.string t.name] 9 (0, 0)) := (hbY.block V.heap.size (by simp)).trans (alloc_new V _); have y1 : Y.cell? ⟨w.heap.size, 1, none⟩ = some (.string t.name) := (hbY.cell (p := ⟨w.heap.size, 1, none⟩) (by simp; omega)).trans (al.out _); have lY : V.heap.size < Y.heap.size := (Array.getElem?_eq_some_iff.1 hnb).1; have HBY := Lib.hid (HBV.out.trans ((((Below.refl _ V).alloc (Nat.le_refl _) _).drew.trans (hbY.mono (by simp))).mono HBV.out.size)); have HBoxY := Lib.hid ((hbY.block w.heap.size (by simp; omega)).trans ((Below.heap_alloc V _ _ lV).trans HBox.out)); have HNB := Lib.hid (World.news_of_block hnb); have hown' : Y.ownsRow (V.heap.size + 1) 9 1 (.slice va out.length vc) out.length (out.map Value.string) := (by simpa using hown); have HOW := Lib.hid hown'; clear hown hown' hbY hnb)
          | (refine step_append_lies _ (by rfl) _ _ 23 (by rfl) V.heap.size 9 i0 (.string ⟨#[]⟩) 1 16 Tryz.underlying23 hi hz0 hz1 hz2 rfl (by decide) _ out.length (out.map Value.string) (by rfl) (HOW.out.alloc _) ⟨Y.heap.size, 0, none⟩ 1 1 [.string t.name] (by rfl) rfl (new_one _ _ _) (by simp [Value.oneCell']) (by decide) (by unfold maxLen; omega) (by omega) (by simp; omega) (Y.heap.size + 1) (by simp) ?_; intro g' cap' w1 hown1 hgrow _ _; have hb1 := Lib.hid (below_grown (B := w.heap.size) HBY.out (own_base HOW.out HBV.out.size) hgrow (Nat.le_trans HBV.out.size lY)); have bx1 := Lib.hid ((row_other (HOW.out.alloc _) hgrow ((Below.heap_alloc Y _ _ (by omega)).trans HBoxY.out) (by decide))); have u1 : w1.cell? ⟨w.heap.size, 1, none⟩ = some (.string t.name) := (by rw [Lib.cell_of_heap bx1.out]; rfl); have HFin := Lib.hid (texts_snoc hown1); clear hown1 hgrow)
          | (refine step_append_lies _ (by rfl) _ _ 23 (by rfl) (V.heap.size + 1) 9 i0 (.string ⟨#[]⟩) 1 16 Tryz.underlying23 hi hz0 hz1 hz2 rfl (by decide) _ out.length (out.map Value.string) (by rfl) HOW.out ⟨V.heap.size, 0, none⟩ 1 1 [.string t.name] (by rfl) rfl HNB.out (by simp [Value.oneCell']) (by decide) (by unfold maxLen; omega) (by omega) (by omega) Y.heap.size rfl ?_; intro g' cap' w1 hown1 hgrow _ _; have hb1 := Lib.hid (below_grown0 (B := w.heap.size) HBY.out (own_base HOW.out (by have := HBV.out.size; omega)) hgrow (by have := HBV.out.size; omega)); have bx1 := Lib.hid (row_other HOW.out hgrow HBoxY.out (by decide)); have u1 : w1.cell? ⟨w.heap.size, 1, none⟩ = some (.string t.name) := (by rw [Lib.cell_of_heap bx1.out]; rfl); have HFin := Lib.hid (texts_snoc hown1); clear hown1 hgrow))
      all_goals
        clear y1
        go_wp2
        go_ret
        exact ⟨⟨_, rfl, HFin.out⟩, hb1.out⟩
end Go.Proofs.YtdidgddcgjpokaaGreatDoor
/- The document's vars, of a constructor, of a function. -/
namespace Go.Proofs.YtdidgddcgjpokaaGreatDoor
open Go.RowKit
attribute [local go_sem] Oper.semAt_some

set_option maxHeartbeats 800000 in
theorem rvars_plain (t : T) (H : ∀ k ∈ t.kids, RVarsOK k) (hk1 : ¬ t.kind = 1) (hk4 : ¬ t.kind = 4) (bd out : List ByteArray) (oa ba a : Option Addr) (oc bc c : Nat) (w : World) (ho : TextsAt w (.slice oa out.length oc) out) (hb : TextsAt w (.slice ba bd.length bc) bd) (ht : TysAt w (.slice a t.kids.length c) t.kids)
    (hol : out.length + tsize t ≤ 1000000000) (hbl : bd.length + tsize t ≤ 1000000000) :
    Calls Tryz.prog 56 #[.slice oa out.length oc, .slice ba bd.length bc, tyV t (.slice a t.kids.length c)] w fun e w' => (∃ v, e = .returned v ∧ TextsAt w' v (fvs bd out t.kids)) ∧ Below w.heap.size w w' := by
  have q1 : (t.kind == 1) = false := by simpa using hk1
  have q4 : (t.kind == 4) = false := by simpa using hk4
  have hz := tsize_eq t
  have hlen := len_sizes' t.kids
  have HBd := Lib.hid (fun o => (Below.refl _ w).alloc (Nat.le_refl _) o)
  have HR := Lib.hid ht.part
  have HS := Lib.hid H
  have HO := Lib.hid ho; have HBb := Lib.hid hb
  clear hk1 hk4 ht H ho hb
  simp only [tyV]
  go_enter Tryz.func56, Tryz.ntmps56
  go_wp2
  go_loopw [0, 7] (fun vo vi wr => ∃ (i : Nat) (b : Option Addr) (d n : Nat), i ≤ t.kids.length ∧ vi = .int .i64 i ∧ vo = .slice b n d ∧ Hid (n = (fvs bd out (t.kids.take i)).length ∧ TextsAt wr (.slice b n d) (fvs bd out (t.kids.take i)) ∧ Below w.heap.size w wr) ∧ Hid (TextsAt wr (.slice ba bd.length bc) bd) ∧ Hid (wr.heap[w.heap.size]? = some (.cells #[.int .i64 t.kind, .string t.name, .slice a t.kids.length c] 31 (0, 0)))) (fun _ vi _ => t.kids.length - (intOf vi).toNat)
  case atStart => exact ⟨0, oa, oc, out.length, Nat.zero_le _, rfl, rfl, Lib.hid ⟨by simp [fvs], by simpa [fvs] using HO.out.below (HBd.out _), HBd.out _⟩, Lib.hid (HBb.out.below (HBd.out _)), Lib.hid (alloc_new w _)⟩
  case round =>
    obtain ⟨i, ob, od, n, hi', rfl, rfl, hF, hBd, hBox⟩ := hrel
    obtain ⟨b0, b1, b2⟩ := three_cells hBox.out
    by_cases hlt : i < t.kids.length
    · obtain ⟨hn, hT, hBl⟩ := hF.out
      obtain ⟨g, pa, ca, rfl, hcap, hr⟩ := HR.out i hlt
      obtain ⟨⟨hg, x0, x1, x2⟩, xk⟩ := hr wr (KeepT.of_below hBl)
      have hsz := tsizes_take t.kids i hlt
      have hl1 := fvs_len (t.kids.take i) bd out
      have hkk := size_mem' (List.getElem_mem hlt)
      rw [hn] at hT ⊢
      have HC := Lib.hid (HS.out t.kids[i] (List.getElem_mem hlt) bd (fvs bd out (t.kids.take i)) ob ba pa od bc ca wr hT hBd.out xk (by omega) (by omega))
      rw [← fvs_drop bd out t.kids i hlt] at HC
      have HB1 := Lib.hid hBl
      clear hr xk hsz hl1 hkk HS HR hF hT hBl hn
      generalize t.kids[i] = u at x0 x1 x2 HC
      simp only [tyV] at HC
      have hlt1 : ((i : Int) < (t.kids.length : Int)) := by omega
      generalize (fvs bd out (t.kids.take i)).length = m at HC ⊢
      go_wp2_with (go_at_call 56; refine HC.out.mono ?_; rintro e w2 ⟨⟨v2, rfl, hT2⟩, hb2⟩; obtain ⟨oe, of, rfl⟩ := hT2.shape; have HF2 := Lib.hid (⟨hT2, HB1.out.trans (hb2.mono HB1.out.size)⟩ : TextsAt w2 (.slice oe (fvs bd out (t.kids.take (i + 1))).length of) (fvs bd out (t.kids.take (i + 1))) ∧ Below w.heap.size w w2); have HBd2 := Lib.hid (hBd.out.below hb2); have HBox2 := Lib.hid ((hb2.block _ (Array.getElem?_eq_some_iff.1 hBox.out).1).trans hBox.out); clear hT2 hb2)
      go_roundw
      case rel => exact ⟨i + 1, oe, of, _, by omega, by go_num, rfl, Lib.hid ⟨rfl, HF2.out⟩, HBd2, HBox2⟩
      case measure => simp [intOf]; omega
    · obtain rfl : i = t.kids.length := by omega
      rw [List.take_length] at hF
      clear HR HS
      go_wp2
      go_ret
      exact ⟨⟨_, rfl, hF.out.2.1⟩, hF.out.2.2⟩
end Go.Proofs.YtdidgddcgjpokaaGreatDoor
/- The document's vars, of a type for all. -/
namespace Go.Proofs.YtdidgddcgjpokaaGreatDoor
open Go.RowKit
attribute [local go_sem] Oper.semAt_some

set_option maxRecDepth 100000 in
set_option maxHeartbeats 1000000 in
theorem rvars_all (t : T) (H : ∀ k ∈ t.kids, RVarsOK k) (hk4 : t.kind = 4) (bd out : List ByteArray) (oa ba a : Option Addr) (oc bc c : Nat) (w : World) (ho : TextsAt w (.slice oa out.length oc) out) (hb : TextsAt w (.slice ba bd.length bc) bd) (ht : TysAt w (.slice a t.kids.length c) t.kids)
    (hol : out.length + tsize t ≤ 1000000000) (hbl : bd.length + tsize t ≤ 1000000000) :
    Calls Tryz.prog 56 #[.slice oa out.length oc, .slice ba bd.length bc, tyV t (.slice a t.kids.length c)] w fun e w' => (∃ v, e = .returned v ∧ TextsAt w' v (fvs (bd ++ [t.name]) out t.kids)) ∧ Below w.heap.size w w' := by
  have hz := tsize_eq t
  have hlen := len_sizes' t.kids
  have hbl2 : bd.length ≤ 1000000000 := by omega
  have HBd := Lib.hid (fun o => (Below.refl _ w).alloc (Nat.le_refl _) o)
  have HR := Lib.hid ht.part
  have HS := Lib.hid H
  have HO := Lib.hid ho
  have HTb := Lib.hid (fun (V : World) (k : Below w.heap.size w V) => textsR_any bd hbl2 ba bc V (hb.below k))
  clear ht H ho hb
  simp only [tyV, hk4]
  clear hk4
  go_enter Tryz.func56, Tryz.ntmps56
  go_wp2
  obtain ⟨i0, hi, hz0, hz1, hz2⟩ := info_parts Tryz.infoStr
  refine with_worldC (fun V => Below w.heap.size w V ∧ V.heap[w.heap.size]? = some (.cells #[.int .i64 4, .string t.name, .slice a t.kids.length c] 31 (0, 0))) ⟨HBd.out _, alloc_new w _⟩ ?_
  rintro V ⟨hbV, hbox⟩
  obtain ⟨z0, z1, z2⟩ := three_cells hbox
  have HBV := Lib.hid hbV; have HBox := Lib.hid hbox
  have lV := (Array.getElem?_eq_some_iff.1 hbox).1
  have al : Hid (∀ (o : Obj), (V.alloc o).cell? ⟨w.heap.size, 1, none⟩ = some (.string t.name)) := Lib.hid fun o => (((Below.refl V.heap.size V).alloc (Nat.le_refl _) o).cell (p := ⟨w.heap.size, 1, none⟩) lV).trans z1
  clear hbV hbox
  go_region_held3 (fun V' => V'.cell? ⟨w.heap.size, 1, none⟩ = some (.string t.name)) (first | exact z1 | exact al.out _ | exact y1 | exact aly.out _ | exact u1)
    (first
      | (go_at_call 73; refine (HTb.out V.drew ?kk).mono ?_; (case kk => exact HBV.out.drew); rintro e Y ⟨⟨v, rfl, hown⟩, hbY⟩; obtain ⟨va, vc, rfl⟩ := row_slice hown; have y1 := (hbY.cell (p := ⟨w.heap.size, 1, none⟩) lV).trans z1; have lY : V.heap.size ≤ Y.heap.size := hbY.size; have HBY := Lib.hid (HBV.out.trans (((Below.refl _ V).drew.trans hbY).mono HBV.out.size)); have aly : Hid (∀ (o : Obj), (Y.alloc o).cell? ⟨w.heap.size, 1, none⟩ = some (.string t.name)) := Lib.hid (fun o => (((Below.refl Y.heap.size Y).alloc (Nat.le_refl _) o).cell (p := ⟨w.heap.size, 1, none⟩) (by show w.heap.size < Y.heap.size; omega)).trans y1); have HBoxY := Lib.hid ((hbY.block w.heap.size lV).trans HBox.out); have HOW := Lib.hid (show Y.ownsRow V.heap.size 9 1 _ _ _ from hown); clear hown hbY)
      | (go_at_call 73; refine (HTb.out (V.alloc (.cells #[.string t.name] 9)).drew ?kk).mono ?_; (case kk => exact (HBV.out.alloc HBV.out.size _).drew); rintro e Y ⟨⟨v, rfl, hown⟩, hbY⟩; obtain ⟨va, vc, rfl⟩ := row_slice hown; have hnb : Y.heap[V.heap.size]? = some (.cells #[.string t.name] 9 (0, 0)) := (hbY.block V.heap.size (by simp)).trans (alloc_new V _); have y1 : Y.cell? ⟨w.heap.size, 1, none⟩ = some (.string t.name) := (hbY.cell (p := ⟨w.heap.size, 1, none⟩) (by simp; omega)).trans (al.out _); have lY : V.heap.size < Y.heap.size := (Array.getElem?_eq_some_iff.1 hnb).1; have HBY := Lib.hid (HBV.out.trans ((((Below.refl _ V).alloc (Nat.le_refl _) _).drew.trans (hbY.mono (by simp))).mono HBV.out.size)); have HBoxY := Lib.hid ((hbY.block w.heap.size (by simp; omega)).trans ((Below.heap_alloc V _ _ lV).trans HBox.out)); have HNB := Lib.hid (World.news_of_block hnb); have hown' : Y.ownsRow (V.heap.size + 1) 9 1 (.slice va bd.length vc) bd.length (bd.map Value.string) := (by simpa using hown); have HOW := Lib.hid hown'; clear hown hown' hbY hnb)
      | (refine step_append_lies _ (by rfl) _ _ 23 (by rfl) V.heap.size 9 i0 (.string ⟨#[]⟩) 1 16 Tryz.underlying23 hi hz0 hz1 hz2 rfl (by decide) _ bd.length (bd.map Value.string) (by rfl) (HOW.out.alloc _) ⟨Y.heap.size, 0, none⟩ 1 1 [.string t.name] (by rfl) rfl (new_one _ _ _) (by simp [Value.oneCell']) (by decide) (by unfold maxLen; omega) (by omega) (by simp; omega) (Y.heap.size + 1) (by simp) ?_; intro g' cap' w1 hown1 hgrow _ _; have hb1 := Lib.hid (below_grown (B := w.heap.size) HBY.out (own_base HOW.out HBV.out.size) hgrow (Nat.le_trans HBV.out.size lY)); have bx1 := Lib.hid ((row_other (HOW.out.alloc _) hgrow ((Below.heap_alloc Y _ _ (by omega)).trans HBoxY.out) (by decide))); have u1 : w1.cell? ⟨w.heap.size, 1, none⟩ = some (.string t.name) := (by rw [Lib.cell_of_heap bx1.out]; rfl); have HFin := Lib.hid (texts_snoc hown1); clear hown1 hgrow)
      | (refine step_append_lies _ (by rfl) _ _ 23 (by rfl) (V.heap.size + 1) 9 i0 (.string ⟨#[]⟩) 1 16 Tryz.underlying23 hi hz0 hz1 hz2 rfl (by decide) _ bd.length (bd.map Value.string) (by rfl) HOW.out ⟨V.heap.size, 0, none⟩ 1 1 [.string t.name] (by rfl) rfl HNB.out (by simp [Value.oneCell']) (by decide) (by unfold maxLen; omega) (by omega) (by omega) Y.heap.size rfl ?_; intro g' cap' w1 hown1 hgrow _ _; have hb1 := Lib.hid (below_grown0 (B := w.heap.size) HBY.out (own_base HOW.out (by have := HBV.out.size; omega)) hgrow (by have := HBV.out.size; omega)); have bx1 := Lib.hid (row_other HOW.out hgrow HBoxY.out (by decide)); have u1 : w1.cell? ⟨w.heap.size, 1, none⟩ = some (.string t.name) := (by rw [Lib.cell_of_heap bx1.out]; rfl); have HFin := Lib.hid (texts_snoc hown1); clear hown1 hgrow))
  all_goals
    clear y1 z0 z1 z2 u1 lV lY
    obtain ⟨bd', hbd⟩ : ∃ b, bd ++ [t.name] = b := ⟨_, rfl⟩
    have hl' : bd.length + 1 = bd'.length := by rw [← hbd]; simp
    rw [hbd, hl'] at HFin
    rw [hl']
    have HBE := Lib.hid hbd
    have hbl' : bd'.length + tsizes t.kids ≤ 1000000000 := by omega
    clear hbd hl' HOW
    go_wp2
    go_loopw [0, 7] (fun vo vi wr => ∃ (i : Nat) (b : Option Addr) (d n : Nat), i ≤ t.kids.length ∧ vi = .int .i64 i ∧ vo = .slice b n d ∧ Hid (n = (fvs bd' out (t.kids.take i)).length ∧ TextsAt wr (.slice b n d) (fvs bd' out (t.kids.take i)) ∧ Below w.heap.size w wr) ∧ Hid (TextsAt wr (.slice (some ⟨g', 0, none⟩) bd'.length cap') bd') ∧ Hid (wr.heap[w.heap.size]? = some (.cells #[.int .i64 4, .string t.name, .slice a t.kids.length c] 31 (0, 0)))) (fun _ vi _ => t.kids.length - (intOf vi).toNat)
    case atStart => exact ⟨0, oa, oc, out.length, Nat.zero_le _, rfl, rfl, Lib.hid ⟨by simp [fvs], by simpa [fvs] using HO.out.below hb1.out, hb1.out⟩, Lib.hid HFin.out, Lib.hid bx1.out⟩
    case round =>
      obtain ⟨i, ob, od, n, hi', rfl, rfl, hF, hBd, hBox⟩ := hrel
      obtain ⟨b0, b1, b2⟩ := three_cells hBox.out
      by_cases hlt : i < t.kids.length
      · obtain ⟨hn, hT, hBl⟩ := hF.out
        obtain ⟨g, pa, ca, rfl, hcap, hr⟩ := HR.out i hlt
        obtain ⟨⟨hg, x0, x1, x2⟩, xk⟩ := hr wr (KeepT.of_below hBl)
        have hsz := tsizes_take t.kids i hlt
        have hl1 := fvs_len (t.kids.take i) bd' out
        have hkk := size_mem' (List.getElem_mem hlt)
        rw [hn] at hT ⊢
        have HC := Lib.hid (HS.out t.kids[i] (List.getElem_mem hlt) bd' (fvs bd' out (t.kids.take i)) ob (some ⟨g', 0, none⟩) pa od cap' ca wr hT hBd.out xk (by omega) (by omega))
        rw [← fvs_drop bd' out t.kids i hlt] at HC
        have HB1 := Lib.hid hBl
        clear hr xk hsz hl1 hkk HS HR hF hT hBl hn
        generalize t.kids[i] = u at x0 x1 x2 HC
        simp only [tyV] at HC
        have hlt1 : ((i : Int) < (t.kids.length : Int)) := by omega
        generalize (fvs bd' out (t.kids.take i)).length = m at HC ⊢
        go_wp2_with (go_at_call 56; refine HC.out.mono ?_; rintro e w2 ⟨⟨v2, rfl, hT2⟩, hb2⟩; obtain ⟨oe, of, rfl⟩ := hT2.shape; have HF2 := Lib.hid (⟨hT2, HB1.out.trans (hb2.mono HB1.out.size)⟩ : TextsAt w2 (.slice oe (fvs bd' out (t.kids.take (i + 1))).length of) (fvs bd' out (t.kids.take (i + 1))) ∧ Below w.heap.size w w2); have HBd2 := Lib.hid (hBd.out.below hb2); have HBox2 := Lib.hid ((hb2.block _ (Array.getElem?_eq_some_iff.1 hBox.out).1).trans hBox.out); clear hT2 hb2)
        go_roundw
        case rel => exact ⟨i + 1, oe, of, _, by omega, by go_num, rfl, Lib.hid ⟨rfl, HF2.out⟩, HBd2, HBox2⟩
        case measure => simp [intOf]; omega
      · obtain rfl : i = t.kids.length := by omega
        rw [List.take_length] at hF
        clear HR HS
        go_wp2
        go_ret
        exact ⟨⟨_, rfl, by rw [HBE.out]; exact hF.out.2.1⟩, hF.out.2.2⟩
end Go.Proofs.YtdidgddcgjpokaaGreatDoor
/- The document's Vars. -/
namespace Go.Proofs.YtdidgddcgjpokaaGreatDoor
open Go.RowKit
attribute [local go_sem] Oper.semAt_some

theorem rvars_any (t : T) : RVarsOK t := by
  refine T.by_kids (P := RVarsOK) (fun t H => ?_) t
  have hz := tsize_eq t
  intro bd out oa ba a oc bc c w ho hb ht hol hbl
  cases t with
  | var n =>
    refine (rvars_var (.var n) rfl rfl bd out oa ba a oc bc c w ho hb (by omega) (by omega) (by omega)).mono ?_
    rintro e w' ⟨⟨v, rfl, h⟩, hb'⟩
    refine ⟨⟨v, rfl, ?_⟩, hb'⟩
    rw [fv]
    by_cases hx : n ∈ bd ∨ n ∈ out
    · rw [if_pos hx]; rw [if_pos (hx.elim (fun e => .inr (inB_iff.2 e)) (fun e => .inl (inB_iff.2 e)))] at h; exact h
    · rw [if_neg hx]; rw [if_neg (fun e => hx (e.elim (fun e => .inr (inB_iff.1 e)) (fun e => .inl (inB_iff.1 e))))] at h; exact h
  | con n l => rw [fv]; exact rvars_plain (.con n l) H (by simp [T.kind]) (by simp [T.kind]) bd out oa ba a oc bc c w ho hb ht hol hbl
  | fn x y =>
    have e : fv bd out (.fn x y) = fvs bd out (T.fn x y).kids := by simp [fv, T.kids, fvs]
    rw [e]
    exact rvars_plain (.fn x y) H (by simp [T.kind]) (by simp [T.kind]) bd out oa ba a oc bc c w ho hb ht hol hbl
  | all n x =>
    have e : fv bd out (.all n x) = fvs (bd ++ [(T.all n x).name]) out (T.all n x).kids := by
      simp only [fv, T.kids, fvs, T.name]
      exact fv_congr x _ _ out (fun y => by simp only [List.mem_cons, List.mem_append, List.not_mem_nil, or_false]; exact Or.comm)
    rw [e]
    exact rvars_all (.all n x) H rfl bd out oa ba a oc bc c w ho hb ht hol hbl

set_option maxHeartbeats 2000000 in
theorem rVars_any (l : List T) (hs : tsizes l ≤ 1000000000) (a : Option Addr) (c : Nat) (w : World) (ht : TysAt w (.slice a l.length c) l) :
    Calls Tryz.prog 28 #[.slice a l.length c] w fun e w' => (∃ v, e = .returned v ∧ TextsAt w' v (fvs [] [] l)) ∧ Below w.heap.size w w' := by
  have hlen := len_sizes' l
  have HR := Lib.hid ht.part
  clear ht
  go_enter Tryz.func28, Tryz.ntmps28
  go_wp2
  go_loopw [3, 4] (fun vo vi wr => ∃ (i : Nat) (b : Option Addr) (d n : Nat), i ≤ l.length ∧ vi = .int .i64 i ∧ vo = .slice b n d ∧ Hid (n = (fvs [] [] (l.take i)).length ∧ TextsAt wr (.slice b n d) (fvs [] [] (l.take i)) ∧ Below w.heap.size w wr)) (fun _ vi _ => l.length - (intOf vi).toNat)
  case atStart => exact ⟨0, none, 0, 0, Nat.zero_le _, rfl, rfl, Lib.hid ⟨by simp [fvs], ⟨none, 0, by simp [fvs], .inl (by simp [fvs])⟩, Below.refl _ _⟩⟩
  case round =>
    obtain ⟨i, ob, od, n, hi', rfl, rfl, hF⟩ := hrel
    by_cases hlt : i < l.length
    · obtain ⟨hn, hT, hBl⟩ := hF.out
      obtain ⟨g, pa, ca, rfl, hcap, hr⟩ := HR.out i hlt
      obtain ⟨⟨hg, x0, x1, x2⟩, xk⟩ := hr wr (KeepT.of_below hBl)
      have hsz := tsizes_take l i hlt
      have hl1 := fvs_len (l.take i) [] []
      have hkk := size_mem' (List.getElem_mem hlt)
      rw [hn] at hT ⊢
      simp only [List.length_nil] at hl1
      have HC := Lib.hid (rvars_any l[i] [] (fvs [] [] (l.take i)) ob none pa od 0 ca wr hT ⟨none, 0, rfl, .inl rfl⟩ xk (by omega) (by simp only [List.length_nil]; omega))
      rw [← fvs_drop [] [] l i hlt] at HC
      have HB1 := Lib.hid hBl
      clear hr xk hsz hl1 hkk HR hF hT hBl hn
      generalize l[i] = u at x0 x1 x2 HC
      simp only [tyV, List.length_nil] at HC
      have hlt1 : ((i : Int) < (l.length : Int)) := by omega
      generalize (fvs [] [] (l.take i)).length = m at HC ⊢
      go_wp2_with (go_at_call 56; refine HC.out.mono ?_; rintro e w2 ⟨⟨v2, rfl, hT2⟩, hb2⟩; obtain ⟨oe, of, rfl⟩ := hT2.shape; have HF2 := Lib.hid (⟨hT2, HB1.out.trans (hb2.mono HB1.out.size)⟩ : TextsAt w2 (.slice oe (fvs [] [] (l.take (i + 1))).length of) (fvs [] [] (l.take (i + 1))) ∧ Below w.heap.size w w2); clear hT2 hb2)
      go_roundw
      case rel => exact ⟨i + 1, oe, of, _, by omega, by go_num, rfl, Lib.hid ⟨rfl, HF2.out⟩⟩
      case measure => simp [intOf]; omega
    · obtain rfl : i = l.length := by omega
      rw [List.take_length] at hF
      clear HR
      go_wp2
      go_ret
      exact ⟨⟨_, rfl, hF.out.2.1⟩, hF.out.2.2⟩
end Go.Proofs.YtdidgddcgjpokaaGreatDoor
/- paideiaref4.Close, of whatever context, with nothing left out. -/
namespace Go.Proofs.YtdidgddcgjpokaaGreatDoor
open Go.RowKit Go.Sort Go.Lib
attribute [local go_sem] Oper.semAt_some

theorem Tryz.infoStrC : (Tryz.prog.info? 9).map (fun i => (i.zero, i.size, i.bytes)) = some (some (.string ⟨#[]⟩), 1, 16) := by kernel_rfl
theorem frz_one (w : World) (x : Value) (t : TypeId) : ∀ j v, [x][j]? = some v → (w.alloc (.cells #[x] t)).cell? ((⟨w.heap.size, 0, none⟩ : Addr).add j) = some v := by
  intro j v hv
  have hadd : (⟨w.heap.size, 0, none⟩ : Addr).add j = ⟨w.heap.size, j, none⟩ := by unfold Addr.add; split <;> simp_all
  rw [hadd]
  have := alloc_new w (.cells #[x] t)
  simp only [World.cell?, this]
  match j, hv with
  | 0, hv => simpa using hv
  | n + 1, hv => simp at hv
theorem own_drew {W : World} {base : Nat} {e : TypeId} {size m : Nat} {vs : Value} {xs : List Value} (h : W.ownsRow base e size vs m xs) : W.drew.ownsRow base e size vs m xs := h
end Go.Proofs.YtdidgddcgjpokaaGreatDoor
/- paideiaref4.Close, of whatever context, with whatever is left out. -/
namespace Go.Proofs.YtdidgddcgjpokaaGreatDoor
open Go.RowKit Go.Sort Go.Lib
attribute [local go_sem] Oper.semAt_some

/-- What the loop keeps: the scheme in its block, its variables in a row of one's own; all else as it was behind Vars. -/
def CLJ (p : Nat) (w W2 : World) (C K N S : Value) (M : List ByteArray) (v : Value) (wr : World) : Prop :=
  wr.heap[p]? = some (.cells #[v, C, K, N, S] 33 (0, 0)) ∧ wr.ownsRow W2.heap.size 9 1 v M.length (M.map Value.string) ∧ (∀ k, k < W2.heap.size → k ≠ p → wr.heap[k]? = W2.heap[k]?) ∧ Below w.heap.size w wr ∧ W2.heap.size ≤ wr.heap.size
theorem CLJ.step {p : Nat} {w W2 : World} {C K N S : Value} {M : List ByteArray} {x : ByteArray} {b : Option Addr} {m d : Nat} {wr W5 : World} {o : Obj} {g cap : Nat} (h : CLJ p w W2 C K N S M (.slice b m d) wr) (hp : p < W2.heap.size) (hwp : w.heap.size ≤ p) (hm : M.length = m) (hg : (wr.alloc o).grownBy W5 (Value.slice b m d).ownBlock)
    (ho : W5.ownsRow W2.heap.size 9 1 (.slice (some ⟨g, 0, none⟩) (m + 1) cap) (m + 1) (M.map Value.string ++ [.string x])) :
    CLJ p w W2 C K N S (M ++ [x]) (.slice (some ⟨g, 0, none⟩) (m + 1) cap) (W5.setCell ⟨p, 0, none⟩ (.slice (some ⟨g, 0, none⟩) (m + 1) cap)) := by
  obtain ⟨h1, h2, h3, h4, h5⟩ := h
  have hne : some p ≠ (Value.slice b m d).ownBlock := fun e => by have := (h2.lt p e.symm).1; omega
  have e1 : W5.heap[p]? = some (.cells #[.slice b m d, C, K, N, S] 33 (0, 0)) := (hg.block p (by simp; omega) hne).trans ((Below.heap_alloc wr o p (by omega)).trans h1)
  have hs : wr.heap.size ≤ W5.heap.size := by have := hg.size; simp at this; omega
  have hss : (W5.setCell ⟨p, 0, none⟩ (.slice (some ⟨g, 0, none⟩) (m + 1) cap)).heap.size = W5.heap.size := by simp [World.setCell]
  refine ⟨blk_set (o := 0) e1 _, ?_, fun k hk hkp => ?_, ?_, by omega⟩
  · rw [List.map_append, List.length_append, hm]
    refine own_keep (p := p) ho (fun k o' hk hkp => (Below.heap_setCell _ ⟨p, 0, none⟩ _ k hkp).trans hk) hp
  · refine (Below.heap_setCell _ ⟨p, 0, none⟩ _ k hkp).trans ((hg.block k (by simp; omega) (fun e => ?_)).trans ((Below.heap_alloc wr o k (by omega)).trans (h3 k hk hkp)))
    have := (h2.lt k e.symm).1; omega
  · exact ((h4.alloc (by have := h4.size; omega) o).grown hg (by simp; have := h4.size; omega) (fun j hj => by have := (h2.lt j hj).1; omega)).setCell (p := ⟨p, 0, none⟩) hwp _
/-- The names of L that are not in nt. -/
noncomputable def lft (nt L : List ByteArray) : List ByteArray := L.filter fun x => !(inB nt x)
theorem lft_snoc (nt L : List ByteArray) {i : Nat} (h : i < L.length) : lft nt (L.take (i + 1)) = if inB nt (L.getD i ⟨#[]⟩) = true then lft nt (L.take i) else lft nt (L.take i) ++ [L.getD i ⟨#[]⟩] := by
  unfold lft
  rw [List.take_succ_eq_append_getElem h, List.filter_append, show L.getD i ⟨#[]⟩ = L[i] by simp [List.getD, h]]
  by_cases hx : inB nt L[i] = true
  · rw [if_pos hx]; simp [hx]
  · rw [if_neg hx]; simp [hx]
end Go.Proofs.YtdidgddcgjpokaaGreatDoor
/- paideiaref4.Free, of whatever scheme. -/
namespace Go.Proofs.YtdidgddcgjpokaaGreatDoor
open Go.RowKit Go.Sort Go.Lib
attribute [local go_sem] Oper.semAt_some

set_option maxRecDepth 100000 in
set_option maxHeartbeats 8000000 in
theorem rfree_any (xs : List ByteArray) (hxl : xs.length ≤ 1000000) (xa : Option Addr) (xc : Nat) (t : T) (lc : List Pr) (L : List ByteArray) (hL : fvs [] [] (t :: lc.map (·.2)) = L) (hLn : L.length ≤ 1000000) (hs : tsizes (t :: lc.map (·.2)) ≤ 1000000000) (ta va : Option Addr) (tc vc : Nat) (w : World) (ht : TysAt w (.slice ta t.kids.length tc) t.kids) (hP : PrsAt w (.slice va lc.length vc) lc) (hn : lc.length ≤ 1000000) (hx : TextsAt w (.slice xa xs.length xc) xs) :
    Calls Tryz.prog 15 #[.agg #[.slice xa xs.length xc, .slice va lc.length vc, .int .i64 t.kind, .string t.name, .slice ta t.kids.length tc]] w fun e w' =>
      (∃ oa oc, e = .returned (.slice oa (lft xs L).length oc) ∧ TextsAt w' (.slice oa (lft xs L).length oc) (lft xs L)) ∧ Below w.heap.size w w' := by
  obtain ⟨i0, hi, hz0, hz1, hz2⟩ := info_parts Tryz.infoStrC
  have HNt := Lib.hid hx
  have HT := Lib.hid ht; have HP := Lib.hid hP; have HL := Lib.hid hL; have HS := Lib.hid hs
  clear hx ht hP hL hs
  go_enter Tryz.func15, Tryz.ntmps15
  go_wp2_with (go_at_call 36; fail)
  have hb0 := (Below.refl w.heap.size w).alloc (Nat.le_refl _) (.cells #[.slice xa xs.length xc, .slice va lc.length vc, .int .i64 t.kind, .string t.name, .slice ta t.kids.length tc] 33)
  have hn0 := alloc_new w (.cells #[.slice xa xs.length xc, .slice va lc.length vc, .int .i64 t.kind, .string t.name, .slice ta t.kids.length tc] 33)
  have hz0' : (w.alloc (.cells #[.slice xa xs.length xc, .slice va lc.length vc, .int .i64 t.kind, .string t.name, .slice ta t.kids.length tc] 33)).heap.size = w.heap.size + 1 := by simp
  obtain ⟨W0, hW0⟩ : ∃ W, w.alloc (.cells #[.slice xa xs.length xc, .slice va lc.length vc, .int .i64 t.kind, .string t.name, .slice ta t.kids.length tc] 33) = W := ⟨_, rfl⟩
  rw [hW0] at hb0 hn0 hz0'
  rw [hW0]
  clear hW0
  refine (rallc_any t lc ta va tc vc _ (HT.out.keep (KeepT.of_below hb0)) (HP.out.keep (KeepT.of_below hb0) (KeepP.of_below hb0)) hn).mono ?_
  rintro e w1 ⟨⟨aa, ac, rfl, ht1⟩, hb1⟩
  have HZ1 := Lib.hid (And.intro hb0 (And.intro hb1 (And.intro hn0 hz0')))
  have hT1 := rVars_any (t :: lc.map (·.2)) HS.out aa ac w1 (by simpa using ht1)
  simp only [List.length_cons, List.length_map] at hT1
  have HT1 := Lib.hid hT1
  clear hb0 hb1 hn0 hz0' ht1 hT1
  go_wp2_with (go_at_call 28; fail)
  refine HT1.out.mono ?_
  rintro e W2 ⟨⟨v, rfl, hv⟩, hb2⟩
  rw [HL.out] at hv
  obtain ⟨la, ld, rfl⟩ := hv.shape
  have hq2 := HZ1.out.2.1.size
  have hq3 := hb2.size
  have hq1 := HZ1.out.2.2.2
  have hbx := (hb2.block _ (show w.heap.size < w1.heap.size by omega)).trans ((HZ1.out.2.1.block w.heap.size (by omega)).trans HZ1.out.2.2.1)
  have hbw : Below w.heap.size w W2 := HZ1.out.1.trans ((HZ1.out.2.1.mono (by omega)).trans (hb2.mono (by omega)))
  have HX2 := Lib.hid hv.strs
  have HBx := Lib.hid hbx
  have HBw := Lib.hid hbw
  have hp2 : w.heap.size < W2.heap.size := by omega
  clear hv hb2 hbx hbw HZ1 HT1 HT HP HS HL hq2 hq3 hq1
  go_wp2
  go_loopw [3, 5] (fun vo vi wr => ∃ (i d m : Nat) (b : Option Addr) (M : List ByteArray), i ≤ L.length ∧ vi = .int .i64 i ∧ vo = .slice b m d ∧ m ≤ i ∧ Hid (M = lft xs (L.take i) ∧ M.length = m) ∧ Hid (wr.ownsRow W2.heap.size 9 1 (.slice b m d) m (M.map Value.string) ∧ Below W2.heap.size W2 wr)) (fun _ vi _ => L.length - (intOf vi).toNat)
  case atStart => exact ⟨0, 0, 0, none, [], Nat.zero_le _, rfl, rfl, Nat.le_refl _, Lib.hid ⟨rfl, rfl⟩, Lib.hid ⟨World.ownsRow_nil _ _ _ _, Below.refl _ _⟩⟩
  case round =>
    obtain ⟨i, d, m, b, M, hi', rfl, rfl, hmi, hM, hI⟩ := hrel
    have hz := hI.out.2.size
    have HBk := Lib.hid (show wr.heap[w.heap.size]? = some (.cells #[.slice xa xs.length xc, .slice va lc.length vc, .int .i64 t.kind, .string t.name, .slice ta t.kids.length tc] 33) from (hI.out.2.block _ hp2).trans HBx.out)
    by_cases hlt : i < L.length
    · obtain ⟨gL, oL, rfl, lL, cL⟩ := HX2.out.at (by omega)
      have xL : wr.cell? ⟨gL, oL + i, none⟩ = some (.string (L.getD i ⟨#[]⟩)) := (World.cell?_of_block (a := ⟨gL, oL + i, none⟩) (hI.out.2.block gL lL)).trans (cL i hlt)
      have HSn := Lib.hid (lft_snoc xs L hlt)
      obtain ⟨x0, x1, x2, x3, x4⟩ := cells5 HBk.out
      have hbl : gL < wr.heap.size := by omega
      have hpl : w.heap.size < wr.heap.size := by omega
      have HR := Lib.hid hI.out.1
      have HBl := Lib.hid hI.out.2
      have hlI : (i : Int) < (L.length : Int) := by omega
      have hHas := hasR_any xs (by omega) (L.getD i ⟨#[]⟩) xa xc wr.drew (show TextsAt wr.drew (.slice xa xs.length xc) xs from (HNt.out.below (HBw.out.trans (hI.out.2.mono (Nat.le_of_lt hp2))) : TextsAt wr (.slice xa xs.length xc) xs))
      clear cL
      obtain ⟨f, hf⟩ : ∃ f, L.getD i ⟨#[]⟩ = f := ⟨_, rfl⟩
      rw [hf] at xL HSn hHas
      clear hf
      obtain ⟨r, hr⟩ : ∃ r, inB xs f = r := ⟨_, rfl⟩
      rw [hr] at hHas HSn
      have HHas := Lib.hid hHas
      clear hHas hr
      cases r with
      | true =>
        have hMn : M = lft xs (L.take (i + 1)) := by rw [HSn.out, if_pos rfl]; exact hM.out.1
        have HMn := Lib.hid (And.intro hMn hM.out.2)
        clear hMn hM
        go_wp2_with fail
        go_region_with (go_at_call 29; refine HHas.out.mono ?_; rintro e w' ⟨rfl, rfl⟩)
        all_goals go_wp2
        all_goals
          go_roundw
          case rel => exact ⟨i + 1, _, m, _, M, by omega, by go_num, rfl, by omega, HMn, Lib.hid ⟨own_drew hI.out.1, hI.out.2.drew⟩⟩
          case measure => simp [intOf]; omega
      | false =>
        have hMn : M ++ [f] = lft xs (L.take (i + 1)) := by rw [HSn.out, if_neg (by simp)]; rw [hM.out.1]
        have HMn := Lib.hid (show M ++ [f] = lft xs (L.take (i + 1)) ∧ (M ++ [f]).length = m + 1 from ⟨hMn, by rw [List.length_append, hM.out.2]; rfl⟩)
        clear hMn hM hI
        go_wp2_with fail
        go_region_with (go_at_call 29; refine HHas.out.mono ?_; rintro e w' ⟨rfl, rfl⟩)
        all_goals
          go_wp2_with (at_builtin; refine wpList_append_lies _ rfl _ _ 23 rfl W2.heap.size 9 i0 (.string ⟨#[]⟩) 1 16 Tryz.underlying23 hi hz0 hz1 hz2 rfl (by decide) _ _ _ rfl (own_drew (HR.out.alloc _)) ⟨wr.heap.size, 0, none⟩ 1 1 [.string f] rfl rfl (frz_one _ _ _) (by simp [Value.oneCell']) (by decide) ?p3 ?p4 ?p5 _ rfl ?_)
          case p3 => unfold maxLen; omega
          case p4 => omega
          case p5 => first | omega | (simp; omega)
          intro g3 cap3 W8 hown3 hgrow _ _
          have HN8 := Lib.hid (show W8.ownsRow W2.heap.size 9 1 (.slice (some ⟨g3, 0, none⟩) (m + 1) cap3) (m + 1) ((M ++ [f]).map Value.string) ∧ Below W2.heap.size W2 W8 from ⟨by rw [List.map_append]; exact hown3, (HBl.out.alloc hz _).grown (show (wr.alloc _).grownBy W8 (Value.slice b m d).ownBlock from ⟨hgrow.os, hgrow.tape, hgrow.output, hgrow.size, hgrow.block⟩) (by simp; omega) (fun j hj => (HR.out.lt j hj).1)⟩)
          clear hown3 hgrow
          go_wp2
          go_roundw
          case rel => exact ⟨i + 1, _, m + 1, _, M ++ [f], by omega, by go_num, rfl, by omega, HMn, HN8⟩
          case measure => simp [intOf]; omega
    · obtain rfl : i = L.length := by omega
      obtain ⟨hM1, hM2⟩ := hM.out
      rw [List.take_length] at hM1
      subst hM2
      subst hM1
      have HE := Lib.hid (And.intro (TextsAt.of_row hI.out.1) (HBw.out.trans (hI.out.2.mono (by omega))))
      clear hI
      go_wp2
      go_ret
      exact ⟨⟨_, _, rfl, HE.out.1⟩, HE.out.2⟩
end Go.Proofs.YtdidgddcgjpokaaGreatDoor
/- strconv.FormatUint at base 10. -/
namespace Go.Proofs.YtdidgddcgjpokaaGreatDoor
open Go.Shelf Go.RowKit Go.Sort Go.Lib
attribute [local go_sem] Oper.semAt_some

def numRen : Go.Shelf.Ren := ⟨fun | 129 => 89 | 283 => 96 | 284 => 97 | 285 => 98 | 317 => 112 | 318 => 113 | n => n,
  fun | 0 => 0 | 3 => 3 | 4 => 4 | 5 => 5 | 9 => 9 | 37 => 79 | 46 => 101 | 51 => 122 | 53 => 89 | 212 => 147 | n => n, fun | 17 => 0 | n => n⟩
theorem lay283 : Lays.n283 Tryz.prog numRen :=
  {
    mixed := by kernel_rfl
    f283 := by kernel_rfl
    t3 := by kernel_rfl
    a3 := fun _ => by kernel_rfl
    z3 := fun _ => by kernel_rfl
    v3 := fun _ => by kernel_rfl
    t4 := by kernel_rfl
    a4 := fun _ => by kernel_rfl
    z4 := fun _ => by kernel_rfl
    v4 := fun _ => by kernel_rfl
    t9 := by kernel_rfl
    a9 := fun _ => by kernel_rfl
    z9 := fun _ => by kernel_rfl
    v9 := fun _ => by kernel_rfl }
theorem lay285 : Lays.n285 Tryz.prog numRen :=
  {
    mixed := by kernel_rfl
    f285 := by kernel_rfl
    t0 := by kernel_rfl
    a0 := fun _ => by kernel_rfl
    z0 := fun _ => by kernel_rfl
    v0 := fun _ => by kernel_rfl
    t3 := by kernel_rfl
    a3 := fun _ => by kernel_rfl
    z3 := fun _ => by kernel_rfl
    v3 := fun _ => by kernel_rfl
    t4 := by kernel_rfl
    a4 := fun _ => by kernel_rfl
    z4 := fun _ => by kernel_rfl
    v4 := fun _ => by kernel_rfl
    t5 := by kernel_rfl
    a5 := fun _ => by kernel_rfl
    z5 := fun _ => by kernel_rfl
    v5 := fun _ => by kernel_rfl
    t9 := by kernel_rfl
    a9 := fun _ => by kernel_rfl
    z9 := fun _ => by kernel_rfl
    v9 := fun _ => by kernel_rfl
    t37 := by kernel_rfl
    a37 := fun _ => by kernel_rfl
    z37 := fun _ => by kernel_rfl
    v37 := fun _ => by kernel_rfl
    t51 := by kernel_rfl
    a51 := fun _ => by kernel_rfl
    z51 := fun _ => by kernel_rfl
    v51 := fun _ => by kernel_rfl
    t53 := by kernel_rfl
    a53 := fun _ => by kernel_rfl
    z53 := fun _ => by kernel_rfl
    v53 := fun _ => by kernel_rfl }
theorem lay284 : LaysM.n284 Tryz.prog numRen :=
  {
    mixed := by kernel_rfl
    f129 := by kernel_rfl
    f284 := by kernel_rfl
    f317 := by kernel_rfl
    f318 := by kernel_rfl
    t0 := by kernel_rfl
    a0 := fun _ => by kernel_rfl
    z0 := fun _ => by kernel_rfl
    v0 := fun _ => by kernel_rfl
    t3 := by kernel_rfl
    a3 := fun _ => by kernel_rfl
    z3 := fun _ => by kernel_rfl
    v3 := fun _ => by kernel_rfl
    t4 := by kernel_rfl
    a4 := fun _ => by kernel_rfl
    z4 := fun _ => by kernel_rfl
    v4 := fun _ => by kernel_rfl
    t5 := by kernel_rfl
    a5 := fun _ => by kernel_rfl
    z5 := fun _ => by kernel_rfl
    v5 := fun _ => by kernel_rfl
    t9 := by kernel_rfl
    a9 := fun _ => by kernel_rfl
    z9 := fun _ => by kernel_rfl
    v9 := fun _ => by kernel_rfl
    t46 := by kernel_rfl
    a46 := fun _ => by kernel_rfl
    z46 := fun _ => by kernel_rfl
    v46 := fun _ => by kernel_rfl
    t53 := by kernel_rfl
    a53 := fun _ => by kernel_rfl
    z53 := fun _ => by kernel_rfl
    v53 := fun _ => by kernel_rfl
    t212 := by kernel_rfl
    a212 := fun _ => by kernel_rfl
    z212 := fun _ => by kernel_rfl
    v212 := fun _ => by kernel_rfl
    g17 := by kernel_rfl
    i0 := by kernel_rfl
    i3 := by kernel_rfl
    i4 := by kernel_rfl
    i5 := by kernel_rfl
    i9 := by kernel_rfl
    i46 := by kernel_rfl
    i53 := by kernel_rfl
    i212 := by kernel_rfl
    m17 := by kernel_rfl }
theorem small_num (i : Nat) (hi : i < 100) (w : World) : Calls Tryz.prog 96 #[.int .i64 i] w fun e w' => e = .returned (.string ⟨(Lib.decDigits i).toArray⟩) ∧ w' = w := Any.internal_strconv_small lay283 i hi w
theorem digits_num (u : Nat) (h1 : 1 ≤ u) (h2 : u < 18446744073709551616) (w : World) (htab : Lib.TabIs Tryz.prog w "internal/strconv.uint64pow10" .u64 Lib.pow10Tab) :
    Calls Tryz.prog 97 #[.int .u64 u] w fun e w' => e = .returned (.int .i64 (Lib.nDigits u)) ∧ w' = w := Any.internal_strconv_numDigits lay284 u h1 h2 w htab
theorem base_num (blk off cap : Nat) (u : Nat) (d : Array UInt8) (w : World) (hH : Holds (fun (b : UInt8) => Value.int .u8 (b.toNat : Int)) w blk off d) (hu : u < 10 ^ d.size) (hu64 : u < 18446744073709551616) (hsz : d.size < 4611686018427387904) :
    Calls Tryz.prog 98 #[.slice (some ⟨blk, off, none⟩) d.size cap, .int .u64 u] w fun e w' =>
      e = .returned (.tuple #[]) ∧ ∃ (n v' : Nat) (dk : Array UInt8), w' = (putRow (fun (b : UInt8) => Value.int .u8 (b.toNat : Int)) w blk off dk).drewN n ∧ FmtInv d.size u 0 v' dk := Any.internal_strconv_formatBase10 lay285 blk off cap u d w hH hu hu64 hsz
/-- FormatUint, of any number, in decimal. -/
theorem funum_any (u : Nat) (hu64 : u < 18446744073709551616) (w : World) (htab : Lib.TabIs Tryz.prog w "internal/strconv.uint64pow10" .u64 Lib.pow10Tab) :
    Calls Tryz.prog 74 #[.int .u64 u, .int .i64 10] w fun e w' => e = .returned (.string ⟨(Lib.decDigits u).toArray⟩) ∧ Below w.heap.size w w' := by
  by_cases hi : u < 100
  · have hw : IntKind.i64.wrap (u : Int) = (u : Int) := by rw [IntKind.wrap_i64]; omega
    have hiI : (u : Int) < 100 := by omega
    go_enter Tryz.func74, Tryz.ntmps74
    go_wp2_with (go_at_call 96; refine (small_num u hi _).mono ?_; rintro e w' ⟨rfl, rfl⟩)
    go_ret
    exact ⟨rfl, Below.refl _ _⟩
  · have hiI : ¬ ((u : Int) < 100) := by omega
    have hu1 : 1 ≤ u := by omega
    have hnd20 : Lib.nDigits u ≤ 20 := by have := Lib.numDigits_eq u hu1 hu64; split at this <;> omega
    have hal : Tryz.prog.arrayLen 128 = 24 := by kernel_rfl
    have hsl1 : ∀ W, (Instr.sliceAt 128 (.pointer (some ⟨w.heap.size, 0, none⟩)) none (some (.int .i64 (Lib.nDigits u : Int))) none).run Tryz.prog W = .ok (.slice (some ⟨w.heap.size, 0, none⟩) (Lib.nDigits u) 24) W := fun W => by
      rw [run_sliceAt_array_h W 128 ⟨w.heap.size, 0, none⟩ (by simp [Program.arrayLen, Program.elem, Tryz.underlying128]) .i64 (Lib.nDigits u : Int) (by omega) (by rw [hal]; omega)]
      go_simp
    have hH0 := Lib.holds_zero0 w 128 (Lib.nDigits u) (by omega)
    have hfmt := base_num w.heap.size 0 24 u (Array.replicate (Lib.nDigits u) 0) (w.alloc (.cells Lib.zeros24 128)) hH0 (by rw [Array.size_replicate]; exact Lib.lt_pow_nDigits u) hu64 (by rw [Array.size_replicate]; omega)
    rw [Array.size_replicate] at hfmt
    have HH0 := Lib.hid hH0
    have HF := Lib.hid hfmt
    have HTab := Lib.hid htab
    clear hH0 hal hfmt htab
    go_enter Tryz.func74, Tryz.ntmps74
    go_wp2_with (go_at_call 97; refine (digits_num u hu1 hu64 _ (Lib.tabIs_alloc HTab.out _)).mono ?_; rintro e w' ⟨rfl, rfl⟩)
    go_at_call 98
    refine HF.out.mono ?_
    rintro e w' ⟨rfl, k, v', dk, rfl, hF⟩
    have hcv : (convert 79 9 (.slice (some ⟨w.heap.size, 0, none⟩) (Lib.nDigits u) 24)).run Tryz.prog ((putRow (fun (b : UInt8) => Value.int .u8 (b.toNat : Int)) (w.alloc (.cells Lib.zeros24 128)) w.heap.size 0 dk).drewN k) = .ok (.string ⟨(Lib.decDigits u).toArray⟩) ((putRow (fun (b : UInt8) => Value.int .u8 (b.toNat : Int)) (w.alloc (.cells Lib.zeros24 128)) w.heap.size 0 dk).drewN k) := by
      have h := run_convert_bytes_back (P := Tryz.prog) ((putRow (fun (b : UInt8) => Value.int .u8 (b.toNat : Int)) (w.alloc (.cells Lib.zeros24 128)) w.heap.size 0 dk).drewN k) 79 9 5 ⟨w.heap.size, 0, none⟩ 24 (Lib.decDigits u) (by kernel_rfl) (by kernel_rfl) (by kernel_rfl) (fun j hj => by
        rw [Lib.row_is_numeral hF j hj, Lib.add_plain, World.cell?_drewN]
        exact cell?_putRow (fun (b : UInt8) => Value.int .u8 (b.toNat : Int)) _ w.heap.size 0 _ dk HH0.out (by rw [hF.size, Array.size_replicate]) j (by rw [hF.size]; rw [Lib.decDigits_length] at hj; exact hj))
      rw [Lib.decDigits_length] at h
      exact h
    go_wp2
    go_ret
    refine ⟨rfl, ?_⟩
    rw [alloc_eq_grow]
    obtain ⟨os', _, e⟩ := putRow_grow_new (fun (b : UInt8) => Value.int .u8 (b.toNat : Int)) w #[(.cells Lib.zeros24 128)] w.heap.size 0 dk (Nat.le_refl _)
    rw [e]
    exact Lib.below_grow w.heap.size w (Nat.le_refl _) k os'
end Go.Proofs.YtdidgddcgjpokaaGreatDoor
/- scheme.rename with a context: its last statement, a region of 11 operations that draws its order, by an invariant. (Made by a program.) -/
namespace Go.Proofs.YtdidgddcgjpokaaGreatDoor
open Go.RowKit Go.Sort Go.Lib
attribute [local go_sem] Oper.semAt_some

noncomputable def frnOps : Array Oper := regionIn 8 (Tryz.f33.body.getD .skip)
def frnFr (b : Nat → Value) (d : List Deferred) (x : Nat → Value) : Act := { tmps := #[b 0, b 1, b 2, b 3, b 4, b 5, b 6, b 7, b 8, b 9, b 10, b 11, b 12, b 13, b 14, b 15, b 16, b 17, b 18, b 19, b 20, b 21, b 22, b 23, b 24, b 25, b 26, b 27, b 28, b 29, b 30, b 31, b 32, b 33, x 0, x 1, x 2, x 3, x 4, x 5, x 6, x 7, x 8, x 9], defers := d }

def frnVals (b3 : Nat) (xa ta sa : Option Addr) (xc tc sc : Nat) (lc : List Pr) (t : T) (l : List PR) (ga : Option Addr) (gn gc : Nat) (i : Nat) (v : Value) (V : World) : Prop :=
  match i with
  | 0 => v = .slice ga gn gc
  | 1 => v = .agg #[.slice sa l.length sc]
  | 2 => v = .pointer (some ⟨b3, 1, none⟩)
  | 3 => v = .slice xa lc.length xc
  | 4 => ∃ zp zd, v = .slice zp lc.length zd ∧ PrsAt V (.slice zp lc.length zd) (appP l lc)
  | 5 => v = .agg #[.slice sa l.length sc]
  | 6 => v = .pointer (some ⟨b3, 2, none⟩)
  | 7 => v = .agg #[.int .i64 (t).kind, .string (t).name, .slice ta (t).kids.length tc]
  | 8 => ∃ za zc, v = .agg #[.int .i64 (app l t).kind, .string (app l t).name, .slice za (app l t).kids.length zc] ∧ TysAt V (.slice za (app l t).kids.length zc) (app l t).kids
  | 9 => ∃ zp zd za zc, v = .agg #[.slice ga gn gc, .slice zp lc.length zd, .int .i64 (app l t).kind, .string (app l t).name, .slice za (app l t).kids.length zc] ∧ PrsAt V (.slice zp lc.length zd) (appP l lc) ∧ TysAt V (.slice za (app l t).kids.length zc) (app l t).kids
  | _ => True

theorem frnVals_keep {b3 : Nat} {xa ta sa : Option Addr} {xc tc sc : Nat} {lc : List Pr} {t : T} {l : List PR} {ga : Option Addr} {gn gc : Nat} (i : Nat) (v : Value) (V Y : World) (h : frnVals b3 xa ta sa xc tc sc lc t l ga gn gc i v V) (hb : Below V.heap.size V Y) : frnVals b3 xa ta sa xc tc sc lc t l ga gn gc i v Y := by
  unfold frnVals at *
  split at h <;> first
    | exact h
    | (obtain ⟨zp, zd, e, h⟩ := h; exact ⟨zp, zd, e, h.keep (KeepT.of_below hb) (KeepP.of_below hb)⟩)
    | (obtain ⟨za, zc, e, h⟩ := h; exact ⟨za, zc, e, h.keep (KeepT.of_below hb)⟩)
    | (obtain ⟨zp, zd, za, zc, e, h⟩ := h; exact ⟨zp, zd, za, zc, e, ⟨h.1.keep (KeepT.of_below hb) (KeepP.of_below hb), h.2.keep (KeepT.of_below hb)⟩⟩)

theorem frn_size : frnOps.size = 11 := by kernel_rfl
theorem frn_cov : covered frnOps 10 = true := by kernel_rfl
set_option linter.unusedSimpArgs false in
set_option maxRecDepth 100000 in
set_option maxHeartbeats 8000000 in
theorem frn_region {w : World} {b3 b6 b10 : Nat} {xv : Value} {xa ta sa ga : Option Addr} {xc tc sc gn gc : Nat} {lc : List Pr} {t : T} {l : List PR} {b : Nat → Value} {d : List Deferred}
    (h2 : b 2 = .slice ga gn gc) (h3 : b 3 = .pointer (some ⟨b3, 0, none⟩)) (h6 : b 6 = .pointer (some ⟨b6, 0, none⟩)) (h10 : b 10 = .pointer (some ⟨b10, 0, none⟩))
    (HC4 : ∀ V, SRc w b3 b6 b10 xv xa xc lc t ta tc sa sc l V → Calls Tryz.prog 40 #[.agg #[.slice sa l.length sc], .slice xa lc.length xc] V fun e Y => (∃ zp zd, e = .returned (.slice zp lc.length zd) ∧ PrsAt Y (.slice zp lc.length zd) (appP l lc)) ∧ Below V.heap.size V Y)
    (HC8 : ∀ V, SRc w b3 b6 b10 xv xa xc lc t ta tc sa sc l V → Calls Tryz.prog 41 #[.agg #[.slice sa l.length sc], .agg #[.int .i64 (t).kind, .string (t).name, .slice ta (t).kids.length tc]] V fun e Y => (∃ za zc, e = .returned (.agg #[.int .i64 (app l t).kind, .string (app l t).name, .slice za (app l t).kids.length zc]) ∧ TysAt Y (.slice za (app l t).kids.length zc) (app l t).kids) ∧ Below V.heap.size V Y)
    {Q : Exit → Act → World → Prop} {ops : Array Oper} (hops : ops = frnOps) (x0 : Nat → Value) (X : World) (hS : SRc w b3 b6 b10 xv xa xc lc t ta tc sa sc l X.drew)
    (hfin : ∀ (x : Nat → Value) V zp zd za zc, SRc w b3 b6 b10 xv xa xc lc t ta tc sa sc l V → PrsAt V (.slice zp lc.length zd) (appP l lc) → TysAt V (.slice za (app l t).kids.length zc) (app l t).kids → Q .normal (frnFr b d x) (set5 V b6 (.slice ga gn gc) (.slice zp lc.length zd) (.int .i64 (app l t).kind) (.string (app l t).name) (.slice za (app l t).kids.length zc))) : (Code.region 8 ops true).wp Tryz.prog Q (frnFr b d x0) X := by
  have HC := Lib.hid (And.intro HC4 HC8)
  clear HC4 HC8
  have hszo : ops.size = 10 + 1 := by rw [hops]; exact frn_size
  have hcovo : covered ops 10 = true := by rw [hops]; exact frn_cov
  refine region_last (frnFr b d) (fun V => SRc w b3 b6 b10 xv xa xc lc t ta tc sa sc l V) (fun V Y => Below V.heap.size V Y) (frnVals b3 xa ta sa xc tc sc lc t l ga gn gc) x0 10 (by kernel_rfl) rfl hS hszo hcovo (fun V Y h hb => h.below hb) (fun i v V Y _ h hb => frnVals_keep i v V Y h hb) ?_
  have HFIN := Lib.hid hfin
  clear hfin hS hszo hcovo
  obtain ⟨gl, hgl⟩ : ∃ qq, LastAt Tryz.prog (frnFr b d) (fun V => SRc w b3 b6 b10 xv xa xc lc t ta tc sa sc l V) (frnVals b3 xa ta sa xc tc sc lc t l ga gn gc) ops Q 10 = qq := ⟨_, rfl⟩
  rw [hgl]
  obtain ⟨f, hf⟩ : ∃ qq, StepAt Tryz.prog (frnFr b d) (fun V => SRc w b3 b6 b10 xv xa xc lc t ta tc sa sc l V) (fun V Y => Below V.heap.size V Y) (frnVals b3 xa ta sa xc tc sc lc t l ga gn gc) ops Q = qq := ⟨_, rfl⟩
  rw [hf, hops]
  simp only [frnOps, Tryz.f33, regionIn, Option.getD_some, Nat.reduceBEq, Bool.false_eq_true, if_false, if_true, beq_self_eq_true, Array.append_empty, Array.empty_append, List.append_eq, List.cons_append, List.nil_append, AllBut, Nat.reduceAdd, Nat.zero_add]
  -- 0: slot 34 := Op.move t2
  refine And.intro ?_ ?_
  · clear HFIN hgl
    rw [← hf]; clear hf
    refine ⟨by decide +kernel, fun x v => by kernel_rfl, fun x V hV hdep K hK => ?_⟩
    clear hdep
    refine run_bare (by kernel_rfl) ?_
    unfold frnFr
    go_simp
    refine kfit (hK _ _ (Below.refl _ V) rfl) ?_
    first | (simp only [frnFr, Act.put, List.setIfInBounds_toArray, List.set_cons_zero, List.set_cons_succ, h2, h3, h6, h10]; done) | (simp only [frnFr, Act.put, List.setIfInBounds_toArray, List.set_cons_zero, List.set_cons_succ, h2, h3, h6, h10]; rfl)
  -- 1: slot 35 := Op.load 59 t10
  refine And.intro ?_ ?_
  · clear HFIN hgl
    rw [← hf]; clear hf
    refine ⟨by decide +kernel, fun x v => by kernel_rfl, fun x V hV hdep K hK => ?_⟩
    clear hdep
    refine run_bare (by kernel_rfl) ?_
    unfold frnFr
    obtain ⟨y0, y1, y2, y3, y4⟩ := cells5 hV.1.1.1; have y5 := hV.1.2.2.1.cell
    go_simp
    refine kfit (hK _ _ (Below.refl _ V) rfl) ?_
    first | (simp only [frnFr, Act.put, List.setIfInBounds_toArray, List.set_cons_zero, List.set_cons_succ, h2, h3, h6, h10]; done) | (simp only [frnFr, Act.put, List.setIfInBounds_toArray, List.set_cons_zero, List.set_cons_succ, h2, h3, h6, h10]; rfl)
  -- 2: slot 36 := Op.fieldAddr 42 t3 1
  refine And.intro ?_ ?_
  · clear HFIN hgl
    rw [← hf]; clear hf
    refine ⟨by decide +kernel, fun x v => by kernel_rfl, fun x V hV hdep K hK => ?_⟩
    clear hdep
    refine run_bare (by kernel_rfl) ?_
    unfold frnFr
    go_simp
    refine kfit (hK _ _ (Below.refl _ V) rfl) ?_
    first | (simp only [frnFr, Act.put, List.setIfInBounds_toArray, List.set_cons_zero, List.set_cons_succ, h2, h3, h6, h10]; done) | (simp only [frnFr, Act.put, List.setIfInBounds_toArray, List.set_cons_zero, List.set_cons_succ, h2, h3, h6, h10]; rfl)
  -- 3: slot 37 := Op.load 24 t36
  refine And.intro ?_ ?_
  · clear HFIN hgl
    rw [← hf]; clear hf
    refine ⟨by decide +kernel, fun x v => by kernel_rfl, fun x V hV hdep K hK => ?_⟩
    have e2 : x 2 = .pointer (some ⟨b3, 1, none⟩) := depOf hdep 2 (by decide +kernel)
    clear hdep
    refine run_bare (by kernel_rfl) ?_
    unfold frnFr
    obtain ⟨y0, y1, y2, y3, y4⟩ := cells5 hV.1.1.1; have y5 := hV.1.2.2.1.cell
    go_simp
    refine kfit (hK _ _ (Below.refl _ V) rfl) ?_
    first | (simp only [frnFr, Act.put, List.setIfInBounds_toArray, List.set_cons_zero, List.set_cons_succ, h2, h3, h6, h10, e2]; done) | (simp only [frnFr, Act.put, List.setIfInBounds_toArray, List.set_cons_zero, List.set_cons_succ, h2, h3, h6, h10, e2]; rfl)
  -- 4: slot 38 := Op.call { value (Operand.func 23), args := #[t35, t37], argT
  refine And.intro ?_ ?_
  · clear HFIN hgl
    rw [← hf]; clear hf
    refine ⟨by decide +kernel, fun x v => by kernel_rfl, fun x V hV hdep K hK => ?_⟩
    have e1 : x 1 = .agg #[.slice sa l.length sc] := depOf hdep 1 (by decide +kernel)
    have e3 : x 3 = .slice xa lc.length xc := depOf hdep 3 (by decide +kernel)
    clear hdep
    refine run_bare (by kernel_rfl) ?_
    unfold frnFr
    obtain ⟨HC4, HC8⟩ := HC.out
    clear HC8
    have H := HC4 V hV
    replace H := Lib.hid H; clear HC4
    go_simp
    go_at_call 40
    refine H.out.mono ?_
    rintro e Y ⟨⟨zp, zd, rfl, hq⟩, hb⟩; refine kfit (hK _ _ hb ⟨zp, zd, rfl, hq⟩) ?_
    first | (simp only [frnFr, Act.put, List.setIfInBounds_toArray, List.set_cons_zero, List.set_cons_succ, h2, h3, h6, h10, e1, e3]; done) | (simp only [frnFr, Act.put, List.setIfInBounds_toArray, List.set_cons_zero, List.set_cons_succ, h2, h3, h6, h10, e1, e3]; rfl)
  -- 5: slot 39 := Op.load 59 t10
  refine And.intro ?_ ?_
  · clear HFIN hgl
    rw [← hf]; clear hf
    refine ⟨by decide +kernel, fun x v => by kernel_rfl, fun x V hV hdep K hK => ?_⟩
    clear hdep
    refine run_bare (by kernel_rfl) ?_
    unfold frnFr
    obtain ⟨y0, y1, y2, y3, y4⟩ := cells5 hV.1.1.1; have y5 := hV.1.2.2.1.cell
    go_simp
    refine kfit (hK _ _ (Below.refl _ V) rfl) ?_
    first | (simp only [frnFr, Act.put, List.setIfInBounds_toArray, List.set_cons_zero, List.set_cons_succ, h2, h3, h6, h10]; done) | (simp only [frnFr, Act.put, List.setIfInBounds_toArray, List.set_cons_zero, List.set_cons_succ, h2, h3, h6, h10]; rfl)
  -- 6: slot 40 := Op.fieldAddr 42 t3 2
  refine And.intro ?_ ?_
  · clear HFIN hgl
    rw [← hf]; clear hf
    refine ⟨by decide +kernel, fun x v => by kernel_rfl, fun x V hV hdep K hK => ?_⟩
    clear hdep
    refine run_bare (by kernel_rfl) ?_
    unfold frnFr
    go_simp
    refine kfit (hK _ _ (Below.refl _ V) rfl) ?_
    first | (simp only [frnFr, Act.put, List.setIfInBounds_toArray, List.set_cons_zero, List.set_cons_succ, h2, h3, h6, h10]; done) | (simp only [frnFr, Act.put, List.setIfInBounds_toArray, List.set_cons_zero, List.set_cons_succ, h2, h3, h6, h10]; rfl)
  -- 7: slot 41 := Op.load 33 t40
  refine And.intro ?_ ?_
  · clear HFIN hgl
    rw [← hf]; clear hf
    refine ⟨by decide +kernel, fun x v => by kernel_rfl, fun x V hV hdep K hK => ?_⟩
    have e6 : x 6 = .pointer (some ⟨b3, 2, none⟩) := depOf hdep 6 (by decide +kernel)
    clear hdep
    refine run_bare (by kernel_rfl) ?_
    unfold frnFr
    obtain ⟨y0, y1, y2, y3, y4⟩ := cells5 hV.1.1.1; have y5 := hV.1.2.2.1.cell
    go_simp
    refine kfit (hK _ _ (Below.refl _ V) rfl) ?_
    first | (simp only [frnFr, Act.put, List.setIfInBounds_toArray, List.set_cons_zero, List.set_cons_succ, h2, h3, h6, h10, e6]; done) | (simp only [frnFr, Act.put, List.setIfInBounds_toArray, List.set_cons_zero, List.set_cons_succ, h2, h3, h6, h10, e6]; rfl)
  -- 8: slot 42 := Op.call { value (Operand.func 40), args := #[t39, t41], argT
  refine And.intro ?_ ?_
  · clear HFIN hgl
    rw [← hf]; clear hf
    refine ⟨by decide +kernel, fun x v => by kernel_rfl, fun x V hV hdep K hK => ?_⟩
    have e5 : x 5 = .agg #[.slice sa l.length sc] := depOf hdep 5 (by decide +kernel)
    have e7 : x 7 = .agg #[.int .i64 (t).kind, .string (t).name, .slice ta (t).kids.length tc] := depOf hdep 7 (by decide +kernel)
    clear hdep
    refine run_bare (by kernel_rfl) ?_
    unfold frnFr
    obtain ⟨HC4, HC8⟩ := HC.out
    clear HC4
    have H := HC8 V hV
    replace H := Lib.hid H; clear HC8
    go_simp
    go_at_call 41
    refine H.out.mono ?_
    rintro e Y ⟨⟨za, zc, rfl, hq⟩, hb⟩; refine kfit (hK _ _ hb ⟨za, zc, rfl, hq⟩) ?_
    first | (simp only [frnFr, Act.put, List.setIfInBounds_toArray, List.set_cons_zero, List.set_cons_succ, h2, h3, h6, h10, e5, e7]; done) | (simp only [frnFr, Act.put, List.setIfInBounds_toArray, List.set_cons_zero, List.set_cons_succ, h2, h3, h6, h10, e5, e7]; rfl)
  -- 9: slot 43 := Op.build 42 #[(0, t34), (1, t38), (2, t42)]
  refine And.intro ?_ ?_
  · clear HFIN hgl
    rw [← hf]; clear hf
    refine ⟨by decide +kernel, fun x v => by kernel_rfl, fun x V hV hdep K hK => ?_⟩
    have e0 : x 0 = .slice ga gn gc := depOf hdep 0 (by decide +kernel)
    obtain ⟨zp4, zd4, e4, d4⟩ : ∃ zp4 zd4, x 4 = .slice zp4 lc.length zd4 ∧ PrsAt V (.slice zp4 lc.length zd4) (appP l lc) := depOf hdep 4 (by decide +kernel)
    obtain ⟨za8, zc8, e8, d8⟩ : ∃ za8 zc8, x 8 = .agg #[.int .i64 (app l t).kind, .string (app l t).name, .slice za8 (app l t).kids.length zc8] ∧ TysAt V (.slice za8 (app l t).kids.length zc8) (app l t).kids := depOf hdep 8 (by decide +kernel)
    clear hdep
    refine run_bare (by kernel_rfl) ?_
    unfold frnFr
    go_simp
    refine kfit (hK _ _ (Below.refl _ V) ⟨zp4, zd4, za8, zc8, rfl, d4, d8⟩) ?_
    first | (simp only [frnFr, Act.put, List.setIfInBounds_toArray, List.set_cons_zero, List.set_cons_succ, h2, h3, h6, h10, e0, e4, e8]; done) | (simp only [frnFr, Act.put, List.setIfInBounds_toArray, List.set_cons_zero, List.set_cons_succ, h2, h3, h6, h10, e0, e4, e8]; rfl)
  -- 10: slot none := Op.store 42 t6 t43
  · clear HC
    rw [← hgl]; clear hgl
    refine ⟨by decide +kernel, fun x V hV hall K hK => ?_⟩
    obtain ⟨zp, zd, za, zc, e9, d4, d9⟩ : ∃ (zp : Option Addr) (zd : Nat) (za : Option Addr) (zc : Nat), x 9 = .agg #[.slice ga gn gc, .slice zp lc.length zd, .int .i64 (app l t).kind, .string (app l t).name, .slice za (app l t).kids.length zc] ∧ PrsAt V (.slice zp lc.length zd) (appP l lc) ∧ TysAt V (.slice za (app l t).kids.length zc) (app l t).kids := hall 9 (by decide)
    clear hall
    refine run_bare (by kernel_rfl) ?_
    unfold frnFr
    obtain ⟨v0, v1, v2, v3, v4⟩ := cells5 hV.1.2.1
    have f0 := Lib.frozen_of_heap hV.1.2.1 0; have f1 := Lib.frozen_of_heap hV.1.2.1 1; have f2 := Lib.frozen_of_heap hV.1.2.1 2; have f3 := Lib.frozen_of_heap hV.1.2.1 3; have f4 := Lib.frozen_of_heap hV.1.2.1 4
    have H := Lib.hid (HFIN.out x V zp zd za zc hV d4 d9)
    clear HFIN hV d4 d9
    go_simp
    refine kfit (hK undef _ H.out) ?_
    first | (simp only [frnFr, Act.put, List.setIfInBounds_toArray, List.set_cons_zero, List.set_cons_succ, h2, h3, h6, h10, e9]; done) | (simp only [frnFr, Act.put, List.setIfInBounds_toArray, List.set_cons_zero, List.set_cons_succ, h2, h3, h6, h10, e9]; rfl)
theorem frn_here {w : World} {b3 b6 b10 : Nat} {xv : Value} {xa ta sa ga : Option Addr} {xc tc sc gn gc : Nat} {lc : List Pr} {t : T} {l : List PR}
    (HC4 : ∀ V, SRc w b3 b6 b10 xv xa xc lc t ta tc sa sc l V → Calls Tryz.prog 40 #[.agg #[.slice sa l.length sc], .slice xa lc.length xc] V fun e Y => (∃ zp zd, e = .returned (.slice zp lc.length zd) ∧ PrsAt Y (.slice zp lc.length zd) (appP l lc)) ∧ Below V.heap.size V Y)
    (HC8 : ∀ V, SRc w b3 b6 b10 xv xa xc lc t ta tc sa sc l V → Calls Tryz.prog 41 #[.agg #[.slice sa l.length sc], .agg #[.int .i64 (t).kind, .string (t).name, .slice ta (t).kids.length tc]] V fun e Y => (∃ za zc, e = .returned (.agg #[.int .i64 (app l t).kind, .string (app l t).name, .slice za (app l t).kids.length zc]) ∧ TysAt Y (.slice za (app l t).kids.length zc) (app l t).kids) ∧ Below V.heap.size V Y)
    {Q : Exit → Act → World → Prop} {ops : Array Oper} {a : Act} (X : World) (hops : ops = frnOps)
    (h2 : a.tmps.getD 2 undef = .slice ga gn gc) (h3 : a.tmps.getD 3 undef = .pointer (some ⟨b3, 0, none⟩)) (h6 : a.tmps.getD 6 undef = .pointer (some ⟨b6, 0, none⟩)) (h10 : a.tmps.getD 10 undef = .pointer (some ⟨b10, 0, none⟩))
    (ha : a = frnFr (fun j => a.tmps.getD j undef) a.defers (fun i => a.tmps.getD (34 + i) undef)) (hS : SRc w b3 b6 b10 xv xa xc lc t ta tc sa sc l X.drew)
    (hfin : ∀ (x : Nat → Value) V zp zd za zc, SRc w b3 b6 b10 xv xa xc lc t ta tc sa sc l V → PrsAt V (.slice zp lc.length zd) (appP l lc) → TysAt V (.slice za (app l t).kids.length zc) (app l t).kids → Q .normal (frnFr (fun j => a.tmps.getD j undef) a.defers x) (set5 V b6 (.slice ga gn gc) (.slice zp lc.length zd) (.int .i64 (app l t).kind) (.string (app l t).name) (.slice za (app l t).kids.length zc))) : (Code.region 8 ops true).wp Tryz.prog Q a X :=
  cast (congrArg (fun z => (Code.region 8 ops true).wp Tryz.prog Q z X) ha.symm) (frn_region (b := fun j => a.tmps.getD j undef) (d := a.defers) h2 h3 h6 h10 HC4 HC8 hops _ X hS hfin)
end Go.Proofs.YtdidgddcgjpokaaGreatDoor
/- scheme.rename: names in variables' places, in a scheme with a context. -/
namespace Go.Proofs.YtdidgddcgjpokaaGreatDoor
open Go.RowKit Go.Sort Go.Lib
attribute [local go_sem] Oper.semAt_some

set_option maxRecDepth 100000 in
set_option maxHeartbeats 8000000 in
theorem fren_any (t : T) (F G : List ByteArray) (hFG : F.length = G.length) (hl : F.length < 20) (hsz : tsize t ≤ 1000000000) (lc : List Pr) (hq : ∀ q ∈ lc, tsize q.2 ≤ 1000000000) (hcn : lc.length ≤ 1000000) (xv : Value) (xa ta fa ga : Option Addr) (xc tc fc gc : Nat) (w : World) (ht : TysAt w (.slice ta t.kids.length tc) t.kids) (hF : StrsP (.slice fa F.length fc) F w) (hG : StrsP (.slice ga G.length gc) G w) (hP : PrsAt w (.slice xa lc.length xc) lc) :
    Calls Tryz.prog 33 #[.agg #[xv, .slice xa lc.length xc, .int .i64 t.kind, .string t.name, .slice ta t.kids.length tc], .slice fa F.length fc, .slice ga G.length gc] w fun e w' =>
      (∃ pa pc za zc, e = .returned (.agg #[.slice ga G.length gc, .slice pa lc.length pc, .int .i64 (app (prs F G) t).kind, .string (app (prs F G) t).name, .slice za (app (prs F G) t).kids.length zc]) ∧ PrsAt w' (.slice pa lc.length pc) (appP (prs F G) lc) ∧ TysAt w' (.slice za (app (prs F G) t).kids.length zc) (app (prs F G) t).kids) ∧ Below w.heap.size w w' := by
  obtain ⟨k, hk⟩ : ∃ k, F.length = k := ⟨_, rfl⟩
  have hmk := make_row4 k (by omega)
  have HT := Lib.hid ht; have HF := Lib.hid hF; have HG := Lib.hid hG; have HPr := Lib.hid hP; have HQ := Lib.hid hq
  have hGk : G.length = k := by omega
  rw [hk] at HF
  rw [hGk] at HG
  have HK := Lib.hid (And.intro hk hGk)
  rw [hk, hGk]
  have hk20 : k < 20 := by omega
  clear ht hF hG hFG hk hGk hP hq
  go_enter Tryz.func33, Tryz.ntmps33
  go_wp2
  go_loopw [16] (fun vi wr => ∃ (i : Nat) (ls : List PR), i ≤ k ∧ vi = .int .i64 i ∧ Hid (ls.length = i ∧ ∀ j, j < i → (ls.getD j noP).n = F.getD j ⟨#[]⟩ ∧ (ls.getD j noP).t = .var (G.getD j ⟨#[]⟩)) ∧ Hid (RowK (w.heap.size + 1 + 1) k ls wr) ∧ Hid (Below w.heap.size w wr) ∧
    Hid (wr.heap[w.heap.size]? = some (.cells #[xv, .slice xa lc.length xc, .int .i64 t.kind, .string t.name, .slice ta t.kids.length tc] 33 (0, 0)) ∧ wr.heap[w.heap.size + 1]? = some (.cells #[.slice none 0 0, .slice none 0 0, .int .i64 0, .string ⟨#[]⟩, .slice none 0 0] 33 (0, 0)))) (fun vi _ => k - (intOf vi).toNat)
  case atStart =>
    obtain ⟨n1, n2, n3⟩ := new_three w (.cells #[xv, .slice xa lc.length xc, .int .i64 t.kind, .string t.name, .slice ta t.kids.length tc] 33) (.cells #[.slice none 0 0, .slice none 0 0, .int .i64 0, .string ⟨#[]⟩, .slice none 0 0] 33) (.cells (zeros4 k) 90)
    exact ⟨0, [], Nat.zero_le _, rfl, Lib.hid ⟨rfl, fun j hj => absurd hj (Nat.not_lt_zero _)⟩, Lib.hid (RowK.start _ _ _ n3), Lib.hid (below_three w _ _ _), Lib.hid ⟨n1, n2⟩⟩
  case round =>
    obtain ⟨i, ls, hi, rfl, hL, hRow, hB, hbx⟩ := hrel
    have lG := hRow.out.lt
    by_cases hlt : i < k
    · obtain ⟨gF, oF, rfl, lF, cF⟩ := HF.out.at (by have := HK.out.1; omega)
      obtain ⟨gG, oG, rfl, lG', cG⟩ := HG.out.at (by have := HK.out.2; omega)
      have xF := (hB.out.cell (p := ⟨gF, oF + i, none⟩) lF).trans (cF i (by have := HK.out.1; omega))
      have xG := (hB.out.cell (p := ⟨gG, oG + i, none⟩) lG').trans (cG i (by have := HK.out.2; omega))
      have HL := Lib.hid (fun (x : PR) (h1 : x.n = F.getD i ⟨#[]⟩) (h2 : x.t = .var (G.getD i ⟨#[]⟩)) => (show (ls ++ [x]).length = i + 1 ∧ ∀ j, j < i + 1 → ((ls ++ [x]).getD j noP).n = F.getD j ⟨#[]⟩ ∧ ((ls ++ [x]).getD j noP).t = .var (G.getD j ⟨#[]⟩) from
        ⟨by simp [hL.out.1], fun j hj => by
          by_cases e : j = i
          · subst e
            have e2 : (ls ++ [x]).getD j noP = x := by simp [List.getD, ← hL.out.1]
            rw [e2]; exact ⟨h1, h2⟩
          · have hj' : j < ls.length := by rw [hL.out.1]; omega
            have e2 : (ls ++ [x]).getD j noP = ls.getD j noP := by simp [List.getD, List.getElem?_append_left hj']
            rw [e2]; exact hL.out.2 j (by omega)⟩))
      generalize F.getD i ⟨#[]⟩ = f at xF HL
      generalize G.getD i ⟨#[]⟩ = q at xG HL
      have HV := Lib.hid (fun W => tvar_any q W)
      have hiz : (i : Int) < (k : Int) := by omega
      have hll := Lib.hid hL.out.1
      clear cF cG hmk
      simp only [tyV] at HV
      go_wp2_with (go_at_call 60; fail)
      refine (HV.out _).mono ?_
      rintro e w4 ⟨⟨u, rfl, hu⟩, hb4⟩
      obtain ⟨ua, uc, rfl⟩ := hu.shape
      have HB4 := Lib.hid hb4
      have hR4 := Lib.hid (hRow.out.below hb4)
      obtain ⟨o0, o1, o2, o3, c0, c1, c2, c3⟩ := hR4.out.cells hlt
      have f0 := hR4.out.row.free (i * 4); have f1 := hR4.out.row.free (i * 4 + 1); have f2 := hR4.out.row.free (i * 4 + 2); have f3 := hR4.out.row.free (i * 4 + 3)
      clear hb4 hu
      go_wp2
      have HP := hR4.out.push (by have := hll.out; omega) (⟨f, .var q, ua, uc⟩ : PR)
      rw [hll.out] at HP
      have HF4 := Lib.hid ((Fr.of_below (g := w.heap.size + 1 + 1) HB4.out).trans (Fr.set4 (w.heap.size + 1 + 1) i w4 (⟨f, .var q, ua, uc⟩ : PR)))
      go_roundw
      case rel => exact ⟨i + 1, ls ++ [⟨f, .var q, ua, uc⟩], by omega, by go_num, Lib.hid (HL.out _ rfl rfl), Lib.hid HP, Lib.hid (hB.out.trans (HF4.out.below (by omega) hB.out.size)), Lib.hid ⟨(HF4.out.2 _ (by omega) (by omega)).trans hbx.out.1, (HF4.out.2 _ (by omega) (by omega)).trans hbx.out.2⟩⟩
      case measure => simp [intOf]; omega
    · have hki : i = k := by omega
      subst hki
      have hll := hL.out.1
      have HCp : Hid (Copy ls (prs F G)) := Lib.hid ⟨by rw [hll, prs_len]; have h1 := HK.out.1; have h2 := HK.out.2; omega, fun j hj => by
        have hj' : j < i := by rw [← hll]; exact hj
        obtain ⟨e1, e2⟩ := prs_get F G j (by have h1 := HK.out.1; have h2 := HK.out.2; omega)
        rw [e1, e2]; exact hL.out.2 j hj'⟩
      have HV : Hid (∀ x ∈ ls, ∃ q, x.t = .var q) := Lib.hid fun x hx => by
        obtain ⟨j, hj, rfl⟩ := List.mem_iff_getElem.1 hx
        have := (hL.out.2 j (by rw [← hll]; exact hj)).2
        exact ⟨_, by simpa [List.getD, hj] using this⟩
      have HSz : Hid (SizedAll ls ∧ FitsAll ls) := Lib.hid ⟨fun x hx => by obtain ⟨q, e⟩ := HV.out x hx; rw [e]; exact (by decide : (1 : Nat) ≤ 1000000000), fun x hx => by obtain ⟨q, e⟩ := HV.out x hx; rw [e]; exact .mk _ (show (0 : Nat) < 1152921504606846976 by decide) (fun k hk => by cases hk)⟩
      have HTy : Hid (∀ W, Typ ls W) := Lib.hid fun W x hx => by obtain ⟨q, e⟩ := HV.out x hx; rw [e]; exact TysAt.nil _ _ _
      have hof := of_all (w.heap.size + 1 + 1) i ls wr hRow.out.row (HTy.out _) HSz.out.2 HSz.out.1 (by have h1 := HK.out.1; have h2 := HK.out.2; omega)
      rw [hll] at hof
      have HOf := Lib.hid hof
      have HTw := Lib.hid (HT.out.keep (KeepT.of_below hB.out))
      have HPw := Lib.hid (HPr.out.keep (KeepT.of_below hB.out) (KeepP.of_below hB.out))
      have HE := Lib.hid (fun (l : List PR) (hg : Made ls l) (t : T) => app_congr (d := l) (d' := prs F G) (fun n => by rw [hg.same n]; unfold ty; rw [HCp.out.lk]) t)
      have HLen := Lib.hid hll
      clear hmk hL HV HF HG HT hof hll
      go_wp2_with (go_at_call 61; fail)
      refine HOf.out.mono ?_
      rintro e w4 ⟨⟨sv, l, rfl, hs, hm⟩, hb4⟩
      obtain ⟨sa, sc, rfl⟩ := hs.shape
      have hb5 := hb4.alloc hb4.size (.cells #[.slice sa l.length sc] 73)
      have hx0 := (hb5.block w.heap.size (by omega)).trans hbx.out.1
      have hx1 := (hb5.block (w.heap.size + 1) (by omega)).trans hbx.out.2
      have hS := (show SRc w w.heap.size (w.heap.size + 1) w4.heap.size xv xa xc lc t ta tc sa sc l (w4.alloc (.cells #[.slice sa l.length sc] 73)) from ⟨⟨⟨hx0, HTw.out.keep (KeepT.of_below hb5)⟩, hx1, BoxS.new hs, hB.out.trans (hb5.mono hB.out.size)⟩, HPw.out.keep (KeepT.of_below hb5) (KeepP.of_below hb5)⟩)
      have HS := Lib.hid hS; have HM := Lib.hid hm
      have hz5 : w.heap.size + 1 + 1 < w4.heap.size := Nat.lt_of_lt_of_le lG hb4.size
      clear hs hm hb4 hb5 hx0 hx1 hbx hRow HTw HPw HTy HOf hB HCp hS
      go_wp2_with (fail)
      refine frn_here (w := w) (b3 := w.heap.size) (b6 := w.heap.size + 1) (b10 := w4.heap.size) (xv := xv) (xa := xa) (ta := ta) (sa := sa) (ga := ga) (xc := xc) (tc := tc) (sc := sc) (gn := i) (gc := gc) (lc := lc) (t := t) (l := l)
        (fun V h => (predsG_any (.slice sa l.length sc) _ l lc V (by have := HM.out.len; have h1 := HK.out.1; have := HLen.out; omega) (fun x hx => by obtain ⟨y, hy, _, e⟩ := HM.out.sub x hx; rw [e]; exact HSz.out.1 y hy) h.1.2.2.1.2 h.2 HQ.out hcn).mono fun e Y hq => by
          obtain ⟨⟨ls', hm', rfl, hr', ht'⟩, hb⟩ := hq
          have hl' : ls'.length = lc.length := by have := congrArg List.length hm'; simpa [appP] using this
          refine ⟨⟨_, _, rfl, ?_⟩, hb⟩
          have := prs_of_rowG (cap := lc.length) hr' ht' (by omega)
          rw [hl', hm'] at this
          exact this)
        (fun V h => (apply_any (d := l) (t := t) (s := .slice sa l.length sc) (w := V) (by have := HM.out.len; have h1 := HK.out.1; have := HLen.out; omega) (fun x hx => by obtain ⟨y, hy, _, e⟩ := HM.out.sub x hx; rw [e]; exact HSz.out.1 y hy) hsz h.1.2.2.1.2 h.1.1.2).mono fun e Y hq => by
          obtain ⟨⟨za, zc, rfl, hin⟩, hb⟩ := hq
          exact ⟨⟨za, zc, rfl, hin.tys⟩, hb⟩)
        _ (by kernel_rfl) (by kernel_rfl) (by kernel_rfl) (by kernel_rfl) (by kernel_rfl) (by kernel_rfl) (HS.out.below (below_d _)) ?_
      intro x V zp zd za zc hV hPd hT
      have HE2 := HE.out l HM.out t
      have HE3 : appP l lc = appP (prs F G) lc := by unfold appP; exact List.map_congr_left fun q _ => by rw [HE.out l HM.out q.2]
      have hc := cells5 (set5_block hV.1.2.1 (.slice ga i gc) (.slice zp lc.length zd) (.int .i64 (app l t).kind) (.string (app l t).name) (.slice za (app l t).kids.length zc))
      have hkt : KeepT V (set5 V (w.heap.size + 1) (.slice ga i gc) (.slice zp lc.length zd) (.int .i64 (app l t).kind) (.string (app l t).name) (.slice za (app l t).kids.length zc)) := fun k cs fz hk => (set5_other _ _ _ _ _ _ _ (fun e => by subst e; rw [hV.1.2.1] at hk; simp at hk)).trans hk
      have hkp : KeepP V (set5 V (w.heap.size + 1) (.slice ga i gc) (.slice zp lc.length zd) (.int .i64 (app l t).kind) (.string (app l t).name) (.slice za (app l t).kids.length zc)) := fun k cs fz hk => (set5_other _ _ _ _ _ _ _ (fun e => by subst e; rw [hV.1.2.1] at hk; simp at hk)).trans hk
      have HEnd := Lib.hid (And.intro (And.intro (hPd.keep hkt hkp) (hT.keep hkt)) (below_set5 hV.1.2.2.2 (show w.heap.size ≤ w.heap.size + 1 by omega) (.slice ga i gc) (.slice zp lc.length zd) (.int .i64 (app l t).kind) (.string (app l t).name) (.slice za (app l t).kids.length zc)))
      generalize set5 V (w.heap.size + 1) (.slice ga i gc) (.slice zp lc.length zd) (.int .i64 (app l t).kind) (.string (app l t).name) (.slice za (app l t).kids.length zc) = Z at *
      rw [HE2, HE3] at HEnd
      rw [HE2] at hc
      clear hkt hkp hV hT hPd
      simp only [frnFr]
      simp only [Array.getD_eq_getD_getElem?, List.getElem?_toArray, List.getElem?_cons_succ, List.getElem?_cons_zero, Option.getD_some]
      go_wp2
      exact bodyPost_ret (v := .agg #[.slice ga i gc, .slice zp lc.length zd, .int .i64 (app (prs F G) t).kind, .string (app (prs F G) t).name, .slice za (app (prs F G) t).kids.length zc]) (by simp [results, Tryz.results33, go_sem, hc.1, hc.2.1, hc.2.2.1, hc.2.2.2.1, hc.2.2.2.2]) rfl ⟨⟨_, _, _, _, rfl, HEnd.out.1.1, HEnd.out.1.2⟩, HEnd.out.2⟩
end Go.Proofs.YtdidgddcgjpokaaGreatDoor
/- scheme.Fresh. -/
namespace Go.Proofs.YtdidgddcgjpokaaGreatDoor
open Go.RowKit Go.Sort Go.Lib
attribute [local go_sem] Oper.semAt_some

/-- The name of a number. -/
def qn (u : Nat) : ByteArray := ⟨#[63]⟩ ++ ⟨(Lib.decDigits u).toArray⟩
def Tab (w : World) : Prop := Lib.TabIs Tryz.prog w "internal/strconv.uint64pow10" .u64 Lib.pow10Tab
theorem Tab.below {w w' : World} (h : Tab w) (hb : Below w.heap.size w w') : Tab w' := by
  have hg : Tryz.prog.globalNamed "internal/strconv.uint64pow10" = some 0 := by kernel_rfl
  unfold Tab Lib.TabIs World.var? at *
  simp only [hg, Option.bind_some] at h ⊢
  by_cases hl : 0 < w.heap.size
  · rw [hb.block _ hl]; exact h
  · rw [Array.getElem?_eq_none (by omega)] at h; simp at h
theorem dec_len (u : Nat) (h : u < 18446744073709551616) : (Lib.decDigits u).length ≤ 20 := by
  rw [Lib.decDigits_length]
  by_cases h1 : 1 ≤ u
  · have := Lib.numDigits_eq u h1 h
    split at this <;> omega
  · obtain rfl : u = 0 := by omega
    rw [← Lib.decDigits_length, Lib.decDigits]; simp
set_option maxRecDepth 100000 in
set_option maxHeartbeats 4000000 in
theorem numbered_any (z i : Nat) (hz : z + i < 1000000) (w : World) (ht : Tab w) :
    Calls Tryz.prog 32 #[.int .i64 (z : Int), .int .i64 (i : Int)] w fun e w' => e = .returned (.string (qn (z + i))) ∧ Below w.heap.size w w' := by
  have h1 : IntKind.u64.wrap (z : Int) = (z : Int) := by rw [IntKind.wrap_u64]; omega
  have h2 : IntKind.u64.wrap (i : Int) = (i : Int) := by rw [IntKind.wrap_u64]; omega
  have h3 : IntKind.u64.wrap ((z : Int) + (i : Int)) = ((z + i : Nat) : Int) := by rw [IntKind.wrap_u64]; omega
  have h4 : ¬ ((z : Int) < 0) := by omega
  have HF := Lib.hid (funum_any (z + i) (by omega) w ht)
  clear ht
  go_enter Tryz.func32, Tryz.ntmps32
  go_wp2_with (go_at_call 59; fail)
  refine (show Calls Tryz.prog 59 #[.int .u64 ((z + i : Nat) : Int), .int .i64 10] w fun e w' => e = .returned (.string ⟨(Lib.decDigits (z + i)).toArray⟩) ∧ Below w.heap.size w w' from by
    clear h1 h2 h3 h4
    generalize z + i = u at *
    go_enter Tryz.func59, Tryz.ntmps59
    go_wp2_with (go_at_call 74; refine HF.out.mono ?_; rintro e w' ⟨rfl, hb⟩)
    go_ret
    exact ⟨rfl, hb⟩).mono ?_
  rintro e w' ⟨rfl, hb⟩
  have HB := Lib.hid hb
  clear hb HF
  have hdl : ¬ 9223372036854775807 < 1 + (Lib.decDigits (z + i)).length := by have := dec_len (z + i) (by omega); omega
  go_wp2
  go_ret
  exact ⟨rfl, HB.out⟩
def zerosS (n : Nat) : Array Value := Builtin.zeroCells (Value.string ⟨#[]⟩).cells n
theorem zerosS_size (n : Nat) : (zerosS n).size = n := by unfold zerosS; rw [size_zeroCells]; simp [Value.cells]
theorem make_rowS (n : Nat) (hn : n ≤ 1000000) (w : World) :
    (Instr.makeSlice 23 (.int .i64 (n : Int)) (.int .i64 (n : Int))).run Tryz.prog w = .ok (.slice (some ⟨w.heap.size, 0, none⟩) n n) (w.alloc (.cells (zerosS n) 9)) := by
  obtain ⟨i, hi, hzz⟩ := Option.map_eq_some_iff.1 Tryz.infoStrC
  simp only [Prod.mk.injEq] at hzz
  obtain ⟨hz, hs, hb⟩ := hzz
  have hr := run_make (P := Tryz.prog) w 23 9 i _ Tryz.underlying23 hi hz .i64 .i64 n n (by omega) (Int.le_refl _) (by rw [hb]; omega) (by omega)
  simp only [Int.toNat_natCast, hs] at hr
  exact hr
/-- The first i names are there. -/
def NamesI (g n z i : Nat) (w : World) : Prop := ∃ cs : Array Value, w.heap[g]? = some (.cells cs 9 (0, 0)) ∧ cs.size = n ∧ ∀ j, j < i → cs[j]? = some (.string (qn (z + j)))
theorem NamesI.below {g n z i : Nat} {w w' : World} (h : NamesI g n z i w) (hb : Below w.heap.size w w') : NamesI g n z i w' := by
  obtain ⟨cs, h1, h2⟩ := h; exact ⟨cs, (hb.block g (Array.getElem?_eq_some_iff.1 h1).1).trans h1, h2⟩
theorem NamesI.cell {g n z i : Nat} {w : World} (h : NamesI g n z i w) {k : Nat} (hk : k < n) : (∃ v, w.cell? ⟨g, k, none⟩ = some v) ∧ w.frozen? ⟨g, k, none⟩ = false ∧ g < w.heap.size := by
  obtain ⟨cs, h1, h2, _⟩ := h
  refine ⟨⟨cs[k]'(by omega), ?_⟩, Lib.frozen_of_heap h1 k, (Array.getElem?_eq_some_iff.1 h1).1⟩
  rw [Lib.cell_of_heap h1]
  exact Array.getElem?_eq_getElem (by omega)
theorem NamesI.next {g n z i : Nat} {w : World} (h : NamesI g n z i w) (hi : i < n) : NamesI g n z (i + 1) (w.setCell ⟨g, i, none⟩ (.string (qn (z + i)))) := by
  obtain ⟨cs, h1, h2, h3⟩ := h
  refine ⟨cs.setIfInBounds i (.string (qn (z + i))), blk_set (o := i) h1 _, by simpa using h2, fun j hj => ?_⟩
  by_cases e : j = i
  · subst e; simp [h2, hi]
  · rw [Array.getElem?_setIfInBounds_ne (Ne.symm e)]; exact h3 j (by omega)
theorem NamesI.texts {g z : Nat} {G : List ByteArray} {w : World} (h : NamesI g G.length z G.length w) (hG : ∀ j (hj : j < G.length), G[j] = qn (z + j)) : TextsAt w (.slice (some ⟨g, 0, none⟩) G.length G.length) G := by
  obtain ⟨cs, h1, h2, h3⟩ := h
  exact ⟨_, _, rfl, .inr ⟨g, rfl, Nat.le_refl _, cs, _, h1, fun i hi => by rw [h3 i hi, hG i hi]⟩⟩
set_option maxRecDepth 100000 in
set_option maxHeartbeats 8000000 in
theorem fresh_any (t : T) (F G : List ByteArray) (z : Nat) (hz : z < 100000) (hGl : G.length = F.length) (hG : ∀ j (hj : j < G.length), G[j] = qn (z + j)) (hl : F.length < 20) (hsz : tsize t ≤ 1000000000) (lc : List Pr) (hq : ∀ q ∈ lc, tsize q.2 ≤ 1000000000) (hcn : lc.length ≤ 1000000) (xa ta fa : Option Addr) (xc tc fc : Nat) (w : World)
    (ht : TysAt w (.slice ta t.kids.length tc) t.kids) (hF : TextsAt w (.slice fa F.length fc) F) (hP : PrsAt w (.slice xa lc.length xc) lc) (hT : Tab w) :
    Calls Tryz.prog 8 #[.agg #[.slice fa F.length fc, .slice xa lc.length xc, .int .i64 t.kind, .string t.name, .slice ta t.kids.length tc], .int .i64 (z : Int)] w fun e w' =>
      (∃ ga gc pa pc za zc, e = .returned (.tuple #[.agg #[.slice ga F.length gc, .slice pa lc.length pc, .int .i64 (app (prs F G) t).kind, .string (app (prs F G) t).name, .slice za (app (prs F G) t).kids.length zc], .int .i64 ((z : Int) + (F.length : Int))]) ∧ TextsAt w' (.slice ga F.length gc) G ∧ PrsAt w' (.slice pa lc.length pc) (appP (prs F G) lc) ∧ TysAt w' (.slice za (app (prs F G) t).kids.length zc) (app (prs F G) t).kids) ∧ Below w.heap.size w w' := by
  have hmk := make_rowS F.length (by omega)
  have HT := Lib.hid ht; have HF := Lib.hid hF; have HP := Lib.hid hP; have HTab := Lib.hid hT; have HG := Lib.hid hG; have HGl := Lib.hid hGl; have HQ := Lib.hid hq
  have HB3 := Lib.hid (fun o1 o2 o3 => below_three w o1 o2 o3)
  have HN3 := Lib.hid (fun o1 o2 o3 => new_three w o1 o2 o3)
  clear ht hF hP hT hG hGl hq
  go_enter Tryz.func8, Tryz.ntmps8
  go_wp2
  go_loopw [14] (fun vi wr => ∃ i : Nat, i ≤ F.length ∧ vi = .int .i64 i ∧ Hid (NamesI (w.heap.size + 1 + 1) F.length z i wr) ∧ Hid (Below w.heap.size w wr) ∧
    Hid (wr.heap[w.heap.size]? = some (.cells #[.slice fa F.length fc, .slice xa lc.length xc, .int .i64 t.kind, .string t.name, .slice ta t.kids.length tc] 33 (0, 0)) ∧ wr.heap[w.heap.size + 1]? = some (.cells #[.slice none 0 0, .slice none 0 0, .int .i64 0, .string ⟨#[]⟩, .slice none 0 0] 33 (0, 0)))) (fun vi _ => F.length - (intOf vi).toNat)
  case atStart =>
    obtain ⟨n1, n2, n3⟩ := HN3.out (.cells #[.slice fa F.length fc, .slice xa lc.length xc, .int .i64 t.kind, .string t.name, .slice ta t.kids.length tc] 33) (.cells #[.slice none 0 0, .slice none 0 0, .int .i64 0, .string ⟨#[]⟩, .slice none 0 0] 33) (.cells (zerosS F.length) 9)
    exact ⟨0, Nat.zero_le _, rfl, Lib.hid ⟨_, n3, zerosS_size _, fun j hj => absurd hj (Nat.not_lt_zero _)⟩, Lib.hid (HB3.out _ _ _), Lib.hid ⟨n1, n2⟩⟩
  case round =>
    obtain ⟨i, hi, rfl, hN, hB, hbx⟩ := hrel
    by_cases hlt : i < F.length
    · have hltI : (i : Int) < (F.length : Int) := by omega
      have HNu := Lib.hid (numbered_any z i (by omega) wr (HTab.out.below (hB.out.mono (Nat.le_refl _))))
      clear hmk
      go_wp2_with (go_at_call 32; fail)
      refine HNu.out.mono ?_
      rintro e w4 ⟨rfl, hb4⟩
      have hN4 := hN.out.below hb4
      obtain ⟨⟨v0, hc0⟩, hf0, hl0⟩ := hN4.cell hlt
      have HNx := Lib.hid (hN4.next hlt)
      have hB4 := hB.out.trans (hb4.mono hB.out.size)
      have HBx := Lib.hid (hB4.setCell (p := ⟨w.heap.size + 1 + 1, i, none⟩) (by simp; omega) (.string (qn (z + i))))
      have hl2 : w.heap.size + 1 < wr.heap.size := (Array.getElem?_eq_some_iff.1 hbx.out.2).1
      have Hbx := Lib.hid (And.intro ((Below.heap_setCell w4 ⟨w.heap.size + 1 + 1, i, none⟩ (.string (qn (z + i))) w.heap.size (by simp; omega)).trans ((hb4.block _ (by omega)).trans hbx.out.1)) ((Below.heap_setCell w4 ⟨w.heap.size + 1 + 1, i, none⟩ (.string (qn (z + i))) (w.heap.size + 1) (by simp)).trans ((hb4.block _ hl2).trans hbx.out.2)))
      clear hN4 hb4 hB4 HNu
      go_wp2
      go_roundw
      case rel => exact ⟨i + 1, by omega, by go_num, HNx, HBx, Hbx⟩
      case measure => simp [intOf]; omega
    · obtain rfl : i = F.length := by omega
      have hTx := NamesI.texts (G := G) (z := z) (g := w.heap.size + 1 + 1) (w := wr) (by rw [HGl.out]; exact hN.out) HG.out
      rw [HGl.out] at hTx
      have hk := KeepT.of_below hB.out
      have hR := fren_any t F G HGl.out.symm hl hsz lc HQ.out hcn (.slice fa F.length fc) xa ta fa (some ⟨w.heap.size + 1 + 1, 0, none⟩) xc tc fc F.length wr (HT.out.keep hk) (HF.out.below hB.out).strs (by have := hTx.strs; rw [HGl.out]; exact this) (HP.out.keep hk (KeepP.of_below hB.out))
      rw [HGl.out] at hR
      have HR := Lib.hid hR
      have HTx := Lib.hid hTx
      obtain ⟨x0, x1, x2, x3, x4⟩ := cells5 hbx.out.1
      clear hR hTx hk hN hmk HB3 HN3
      go_wp2_with (go_at_call 33; fail)
      refine HR.out.mono ?_
      rintro e w4 ⟨⟨pa, pc, za, zc, rfl, hp4, ht4⟩, hb4⟩
      have hl2 : w.heap.size + 1 < wr.heap.size := (Array.getElem?_eq_some_iff.1 hbx.out.2).1
      have hz4 := (hb4.block _ hl2).trans hbx.out.2
      obtain ⟨u0, u1, u2, u3, u4⟩ := cells5 hz4
      have f0 := Lib.frozen_of_heap hz4 0
      have f1 := Lib.frozen_of_heap hz4 1
      have f2 := Lib.frozen_of_heap hz4 2
      have f3 := Lib.frozen_of_heap hz4 3
      have f4 := Lib.frozen_of_heap hz4 4
      have hoth := fun k cs T (fz : Nat × Nat) (hT : T ≠ 33) (hk : w4.heap[k]? = some (.cells cs T fz)) => (set5_other w4 (w.heap.size + 1) (.slice (some ⟨w.heap.size + 1 + 1, 0, none⟩) F.length F.length) (.slice pa lc.length pc) (.int .i64 (app (prs F G) t).kind) (.string (app (prs F G) t).name) (.slice za (app (prs F G) t).kids.length zc) (k := k) (fun e => by subst e; rw [hz4] at hk; simp at hk; exact hT hk.2.1.symm)).trans hk
      have HEnd := Lib.hid (And.intro ((HTx.out.below hb4).keep fun k cs fz hk => hoth k cs _ fz (by decide) hk) (And.intro (hp4.keep (fun k cs fz hk => hoth k cs _ fz (by decide) hk) (fun k cs fz hk => hoth k cs _ fz (by decide) hk)) (And.intro (ht4.keep (fun k cs fz hk => hoth k cs _ fz (by decide) hk)) (below_set5 (hB.out.trans (hb4.mono hB.out.size)) (show w.heap.size ≤ w.heap.size + 1 by omega) (.slice (some ⟨w.heap.size + 1 + 1, 0, none⟩) F.length F.length) (.slice pa lc.length pc) (.int .i64 (app (prs F G) t).kind) (.string (app (prs F G) t).name) (.slice za (app (prs F G) t).kids.length zc)))))
      have hc := cells5 (set5_block hz4 (.slice (some ⟨w.heap.size + 1 + 1, 0, none⟩) F.length F.length) (.slice pa lc.length pc) (.int .i64 (app (prs F G) t).kind) (.string (app (prs F G) t).name) (.slice za (app (prs F G) t).kids.length zc))
      clear hp4 ht4 hb4 hoth HR HTx hbx hB
      go_wp2
      unfold set5 at hc
      exact bodyPost_ret (v := .tuple #[.agg #[.slice (some ⟨w.heap.size + 1 + 1, 0, none⟩) F.length F.length, .slice pa lc.length pc, .int .i64 (app (prs F G) t).kind, .string (app (prs F G) t).name, .slice za (app (prs F G) t).kids.length zc], .int .i64 ((z : Int) + (F.length : Int))]) (by simp [results, Tryz.results8, go_sem, hc.1, hc.2.1, hc.2.2.1, hc.2.2.2.1, hc.2.2.2.2]) rfl ⟨⟨_, _, _, _, _, _, rfl, HEnd.out.1, HEnd.out.2.1, HEnd.out.2.2.1⟩, HEnd.out.2.2.2⟩
end Go.Proofs.YtdidgddcgjpokaaGreatDoor
/- Numbers as texts: FormatInt of any number that is not below zero; scheme.Name of any place. -/
namespace Go.Proofs.YtdidgddcgjpokaaGreatDoor
open Go.RowKit Go.Sort Go.Lib
attribute [local go_sem] Oper.semAt_some

set_option maxRecDepth 100000 in
theorem fint_any (u : Nat) (hu : u < 9223372036854775808) (w : World) (htab : Tab w) :
    Calls Tryz.prog 95 #[.int .i64 u, .int .i64 10] w fun e w' => e = .returned (.string ⟨(Lib.decDigits u).toArray⟩) ∧ Below w.heap.size w w' := by
  have hneg : ¬ ((u : Int) < 0) := by omega
  have h0 : (0 : Int) ≤ (u : Int) := by omega
  by_cases hi : u < 100
  · have hiI : (u : Int) < 100 := by omega
    go_enter Tryz.func95, Tryz.ntmps95
    go_wp2_with (go_at_call 96; refine (small_num u hi _).mono ?_; rintro e w' ⟨rfl, rfl⟩)
    go_ret
    exact ⟨rfl, Below.refl _ _⟩
  · have hiI : ¬ ((u : Int) < 100) := by omega
    have hu1 : 1 ≤ u := by omega
    have hu64 : u < 18446744073709551616 := by omega
    have hw : IntKind.u64.wrap (u : Int) = (u : Int) := by rw [IntKind.wrap_u64]; omega
    have hnd20 : Lib.nDigits u ≤ 20 := by have := Lib.numDigits_eq u hu1 hu64; split at this <;> omega
    have hb3 : Lib.nDigits u ≤ 23 := by omega
    have hal : Tryz.prog.arrayLen 128 = 24 := by kernel_rfl
    have hsl1 : ∀ W, (Instr.sliceAt 128 (.pointer (some ⟨w.heap.size, 0, none⟩)) (some (.int .i64 1)) (some (.int .i64 (1 + (Lib.nDigits u : Int)))) none).run Tryz.prog W = .ok (.slice (some ⟨w.heap.size, 1, none⟩) (Lib.nDigits u) 23) W := fun W => by
      rw [run_sliceAt_array_lh W 128 ⟨w.heap.size, 0, none⟩ (by simp [Program.arrayLen, Program.elem, Tryz.underlying128]) .i64 .i64 1 (1 + (Lib.nDigits u : Int)) (by omega) (by omega) (by rw [hal]; omega)]
      go_simp
      omega
    have hH0 := Lib.holds_zero w 128 (Lib.nDigits u) (by omega)
    have hfmt := base_num w.heap.size 1 23 u (Array.replicate (Lib.nDigits u) 0) (w.alloc (.cells Lib.zeros24 128)) hH0 (by rw [Array.size_replicate]; exact Lib.lt_pow_nDigits u) hu64 (by rw [Array.size_replicate]; omega)
    rw [Array.size_replicate] at hfmt
    have HH0 := Lib.hid hH0
    have HF := Lib.hid hfmt
    have HTab := Lib.hid htab
    clear hH0 hal hfmt htab
    go_enter Tryz.func95, Tryz.ntmps95
    go_wp2_with (go_at_call 97; refine (digits_num u hu1 hu64 _ (Lib.tabIs_alloc HTab.out _)).mono ?_; rintro e w' ⟨rfl, rfl⟩)
    go_at_call 98
    refine HF.out.mono ?_
    rintro e w' ⟨rfl, k, v', dk, rfl, hF⟩
    have hcv : (convert 79 9 (.slice (some ⟨w.heap.size, 1, none⟩) (Lib.nDigits u) 23)).run Tryz.prog ((putRow (fun (b : UInt8) => Value.int .u8 (b.toNat : Int)) (w.alloc (.cells Lib.zeros24 128)) w.heap.size 1 dk).drewN k) = .ok (.string ⟨(Lib.decDigits u).toArray⟩) ((putRow (fun (b : UInt8) => Value.int .u8 (b.toNat : Int)) (w.alloc (.cells Lib.zeros24 128)) w.heap.size 1 dk).drewN k) := by
      have h := run_convert_bytes_back (P := Tryz.prog) ((putRow (fun (b : UInt8) => Value.int .u8 (b.toNat : Int)) (w.alloc (.cells Lib.zeros24 128)) w.heap.size 1 dk).drewN k) 79 9 5 ⟨w.heap.size, 1, none⟩ 23 (Lib.decDigits u) (by kernel_rfl) (by kernel_rfl) (by kernel_rfl) (fun j hj => by
        rw [Lib.row_is_numeral hF j hj, Lib.add_plain, World.cell?_drewN]
        exact cell?_putRow (fun (b : UInt8) => Value.int .u8 (b.toNat : Int)) _ w.heap.size 1 _ dk HH0.out (by rw [hF.size, Array.size_replicate]) j (by rw [hF.size]; rw [Lib.decDigits_length] at hj; exact hj))
      rw [Lib.decDigits_length] at h
      exact h
    go_wp2
    go_ret
    refine ⟨rfl, ?_⟩
    rw [alloc_eq_grow]
    obtain ⟨os', _, e⟩ := putRow_grow_new (fun (b : UInt8) => Value.int .u8 (b.toNat : Int)) w #[(.cells Lib.zeros24 128)] w.heap.size 1 dk (Nat.le_refl _)
    rw [e]
    exact Lib.below_grow w.heap.size w (Nat.le_refl _) k os'
theorem iItoa_any (u : Nat) (hu : u < 9223372036854775808) (w : World) (htab : Tab w) : Calls Tryz.prog 72 #[.int .i64 u] w fun e w' => e = .returned (.string ⟨(Lib.decDigits u).toArray⟩) ∧ Below w.heap.size w w' := by
  have hb1 : (u : Int) ≤ 9223372036854775807 := by omega
  have HF := Lib.hid (fint_any u hu w htab)
  clear htab
  go_enter Tryz.func72, Tryz.ntmps72
  go_wp2_with (go_at_call 95; refine HF.out.mono ?_; rintro e w' ⟨rfl, hb⟩)
  go_ret
  exact ⟨rfl, hb⟩
theorem itoa_any (u : Nat) (hu : u < 9223372036854775808) (w : World) (htab : Tab w) : Calls Tryz.prog 49 #[.int .i64 u] w fun e w' => e = .returned (.string ⟨(Lib.decDigits u).toArray⟩) ∧ Below w.heap.size w w' := by
  have HF := Lib.hid (iItoa_any u hu w htab)
  clear htab
  go_enter Tryz.func49, Tryz.ntmps49
  go_wp2_with (go_at_call 72; refine HF.out.mono ?_; rintro e w' ⟨rfl, hb⟩)
  go_ret
  exact ⟨rfl, hb⟩
/-- The name of a place. -/
def nmL (r : Nat) : ByteArray := ⟨#[UInt8.ofNat (97 + r)]⟩
def nmI (n : Nat) : ByteArray := if n < 26 then nmL (n % 26) else nmL (n % 26) ++ ⟨(Lib.decDigits (n / 26)).toArray⟩
end Go.Proofs.YtdidgddcgjpokaaGreatDoor
/- scheme.Name of any place. -/
namespace Go.Proofs.YtdidgddcgjpokaaGreatDoor
open Go.RowKit Go.Sort Go.Lib
attribute [local go_sem] Oper.semAt_some

theorem enc_low (r : Nat) (h : r < 26) : Utf8.encode (97 + (r : Int)) = nmL r := by
  have : ∀ r : Fin 26, Utf8.encode (97 + (r.1 : Int)) = nmL r.1 := by decide +kernel
  exact this ⟨r, h⟩
set_option maxRecDepth 100000 in
theorem pname_any (n : Nat) (hn : n < 1000000000) (w : World) (htab : Tab w) : Calls Tryz.prog 21 #[.int .i64 (n : Int)] w fun e w' => e = .returned (.string (nmI n)) ∧ Below w.heap.size w w' := by
  have h0 : max (n : Int) 0 = (n : Int) := by omega
  have h0' : max 0 (n : Int) = (n : Int) := by omega
  have hn0 : (0 : Int) ≤ (n : Int) := by omega
  have hnL : ¬ ((n : Int) < 0) := by omega
  have hm : ((n : Int)).tmod 26 = ((n % 26 : Nat) : Int) := by rw [Int.tmod_eq_emod_of_nonneg hn0]; omega
  have hd : ((n : Int)).tdiv 26 = ((n / 26 : Nat) : Int) := by rw [Int.tdiv_eq_ediv_of_nonneg hn0]; omega
  have hr : n % 26 < 26 := Nat.mod_lt _ (by decide)
  obtain ⟨r, hre⟩ : ∃ r, n % 26 = r := ⟨_, rfl⟩
  rw [hre] at hm hr
  have henc := enc_low r hr
  have hw1 : IntKind.i64.wrap (97 + (r : Int)) = 97 + (r : Int) := by rw [IntKind.wrap_i64]; omega
  have hw2 : IntKind.i32.wrap (97 + (r : Int)) = 97 + (r : Int) := by rw [IntKind.wrap_i32]; omega
  obtain ⟨q, hq⟩ : ∃ q, n / 26 = q := ⟨_, rfl⟩
  have hq2 : q < 1000000000 := by omega
  rw [hq] at hd
  have HI := Lib.hid (itoa_any q (by omega) w htab)
  have HQ := Lib.hid hq
  have HR := Lib.hid hre
  clear htab hre hq
  by_cases h : n < 26
  · have hI : (n : Int) < 26 := by omega
    go_enter Tryz.func21, Tryz.ntmps21
    go_wp2
    go_ret
    refine ⟨?_, Below.refl _ _⟩
    unfold nmI; rw [if_pos h, HR.out]; rfl
  · have hI : ¬ ((n : Int) < 26) := by omega
    go_enter Tryz.func21, Tryz.ntmps21
    go_wp2_with fail
    clear hm henc hw1 hw2 h0 h0'
    have hsz : ¬ 9223372036854775807 < (nmL r).size + (Lib.decDigits q).length := by
      have h1 := dec_len q (by omega)
      have h2 : (nmL r).size = 1 := rfl
      omega
    go_wp2_with (go_at_call 49; refine HI.out.mono ?_; rintro e w' ⟨rfl, hb⟩)
    go_ret
    refine ⟨?_, hb⟩
    unfold nmI; rw [if_neg h, HR.out, HQ.out]; rfl
end Go.Proofs.YtdidgddcgjpokaaGreatDoor
/- paideiaref4.Name of any place. -/
namespace Go.Proofs.YtdidgddcgjpokaaGreatDoor
open Go.RowKit Go.Sort Go.Lib
attribute [local go_sem] Oper.semAt_some

/-- The digits of a number, none for 0. -/
def dd (m : Nat) : List UInt8 := if m = 0 then [] else Lib.decDigits m
theorem dd_step {m : Nat} (h : 0 < m) : dd m = dd (m / 10) ++ [UInt8.ofNat (48 + m % 10)] := by
  unfold dd
  rw [if_neg (by omega), Lib.decDigits]
  split
  · rename_i h10
    rw [if_pos (by omega), Nat.mod_eq_of_lt h10]; rfl
  · rw [if_neg (by omega)]
theorem dd_len (m : Nat) (h : m < 18446744073709551616) : (dd m).length ≤ 20 := by
  unfold dd
  split
  · simp
  · exact dec_len m h
theorem conv_one (c : Nat) (hc : c < 256) (W : World) : (convert 79 9 (.slice (some ⟨W.heap.size, 0, none⟩) 1 1)).run Tryz.prog (W.alloc (.cells #[.int .u8 (c : Int)] 5)) = .ok (.string ⟨#[UInt8.ofNat c]⟩) (W.alloc (.cells #[.int .u8 (c : Int)] 5)) := by
  have h := run_convert_bytes_back (P := Tryz.prog) (W.alloc (.cells #[.int .u8 (c : Int)] 5)) 79 9 5 ⟨W.heap.size, 0, none⟩ 1 [UInt8.ofNat c] (by kernel_rfl) (by kernel_rfl) (by kernel_rfl) (fun j hj => by
    obtain rfl : j = 0 := by simpa using hj
    rw [show (⟨W.heap.size, 0, none⟩ : Addr).add 0 = ⟨W.heap.size, 0, none⟩ from rfl, World.cell?_alloc_new]
    simp
    omega)
  exact h
set_option maxRecDepth 100000 in
set_option maxHeartbeats 4000000 in
theorem rname_any (n : Nat) (hn : n < 1000000000) (w : World) : Calls Tryz.prog 22 #[.int .i64 (n : Int)] w fun e w' => e = .returned (.string (nmI n)) ∧ Below w.heap.size w w' := by
  have hnL : ¬ ((n : Int) < 0) := by omega
  have hn0 : (0 : Int) ≤ (n : Int) := by omega
  have hm : ((n : Int)).tmod 26 = ((n % 26 : Nat) : Int) := by rw [Int.tmod_eq_emod_of_nonneg hn0]; omega
  have hd : ((n : Int)).tdiv 26 = ((n / 26 : Nat) : Int) := by rw [Int.tdiv_eq_ediv_of_nonneg hn0]; omega
  obtain ⟨r, hre⟩ : ∃ r, n % 26 = r := ⟨_, rfl⟩
  obtain ⟨q, hq⟩ : ∃ q, n / 26 = q := ⟨_, rfl⟩
  have hq2 : q < 1000000000 := by omega
  have hr : r < 26 := by omega
  rw [hre] at hm
  rw [hq] at hd
  have hw1 : IntKind.i64.wrap (97 + (r : Int)) = ((97 + r : Nat) : Int) := by rw [IntKind.wrap_i64]; omega
  have hw2 : IntKind.u8.wrap ((97 + r : Nat) : Int) = ((97 + r : Nat) : Int) := by rw [IntKind.wrap_u8]; omega
  have hcv := conv_one (97 + r) (by omega) w
  have HQ := Lib.hid hq
  have HR := Lib.hid hre
  clear hre hq
  obtain ⟨c, hc⟩ : ∃ c, 97 + r = c := ⟨_, rfl⟩
  have hw3 : 97 + (r : Int) = (c : Int) := by omega
  have hw4 : IntKind.u8.wrap (c : Int) = (c : Int) := by rw [IntKind.wrap_u8]; omega
  rw [hc] at hcv
  have HC := Lib.hid hc
  clear hw1 hw2 hc
  go_enter Tryz.func22, Tryz.ntmps22
  go_wp2
  have hb1 : Below w.heap.size w (w.alloc (.cells #[.int .u8 (c : Int)] 5)) := (Below.refl _ _).alloc (Nat.le_refl _) _
  clear hcv hw3 hw4 hm hd
  generalize hW1 : w.alloc (.cells #[.int .u8 (c : Int)] 5) = W1 at hb1 ⊢
  clear hW1
  have HB1 := Lib.hid hb1
  clear hb1
  go_loopw [4, 5] (fun vn vd Y => ∃ (m : Nat) (s : List UInt8), m ≤ q ∧ s.length ≤ 20 ∧ vn = .int .i64 m ∧ vd = .string ⟨s.toArray⟩ ∧ Hid (dd m ++ s = dd q) ∧ Hid (Below w.heap.size w Y)) (fun vn _ _ => (intOf vn).toNat)
  case atStart => exact ⟨q, [], Nat.le_refl _, by decide, rfl, rfl, Lib.hid (by simp), HB1⟩
  case round =>
    rename World => W2
    obtain ⟨m, s, hmq, hs20, rfl, rfl, hS, hB⟩ := hrel
    by_cases hm : 0 < m
    · have hmI : (0 : Int) < (m : Int) := by omega
      have hm0 : (0 : Int) ≤ (m : Int) := by omega
      have hmm : ((m : Int)).tmod 10 = ((m % 10 : Nat) : Int) := by rw [Int.tmod_eq_emod_of_nonneg hm0]; omega
      have hmd : ((m : Int)).tdiv 10 = ((m / 10 : Nat) : Int) := by rw [Int.tdiv_eq_ediv_of_nonneg hm0]; omega
      obtain ⟨g, hg⟩ : ∃ g, m % 10 = g := ⟨_, rfl⟩
      obtain ⟨k, hk⟩ : ∃ k, m / 10 = k := ⟨_, rfl⟩
      rw [hg] at hmm
      rw [hk] at hmd
      have hg10 : g < 10 := by omega
      have hkm : k < m := by omega
      obtain ⟨x, hx⟩ : ∃ x, 48 + g = x := ⟨_, rfl⟩
      have hw3 : 48 + (g : Int) = (x : Int) := by omega
      have hw4 : IntKind.u8.wrap (x : Int) = (x : Int) := by rw [IntKind.wrap_u8]; omega
      have hcv := conv_one x (by omega) W2
      have HSt := Lib.hid (show dd k ++ (UInt8.ofNat x :: s) = dd q by
        rw [← hS.out, dd_step hm, hk, hg, hx]; simp)
      have hsl : (dd k).length + (s.length + 1) ≤ 20 := by
        have h1 := congrArg List.length HSt.out
        simp only [List.length_append, List.length_cons] at h1
        have := dd_len q (by omega)
        omega
      have hcat : (⟨#[UInt8.ofNat x]⟩ : ByteArray) ++ ⟨s.toArray⟩ = ⟨(UInt8.ofNat x :: s).toArray⟩ := by
        apply ByteArray.ext; simp
      have hbn := hB.out.alloc hB.out.size (.cells #[.int .u8 (x : Int)] 5)
      have HBN := Lib.hid hbn
      clear hg hk hx hS hB hbn
      go_wp2
      go_roundw
      case rel => exact ⟨k, UInt8.ofNat x :: s, by omega, by simp; omega, rfl, rfl, HSt, HBN⟩
      case measure => simp [intOf]; omega
    · obtain rfl : m = 0 := by omega
      have hSq : s = dd q := hS.out
      have HSq := Lib.hid hSq
      have hz1 : ¬ 9223372036854775807 < 1 + s.length := by omega
      have hz2 : ¬ 9223372036854775807 < s.length + 1 := by omega
      have hfin : Ending.returned (.string ((⟨#[UInt8.ofNat c]⟩ : ByteArray) ++ ⟨s.toArray⟩)) = Ending.returned (.string (nmI n)) := by
        congr 2
        unfold nmI nmL
        rw [HR.out, HQ.out, HC.out, hSq]
        unfold dd
        by_cases h26 : n < 26
        · rw [if_pos h26, if_pos (by have := HQ.out; omega)]
          apply ByteArray.ext; simp
        · rw [if_neg h26, if_neg (by have := HQ.out; omega)]
      have HFin := Lib.hid hfin
      clear hSq hS hfin
      go_wp2
      go_ret
      exact ⟨HFin.out, hB.out⟩
end Go.Proofs.YtdidgddcgjpokaaGreatDoor
/- scheme.Name and paideiaref4.Name of any number. -/
namespace Go.Proofs.YtdidgddcgjpokaaGreatDoor
open Go.RowKit Go.Sort Go.Lib
attribute [local go_sem] Oper.semAt_some

set_option maxRecDepth 100000 in
theorem pname_int (z : Int) (hz : z < 1000000000) (w : World) (htab : Tab w) : Calls Tryz.prog 21 #[.int .i64 z] w fun e w' => e = .returned (.string (nmI z.toNat)) ∧ Below w.heap.size w w' := by
  by_cases h : 0 ≤ z
  · obtain ⟨n, rfl⟩ : ∃ n : Nat, z = n := ⟨z.toNat, by omega⟩
    exact pname_any n (by omega) w htab
  · have h0 : max z 0 = 0 := by omega
    have h0' : max 0 z = 0 := by omega
    have hlt : z < 0 := by omega
    have hle : z ≤ 0 := by omega
    have hnm : nmI z.toNat = ⟨#[97]⟩ := by rw [show z.toNat = 0 by omega]; decide
    rw [hnm]
    clear htab hnm
    go_enter Tryz.func21, Tryz.ntmps21
    go_wp2
    go_ret
    exact ⟨by first | rfl | kernel_rfl, Below.refl _ _⟩
set_option maxRecDepth 100000 in
theorem rname_int (z : Int) (hz : z < 1000000000) (w : World) : Calls Tryz.prog 22 #[.int .i64 z] w fun e w' => e = .returned (.string (nmI z.toNat)) ∧ Below w.heap.size w w' := by
  by_cases h : 0 ≤ z
  · obtain ⟨n, rfl⟩ : ∃ n : Nat, z = n := ⟨z.toNat, by omega⟩
    exact rname_any n (by omega) w
  · have hlt : z < 0 := by omega
    have hnm : nmI z.toNat = ⟨#[97]⟩ := by rw [show z.toNat = 0 by omega]; decide
    rw [hnm]
    have hcv := conv_one 97 (by omega) w
    have hb1 : Below w.heap.size w (w.alloc (.cells #[.int .u8 ((97 : Nat) : Int)] 5)) := (Below.refl _ _).alloc (Nat.le_refl _) _
    rw [show (((97 : Nat) : Int)) = (97 : Int) from rfl] at hcv hb1
    rw [show UInt8.ofNat 97 = 97 from rfl] at hcv
    have HB1 := Lib.hid hb1
    clear hnm hb1
    go_enter Tryz.func22, Tryz.ntmps22
    go_wp2
    go_loopw [4, 5] (fun vn vd Y => vn = .int .i64 0 ∧ vd = .string ⟨#[]⟩ ∧ Hid (Below w.heap.size w Y)) (fun _ _ _ => 0)
    case atStart => exact ⟨rfl, rfl, HB1⟩
    case round =>
      obtain ⟨rfl, rfl, hB⟩ := hrel
      go_wp2
      go_ret
      exact ⟨by first | rfl | kernel_rfl, hB.out⟩
end Go.Proofs.YtdidgddcgjpokaaGreatDoor
/- The document's Compare of types (from TyRef, whose Size is SbSize's here). -/
namespace Go.Proofs.YtdidgddcgjpokaaGreatDoor
open Go.RowKit
attribute [local go_sem] Oper.semAt_some

theorem sign_of (a b r : Int) (w : World) (h : a < b ∧ r = -1 ∨ (¬ a < b ∧ b < a) ∧ r = 1 ∨ (¬ a < b ∧ ¬ b < a) ∧ r = 0) : Calls Tryz.prog 94 #[.int .i64 a, .int .i64 b] w fun e w' => e = .returned (.int .i64 r) ∧ w = w' := by
  rcases h with ⟨h, rfl⟩ | ⟨⟨h, h'⟩, rfl⟩ | ⟨⟨h, h'⟩, rfl⟩
  all_goals
    go_enter Tryz.func94, Tryz.ntmps94
    go_wp2
    go_ret
    exact ⟨rfl, rfl⟩
theorem sign_any (a b : Int) (w : World) : Calls Tryz.prog 94 #[.int .i64 a, .int .i64 b] w fun e w' => e = .returned (.int .i64 (sgn a b)) ∧ w = w' :=
  sign_of a b _ w (by unfold sgn; (repeat' split) <;> omega)

def RCmpOK (t : T) : Prop := ∀ (t' : T) (a b : Option Addr) (c d : Nat) (w : World), TysAt w (.slice a t.kids.length c) t.kids → TysAt w (.slice b t'.kids.length d) t'.kids → tsize t ≤ 1000000000 →
    Calls Tryz.prog 71 #[tyV t (.slice a t.kids.length c), tyV t' (.slice b t'.kids.length d)] w fun e w' => e = .returned (.int .i64 (cmpT t t')) ∧ Below w.heap.size w w'

/-- What was found before the parts are looked at. -/
theorem cmp_done {t t' : T} {hd : Int} (h : orI (sgn t.kind t'.kind) (orI (cmpL t.name.data.toList t'.name.data.toList) (sgn t.kids.length t'.kids.length)) = hd) (hz : ¬ hd = 0) : cmpT t t' = hd := by
  have h' := cmpT_eq t t'
  rw [h', ← h]
  unfold orI at *
  by_cases hp : sgn t.kind t'.kind = 0
  · by_cases hq : cmpL t.name.data.toList t'.name.data.toList = 0
    · by_cases hr : sgn (t.kids.length : Int) t'.kids.length = 0
      · simp [hp, hq, hr] at h; omega
      · simp [hp, hq, hr]
    · simp [hp, hq]
  · simp [hp]

set_option maxHeartbeats 4000000 in
theorem rcmp_step (t : T) (H : ∀ k ∈ t.kids, RCmpOK k) : RCmpOK t := by
  intro t' a b c d w h h' hs
  have hz := tsize_eq t
  have hlen := len_sizes' t.kids
  have hB : ∀ o1 o2 : Obj, Below w.heap.size w ((w.alloc o1).alloc o2) := fun o1 o2 => ((Below.refl _ w).alloc (Nat.le_refl _) _).alloc (by simp) _
  have HB := Lib.hid hB; clear hB
  have e1 : (t.name.toList == t'.name.toList) = decide (cmpL t.name.data.toList t'.name.data.toList = 0) := by rw [Lib.toList_data, Lib.toList_data, beq_cmpL]
  have e2 : Op.bytesLess t.name.toList t'.name.toList = decide (cmpL t.name.data.toList t'.name.data.toList < 0) := by rw [Lib.toList_data, Lib.toList_data, less_cmpL]
  have hp1 := sgn_unit t.kind t'.kind
  have hq1 := cmpL_unit t.name.data.toList t'.name.data.toList
  have hr1 := sgn_unit (t.kids.length : Int) t'.kids.length
  obtain ⟨p, hp⟩ : ∃ p, sgn t.kind t'.kind = p := ⟨_, rfl⟩
  obtain ⟨q, hq⟩ : ∃ p, cmpL t.name.data.toList t'.name.data.toList = p := ⟨_, rfl⟩
  obtain ⟨r, hr⟩ : ∃ p, sgn (t.kids.length : Int) t'.kids.length = p := ⟨_, rfl⟩
  have HSK := Lib.hid (fun (W : World) => sign_any t.kind t'.kind W)
  have HSL := Lib.hid (fun (W : World) => sign_any (t.kids.length : Int) t'.kids.length W)
  have HD := fun (hz : ¬ orI p (orI q r) = 0) => cmp_done (t := t) (t' := t') (hd := orI p (orI q r)) (by rw [hp, hq, hr]) hz
  have HEq := cmpT_eq t t'
  have HLen : r = 0 → t.kids.length = t'.kids.length := fun e => by rw [← hr] at e; have := sgn_zero.1 e; omega
  rw [hp] at HSK hp1
  rw [hq] at e1 e2 hq1
  rw [hr] at HSL hr1
  rw [hp, hq, hr] at HEq
  obtain ⟨res, hres⟩ : ∃ p, cmpT t t' = p := ⟨_, rfl⟩
  rw [hres] at HEq HD ⊢
  have HEq' := Lib.hid HEq; have HD' := Lib.hid HD; have HLen' := Lib.hid HLen
  clear hp hq hr hres HEq HD HLen
  by_cases hp0 : p = 0
  · subst hp0
    by_cases hq0 : q = 0
    · subst hq0
      simp only [decide_true, Int.lt_irrefl, decide_false] at e1 e2
      by_cases hr0 : r = 0
      · subst hr0
        have hl := HLen'.out rfl
        have HR := Lib.hid h.part
        rw [← hl] at h'
        have HR' := Lib.hid (hl ▸ h').part
        have HS := Lib.hid H
        have HL := Lib.hid hl
        have hres : cmpTs t.kids t'.kids = res := HEq'.out.symm
        have HRs := Lib.hid hres
        clear h h' H hl hres HD' HEq' HLen' hp1 hq1 hr1
        simp only [tyV]
        go_enter Tryz.func71, Tryz.ntmps71
        go_wp2_with (go_at_call 94; first | ((with_reducible refine (HSK.out _).mono ?_); rintro e w2 ⟨rfl, rfl⟩) | ((with_reducible refine (HSL.out _).mono ?_); rintro e w2 ⟨rfl, rfl⟩))
        go_loopw [5, 6] (fun vn vi wr => ∃ (i : Nat) (m : Int), i ≤ t.kids.length ∧ vi = .int .i64 i ∧ vn = .int .i64 m ∧ Hid ((m = 0 ∧ cmpTs (t.kids.drop i) (t'.kids.drop i) = res) ∨ (¬ m = 0 ∧ m = res)) ∧ Hid (Below w.heap.size w wr) ∧
          Hid (wr.heap[w.heap.size]? = some (.cells #[.int .i64 t.kind, .string t.name, .slice a t.kids.length c] 31 (0, 0)) ∧ wr.heap[w.heap.size + 1]? = some (.cells #[.int .i64 t'.kind, .string t'.name, .slice b t'.kids.length d] 31 (0, 0)))) (fun _ vi _ => t.kids.length - (intOf vi).toNat)
        case atStart => exact ⟨0, 0, Nat.zero_le _, rfl, rfl, Lib.hid (.inl ⟨rfl, by simpa using HRs.out⟩), Lib.hid (HB.out _ _), Lib.hid ⟨(Below.heap_alloc _ _ _ (by simp)).trans (alloc_new w _), by have := alloc_new (w.alloc (.cells #[.int .i64 t.kind, .string t.name, .slice a t.kids.length c] 31)) (.cells #[.int .i64 t'.kind, .string t'.name, .slice b t'.kids.length d] 31); simpa using this⟩⟩
        case round =>
          obtain ⟨i, m, hi, rfl, rfl, hM, hBl, hBox⟩ := hrel
          obtain ⟨z0, z1, z2⟩ := three_cells hBox.out.1
          obtain ⟨z3, z4, z5⟩ := three_cells hBox.out.2
          rcases hM.out with ⟨rfl, hc⟩ | ⟨hm, rfl⟩
          · by_cases hlt : i < t.kids.length
            · have hlt' : i < t'.kids.length := by have := HL.out; omega
              obtain ⟨g, pa, ca, rfl, hcap, hr⟩ := HR.out i hlt
              obtain ⟨g', pb, cb, rfl, hcap', hr'⟩ := HR'.out i hlt'
              obtain ⟨⟨hg, x0, x1, x2⟩, xk⟩ := hr wr (KeepT.of_below hBl.out)
              obtain ⟨⟨hg', y0, y1, y2⟩, yk⟩ := hr' wr (KeepT.of_below hBl.out)
              have hkk := size_mem' (List.getElem_mem hlt)
              have HC := Lib.hid (HS.out t.kids[i] (List.getElem_mem hlt) t'.kids[i] pa pb ca cb wr.drew (xk.keep (show KeepT wr wr.drew from fun _ _ _ h => h)) (yk.keep (show KeepT wr wr.drew from fun _ _ _ h => h)) (by omega))
              have hd := cmp_drop t.kids t'.kids i hlt hlt'
              rw [hc] at hd
              clear hr hr' xk yk hkk HS HR HR' hM hc HRs
              generalize t.kids[i] = u at x0 x1 x2 HC hd
              generalize t'.kids[i] = u' at y0 y1 y2 HC hd
              simp only [tyV] at HC
              have HDr := Lib.hid hd; clear hd
              obtain ⟨k, hk⟩ : ∃ k, cmpT u u' = k := ⟨_, rfl⟩
              rw [hk] at HC
              have HK := Lib.hid hk; clear hk
              have hlt1 : ((i : Int) < (t.kids.length : Int)) := by omega
              have hlt2 : ((i : Int) < (t'.kids.length : Int)) := by omega
              have lb : w.heap.size + 1 < wr.heap.size := (Array.getElem?_eq_some_iff.1 hBox.out.2).1
              go_wp2
              go_region_held3 (fun V => V.cell? ⟨w.heap.size, 2, none⟩ = some (.slice (some ⟨g, 0, none⟩) t.kids.length c) ∧ V.cell? ⟨w.heap.size + 1, 2, none⟩ = some (.slice (some ⟨g', 0, none⟩) t'.kids.length d) ∧ (V.cell? ⟨g, i * 3, none⟩ = some (.int .i64 u.kind) ∧ V.cell? ⟨g, i * 3 + 1, none⟩ = some (.string u.name) ∧ V.cell? ⟨g, i * 3 + 2, none⟩ = some (.slice pa u.kids.length ca)) ∧ (V.cell? ⟨g', i * 3, none⟩ = some (.int .i64 u'.kind) ∧ V.cell? ⟨g', i * 3 + 1, none⟩ = some (.string u'.name) ∧ V.cell? ⟨g', i * 3 + 2, none⟩ = some (.slice pb u'.kids.length cb)))
                (first | exact ⟨z2, z5, ⟨x0, x1, x2⟩, y0, y1, y2⟩ | exact ⟨v2, v5, ⟨v6, v7, v8⟩, v9, v10, v11⟩)
                ((go_at_call 71; refine HC.out.mono ?_; rintro e w2 ⟨rfl, hb2⟩; have cc : ∀ (b o : Nat) (x : Value), b < wr.heap.size → wr.cell? ⟨b, o, none⟩ = some x → w2.cell? ⟨b, o, none⟩ = some x := (fun b o x hb hx => (hb2.cell (p := ⟨b, o, none⟩) hb).trans hx); have v2 := cc _ _ _ (by omega) z2; have v5 := cc _ _ _ lb z5; have v6 := cc _ _ _ hg x0; have v7 := cc _ _ _ hg x1; have v8 := cc _ _ _ hg x2; have v9 := cc _ _ _ hg' y0; have v10 := cc _ _ _ hg' y1; have v11 := cc _ _ _ hg' y2; have HB2 := Lib.hid (hBl.out.drew.trans (hb2.mono hBl.out.size)); have HBox2 := Lib.hid (And.intro ((hb2.block w.heap.size (by show w.heap.size < wr.heap.size; omega)).trans hBox.out.1) ((hb2.block (w.heap.size + 1) lb).trans hBox.out.2)); clear cc hb2))
              all_goals
                clear z0 z1 z2 z3 z4 z5 x0 x1 x2 y0 y1 y2 v2 v5 v6 v7 v8 v9 v10 v11
                go_wp2
                go_roundw
                case rel =>
                  refine ⟨i + 1, k, by omega, by go_num, rfl, Lib.hid ?_, HB2, HBox2⟩
                  have := HDr.out
                  rw [HK.out] at this
                  by_cases h0 : k = 0
                  · exact .inl ⟨h0, by rw [this, h0]; rfl⟩
                  · exact .inr ⟨h0, by rw [this, orI, if_neg h0]⟩
                case measure => simp [intOf]; omega
            · obtain rfl : i = t.kids.length := by omega
              have e : res = 0 := by rw [← hc, List.drop_length, HL.out, List.drop_length, cmpTs]
              subst e
              clear HR HR' HS HRs hM hc
              go_wp2
              go_ret
              exact ⟨rfl, hBl.out⟩
          · have hz1 : (m == 0) = false := by simpa using hm
            clear HR HR' HS HRs hM hm
            go_wp2
            all_goals go_ret
            all_goals exact ⟨rfl, hBl.out⟩
      · have e : res = r := by have := HD'.out (by simpa [orI] using hr0); simpa [orI] using this
        subst e
        have hz1 : (res == 0) = false := by simpa using hr0
        clear h h' H HD' HEq' HLen' hp1 hq1 hr1 hr0
        simp only [tyV]
        go_enter Tryz.func71, Tryz.ntmps71
        go_wp2_with (go_at_call 94; first | ((with_reducible refine (HSK.out _).mono ?_); rintro e w2 ⟨rfl, rfl⟩) | ((with_reducible refine (HSL.out _).mono ?_); rintro e w2 ⟨rfl, rfl⟩))
        refine wp_loop_rounds 1 ?_
        rw [rounds_succ]; go_wp2
        all_goals go_ret
        all_goals exact ⟨rfl, HB.out _ _⟩
    · have e : res = q := by have := HD'.out (by simp [orI, hq0]); simpa [orI, hq0] using this
      subst e
      have hz1 : (res == 0) = false := by simpa using hq0
      rw [decide_eq_false hq0] at e1
      clear h h' H HD' HEq' HLen' hp1 hr1
      simp only [tyV]
      rcases hq1 with rfl | rfl | rfl
      · simp at e2
        go_enter Tryz.func71, Tryz.ntmps71
        go_wp2_with (go_at_call 94; ((with_reducible refine (HSK.out _).mono ?_); rintro e w2 ⟨rfl, rfl⟩))
        refine wp_loop_rounds 1 ?_
        rw [rounds_succ]; go_wp2
        all_goals go_ret
        all_goals exact ⟨rfl, HB.out _ _⟩
      · exact absurd rfl hq0
      · simp at e2
        go_enter Tryz.func71, Tryz.ntmps71
        go_wp2_with (go_at_call 94; ((with_reducible refine (HSK.out _).mono ?_); rintro e w2 ⟨rfl, rfl⟩))
        refine wp_loop_rounds 1 ?_
        rw [rounds_succ]; go_wp2
        all_goals go_ret
        all_goals exact ⟨rfl, HB.out _ _⟩
  · have e : res = p := by have := HD'.out (by simp [orI, hp0]); simpa [orI, hp0] using this
    subst e
    have hz1 : (res == 0) = false := by simpa using hp0
    clear h h' H HD' HEq' HLen' hp1 hq1 hr1 hp0
    simp only [tyV]
    go_enter Tryz.func71, Tryz.ntmps71
    go_wp2_with (go_at_call 94; ((with_reducible refine (HSK.out _).mono ?_); rintro e w2 ⟨rfl, rfl⟩))
    refine wp_loop_rounds 1 ?_
    rw [rounds_succ]; go_wp2
    all_goals go_ret
    all_goals exact ⟨rfl, HB.out _ _⟩
theorem rcmp_any {t t' : T} {v v' : Value} {w : World} (hs : tsize t ≤ 1000000000) (h : TysAt w v t.kids) (h' : TysAt w v' t'.kids) :
    Calls Tryz.prog 71 #[tyV t v, tyV t' v'] w fun e w' => e = .returned (.int .i64 (cmpT t t')) ∧ Below w.heap.size w w' := by
  obtain ⟨a, c, rfl⟩ := h.shape
  obtain ⟨b, d, rfl⟩ := h'.shape
  exact T.by_kids (P := RCmpOK) rcmp_step t t' a b c d w h h' hs
end Go.Proofs.YtdidgddcgjpokaaGreatDoor
