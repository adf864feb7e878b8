/- Merged: SbApp, SbOf, SbRen, Make, MakeType, MakeStep, MakeAll, SbSize, SbFirst, ScOf, TyFind, TyVars, TyTexts, MapV, ScSet, RegInv, SbOthersA, SbPairs, ScSplit. -/
import Derived.Test.YtdidgddcgjpokaaGreatDoorVa1
import Derived.Shelf.SlicesE.Clone
import Derived.Deep.RegionHeld3
import Derived.Deep.DrawnRows
import Derived.BigRegion
import Derived.Maps.OwnOps
import Derived.Maps.Views
import Derived.Deep.AppendLies
import Derived.Deep.RegionLaw
import Derived.LoopN
import Derived.Carry
import Derived.Maps.OwnSet
import Derived.Maps.AppendAt
import Derived.Deep.RegionHeld
import Derived.Test.YtdidgddcgjpokaaGreatDoorProg
/- own, (Subst).Apply. -/
namespace Go.Proofs.YtdidgddcgjpokaaGreatDoor
open Go.RowKit Go.Sort Go.Lib
attribute [local go_sem] Oper.semAt_some

/-- A type in memory of its own. -/
def ResT (N : Nat) (t : T) (e : Ending) (w' : World) : Prop := ∃ a c, e = .returned (tyV t (.slice a t.kids.length c)) ∧ TyIn (fun k => N ≤ k) w' t (.slice a t.kids.length c)
def OwnS (t : T) : Prop := ∀ (a : Option Addr) (c : Nat) (w : World), TysAt w (.slice a t.kids.length c) t.kids →
    Calls Tryz.prog 66 #[tyV t (.slice a t.kids.length c)] w fun e w' => ResT w.heap.size t e w' ∧ Below w.heap.size w w'
def AppOK (d : List PR) (t : T) : Prop := ∀ (v : Value) (a : Option Addr) (c : Nat) (w : World), SubAt v d w → TysAt w (.slice a t.kids.length c) t.kids →
    Calls Tryz.prog 41 #[.agg #[v], tyV t (.slice a t.kids.length c)] w fun e w' => ResT w.heap.size (app d t) e w' ∧ Below w.heap.size w w'
theorem sub_nil (w : World) (a : Option Addr) (c : Nat) (h : a = none → c = 0) : SubAt (.slice a 0 c) [] w := ⟨⟨.inl ⟨rfl, a, c, rfl, h⟩, gath_nil.neat⟩, fun x hx => by cases hx⟩
theorem below_two (w : World) (o1 o2 : Obj) : Below w.heap.size w ((w.alloc o1).alloc o2) := ((Below.refl _ w).alloc (Nat.le_refl _) _).alloc (by simp) _
theorem set3_others {W : World} {r k : Nat} (x y z : Value) (hk : k ≠ r) : (((W.setCell ⟨r, 0, none⟩ x).setCell ⟨r, 1, none⟩ y).setCell ⟨r, 2, none⟩ z).heap[k]? = W.heap[k]? :=
  (Below.heap_setCell _ ⟨r, 2, none⟩ _ k hk).trans ((Below.heap_setCell _ ⟨r, 1, none⟩ _ k hk).trans (Below.heap_setCell _ ⟨r, 0, none⟩ _ k hk))
theorem below_set3 {N : Nat} {w W : World} (h : Below N w W) {r : Nat} (hr : N ≤ r) (x y z : Value) : Below N w (((W.setCell ⟨r, 0, none⟩ x).setCell ⟨r, 1, none⟩ y).setCell ⟨r, 2, none⟩ z) :=
  ((h.setCell (p := ⟨r, 0, none⟩) hr x).setCell (p := ⟨r, 1, none⟩) hr y).setCell (p := ⟨r, 2, none⟩) hr z

theorem new_two (w : World) (o1 o2 : Obj) : ((w.alloc o1).alloc o2).heap[w.heap.size + 1]? = some o2 := by
  have := alloc_new (w.alloc o1) o2
  simpa using this

set_option maxRecDepth 100000 in
set_option maxHeartbeats 1000000 in
theorem own_of (t : T) (H : AppOK [] t) : OwnS t := by
  intro a c w h
  have HC := Lib.hid (fun o1 o2 => H (.slice none 0 0) a c ((w.alloc o1).alloc o2) (sub_nil _ _ _ (fun _ => rfl)) (h.keep ((keepT_alloc w o1).trans (keepT_alloc _ o2))))
  rw [app_nil] at HC
  clear H h
  simp only [tyV] at HC ⊢
  go_enter Tryz.func66, Tryz.ntmps66
  go_wp2_with (go_at_call 41; refine (HC.out _ _).mono ?_)
  rintro e w2 ⟨⟨a2, c2, rfl, hin⟩, hb⟩
  have hz2 := (hb.block (w.heap.size + 1) (by simp)).trans (new_two w _ _)
  obtain ⟨z0, z1, z2⟩ := three_cells hz2
  have u0 := Lib.frozen_of_heap hz2 0
  have u1 := Lib.frozen_of_heap hz2 1
  have u2 := Lib.frozen_of_heap hz2 2
  have HZ := Lib.hid hz2
  have HI := Lib.hid hin
  have HB := Lib.hid ((below_two w _ _).trans (hb.mono (by simp; omega)))
  clear hz2 hin hb HC
  simp only [tyV]
  go_wp2
  have hc := three_cells (set3_block HZ.out (.int .i64 t.kind) (.string t.name) (.slice a2 t.kids.length c2))
  refine bodyPost_ret (v := .agg #[.int .i64 t.kind, .string t.name, .slice a2 t.kids.length c2]) (by simp [results, Tryz.results66, go_sem, hc.1, hc.2.1, hc.2.2]) rfl ⟨⟨a2, c2, rfl, ?_⟩, below_set3 HB.out (Nat.le_succ _) _ _ _⟩
  refine (HI.out.keep fun k _ _ hk hh => (set3_others _ _ _ ?_).trans hh).mono fun k hk => ?_
  · have : w.heap.size + 1 + 1 ≤ k := by simpa using hk
    omega
  · have : w.heap.size + 1 + 1 ≤ k := by simpa using hk
    omega

theorem new_three (w : World) (o1 o2 o3 : Obj) : (((w.alloc o1).alloc o2).alloc o3).heap[w.heap.size]? = some o1 ∧ (((w.alloc o1).alloc o2).alloc o3).heap[w.heap.size + 1]? = some o2 ∧ (((w.alloc o1).alloc o2).alloc o3).heap[w.heap.size + 1 + 1]? = some o3 := by
  refine ⟨?_, ?_, ?_⟩
  · rw [Below.heap_alloc _ _ _ (by simp; omega), Below.heap_alloc _ _ _ (by simp)]; exact alloc_new w _
  · rw [Below.heap_alloc _ _ _ (by simp)]
    have := alloc_new (w.alloc o1) o2
    simpa using this
  · have := alloc_new ((w.alloc o1).alloc o2) o3
    simpa using this
theorem below_three (w : World) (o1 o2 o3 : Obj) : Below w.heap.size w (((w.alloc o1).alloc o2).alloc o3) := (((Below.refl _ w).alloc (Nat.le_refl _) _).alloc (by simp) _).alloc (by simp; omega) _

set_option maxRecDepth 100000 in
set_option maxHeartbeats 1000000 in
theorem app_leaf (d : List PR) (t : T) (h0 : t.kids = []) (hv : ∀ n, t ≠ .var n) (hk : (t.kind == 1) = false) : AppOK d t := by
  intro v a c w _ _
  obtain ⟨e1, e2, e3⟩ := app_parts d t hv
  have hl : t.kids.length = 0 := by rw [h0]; rfl
  have hl2 : (app d t).kids = [] := by rw [e3, h0]; rfl
  have HB := Lib.hid (below_three w)
  unfold ResT
  rw [hl, show (app d t).kids.length = 0 by rw [hl2]; rfl]
  simp only [tyV, e1, e2]
  clear e1 e2 e3 hl
  go_enter Tryz.func41, Tryz.ntmps41
  go_wp2
  refine bodyPost_ret (v := .agg #[.int .i64 t.kind, .string t.name, .slice none 0 0]) (by simp [results, Tryz.results41, go_sem]) rfl ⟨⟨none, 0, rfl, .leaf _ none 0 hl2⟩, HB.out _ _ _⟩

theorem app_var (d : List PR) (n : ByteArray) (hl : d.length < 1152921504606846976) (H : ∀ x, lk n d = some x → OwnS x.t) : AppOK d (.var n) := by
  intro v a c w hs _
  have HB := Lib.hid (below_three w)
  have HF := Lib.hid (fun o1 o2 o3 => find_any v d n (((w.alloc o1).alloc o2).alloc o3) (hs.below (HB.out o1 o2 o3)) hl)
  have HN := Lib.hid (new_three w)
  show Calls _ _ #[_, tyV (.var n) (.slice a 0 c)] _ _
  cases hk : lk n d with
  | none =>
    rw [hk] at HF
    have ha : app d (.var n) = .var n := by rw [app, ty, hk]; rfl
    rw [ha]
    unfold ResT
    simp only [show (T.var n).kids.length = 0 from rfl, tyV, show (T.var n).kind = 1 from rfl, show (T.var n).name = n from rfl, fv', Option.isSome] at HF ⊢
    clear ha hk H hs
    go_enter Tryz.func41, Tryz.ntmps41
    go_wp2_with fail
    go_wp2_with (go_at_call 65; refine (HF.out _ _ _).mono ?_)
    rintro e w2 ⟨rfl, hb⟩
    obtain ⟨_, n1, n2⟩ := HN.out (.cells #[v] 73) (.cells #[.int .i64 1, .string n, .slice a 0 c] 31) (.cells #[.int .i64 0, .string ⟨#[]⟩, .slice none 0 0] 31)
    have m1 := (hb.block (w.heap.size + 1) (by simp)).trans n1
    have m2 := (hb.block (w.heap.size + 1 + 1) (by simp)).trans n2
    have HB2 := Lib.hid ((HB.out _ _ _).trans (hb.mono (by simp; omega)))
    obtain ⟨y0, y1, y2⟩ := three_cells m1
    obtain ⟨z0, z1, z2⟩ := three_cells m2
    have v2 := Lib.frozen_of_heap m1 2
    have u0 := Lib.frozen_of_heap m2 0
    have u1 := Lib.frozen_of_heap m2 1
    have u2 := Lib.frozen_of_heap m2 2
    have l1 := (Array.getElem?_eq_some_iff.1 m1).1
    have l2 := (Array.getElem?_eq_some_iff.1 m2).1
    have M2 := Lib.hid m2
    clear hb n1 n2 m1 m2 HF HN
    go_wp2
    have hfin : ∀ o : Obj, (((((w2.setCell ⟨w.heap.size + 1, 2, none⟩ (.slice none 0 0)).setCell ⟨w.heap.size + 1 + 1, 0, none⟩ (.int .i64 1)).setCell ⟨w.heap.size + 1 + 1, 1, none⟩ (.string n)).setCell ⟨w.heap.size + 1 + 1, 2, none⟩ (.slice none 0 0)).alloc o).heap[w.heap.size + 1 + 1]? = some (.cells #[.int .i64 1, .string n, .slice none 0 0] 31 (0, 0)) := fun o => by
      rw [Below.heap_alloc _ _ _ (by simp; omega)]
      exact set3_block ((Below.heap_setCell _ ⟨w.heap.size + 1, 2, none⟩ _ _ (by show w.heap.size + 1 + 1 ≠ w.heap.size + 1; omega)).trans M2.out) _ _ _
    have hc := three_cells (hfin (.cells #[.int .i64 0, .string ⟨#[]⟩, .slice none 0 0] 31))
    refine bodyPost_ret (v := .agg #[.int .i64 1, .string n, .slice none 0 0]) (by simp [results, Tryz.results41, go_sem, hc.1, hc.2.1, hc.2.2]) rfl ⟨⟨none, 0, rfl, .leaf _ none 0 rfl⟩, ?_⟩
    exact (below_set3 (HB2.out.setCell (p := ⟨w.heap.size + 1, 2, none⟩) (by show w.heap.size ≤ w.heap.size + 1; omega) _) (by omega) _ _ _).alloc (by simp; omega) _
  | some x =>
    rw [hk] at HF
    have hx := H x hk
    have hxt := hs.2 x (lk_name hk).1
    have ha : app d (.var n) = x.t := by rw [app, ty, hk]; rfl
    rw [ha]
    have HO := Lib.hid (fun (W : World) (k : KeepT w W) => hx x.a x.c W (hxt.keep k))
    simp only [tyV, show (T.var n).kind = 1 from rfl, show (T.var n).name = n from rfl, fv', Option.isSome] at HF HO ⊢
    clear ha hk H hs hx hxt
    go_enter Tryz.func41, Tryz.ntmps41
    go_wp2_with (go_at_call 65; refine (HF.out _ _ _).mono ?_)
    rintro e w2 ⟨rfl, hb⟩
    obtain ⟨_, _, n2⟩ := HN.out (.cells #[v] 73) (.cells #[.int .i64 1, .string n, .slice a 0 c] 31) (.cells #[.int .i64 0, .string ⟨#[]⟩, .slice none 0 0] 31)
    have m2 := (hb.block (w.heap.size + 1 + 1) (by simp)).trans n2
    have HB2 := Lib.hid ((HB.out _ _ _).trans (hb.mono (by simp; omega)))
    have l2 := (Array.getElem?_eq_some_iff.1 m2).1
    have M2 := Lib.hid m2
    clear hb n2 m2 HF HN
    go_wp2_with (go_at_call 66; refine (HO.out _ ?kk).mono ?_; (case kk => exact (KeepT.of_below HB2.out).trans (keepT_alloc _ _)))
    rintro e w3 ⟨⟨a3, c3, rfl, hin⟩, hb3⟩
    have m3 := (hb3.block (w.heap.size + 1 + 1) (by simp; omega)).trans ((Below.heap_alloc w2 _ _ l2).trans M2.out)
    obtain ⟨z0, z1, z2⟩ := three_cells m3
    have u0 := Lib.frozen_of_heap m3 0
    have u1 := Lib.frozen_of_heap m3 1
    have u2 := Lib.frozen_of_heap m3 2
    have M3 := Lib.hid m3
    have HI := Lib.hid hin
    have HB3 := Lib.hid ((HB2.out.alloc HB2.out.size (.cells #[.int .i64 x.t.kind, .string x.t.name, .slice x.a x.t.kids.length x.c] 31)).trans (hb3.mono (by simp; omega)))
    clear m3 hin hb3 HO
    simp only [tyV]
    go_wp2
    have hc := three_cells (set3_block M3.out (.int .i64 x.t.kind) (.string x.t.name) (.slice a3 x.t.kids.length c3))
    refine bodyPost_ret (v := .agg #[.int .i64 x.t.kind, .string x.t.name, .slice a3 x.t.kids.length c3]) (by simp [results, Tryz.results41, go_sem, hc.1, hc.2.1, hc.2.2]) rfl ⟨⟨a3, c3, rfl, ?_⟩, below_set3 HB3.out (by omega) _ _ _⟩
    refine (HI.out.keep fun k _ _ hk hh => (set3_others _ _ _ ?_).trans hh).mono fun k hk => ?_
    · have : w2.heap.size + 1 ≤ k := by simpa using hk
      omega
    · have : w2.heap.size + 1 ≤ k := by simpa using hk
      omega

theorem set3_others' {W : World} {r o k : Nat} (x y z : Value) (hk : k ≠ r) : (((W.setCell ⟨r, o, none⟩ x).setCell ⟨r, o + 1, none⟩ y).setCell ⟨r, o + 2, none⟩ z).heap[k]? = W.heap[k]? :=
  (Below.heap_setCell _ ⟨r, o + 2, none⟩ _ k hk).trans ((Below.heap_setCell _ ⟨r, o + 1, none⟩ _ k hk).trans (Below.heap_setCell _ ⟨r, o, none⟩ _ k hk))
theorem below_set3' {N : Nat} {w W : World} (h : Below N w W) {r o : Nat} (hr : N ≤ r) (x y z : Value) : Below N w (((W.setCell ⟨r, o, none⟩ x).setCell ⟨r, o + 1, none⟩ y).setCell ⟨r, o + 2, none⟩ z) :=
  ((h.setCell (p := ⟨r, o, none⟩) hr x).setCell (p := ⟨r, o + 1, none⟩) hr y).setCell (p := ⟨r, o + 2, none⟩) hr z
theorem row_new (w : World) (n : Nat) (o1 o2 o3 : Obj) : ((((w.alloc o1).alloc o2).alloc o3).alloc (.cells (zeros n) 31)).heap[w.heap.size + 1 + 1 + 1]? = some (.cells (zeros n) 31 (0, 0)) := by
  have := alloc_new (((w.alloc o1).alloc o2).alloc o3) (.cells (zeros n) 31)
  simpa using this
theorem below_four (w : World) (o1 o2 o3 o4 : Obj) : Below w.heap.size w ((((w.alloc o1).alloc o2).alloc o3).alloc o4) := (below_three w o1 o2 o3).alloc (by simp; omega) _
theorem new_four (w : World) (o1 o2 o3 o4 : Obj) : ((((w.alloc o1).alloc o2).alloc o3).alloc o4).heap[w.heap.size]? = some o1 ∧ ((((w.alloc o1).alloc o2).alloc o3).alloc o4).heap[w.heap.size + 1]? = some o2 ∧ ((((w.alloc o1).alloc o2).alloc o3).alloc o4).heap[w.heap.size + 1 + 1]? = some o3 := by
  obtain ⟨h1, h2, h3⟩ := new_three w o1 o2 o3
  refine ⟨?_, ?_, ?_⟩
  · rw [Below.heap_alloc _ _ _ (by simp; omega)]; exact h1
  · rw [Below.heap_alloc _ _ _ (by simp)]; exact h2
  · rw [Below.heap_alloc _ _ _ (by simp)]; exact h3

set_option maxRecDepth 100000 in
set_option maxHeartbeats 4000000 in
theorem app_step (d : List PR) (t : T) (H : ∀ k ∈ t.kids, AppOK d k) (hn : t.kids.length ≤ 1000000000) (h0 : t.kids ≠ []) (hv : ∀ n, t ≠ .var n) (hk : (t.kind == 1) = false) : AppOK d t := by
  intro v a c w hs h
  obtain ⟨e1, e2, e3⟩ := app_parts d t hv
  obtain ⟨g, cap, e, hg, hcap, hrow⟩ := h.row h0
  cases e
  have HR := Lib.hid hrow
  have HS := Lib.hid H
  have HSub := Lib.hid hs
  have h0' : ((t.kids.length : Int) == 0) = false := by simpa using h0
  have h0n : ¬ ((t.kids.length : Int) = 0) := by simpa using h0
  have hlen : (app d t).kids.length = t.kids.length := by rw [e3]; simp
  have E3 := Lib.hid e3
  clear hrow H h h0 hs e3
  have hmk := make_row3 t.kids.length hn
  unfold ResT
  rw [hlen]
  simp only [tyV, e1, e2]
  clear e1 e2
  go_enter Tryz.func41, Tryz.ntmps41
  go_wp2
  go_loopw [36] (fun vi wr => ∃ i : Nat, i ≤ t.kids.length ∧ vi = .int .i64 i ∧ Hid (Below w.heap.size w wr) ∧
      wr.heap[w.heap.size]? = some (.cells #[v] 73 (0, 0)) ∧
      wr.heap[w.heap.size + 1]? = some (.cells #[.int .i64 t.kind, .string t.name, .slice (some ⟨g, 0, none⟩) t.kids.length c] 31 (0, 0)) ∧
      wr.heap[w.heap.size + 1 + 1]? = some (.cells #[.int .i64 0, .string ⟨#[]⟩, .slice none 0 0] 31 (0, 0)) ∧ Hid (RowTo (w.heap.size + 1 + 1 + 1) (w.heap.size + 1 + 1 + 1) (t.kids.map (app d)) i wr)) (fun vi _ => t.kids.length - (intOf vi).toNat)
  case atStart =>
    obtain ⟨n1, n2, n3⟩ := new_four w (.cells #[v] 73) (.cells #[.int .i64 t.kind, .string t.name, .slice (some ⟨g, 0, none⟩) t.kids.length c] 31) (.cells #[.int .i64 0, .string ⟨#[]⟩, .slice none 0 0] 31) (.cells (zeros t.kids.length) 31)
    refine ⟨0, Nat.zero_le _, rfl, Lib.hid (below_four w _ _ _ _), n1, n2, n3, Lib.hid (RowTo.start _ _ _ _ ?_)⟩
    rw [List.length_map]
    exact row_new w _ _ _ _
  case round =>
    obtain ⟨i, hi, rfl, hB, hb0, hb1, hb2, hRow⟩ := hrel
    by_cases hlt : i < t.kids.length
    · obtain ⟨pa, ca, x0, x1, x2, xk⟩ := HR.out i hlt
      have f1 := fun o => hB.out.cell (p := ⟨g, o, none⟩) hg
      rw [← f1] at x0 x1 x2
      have hgr : g < wr.heap.size := Nat.lt_of_lt_of_le hg hB.out.size
      have HC := Lib.hid (fun o => HS.out t.kids[i] (List.getElem_mem hlt) v pa ca (wr.alloc o) ((HSub.out.below hB.out).below ((Below.refl _ wr).alloc (Nat.le_refl _) o)) (xk.keep ((KeepT.of_below hB.out).trans (keepT_alloc wr o))))
      have HN := Lib.hid (fun (W : World) (u : Value) (h : RowTo (w.heap.size + 1 + 1 + 1) (w.heap.size + 1 + 1 + 1) (t.kids.map (app d)) i W) (hv : TyIn (fun k => (w.heap.size + 1 + 1 + 1 ≤ k ∧ k ≠ w.heap.size + 1 + 1 + 1) ∧ k < W.heap.size) W (app d t.kids[i]) u) => h.next (by simpa using hlt) (by simpa using hv))
      simp only [List.getElem_map] at HN
      generalize hku : t.kids[i] = u at x0 x1 x2 HC HN
      unfold ResT at HC
      generalize app d u = u' at HC HN
      simp only [tyV] at HC
      have hGlt : w.heap.size + 1 + 1 + 1 < wr.heap.size := by obtain ⟨cs, z, h1, _⟩ := hRow.out; exact (Array.getElem?_eq_some_iff.1 h1).1
      have y0 : wr.cell? ⟨w.heap.size, 0, none⟩ = some v := by rw [Lib.cell_of_heap hb0]; rfl
      have l0 : w.heap.size < wr.heap.size := by omega
      clear f1 xk hku HR
      go_wp2_with (go_at_call 41; refine (HC.out _).mono ?_)
      rintro e w2 ⟨⟨a', c', rfl, hIn⟩, hb⟩
      have hRow2 := (hRow.out.below ((Below.refl _ wr).alloc (Nat.le_refl _) _)).below hb
      obtain ⟨z0, z1, z2, c0, c1, c2, f0, f1, f2⟩ := hRow2.cells (by simpa using hlt)
      have HR2 := Lib.hid (HN.out _ _ hRow2 ((hIn.lt).mono (fun k hk => ⟨⟨by have := hk.1; simp at this; omega, by have := hk.1; simp at this; omega⟩, hk.2⟩)))
      have HB2 := Lib.hid (hB.out.trans (((Below.refl wr.heap.size wr).alloc (Nat.le_refl _) (.cells #[.int .i64 u.kind, .string u.name, .slice pa u.kids.length ca] 31)).trans (hb.mono (by simp)) |>.mono hB.out.size))
      have hsz2 : wr.heap.size + 1 ≤ w2.heap.size := by have := hb.size; simpa using this
      have b0 := (hb.block w.heap.size (by simp; omega)).trans ((Below.heap_alloc wr _ _ (by omega)).trans hb0)
      have b1 := (hb.block (w.heap.size + 1) (by simp; omega)).trans ((Below.heap_alloc wr _ _ (by omega)).trans hb1)
      have b2 := (hb.block (w.heap.size + 1 + 1) (by simp; omega)).trans ((Below.heap_alloc wr _ _ (by omega)).trans hb2)
      have HB0 := Lib.hid b0; have HB1 := Lib.hid b1; have HBz := Lib.hid b2
      clear b0 b1 b2 hIn hb hRow2 HN hb0 hb1 hb2 hRow hB HC x0 x1 x2 y0
      dsimp only [tyV]
      go_wp2
      go_roundw
      case rel => exact ⟨i + 1, by omega, by go_num, Lib.hid (below_set3' HB2.out (by omega) _ _ _), (set3_others' _ _ _ (by omega)).trans HB0.out, (set3_others' _ _ _ (by omega)).trans HB1.out, (set3_others' _ _ _ (by omega)).trans HBz.out, HR2⟩
      case measure => simp [intOf]; omega
    · obtain rfl : i = t.kids.length := by omega
      obtain ⟨c0, c1, c2⟩ := three_cells hb1
      obtain ⟨d0, d1, d2⟩ := three_cells hb2
      have a2 := Lib.frozen_of_heap hb1 2
      have e0 := Lib.frozen_of_heap hb2 0
      have e1 := Lib.frozen_of_heap hb2 1
      have e2 := Lib.frozen_of_heap hb2 2
      have hrw : RowTo (w.heap.size + 1 + 1 + 1) (w.heap.size + 1 + 1 + 1) (t.kids.map (app d)) (t.kids.map (app d)).length wr := by rw [List.length_map]; exact hRow.out
      have HD := Lib.hid (hrw.done E3.out (w.heap.size))
      rw [List.length_map] at HD
      have HB1 := Lib.hid hb2
      clear hb0 hb1 hb2 HR HS hmk hrw hRow
      go_wp2
      have h2 := (Below.heap_setCell wr ⟨w.heap.size + 1, 2, none⟩ (.slice (some ⟨w.heap.size + 1 + 1 + 1, 0, none⟩) t.kids.length t.kids.length) (w.heap.size + 1 + 1) (by show w.heap.size + 1 + 1 ≠ w.heap.size + 1; omega)).trans HB1.out
      have hc := three_cells (set3_block h2 (.int .i64 t.kind) (.string t.name) (.slice (some ⟨w.heap.size + 1 + 1 + 1, 0, none⟩) t.kids.length t.kids.length))
      refine bodyPost_ret (v := .agg #[.int .i64 t.kind, .string t.name, .slice (some ⟨w.heap.size + 1 + 1 + 1, 0, none⟩) t.kids.length t.kids.length]) (by simp [results, Tryz.results41, go_sem, hc.1, hc.2.1, hc.2.2]) rfl ⟨⟨some ⟨w.heap.size + 1 + 1 + 1, 0, none⟩, t.kids.length, rfl, HD.out _ (by omega) ?_⟩, ?_⟩
      · intro k hk
        exact (set3_others _ _ _ (by omega)).trans (Below.heap_setCell _ ⟨w.heap.size + 1, 2, none⟩ _ _ (by show k ≠ w.heap.size + 1; omega))
      · exact below_set3 (hB.out.setCell (p := ⟨w.heap.size + 1, 2, none⟩) (by show w.heap.size ≤ w.heap.size + 1; omega) _) (by omega) _ _ _

theorem kind_one {t : T} (hv : ∀ n, t ≠ .var n) : (t.kind == 1) = false := by
  cases t with
  | var n => exact absurd rfl (hv n)
  | con n l => rfl
  | fn a b => rfl
  | all n a => rfl
theorem app_ok (d : List PR) (hl : d.length < 1152921504606846976) (H : ∀ n x, lk n d = some x → OwnS x.t) (t : T) (h : tsize t ≤ 1000000000) : AppOK d t := by
  by_cases hv : ∃ n, t = .var n
  · obtain ⟨n, rfl⟩ := hv
    exact app_var d n hl (H n)
  · have hv' : ∀ n, t ≠ .var n := fun n e => hv ⟨n, e⟩
    by_cases h0 : t.kids = []
    · exact app_leaf d t h0 hv' (kind_one hv')
    · exact app_step d t (fun k hk => app_ok d hl H k ((kids_small h).2 k hk)) (kids_small h).1 h0 hv' (kind_one hv')
termination_by SizeOf.sizeOf t
decreasing_by exact T.kid_size hk
theorem own_ok (t : T) (h : tsize t ≤ 1000000000) : OwnS t := own_of t (app_ok [] (by decide) (fun n x hx => by cases hx) t h)
theorem own_any {t : T} {v : Value} {w : World} (hs : tsize t ≤ 1000000000) (h : TysAt w v t.kids) :
    Calls Tryz.prog 66 #[tyV t v] w fun e w' => ResT w.heap.size t e w' ∧ Below w.heap.size w w' := by
  obtain ⟨a, c, rfl⟩ := h.shape
  exact own_ok t hs a c w h
/-- No type of a row is greater than so. -/
def SizedAll (d : List PR) : Prop := ∀ x ∈ d, tsize x.t ≤ 1000000000
theorem apply_any {d : List PR} {t : T} {s v : Value} {w : World} (hl : d.length < 1152921504606846976) (hd : SizedAll d) (ht : tsize t ≤ 1000000000) (hs : SubAt s d w) (h : TysAt w v t.kids) :
    Calls Tryz.prog 41 #[.agg #[s], tyV t v] w fun e w' => ResT w.heap.size (app d t) e w' ∧ Below w.heap.size w w' := by
  obtain ⟨a, c, rfl⟩ := h.shape
  exact app_ok d hl (fun n x hx => own_ok x.t (hd x (lk_name hx).1)) t ht s a c w hs h
end Go.Proofs.YtdidgddcgjpokaaGreatDoor
/- subst.Of: each variable its type, in memory of its own. -/
namespace Go.Proofs.YtdidgddcgjpokaaGreatDoor
open Go.RowKit Go.Sort Go.Lib
attribute [local go_sem] Oper.semAt_some

def cloneRen : Go.Shelf.Ren := ⟨fun | 41 => 76 | n => n, fun | 4 => 4 | 22 => 71 | 23 => 90 | n => n, fun n => n⟩
theorem cloneLay : SlLaysE0.n41 Tryz.prog cloneRen :=
  { mixed := by kernel_rfl
    f41 := ⟨Tryz.f76.name, by decide, by kernel_rfl⟩
    t4 := by kernel_rfl
    a4 := fun _ => by kernel_rfl
    z4 := fun _ => by kernel_rfl
    v4 := fun _ => by kernel_rfl
    t22 := by kernel_rfl
    a22 := fun _ => by kernel_rfl
    z22 := fun _ => by kernel_rfl
    v22 := fun _ => by kernel_rfl }
theorem Tryz.infoPair : (Tryz.prog.info? 90).map (fun i => (i.zero, i.size, i.bytes)) = some (some (.agg zeroP), 4, 64) := by kernel_rfl
theorem flat_one (d : List PR) : ∀ u ∈ (flatK encP 4 d.toArray).toList, u.oneCell' = true := by
  intro u hu
  simp only [flatK, Array.toList_map, List.mem_map] at hu
  obtain ⟨i, _, rfl⟩ := hu
  have h4 : i % 4 < (encP (d.toArray[i / 4]!)).length := Nat.mod_lt _ (by decide)
  rw [getElem!_pos (encP (d.toArray[i / 4]!)) (i % 4) h4]
  exact encP_one _ _ (List.getElem_mem _)
theorem clone_some (g cap : Nat) (d : List PR) (w : World) (h : RowP g d w) (h0 : d ≠ []) (hl : d.length ≤ 1000000) :
    Calls Tryz.prog 76 #[.slice (some ⟨g, 0, none⟩) d.length cap] w fun e w' =>
      (∃ g' cap', (e = .returned (.slice (some ⟨g', 0, none⟩) d.length cap') ∧ d.length ≤ cap') ∧ w.heap.size ≤ g' ∧ RowP g' d w') ∧ Below w.heap.size w w' := by
  obtain ⟨i, hi, hzz⟩ := Option.map_eq_some_iff.1 Tryz.infoPair
  simp only [Prod.mk.injEq] at hzz
  obtain ⟨hz, hs, hb⟩ := hzz
  have hfl : (flatK encP 4 d.toArray).toList.length = d.length * 4 := by simp
  have hm : (1000000 : Nat) ≤ maxLen := by decide
  have hc : ∀ j u, (flatK encP 4 d.toArray).toList[j]? = some u → w.cell? ⟨g, 0 + j, none⟩ = some u := by
    intro j u hu
    obtain ⟨hj, e⟩ := List.getElem?_eq_some_iff.1 hu
    have hj' : j < (flatK encP 4 d.toArray).size := by simpa using hj
    rw [(h.holds j hj').1, getElem!_pos _ j hj']
    simpa using e
  have main : Calls Tryz.prog 76 _ _ _ := AnyE.slices_Clone cloneLay i (.agg zeroP) 4 64 hi hz hs hb (by rfl) (by decide) (fun _ => by kernel_rfl) g 0 d.length cap (flatK encP 4 d.toArray).toList w hfl (by omega) (by omega) hc (flat_one d)
  refine main.mono ?_
  rintro e w' ⟨v', rfl, ⟨_, ⟨_, hn⟩ | ⟨g', cap', cur, rfl, hg', hcur, hcap, _, hsz, htk⟩⟩, _, hb⟩
  · exact absurd (List.length_eq_zero_iff.1 hn) h0
  · refine ⟨⟨g', cap', ⟨rfl, hcap⟩, hg', ⟨cur, hcur, ?_, fun k hk => ?_⟩⟩, hb⟩
    · rw [hsz]; exact Nat.mul_le_mul_right 4 hcap
    · have hbg : d.toArray[k]! = d.getD k noP := (getD_list d k hk).symm
      have key : ∀ c, c < 4 → cur[k * 4 + c]? = some ((encP (d.getD k noP))[c]!) := by
        intro c hc4
        have hlt : k * 4 + c < d.length * 4 := by omega
        have e1 : (cur.toList.take (d.length * 4))[k * 4 + c]? = cur[k * 4 + c]? := by rw [List.getElem?_take_of_lt hlt]; simp
        rw [← e1, htk]
        have hF : k * 4 + c < (flatK encP 4 d.toArray).size := by simpa using hlt
        have e2 := get_flatK encP 4 d.toArray (k * 4 + c) (by simpa using hlt)
        rw [show (k * 4 + c) / 4 = k by omega, show (k * 4 + c) % 4 = c by omega, hbg, getElem!_pos (flatK encP 4 d.toArray) (k * 4 + c) hF] at e2
        rw [List.getElem?_eq_getElem (by simpa using hlt), ← e2]
        simp
      exact ⟨by simpa [encP] using key 0 (by decide), key 1 (by decide), key 2 (by decide), key 3 (by decide)⟩
/-- One list in another's place: the same names and types, elsewhere. -/
def Copy (l m : List PR) : Prop := l.length = m.length ∧ ∀ i, i < l.length → (l.getD i noP).n = (m.getD i noP).n ∧ (l.getD i noP).t = (m.getD i noP).t
theorem Copy.refl (l : List PR) : Copy l l := ⟨rfl, fun _ _ => ⟨rfl, rfl⟩⟩
theorem Copy.cons {x y : PR} {l m : List PR} (h : Copy (x :: l) (y :: m)) : (x.n = y.n ∧ x.t = y.t) ∧ Copy l m := by
  obtain ⟨h1, h2⟩ := h
  refine ⟨by simpa [List.getD] using h2 0 (by simp), by simpa using h1, fun i hi => by simpa [List.getD] using h2 (i + 1) (by simpa using hi)⟩
theorem Copy.lk {n : ByteArray} : ∀ {l m : List PR}, Copy l m → (lk n l).map PR.t = (lk n m).map PR.t
  | [], [], _ => rfl
  | [], _ :: _, h => absurd h.1 (by simp)
  | _ :: _, [], h => absurd h.1 (by simp)
  | x :: l, y :: m, h => by
    obtain ⟨⟨h1, h2⟩, h3⟩ := h.cons
    rw [lk_cons, lk_cons, h1]
    by_cases e : y.n = n
    · rw [if_pos e, if_pos e]; simp [h2]
    · rw [if_neg e, if_neg e]; exact h3.lk
theorem Copy.mem : ∀ {l m : List PR}, Copy l m → ∀ x ∈ l, ∃ y ∈ m, x.n = y.n ∧ x.t = y.t
  | [], _, _, x, hx => by cases hx
  | _ :: _, [], h, _, _ => absurd h.1 (by simp)
  | z :: l, y :: m, h, x, hx => by
    obtain ⟨h1, h3⟩ := h.cons
    rcases List.mem_cons.1 hx with rfl | hx
    · exact ⟨y, List.mem_cons_self .., h1⟩
    · obtain ⟨u, hu, e⟩ := h3.mem x hx
      exact ⟨u, List.mem_cons_of_mem _ hu, e⟩
theorem Copy.sorted : ∀ {l m : List PR}, Copy l m → Sorted m → Sorted l
  | [], _, _, _ => List.Pairwise.nil
  | _ :: _, [], h, _ => absurd h.1 (by simp)
  | x :: l, y :: m, h, hs => by
    obtain ⟨⟨h1, _⟩, h3⟩ := h.cons
    have hs' := List.pairwise_cons.1 hs
    refine List.pairwise_cons.2 ⟨fun z hz => ?_, h3.sorted hs'.2⟩
    obtain ⟨u, hu, e, _⟩ := h3.mem z hz
    have := hs'.1 u hu
    unfold cmpP at this ⊢
    rw [h1, e]; exact this
theorem Copy.neat {l m : List PR} (h : Copy l m) (hn : Neat m) : Neat l := by
  refine ⟨h.sorted hn.1, fun x hx => ?_⟩
  obtain ⟨y, hy, e1, e2⟩ := h.mem x hx
  have := hn.2 y hy
  cases ho : ownP x with
  | false => rfl
  | true =>
    have h1 := ownP_iff.1 ho
    rw [e1, e2] at h1
    rw [ownP_iff.2 h1] at this
    cases this
/-- What is made of a list of pairs. -/
structure Made (d l : List PR) : Prop where
  sub : ∀ x ∈ l, ∃ y ∈ d, x.n = y.n ∧ x.t = y.t
  len : l.length ≤ d.length
  same : ∀ n, ty n l = ty n d
theorem Gath.made {d l m : List PR} (h : Gath d l) (k : Copy m l) : Made d m :=
  ⟨fun x hx => by obtain ⟨y, hy, e⟩ := k.mem x hx; exact ⟨y, h.sub y hy, e⟩, by rw [k.1]; exact h.len, fun n => by rw [← h.same n]; unfold ty; rw [k.lk]⟩

theorem RowP.setT {g : Nat} {l : List PR} {w : World} (h : RowP g l w) (i : Nat) (x : PR) (hn : i < l.length → (l.getD i noP).n = x.n) :
    RowP g (l.set i x) (((w.setCell ⟨g, i * 4 + 1, none⟩ (.int .i64 x.t.kind)).setCell ⟨g, i * 4 + 1 + 1, none⟩ (.string x.t.name)).setCell ⟨g, i * 4 + 1 + 2, none⟩ (.slice x.a x.t.kids.length x.c)) := by
  obtain ⟨cs, h1, h2, h3⟩ := h
  refine ⟨((cs.setIfInBounds (i * 4 + 1) (.int .i64 x.t.kind)).setIfInBounds (i * 4 + 1 + 1) (.string x.t.name)).setIfInBounds (i * 4 + 1 + 2) (.slice x.a x.t.kids.length x.c), blk_set (blk_set (blk_set h1 _) _) _, by simpa using h2, fun j hj => ?_⟩
  have hj' : j < l.length := by simpa using hj
  by_cases e : j = i
  · subst e
    have e2 : (l.set j x).getD j noP = x := by simp [List.getD, hj']
    rw [e2]
    obtain ⟨a1, _⟩ := h3 j hj'
    rw [hn hj'] at a1
    refine ⟨?_, ?_, ?_, ?_⟩
    · rw [Array.getElem?_setIfInBounds_ne (by omega), Array.getElem?_setIfInBounds_ne (by omega), Array.getElem?_setIfInBounds_ne (by omega)]; exact a1
    · rw [Array.getElem?_setIfInBounds_ne (by omega), Array.getElem?_setIfInBounds_ne (by omega)]; simp [Array.getElem?_setIfInBounds]; omega
    · rw [Array.getElem?_setIfInBounds_ne (by omega)]; simp [Array.getElem?_setIfInBounds]; omega
    · simp [Array.getElem?_setIfInBounds]; omega
  · have e2 : (l.set i x).getD j noP = l.getD j noP := by simp [List.getD, Ne.symm e]
    rw [e2]
    obtain ⟨a1, a2, a3, a4⟩ := h3 j hj'
    refine ⟨?_, ?_, ?_, ?_⟩
    · rw [Array.getElem?_setIfInBounds_ne (by omega), Array.getElem?_setIfInBounds_ne (by omega), Array.getElem?_setIfInBounds_ne (by omega)]; exact a1
    · rw [Array.getElem?_setIfInBounds_ne (by omega), Array.getElem?_setIfInBounds_ne (by omega), Array.getElem?_setIfInBounds_ne (by omega)]; exact a2
    · rw [Array.getElem?_setIfInBounds_ne (by omega), Array.getElem?_setIfInBounds_ne (by omega), Array.getElem?_setIfInBounds_ne (by omega)]; exact a3
    · rw [Array.getElem?_setIfInBounds_ne (by omega), Array.getElem?_setIfInBounds_ne (by omega), Array.getElem?_setIfInBounds_ne (by omega)]; exact a4
theorem Fr.setT (g i : Nat) (w : World) (x : PR) : Fr g w (((w.setCell ⟨g, i * 4 + 1, none⟩ (.int .i64 x.t.kind)).setCell ⟨g, i * 4 + 1 + 1, none⟩ (.string x.t.name)).setCell ⟨g, i * 4 + 1 + 2, none⟩ (.slice x.a x.t.kids.length x.c)) :=
  ⟨below_set3' (Below.refl 0 w) (o := i * 4 + 1) (Nat.zero_le _) _ _ _, fun _ _ hg => set3_others' (o := i * 4 + 1) _ _ _ hg⟩
theorem Copy.set {l m : List PR} (h : Copy l m) (i : Nat) (a : Option Addr) (c : Nat) : Copy (l.set i { l.getD i noP with a := a, c := c }) m := by
  refine ⟨by simpa using h.1, fun j hj => ?_⟩
  have hj' : j < l.length := by simpa using hj
  by_cases e : j = i
  · subst e
    have e2 : (l.set j { l.getD j noP with a := a, c := c }).getD j noP = { l.getD j noP with a := a, c := c } := by simp [List.getD, hj']
    rw [e2]
    exact h.2 j hj'
  · have e2 : (l.set i { l.getD i noP with a := a, c := c }).getD j noP = l.getD j noP := by simp [List.getD, Ne.symm e]
    rw [e2]
    exact h.2 j hj'

set_option maxRecDepth 100000 in
set_option maxHeartbeats 4000000 in
theorem of_some (g cap : Nat) (d : List PR) (w : World) (h : RowP g d w) (ht : Typ d w) (hf : FitsAll d) (hz : SizedAll d) (hl : d.length < 20) (h0 : d ≠ []) :
    Calls Tryz.prog 61 #[.slice (some ⟨g, 0, none⟩) d.length cap] w fun e w' => (∃ v l, e = .returned (.agg #[v]) ∧ SubAt v l w' ∧ Made d l) ∧ Below w.heap.size w w' := by
  have HC := Lib.hid (fun o => clone_some g cap d (w.alloc o) (h.below ((Below.refl _ w).alloc (Nat.le_refl _) o)) h0 (by omega))
  have HG := Lib.hid (fun g' cap' W (hr : RowP g' d W) (hk : KeepT w W) (hc : d.length ≤ cap') => gather_some g' cap' d W hr (ht.keep hk) hf hc hl h0)
  have HT := Lib.hid ht; have HZ := Lib.hid hz
  have HB := Lib.hid (fun o => (Below.refl _ w).alloc (Nat.le_refl _) o)
  clear h ht hf hz h0
  go_enter Tryz.func61, Tryz.ntmps61
  go_wp2_with (go_at_call 76; refine (HC.out _).mono ?_)
  rintro e w1 ⟨⟨g', cap', ⟨rfl, hc'⟩, hg', hr'⟩, hb1⟩
  have HR1 := Lib.hid hr'
  have HB1 := Lib.hid ((HB.out (.cells #[.slice none 0 0] 73)).trans (hb1.mono (by simp)))
  have b1 := (hb1.block w.heap.size (by simp)).trans (alloc_new w _)
  have HX1 := Lib.hid b1
  have hgw : w.heap.size + 1 ≤ g' := by simpa using hg'
  clear hr' hb1 b1 hg' HC HB
  go_wp2_with (go_at_call 75; refine (HG.out g' cap' _ HR1.out (KeepT.of_below HB1.out) hc').mono ?_)
  rintro e w2 ⟨⟨l, ⟨rfl, hlc⟩, hr2, hga⟩, hf2⟩
  have HB2 := Lib.hid (HB1.out.trans (hf2.below (N := w.heap.size) (by omega) HB1.out.size))
  have HX2 := Lib.hid ((hf2.2 w.heap.size (Array.getElem?_eq_some_iff.1 HX1.out).1 (by omega)).trans HX1.out)
  have HR2 := Lib.hid hr2
  have HGa := Lib.hid hga
  have HT2 : Hid (Typ l w2) := Lib.hid fun x hx => (HT.out x (hga.sub x hx)).keep ((KeepT.of_below HB1.out).trans (hf2.keepT HR1.out))
  have HZ2 : Hid (SizedAll l) := Lib.hid fun x hx => HZ.out x (hga.sub x hx)
  have hlen := hga.len
  clear hr2 hf2 HX1 HR1 HB1 HG HT HZ hga
  have hlz : l.length < 20 := by omega
  go_wp2
  have lw2 : w.heap.size < w2.heap.size := (Array.getElem?_eq_some_iff.1 HX2.out).1
  have lg2 : g' < w2.heap.size := HR2.out.lt
  go_loopw [12] (fun vi wr => ∃ (i : Nat) (ls : List PR), i ≤ l.length ∧ vi = .int .i64 i ∧ Hid (Copy ls l) ∧ Hid (RowP g' ls wr) ∧ Hid (Typ ls wr) ∧ Hid (Below w.heap.size w wr) ∧
    wr.heap[w2.heap.size]? = some (.cells #[.slice (some ⟨g', 0, none⟩) l.length cap'] 73 (0, 0)) ∧ wr.heap[w.heap.size]? = some (.cells #[.slice none 0 0] 73 (0, 0))) (fun vi _ => l.length - (intOf vi).toNat)
  case atStart =>
    refine ⟨0, l, Nat.zero_le _, rfl, Lib.hid (Copy.refl l), Lib.hid (HR2.out.below ((Below.refl _ w2).alloc (Nat.le_refl _) _)), Lib.hid (HT2.out.keep (keepT_alloc w2 _)), Lib.hid (HB2.out.alloc HB2.out.size _), alloc_new w2 _, ?_⟩
    rw [Below.heap_alloc _ _ _ lw2]; exact HX2.out
  case round =>
    obtain ⟨i, ls, hi, rfl, hCp, hRow, hTy, hB, hb3, hb0⟩ := hrel
    have hll := hCp.out.1
    by_cases hlt : i < l.length
    · obtain ⟨x0, x1, x2, x3⟩ := hRow.out.cells (i := i) (by omega)
      have hmem := getD_mem (d := ls) (i := i) (by omega)
      have htx := hTy.out _ hmem
      have hzx : tsize (ls.getD i noP).t ≤ 1000000000 := by obtain ⟨y, hy, _, e2⟩ := hCp.out.mem _ hmem; rw [e2]; exact HZ2.out y hy
      have HO := Lib.hid (fun (W : World) (k : KeepT wr W) => own_any (w := W) hzx (htx.keep k))
      have HCs := Lib.hid (fun a c => hCp.out.set i a c)
      have HRs := Lib.hid (fun (W : World) (hr : RowP g' ls W) (a : Option Addr) (c : Nat) => hr.setT i { ls.getD i noP with a := a, c := c } (fun _ => rfl))
      have HTs : Hid (∀ (W : World) (a : Option Addr) (c : Nat), Typ ls W → TysAt W (.slice a (ls.getD i noP).t.kids.length c) (ls.getD i noP).t.kids → Typ (ls.set i { ls.getD i noP with a := a, c := c }) W) := Lib.hid fun W a c h1 h2 y hy => by
        rcases List.mem_or_eq_of_mem_set hy with h | rfl
        · exact h1 y h
        · exact h2
      have y3 : wr.cell? ⟨w2.heap.size, 0, none⟩ = some (.slice (some ⟨g', 0, none⟩) l.length cap') := by rw [Lib.cell_of_heap hb3]; rfl
      have l3 := (Array.getElem?_eq_some_iff.1 hb3).1
      have lgr := hRow.out.lt
      have Hb3 := Lib.hid hb3; have Hb0 := Lib.hid hb0
      clear hmem htx hzx hb3 hb0
      generalize ls.getD i noP = x at *
      simp only [tyV] at HO
      have hiz : (i : Int) < (l.length : Int) := by omega
      go_wp2
      have hbx := alloc_new wr (.cells #[.string x.n, .int .i64 x.t.kind, .string x.t.name, .slice x.a x.t.kids.length x.c] 90)
      have hbl := (Below.refl _ wr).alloc (Nat.le_refl _) (.cells #[.string x.n, .int .i64 x.t.kind, .string x.t.name, .slice x.a x.t.kids.length x.c] 90)
      obtain ⟨V, hV⟩ : ∃ V, wr.alloc (.cells #[.string x.n, .int .i64 x.t.kind, .string x.t.name, .slice x.a x.t.kids.length x.c] 90) = V := ⟨_, rfl⟩
      rw [hV] at hbx hbl ⊢
      clear hV x0 x1 x2 x3
      have hb3V := (hbl.block _ l3).trans Hb3.out
      have y3V : V.cell? ⟨w2.heap.size, 0, none⟩ = some (.slice (some ⟨g', 0, none⟩) l.length cap') := by rw [Lib.cell_of_heap hb3V]; rfl
      obtain ⟨q0, q1, q2, q3⟩ := four_cells hbx
      have l3V := (Array.getElem?_eq_some_iff.1 hb3V).1
      have HbV := Lib.hid hbl
      have Hb3V := Lib.hid hb3V
      clear hbx hbl hb3V y3
      go_region_with (first
        | (go_at_call 66; refine (HO.out V.drew (KeepT.of_below HbV.out.drew)).mono ?_; rintro e w4 ⟨⟨a4, c4, rfl, hin⟩, hb4⟩; have HI4 := Lib.hid hin.tys; have HB4 := Lib.hid (HbV.out.trans ((Below.refl _ V).drew.trans hb4 |>.mono HbV.out.size)); have hR4 := Lib.hid (hRow.out.below HB4.out); obtain ⟨o0, o1, o2, o3⟩ := hR4.out.cells (i := i) (by omega); have f1 := hR4.out.free (i * 4 + 1); have f2 := hR4.out.free (i * 4 + 1 + 1); have f3 := hR4.out.free (i * 4 + 1 + 2); have y4 : w4.cell? ⟨w2.heap.size, 0, none⟩ = some (.slice (some ⟨g', 0, none⟩) l.length cap') := (by rw [Lib.cell_of_heap ((HB4.out.block _ l3).trans Hb3.out)]; rfl); have lg4 := hR4.out.lt; have l34 := Nat.lt_of_lt_of_le l3 HB4.out.size; clear hin hb4; simp only [tyV]))
      all_goals
        go_wp2
        have HF := Lib.hid (Fr.setT g' i w4 { x with a := a4, c := c4 })
        have HFw := Lib.hid ((Fr.of_below (g := g') HB4.out).trans HF.out)
        have HK : Hid (∀ k, k ≠ g' → k < wr.heap.size → ((((w4.setCell ⟨g', i * 4 + 1, none⟩ (.int .i64 x.t.kind)).setCell ⟨g', i * 4 + 1 + 1, none⟩ (.string x.t.name)).setCell ⟨g', i * 4 + 1 + 2, none⟩ (.slice a4 x.t.kids.length c4))).heap[k]? = wr.heap[k]?) := Lib.hid fun k hk hkl => HFw.out.2 k hkl hk
        go_roundw
        case rel => exact ⟨i + 1, ls.set i { x with a := a4, c := c4 }, by omega, by go_num, Lib.hid (HCs.out a4 c4), Lib.hid (HRs.out w4 hR4.out a4 c4), Lib.hid (HTs.out _ a4 c4 (hTy.out.keep (HFw.out.keepT hRow.out)) (HI4.out.keep (HF.out.keepT hR4.out))), Lib.hid (hB.out.trans (HFw.out.below (by omega) hB.out.size)), (HK.out _ (by omega) l3).trans Hb3.out, (HK.out _ (by omega) (Nat.lt_of_lt_of_le (by omega) (Nat.le_of_lt l3))).trans Hb0.out⟩
        case measure => simp [intOf]; omega
    · obtain rfl : i = l.length := by omega
      have y3 : wr.cell? ⟨w2.heap.size, 0, none⟩ = some (.slice (some ⟨g', 0, none⟩) l.length cap') := by rw [Lib.cell_of_heap hb3]; rfl
      have y0 : wr.cell? ⟨w.heap.size, 0, none⟩ = some (.slice none 0 0) := by rw [Lib.cell_of_heap hb0]; rfl
      have y1 := Lib.frozen_of_heap hb0 0
      have Hb0 := Lib.hid hb0
      clear hb3 hb0
      go_wp2
      have hs := blk_set (o := 0) Hb0.out (.slice (some ⟨g', 0, none⟩) l.length cap')
      have hc0 : (wr.setCell ⟨w.heap.size, 0, none⟩ (.slice (some ⟨g', 0, none⟩) l.length cap')).cell? ⟨w.heap.size, 0, none⟩ = some (.slice (some ⟨g', 0, none⟩) l.length cap') := by rw [Lib.cell_of_heap hs]; rfl
      refine bodyPost_ret (v := .agg #[.slice (some ⟨g', 0, none⟩) l.length cap']) (by simp [results, Tryz.results61, go_sem, hc0]) rfl ⟨⟨_, ls, rfl, ⟨⟨.inr ⟨g', cap', by rw [hll], by omega, hRow.out.same (Below.heap_setCell _ ⟨w.heap.size, 0, none⟩ _ _ (by show g' ≠ w.heap.size; omega))⟩, hCp.out.neat HGa.out.neat⟩, hTy.out.keep ?_⟩, HGa.out.made hCp.out⟩, hB.out.setCell (p := ⟨w.heap.size, 0, none⟩) (Nat.le_refl _) _⟩
      intro k cs fz hk
      refine (Below.heap_setCell _ ⟨w.heap.size, 0, none⟩ _ k ?_).trans hk
      rintro rfl
      have := Hb0.out
      rw [hk] at this
      simp at this

theorem app_congr {d d' : List PR} (h : ∀ n, ty n d = ty n d') : ∀ t, app d t = app d' t := by
  intro t
  match t with
  | .var n => rw [app, app]; exact h n
  | .con n l =>
    rw [app, app, apps_map, apps_map]
    congr 1
    exact List.map_congr_left fun k hk => app_congr h k
  | .fn a b => rw [app, app, app_congr h a, app_congr h b]
  | .all n a => rw [app, app, app_congr h a]
termination_by t => SizeOf.sizeOf t
decreasing_by
  · have := List.sizeOf_lt_of_mem hk; simp; omega
  · simp; omega
  · simp; omega
  · simp; omega
end Go.Proofs.YtdidgddcgjpokaaGreatDoor
/- subst.Rename: names for names. -/
namespace Go.Proofs.YtdidgddcgjpokaaGreatDoor
open Go.RowKit Go.Sort Go.Lib
attribute [local go_sem] Oper.semAt_some

/-- v is a slice of the strings F. -/
def StrsP (v : Value) (F : List ByteArray) (w : World) : Prop :=
  (F = [] ∧ ∃ a c, v = .slice a 0 c) ∨ ∃ g o cap, v = .slice (some ⟨g, o, none⟩) F.length cap ∧ g < w.heap.size ∧ ∀ i, i < F.length → w.cell? ⟨g, o + i, none⟩ = some (.string (F.getD i ⟨#[]⟩))
theorem StrsP.below {v : Value} {F : List ByteArray} {w w' : World} (h : StrsP v F w) (hb : Below w.heap.size w w') : StrsP v F w' := by
  rcases h with h | ⟨g, o, cap, e, hg, hc⟩
  · exact .inl h
  · exact .inr ⟨g, o, cap, e, Nat.lt_of_lt_of_le hg hb.size, fun i hi => (hb.cell (p := ⟨g, o + i, none⟩) hg).trans (hc i hi)⟩
/-- At a place: where the string lies. -/
theorem StrsP.at {a : Option Addr} {n c : Nat} {F : List ByteArray} {w : World} (h : StrsP (.slice a n c) F w) (hn : 0 < F.length) : ∃ g o, a = some ⟨g, o, none⟩ ∧ g < w.heap.size ∧ ∀ i, i < F.length → w.cell? ⟨g, o + i, none⟩ = some (.string (F.getD i ⟨#[]⟩)) := by
  rcases h with ⟨rfl, _⟩ | ⟨g, o, cap, e, hg, hc⟩
  · exact absurd hn (Nat.lt_irrefl _)
  · cases e; exact ⟨g, o, rfl, hg, hc⟩
/-- The pairs that a renaming is. -/
def prs : List ByteArray → List ByteArray → List PR
  | f :: F, g :: G => ⟨f, .var g, none, 0⟩ :: prs F G
  | _, _ => []
theorem prs_len : ∀ F G, (prs F G).length = min F.length G.length
  | [], G => by simp [prs]
  | f :: F, [] => by simp [prs]
  | f :: F, g :: G => by rw [prs, List.length_cons, prs_len F G]; simp
theorem prs_get : ∀ (F G : List ByteArray) (i : Nat), i < min F.length G.length → ((prs F G).getD i noP).n = F.getD i ⟨#[]⟩ ∧ ((prs F G).getD i noP).t = .var (G.getD i ⟨#[]⟩)
  | [], G, i, h => by simp at h
  | f :: F, [], i, h => by simp at h
  | f :: F, g :: G, 0, h => ⟨rfl, rfl⟩
  | f :: F, g :: G, i + 1, h => by
    have := prs_get F G i (by simp at h ⊢; omega)
    simpa [prs, List.getD] using this
def zeros4 (n : Nat) : Array Value := madeCells zeroP (n * 4)
theorem make_row4 (n : Nat) (hn : n ≤ 1000000000) (w : World) :
    (Instr.makeSlice 71 (.int .i64 (n : Int)) (.int .i64 (n : Int))).run Tryz.prog w = .ok (.slice (some ⟨w.heap.size, 0, none⟩) n n) (w.alloc (.cells (zeros4 n) 90)) := by
  obtain ⟨i, hi, hzz⟩ := Option.map_eq_some_iff.1 Tryz.infoPair
  simp only [Prod.mk.injEq] at hzz
  obtain ⟨hz, hs, hb⟩ := hzz
  have hr := run_make (P := Tryz.prog) w 71 90 i _ Tryz.underlying71 hi hz .i64 .i64 n n (by omega) (Int.le_refl _) (by rw [hb]; omega) (by omega)
  simp only [Int.toNat_natCast, hs] at hr
  exact hr

/-- A row of k places, of which the first hold the pairs l. -/
def RowK (g k : Nat) (l : List PR) (w : World) : Prop :=
  ∃ cs, w.heap[g]? = some (.cells cs 90 (0, 0)) ∧ cs.size = k * 4 ∧ l.length ≤ k ∧ ∀ i, i < l.length →
    cs[i * 4]? = some (.string (l.getD i noP).n) ∧ cs[i * 4 + 1]? = some (.int .i64 (l.getD i noP).t.kind) ∧ cs[i * 4 + 2]? = some (.string (l.getD i noP).t.name) ∧ cs[i * 4 + 3]? = some (.slice (l.getD i noP).a (l.getD i noP).t.kids.length (l.getD i noP).c)
theorem RowK.row {g k : Nat} {l : List PR} {w : World} (h : RowK g k l w) : RowP g l w := by
  obtain ⟨cs, h1, h2, h3, h4⟩ := h; exact ⟨cs, h1, by omega, h4⟩
theorem RowK.same {g k : Nat} {l : List PR} {w w' : World} (h : RowK g k l w) (e : w'.heap[g]? = w.heap[g]?) : RowK g k l w' := by
  obtain ⟨cs, h1, h2⟩ := h; exact ⟨cs, e.trans h1, h2⟩
theorem RowK.lt {g k : Nat} {l : List PR} {w : World} (h : RowK g k l w) : g < w.heap.size := h.row.lt
theorem RowK.below {g k : Nat} {l : List PR} {w w' : World} (h : RowK g k l w) (hb : Below w.heap.size w w') : RowK g k l w' := h.same (hb.block g h.lt)
theorem RowK.cells {g k : Nat} {l : List PR} {w : World} (h : RowK g k l w) {i : Nat} (hi : i < k) : ∃ x y z u, w.cell? ⟨g, i * 4, none⟩ = some x ∧ w.cell? ⟨g, i * 4 + 1, none⟩ = some y ∧ w.cell? ⟨g, i * 4 + 2, none⟩ = some z ∧ w.cell? ⟨g, i * 4 + 3, none⟩ = some u := by
  obtain ⟨cs, h1, h2, _⟩ := h
  refine ⟨cs[i * 4]'(by omega), cs[i * 4 + 1]'(by omega), cs[i * 4 + 2]'(by omega), cs[i * 4 + 3]'(by omega), ?_, ?_, ?_, ?_⟩ <;> (rw [Lib.cell_of_heap h1]; simp)
theorem RowK.push {g k : Nat} {l : List PR} {w : World} (h : RowK g k l w) (hk : l.length < k) (x : PR) : RowK g k (l ++ [x]) (set4 w g l.length x) := by
  obtain ⟨cs, h1, h2, h3, h4⟩ := h
  refine ⟨(((cs.setIfInBounds (l.length * 4) (.string x.n)).setIfInBounds (l.length * 4 + 1) (.int .i64 x.t.kind)).setIfInBounds (l.length * 4 + 2) (.string x.t.name)).setIfInBounds (l.length * 4 + 3) (.slice x.a x.t.kids.length x.c), blk_set (blk_set (blk_set (blk_set h1 _) _) _) _, by simpa using h2, by simp; omega, fun j hj => ?_⟩
  by_cases e : j = l.length
  · subst e
    have e2 : (l ++ [x]).getD l.length noP = x := by simp [List.getD]
    rw [e2]
    refine ⟨?_, ?_, ?_, ?_⟩ <;> (simp [Array.getElem?_setIfInBounds]; omega)
  · have hj' : j < l.length := by simp at hj; omega
    have e2 : (l ++ [x]).getD j noP = l.getD j noP := by simp [List.getD, List.getElem?_append_left hj']
    rw [e2]
    obtain ⟨a1, a2, a3, a4⟩ := h4 j hj'
    refine ⟨?_, ?_, ?_, ?_⟩
    · rw [Array.getElem?_setIfInBounds_ne (by omega), Array.getElem?_setIfInBounds_ne (by omega), Array.getElem?_setIfInBounds_ne (by omega), Array.getElem?_setIfInBounds_ne (by omega)]; exact a1
    · rw [Array.getElem?_setIfInBounds_ne (by omega), Array.getElem?_setIfInBounds_ne (by omega), Array.getElem?_setIfInBounds_ne (by omega), Array.getElem?_setIfInBounds_ne (by omega)]; exact a2
    · rw [Array.getElem?_setIfInBounds_ne (by omega), Array.getElem?_setIfInBounds_ne (by omega), Array.getElem?_setIfInBounds_ne (by omega), Array.getElem?_setIfInBounds_ne (by omega)]; exact a3
    · rw [Array.getElem?_setIfInBounds_ne (by omega), Array.getElem?_setIfInBounds_ne (by omega), Array.getElem?_setIfInBounds_ne (by omega), Array.getElem?_setIfInBounds_ne (by omega)]; exact a4
theorem RowK.start (g k : Nat) (w : World) (h : w.heap[g]? = some (.cells (zeros4 k) 90 (0, 0))) : RowK g k [] w :=
  ⟨_, h, by simp [zeros4, size_madeCells], Nat.zero_le _, fun _ hi => absurd hi (Nat.not_lt_zero _)⟩

end Go.Proofs.YtdidgddcgjpokaaGreatDoor
/- Numbers taken one by one; the types that are made of them. -/
namespace Go.Proofs.YtdidgddcgjpokaaGreatDoor
open Go.RowKit
attribute [local go_sem] Oper.semAt_some
attribute [local go_sem ↓] Go.wp_at_zero Go.wp_at_succ

theorem block_set {W : World} {b o : Nat} {cs : Array Value} {T : TypeId} {m : Nat × Nat} (h : W.heap[b]? = some (.cells cs T m)) (v : Value) : (W.setCell ⟨b, o, none⟩ v).heap[b]? = some (.cells (cs.setIfInBounds o v) T m) := by
  obtain ⟨hlt, hk⟩ := Array.getElem?_eq_some_iff.1 h
  show (W.heap.modify b _)[b]? = _
  rw [Array.getElem?_eq_getElem (by rw [Array.size_modify]; exact hlt), Array.getElem_modify_self, hk]
  rfl
theorem ret_int {x y : Int} (h : x = y) : Ending.returned (.int .i64 x) = Ending.returned (.int .i64 y) := by rw [h]

theorem number_any (z : Int) (n : Nat) (w : World) (_ : -9223372036854775808 ≤ z) (_ : z ≤ 9223372036854775807) (hn0 : 0 < n) (hn : n ≤ 1000000) :
    Calls Tryz.prog 58 #[.int .i64 z, .int .i64 (n : Int)] w fun e w' => ∃ r : Nat, r < n ∧ e = .returned (.int .i64 (r : Int)) ∧ w = w' := by
  have k1 := Int.tmod_lt_of_pos z (show (0 : Int) < (n : Int) by omega)
  have k2 := Int.lt_tmod_of_pos z (show (0 : Int) < (n : Int) by omega)
  obtain ⟨q, hq⟩ : ∃ q, z.tmod (n : Int) = q := ⟨_, rfl⟩
  rw [hq] at k1 k2
  have hn1 : ((n : Int) == 0) = false := by simp; omega
  go_enter Tryz.func58, Tryz.ntmps58
  go_wp2
  · go_ret
    exact ⟨(q + n).toNat, by omega, ret_int (by omega), rfl⟩
  · go_ret
    exact ⟨q.toNat, by omega, ret_int (by omega), rfl⟩

/-- The ints of a row, in memory below B. -/
def IntsAt (B : Nat) (a : Option Addr) (n : Nat) (w : World) : Prop :=
  n = 0 ∨ ∃ g o, a = some ⟨g, o, none⟩ ∧ g < B ∧ ∀ i, i < n → ∃ z : Int, w.cell? ⟨g, o + i, none⟩ = some (.int .i64 z) ∧ -9223372036854775808 ≤ z ∧ z ≤ 9223372036854775807
/-- A Seq at block p, which has given k numbers. -/
def SeqAt (B p : Nat) (a : Option Addr) (n c k : Nat) (w : World) : Prop :=
  (B ≤ p ∧ w.heap[p]? = some (.cells #[.slice a n c, .int .i64 (k : Int)] 27 (0, 0))) ∧ IntsAt B a n w
/-- What a maker leaves as it was: all below B, and all but its Seq. -/
def MkFr (B p : Nat) (w w' : World) : Prop := Below B w w' ∧ ∀ k o, w.heap[k]? = some o → k ≠ p → w'.heap[k]? = some o
theorem MkFr.trans {B p : Nat} {x y z : World} (h : MkFr B p x y) (k : MkFr B p y z) : MkFr B p x z := ⟨h.1.trans k.1, fun i o hi hp => k.2 i o (h.2 i o hi hp) hp⟩
theorem MkFr.of_below {B p : Nat} {w w' : World} (h : Below w.heap.size w w') (hB : B ≤ w.heap.size) : MkFr B p w w' := ⟨h.mono hB, fun k _ hk _ => (h.block k (Array.getElem?_eq_some_iff.1 hk).1).trans hk⟩
theorem IntsAt.keep {B : Nat} {a : Option Addr} {n : Nat} {w w' : World} (h : IntsAt B a n w) (hb : Below B w w') : IntsAt B a n w' := by
  rcases h with h | ⟨g, o, e, hg, hi⟩
  · exact .inl h
  · refine .inr ⟨g, o, e, hg, fun i h => ?_⟩
    obtain ⟨z, hz, r⟩ := hi i h
    exact ⟨z, (hb.cell (p := ⟨g, o + i, none⟩) hg).trans hz, r⟩
theorem SeqAt.below {B p : Nat} {a : Option Addr} {n c k : Nat} {w w' : World} (h : SeqAt B p a n c k w) (hb : Below w.heap.size w w') : SeqAt B p a n c k w' := by
  have hp := (Array.getElem?_eq_some_iff.1 h.1.2).1
  exact ⟨⟨h.1.1, (hb.block p hp).trans h.1.2⟩, h.2.keep (hb.mono (by have := h.1.1; omega))⟩
theorem SeqAt.lt {B p : Nat} {a : Option Addr} {n c k : Nat} {w : World} (h : SeqAt B p a n c k w) : p < w.heap.size := (Array.getElem?_eq_some_iff.1 h.1.2).1
theorem KeepT.of_mk {B p : Nat} {a : Option Addr} {n c k : Nat} {w w' : World} (h : MkFr B p w w') (hs : SeqAt B p a n c k w) : KeepT w w' := by
  intro i cs fz hi
  refine h.2 i _ hi fun e => ?_
  subst e
  have := hi.symm.trans hs.1.2
  simp at this

set_option maxHeartbeats 1000000 in
theorem next_any (B p : Nat) (a : Option Addr) (n c k m : Nat) (w : World) (h : SeqAt B p a n c k w) (hm0 : 0 < m) (hm : m ≤ 1000000) (hk : k < 1152921504606846976) (_ : n < 1152921504606846976) :
    Calls Tryz.prog 30 #[.pointer (some ⟨p, 0, none⟩), .int .i64 (m : Int)] w fun e w' => (∃ r : Nat, r < m ∧ e = .returned (.int .i64 (r : Int))) ∧ SeqAt B p a n c (k + 1) w' ∧ MkFr B p w w' := by
  obtain ⟨⟨hB, hp⟩, hi⟩ := h
  have c0 : w.cell? ⟨p, 0, none⟩ = some (.slice a n c) := by rw [Lib.cell_of_heap hp]; rfl
  have c1 : w.cell? ⟨p, 1, none⟩ = some (.int .i64 (k : Int)) := by rw [Lib.cell_of_heap hp]; rfl
  have f1 : w.frozen? ⟨p, 1, none⟩ = false := Lib.frozen_of_heap hp 1
  have HI := Lib.hid hi
  have HP := Lib.hid hp
  have HN := Lib.hid (fun z W h1 h2 => number_any z m W h1 h2 hm0 hm)
  clear hi hp
  have fin : ∀ W : World, Below B w W → (∀ i o, w.heap[i]? = some o → i ≠ p → W.heap[i]? = some o) → W.heap[p]? = some (.cells #[.slice a n c, .int .i64 ((k + 1 : Nat) : Int)] 27 (0, 0)) → SeqAt B p a n c (k + 1) W ∧ MkFr B p w W :=
    fun W hb ho h => ⟨⟨⟨hB, h⟩, HI.out.keep hb⟩, hb, ho⟩
  have HF := Lib.hid fin; clear fin
  by_cases hlt : k < n
  · have hlt' : ((k : Int) < (n : Int)) := by omega
    rcases HI.out with h0 | ⟨g, o, rfl, hg, hcell⟩
    · omega
    · obtain ⟨z, hz, hz1, hz2⟩ := hcell k hlt
      clear hcell
      go_enter Tryz.func30, Tryz.ntmps30
      go_wp2
      go_quiet (fail)
      go_wp2
      go_quiet (fail)
      go_wp2_with (go_at_call 58; refine (HN.out _ _ hz1 hz2).mono ?_)
      rintro e W2 ⟨r, hr, rfl, rfl⟩
      go_wp2
      go_ret
      refine ⟨⟨r, hr, rfl⟩, HF.out _ ?_ ?_ ?_⟩
      · exact (below_drewN (Below.refl _ _) _).setCell (p := ⟨p, 1, none⟩) hB _
      · intro i o' hi hip
        exact (Below.heap_setCell _ ⟨p, 1, none⟩ _ i hip).trans hi
      · exact (block_set (W := w.drewN _) (show (w.drewN _).heap[p]? = _ from HP.out) _)
  · have hlt' : ¬ ((k : Int) < (n : Int)) := by omega
    go_enter Tryz.func30, Tryz.ntmps30
    go_wp2
    go_quiet (fail)
    go_wp2_with (go_at_call 58; refine (HN.out 0 _ (by decide) (by decide)).mono ?_)
    rintro e W2 ⟨r, hr, rfl, rfl⟩
    go_wp2
    go_ret
    refine ⟨⟨r, hr, rfl⟩, HF.out _ ?_ ?_ ?_⟩
    · exact (below_drewN (Below.refl _ _) _).setCell (p := ⟨p, 1, none⟩) hB _
    · intro i o' hi hip
      exact (Below.heap_setCell _ ⟨p, 1, none⟩ _ i hip).trans hi
    · exact (block_set (W := w.drewN _) (show (w.drewN _).heap[p]? = _ from HP.out) _)
end Go.Proofs.YtdidgddcgjpokaaGreatDoor
/- The types that are made of numbers: good ones, of a bounded text. -/
namespace Go.Proofs.YtdidgddcgjpokaaGreatDoor
open Go.RowKit
attribute [local go_sem] Oper.semAt_some
attribute [local go_sem ↓] Go.wp_at_zero Go.wp_at_succ

theorem set3_cells {W : World} {r : Nat} {x0 y0 z0 : Value} {T : TypeId} (h : W.heap[r]? = some (.cells #[x0, y0, z0] T (0, 0))) (x y z : Value) :
    (((W.setCell ⟨r, 0, none⟩ x).setCell ⟨r, 1, none⟩ y).setCell ⟨r, 2, none⟩ z).cell? ⟨r, 0, none⟩ = some x ∧ (((W.setCell ⟨r, 0, none⟩ x).setCell ⟨r, 1, none⟩ y).setCell ⟨r, 2, none⟩ z).cell? ⟨r, 1, none⟩ = some y ∧
    (((W.setCell ⟨r, 0, none⟩ x).setCell ⟨r, 1, none⟩ y).setCell ⟨r, 2, none⟩ z).cell? ⟨r, 2, none⟩ = some z :=
  three_cells (block_set (o := 2) (block_set (o := 1) (block_set (o := 0) h x) y) z)
theorem good_var {n : ByteArray} {D : Nat} (h : n.data.toList ∈ T.vnames) (hs : n.size ≤ 4) (hD : 14 ≤ D) : T.Good (.var n) ∧ Fits (.var n) ∧ (T.text (.var n)).length + 10 ≤ D := by
  refine ⟨by rw [T.Good]; exact h, .mk _ (by simp [T.kids]) (by simp [T.kids]), ?_⟩
  rw [T.text, ← Lib.size_eq]; omega
theorem good_con0 {n : ByteArray} {D : Nat} (h : n.data.toList ∈ T.cnames) (hs : n.size ≤ 4) (hD : 14 ≤ D) : T.Good (.con n []) ∧ Fits (.con n []) ∧ (T.text (.con n [])).length + 10 ≤ D := by
  refine ⟨by rw [T.Good, T.Goods]; exact ⟨h, trivial⟩, .mk _ (by simp [T.kids]) (by simp [T.kids]), ?_⟩
  rw [T.text, T.texts, List.append_nil, ← Lib.size_eq]; omega
theorem br_len (b : Bool) (s : List UInt8) : (T.br b s).length ≤ s.length + 2 := by cases b <;> simp [T.br]
theorem arg_len (t : T) : (T.arg t).length ≤ (T.text t).length + 2 := br_len _ _
theorem good_con1 {n : ByteArray} {x : T} {D E : Nat} (h : n.data.toList ∈ T.cnames) (hs : n.size ≤ 4) (hx : T.Good x ∧ Fits x ∧ (T.text x).length + 10 ≤ D) (hE : 2 * D ≤ E) (_ : 14 ≤ D) : T.Good (.con n [x]) ∧ Fits (.con n [x]) ∧ (T.text (.con n [x])).length + 10 ≤ E := by
  refine ⟨by rw [T.Good, T.Goods, T.Goods]; exact ⟨h, hx.1, trivial⟩, .mk _ (by simp [T.kids]) (fun k hk => by simp [T.kids] at hk; subst hk; exact hx.2.1), ?_⟩
  have := arg_len x; have := hx.2.2
  rw [T.text, T.texts_cons, T.texts]
  simp only [List.length_append, List.length_cons, List.length_nil, ← Lib.size_eq]; omega
theorem good_con2 {n : ByteArray} {x y : T} {D E : Nat} (h : n.data.toList ∈ T.cnames) (hs : n.size ≤ 4) (hx : T.Good x ∧ Fits x ∧ (T.text x).length + 10 ≤ D) (hy : T.Good y ∧ Fits y ∧ (T.text y).length + 10 ≤ D) (hE : 2 * D ≤ E) : T.Good (.con n [x, y]) ∧ Fits (.con n [x, y]) ∧ (T.text (.con n [x, y])).length + 10 ≤ E := by
  refine ⟨by rw [T.Good, T.Goods, T.Goods, T.Goods]; exact ⟨h, hx.1, hy.1, trivial⟩, .mk _ (by simp [T.kids]) (fun k hk => by simp [T.kids] at hk; rcases hk with rfl | rfl; exact hx.2.1; exact hy.2.1), ?_⟩
  have := arg_len x; have := arg_len y; have := hx.2.2; have := hy.2.2
  rw [T.text, T.texts_cons, T.texts_cons, T.texts]
  simp only [List.length_append, List.length_cons, List.length_nil, ← Lib.size_eq]; omega
theorem good_fn {x y : T} {D E : Nat} (hx : T.Good x ∧ Fits x ∧ (T.text x).length + 10 ≤ D) (hy : T.Good y ∧ Fits y ∧ (T.text y).length + 10 ≤ D) (hE : 2 * D ≤ E) : T.Good (.fn x y) ∧ Fits (.fn x y) ∧ (T.text (.fn x y)).length + 10 ≤ E := by
  refine ⟨by rw [T.Good]; exact ⟨hx.1, hy.1⟩, .mk _ (by simp [T.kids]) (fun k hk => by simp [T.kids] at hk; rcases hk with rfl | rfl; exact hx.2.1; exact hy.2.1), ?_⟩
  have := br_len x.arrow x.text; have := hx.2.2; have := hy.2.2
  rw [T.text]
  simp only [List.length_append, List.length_cons, List.length_nil]; omega

end Go.Proofs.YtdidgddcgjpokaaGreatDoor
/- The types that are made of numbers: a level more. -/
namespace Go.Proofs.YtdidgddcgjpokaaGreatDoor
open Go.RowKit
attribute [local go_sem] Oper.semAt_some
attribute [local go_sem ↓] Go.wp_at_zero Go.wp_at_succ

theorem SeqAt.drew {B p : Nat} {a : Option Addr} {n c k : Nat} {w : World} (h : SeqAt B p a n c k w) : SeqAt B p a n c k w.drew := h
theorem MkFr.of_drew {B p : Nat} {w w' : World} (h : MkFr B p w.drew w') : MkFr B p w w' := ⟨⟨h.1.os, h.1.tape, h.1.output, h.1.size, h.1.block⟩, h.2⟩

end Go.Proofs.YtdidgddcgjpokaaGreatDoor
/- Types of depth three, of depth four, made of numbers. -/
namespace Go.Proofs.YtdidgddcgjpokaaGreatDoor
open Go.RowKit

end Go.Proofs.YtdidgddcgjpokaaGreatDoor
/- The document's Size; how long a type's text is. -/
namespace Go.Proofs.YtdidgddcgjpokaaGreatDoor
open Go.RowKit
attribute [local go_sem] Oper.semAt_some

theorem TysAt.part {w : World} {l : List T} {a : Option Addr} {c : Nat} (h : TysAt w (.slice a l.length c) l) (i : Nat) (hi : i < l.length) : ∃ g pa ca, a = some ⟨g, 0, none⟩ ∧ l.length ≤ c ∧ ∀ W, KeepT w W → (g < W.heap.size ∧ W.cell? ⟨g, i * 3, none⟩ = some (.int .i64 l[i].kind) ∧ W.cell? ⟨g, i * 3 + 1, none⟩ = some (.string l[i].name) ∧ W.cell? ⟨g, i * 3 + 2, none⟩ = some (.slice pa l[i].kids.length ca)) ∧ TysAt W (.slice pa l[i].kids.length ca) l[i].kids := by
  rcases h with ⟨h, _⟩ | ⟨g, cap, cs, fz, x, y, z, e, h1, h2, h3, h4⟩
  · rw [h] at hi; cases hi
  · cases e
    obtain ⟨c1, c2, c3⟩ := h3 i hi
    obtain ⟨e1, e2, ⟨pa, ca, e3⟩, e4⟩ := (h4 i hi).shape
    rw [e1] at c1; rw [e2] at c2; rw [e3] at c3 e4
    refine ⟨g, pa, ca, rfl, h2, fun W hk => ?_⟩
    have hW := hk _ _ _ h1
    refine ⟨⟨(Array.getElem?_eq_some_iff.1 hW).1, ?_, ?_, ?_⟩, e4.keep hk⟩
    · simp only [World.cell?, hW]; simpa using c1
    · simp only [World.cell?, hW]; simpa using c2
    · simp only [World.cell?, hW]; simpa using c3
theorem len_sizes' : ∀ l : List T, l.length ≤ tsizes l
  | [] => Nat.le_refl _
  | a :: l => by have := len_sizes' l; have := tsize_eq a; simp [tsizes]; omega
theorem size_mem' {k : T} : ∀ {l : List T}, k ∈ l → tsize k ≤ tsizes l
  | a :: l, h => by
    rw [tsizes]
    rcases List.mem_cons.1 h with rfl | h
    · omega
    · have := size_mem' h; omega
theorem tsizes_take (l : List T) (i : Nat) (h : i < l.length) : tsizes (l.take (i + 1)) = tsizes (l.take i) + tsize l[i] ∧ tsizes (l.take (i + 1)) ≤ tsizes l := by
  induction l generalizing i with
  | nil => simp at h
  | cons a l ih =>
    cases i with
    | zero => simp [tsizes]
    | succ i =>
      obtain ⟨h1, h2⟩ := ih i (by simpa using h)
      simp only [List.take_succ_cons, tsizes, List.getElem_cons_succ, h1]
      omega
theorem T.by_kids {P : T → Prop} (H : ∀ t : T, (∀ k ∈ t.kids, P k) → P t) (t : T) : P t := H t fun k _ => T.by_kids H k
termination_by SizeOf.sizeOf t
decreasing_by exact T.kid_size ‹_›
theorem vname_pos {n : ByteArray} (h : n.data.toList ∈ T.vnames) : 1 ≤ n.data.toList.length ∧ n.size ≤ 4 := by
  rw [Lib.size_eq]
  simp [T.vnames] at h
  rcases h with h | h | h <;> rw [h] <;> decide
theorem cname_pos {n : ByteArray} (h : n.data.toList ∈ T.cnames) : 1 ≤ n.data.toList.length ∧ n.size ≤ 4 := by
  rw [Lib.size_eq]
  simp [T.cnames] at h
  rcases h with h | h | h | h <;> rw [h] <;> decide
theorem br_ge (b : Bool) (s : List UInt8) : s.length ≤ (T.br b s).length := by
  unfold T.br; split <;> simp <;> omega
mutual
theorem size_text (t : T) (h : T.Good t) : tsize t ≤ (T.text t).length := by
  cases t with
  | var n => rw [T.Good] at h; rw [tsize, T.text]; exact (vname_pos h).1
  | con n l =>
    rw [T.Good] at h
    rw [tsize, T.text, List.length_append]
    have := (cname_pos h.1).1
    have := sizes_text l h.2
    omega
  | fn a b =>
    rw [T.Good] at h
    rw [tsize, T.text]
    have := size_text a h.1; have := size_text b h.2; have := br_ge a.arrow a.text
    simp only [List.length_append, List.length_cons, List.length_nil]
    omega
  | all n a => rw [T.Good] at h; exact h.elim
theorem sizes_text (l : List T) (h : T.Goods l) : tsizes l ≤ (T.texts l).length := by
  cases l with
  | nil => simp [tsizes]
  | cons a l =>
    rw [T.Goods] at h
    rw [tsizes, T.texts_cons]
    have := size_text a h.1; have := sizes_text l h.2; have := br_ge a.wide a.text
    simp only [List.length_append, List.length_cons, List.length_nil, T.arg]
    omega
end
end Go.Proofs.YtdidgddcgjpokaaGreatDoor
/- The chapter's example holds; rows that are written out. -/
namespace Go.Proofs.YtdidgddcgjpokaaGreatDoor
open Go.RowKit Go.Sort Go.Lib
attribute [local go_sem] Oper.semAt_some

theorem SubAt.shape {v : Value} {d : List PR} {w : World} (h : SubAt v d w) : ∃ a c, v = .slice a d.length c := by
  rcases h.1.1 with ⟨rfl, a, c, rfl, _⟩ | ⟨g, cap, rfl, _⟩
  · exact ⟨a, c, rfl⟩
  · exact ⟨_, _, rfl⟩
theorem fits_small {t : T} (h : tsize t ≤ 1000000000) : Fits t := by
  refine T.by_kids (P := fun t => tsize t ≤ 1000000000 → Fits t) (fun t H ht => ?_) t h
  obtain ⟨h1, h2⟩ := kids_small ht
  exact .mk t (by omega) (fun k hk => H k hk (h2 k hk))
theorem ty_cons (n : ByteArray) (x : PR) (l : List PR) : ty n (x :: l) = if x.n = n then x.t else ty n l := by
  unfold ty; rw [lk_cons]
  by_cases h : x.n = n
  · rw [if_pos h, if_pos h]; rfl
  · rw [if_neg h, if_neg h]
theorem ty_nil (n : ByteArray) : ty n [] = .var n := rfl
end Go.Proofs.YtdidgddcgjpokaaGreatDoor
/- subst.Of of a row that was made, of nothing too. -/
namespace Go.Proofs.YtdidgddcgjpokaaGreatDoor
open Go.RowKit Go.Sort Go.Lib
attribute [local go_sem] Oper.semAt_some

theorem clone_zero (a : Addr) (c : Nat) (ha : a.spot = none) (w : World) : Calls Tryz.prog 76 #[.slice (some a) 0 c] w fun e w' => (∃ x k, e = .returned (.slice (some x) 0 k)) ∧ Below w.heap.size w w' := by
  obtain ⟨b, o, s⟩ := a
  obtain rfl : s = none := ha
  obtain ⟨i0, hi, hz0, hz1, hz2⟩ := info_parts Tryz.infoPair
  have : Calls Tryz.prog 76 _ _ _ := AnyE.slices_Clone cloneLay i0 (.agg zeroP) 4 64 hi hz0 hz1 hz2 rfl (by decide) Tryz.sizeOf90 b o 0 c [] w rfl (by unfold maxLen; omega) (by omega) (fun j u h => by simp at h) (fun u h => nomatch h)
  refine this.mono ?_
  rintro e w' ⟨v, rfl, ho, hne, hb⟩
  rcases ho.2 with ⟨rfl, _⟩ | ⟨g, cap, cur, rfl, _⟩
  · exact absurd rfl hne
  · exact ⟨⟨_, cap, rfl⟩, hb⟩
theorem of_zero (a : Addr) (c : Nat) (ha : a.spot = none) (w : World) :
    Calls Tryz.prog 61 #[.slice (some a) 0 c] w fun e w' => (∃ v l, e = .returned (.agg #[v]) ∧ SubAt v l w' ∧ Made [] l) ∧ Below w.heap.size w w' := by
  have HB := Lib.hid (fun o => (Below.refl _ w).alloc (Nat.le_refl _) o)
  have HC := Lib.hid (fun W => clone_zero a c ha W)
  go_enter Tryz.func61, Tryz.ntmps61
  go_wp2_with (go_at_call 76; fail)
  refine (HC.out _).mono ?_
  rintro e w1 ⟨⟨x, k, rfl⟩, hb1⟩
  have hz1 : w.heap.size + 1 ≤ w1.heap.size := by have := hb1.size; simpa using this
  have b1 := (hb1.block w.heap.size (by simp)).trans (alloc_new w _)
  have HB1 := Lib.hid ((HB.out _).trans (hb1.mono (by simp)))
  have Hb1 := Lib.hid b1
  clear hb1 HC b1
  go_wp2_with (go_at_call 75; fail)
  refine (gather_none (some x) k _).mono ?_
  rintro e w2 ⟨rfl, hb⟩
  have b0 := (hb.block w.heap.size (by omega)).trans Hb1.out
  have hz2 : w1.heap.size ≤ w2.heap.size := hb.size
  have HB2 := Lib.hid (HB1.out.trans (hb.mono (by omega)))
  have y0 : w2.cell? ⟨w.heap.size, 0, none⟩ = some (.slice none 0 0) := by rw [Lib.cell_of_heap b0]; rfl
  have y1 := Lib.frozen_of_heap b0 0
  have l2 := (Array.getElem?_eq_some_iff.1 b0).1
  have Hb := Lib.hid b0
  clear hb b0 HB HB1 Hb1
  go_wp2
  refine wp_loop_rounds 1 ?_
  rw [rounds_succ]
  go_wp2
  have hs : ∀ o : Obj, ((w2.setCell ⟨w.heap.size, 0, none⟩ (.slice (some x) 0 k)).alloc o).heap[w.heap.size]? = some (.cells #[.slice (some x) 0 k] 73 (0, 0)) := fun o => by
    rw [Below.heap_alloc _ _ _ (by simpa using l2)]; exact blk_set (o := 0) Hb.out (.slice (some x) 0 k)
  have hc0 : ((w2.setCell ⟨w.heap.size, 0, none⟩ (.slice (some x) 0 k)).alloc (.cells #[.slice (some x) 0 k] 73)).cell? ⟨w.heap.size, 0, none⟩ = some (.slice (some x) 0 k) := by rw [Lib.cell_of_heap (hs _)]; rfl
  exact bodyPost_ret (v := .agg #[.slice (some x) 0 k]) (by simp [results, Tryz.results61, go_sem, hc0]) rfl ⟨⟨_, [], rfl, sub_nil _ _ _ (fun h => nomatch h), gath_nil.made (Copy.refl [])⟩, (HB2.out.setCell (p := ⟨w.heap.size, 0, none⟩) (Nat.le_refl _) _).alloc (by simp; omega) _⟩
theorem of_all (g cap : Nat) (d : List PR) (w : World) (h : RowP g d w) (ht : Typ d w) (hf : FitsAll d) (hz : SizedAll d) (hl : d.length < 20) :
    Calls Tryz.prog 61 #[.slice (some ⟨g, 0, none⟩) d.length cap] w fun e w' => (∃ v l, e = .returned (.agg #[v]) ∧ SubAt v l w' ∧ Made d l) ∧ Below w.heap.size w w' := by
  by_cases h0 : d = []
  · subst h0
    exact of_zero _ cap rfl w
  · exact of_some g cap d w h ht hf hz hl h0
end Go.Proofs.YtdidgddcgjpokaaGreatDoor
/- The free variables of a type: the finder's map and its row of names. -/
namespace Go.Proofs.YtdidgddcgjpokaaGreatDoor
open Go.RowKit Go.Maps
attribute [local go_sem] Oper.semAt_some

/-- How often a name is hidden. -/
noncomputable def inB (l : List ByteArray) (n : ByteArray) : Bool := l.any (fun x => eqB x n)
noncomputable def cntB (l : List ByteArray) (n : ByteArray) : Nat := (l.filter (fun x => eqB x n)).length
noncomputable def cnt (bd out : List ByteArray) (n : ByteArray) : Int := (cntB bd n : Int) + (if inB out n then 1 else 0)
theorem inB_iff {l : List ByteArray} {n : ByteArray} : inB l n = true ↔ n ∈ l := by
  simp only [inB, List.any_eq_true, eqB_iff]
  constructor
  · rintro ⟨x, hx, rfl⟩; exact hx
  · intro h; exact ⟨n, h, rfl⟩
theorem cntB_zero {l : List ByteArray} {n : ByteArray} : cntB l n = 0 ↔ ¬ n ∈ l := by
  simp only [cntB, List.length_eq_zero_iff, List.filter_eq_nil_iff, eqB_iff]
  constructor
  · intro h hn; exact h n hn rfl
  · rintro h x hx rfl; exact h hx
theorem cntB_le (l : List ByteArray) (n : ByteArray) : cntB l n ≤ l.length := List.length_filter_le _ _
theorem cnt_zero {bd out : List ByteArray} {n : ByteArray} : cnt bd out n = 0 ↔ ¬ (n ∈ bd ∨ n ∈ out) := by
  unfold cnt
  by_cases h : inB out n = true
  · have := inB_iff.1 h
    rw [if_pos h]
    constructor
    · intro e; omega
    · intro e; exact absurd (.inr this) e
  · have h' : ¬ n ∈ out := fun e => h (inB_iff.2 e)
    rw [if_neg h]
    constructor
    · intro e k
      rcases k with k | k
      · exact cntB_zero.1 (by omega) k
      · exact h' k
    · intro e
      have := cntB_zero.2 (fun k => e (.inl k))
      omega
theorem cnt_le (bd out : List ByteArray) (n : ByteArray) : 0 ≤ cnt bd out n ∧ cnt bd out n ≤ bd.length + 1 := by
  have := cntB_le bd n
  unfold cnt
  split <;> omega
theorem cnt_bind (bd out : List ByteArray) (n m : ByteArray) : cnt (n :: bd) out m = if m = n then cnt bd out n + 1 else cnt bd out m := by
  unfold cnt cntB
  by_cases h : m = n
  · subst h
    rw [if_pos rfl, List.filter_cons, if_pos (eqB_true rfl)]
    simp only [List.length_cons]
    omega
  · rw [if_neg h, List.filter_cons, if_neg (by rw [eqB_false (fun e => h e.symm)]; decide)]
theorem cnt_told {bd out : List ByteArray} {n : ByteArray} (hn : ¬ n ∈ out) (m : ByteArray) : cnt bd (out ++ [n]) m = if m = n then cnt bd out n + 1 else cnt bd out m := by
  unfold cnt
  have e : inB (out ++ [n]) m = (inB out m || eqB n m) := by simp [inB]
  rw [e]
  by_cases h : m = n
  · subst h
    have h1 : inB out m = false := by
      cases hb : inB out m with
      | false => rfl
      | true => exact absurd (inB_iff.1 hb) hn
    rw [if_pos rfl, h1, eqB_true rfl]
    simp
  · rw [if_neg h, eqB_false (fun e => h e.symm)]
    simp

theorem strLaw : Keyed Tryz.prog 9 := string_keyed Tryz.underlying9
theorem zeroInt (w : World) : (zeroValue 3).run Tryz.prog w = .ok (.int .i64 0) w := by kernel_rfl

/-- Block M is a map of at most m entries, which tells f. -/
def MapFn (M m : Nat) (f : ByteArray → Int) (w : World) : Prop := ∃ D : DataW Unit, IsMap D ∧ w.ownsMap Tryz.prog 9 (plainElem Tryz.prog 3) M m D ∧
  ∀ n : ByteArray, n.size ≤ maxLen → D.atKey (.string n.data.toList) (.lit (.int .i64 0)) = .lit (.int .i64 (f n))
theorem MapFn.look {M m : Nat} {f : ByteArray → Int} {w : World} (h : MapFn M m f w) (n : ByteArray) (hn : n.size ≤ maxLen) :
    (Instr.lookup 107 (.map (some M)) (.string n) false).run Tryz.prog w = .ok (.int .i64 (f n)) w := by
  obtain ⟨D, _, h1, h2⟩ := h
  obtain ⟨c, hrun, hat, _⟩ := h1.lookup_int strLaw Tryz.underlying107 Tryz.underlying3 (zeroInt w) (Go.WideMaps.keyOf_string_mk Tryz.underlying9 hn)
  rw [h2 n hn] at hat
  cases hat
  exact hrun
theorem MapFn.upd {M m : Nat} {f : ByteArray → Int} {w : World} (h : MapFn M m f w) (hm : m < maxLen) (n : ByteArray) (hn : n.size ≤ maxLen) (x : Int) (hx : (Lit.int .i64 x).wf = true) :
    ∃ w', (Instr.mapUpdate 107 (.map (some M)) (.string n) (.int .i64 x)).run Tryz.prog w = .ok () w' ∧ MapFn M (m + 1) (fun k => if k = n then x else f k) w' ∧ w.grownBy w' (some M) := by
  obtain ⟨D, hD, h1, h2⟩ := h
  obtain ⟨w', hrun, h3, h4⟩ := h1.update strLaw Tryz.underlying107 hm (Go.WideMaps.keyOf_string_mk Tryz.underlying9 hn) (plainElem_int Tryz.underlying3 hx)
  refine ⟨w', hrun, ⟨_, hD.put _ _, h3, fun k hk => ?_⟩, h4⟩
  by_cases e : k = n
  · subst e
    simp only [if_true]
    rw [atKey_put_same hD (by trivial)]
  · simp only [if_neg e]
    rw [atKey_put_other ?_, h2 k hk]
    intro e'
    apply e
    have : k.data.toList = n.data.toList := by injection e'
    cases k; cases n; simp_all
theorem MapFn.kept {M m : Nat} {f : ByteArray → Int} {w w' : World} {row : Option Nat} (h : MapFn M m f w) (hg : w.grownBy w' row) (hne : some M ≠ row) : MapFn M m f w' := by
  obtain ⟨D, hD, h1, h2⟩ := h
  exact ⟨D, hD, h1.kept hg hne, h2⟩
theorem MapFn.congr {M m : Nat} {f g : ByteArray → Int} {w : World} (h : MapFn M m f w) (e : ∀ n, f n = g n) : MapFn M m g w := by
  have : f = g := funext e
  subst this; exact h

theorem Tryz.infoStr : (Tryz.prog.info? 9).map (fun i => (i.zero, i.size, i.bytes)) = some (some (.string ⟨#[]⟩), 1, 16) := by kernel_rfl
/-- The finder at block p: its map tells f, its names. -/
structure FindAt (B p M K : Nat) (f : ByteArray → Int) (out : List ByteArray) (w : World) : Prop where
  bp : B ≤ p
  bm : B ≤ M
  fin : ∃ v, w.heap[p]? = some (.cells #[.map (some M), v] 109 (0, 0)) ∧ w.ownsRow B 9 1 v out.length (out.map Value.string)
  map : ∃ m, m ≤ K ∧ MapFn M m f w
theorem row_kept {w w' : World} {base : Nat} {e : TypeId} {size : Nat} {v : Value} {n : Nat} {xs : List Value} (h : w.ownsRow base e size v n xs) (hk : ∀ (k : Nat) (cs : Array Value) (fz : Nat × Nat), w.heap[k]? = some (.cells cs e fz) → w'.heap[k]? = some (.cells cs e fz)) : w'.ownsRow base e size v n xs := by
  refine ⟨h.1, ?_⟩
  rcases h.2 with h | ⟨g, cap, cur, rfl, hb, hg, r⟩
  · exact .inl h
  · exact .inr ⟨g, cap, cur, rfl, hb, hk g _ _ hg, r⟩
theorem row_slice {W : World} {base : Nat} {e : TypeId} {size : Nat} {v : Value} {n : Nat} {xs : List Value} (h : W.ownsRow base e size v n xs) : ∃ a c, v = .slice a n c := by
  rcases h.2 with ⟨rfl, rfl⟩ | ⟨g, cap, _, rfl, _⟩
  · exact ⟨_, _, rfl⟩
  · exact ⟨_, _, rfl⟩
theorem row_other {w w1 : World} {base : Nat} {e T : TypeId} {size : Nat} {v : Value} {n k : Nat} {xs : List Value} {cs : Array Value} {fz : Nat × Nat} (h : w.ownsRow base e size v n xs) (hg : w.grownBy w1 v.ownBlock) (hk : w.heap[k]? = some (.cells cs T fz)) (hT : T ≠ e) : w1.heap[k]? = some (.cells cs T fz) := by
  refine (hg.block k (Array.getElem?_eq_some_iff.1 hk).1 fun e => ?_).trans hk
  rcases h.2 with ⟨rfl, _⟩ | ⟨g, cap, cur, rfl, _, hgb, _⟩
  · cases e
  · obtain rfl : k = g := by simpa [Value.ownBlock] using e
    rw [hk] at hgb
    cases hgb
    exact hT rfl
theorem new_one (w : World) (x : Value) (t : TypeId) : ∀ j u, [x][j]? = some u → (w.alloc (.cells #[x] t)).cell? ((⟨w.heap.size, 0, none⟩ : Addr).add j) = some u := by
  intro j u hu
  have hadd : (⟨w.heap.size, 0, none⟩ : Addr).add j = ⟨w.heap.size, j, none⟩ := by unfold Addr.add; split <;> simp_all
  rw [hadd]
  have := alloc_new w (.cells #[x] t)
  simp only [World.cell?, this]
  match j, hu with
  | 0, hu => simpa using hu
  | n + 1, hu => simp at hu
theorem FindAt.below {B p M K : Nat} {f : ByteArray → Int} {out : List ByteArray} {w w' : World} (h : FindAt B p M K f out w) (hb : Below w.heap.size w w') : FindAt B p M K f out w' := by
  obtain ⟨h1, h2, ⟨v, h3, h4⟩, ⟨m, h5, h6⟩⟩ := h
  refine ⟨h1, h2, ⟨v, (hb.block p (Array.getElem?_eq_some_iff.1 h3).1).trans h3, row_kept h4 fun k cs fz hk => (hb.block k (Array.getElem?_eq_some_iff.1 hk).1).trans hk⟩, ⟨m, h5, h6.kept (row := none) ⟨hb.os, hb.tape, hb.output, hb.size, fun k hk _ => hb.block k hk⟩ (by simp)⟩⟩
theorem FindAt.alloc {B p M K : Nat} {f : ByteArray → Int} {out : List ByteArray} {w : World} (h : FindAt B p M K f out w) (o : Obj) : FindAt B p M K f out (w.alloc o) := h.below ((Below.refl _ w).alloc (Nat.le_refl _) o)
theorem FindAt.drewN {B p M K : Nat} {f : ByteArray → Int} {out : List ByteArray} {w : World} (h : FindAt B p M K f out w) (n : Nat) : FindAt B p M K f out (w.drewN n) := h.below (below_drewN (Below.refl _ _) _)
theorem FindAt.lt {B p M K : Nat} {f : ByteArray → Int} {out : List ByteArray} {w : World} (h : FindAt B p M K f out w) : p < w.heap.size ∧ M < w.heap.size := by
  obtain ⟨_, _, ⟨v, h3, _⟩, ⟨m, _, ⟨D, _, h6, _⟩⟩⟩ := h
  exact ⟨(Array.getElem?_eq_some_iff.1 h3).1, h6.lt⟩
theorem FindAt.mono {B p M K K' : Nat} {f : ByteArray → Int} {out : List ByteArray} {w : World} (h : FindAt B p M K f out w) (hK : K ≤ K') : FindAt B p M K' f out w := by
  obtain ⟨h1, h2, h3, ⟨m, h5, h6⟩⟩ := h
  exact ⟨h1, h2, h3, m, Nat.le_trans h5 hK, h6⟩
theorem FindAt.look {B p M K : Nat} {f : ByteArray → Int} {out : List ByteArray} {w : World} (h : FindAt B p M K f out w) (n : ByteArray) (hn : n.size ≤ 1000) :
    (Instr.lookup 107 (.map (some M)) (.string n) false).run Tryz.prog w = .ok (.int .i64 (f n)) w := by
  obtain ⟨_, _, _, ⟨m, _, h6⟩⟩ := h
  exact h6.look n (by unfold maxLen; omega)
theorem FindAt.c0 {B p M K : Nat} {f : ByteArray → Int} {out : List ByteArray} {w : World} (h : FindAt B p M K f out w) : w.cell? ⟨p, 0, none⟩ = some (.map (some M)) := by
  obtain ⟨_, _, ⟨v, h3, _⟩, _⟩ := h
  rw [Lib.cell_of_heap h3]; rfl
/-- A store into the map. -/
theorem FindAt.put {B p M K : Nat} {f g : ByteArray → Int} {out : List ByteArray} {w : World} (h : FindAt B p M K f out w) (hK : K < 2000000000) (n : ByteArray) (hn : n.size ≤ 1000) (x : Int) (hx : 0 ≤ x ∧ x ≤ 4000000000) (hf : ∀ m, (if m = n then x else f m) = g m) :
    ∃ w', (Instr.mapUpdate 107 (.map (some M)) (.string n) (.int .i64 x)).run Tryz.prog w = .ok () w' ∧ FindAt B p M (K + 1) g out w' ∧ (∀ (k : Nat) (cs : Array Value) (T : TypeId) (fz : Nat × Nat), w.heap[k]? = some (.cells cs T fz) → w'.heap[k]? = some (.cells cs T fz)) ∧ Below B w w' := by
  have hlt := h.lt
  obtain ⟨h1, h2, ⟨v, h3, h4⟩, ⟨m, h5, h6⟩⟩ := h
  obtain ⟨w', r1, r2, r3⟩ := h6.upd (by unfold maxLen; omega) n (by unfold maxLen; omega) x (WalkArith.wf_i64 (by omega))
  have hM : ∀ (k : Nat) (cs : Array Value) (T : TypeId) (fz : Nat × Nat), w.heap[k]? = some (.cells cs T fz) → w'.heap[k]? = some (.cells cs T fz) := fun k cs T fz hk => by
    refine (r3.block k (Array.getElem?_eq_some_iff.1 hk).1 fun e => ?_).trans hk
    cases e
    obtain ⟨D, _, ⟨es, clock, hh, _⟩, _⟩ := h6
    rw [hk] at hh; cases hh
  refine ⟨w', r1, ⟨h1, h2, ⟨v, hM _ _ _ _ h3, row_kept h4 fun k cs fz hk => hM _ _ _ _ hk⟩, ⟨m + 1, by omega, r2.congr hf⟩⟩, hM, ?_⟩
  exact ⟨r3.os, r3.tape, r3.output, r3.size, fun k hk => r3.block k (by omega) fun e => by cases e; omega⟩
/-- A name appended. -/
theorem FindAt.told {B p M K : Nat} {f : ByteArray → Int} {out : List ByteArray} {w w1 : World} {v v' : Value} {n : ByteArray} (h : FindAt B p M K f out w) (hv : w.heap[p]? = some (.cells #[.map (some M), v] 109 (0, 0))) (hown : w.ownsRow B 9 1 v out.length (out.map Value.string))
    (hown' : w1.ownsRow B 9 1 v' (out.length + 1) (out.map Value.string ++ [.string n])) (hg : w.grownBy w1 v.ownBlock) :
    FindAt B p M K f (out ++ [n]) (w1.setCell ⟨p, 1, none⟩ v') ∧ KeepT w (w1.setCell ⟨p, 1, none⟩ v') ∧ Below B w (w1.setCell ⟨p, 1, none⟩ v') := by
  have hlt := h.lt
  obtain ⟨h1, h2, _, ⟨m, h5, h6⟩⟩ := h
  have hne : ∀ (k : Nat) (o : Obj), w.heap[k]? = some o → (∀ cs fz, o ≠ .cells cs 9 fz) → w1.heap[k]? = some o := fun k o hk hT => by
    refine (hg.block k (Array.getElem?_eq_some_iff.1 hk).1 fun e => ?_).trans hk
    rcases hown.2 with ⟨rfl, _⟩ | ⟨g, cap, cur, rfl, _, hgb, _⟩
    · cases e
    · obtain rfl : k = g := by simpa [Value.ownBlock] using e
      rw [hk] at hgb
      cases hgb
      exact hT _ _ rfl
  have hp1 := hne p _ hv (fun cs fz e => by cases e)
  have hset : (w1.setCell ⟨p, 1, none⟩ v').heap[p]? = some (.cells #[.map (some M), v'] 109 (0, 0)) := by
    obtain ⟨hl, hk⟩ := Array.getElem?_eq_some_iff.1 hp1
    show (w1.heap.modify p _)[p]? = _
    rw [Array.getElem?_eq_getElem (by rw [Array.size_modify]; exact hl), Array.getElem_modify_self, hk]
    rfl
  have hoth : ∀ k, k ≠ p → (w1.setCell ⟨p, 1, none⟩ v').heap[k]? = w1.heap[k]? := fun k hk => Below.heap_setCell _ ⟨p, 1, none⟩ _ k hk
  refine ⟨⟨h1, h2, ⟨v', hset, ?_⟩, ⟨m, h5, ?_⟩⟩, ?_, ?_⟩
  · have : (out ++ [n]).map Value.string = out.map Value.string ++ [.string n] := by simp
    rw [this, List.length_append]
    refine row_kept hown' fun k cs fz hk => ?_
    by_cases e : k = p
    · subst e; rw [hp1] at hk; cases hk
    · exact (hoth k e).trans hk
  · obtain ⟨D, hD, ⟨es, clock, hh, r⟩, h2⟩ := h6
    have hMp : M ≠ p := fun e => by rw [e, hv] at hh; cases hh
    exact ⟨D, hD, ⟨es, clock, (hoth M hMp).trans (hne M _ hh (fun cs fz e => by cases e)), r⟩, h2⟩
  · intro k cs fz hk
    have : k ≠ p := fun e => by rw [e, hv] at hk; cases hk
    exact (hoth k this).trans (hne k _ hk (fun cs fz e => by cases e))
  · have hb : Below B w w1 := ⟨hg.os, hg.tape, hg.output, hg.size, fun k hk => hg.block k (by omega) fun e => by have := (hown.lt k e.symm).1; omega⟩
    exact hb.setCell (p := ⟨p, 1, none⟩) h1 _

def LookOK (t : T) : Prop := ∀ (B p M K : Nat) (bd out : List ByteArray) (a : Option Addr) (c : Nat) (w : World), FindAt B p M K (cnt bd out) out w → TysAt w (.slice a t.kids.length c) t.kids →
    K + 2 * tsize t ≤ 1000000000 → bd.length + tsize t ≤ 1000000000 → out.length + tsize t ≤ 1000000000 →
    Calls Tryz.prog 77 #[.pointer (some ⟨p, 0, none⟩), tyV t (.slice a t.kids.length c)] w fun e w' => e = .returned (.tuple #[]) ∧ FindAt B p M (K + 2 * tsize t) (cnt bd (fv bd out t)) (fv bd out t) w' ∧ KeepT w w' ∧ Below B w w'

/-- Names that are no longer than any here. -/
inductive Nm : T → Prop
  | mk (t : T) : t.name.size ≤ 1000 → (∀ k ∈ t.kids, Nm k) → Nm t

set_option maxHeartbeats 2000000 in
theorem look_seen (t : T) (hk : t.kind = 1) (h0 : t.kids = []) (hs : t.name.size ≤ 1000) (B p M K : Nat) (f : ByteArray → Int) (out : List ByteArray) (a : Option Addr) (c : Nat) (w : World) (hB : B ≤ w.heap.size) (h : FindAt B p M K f out w) (hc : ¬ f t.name = 0) :
    Calls Tryz.prog 77 #[.pointer (some ⟨p, 0, none⟩), tyV t (.slice a t.kids.length c)] w fun e w' => e = .returned (.tuple #[]) ∧ FindAt B p M K f out w' ∧ KeepT w w' ∧ Below B w w' := by
  have hl : t.kids.length = 0 := by rw [h0]; rfl
  rw [hl]
  simp only [tyV, hk]
  obtain ⟨hp, hM⟩ := h.lt
  have HF := Lib.hid h
  have hlk : ∀ (o : Obj) (n : Nat), (Instr.lookup 107 (.map (some M)) (.string t.name) false).run Tryz.prog ((w.alloc o).drewN n) = .ok (.int .i64 (f t.name)) ((w.alloc o).drewN n) := fun o n => ((h.alloc o).drewN n).look t.name hs
  have c0 := h.c0
  have hz : (f t.name == 0) = false := by simpa using hc
  have HE : Hid (∀ (o : Obj) (n : Nat), FindAt B p M K f out ((w.alloc o).drewN n) ∧ KeepT w ((w.alloc o).drewN n) ∧ Below B w ((w.alloc o).drewN n)) := Lib.hid fun o n => ⟨(h.alloc o).drewN n, fun k cs fz hk => keepT_alloc w o k cs fz hk, below_drewN ((Below.refl B w).alloc hB o) n⟩
  clear h hl hk h0 hc
  generalize f t.name = q at *
  go_enter Tryz.func77, Tryz.ntmps77
  go_wp2
  go_quiet (fail)
  go_wp2
  refine wp_loop_rounds 1 ?_
  rw [rounds_succ]; go_wp2
  go_end0
  exact ⟨rfl, HE.out _ _⟩

set_option maxHeartbeats 2000000 in
theorem look_told (t : T) (hk : t.kind = 1) (h0 : t.kids = []) (hs : t.name.size ≤ 1000) (B p M K : Nat) (f g : ByteArray → Int) (out : List ByteArray) (a : Option Addr) (c : Nat) (w : World) (hB : B ≤ w.heap.size) (h : FindAt B p M K f out w) (hc : f t.name = 0) (hK : K < 2000000000) (ho : out.length < 1000000000)
    (hg : ∀ m, (if m = t.name then 1 else f m) = g m) :
    Calls Tryz.prog 77 #[.pointer (some ⟨p, 0, none⟩), tyV t (.slice a t.kids.length c)] w fun e w' => e = .returned (.tuple #[]) ∧ FindAt B p M (K + 1) g (out ++ [t.name]) w' ∧ KeepT w w' ∧ Below B w w' := by
  have hl : t.kids.length = 0 := by rw [h0]; rfl
  rw [hl]
  simp only [tyV, hk]
  obtain ⟨hp, hM⟩ := h.lt
  have hlk : ∀ (o : Obj) (n : Nat), (Instr.lookup 107 (.map (some M)) (.string t.name) false).run Tryz.prog ((w.alloc o).drewN n) = .ok (.int .i64 0) ((w.alloc o).drewN n) := fun o n => by rw [← hc]; exact ((h.alloc o).drewN n).look t.name hs
  have c0 := h.c0
  have HE : Hid (∀ (o : Obj) (n : Nat), FindAt B p M K f out ((w.alloc o).drewN n) ∧ KeepT w ((w.alloc o).drewN n) ∧ Below B w ((w.alloc o).drewN n)) := Lib.hid fun o n => ⟨(h.alloc o).drewN n, fun k cs fz hk => keepT_alloc w o k cs fz hk, below_drewN ((Below.refl B w).alloc hB o) n⟩
  have HC := Lib.hid hc
  have HS := Lib.hid hs
  have HG := Lib.hid hg
  clear h hl hk h0 hc hg
  go_enter Tryz.func77, Tryz.ntmps77
  go_wp2
  go_quiet (fail)
  clear hlk c0
  go_wp2
  refine with_worldC (fun V => (FindAt B p M K f out V ∧ KeepT w V ∧ Below B w V) ∧ V.heap[w.heap.size]? = some (.cells #[.int .i64 1, .string t.name, .slice a 0 c] 31 (0, 0))) ⟨HE.out _ _, alloc_new w _⟩ ?_
  rintro V ⟨⟨hF, hKT, hBl⟩, hbox⟩
  obtain ⟨z0, z1, z2⟩ := three_cells hbox
  have c0 := hF.c0
  have hFd : FindAt B p M K f out V.drew := hF.drewN 1
  have hlk : (Instr.lookup 107 (.map (some M)) (.string t.name) false).run Tryz.prog V.drew = .ok (.int .i64 0) V.drew := by rw [← HC.out]; exact hFd.look t.name HS.out
  obtain ⟨V1, hup, hF1, hT1, hB1⟩ := hFd.put (g := g) hK t.name HS.out 1 (by omega) HG.out
  have HR := Lib.hid (⟨hKT, hBl, hF1, hT1, hB1⟩ : KeepT w V ∧ Below B w V ∧ FindAt B p M (K + 1) g out V1 ∧ (∀ (k : Nat) (cs : Array Value) (T : TypeId) (fz : Nat × Nat), V.drew.heap[k]? = some (.cells cs T fz) → V1.heap[k]? = some (.cells cs T fz)) ∧ Below B V.drew V1)
  have hbox1 := Lib.hid (hT1 _ _ _ _ hbox)
  clear hF hFd hKT hBl hF1 hT1 hB1 hbox
  go_region
  go_wp2
  obtain ⟨hKT, hBl, hF1, hT1, hB1⟩ := HR.out
  obtain ⟨v, hv, hown⟩ := hF1.fin
  obtain ⟨a1, cap1, rfl⟩ := row_slice hown
  have y0 : V1.cell? ⟨p, 1, none⟩ = some (.slice a1 out.length cap1) := by rw [Lib.cell_of_heap hv]; rfl
  obtain ⟨x0, x1, x2⟩ := three_cells hbox1.out
  have al : Hid (∀ (q : Addr) (x : Value) (o : Obj), V1.cell? q = some x → (V1.alloc o).cell? q = some x) := Lib.hid fun q x o h => (((Below.refl V1.heap.size V1).alloc (Nat.le_refl _) o).cell (World.block_lt_of_cell? _ _ h)).trans h
  have HO := Lib.hid (show ∀ o : Obj, (V1.drew.alloc o).ownsRow B 9 1 (.slice a1 out.length cap1) out.length (out.map Value.string) from fun o => row_kept hown fun k cs fz hk => (Below.heap_alloc V1.drew o k (Array.getElem?_eq_some_iff.1 hk).1).trans hk)
  have hlt1 : B ≤ V1.heap.size := Nat.le_trans hB (by have h1 := hBl.size; have h2 := hB1.size; simp at h2; omega)
  have HT := Lib.hid (fun (o : Obj) (w1 : World) (v' : Value) h1 h2 => ((hF1.drewN 1).alloc o).told (w1 := w1) (v' := v') (n := t.name) ((Below.heap_alloc V1.drew o p (Array.getElem?_eq_some_iff.1 hv).1).trans hv) (HO.out o) h1 h2)
  have HFr := Lib.hid (show ∀ (o : Obj) (w1 : World), (V1.drew.alloc o).grownBy w1 (Value.slice a1 out.length cap1).ownBlock → w1.heap[p]? = some (.cells #[.map (some M), .slice a1 out.length cap1] 109 (0, 0)) ∧ w1.heap[w.heap.size]? = some (.cells #[.int .i64 1, .string t.name, .slice a 0 c] 31 (0, 0)) from fun o w1 hg =>
    ⟨row_other (HO.out o) hg ((Below.heap_alloc V1.drew o p (Array.getElem?_eq_some_iff.1 hv).1).trans hv) (by decide), row_other (HO.out o) hg ((Below.heap_alloc V1.drew o _ (Array.getElem?_eq_some_iff.1 hbox1.out).1).trans hbox1.out) (by decide)⟩)
  obtain ⟨i0, hi, hz0, hz1, hz2⟩ := info_parts Tryz.infoStr
  have hgv : w.heap.size < V1.heap.size := (Array.getElem?_eq_some_iff.1 hbox1.out).1
  have hpv : p < V1.heap.size := (Array.getElem?_eq_some_iff.1 hv).1
  clear hown hv hF1 hT1 hB1 z0 z1 z2 c0 hup hlk
  go_region_law ((refine step_append_lies _ (by rfl) _ _ 23 (by rfl) B 9 i0 (.string ⟨#[]⟩) 1 16 Tryz.underlying23 hi hz0 hz1 hz2 rfl (by decide) _ out.length (out.map Value.string) (by rfl) (HO.out _) ⟨V1.heap.size, 0, none⟩ 1 1 [.string t.name] (by rfl) rfl (new_one _ _ _) (by simp [Value.oneCell']) (by decide) (by unfold maxLen; omega) (by omega) (by simp; omega) (V1.heap.size + 1) (by simp) ?_; intro g' cap' w1 hown1 hgrow hat hlt'; obtain ⟨hb1, hb2⟩ := HFr.out _ _ hgrow; have u0 : w1.cell? ⟨p, 1, none⟩ = some (.slice a1 out.length cap1) := (by rw [Lib.cell_of_heap hb1]; rfl); have u1 : w1.cell? ⟨w.heap.size, 1, none⟩ = some (.string t.name) := (by rw [Lib.cell_of_heap hb2]; rfl); have u2 := Lib.frozen_of_heap hb1 1; have u4 : w1.cell? ⟨w.heap.size, 0, none⟩ = some (.int .i64 1) := (by rw [Lib.cell_of_heap hb2]; rfl); have u5 : w1.cell? ⟨w.heap.size, 2, none⟩ = some (.slice a 0 c) := (by rw [Lib.cell_of_heap hb2]; rfl); have u3 : ∀ y : Value, (w1.setCell ⟨p, 1, none⟩ y).cell? ⟨w.heap.size, 1, none⟩ = some (.string t.name) := (fun y => (World.cell?_of_block (a := ⟨w.heap.size, 1, none⟩) (Below.heap_setCell w1 ⟨p, 1, none⟩ y w.heap.size (by show w.heap.size ≠ p; omega))).trans u1); have HH := Lib.hid (HT.out _ _ _ hown1 hgrow)))
  all_goals
    clear x0 x1 x2 y0 u0 u3 hb1 hb2 hgrow
    go_wp2
    refine wp_loop_rounds 1 ?_
    rw [rounds_succ]; go_wp2
    go_end0
    obtain ⟨k1, k2, k3⟩ := HH.out
    obtain ⟨hKT, hBl, hF1, hT1, hB1⟩ := HR.out
    exact ⟨rfl, k1, ((hKT.trans (fun k cs fz h => hT1 k cs _ fz h)).trans (keepT_alloc V1 _)).trans k2, ((below_drewN (hBl.drew.trans hB1) 1).alloc hlt1 _).trans k3⟩

theorem fvs_drop (bd out : List ByteArray) (l : List T) (i : Nat) (h : i < l.length) : fvs bd out (l.take (i + 1)) = fv bd (fvs bd out (l.take i)) l[i] := by
  induction l generalizing out i with
  | nil => simp at h
  | cons a l ih =>
    cases i with
    | zero => simp [fvs]
    | succ i =>
      simp only [List.take_succ_cons, fvs, List.getElem_cons_succ]
      exact ih _ i (by simpa using h)
mutual
theorem fv_len (t : T) (bd out : List ByteArray) : (fv bd out t).length ≤ out.length + tsize t := by
  cases t with
  | var n => rw [fv, tsize]; split <;> simp
  | con n l => rw [fv, tsize]; have := fvs_len l bd out; omega
  | fn a b => rw [fv, tsize]; have := fv_len a bd out; have := fv_len b bd (fv bd out a); omega
  | all n a => rw [fv, tsize]; have := fv_len a (n :: bd) out; omega
theorem fvs_len (l : List T) (bd out : List ByteArray) : (fvs bd out l).length ≤ out.length + tsizes l := by
  cases l with
  | nil => rw [fvs]; omega
  | cons a l => rw [fvs, tsizes]; have := fv_len a bd out; have := fvs_len l bd (fv bd out a); omega
end

set_option maxHeartbeats 2000000 in
theorem look_plain (t : T) (H : ∀ k ∈ t.kids, LookOK k) (hk1 : ¬ t.kind = 1) (hk4 : ¬ t.kind = 4) (B p M K : Nat) (bd out : List ByteArray) (a : Option Addr) (c : Nat) (w : World) (hB : B ≤ w.heap.size) (h : FindAt B p M K (cnt bd out) out w) (ht : TysAt w (.slice a t.kids.length c) t.kids)
    (hK : K + 2 * tsize t ≤ 1000000000) (hbd : bd.length + tsize t ≤ 1000000000) (ho : out.length + tsize t ≤ 1000000000) :
    Calls Tryz.prog 77 #[.pointer (some ⟨p, 0, none⟩), tyV t (.slice a t.kids.length c)] w fun e w' => e = .returned (.tuple #[]) ∧ FindAt B p M (K + 2 * tsizes t.kids) (cnt bd (fvs bd out t.kids)) (fvs bd out t.kids) w' ∧ KeepT w w' ∧ Below B w w' := by
  have q1 : (t.kind == 1) = false := by simpa using hk1
  have q4 : (t.kind == 4) = false := by simpa using hk4
  have hz := tsize_eq t
  have hlen := len_sizes' t.kids
  have HE : Hid (∀ (o : Obj) (n : Nat), FindAt B p M K (cnt bd out) out ((w.alloc o).drewN n) ∧ KeepT w ((w.alloc o).drewN n) ∧ Below B w ((w.alloc o).drewN n)) := Lib.hid fun o n => ⟨(h.alloc o).drewN n, fun k cs fz hk => keepT_alloc w o k cs fz hk, below_drewN ((Below.refl B w).alloc hB o) n⟩
  have HR : Hid (∀ i (hi : i < t.kids.length), ∃ g pa ca, a = some ⟨g, 0, none⟩ ∧ t.kids.length ≤ c ∧ ∀ W, KeepT w W → (g < W.heap.size ∧ W.cell? ⟨g, i * 3, none⟩ = some (.int .i64 t.kids[i].kind) ∧ W.cell? ⟨g, i * 3 + 1, none⟩ = some (.string t.kids[i].name) ∧ W.cell? ⟨g, i * 3 + 2, none⟩ = some (.slice pa t.kids[i].kids.length ca)) ∧ TysAt W (.slice pa t.kids[i].kids.length ca) t.kids[i].kids) := Lib.hid fun i hi => ht.part i hi
  have HS := Lib.hid H
  clear H h ht hk1 hk4
  simp only [tyV]
  go_enter Tryz.func77, Tryz.ntmps77
  go_wp2
  go_quiet (fail)
  go_wp2
  go_loopw [52] (fun vi wr => ∃ i : Nat, i ≤ t.kids.length ∧ vi = .int .i64 i ∧ Hid (FindAt B p M (K + 2 * tsizes (t.kids.take i)) (cnt bd (fvs bd out (t.kids.take i))) (fvs bd out (t.kids.take i)) wr ∧ KeepT w wr ∧ Below B w wr) ∧
      wr.heap[w.heap.size]? = some (.cells #[.int .i64 t.kind, .string t.name, .slice a t.kids.length c] 31 (0, 0))) (fun vi _ => t.kids.length - (intOf vi).toNat)
  case atStart => exact ⟨0, Nat.zero_le _, rfl, Lib.hid (by simpa [fvs, tsizes] using HE.out _ _), alloc_new w _⟩
  case round =>
    obtain ⟨i, hi, rfl, hF, hbox⟩ := hrel
    by_cases hlt : i < t.kids.length
    · obtain ⟨g, pa, ca, rfl, hcap, hr⟩ := HR.out i hlt
      obtain ⟨hF1, hKT, hBl⟩ := hF.out
      obtain ⟨⟨hg, x0, x1, x2⟩, xk⟩ := hr wr hKT
      have hsz := tsizes_take t.kids i hlt
      have hl1 := fvs_len (t.kids.take i) bd out
      have hkk := size_mem' (List.getElem_mem hlt)
      have hBw : B ≤ wr.heap.size := Nat.le_trans hB hBl.size
      have HC := Lib.hid (fun o => HS.out t.kids[i] (List.getElem_mem hlt) B p M (K + 2 * tsizes (t.kids.take i)) bd (fvs bd out (t.kids.take i)) pa ca (wr.alloc o) (hF1.alloc o) (xk.keep (keepT_alloc wr o)) (by omega) (by omega) (by omega))
      rw [← fvs_drop bd out t.kids i hlt, show K + 2 * tsizes (t.kids.take i) + 2 * tsize t.kids[i] = K + 2 * tsizes (t.kids.take (i + 1)) by omega] at HC
      have HX := Lib.hid (fun (o : Obj) (W : World) (h1 : KeepT (wr.alloc o) W) (h2 : Below B (wr.alloc o) W) => (⟨(hKT.trans (keepT_alloc wr o)).trans h1, (hBl.alloc hBw o).trans h2⟩ : KeepT w W ∧ Below B w W))
      have HXB := Lib.hid (fun (o : Obj) (W : World) (h1 : KeepT (wr.alloc o) W) => h1 _ _ _ ((Below.heap_alloc wr o _ (Array.getElem?_eq_some_iff.1 hbox).1).trans hbox))
      clear hr hF hF1 xk hBl hsz hl1 hkk HS HR HE hbox
      generalize t.kids[i] = u at x0 x1 x2 HC
      simp only [tyV] at HC
      have hlt1 : ((i : Int) < (t.kids.length : Int)) := by omega
      go_wp2_with (go_at_call 77; refine (HC.out _).mono ?_; rintro e w2 ⟨rfl, r1, r2, r3⟩; have HW2 := Lib.hid (And.intro r1 (HX.out _ _ r2 r3)); have HB2 := Lib.hid (HXB.out _ _ r2); clear r1 r2 r3)
      refine ⟨⟨i + 1, by omega, by go_num, HW2, HB2.out⟩, ?_⟩
      simp [intOf]; omega
    · obtain rfl : i = t.kids.length := by omega
      obtain ⟨z0, z1, z2⟩ := three_cells hbox
      rw [List.take_length] at hF
      clear hbox
      go_wp2
      go_end0
      exact ⟨rfl, hF.out⟩
set_option maxHeartbeats 2000000 in
theorem look_all (t : T) (H : ∀ k ∈ t.kids, LookOK k) (hk4 : t.kind = 4) (hs : t.name.size ≤ 1000) (B p M K : Nat) (bd out : List ByteArray) (a : Option Addr) (c : Nat) (w : World) (hB : B ≤ w.heap.size) (h : FindAt B p M K (cnt bd out) out w) (ht : TysAt w (.slice a t.kids.length c) t.kids)
    (hK : K + 2 * tsize t ≤ 1000000000) (hbd : bd.length + tsize t ≤ 1000000000) (ho : out.length + tsize t ≤ 1000000000) :
    Calls Tryz.prog 77 #[.pointer (some ⟨p, 0, none⟩), tyV t (.slice a t.kids.length c)] w fun e w' => e = .returned (.tuple #[]) ∧ FindAt B p M (K + 1 + 2 * tsizes t.kids + 1) (cnt bd (fvs (t.name :: bd) out t.kids)) (fvs (t.name :: bd) out t.kids) w' ∧ KeepT w w' ∧ Below B w w' := by
  have hz := tsize_eq t
  have hlen := len_sizes' t.kids
  have HE : Hid (∀ (o : Obj) (n : Nat), FindAt B p M K (cnt bd out) out ((w.alloc o).drewN n) ∧ KeepT w ((w.alloc o).drewN n) ∧ Below B w ((w.alloc o).drewN n)) := Lib.hid fun o n => ⟨(h.alloc o).drewN n, fun k cs fz hk => keepT_alloc w o k cs fz hk, below_drewN ((Below.refl B w).alloc hB o) n⟩
  have HR : Hid (∀ i (hi : i < t.kids.length), ∃ g pa ca, a = some ⟨g, 0, none⟩ ∧ t.kids.length ≤ c ∧ ∀ W, KeepT w W → (g < W.heap.size ∧ W.cell? ⟨g, i * 3, none⟩ = some (.int .i64 t.kids[i].kind) ∧ W.cell? ⟨g, i * 3 + 1, none⟩ = some (.string t.kids[i].name) ∧ W.cell? ⟨g, i * 3 + 2, none⟩ = some (.slice pa t.kids[i].kids.length ca)) ∧ TysAt W (.slice pa t.kids[i].kids.length ca) t.kids[i].kids) := Lib.hid fun i hi => ht.part i hi
  have HS := Lib.hid H
  have HN := Lib.hid hs
  clear H h ht hs
  simp only [tyV, hk4]
  go_enter Tryz.func77, Tryz.ntmps77
  go_wp2
  go_quiet (fail)
  go_wp2
  refine with_worldC (fun V => (FindAt B p M K (cnt bd out) out V ∧ KeepT w V ∧ Below B w V) ∧ V.heap[w.heap.size]? = some (.cells #[.int .i64 4, .string t.name, .slice a t.kids.length c] 31 (0, 0))) ⟨HE.out _ _, alloc_new w _⟩ ?_
  rintro V ⟨⟨hF, hKT, hBl⟩, hbox⟩
  obtain ⟨z0, z1, z2⟩ := three_cells hbox
  have c0 := hF.c0
  have hFd : FindAt B p M K (cnt bd out) out V.drew := hF.drewN 1
  have hlk := hFd.look t.name HN.out
  have hq := cnt_le bd out t.name
  obtain ⟨V1, hup, hF1, hT1, hB1⟩ := hFd.put (g := cnt (t.name :: bd) out) (by omega) t.name HN.out (cnt bd out t.name + 1) (by omega) (fun m => (cnt_bind bd out t.name m).symm)
  generalize cnt bd out t.name = q at hlk hq hup
  obtain ⟨hq0, hq1⟩ := hq
  have HV1 := Lib.hid (⟨hF1, hKT.trans (fun k cs fz h => hT1 k cs _ fz h), hBl.drew.trans hB1⟩ : FindAt B p M (K + 1) (cnt (t.name :: bd) out) out V1 ∧ KeepT w V1 ∧ Below B w V1)
  have hbox1 := hT1 _ _ _ _ hbox
  obtain ⟨y0, y1, y2⟩ := three_cells hbox1
  have HBox := Lib.hid hbox1
  clear hF hFd hKT hBl hF1 hT1 hB1 hbox hbox1 HE
  go_region
  clear hlk hup z0 z1 z2 c0
  go_wp2
  go_loopw [52] (fun vi wr => ∃ i : Nat, i ≤ t.kids.length ∧ vi = .int .i64 i ∧ Hid (FindAt B p M (K + 1 + 2 * tsizes (t.kids.take i)) (cnt (t.name :: bd) (fvs (t.name :: bd) out (t.kids.take i))) (fvs (t.name :: bd) out (t.kids.take i)) wr ∧ KeepT w wr ∧ Below B w wr) ∧
      wr.heap[w.heap.size]? = some (.cells #[.int .i64 4, .string t.name, .slice a t.kids.length c] 31 (0, 0))) (fun vi _ => t.kids.length - (intOf vi).toNat)
  case atStart => exact ⟨0, Nat.zero_le _, rfl, Lib.hid (by simpa [fvs, tsizes] using HV1.out), HBox.out⟩
  case round =>
    obtain ⟨i, hi, rfl, hF, hbox⟩ := hrel
    by_cases hlt : i < t.kids.length
    · obtain ⟨g, pa, ca, rfl, hcap, hr⟩ := HR.out i hlt
      obtain ⟨hF1, hKT, hBl⟩ := hF.out
      obtain ⟨⟨hg, x0, x1, x2⟩, xk⟩ := hr wr hKT
      have hsz := tsizes_take t.kids i hlt
      have hl1 := fvs_len (t.kids.take i) (t.name :: bd) out
      have hkk := size_mem' (List.getElem_mem hlt)
      have hBw : B ≤ wr.heap.size := Nat.le_trans hB hBl.size
      have HC := Lib.hid (fun o => HS.out t.kids[i] (List.getElem_mem hlt) B p M (K + 1 + 2 * tsizes (t.kids.take i)) (t.name :: bd) (fvs (t.name :: bd) out (t.kids.take i)) pa ca (wr.alloc o) (hF1.alloc o) (xk.keep (keepT_alloc wr o)) (by omega) (by simp only [List.length_cons]; omega) (by omega))
      rw [← fvs_drop (t.name :: bd) out t.kids i hlt, show K + 1 + 2 * tsizes (t.kids.take i) + 2 * tsize t.kids[i] = K + 1 + 2 * tsizes (t.kids.take (i + 1)) by omega] at HC
      have HX := Lib.hid (fun (o : Obj) (W : World) (h1 : KeepT (wr.alloc o) W) (h2 : Below B (wr.alloc o) W) => (⟨(hKT.trans (keepT_alloc wr o)).trans h1, (hBl.alloc hBw o).trans h2⟩ : KeepT w W ∧ Below B w W))
      have HXB := Lib.hid (fun (o : Obj) (W : World) (h1 : KeepT (wr.alloc o) W) => h1 _ _ _ ((Below.heap_alloc wr o _ (Array.getElem?_eq_some_iff.1 hbox).1).trans hbox))
      clear hr hF hF1 xk hBl hsz hl1 hkk HS HR hbox
      generalize t.kids[i] = u at x0 x1 x2 HC
      simp only [tyV] at HC
      have hlt1 : ((i : Int) < (t.kids.length : Int)) := by omega
      go_wp2_with (go_at_call 77; refine (HC.out _).mono ?_; rintro e w2 ⟨rfl, r1, r2, r3⟩; have HW2 := Lib.hid (And.intro r1 (HX.out _ _ r2 r3)); have HB2 := Lib.hid (HXB.out _ _ r2); clear r1 r2 r3)
      refine ⟨⟨i + 1, by omega, by go_num, HW2, HB2.out⟩, ?_⟩
      simp [intOf]; omega
    · obtain rfl : i = t.kids.length := by omega
      obtain ⟨z0, z1, z2⟩ := three_cells hbox
      rw [List.take_length] at hF
      obtain ⟨hF1, hKT, hBl⟩ := hF.out
      have c0 := hF1.c0
      have hFd : FindAt B p M _ _ _ wr.drew := hF1.drewN 1
      have hlk := hFd.look t.name HN.out
      have hq := cnt_le (t.name :: bd) (fvs (t.name :: bd) out t.kids) t.name
      simp only [List.length_cons] at hq
      have e1 := cnt_bind bd (fvs (t.name :: bd) out t.kids)
      have e2 := (cnt_le bd (fvs (t.name :: bd) out t.kids) t.name).1
      have e3 := e1 t.name t.name
      rw [if_pos rfl] at e3
      obtain ⟨V2, hup, hF2, hT2, hB2⟩ := hFd.put (g := cnt bd (fvs (t.name :: bd) out t.kids)) (by omega) t.name HN.out (cnt (t.name :: bd) (fvs (t.name :: bd) out t.kids) t.name - 1) (by omega) (fun m => by
        rw [e3, e1 t.name m]
        split
        · rename_i h; rw [h]; omega
        · rfl)
      have HV2 := Lib.hid (⟨hF2, hKT.trans (fun k cs fz h => hT2 k cs _ fz h), hBl.drew.trans hB2⟩ : FindAt B p M (K + 1 + 2 * tsizes t.kids + 1) (cnt bd (fvs (t.name :: bd) out t.kids)) (fvs (t.name :: bd) out t.kids) V2 ∧ KeepT w V2 ∧ Below B w V2)
      generalize cnt (t.name :: bd) (fvs (t.name :: bd) out t.kids) t.name = q' at hlk hq hup e3
      obtain ⟨hq2, hq3⟩ := hq
      have hq4 : 1 ≤ q' := by omega
      clear hbox hF hF1 hKT hBl hFd e1 e2 e3 hF2 hT2 hB2
      go_wp2
      go_region
      go_end0
      exact ⟨rfl, HV2.out⟩
end Go.Proofs.YtdidgddcgjpokaaGreatDoor
/- types.Vars: the free variables of a row of types. -/
namespace Go.Proofs.YtdidgddcgjpokaaGreatDoor
open Go.RowKit Go.Maps
attribute [local go_sem] Oper.semAt_some

theorem Nm.name {t : T} (h : Nm t) : t.name.size ≤ 1000 := by cases h; assumption
theorem Nm.kid {t k : T} (h : Nm t) (hk : k ∈ t.kids) : Nm k := by cases h with | mk _ _ h => exact h k hk

theorem look_var (n : ByteArray) (hn : n.size ≤ 1000) : LookOK (.var n) := by
  intro B p M K bd out a c w h ht hK hbd ho
  have hB : B ≤ w.heap.size := Nat.le_trans h.bp (Nat.le_of_lt h.lt.1)
  have hz : tsize (.var n) = 1 := by simp [tsize]
  rw [hz] at hK hbd ho
  by_cases hc : cnt bd out n = 0
  · have hno := cnt_zero.1 hc
    have e : fv bd out (.var n) = out ++ [n] := by rw [fv, if_neg hno]
    rw [e]
    refine (look_told (.var n) rfl rfl hn B p M K (cnt bd out) (cnt bd (out ++ [n])) out a c w hB h hc (by omega) (by omega) (fun m => ?_)).mono fun e w' ⟨h1, h2, h3, h4⟩ => ⟨h1, h2.mono (by omega), h3, h4⟩
    rw [cnt_told (fun hx => hno (.inr hx)), hc]
    rfl
  · have hyes : n ∈ bd ∨ n ∈ out := Classical.byContradiction fun hx => hc (cnt_zero.2 hx)
    have e : fv bd out (.var n) = out := by rw [fv, if_pos hyes]
    rw [e]
    exact (look_seen (.var n) rfl rfl hn B p M K (cnt bd out) out a c w hB h hc).mono fun e w' ⟨h1, h2, h3, h4⟩ => ⟨h1, h2.mono (by omega), h3, h4⟩
theorem look_ok (t : T) (hn : Nm t) : LookOK t := by
  have H : ∀ k ∈ t.kids, LookOK k := fun k hk => look_ok k (hn.kid hk)
  have hz := tsize_eq t
  cases t with
  | var n => exact look_var n hn.name
  | con n l =>
    intro B p M K bd out a c w h ht hK hbd ho
    have hB : B ≤ w.heap.size := Nat.le_trans h.bp (Nat.le_of_lt h.lt.1)
    rw [fv]
    exact (look_plain (.con n l) H (by simp [T.kind]) (by simp [T.kind]) B p M K bd out a c w hB h ht hK hbd ho).mono fun e w' ⟨h1, h2, h3, h4⟩ => ⟨h1, h2.mono (by omega), h3, h4⟩
  | fn x y =>
    intro B p M K bd out a c w h ht hK hbd ho
    have hB : B ≤ w.heap.size := Nat.le_trans h.bp (Nat.le_of_lt h.lt.1)
    have e : fv bd out (.fn x y) = fvs bd out (T.fn x y).kids := by simp [fv, T.kids, fvs]
    rw [e]
    exact (look_plain (.fn x y) H (by simp [T.kind]) (by simp [T.kind]) B p M K bd out a c w hB h ht hK hbd ho).mono fun e w' ⟨h1, h2, h3, h4⟩ => ⟨h1, h2.mono (by omega), h3, h4⟩
  | all n x =>
    intro B p M K bd out a c w h ht hK hbd ho
    have hB : B ≤ w.heap.size := Nat.le_trans h.bp (Nat.le_of_lt h.lt.1)
    have e : fv bd out (.all n x) = fvs ((T.all n x).name :: bd) out (T.all n x).kids := by simp [fv, T.kids, fvs, T.name]
    rw [e]
    exact (look_all (.all n x) H rfl hn.name B p M K bd out a c w hB h ht hK hbd ho).mono fun e w' ⟨h1, h2, h3, h4⟩ => ⟨h1, h2.mono (by omega), h3, h4⟩
termination_by SizeOf.sizeOf t
decreasing_by exact T.kid_size hk

/-- v is a slice of the texts l. -/
def TextsAt (w : World) (v : Value) (l : List ByteArray) : Prop :=
  ∃ a cap, v = .slice a l.length cap ∧ (l = [] ∨ ∃ g, a = some ⟨g, 0, none⟩ ∧ l.length ≤ cap ∧ ∃ cs fz, w.heap[g]? = some (.cells cs 9 fz) ∧ ∀ i (h : i < l.length), cs[i]? = some (.string l[i]))
theorem TextsAt.keep {w w' : World} {v : Value} {l : List ByteArray} (h : TextsAt w v l) (hk : ∀ (k : Nat) (cs : Array Value) (fz : Nat × Nat), w.heap[k]? = some (.cells cs 9 fz) → w'.heap[k]? = some (.cells cs 9 fz)) : TextsAt w' v l := by
  obtain ⟨a, cap, rfl, h⟩ := h
  refine ⟨a, cap, rfl, ?_⟩
  rcases h with h | ⟨g, e, hc, cs, fz, hg, hi⟩
  · exact .inl h
  · exact .inr ⟨g, e, hc, cs, fz, hk _ _ _ hg, hi⟩
theorem TextsAt.of_row {W : World} {base : Nat} {v : Value} {l : List ByteArray} (h : W.ownsRow base 9 1 v l.length (l.map Value.string)) : TextsAt W v l := by
  rcases h.2 with ⟨rfl, h0⟩ | ⟨g, cap, cur, rfl, _, hg, hc, hm, hcs, htk⟩
  · have : l = [] := List.length_eq_zero_iff.1 h0
    subst this
    exact ⟨none, 0, rfl, .inl rfl⟩
  · refine ⟨_, cap, rfl, .inr ⟨g, rfl, hc, cur, _, hg, fun i hi => ?_⟩⟩
    have e : (cur.toList.take (l.length * 1))[i]? = (l.map Value.string)[i]? := by rw [htk]
    rw [List.getElem?_take, if_pos (by omega), Array.getElem?_toList] at e
    simpa [hi] using e
theorem find_start (w : World) : FindAt w.heap.size (w.heap.size + 1) w.heap.size 0 (cnt [] []) [] ((w.alloc (.map #[] 0)).alloc (.cells #[.map (some w.heap.size), .slice none 0 0] 109)) := by
  refine ⟨by omega, Nat.le_refl _, ⟨.slice none 0 0, by have := alloc_new (w.alloc (.map #[] 0)) (.cells #[.map (some w.heap.size), .slice none 0 0] 109); simpa using this, ?_⟩, ⟨0, Nat.le_refl _, .map [], isMap_empty, ?_, fun n _ => ?_⟩⟩
  · exact ⟨by simp, .inl ⟨rfl, rfl⟩⟩
  · exact (World.ownsMap_made w Tryz.prog 9 _).alloc _
  · simp [DataW.atKey, cnt, cntB, inB]

set_option maxHeartbeats 2000000 in
theorem vars_any (l : List T) (hn : ∀ k ∈ l, Nm k) (hs : tsizes l ≤ 100000000) (a : Option Addr) (c : Nat) (w : World) (ht : TysAt w (.slice a l.length c) l) :
    Calls Tryz.prog 64 #[.slice a l.length c] w fun e w' => (∃ v, e = .returned v ∧ TextsAt w' v (fvs [] [] l)) ∧ KeepT w w' ∧ Below w.heap.size w w' := by
  have hlen := len_sizes' l
  have HF := Lib.hid (find_start w)
  have HB0 := Lib.hid (show ∀ o1 o2 : Obj, KeepT w ((w.alloc o1).alloc o2) ∧ Below w.heap.size w ((w.alloc o1).alloc o2) from fun o1 o2 => ⟨(keepT_alloc w o1).trans (keepT_alloc _ o2), ((Below.refl _ w).alloc (Nat.le_refl _) _).alloc (by simp) _⟩)
  have HR := Lib.hid ht.part
  have HS := Lib.hid (fun k (hk : k ∈ l) => look_ok k (hn k hk))
  clear hn ht
  have hmm := @run_makeMap Tryz.prog
  go_enter Tryz.func64, Tryz.ntmps64
  go_wp2
  go_loopw [10] (fun vi wr => ∃ i : Nat, i ≤ l.length ∧ vi = .int .i64 i ∧ Hid (FindAt w.heap.size (w.heap.size + 1) w.heap.size (2 * tsizes (l.take i)) (cnt [] (fvs [] [] (l.take i))) (fvs [] [] (l.take i)) wr ∧ KeepT w wr ∧ Below w.heap.size w wr)) (fun vi _ => l.length - (intOf vi).toNat)
  case atStart => exact ⟨0, Nat.zero_le _, rfl, Lib.hid (by simpa [fvs, tsizes] using ⟨HF.out, HB0.out _ _⟩)⟩
  case round =>
    obtain ⟨i, hi, rfl, hF⟩ := hrel
    by_cases hlt : i < l.length
    · obtain ⟨g, pa, ca, rfl, hcap, hr⟩ := HR.out i hlt
      obtain ⟨hF1, hKT, hBl⟩ := hF.out
      obtain ⟨⟨hg, x0, x1, x2⟩, xk⟩ := hr wr hKT
      have hsz := tsizes_take l i hlt
      have hl1 := fvs_len (l.take i) [] []
      have hkk := size_mem' (List.getElem_mem hlt)
      have hBw : w.heap.size ≤ wr.heap.size := hBl.size
      have HC := Lib.hid (fun o => HS.out l[i] (List.getElem_mem hlt) w.heap.size (w.heap.size + 1) w.heap.size (2 * tsizes (l.take i)) [] (fvs [] [] (l.take i)) pa ca (wr.alloc o) (hF1.alloc o) (xk.keep (keepT_alloc wr o)) (by omega) (by simp only [List.length_nil]; omega) (by simp only [List.length_nil] at hl1; omega))
      rw [← fvs_drop [] [] l i hlt, show 2 * tsizes (l.take i) + 2 * tsize l[i] = 2 * tsizes (l.take (i + 1)) by omega] at HC
      have HX := Lib.hid (fun (o : Obj) (W : World) (h1 : KeepT (wr.alloc o) W) (h2 : Below w.heap.size (wr.alloc o) W) => (⟨(hKT.trans (keepT_alloc wr o)).trans h1, (hBl.alloc hBw o).trans h2⟩ : KeepT w W ∧ Below w.heap.size w W))
      clear hr hF hF1 xk hBl hsz hl1 hkk HS HR HF HB0
      generalize l[i] = u at x0 x1 x2 HC
      simp only [tyV] at HC
      have hlt1 : ((i : Int) < (l.length : Int)) := by omega
      go_wp2_with (go_at_call 77; refine (HC.out _).mono ?_; rintro e w2 ⟨rfl, r1, r2, r3⟩; have HW2 := Lib.hid (And.intro r1 (HX.out _ _ r2 r3)); clear r1 r2 r3)
      refine ⟨⟨i + 1, by omega, by go_num, HW2⟩, ?_⟩
      simp [intOf]; omega
    · obtain rfl : i = l.length := by omega
      rw [List.take_length] at hF
      obtain ⟨hF1, hKT, hBl⟩ := hF.out
      obtain ⟨v, hv, hown⟩ := hF1.fin
      have c1 : wr.cell? ⟨w.heap.size + 1, 1, none⟩ = some v := by rw [Lib.cell_of_heap hv]; rfl
      obtain ⟨a1, cap1, rfl⟩ := row_slice hown
      have HT := Lib.hid (TextsAt.of_row hown)
      have HK := Lib.hid hKT; have HBl := Lib.hid hBl
      clear hF hF1 hown hv hKT hBl
      go_wp2
      go_ret
      exact ⟨⟨_, rfl, HT.out⟩, HK.out, HBl.out⟩
end Go.Proofs.YtdidgddcgjpokaaGreatDoor
/- Texts in rows: where one is, whether two rows are the same. -/
namespace Go.Proofs.YtdidgddcgjpokaaGreatDoor
open Go.RowKit
attribute [local go_sem] Oper.semAt_some

theorem TextsAt.part {w : World} {a : Option Addr} {n c : Nat} {l : List ByteArray} (h : TextsAt w (.slice a n c) l) : n = l.length ∧ ∀ i (hi : i < l.length), ∃ g, a = some ⟨g, 0, none⟩ ∧ l.length ≤ c ∧ g < w.heap.size ∧ ∀ W : World, (∀ (k : Nat) (cs : Array Value) (fz : Nat × Nat), w.heap[k]? = some (.cells cs 9 fz) → W.heap[k]? = some (.cells cs 9 fz)) → W.cell? ⟨g, i, none⟩ = some (.string l[i]) := by
  obtain ⟨a', cap, e, h⟩ := h
  cases e
  refine ⟨rfl, fun i hi => ?_⟩
  rcases h with h | ⟨g, e, hc, cs, fz, hg, hh⟩
  · subst h; cases hi
  · refine ⟨g, e, hc, (Array.getElem?_eq_some_iff.1 hg).1, fun W hW => ?_⟩
    rw [Lib.cell_of_heap (hW _ _ _ hg)]; exact hh i hi
theorem TextsAt.shape {w : World} {v : Value} {l : List ByteArray} (h : TextsAt w v l) : ∃ a c, v = .slice a l.length c := by
  obtain ⟨a, c, e, _⟩ := h
  exact ⟨a, c, e⟩
theorem TextsAt.below {w w' : World} {v : Value} {l : List ByteArray} (h : TextsAt w v l) (hb : Below w.heap.size w w') : TextsAt w' v l := h.keep fun k _ _ hk => (hb.block k (Array.getElem?_eq_some_iff.1 hk).1).trans hk

/-- Is it none of the first i? -/
theorem inB_false {l : List ByteArray} {s : ByteArray} (h : ∀ i (hi : i < l.length), ¬ l[i] = s) : inB l s = false := by
  cases hb : inB l s with
  | false => rfl
  | true =>
    obtain ⟨i, hi, e⟩ := List.getElem_of_mem (inB_iff.1 hb)
    exact absurd e (h i hi)

set_option maxHeartbeats 2000000 in
theorem place_any (l : List ByteArray) (hl : l.length ≤ 1000000000) (s : ByteArray) (a : Option Addr) (c : Nat) (w : World) (h : TextsAt w (.slice a l.length c) l) :
    Calls Tryz.prog 57 #[.slice a l.length c, .string s] w fun e w' => (∃ r : Int, e = .returned (.int .i64 r) ∧ decide (0 ≤ r) = inB l s) ∧ w = w' := by
  have HR := Lib.hid (h.part.2)
  clear h
  go_enter Tryz.func57, Tryz.ntmps57
  go_wp2
  go_loop [5] (fun vi => ∃ i : Nat, i ≤ l.length ∧ vi = .int .i64 i ∧ Hid (∀ j (hj : j < l.length), j < i → ¬ l[j] = s)) (fun vi => l.length - (intOf vi).toNat)
  case atStart => exact ⟨0, Nat.zero_le _, rfl, Lib.hid fun j _ h => absurd h (by omega)⟩
  case round =>
    obtain ⟨i, hi, rfl, hS⟩ := hrel
    by_cases hlt : i < l.length
    · obtain ⟨g, rfl, hc, hg, hh⟩ := HR.out i hlt
      have x0 := hh w (fun _ _ _ h => h)
      have hb : (l[i].toList == s.toList) = eqB l[i] s := bytes_beq _ _
      have HE := Lib.hid (show l[i] = l[i] from rfl)
      obtain ⟨u, hu⟩ : ∃ u, l[i] = u := ⟨_, rfl⟩
      have HU := Lib.hid hu
      rw [hu] at x0 hb
      clear hh hu HR HE
      have hlt1 : ((i : Int) < (l.length : Int)) := by omega
      by_cases hq : u = s
      · rw [eqB_true hq] at hb
        have HQ := Lib.hid hq
        clear hq
        go_wp2
        go_ret
        exact ⟨⟨(i : Int), rfl, by
          have : inB l s = true := inB_iff.2 (by rw [← HQ.out, ← HU.out]; exact List.getElem_mem hlt)
          rw [this]; simp⟩, rfl⟩
      · rw [eqB_false hq] at hb
        have HQ := Lib.hid hq
        clear hq
        go_wp2
        go_round
        case rel => exact ⟨i + 1, by omega, by go_num, Lib.hid fun j hj hji => by
          by_cases e : j = i
          · subst e; rw [HU.out]; exact HQ.out
          · exact hS.out j hj (by omega)⟩
        case measure => simp [intOf]; omega
    · obtain rfl : i = l.length := by omega
      clear HR
      go_wp2
      go_ret
      exact ⟨⟨-1, rfl, by rw [inB_false (fun j hj => hS.out j hj hj)]; rfl⟩, rfl⟩

set_option maxHeartbeats 2000000 in
theorem hasR_any (l : List ByteArray) (hl : l.length ≤ 1000000000) (s : ByteArray) (a : Option Addr) (c : Nat) (w : World) (h : TextsAt w (.slice a l.length c) l) :
    Calls Tryz.prog 29 #[.slice a l.length c, .string s] w fun e w' => e = .returned (.bool (inB l s)) ∧ w = w' := by
  have HP := Lib.hid (place_any l hl s a c w h)
  clear h
  go_enter Tryz.func29, Tryz.ntmps29
  go_wp2_with (go_at_call 57; refine HP.out.mono ?_; rintro e w2 ⟨⟨r, rfl, hr⟩, rfl⟩)
  go_ret
  exact ⟨rfl, rfl⟩

set_option maxHeartbeats 2000000 in
theorem sameTexts_any (l l' : List ByteArray) (hl : l.length ≤ 1000000000) (a b : Option Addr) (c d : Nat) (w : World) (h : TextsAt w (.slice a l.length c) l) (h' : TextsAt w (.slice b l'.length d) l') :
    Calls Tryz.prog 13 #[.slice a l.length c, .slice b l'.length d] w fun e w' => e = .returned (.bool (eqB l l')) ∧ Below w.heap.size w w' := by
  by_cases hlen : l.length = l'.length
  · have hm : ((l.length : Int) != (l'.length : Int)) = false := by simp; omega
    have HR := Lib.hid (h.part.2)
    have HR' := Lib.hid (h'.part.2)
    have HL := Lib.hid hlen
    have hlen1 : l'.length ≤ l.length := by omega
    have hlen2 : l.length ≤ l'.length := by omega
    obtain ⟨res, hres⟩ : ∃ r, eqB l l' = r := ⟨_, rfl⟩
    have HRes := Lib.hid hres
    rw [hres]
    clear h h' hlen hres
    go_enter Tryz.func13, Tryz.ntmps13
    go_wp2
    go_loopw [5] (fun vi wr => ∃ i : Nat, i ≤ l.length ∧ vi = .int .i64 i ∧ Hid (Below w.heap.size w wr) ∧ Hid (∀ j (h1 : j < l.length) (h2 : j < l'.length), j < i → l[j] = l'[j])) (fun vi _ => l.length - (intOf vi).toNat)
    case atStart => exact ⟨0, Nat.zero_le _, rfl, Lib.hid (Below.refl _ _), Lib.hid (fun j _ _ h => absurd h (by omega))⟩
    case round =>
      obtain ⟨i, hi, rfl, hB, hS⟩ := hrel
      by_cases hlt : i < l.length
      · have hlt' : i < l'.length := by omega
        obtain ⟨g, rfl, hc, hg, hh⟩ := HR.out i hlt
        obtain ⟨g', rfl, hc', hg', hh'⟩ := HR'.out i hlt'
        have x0 := hh wr (fun k _ _ hk => (hB.out.block k (Array.getElem?_eq_some_iff.1 hk).1).trans hk)
        have y0 := hh' wr (fun k _ _ hk => (hB.out.block k (Array.getElem?_eq_some_iff.1 hk).1).trans hk)
        have hb : (l[i].toList == l'[i].toList) = eqB l[i] l'[i] := bytes_beq _ _
        obtain ⟨u, hu⟩ : ∃ u, l[i] = u := ⟨_, rfl⟩
        obtain ⟨u', hu'⟩ : ∃ u, l'[i] = u := ⟨_, rfl⟩
        have HU := Lib.hid hu; have HU' := Lib.hid hu'
        rw [hu] at x0 hb; rw [hu'] at y0 hb
        clear hh hh' hu hu' HR HR'
        have hlt1 : ((i : Int) < (l.length : Int)) := by omega
        have hlt2 : ((i : Int) < (l'.length : Int)) := by omega
        by_cases hq : u = u'
        · rw [eqB_true hq] at hb
          have HQ := Lib.hid hq
          clear hq
          go_wp2
          go_quiet (fail)
          go_wp2
          go_roundw
          case rel => exact ⟨i + 1, by omega, by go_num, Lib.hid (below_drewN hB.out _), Lib.hid fun j h1 h2 hji => by
            by_cases e : j = i
            · subst e; rw [HU.out, HU'.out]; exact HQ.out
            · exact hS.out j h1 h2 (by omega)⟩
          case measure => simp [intOf]; omega
        · rw [eqB_false hq] at hb
          have e : res = false := by
            rw [← HRes.out]
            refine eqB_false fun e => hq ?_
            rw [← HU.out, ← HU'.out]
            exact List.getElem_of_eq e hlt
          subst e
          clear hq HRes HU HU'
          go_wp2
          go_quiet (fail)
          go_wp2
          go_ret
          exact ⟨rfl, below_drewN hB.out _⟩
      · obtain rfl : i = l.length := by omega
        have e : res = true := by
          rw [← HRes.out]
          exact eqB_true (List.ext_getElem HL.out (fun j h1 h2 => hS.out j h1 h2 h1))
        subst e
        clear HRes HR HR'
        go_wp2
        go_ret
        exact ⟨rfl, hB.out⟩
  · have hm : ((l.length : Int) != (l'.length : Int)) = true := by simp; omega
    rw [eqB_false (fun e => hlen (by rw [e]))]
    clear h h'
    go_enter Tryz.func13, Tryz.ntmps13
    go_wp2
    go_ret
    exact ⟨rfl, Below.refl _ _⟩
end Go.Proofs.YtdidgddcgjpokaaGreatDoor
/- A map of numbers by texts, in memory. -/
namespace Go.Proofs.YtdidgddcgjpokaaGreatDoor
open Go.RowKit Go.Maps
attribute [local go_sem] Oper.semAt_some
end Go.Proofs.YtdidgddcgjpokaaGreatDoor
/- Sets of texts in memory: scheme.setOf. -/
namespace Go.Proofs.YtdidgddcgjpokaaGreatDoor
open Go.RowKit Go.Maps
attribute [local go_sem] Oper.semAt_some

theorem zeroUnit (w : World) : (zeroValue 95).run Tryz.prog w = .ok (.agg #[]) w := by kernel_rfl
/-- Block M is a set of texts, S. -/
def SetV (M m : Nat) (S : ByteArray → Bool) (w : World) : Prop := ∃ D : DataW Unit, IsMap D ∧ w.ownsMap Tryz.prog 9 unitElem M m D ∧
  ∀ n : ByteArray, n.size ≤ maxLen → Maps.has D (.string n.data.toList) = S n
theorem SetV.kept {M m : Nat} {S : ByteArray → Bool} {w w' : World} {row : Option Nat} (h : SetV M m S w) (hg : w.grownBy w' row) (hne : some M ≠ row) : SetV M m S w' := by
  obtain ⟨D, hD, h1, h2⟩ := h
  exact ⟨D, hD, h1.kept hg hne, h2⟩
theorem grown_of_belowS {w w' : World} (hb : Below w.heap.size w w') : w.grownBy w' none := ⟨hb.os, hb.tape, hb.output, hb.size, fun i hi _ => hb.block i hi⟩
theorem SetV.below {M m : Nat} {S : ByteArray → Bool} {w w' : World} (h : SetV M m S w) (hb : Below w.heap.size w w') : SetV M m S w' := h.kept (row := none) (grown_of_belowS hb) (by simp)
theorem SetV.look {M m : Nat} {S : ByteArray → Bool} {w : World} (h : SetV M m S w) (n : ByteArray) (hn : n.size ≤ maxLen) :
    (Instr.lookup 93 (.map (some M)) (.string n) true).run Tryz.prog w = .ok (.tuple #[.agg #[], .bool (S n)]) w := by
  obtain ⟨D, _, h1, h2⟩ := h
  obtain ⟨v, ps, hrun, hv⟩ := h1.look_ok strLaw Tryz.underlying93 (zeroUnit w) unitElem_mk (Go.WideMaps.keyOf_string_mk Tryz.underlying9 hn)
  obtain ⟨rfl, _⟩ := unitElem_inv hv
  rw [hrun, h2 n hn]
theorem SetV.upd {M m : Nat} {S S' : ByteArray → Bool} {w : World} (h : SetV M m S w) (hm : m < maxLen) (n : ByteArray) (hn : n.size ≤ maxLen) (hS : ∀ k, S' k = if k = n then true else S k) :
    ∃ w', (Instr.mapUpdate 93 (.map (some M)) (.string n) (.agg #[])).run Tryz.prog w = .ok () w' ∧ SetV M (m + 1) S' w' ∧ w.grownBy w' (some M) := by
  obtain ⟨D, hD, h1, h2⟩ := h
  obtain ⟨w', hrun, h3, h4⟩ := h1.update strLaw Tryz.underlying93 hm (Go.WideMaps.keyOf_string_mk Tryz.underlying9 hn) (unitElem_mk (H := Unit))
  refine ⟨w', hrun, ⟨_, hD.put _ _, h3, fun k hk => ?_⟩, h4⟩
  rw [hS]
  by_cases e : k = n
  · subst e
    rw [has_put_same hD (by trivial)]
    simp
  · have e2 : (Lit.string k.data.toList) ≠ .string n.data.toList := by
      intro e'
      apply e
      have : k.data.toList = n.data.toList := by injection e'
      cases k; cases n; simp_all
    rw [has_put_other e2, if_neg e]
    exact h2 k hk
theorem SetV.ne {M m k : Nat} {S : ByteArray → Bool} {w : World} {cs : Array Value} {T : TypeId} {fz : Nat × Nat} (h : SetV M m S w) (hk : w.heap[k]? = some (.cells cs T fz)) : M ≠ k := by
  rintro rfl
  obtain ⟨_, _, ⟨es, clock, hh, _⟩, _⟩ := h
  rw [hk] at hh; cases hh
theorem SetV.start (w : World) : SetV w.heap.size 0 (fun _ => false) (w.alloc (.map #[] 0)) :=
  ⟨.map [], ⟨[], rfl⟩, World.ownsMap_made (H := Unit) w Tryz.prog 9 unitElem, fun _ _ => rfl⟩
theorem inB_take {l : List ByteArray} {i : Nat} (hi : i < l.length) (k : ByteArray) : inB (l.take (i + 1)) k = if k = l[i] then true else inB (l.take i) k := by
  have e : l.take (i + 1) = l.take i ++ [l[i]] := by rw [List.take_add_one, List.getElem?_eq_getElem hi]; rfl
  rw [e]
  by_cases hk : k = l[i]
  · rw [if_pos hk]; exact inB_iff.2 (List.mem_append.2 (.inr (List.mem_singleton.2 hk)))
  · rw [if_neg hk, Bool.eq_iff_iff, inB_iff, inB_iff, List.mem_append, List.mem_singleton]
    exact ⟨fun h => h.resolve_right hk, .inl⟩
set_option maxRecDepth 100000 in
set_option maxHeartbeats 2000000 in
theorem setOf_any (l : List ByteArray) (hl : l.length ≤ 1000000) (hs : ∀ n ∈ l, n.size ≤ 1000000) (a : Option Addr) (c : Nat) (w : World) (h : TextsAt w (.slice a l.length c) l) :
    Calls Tryz.prog 63 #[.slice a l.length c] w fun e w' => (∃ M, e = .returned (.map (some M)) ∧ SetV M l.length (inB l) w' ∧ w.heap.size ≤ M) ∧ Below w.heap.size w w' := by
  have HR := Lib.hid (h.part.2)
  have HS := Lib.hid hs
  have H0 := Lib.hid (SetV.start w)
  have hmm : ∀ n : Nat, (Instr.makeMap 93 (some (.int .i64 (n : Int)))).run Tryz.prog w = .ok (.map (some w.heap.size)) (w.alloc (.map #[] 0)) := fun n => by kernel_rfl
  have hb0 := Lib.hid ((Below.refl w.heap.size w).alloc (Nat.le_refl _) (.map #[] 0))
  clear h hs
  go_enter Tryz.func63, Tryz.ntmps63
  go_wp2
  go_loopw [11] (fun vi wr => ∃ i : Nat, i ≤ l.length ∧ vi = .int .i64 i ∧ Hid (SetV w.heap.size i (inB (l.take i)) wr ∧ Below w.heap.size w wr)) (fun vi _ => l.length - (intOf vi).toNat)
  case atStart => exact ⟨0, Nat.zero_le _, rfl, Lib.hid ⟨by have := H0.out; exact this, hb0.out⟩⟩
  case round =>
    obtain ⟨i, hi, rfl, hF⟩ := hrel
    by_cases hlt : i < l.length
    · have hltI : (i : Int) < (l.length : Int) := by omega
      obtain ⟨g, rfl, hc, hg, hrd⟩ := HR.out i hlt
      have hcell := hrd wr (fun k cs fz hk => (hF.out.2.block k (Array.getElem?_eq_some_iff.1 hk).1).trans hk)
      obtain ⟨w6, hup, hM6, hg6⟩ := hF.out.1.upd (S' := inB (l.take (i + 1))) (by unfold maxLen; omega) l[i] (by have := HS.out _ (List.getElem_mem hlt); unfold maxLen; omega) (fun k => inB_take hlt k)
      have H6 := Lib.hid (show SetV w.heap.size (i + 1) (inB (l.take (i + 1))) w6 ∧ Below w.heap.size w w6 from ⟨hM6, hF.out.2.grown hg6 hF.out.2.size (fun k e => by injection e with e; omega)⟩)
      have hgl : g < wr.heap.size := Nat.lt_of_lt_of_le hg hF.out.2.size
      clear hrd hM6 hg6 hF HR HS H0 hb0
      generalize l[i] = nm at *
      go_wp2
      go_roundw
      case rel => exact ⟨i + 1, by omega, by go_num, H6⟩
      case measure => simp [intOf]; omega
    · have hltI : ¬ ((i : Int) < (l.length : Int)) := by omega
      have hil : i = l.length := by omega
      rw [hil, List.take_length] at hF
      have HF := Lib.hid hF.out
      clear hF hil
      go_wp2
      go_ret
      exact ⟨⟨_, rfl, HF.out.1, Nat.le_refl _⟩, HF.out.2⟩
end Go.Proofs.YtdidgddcgjpokaaGreatDoor
/- A region that draws its order, by an invariant: each operation is run once, at whatever state meets the facts on those that it waits for. -/
namespace Go.Proofs.YtdidgddcgjpokaaGreatDoor

def upd (x : Nat → Value) (i : Nat) (v : Value) : Nat → Value := fun j => if j = i then v else x j
theorem upd_same (x : Nat → Value) (i : Nat) (v : Value) : upd x i v i = v := by simp [upd]
theorem upd_other (x : Nat → Value) {i j : Nat} (v : Value) (h : j ≠ i) : upd x i v j = x j := by simp [upd, h]

def AllAt (f : Nat → Oper → Prop) : Nat → List Oper → Prop
  | _, [] => True
  | n, o :: os => f n o ∧ AllAt f (n + 1) os

theorem AllAt.get {f : Nat → Oper → Prop} : ∀ {l : List Oper} {n : Nat}, AllAt f n l → ∀ {i : Nat} {o : Oper}, l[i]? = some o → f (n + i) o
  | [], _, _, i, o, h => by simp at h
  | a :: l, n, hl, 0, o, h => by simp at h; subst h; exact hl.1
  | a :: l, n, hl, i + 1, o, h => by
    have := AllAt.get hl.2 (i := i) (o := o) (by simpa using h)
    rw [show n + (i + 1) = n + 1 + i by omega]; exact this

/-- What is asked of operation 'o', number 'i'. -/
structure StepAt (P : Program) (fr : (Nat → Value) → Act) (S : World → Prop) (Rel : World → World → Prop) (Vals : Nat → Value → World → Prop)
    (ops : Array Oper) (Q : Exit → Act → World → Prop) (i : Nat) (o : Oper) : Prop where
  back : ∀ e ∈ o.after, Region.binds .any e = true → e.on < i
  put : ∀ x v, (fr x).put o.dst v = fr (upd x i v)
  run : ∀ (x : Nat → Value) (w : World), S w → (∀ e ∈ o.after, Region.binds .any e = true → Vals e.on (x e.on) w) →
    ∀ K : Act → World → Prop, (∀ v w', Rel w w' → Vals i v w' → K ((fr x).put o.dst v) w') →
      if Region.wanted o (yielded ops (fr x).tmps) = true then Oper.wp P o (fr x) w K Q else K ((fr x).put o.dst undef) w

section
variable {P : Program} {ops : Array Oper} {Q : Exit → Act → World → Prop} {fr : (Nat → Value) → Act} {S : World → Prop} {Rel : World → World → Prop} {Vals : Nat → Value → World → Prop}

theorem all_of_none (hback : ∀ i o, ops[i]? = some o → ∀ e ∈ o.after, Region.binds .any e = true → e.on < i) {listed : Array Bool} (hz : listed.size = ops.size)
    (h : Region.ready .any ops listed = []) : ∀ i, i < ops.size → listed.getD i false = true := by
  intro i
  induction i using Nat.strongRecOn with
  | ind i ih =>
    intro hi
    cases hl : listed.getD i false with
    | true => rfl
    | false =>
      have : i ∈ Region.ready .any ops listed := mem_ready.2 ⟨by
        have : i < listed.size := by omega
        simp [this] at hl ⊢; exact hl, ops[i], Array.getElem?_eq_getElem hi, fun e he hb => by
          have hlt := hback i ops[i] (Array.getElem?_eq_getElem hi) e he hb
          exact ih e.on hlt (by omega)⟩
      rw [h] at this; cases this

theorem inv_any (hput : ∀ i o, ops[i]? = some o → StepAt P fr S Rel Vals ops Q i o)
    (hrel : ∀ w w', S w → Rel w w' → S w') (hval : ∀ i v w w', S w → Vals i v w → Rel w w' → Vals i v w')
    (hfin : ∀ x w, S w → (∀ i, i < ops.size → Vals i (x i) w) → Q .normal (fr x) w) :
    ∀ (fuel : Nat) (listed : Array Bool) (x : Nat → Value) (w : World), listed.size = ops.size → ops.size ≤ fuel + listed.toList.count true → S w →
      (∀ i, listed.getD i false = true → Vals i (x i) w) → wpAny P .any ops Q fuel listed (fr x) w := by
  have hend : ∀ (listed : Array Bool) (x : Nat → Value) (w : World), listed.size = ops.size → S w → (∀ i, listed.getD i false = true → Vals i (x i) w) →
      Region.ready .any ops listed = [] → Q .normal (fr x) w := fun listed x w hz hS hV h =>
    hfin x w hS fun i hi => hV i (all_of_none (fun i o h => (hput i o h).back) hz h i hi)
  intro fuel
  induction fuel with
  | zero =>
    intro listed x w hz hc hS hV
    have hall : listed.toList.count true = listed.toList.length := by
      have := List.count_le_length (a := true) (l := listed.toList)
      simp at this hc ⊢; omega
    have hr : Region.ready .any ops listed = [] := by
      cases h : Region.ready .any ops listed with
      | nil => rfl
      | cons i l =>
        have hi : i ∈ Region.ready .any ops listed := by rw [h]; simp
        obtain ⟨h0, o, ho, _⟩ := mem_ready.1 hi
        have hlt : i < listed.size := by rw [hz]; exact (Array.getElem?_eq_some_iff.1 ho).1
        have := List.count_eq_length.1 hall listed[i] (by simp)
        simp [hlt] at h0
        rw [h0] at this; cases this
    exact ⟨hr, hend listed x w hz hS hV hr⟩
  | succ fuel ih =>
    intro listed x w hz hc hS hV
    refine ⟨hend listed x w hz hS hV, fun i hi => ?_⟩
    obtain ⟨h0, o, ho, hdep⟩ := mem_ready.1 hi
    have hlt : i < listed.size := by rw [hz]; exact (Array.getElem?_eq_some_iff.1 ho).1
    have h0' : listed[i] = false := by simpa [hlt] using h0
    have H := hput i o ho
    have hK : ∀ v w', Rel w w' → Vals i v w' → wpAny P .any ops Q fuel (listed.setIfInBounds i true) ((fr x).put o.dst v) w' := fun v w' hr hv => by
      rw [H.put]
      refine ih _ _ _ (by simpa using hz) ?_ (hrel w w' hS hr) fun j hj => ?_
      · have : (listed.setIfInBounds i true).toList.count true = listed.toList.count true + 1 := by
          rw [Array.toList_setIfInBounds, List.count_set (by simpa using hlt)]
          simp [h0']
        omega
      · by_cases hji : j = i
        · subst hji; rw [upd_same]; exact hv
        · rw [upd_other x v hji]
          exact hval _ _ _ _ hS (hV j (by rw [getD_set_ne false (Ne.symm hji)] at hj; exact hj)) hr
    have := H.run x w hS (fun e he hb => hV e.on (hdep e he hb)) _ hK
    unfold wpOp
    simp only [ho]
    split
    · rename_i hw; rw [if_pos hw] at this; exact .inl this
    · rename_i hw; rw [if_neg hw] at this; exact this

theorem region_inv (fr : (Nat → Value) → Act) (S : World → Prop) (Rel : World → World → Prop) (Vals : Nat → Value → World → Prop) (x0 : Nat → Value) {id : Nat} {a : Act} {w : World}
    (hm : P.follows .mixedOrders = true) (ha : a = fr x0) (hS : S w.drew)
    (hrel : ∀ w w', S w → Rel w w' → S w') (hval : ∀ i v w w', S w → Vals i v w → Rel w w' → Vals i v w')
    (hops : AllAt (StepAt P fr S Rel Vals ops Q) 0 ops.toList)
    (hfin : ∀ x w, S w → (∀ i, i < ops.size → Vals i (x i) w) → Q .normal (fr x) w) : (Code.region id ops true).wp P Q a w := by
  subst ha
  refine wp_region_any hm ?_
  exact inv_any (fun i o h => by have := hops.get (i := i) (o := o) (by simpa using h); rwa [Nat.zero_add] at this) hrel hval hfin _ _ _ _ (by simp) (by simp) hS
    (fun i hi => by
      by_cases h : i < ops.size
      · simp [h] at hi
      · simp [h] at hi)
end
end Go.Proofs.YtdidgddcgjpokaaGreatDoor
/- SubstOthers: plain facts; what its last statement keeps. -/
namespace Go.Proofs.YtdidgddcgjpokaaGreatDoor
open Go.RowKit Go.Sort Go.Lib
attribute [local go_sem] Oper.semAt_some

/-- Type t lies in block b. -/
def BoxT (b : Nat) (t : T) (a : Option Addr) (c : Nat) (w : World) : Prop :=
  w.heap[b]? = some (.cells #[.int .i64 t.kind, .string t.name, .slice a t.kids.length c] 31 (0, 0)) ∧ TysAt w (.slice a t.kids.length c) t.kids
theorem BoxT.below {b : Nat} {t : T} {a : Option Addr} {c : Nat} {w W : World} (h : BoxT b t a c w) (hb : Below w.heap.size w W) : BoxT b t a c W :=
  ⟨(hb.block b (Array.getElem?_eq_some_iff.1 h.1).1).trans h.1, h.2.keep (KeepT.of_below hb)⟩
theorem BoxT.alloc {b : Nat} {t : T} {a : Option Addr} {c : Nat} {w : World} (h : BoxT b t a c w) (o : Obj) : BoxT b t a c (w.alloc o) := h.below ((Below.refl _ w).alloc (Nat.le_refl _) o)
theorem BoxT.new {t : T} {a : Option Addr} {c : Nat} {w : World} (h : TysAt w (.slice a t.kids.length c) t.kids) : BoxT w.heap.size t a c (w.alloc (.cells #[.int .i64 t.kind, .string t.name, .slice a t.kids.length c] 31)) :=
  ⟨alloc_new w _, h.keep (keepT_alloc w _)⟩
theorem BoxT.cells {b : Nat} {t : T} {a : Option Addr} {c : Nat} {w : World} (h : BoxT b t a c w) : w.cell? ⟨b, 0, none⟩ = some (.int .i64 t.kind) ∧ w.cell? ⟨b, 1, none⟩ = some (.string t.name) ∧ w.cell? ⟨b, 2, none⟩ = some (.slice a t.kids.length c) := three_cells h.1
/-- Types for variables lie in block b. -/
def BoxS (b : Nat) (v : Value) (d : List PR) (w : World) : Prop := w.heap[b]? = some (.cells #[v] 73 (0, 0)) ∧ SubAt v d w
theorem BoxS.below {b : Nat} {v : Value} {d : List PR} {w W : World} (h : BoxS b v d w) (hb : Below w.heap.size w W) : BoxS b v d W := ⟨(hb.block b (Array.getElem?_eq_some_iff.1 h.1).1).trans h.1, h.2.below hb⟩
theorem BoxS.new {v : Value} {d : List PR} {w : World} (h : SubAt v d w) : BoxS w.heap.size v d (w.alloc (.cells #[v] 73)) := ⟨alloc_new w _, h.below ((Below.refl _ w).alloc (Nat.le_refl _) _)⟩
theorem BoxS.cell {b : Nat} {v : Value} {d : List PR} {w : World} (h : BoxS b v d w) : w.cell? ⟨b, 0, none⟩ = some v := by rw [Lib.cell_of_heap h.1]; rfl
theorem seq_new {w0 w : World} {a : Option Addr} {n c : Nat} (hb : Below w0.heap.size w0 w) (hl : IntsAt w0.heap.size a n w0) : SeqAt w0.heap.size w.heap.size a n c 0 (w.alloc (.cells #[.slice a n c, .int .i64 0] 27)) :=
  ⟨⟨hb.size, alloc_new w _⟩, hl.keep (hb.alloc hb.size _)⟩
/-! Names for names. -/
theorem app_v (n : ByteArray) (d : List PR) : app d (.var n) = ty n d := rfl
end Go.Proofs.YtdidgddcgjpokaaGreatDoor
/- The law's pairs, made of numbers. -/
namespace Go.Proofs.YtdidgddcgjpokaaGreatDoor
open Go.RowKit Go.Sort Go.Lib
attribute [local go_sem] Oper.semAt_some

theorem Tryz.infoRefPair : (Tryz.prog.info? 53).map (fun i => (i.zero, i.size, i.bytes)) = some (some (.agg zeroP), 4, 64) := by kernel_rfl
/-- The cells of a row of pairs. -/
def cellsP (d : List PR) : List Value := d.flatMap encP
theorem cellsP_snoc (d : List PR) (x : PR) : cellsP (d ++ [x]) = cellsP d ++ encP x := by simp [cellsP]
theorem cellsP_len : ∀ d : List PR, (cellsP d).length = d.length * 4
  | [] => rfl
  | x :: d => by
    have := cellsP_len d
    simp only [cellsP, List.flatMap_cons, List.length_append, encP_len, List.length_cons] at this ⊢
    omega
theorem cellsP_at (d : List PR) (i j : Nat) (hi : i < d.length) (hj : j < 4) : (cellsP d)[i * 4 + j]? = (encP (d.getD i noP))[j]? := by
  induction d generalizing i with
  | nil => cases hi
  | cons a r ih =>
    cases i with
    | zero =>
      have : (encP a ++ cellsP r)[j]? = (encP a)[j]? := List.getElem?_append_left (by rw [encP_len]; omega)
      simpa [cellsP] using this
    | succ i =>
      have e : (i + 1) * 4 + j = (encP a).length + (i * 4 + j) := by rw [encP_len]; omega
      have h1 : (encP a ++ cellsP r)[(encP a).length + (i * 4 + j)]? = (cellsP r)[i * 4 + j]? := by rw [List.getElem?_append_right (by omega)]; congr 1; omega
      have h2 := ih i (by simpa using hi)
      rw [e]
      simpa [cellsP, List.getD] using h1.trans h2
/-- As RowP, whatever the row's type is. -/
def RowG (T : TypeId) (g : Nat) (l : List PR) (w : World) : Prop :=
  ∃ cs, w.heap[g]? = some (.cells cs T (0, 0)) ∧ l.length * 4 ≤ cs.size ∧ ∀ i, i < l.length →
    cs[i * 4]? = some (.string (l.getD i noP).n) ∧ cs[i * 4 + 1]? = some (.int .i64 (l.getD i noP).t.kind) ∧ cs[i * 4 + 2]? = some (.string (l.getD i noP).t.name) ∧ cs[i * 4 + 3]? = some (.slice (l.getD i noP).a (l.getD i noP).t.kids.length (l.getD i noP).c)
/-- A list of pairs as the law makes it. -/
def GivenG (T : TypeId) (v : Value) (d : List PR) (w : World) : Prop := (d = [] ∧ v = .slice none 0 0) ∨ (d ≠ [] ∧ ∃ g cap, v = .slice (some ⟨g, 0, none⟩) d.length cap ∧ RowG T g d w)
theorem given_of_row {T : TypeId} {W : World} {base : Nat} {v : Value} {d : List PR} (h : W.ownsRow base T 4 v d.length (cellsP d)) (h0 : d = [] → v = .slice none 0 0) : GivenG T v d W := by
  by_cases hd : d = []
  · exact .inl ⟨hd, h0 hd⟩
  · rcases h.2 with ⟨rfl, hn0⟩ | ⟨g, cap, cur, rfl, _, hg, hc, hm, hcs, htk⟩
    · exact absurd (List.length_eq_zero_iff.1 hn0) hd
    · refine .inr ⟨hd, g, cap, rfl, cur, hg, by rw [hcs]; exact Nat.mul_le_mul_right 4 hc, fun i hi => ?_⟩
      have cell : ∀ j, j < 4 → cur[i * 4 + j]? = (encP (d.getD i noP))[j]? := fun j hj => by
        have hlt : i * 4 + j < d.length * 4 := by omega
        rw [← cellsP_at d i j hi hj, ← htk, List.getElem?_take, if_pos hlt, Array.getElem?_toList]
      exact ⟨(cell 0 (by omega)).trans rfl, (cell 1 (by omega)).trans rfl, (cell 2 (by omega)).trans rfl, (cell 3 (by omega)).trans rfl⟩
theorem own_keep {w w' : World} {p base : Nat} {e : TypeId} {size : Nat} {v : Value} {n : Nat} {xs : List Value} (h : w.ownsRow base e size v n xs) (hk : ∀ k o, w.heap[k]? = some o → k ≠ p → w'.heap[k]? = some o) (hp : p < base) : w'.ownsRow base e size v n xs := by
  refine ⟨h.1, ?_⟩
  rcases h.2 with h | ⟨g, cap, cur, rfl, hb, hg, r⟩
  · exact .inl h
  · exact .inr ⟨g, cap, cur, rfl, hb, hk g _ hg (by omega), r⟩
theorem KeepT.grown {W W' : World} {base : Nat} {e : TypeId} {size : Nat} {v : Value} {n : Nat} {xs : List Value} (hg : W.grownBy W' v.ownBlock) (h : W.ownsRow base e size v n xs) (he : e ≠ 31) : KeepT W W' := by
  intro k cs fz hk
  refine (hg.block k (Array.getElem?_eq_some_iff.1 hk).1 fun ee => ?_).trans hk
  rcases h.2 with ⟨rfl, _⟩ | ⟨g, cap, cur, rfl, _, hgb, _⟩
  · cases ee
  · obtain rfl : k = g := by simpa [Value.ownBlock] using ee
    rw [hk] at hgb
    cases hgb
    exact he rfl
theorem row_val {W : World} {base : Nat} {e : TypeId} {size : Nat} {v : Value} {n : Nat} {xs : List Value} (h : W.ownsRow base e size v n xs) : ∃ a c, v = .slice a n c := by
  rcases h.2 with ⟨rfl, rfl⟩ | ⟨g, cap, _, rfl, _⟩
  · exact ⟨_, _, rfl⟩
  · exact ⟨_, _, rfl⟩
theorem cell_new4 (w : World) (x y z u : Value) (t : TypeId) : ∀ j v, [x, y, z, u][j]? = some v → (w.alloc (.cells #[x, y, z, u] t)).cell? ((⟨w.heap.size, 0, none⟩ : Addr).add j) = some v := by
  intro j v hv
  have hadd : (⟨w.heap.size, 0, none⟩ : Addr).add j = ⟨w.heap.size, j, none⟩ := by unfold Addr.add; split <;> simp_all
  rw [hadd]
  have := alloc_new w (.cells #[x, y, z, u] t)
  simp only [World.cell?, this]
  match j, hv with
  | 0, hv => simpa using hv
  | 1, hv => simpa using hv
  | 2, hv => simpa using hv
  | 3, hv => simpa using hv
  | n + 4, hv => simp at hv

end Go.Proofs.YtdidgddcgjpokaaGreatDoor
/- scheme.split: the names that are in a list, and those that are not. -/
namespace Go.Proofs.YtdidgddcgjpokaaGreatDoor
open Go.RowKit Go.Maps
attribute [local go_sem] Oper.semAt_some

theorem Tryz.infoStrS : (Tryz.prog.info? 9).map (fun i => (i.zero, i.size, i.bytes)) = some (some (.string ⟨#[]⟩), 1, 16) := by kernel_rfl
/-- A row of texts that is one's own. -/
def OwnT (base : Nat) (v : Value) (l : List ByteArray) (w : World) : Prop := w.ownsRow base 9 1 v l.length (l.map Value.string)
theorem OwnT.nil (base : Nat) (w : World) : OwnT base (.slice none 0 0) [] w := World.ownsRow_nil _ _ _ _
theorem OwnT.below {base : Nat} {v : Value} {l : List ByteArray} {w W : World} (h : OwnT base v l w) (hb : Below w.heap.size w W) : OwnT base v l W := World.ownsRow.kept (row := none) h (grown_of_belowS hb) (by cases e : v.ownBlock with | none => exact .inl rfl | some g => exact .inr (by simp))
theorem OwnT.apart {base M m : Nat} {S : ByteArray → Bool} {v : Value} {l : List ByteArray} {w : World} (h : OwnT base v l w) (hM : SetV M m S w) : some M ≠ v.ownBlock := fun e => by
  rcases h.2 with ⟨rfl, _⟩ | ⟨g, cap, cur, rfl, _, hg, _⟩
  · cases e
  · obtain rfl : M = g := by simpa [Value.ownBlock] using e
    exact hM.ne hg rfl
theorem OwnT.texts {base : Nat} {v : Value} {l : List ByteArray} {w : World} (h : OwnT base v l w) : TextsAt w v l := TextsAt.of_row h
theorem OwnT.shape {base : Nat} {v : Value} {l : List ByteArray} {w : World} (h : OwnT base v l w) : ∃ a c, v = .slice a l.length c := row_val h
/-- One more, at the end. -/
theorem OwnT.snoc {base : Nat} {v : Value} {l : List ByteArray} {n : ByteArray} {w : World} (h : w.ownsRow base 9 1 v (l.length + 1) (l.map Value.string ++ [.string n])) : OwnT base v (l ++ [n]) w := by
  unfold OwnT
  rw [List.length_append, List.length_singleton, List.map_append]; exact h
theorem filter_take {l : List ByteArray} {p : ByteArray → Bool} {i : Nat} (hi : i < l.length) : (l.take (i + 1)).filter p = if p l[i] = true then (l.take i).filter p ++ [l[i]] else (l.take i).filter p := by
  have e : l.take (i + 1) = l.take i ++ [l[i]] := by rw [List.take_add_one, List.getElem?_eq_getElem hi]; rfl
  rw [e, List.filter_append]
  by_cases hp : p l[i] = true
  · rw [if_pos hp]; simp [hp]
  · rw [if_neg hp]; simp [hp]
theorem TextsAt.cell {w wr : World} {a : Option Addr} {c : Nat} {l : List ByteArray} (h : TextsAt w (.slice a l.length c) l) (hb : Below w.heap.size w wr) {i : Nat} (hi : i < l.length) : ∃ g, a = some ⟨g, 0, none⟩ ∧ l.length ≤ c ∧ g < wr.heap.size ∧ wr.cell? ⟨g, i, none⟩ = some (.string l[i]) := by
  obtain ⟨g, e, hc, hg, hr⟩ := h.part.2 i hi
  exact ⟨g, e, hc, Nat.lt_of_lt_of_le hg hb.size, hr wr fun k cs fz hk => (hb.block k (Array.getElem?_eq_some_iff.1 hk).1).trans hk⟩
theorem apart_symm {a b : Option Nat} (h : a = none ∨ a ≠ b) : b = none ∨ b ≠ a := by
  rcases h with rfl | h
  · cases b with | none => exact .inl rfl | some k => exact .inr (by simp)
  · exact .inr (Ne.symm h)
theorem apart_new {a b c : Option Nat} {n : Nat} (h : a = none ∨ a ≠ b) (hc : c = a ∨ c = some n) (hb : ∀ k, b = some k → k < n) : c = none ∨ c ≠ b := by
  rcases hc with rfl | rfl
  · exact h
  · exact .inr fun e => by have := hb n e.symm; omega
/-- A row grows: what is apart of it stays, and stays apart. -/
theorem grown_apart {base M m : Nat} {S : ByteArray → Bool} {va vb v4 : Value} {p q : List ByteArray} {nm : ByteArray} {w wr W4 : World} {o1 o2 : Obj} (hva : OwnT base va p wr) (hvb : OwnT base vb q wr) (hap : va.ownBlock = none ∨ va.ownBlock ≠ vb.ownBlock) (hM : SetV M m S wr) (hb : Below w.heap.size w wr) (hbase : w.heap.size ≤ base)
    (ho : W4.ownsRow base 9 1 v4 (p.length + 1) (p.map Value.string ++ [.string nm])) (hg : ((wr.alloc o1).alloc o2).grownBy W4 va.ownBlock) (hat : v4.ownBlock = va.ownBlock ∨ v4.ownBlock = some (wr.heap.size + 1 + 1)) :
    OwnT base v4 (p ++ [nm]) W4 ∧ OwnT base vb q W4 ∧ (v4.ownBlock = none ∨ v4.ownBlock ≠ vb.ownBlock) ∧ SetV M m S W4 ∧ Below w.heap.size w W4 := by
  have hz : ((wr.alloc o1).alloc o2).heap.size = wr.heap.size + 1 + 1 := by simp
  have hb2 : Below wr.heap.size wr ((wr.alloc o1).alloc o2) := ((Below.refl _ wr).alloc (Nat.le_refl _) o1).alloc (by simp) o2
  refine ⟨OwnT.snoc ho, (World.ownsRow.kept (w := (wr.alloc o1).alloc o2) (World.ownsRow.alloc (World.ownsRow.alloc hvb o1) o2) hg (apart_symm hap)), apart_new hap hat (fun k e => by have := (hvb.lt k e).2; omega), (hM.below hb2).kept hg (hva.apart hM), ?_⟩
  exact (hb.trans (hb2.mono hb.size)).grown hg (by have := hb.size; omega) (fun k e => by have := (hva.lt k e).1; omega)
/-- Where the loop stands. -/
def SplI (w : World) (M m : Nat) (l1 l2 : List ByteArray) (i : Nat) (vi vo : Value) (wr : World) : Prop :=
  (OwnT w.heap.size vi ((l1.take i).filter (inB l2)) wr ∧ OwnT w.heap.size vo ((l1.take i).filter fun n => !inB l2 n) wr) ∧ (vi.ownBlock = none ∨ vi.ownBlock ≠ vo.ownBlock) ∧ SetV M m (inB l2) wr ∧ Below w.heap.size w wr
set_option maxRecDepth 100000 in
set_option maxHeartbeats 4000000 in
theorem split_any (l1 l2 : List ByteArray) (hl1 : l1.length ≤ 1000000) (hl2 : l2.length ≤ 1000000) (hs1 : ∀ n ∈ l1, n.size ≤ 1000000) (hs2 : ∀ n ∈ l2, n.size ≤ 1000000) (a1 a2 : Option Addr) (c1 c2 : Nat) (w : World) (h1 : TextsAt w (.slice a1 l1.length c1) l1) (h2 : TextsAt w (.slice a2 l2.length c2) l2) :
    Calls Tryz.prog 37 #[.slice a1 l1.length c1, .slice a2 l2.length c2] w fun e w' =>
      (∃ vi vo, e = .returned (.tuple #[vi, vo]) ∧ TextsAt w' vi (l1.filter (inB l2)) ∧ TextsAt w' vo (l1.filter fun n => !inB l2 n)) ∧ Below w.heap.size w w' := by
  have HC := Lib.hid (setOf_any l2 hl2 hs2 a2 c2 w h2)
  have H1 := Lib.hid h1
  have HS := Lib.hid hs1
  obtain ⟨i0, hi0, hz0, hz1, hz2⟩ := info_parts Tryz.infoStrS
  clear h1 h2 hs1 hs2
  go_enter Tryz.func37, Tryz.ntmps37
  go_wp2_with (go_at_call 63; fail)
  refine HC.out.mono ?_
  rintro e w1 ⟨⟨M, rfl, hM, hMb⟩, hb1⟩
  have H0 := Lib.hid (show SplI w M l2.length l1 l2 0 (.slice none 0 0) (.slice none 0 0) w1 from ⟨⟨OwnT.nil _ _, OwnT.nil _ _⟩, .inl rfl, hM, hb1⟩)
  have HMb := Lib.hid hMb
  clear hM hb1 HC hMb
  go_wp2_with (fail)
  go_loopw [4, 5, 15] (fun vi vo vk wr => ∃ i : Nat, i ≤ l1.length ∧ vk = .int .i64 i ∧ Hid (SplI w M l2.length l1 l2 i vi vo wr)) (fun _ _ vk _ => l1.length - (intOf vk).toNat)
  case atStart => exact ⟨0, Nat.zero_le _, rfl, H0⟩
  case round =>
    obtain ⟨i, hi, rfl, hF⟩ := hrel
    by_cases hlt : i < l1.length
    · have hltI : (i : Int) < (l1.length : Int) := by omega
      obtain ⟨⟨hvi, hvo⟩, hap, hM, hb⟩ := hF.out
      obtain ⟨g, rfl, hc, hg, hcell⟩ := H1.out.cell hb hlt
      have hlk := hM.look l1[i] (by have := HS.out _ (List.getElem_mem hlt); unfold maxLen; omega)
      have hwz := hb.size
      have hti := filter_take (p := inB l2) hlt
      have hto := filter_take (p := fun n => !inB l2 n) hlt
      have hlen1 : ((l1.take i).filter (inB l2)).length ≤ 1000000 := by have := List.length_filter_le (inB l2) (l1.take i); rw [List.length_take] at this; omega
      have hlen2 : ((l1.take i).filter fun n => !inB l2 n).length ≤ 1000000 := by have := List.length_filter_le (fun n => !inB l2 n) (l1.take i); rw [List.length_take] at this; omega
      have HVI := Lib.hid hvi; have HVO := Lib.hid hvo; have HAP := Lib.hid hap; have HM := Lib.hid hM; have HB := Lib.hid hb
      have HNX := Lib.hid (fun vi vo (wr' : World) (h : OwnT w.heap.size vi ((l1.take (i + 1)).filter (inB l2)) wr' ∧ OwnT w.heap.size vo ((l1.take (i + 1)).filter fun n => !inB l2 n) wr') (h2 : vi.ownBlock = none ∨ vi.ownBlock ≠ vo.ownBlock) (h3 : SetV M l2.length (inB l2) wr') (h4 : Below w.heap.size w wr') => (show SplI w M l2.length l1 l2 (i + 1) vi vo wr' from ⟨h, h2, h3, h4⟩))
      rw [hti, hto] at HNX
      clear hvi hvo hap hM hb hF hti hto H0
      obtain ⟨p, hp⟩ : ∃ p, (l1.take i).filter (inB l2) = p := ⟨_, rfl⟩
      obtain ⟨q, hq⟩ : ∃ q, ((l1.take i).filter fun n => !inB l2 n) = q := ⟨_, rfl⟩
      rw [hp] at HVI HNX hlen1
      rw [hq] at HVO HNX hlen2
      clear hp hq
      generalize l1[i] = nm at *
      cases hin : inB l2 nm with
      | true =>
        rw [hin] at hlk HNX
        simp only [if_true, Bool.not_true, Bool.false_eq_true, if_false] at HNX
        go_wp2_with (at_builtin; refine wpList_append_own_at _ rfl _ _ 23 rfl w.heap.size 9 i0 (.string ⟨#[]⟩) 1 16 Tryz.underlying23 hi0 hz0 hz1 hz2 rfl (by decide) _ _ _ rfl ((World.ownsRow.alloc HVI.out _).alloc _) ⟨wr.heap.size + 1, 0, none⟩ 1 1 [.string nm] rfl rfl (by have := cell_one_new (wr.alloc (.cells #[] 95)) (.string nm) 9; simpa using this) (by simp [Value.oneCell']) ?c3 ?c4 ?c5 ?_)
        case c3 => unfold maxLen; omega
        case c4 => omega
        case c5 => simp; omega
        intro v4 W4 hown4 hgr4 _ hat4
        obtain ⟨k1, k2, k3, k4, k5⟩ := grown_apart HVI.out HVO.out HAP.out HM.out HB.out (Nat.le_refl _) hown4 hgr4 hat4
        have HE := Lib.hid (HNX.out v4 u5 W4 ⟨k1, k2⟩ k3 k4 k5)
        clear hown4 hgr4 hat4 k1 k2 k3 k4 k5
        go_wp2
        go_roundw
        case rel => exact ⟨i + 1, by omega, by go_num, HE⟩
        case measure => simp [intOf]; omega
      | false =>
        rw [hin] at hlk HNX
        simp only [if_true, Bool.not_false, Bool.false_eq_true, if_false] at HNX
        go_wp2_with (at_builtin; refine wpList_append_own_at _ rfl _ _ 23 rfl w.heap.size 9 i0 (.string ⟨#[]⟩) 1 16 Tryz.underlying23 hi0 hz0 hz1 hz2 rfl (by decide) _ _ _ rfl ((World.ownsRow.alloc HVO.out _).alloc _) ⟨wr.heap.size + 1, 0, none⟩ 1 1 [.string nm] rfl rfl (by have := cell_one_new (wr.alloc (.cells #[] 95)) (.string nm) 9; simpa using this) (by simp [Value.oneCell']) ?c3 ?c4 ?c5 ?_)
        case c3 => unfold maxLen; omega
        case c4 => omega
        case c5 => simp; omega
        intro v4 W4 hown4 hgr4 _ hat4
        obtain ⟨k1, k2, k3, k4, k5⟩ := grown_apart HVO.out HVI.out (apart_symm HAP.out) HM.out HB.out (Nat.le_refl _) hown4 hgr4 hat4
        have HE := Lib.hid (HNX.out u4 v4 W4 ⟨k2, k1⟩ (apart_symm k3) k4 k5)
        clear hown4 hgr4 hat4 k1 k2 k3 k4 k5
        go_wp2
        go_roundw
        case rel => exact ⟨i + 1, by omega, by go_num, HE⟩
        case measure => simp [intOf]; omega
    · have hltI : ¬ ((i : Int) < (l1.length : Int)) := by omega
      have hil : i = l1.length := by omega
      have hF2 := hF.out
      rw [hil] at hF2
      unfold SplI at hF2
      rw [List.take_length] at hF2
      obtain ⟨⟨hvi, hvo⟩, _, _, hb⟩ := hF2
      have HI := Lib.hid hvi.texts; have HO := Lib.hid hvo.texts; have HB := Lib.hid hb
      obtain ⟨xa, xc, hxi⟩ := hvi.shape
      obtain ⟨ya, yc, hxo⟩ := hvo.shape
      generalize (l1.filter (inB l2)).length = z1 at hxi
      generalize (l1.filter fun n => !inB l2 n).length = z2 at hxo
      subst hxi hxo
      clear hvi hvo hb hF hil H0
      go_wp2
      exact bodyPost_ret (v := .tuple #[.slice xa z1 xc, .slice ya z2 yc]) (by simp [results, Tryz.results37, go_sem]) rfl ⟨⟨_, _, rfl, HI.out, HO.out⟩, HB.out⟩
end Go.Proofs.YtdidgddcgjpokaaGreatDoor
