/- Merged: MakeTypeN, MakeStepN, MakeAllN, SpMk, SpRef, SpCopy, SsA, GvEq, GvCanR, GvCanS, FrNum, TySize, TyRVars, TyRPlain, TyRAllQ, TyRVars2. -/
import Derived.Test.YtjnlchhikdfifaaGreatDoorVa2
import Derived.Test.YtjnlchhikdfifaaGreatDoorVa3
import Derived.Test.YtjnlchhikdfifaaGreatDoorVa5
import Derived.Test.YtjnlchhikdfifaaGreatDoorVa1
import Derived.Shelf.Strconv.Itoa1
import Derived.Shelf.Strconv.Itoa2
import Derived.Lib.ItoaMem
import Derived.Lib.AppendIntMem
import Derived.Test.YtjnlchhikdfifaaGreatDoorVa4
import Derived.Deep.AppendLies
import Derived.Deep.RegionHeld3
import Derived.Deep.DrawnRows
import Derived.BigRegion
/- The types that are made of numbers: good ones, of a bounded text. -/
namespace Go.Proofs.YtjnlchhikdfifaaGreatDoor
open Go.RowKit
attribute [local go_sem] Oper.semAt_some
attribute [local go_sem ↓] Go.wp_at_zero Go.wp_at_succ

/-- What a maker of a type hands back. -/
def MadeN (B p : Nat) (a : Option Addr) (n c k m D : Nat) (w : World) (e : Ending) (w' : World) : Prop :=
  (∃ t u, e = .returned (tyV t u) ∧ (T.Good t ∧ Fits t ∧ (T.text t).length + 10 ≤ D) ∧ TyIn (fun k => w.heap.size ≤ k) w' t u) ∧ (∃ k', k' + 1 ≤ k + m ∧ SeqAt B p a n c k' w') ∧ MkFr B p w w'
/-- The end: the type is stored in the result's own block. -/
theorem made_fn {B p : Nat} {a : Option Addr} {n c k k' m D : Nat} {w W : World} {O : Obj} {t : T} {u x y z : Value} (hs : SeqAt B p a n c k' W) (hk : k' + 1 ≤ k + m) (hfr : MkFr B p (w.alloc O) W) (hp : p < w.heap.size)
    (_ : W.heap[w.heap.size]? = some (.cells #[.int .i64 0, .string ⟨#[]⟩, .slice none 0 0] 31 (0, 0))) (ht : TyIn (fun k => w.heap.size < k) W t u) (hg : T.Good t ∧ Fits t ∧ (T.text t).length + 10 ≤ D) :
    MadeN B p a n c k m D w (.returned (tyV t u)) (((W.setCell ⟨w.heap.size, 0, none⟩ x).setCell ⟨w.heap.size, 1, none⟩ y).setCell ⟨w.heap.size, 2, none⟩ z) := by
  have hk3 : ∀ i, i ≠ w.heap.size → (((W.setCell ⟨w.heap.size, 0, none⟩ x).setCell ⟨w.heap.size, 1, none⟩ y).setCell ⟨w.heap.size, 2, none⟩ z).heap[i]? = W.heap[i]? := fun i hi =>
    (Below.heap_setCell _ ⟨w.heap.size, 2, none⟩ _ i hi).trans ((Below.heap_setCell _ ⟨w.heap.size, 1, none⟩ _ i hi).trans (Below.heap_setCell _ ⟨w.heap.size, 0, none⟩ _ i hi))
  have hB := hs.1.1
  have hbel : Below B W (((W.setCell ⟨w.heap.size, 0, none⟩ x).setCell ⟨w.heap.size, 1, none⟩ y).setCell ⟨w.heap.size, 2, none⟩ z) :=
    (((Below.refl B W).setCell (p := ⟨w.heap.size, 0, none⟩) (by show B ≤ w.heap.size; omega) _).setCell (p := ⟨w.heap.size, 1, none⟩) (by show B ≤ w.heap.size; omega) _).setCell (p := ⟨w.heap.size, 2, none⟩) (by show B ≤ w.heap.size; omega) _
  refine ⟨⟨t, u, rfl, hg, (ht.keep fun k _ _ hk hh => (hk3 k (Nat.ne_of_gt hk)).trans hh).mono fun k hk => Nat.le_of_lt hk⟩, ⟨k', hk, ⟨hB, (hk3 p (by omega)).trans hs.1.2⟩, hs.2.keep hbel⟩, ?_, ?_⟩
  · exact (((Below.refl B w).alloc (by omega) O).trans hfr.1).trans hbel
  · intro i o hi hip
    have hlt := (Array.getElem?_eq_some_iff.1 hi).1
    exact (hk3 i (by omega)).trans (hfr.2 i o ((Below.heap_alloc w O i hlt).trans hi) hip)

theorem in_one {ok : Nat → Prop} {W : World} {t : T} {v : Value} (n : ByteArray) (hok : ok W.heap.size) (h : TyIn ok W t v) : TyIn ok (W.alloc (.cells #[.int .i64 t.kind, .string t.name, v] 31)) (.con n [t]) (.slice (some ⟨W.heap.size, 0, none⟩) 1 1) := by
  refine .row (.con n [t]) W.heap.size 1 #[.int .i64 t.kind, .string t.name, v] (0, 0) (fun _ => v) hok (alloc_new W _) (Nat.le_refl _) (fun i hi => ?_) (fun i hi => ?_)
  · obtain rfl : i = 0 := by simp [T.kids] at hi; exact hi
    exact ⟨rfl, rfl, rfl⟩
  · obtain rfl : i = 0 := by simp [T.kids] at hi; exact hi
    exact h.keep fun k _ _ _ hh => (Below.heap_alloc W _ k (Array.getElem?_eq_some_iff.1 hh).1).trans hh
theorem in_pair {ok : Nat → Prop} {W : World} {t t' c : T} {v v' : Value} {g : Nat} (hg : g = W.heap.size) (hc : c.kids = [t, t']) (hok : ok W.heap.size) (h : TyIn ok W t v) (h' : TyIn ok W t' v') : TyIn ok (W.alloc (.cells #[.int .i64 t.kind, .string t.name, v, .int .i64 t'.kind, .string t'.name, v'] 31)) c (.slice (some ⟨g, 0, none⟩) 2 2) := by
  subst hg
  have hl : c.kids.length = 2 := by rw [hc]; rfl
  have hkeep : ∀ (o : Obj) {t : T} {v : Value}, TyIn ok W t v → TyIn ok (W.alloc o) t v := fun o t v h => h.keep fun k _ _ _ hh => (Below.heap_alloc W _ k (Array.getElem?_eq_some_iff.1 hh).1).trans hh
  rw [show (Value.slice (some ⟨W.heap.size, 0, none⟩) 2 2) = .slice (some ⟨W.heap.size, 0, none⟩) c.kids.length 2 by rw [hl]]
  refine .row c W.heap.size 2 #[.int .i64 t.kind, .string t.name, v, .int .i64 t'.kind, .string t'.name, v'] (0, 0) (fun i => if i = 0 then v else v') hok (alloc_new W _) (by rw [hl]; exact Nat.le_refl _) (fun i hi => ?_) (fun i hi => ?_)
  · have hi2 : i < 2 := by omega
    have e : c.kids[i] = [t, t'][i] := by simp [hc]
    rw [e]
    match i, hi2 with
    | 0, _ => exact ⟨rfl, rfl, rfl⟩
    | 1, _ => exact ⟨rfl, rfl, rfl⟩
    | n + 2, h => omega
  · have hi2 : i < 2 := by omega
    have e : c.kids[i] = [t, t'][i] := by simp [hc]
    rw [e]
    match i, hi2 with
    | 0, _ => exact hkeep _ h
    | 1, _ => exact hkeep _ h'
    | n + 2, h => omega
set_option maxHeartbeats 1000000 in
theorem con_in {ok : Nat → Prop} (n : ByteArray) (a : Option Addr) (l : List T) (k c : Nat) (w : World) (h : TyIn ok w (.con n l) (.slice a k c)) :
    Calls Tryz.prog 53 #[.string n, .slice a k c] w fun e w' => (∃ u, e = .returned (tyV (.con n l) u) ∧ TyIn ok w' (.con n l) u) ∧ Below w.heap.size w w' := by
  have H := Lib.hid h; clear h
  go_enter Tryz.func53, Tryz.ntmps53
  go_wp2
  refine bodyPost_ret (v := tyV (.con n l) (.slice a k c)) (by simp [results, Tryz.results53, go_sem, tyV, T.kind, T.name]) rfl ⟨⟨_, rfl, H.out.keep fun k _ _ _ hh => (Below.heap_alloc w _ k (Array.getElem?_eq_some_iff.1 hh).1).trans hh⟩, (Below.refl _ w).alloc (Nat.le_refl _) _⟩
set_option maxHeartbeats 1000000 in
theorem fun2_in {ok : Nat → Prop} (x y : T) (a b : Option Addr) (c d : Nat) (w : World) (hok : ∀ k, w.heap.size ≤ k → ok k) (hx : TyIn ok w x (.slice a x.kids.length c)) (hy : TyIn ok w y (.slice b y.kids.length d)) :
    Calls Tryz.prog 54 #[tyV x (.slice a x.kids.length c), tyV y (.slice b y.kids.length d)] w fun e w' => (∃ u, e = .returned (tyV (.fn x y) u) ∧ TyIn ok w' (.fn x y) u) ∧ Below w.heap.size w w' := by
  have HX := Lib.hid hx; have HY := Lib.hid hy; have HK := Lib.hid hok
  clear hx hy hok
  simp only [tyV]
  go_enter Tryz.func54, Tryz.ntmps54
  go_wp2
  have k3 : ∀ (o1 o2 o3 : Obj) {t : T} {v : Value}, TyIn ok w t v → TyIn ok (((w.alloc o1).alloc o2).alloc o3) t v := fun o1 o2 o3 t v h => h.keep (fun k cs fz _ hh => (((keepT_alloc w o1).trans (keepT_alloc _ o2)).trans (keepT_alloc _ o3)) k cs fz hh)
  refine bodyPost_ret (v := .agg #[.int .i64 3, .string ⟨#[]⟩, .slice (some ⟨w.heap.size + 1 + 1 + 1, 0, none⟩) 2 2]) (by simp [results, Tryz.results54, go_sem]) rfl ⟨⟨_, rfl, ?_⟩, ?_⟩
  · exact in_pair (by simp) rfl (HK.out _ (by simp; omega)) (k3 _ _ _ HX.out) (k3 _ _ _ HY.out)
  · exact ((((Below.refl _ w).alloc (Nat.le_refl _) _).alloc (by simp) _).alloc (by simp; omega) _).alloc (by simp; omega) _

set_option maxHeartbeats 4000000 in
theorem make_n0 (B p : Nat) (a : Option Addr) (n c k : Nat) (w : World) (h : SeqAt B p a n c k w) (hk : k < 1152921504606846976) (hn : n < 1152921504606846976) :
    Calls Tryz.prog 24 #[.pointer (some ⟨p, 0, none⟩), .int .i64 0] w (MadeN B p a n c k 2 14 w) := by
  have hp := h.lt
  have HN := Lib.hid (fun o => next_any B p a n c k 9 (w.alloc o) (h.below ((Below.refl _ w).alloc (Nat.le_refl _) o)) (by decide) (by decide) hk hn)
  have HNe := Lib.hid (show w.heap.size ≠ p by omega)
  clear h
  go_enter Tryz.func24, Tryz.ntmps24
  go_wp2_with (go_at_call 30; refine (HN.out _).mono ?_)
  rintro e W1 ⟨⟨r, hr, rfl⟩, h1, h2⟩
  have hz := h2.2 _ _ (alloc_new w _) HNe.out
  obtain ⟨c0, c1, c2⟩ := three_cells hz
  have f0 := Lib.frozen_of_heap hz 0
  have f1 := Lib.frozen_of_heap hz 1
  have f2 := Lib.frozen_of_heap hz 2
  have HZ := Lib.hid hz; have H1 := Lib.hid h1; have H2 := Lib.hid h2
  have hzl := (Array.getElem?_eq_some_iff.1 hz).1
  clear hz h1 h2
  obtain ⟨z, hz⟩ : ∃ z : Int, (r : Int) = z := ⟨_, rfl⟩
  rw [hz]
  have h9 : z = 0 ∨ z = 1 ∨ z = 2 ∨ z = 3 ∨ z = 4 ∨ z = 5 ∨ z = 6 ∨ z = 7 ∨ z = 8 := by omega
  clear hz hr
  rcases h9 with rfl | rfl | rfl | rfl | rfl | rfl | rfl | rfl | rfl
  · go_wp2_with (go_at_call 25; refine (var_any _ _).mono ?_)
    rintro e W2 ⟨⟨u, rfl, hu⟩, hb⟩
    have HBT := Lib.hid (((Below.refl _ W1).alloc (Nat.le_refl _) _).trans (hb.mono (by simp)))
    clear hb
    obtain ⟨a2, n2, rfl⟩ := hu.shape
    have hz2 : W2.heap[w.heap.size]? = some (.cells #[.int .i64 0, .string ⟨#[]⟩, .slice none 0 0] 31 (0, 0)) := (HBT.out.block _ hzl).trans HZ.out
    obtain ⟨d0, d1, d2⟩ := three_cells hz2
    have g0 := Lib.frozen_of_heap hz2 0
    have g1 := Lib.frozen_of_heap hz2 1
    have g2 := Lib.frozen_of_heap hz2 2
    have HZ2 := Lib.hid hz2; have HU := Lib.hid hu
    clear hz2 hu c0 c1 c2 f0 f1 f2
    simp only [tyV, T.kind, T.name, List.length_nil]
    go_wp2
    exact bodyPost_ret (v := .agg #[.int .i64 1, .string ⟨#[97]⟩, .slice a2 0 n2]) (by have hc := set3_cells HZ2.out (.int .i64 1) (.string ⟨#[97]⟩) (.slice a2 0 n2); simp [results, Tryz.results24, go_sem, hc.1, hc.2.1, hc.2.2]) rfl (made_fn (t := .var ⟨#[97]⟩) (H1.out.below HBT.out) (by omega) (H2.out.trans (MkFr.of_below HBT.out (Nat.le_trans H1.out.1.1 (Nat.le_of_lt H1.out.lt)))) hp HZ2.out (.leaf _ _ _ rfl) (good_var (by decide) (by decide) (by decide)))
  · go_wp2_with (go_at_call 25; refine (var_any _ _).mono ?_)
    rintro e W2 ⟨⟨u, rfl, hu⟩, hb⟩
    have HBT := Lib.hid (((Below.refl _ W1).alloc (Nat.le_refl _) _).trans (hb.mono (by simp)))
    clear hb
    obtain ⟨a2, n2, rfl⟩ := hu.shape
    have hz2 : W2.heap[w.heap.size]? = some (.cells #[.int .i64 0, .string ⟨#[]⟩, .slice none 0 0] 31 (0, 0)) := (HBT.out.block _ hzl).trans HZ.out
    obtain ⟨d0, d1, d2⟩ := three_cells hz2
    have g0 := Lib.frozen_of_heap hz2 0
    have g1 := Lib.frozen_of_heap hz2 1
    have g2 := Lib.frozen_of_heap hz2 2
    have HZ2 := Lib.hid hz2; have HU := Lib.hid hu
    clear hz2 hu c0 c1 c2 f0 f1 f2
    simp only [tyV, T.kind, T.name, List.length_nil]
    go_wp2
    exact bodyPost_ret (v := .agg #[.int .i64 1, .string ⟨#[98]⟩, .slice a2 0 n2]) (by have hc := set3_cells HZ2.out (.int .i64 1) (.string ⟨#[98]⟩) (.slice a2 0 n2); simp [results, Tryz.results24, go_sem, hc.1, hc.2.1, hc.2.2]) rfl (made_fn (t := .var ⟨#[98]⟩) (H1.out.below HBT.out) (by omega) (H2.out.trans (MkFr.of_below HBT.out (Nat.le_trans H1.out.1.1 (Nat.le_of_lt H1.out.lt)))) hp HZ2.out (.leaf _ _ _ rfl) (good_var (by decide) (by decide) (by decide)))
  · go_wp2_with (go_at_call 25; refine (var_any _ _).mono ?_)
    rintro e W2 ⟨⟨u, rfl, hu⟩, hb⟩
    have HBT := Lib.hid (((Below.refl _ W1).alloc (Nat.le_refl _) _).trans (hb.mono (by simp)))
    clear hb
    obtain ⟨a2, n2, rfl⟩ := hu.shape
    have hz2 : W2.heap[w.heap.size]? = some (.cells #[.int .i64 0, .string ⟨#[]⟩, .slice none 0 0] 31 (0, 0)) := (HBT.out.block _ hzl).trans HZ.out
    obtain ⟨d0, d1, d2⟩ := three_cells hz2
    have g0 := Lib.frozen_of_heap hz2 0
    have g1 := Lib.frozen_of_heap hz2 1
    have g2 := Lib.frozen_of_heap hz2 2
    have HZ2 := Lib.hid hz2; have HU := Lib.hid hu
    clear hz2 hu c0 c1 c2 f0 f1 f2
    simp only [tyV, T.kind, T.name, List.length_nil]
    go_wp2
    exact bodyPost_ret (v := .agg #[.int .i64 1, .string ⟨#[99]⟩, .slice a2 0 n2]) (by have hc := set3_cells HZ2.out (.int .i64 1) (.string ⟨#[99]⟩) (.slice a2 0 n2); simp [results, Tryz.results24, go_sem, hc.1, hc.2.1, hc.2.2]) rfl (made_fn (t := .var ⟨#[99]⟩) (H1.out.below HBT.out) (by omega) (H2.out.trans (MkFr.of_below HBT.out (Nat.le_trans H1.out.1.1 (Nat.le_of_lt H1.out.lt)))) hp HZ2.out (.leaf _ _ _ rfl) (good_var (by decide) (by decide) (by decide)))
  · go_wp2_with (go_at_call 53; refine (con_any _ none [] 0 0 _ (TysAt.nil _ _ _)).mono ?_)
    rintro e W2 ⟨⟨u, rfl, hu⟩, hb⟩
    have HBT := Lib.hid hb
    clear hb
    obtain ⟨a2, n2, rfl⟩ := hu.shape
    have hz2 : W2.heap[w.heap.size]? = some (.cells #[.int .i64 0, .string ⟨#[]⟩, .slice none 0 0] 31 (0, 0)) := (HBT.out.block _ hzl).trans HZ.out
    obtain ⟨d0, d1, d2⟩ := three_cells hz2
    have g0 := Lib.frozen_of_heap hz2 0
    have g1 := Lib.frozen_of_heap hz2 1
    have g2 := Lib.frozen_of_heap hz2 2
    have HZ2 := Lib.hid hz2; have HU := Lib.hid hu
    clear hz2 hu c0 c1 c2 f0 f1 f2
    simp only [tyV, T.kind, T.name, List.length_nil]
    go_wp2
    exact bodyPost_ret (v := .agg #[.int .i64 2, .string ⟨#[73, 110, 116]⟩, .slice a2 0 n2]) (by have hc := set3_cells HZ2.out (.int .i64 2) (.string ⟨#[73, 110, 116]⟩) (.slice a2 0 n2); simp [results, Tryz.results24, go_sem, hc.1, hc.2.1, hc.2.2]) rfl (made_fn (t := .con ⟨#[73, 110, 116]⟩ []) (H1.out.below HBT.out) (by omega) (H2.out.trans (MkFr.of_below HBT.out (Nat.le_trans H1.out.1.1 (Nat.le_of_lt H1.out.lt)))) hp HZ2.out (.leaf _ _ _ rfl) (good_con0 (by decide) (by decide) (by decide)))
  · go_wp2_with (go_at_call 53; refine (con_any _ none [] 0 0 _ (TysAt.nil _ _ _)).mono ?_)
    rintro e W2 ⟨⟨u, rfl, hu⟩, hb⟩
    have HBT := Lib.hid hb
    clear hb
    obtain ⟨a2, n2, rfl⟩ := hu.shape
    have hz2 : W2.heap[w.heap.size]? = some (.cells #[.int .i64 0, .string ⟨#[]⟩, .slice none 0 0] 31 (0, 0)) := (HBT.out.block _ hzl).trans HZ.out
    obtain ⟨d0, d1, d2⟩ := three_cells hz2
    have g0 := Lib.frozen_of_heap hz2 0
    have g1 := Lib.frozen_of_heap hz2 1
    have g2 := Lib.frozen_of_heap hz2 2
    have HZ2 := Lib.hid hz2; have HU := Lib.hid hu
    clear hz2 hu c0 c1 c2 f0 f1 f2
    simp only [tyV, T.kind, T.name, List.length_nil]
    go_wp2
    exact bodyPost_ret (v := .agg #[.int .i64 2, .string ⟨#[66, 111, 111, 108]⟩, .slice a2 0 n2]) (by have hc := set3_cells HZ2.out (.int .i64 2) (.string ⟨#[66, 111, 111, 108]⟩) (.slice a2 0 n2); simp [results, Tryz.results24, go_sem, hc.1, hc.2.1, hc.2.2]) rfl (made_fn (t := .con ⟨#[66, 111, 111, 108]⟩ []) (H1.out.below HBT.out) (by omega) (H2.out.trans (MkFr.of_below HBT.out (Nat.le_trans H1.out.1.1 (Nat.le_of_lt H1.out.lt)))) hp HZ2.out (.leaf _ _ _ rfl) (good_con0 (by decide) (by decide) (by decide)))
  · go_wp2_with (go_at_call 25; refine (var_any _ _).mono ?_)
    rintro e W2 ⟨⟨u, rfl, hu⟩, hb⟩
    have HBT := Lib.hid (((Below.refl _ W1).alloc (Nat.le_refl _) _).trans (hb.mono (by simp)))
    clear hb
    obtain ⟨a2, n2, rfl⟩ := hu.shape
    have hz2 : W2.heap[w.heap.size]? = some (.cells #[.int .i64 0, .string ⟨#[]⟩, .slice none 0 0] 31 (0, 0)) := (HBT.out.block _ hzl).trans HZ.out
    obtain ⟨d0, d1, d2⟩ := three_cells hz2
    have g0 := Lib.frozen_of_heap hz2 0
    have g1 := Lib.frozen_of_heap hz2 1
    have g2 := Lib.frozen_of_heap hz2 2
    have HZ2 := Lib.hid hz2; have HU := Lib.hid hu
    clear hz2 hu c0 c1 c2 f0 f1 f2
    simp only [tyV, T.kind, T.name, List.length_nil]
    go_wp2
    exact bodyPost_ret (v := .agg #[.int .i64 1, .string ⟨#[97]⟩, .slice a2 0 n2]) (by have hc := set3_cells HZ2.out (.int .i64 1) (.string ⟨#[97]⟩) (.slice a2 0 n2); simp [results, Tryz.results24, go_sem, hc.1, hc.2.1, hc.2.2]) rfl (made_fn (t := .var ⟨#[97]⟩) (H1.out.below HBT.out) (by omega) (H2.out.trans (MkFr.of_below HBT.out (Nat.le_trans H1.out.1.1 (Nat.le_of_lt H1.out.lt)))) hp HZ2.out (.leaf _ _ _ rfl) (good_var (by decide) (by decide) (by decide)))
  · go_wp2_with (go_at_call 25; refine (var_any _ _).mono ?_)
    rintro e W2 ⟨⟨u, rfl, hu⟩, hb⟩
    have HBT := Lib.hid (((Below.refl _ W1).alloc (Nat.le_refl _) _).trans (hb.mono (by simp)))
    clear hb
    obtain ⟨a2, n2, rfl⟩ := hu.shape
    have hz2 : W2.heap[w.heap.size]? = some (.cells #[.int .i64 0, .string ⟨#[]⟩, .slice none 0 0] 31 (0, 0)) := (HBT.out.block _ hzl).trans HZ.out
    obtain ⟨d0, d1, d2⟩ := three_cells hz2
    have g0 := Lib.frozen_of_heap hz2 0
    have g1 := Lib.frozen_of_heap hz2 1
    have g2 := Lib.frozen_of_heap hz2 2
    have HZ2 := Lib.hid hz2; have HU := Lib.hid hu
    clear hz2 hu c0 c1 c2 f0 f1 f2
    simp only [tyV, T.kind, T.name, List.length_nil]
    go_wp2
    exact bodyPost_ret (v := .agg #[.int .i64 1, .string ⟨#[98]⟩, .slice a2 0 n2]) (by have hc := set3_cells HZ2.out (.int .i64 1) (.string ⟨#[98]⟩) (.slice a2 0 n2); simp [results, Tryz.results24, go_sem, hc.1, hc.2.1, hc.2.2]) rfl (made_fn (t := .var ⟨#[98]⟩) (H1.out.below HBT.out) (by omega) (H2.out.trans (MkFr.of_below HBT.out (Nat.le_trans H1.out.1.1 (Nat.le_of_lt H1.out.lt)))) hp HZ2.out (.leaf _ _ _ rfl) (good_var (by decide) (by decide) (by decide)))
  · go_wp2_with (go_at_call 25; refine (var_any _ _).mono ?_)
    rintro e W2 ⟨⟨u, rfl, hu⟩, hb⟩
    have HBT := Lib.hid (((Below.refl _ W1).alloc (Nat.le_refl _) _).trans (hb.mono (by simp)))
    clear hb
    obtain ⟨a2, n2, rfl⟩ := hu.shape
    have hz2 : W2.heap[w.heap.size]? = some (.cells #[.int .i64 0, .string ⟨#[]⟩, .slice none 0 0] 31 (0, 0)) := (HBT.out.block _ hzl).trans HZ.out
    obtain ⟨d0, d1, d2⟩ := three_cells hz2
    have g0 := Lib.frozen_of_heap hz2 0
    have g1 := Lib.frozen_of_heap hz2 1
    have g2 := Lib.frozen_of_heap hz2 2
    have HZ2 := Lib.hid hz2; have HU := Lib.hid hu
    clear hz2 hu c0 c1 c2 f0 f1 f2
    simp only [tyV, T.kind, T.name, List.length_nil]
    go_wp2
    exact bodyPost_ret (v := .agg #[.int .i64 1, .string ⟨#[99]⟩, .slice a2 0 n2]) (by have hc := set3_cells HZ2.out (.int .i64 1) (.string ⟨#[99]⟩) (.slice a2 0 n2); simp [results, Tryz.results24, go_sem, hc.1, hc.2.1, hc.2.2]) rfl (made_fn (t := .var ⟨#[99]⟩) (H1.out.below HBT.out) (by omega) (H2.out.trans (MkFr.of_below HBT.out (Nat.le_trans H1.out.1.1 (Nat.le_of_lt H1.out.lt)))) hp HZ2.out (.leaf _ _ _ rfl) (good_var (by decide) (by decide) (by decide)))
  · go_wp2_with (go_at_call 53; refine (con_any _ none [] 0 0 _ (TysAt.nil _ _ _)).mono ?_)
    rintro e W2 ⟨⟨u, rfl, hu⟩, hb⟩
    have HBT := Lib.hid hb
    clear hb
    obtain ⟨a2, n2, rfl⟩ := hu.shape
    have hz2 : W2.heap[w.heap.size]? = some (.cells #[.int .i64 0, .string ⟨#[]⟩, .slice none 0 0] 31 (0, 0)) := (HBT.out.block _ hzl).trans HZ.out
    obtain ⟨d0, d1, d2⟩ := three_cells hz2
    have g0 := Lib.frozen_of_heap hz2 0
    have g1 := Lib.frozen_of_heap hz2 1
    have g2 := Lib.frozen_of_heap hz2 2
    have HZ2 := Lib.hid hz2; have HU := Lib.hid hu
    clear hz2 hu c0 c1 c2 f0 f1 f2
    simp only [tyV, T.kind, T.name, List.length_nil]
    go_wp2
    exact bodyPost_ret (v := .agg #[.int .i64 2, .string ⟨#[73, 110, 116]⟩, .slice a2 0 n2]) (by have hc := set3_cells HZ2.out (.int .i64 2) (.string ⟨#[73, 110, 116]⟩) (.slice a2 0 n2); simp [results, Tryz.results24, go_sem, hc.1, hc.2.1, hc.2.2]) rfl (made_fn (t := .con ⟨#[73, 110, 116]⟩ []) (H1.out.below HBT.out) (by omega) (H2.out.trans (MkFr.of_below HBT.out (Nat.le_trans H1.out.1.1 (Nat.le_of_lt H1.out.lt)))) hp HZ2.out (.leaf _ _ _ rfl) (good_con0 (by decide) (by decide) (by decide)))

end Go.Proofs.YtjnlchhikdfifaaGreatDoor
/- The types that are made of numbers: a level more. -/
namespace Go.Proofs.YtjnlchhikdfifaaGreatDoor
open Go.RowKit
attribute [local go_sem] Oper.semAt_some
attribute [local go_sem ↓] Go.wp_at_zero Go.wp_at_succ

set_option maxHeartbeats 4000000 in
theorem make_stepN (d : Int) (hd1 : 1 ≤ d) (hd2 : d ≤ 100) (M D : Nat) (hM : 2 ≤ M) (hD : 14 ≤ D) (B p : Nat) (a : Option Addr) (n c k : Nat) (w : World) (h : SeqAt B p a n c k w) (hk : k + 2 * M < 1152921504606846976) (hn : n < 1152921504606846976)
    (IH : ∀ k w, SeqAt B p a n c k w → k + M < 1152921504606846976 → Calls Tryz.prog 24 #[.pointer (some ⟨p, 0, none⟩), .int .i64 (d - 1)] w (MadeN B p a n c k M D w)) :
    Calls Tryz.prog 24 #[.pointer (some ⟨p, 0, none⟩), .int .i64 d] w (MadeN B p a n c k (2 * M) (2 * D) w) := by
  have hp := h.lt
  have HN := Lib.hid (fun o => next_any B p a n c k 9 (w.alloc o) (h.below ((Below.refl _ w).alloc (Nat.le_refl _) o)) (by decide) (by decide) (by omega) hn)
  have HNe := Lib.hid (show w.heap.size ≠ p by omega)
  have hw : IntKind.i64.wrap (d - 1) = d - 1 := by rw [IntKind.wrap_i64]; omega
  have HI := Lib.hid IH
  have HI2 := Lib.hid IH
  rw [← hw] at HI2
  clear hw
  clear h IH
  go_enter Tryz.func24, Tryz.ntmps24
  go_wp2_with (go_at_call 30; refine (HN.out _).mono ?_)
  rintro e W1 ⟨⟨r, hr, rfl⟩, h1, h2⟩
  have hz := h2.2 _ _ (alloc_new w _) HNe.out
  obtain ⟨c0, c1, c2⟩ := three_cells hz
  have f0 := Lib.frozen_of_heap hz 0
  have f1 := Lib.frozen_of_heap hz 1
  have f2 := Lib.frozen_of_heap hz 2
  have HZ := Lib.hid hz; have H1 := Lib.hid h1; have H2 := Lib.hid h2
  have hzl := (Array.getElem?_eq_some_iff.1 hz).1
  clear hz h1 h2
  obtain ⟨z, hz⟩ : ∃ z : Int, (r : Int) = z := ⟨_, rfl⟩
  rw [hz]
  have h9 : z = 0 ∨ z = 1 ∨ z = 2 ∨ z = 3 ∨ z = 4 ∨ z = 5 ∨ z = 6 ∨ z = 7 ∨ z = 8 := by omega
  clear hz hr
  rcases h9 with rfl | rfl | rfl | rfl | rfl | rfl | rfl | rfl | rfl
  · go_wp2_with (go_at_call 25; refine (var_any _ _).mono ?_)
    rintro e W2 ⟨⟨u, rfl, hu⟩, hb⟩
    have HBT := Lib.hid (((Below.refl _ W1).alloc (Nat.le_refl _) _).trans (hb.mono (by simp)))
    clear hb
    obtain ⟨a2, n2, rfl⟩ := hu.shape
    have hz2 : W2.heap[w.heap.size]? = some (.cells #[.int .i64 0, .string ⟨#[]⟩, .slice none 0 0] 31 (0, 0)) := (HBT.out.block _ hzl).trans HZ.out
    obtain ⟨d0, d1, d2⟩ := three_cells hz2
    have g0 := Lib.frozen_of_heap hz2 0
    have g1 := Lib.frozen_of_heap hz2 1
    have g2 := Lib.frozen_of_heap hz2 2
    have HZ2 := Lib.hid hz2; have HU := Lib.hid hu
    clear hz2 hu c0 c1 c2 f0 f1 f2
    simp only [tyV, T.kind, T.name, List.length_nil]
    go_wp2
    exact bodyPost_ret (v := .agg #[.int .i64 1, .string ⟨#[97]⟩, .slice a2 0 n2]) (by have hc := set3_cells HZ2.out (.int .i64 1) (.string ⟨#[97]⟩) (.slice a2 0 n2); simp [results, Tryz.results24, go_sem, hc.1, hc.2.1, hc.2.2]) rfl (made_fn (t := .var ⟨#[97]⟩) (H1.out.below HBT.out) (by omega) (H2.out.trans (MkFr.of_below HBT.out (Nat.le_trans H1.out.1.1 (Nat.le_of_lt H1.out.lt)))) hp HZ2.out (.leaf _ _ _ rfl) (good_var (by decide) (by decide) (by omega)))
  · go_wp2_with (go_at_call 25; refine (var_any _ _).mono ?_)
    rintro e W2 ⟨⟨u, rfl, hu⟩, hb⟩
    have HBT := Lib.hid (((Below.refl _ W1).alloc (Nat.le_refl _) _).trans (hb.mono (by simp)))
    clear hb
    obtain ⟨a2, n2, rfl⟩ := hu.shape
    have hz2 : W2.heap[w.heap.size]? = some (.cells #[.int .i64 0, .string ⟨#[]⟩, .slice none 0 0] 31 (0, 0)) := (HBT.out.block _ hzl).trans HZ.out
    obtain ⟨d0, d1, d2⟩ := three_cells hz2
    have g0 := Lib.frozen_of_heap hz2 0
    have g1 := Lib.frozen_of_heap hz2 1
    have g2 := Lib.frozen_of_heap hz2 2
    have HZ2 := Lib.hid hz2; have HU := Lib.hid hu
    clear hz2 hu c0 c1 c2 f0 f1 f2
    simp only [tyV, T.kind, T.name, List.length_nil]
    go_wp2
    exact bodyPost_ret (v := .agg #[.int .i64 1, .string ⟨#[98]⟩, .slice a2 0 n2]) (by have hc := set3_cells HZ2.out (.int .i64 1) (.string ⟨#[98]⟩) (.slice a2 0 n2); simp [results, Tryz.results24, go_sem, hc.1, hc.2.1, hc.2.2]) rfl (made_fn (t := .var ⟨#[98]⟩) (H1.out.below HBT.out) (by omega) (H2.out.trans (MkFr.of_below HBT.out (Nat.le_trans H1.out.1.1 (Nat.le_of_lt H1.out.lt)))) hp HZ2.out (.leaf _ _ _ rfl) (good_var (by decide) (by decide) (by omega)))
  · go_wp2_with (go_at_call 25; refine (var_any _ _).mono ?_)
    rintro e W2 ⟨⟨u, rfl, hu⟩, hb⟩
    have HBT := Lib.hid (((Below.refl _ W1).alloc (Nat.le_refl _) _).trans (hb.mono (by simp)))
    clear hb
    obtain ⟨a2, n2, rfl⟩ := hu.shape
    have hz2 : W2.heap[w.heap.size]? = some (.cells #[.int .i64 0, .string ⟨#[]⟩, .slice none 0 0] 31 (0, 0)) := (HBT.out.block _ hzl).trans HZ.out
    obtain ⟨d0, d1, d2⟩ := three_cells hz2
    have g0 := Lib.frozen_of_heap hz2 0
    have g1 := Lib.frozen_of_heap hz2 1
    have g2 := Lib.frozen_of_heap hz2 2
    have HZ2 := Lib.hid hz2; have HU := Lib.hid hu
    clear hz2 hu c0 c1 c2 f0 f1 f2
    simp only [tyV, T.kind, T.name, List.length_nil]
    go_wp2
    exact bodyPost_ret (v := .agg #[.int .i64 1, .string ⟨#[99]⟩, .slice a2 0 n2]) (by have hc := set3_cells HZ2.out (.int .i64 1) (.string ⟨#[99]⟩) (.slice a2 0 n2); simp [results, Tryz.results24, go_sem, hc.1, hc.2.1, hc.2.2]) rfl (made_fn (t := .var ⟨#[99]⟩) (H1.out.below HBT.out) (by omega) (H2.out.trans (MkFr.of_below HBT.out (Nat.le_trans H1.out.1.1 (Nat.le_of_lt H1.out.lt)))) hp HZ2.out (.leaf _ _ _ rfl) (good_var (by decide) (by decide) (by omega)))
  · go_wp2_with (go_at_call 53; refine (con_any _ none [] 0 0 _ (TysAt.nil _ _ _)).mono ?_)
    rintro e W2 ⟨⟨u, rfl, hu⟩, hb⟩
    have HBT := Lib.hid hb
    clear hb
    obtain ⟨a2, n2, rfl⟩ := hu.shape
    have hz2 : W2.heap[w.heap.size]? = some (.cells #[.int .i64 0, .string ⟨#[]⟩, .slice none 0 0] 31 (0, 0)) := (HBT.out.block _ hzl).trans HZ.out
    obtain ⟨d0, d1, d2⟩ := three_cells hz2
    have g0 := Lib.frozen_of_heap hz2 0
    have g1 := Lib.frozen_of_heap hz2 1
    have g2 := Lib.frozen_of_heap hz2 2
    have HZ2 := Lib.hid hz2; have HU := Lib.hid hu
    clear hz2 hu c0 c1 c2 f0 f1 f2
    simp only [tyV, T.kind, T.name, List.length_nil]
    go_wp2
    exact bodyPost_ret (v := .agg #[.int .i64 2, .string ⟨#[73, 110, 116]⟩, .slice a2 0 n2]) (by have hc := set3_cells HZ2.out (.int .i64 2) (.string ⟨#[73, 110, 116]⟩) (.slice a2 0 n2); simp [results, Tryz.results24, go_sem, hc.1, hc.2.1, hc.2.2]) rfl (made_fn (t := .con ⟨#[73, 110, 116]⟩ []) (H1.out.below HBT.out) (by omega) (H2.out.trans (MkFr.of_below HBT.out (Nat.le_trans H1.out.1.1 (Nat.le_of_lt H1.out.lt)))) hp HZ2.out (.leaf _ _ _ rfl) (good_con0 (by decide) (by decide) (by omega)))
  · go_wp2_with (go_at_call 53; refine (con_any _ none [] 0 0 _ (TysAt.nil _ _ _)).mono ?_)
    rintro e W2 ⟨⟨u, rfl, hu⟩, hb⟩
    have HBT := Lib.hid hb
    clear hb
    obtain ⟨a2, n2, rfl⟩ := hu.shape
    have hz2 : W2.heap[w.heap.size]? = some (.cells #[.int .i64 0, .string ⟨#[]⟩, .slice none 0 0] 31 (0, 0)) := (HBT.out.block _ hzl).trans HZ.out
    obtain ⟨d0, d1, d2⟩ := three_cells hz2
    have g0 := Lib.frozen_of_heap hz2 0
    have g1 := Lib.frozen_of_heap hz2 1
    have g2 := Lib.frozen_of_heap hz2 2
    have HZ2 := Lib.hid hz2; have HU := Lib.hid hu
    clear hz2 hu c0 c1 c2 f0 f1 f2
    simp only [tyV, T.kind, T.name, List.length_nil]
    go_wp2
    exact bodyPost_ret (v := .agg #[.int .i64 2, .string ⟨#[66, 111, 111, 108]⟩, .slice a2 0 n2]) (by have hc := set3_cells HZ2.out (.int .i64 2) (.string ⟨#[66, 111, 111, 108]⟩) (.slice a2 0 n2); simp [results, Tryz.results24, go_sem, hc.1, hc.2.1, hc.2.2]) rfl (made_fn (t := .con ⟨#[66, 111, 111, 108]⟩ []) (H1.out.below HBT.out) (by omega) (H2.out.trans (MkFr.of_below HBT.out (Nat.le_trans H1.out.1.1 (Nat.le_of_lt H1.out.lt)))) hp HZ2.out (.leaf _ _ _ rfl) (good_con0 (by decide) (by decide) (by omega)))
  · go_wp2_with (go_at_call 24; refine (HI.out _ _ H1.out (by omega)).mono ?_)
    rintro e W2 ⟨⟨t, u, rfl, hg, hu⟩, ⟨k2, hk2, hs2⟩, hf2⟩
    obtain ⟨a2, n2, rfl⟩ := hu.shape
    have hz2 := hf2.2 _ _ HZ.out HNe.out
    have hzl2 := (Array.getElem?_eq_some_iff.1 hz2).1
    have HZ2 := Lib.hid hz2; have HU := Lib.hid hu; have HS2 := Lib.hid hs2; have HF2 := Lib.hid hf2; have HG := Lib.hid hg
    clear hz2 hu hs2 hf2 hg c0 c1 c2 f0 f1 f2
    simp only [tyV]
    go_wp2_with (go_at_call 53; refine (con_in (ok := fun k => w.heap.size < k) _ _ [t] 1 1 _ (in_one _ hzl2 (HU.out.mono fun k hk => Nat.lt_of_lt_of_le hzl hk))).mono ?_)
    rintro e W3 ⟨⟨u3, rfl, hu3⟩, hb⟩
    obtain ⟨a3, n3, rfl⟩ := hu3.shape
    have HBT := Lib.hid (((Below.refl _ W2).alloc (Nat.le_refl _) _).trans (hb.mono (by simp)))
    have hz3 : W3.heap[w.heap.size]? = some (.cells #[.int .i64 0, .string ⟨#[]⟩, .slice none 0 0] 31 (0, 0)) := (HBT.out.block _ hzl2).trans HZ2.out
    obtain ⟨d0, d1, d2⟩ := three_cells hz3
    have g0 := Lib.frozen_of_heap hz3 0
    have g1 := Lib.frozen_of_heap hz3 1
    have g2 := Lib.frozen_of_heap hz3 2
    have HZ3 := Lib.hid hz3; have HU3 := Lib.hid hu3
    clear hz3 hu3 hb
    simp only [tyV, show (T.con ⟨#[76, 105, 115, 116]⟩ [t]).kind = 2 from rfl, show (T.con ⟨#[76, 105, 115, 116]⟩ [t]).name = ⟨#[76, 105, 115, 116]⟩ from rfl, show (T.con ⟨#[76, 105, 115, 116]⟩ [t]).kids.length = 1 from rfl]
    go_wp2
    exact bodyPost_ret (v := .agg #[.int .i64 2, .string ⟨#[76, 105, 115, 116]⟩, .slice a3 1 n3]) (by have hc := set3_cells HZ3.out (.int .i64 2) (.string ⟨#[76, 105, 115, 116]⟩) (.slice a3 1 n3); simp [results, Tryz.results24, go_sem, hc.1, hc.2.1, hc.2.2]) rfl (made_fn (t := .con ⟨#[76, 105, 115, 116]⟩ [t]) (HS2.out.below HBT.out) (by omega) ((H2.out.trans HF2.out).trans (MkFr.of_below HBT.out (Nat.le_trans HS2.out.1.1 (Nat.le_of_lt HS2.out.lt)))) hp HZ3.out HU3.out (good_con1 (by decide) (by decide) HG.out (Nat.le_refl _) hD))
  · go_wp2_with (go_at_call 24; refine (HI.out _ _ H1.out (by omega)).mono ?_)
    rintro e W2 ⟨⟨t, u, rfl, hg, hu⟩, ⟨k2, hk2, hs2⟩, hf2⟩
    obtain ⟨a2, n2, rfl⟩ := hu.shape
    have hz2 := hf2.2 _ _ HZ.out HNe.out
    have hzl2 := (Array.getElem?_eq_some_iff.1 hz2).1
    have HZ2 := Lib.hid hz2; have HU := Lib.hid hu; have HS2 := Lib.hid hs2; have HF2 := Lib.hid hf2; have HG := Lib.hid hg
    clear hz2 hu hs2 hf2 hg c0 c1 c2 f0 f1 f2
    simp only [tyV]
    go_wp2_with fail
    have hbx := alloc_new W2 (.cells #[.int .i64 t.kind, .string t.name, .slice a2 t.kids.length n2] 31)
    have HBX := Lib.hid hbx
    have hne2 : W2.heap.size ≠ p := by have := HS2.out.lt; omega
    have HNe2 := Lib.hid hne2
    clear hbx hne2
    go_region_with (first
      | (go_at_call 24; refine (HI2.out k2 _ ?hs ?hk).mono ?_; (case hs => exact SeqAt.drew (HS2.out.below ((Below.refl _ W2).alloc (Nat.le_refl _) _))); (case hk => omega); rintro e W3 ⟨⟨t3, u3, rfl, hg3, hu3⟩, ⟨k3, hk3, hs3⟩, hf3'⟩; have hf3 := MkFr.of_drew hf3'; clear hf3'; obtain ⟨a3, n3, rfl⟩ := hu3.shape; have hbx3 := hf3.2 _ _ HBX.out HNe2.out; obtain ⟨x0, x1, x2⟩ := three_cells hbx3; have hz3 := hf3.2 _ _ ((Below.heap_alloc W2 _ _ hzl2).trans HZ2.out) HNe.out; have hzl3 := (Array.getElem?_eq_some_iff.1 hz3).1; have HZ3 := Lib.hid hz3; have HS3 := Lib.hid hs3; have HF3 := Lib.hid hf3; have HG3 := Lib.hid hg3; have HUt := Lib.hid ((HU.out.mono (ok' := fun k => w.heap.size < k) fun k hk => Nat.lt_of_lt_of_le hzl hk).keep (fun k cs fz _ hh => ((keepT_alloc W2 _).trans (KeepT.of_mk hf3 (HS2.out.below ((Below.refl _ W2).alloc (Nat.le_refl _) _)))) k cs fz hh)); have hu3' : TyIn (fun k => w.heap.size < k) W3 t3 (.slice a3 t3.kids.length n3) := hu3.mono (fun k hk => by have h9 : (W2.alloc (.cells #[.int .i64 t.kind, .string t.name, .slice a2 t.kids.length n2] 31)).heap.size ≤ k := hk; simp at h9; omega); have HU3 := Lib.hid hu3'; clear hz3 hs3 hf3 hu3 hu3' hg3 hbx3; simp only [tyV])
      | (go_at_call 53; refine (con_in (ok := fun k => w.heap.size < k) _ _ [t, t3] 2 2 _ (in_pair rfl rfl hzl3 HUt.out HU3.out)).mono ?_; rintro e W4 ⟨⟨u4, rfl, hu4⟩, hb4⟩; obtain ⟨a4, n4, rfl⟩ := hu4.shape; have HBT := Lib.hid (((Below.refl _ W3).alloc (Nat.le_refl _) _).trans (hb4.mono (by simp))); have hz4 : W4.heap[w.heap.size]? = some (.cells #[.int .i64 0, .string ⟨#[]⟩, .slice none 0 0] 31 (0, 0)) := (HBT.out.block _ hzl3).trans HZ3.out; obtain ⟨d0, d1, d2⟩ := three_cells hz4; have g0 := Lib.frozen_of_heap hz4 0; have g1 := Lib.frozen_of_heap hz4 1; have g2 := Lib.frozen_of_heap hz4 2; have HZ4 := Lib.hid hz4; have HU4 := Lib.hid hu4; clear hz4 hu4 hb4; simp only [tyV, show (T.con ⟨#[80, 97, 105, 114]⟩ [t, t3]).kind = 2 from rfl, show (T.con ⟨#[80, 97, 105, 114]⟩ [t, t3]).name = ⟨#[80, 97, 105, 114]⟩ from rfl, show (T.con ⟨#[80, 97, 105, 114]⟩ [t, t3]).kids.length = 2 from rfl]))
    all_goals go_wp2
    all_goals exact bodyPost_ret (v := .agg #[.int .i64 2, .string ⟨#[80, 97, 105, 114]⟩, .slice a4 2 n4]) (by have hc := set3_cells HZ4.out (.int .i64 2) (.string ⟨#[80, 97, 105, 114]⟩) (.slice a4 2 n4); simp [results, Tryz.results24, go_sem, hc.1, hc.2.1, hc.2.2]) rfl (made_fn (t := T.con ⟨#[80, 97, 105, 114]⟩ [t, t3]) (HS3.out.below HBT.out) (by omega) (((H2.out.trans HF2.out).trans ((MkFr.of_below ((Below.refl _ W2).alloc (Nat.le_refl _) _) (Nat.le_trans HS2.out.1.1 (Nat.le_of_lt HS2.out.lt))).trans HF3.out)).trans (MkFr.of_below HBT.out (Nat.le_trans HS3.out.1.1 (Nat.le_of_lt HS3.out.lt)))) hp HZ4.out HU4.out (good_con2 (by decide) (by decide) HG.out HG3.out (Nat.le_refl _)))
  · go_wp2_with (go_at_call 24; refine (HI.out _ _ H1.out (by omega)).mono ?_)
    rintro e W2 ⟨⟨t, u, rfl, hg, hu⟩, ⟨k2, hk2, hs2⟩, hf2⟩
    obtain ⟨a2, n2, rfl⟩ := hu.shape
    have hz2 := hf2.2 _ _ HZ.out HNe.out
    have hzl2 := (Array.getElem?_eq_some_iff.1 hz2).1
    have HZ2 := Lib.hid hz2; have HU := Lib.hid hu; have HS2 := Lib.hid hs2; have HF2 := Lib.hid hf2; have HG := Lib.hid hg
    clear hz2 hu hs2 hf2 hg c0 c1 c2 f0 f1 f2
    simp only [tyV]
    go_wp2_with fail
    have hbx := alloc_new W2 (.cells #[.int .i64 t.kind, .string t.name, .slice a2 t.kids.length n2] 31)
    have HBX := Lib.hid hbx
    have hne2 : W2.heap.size ≠ p := by have := HS2.out.lt; omega
    have HNe2 := Lib.hid hne2
    clear hbx hne2
    go_region_with (first
      | (go_at_call 24; refine (HI2.out k2 _ ?hs ?hk).mono ?_; (case hs => exact SeqAt.drew (HS2.out.below ((Below.refl _ W2).alloc (Nat.le_refl _) _))); (case hk => omega); rintro e W3 ⟨⟨t3, u3, rfl, hg3, hu3⟩, ⟨k3, hk3, hs3⟩, hf3'⟩; have hf3 := MkFr.of_drew hf3'; clear hf3'; obtain ⟨a3, n3, rfl⟩ := hu3.shape; have hbx3 := hf3.2 _ _ HBX.out HNe2.out; obtain ⟨x0, x1, x2⟩ := three_cells hbx3; have hz3 := hf3.2 _ _ ((Below.heap_alloc W2 _ _ hzl2).trans HZ2.out) HNe.out; have hzl3 := (Array.getElem?_eq_some_iff.1 hz3).1; have HZ3 := Lib.hid hz3; have HS3 := Lib.hid hs3; have HF3 := Lib.hid hf3; have HG3 := Lib.hid hg3; have HUt := Lib.hid ((HU.out.mono (ok' := fun k => w.heap.size < k) fun k hk => Nat.lt_of_lt_of_le hzl hk).keep (fun k cs fz _ hh => ((keepT_alloc W2 _).trans (KeepT.of_mk hf3 (HS2.out.below ((Below.refl _ W2).alloc (Nat.le_refl _) _)))) k cs fz hh)); have hu3' : TyIn (fun k => w.heap.size < k) W3 t3 (.slice a3 t3.kids.length n3) := hu3.mono (fun k hk => by have h9 : (W2.alloc (.cells #[.int .i64 t.kind, .string t.name, .slice a2 t.kids.length n2] 31)).heap.size ≤ k := hk; simp at h9; omega); have HU3 := Lib.hid hu3'; clear hz3 hs3 hf3 hu3 hu3' hg3 hbx3; simp only [tyV])
      | (go_at_call 54; refine (fun2_in t t3 _ _ _ _ _ (fun k hk => Nat.lt_of_lt_of_le hzl3 hk) HUt.out HU3.out).mono ?_; rintro e W4 ⟨⟨u4, rfl, hu4⟩, hb4⟩; obtain ⟨a4, n4, rfl⟩ := hu4.shape; have HBT := Lib.hid hb4; have hz4 : W4.heap[w.heap.size]? = some (.cells #[.int .i64 0, .string ⟨#[]⟩, .slice none 0 0] 31 (0, 0)) := (HBT.out.block _ hzl3).trans HZ3.out; obtain ⟨d0, d1, d2⟩ := three_cells hz4; have g0 := Lib.frozen_of_heap hz4 0; have g1 := Lib.frozen_of_heap hz4 1; have g2 := Lib.frozen_of_heap hz4 2; have HZ4 := Lib.hid hz4; have HU4 := Lib.hid hu4; clear hz4 hu4 hb4; simp only [tyV, show (T.fn t t3).kind = 3 from rfl, show (T.fn t t3).name = ⟨#[]⟩ from rfl, show (T.fn t t3).kids.length = 2 from rfl]))
    all_goals go_wp2
    all_goals exact bodyPost_ret (v := .agg #[.int .i64 3, .string ⟨#[]⟩, .slice a4 2 n4]) (by have hc := set3_cells HZ4.out (.int .i64 3) (.string ⟨#[]⟩) (.slice a4 2 n4); simp [results, Tryz.results24, go_sem, hc.1, hc.2.1, hc.2.2]) rfl (made_fn (t := T.fn t t3) (HS3.out.below HBT.out) (by omega) (((H2.out.trans HF2.out).trans ((MkFr.of_below ((Below.refl _ W2).alloc (Nat.le_refl _) _) (Nat.le_trans HS2.out.1.1 (Nat.le_of_lt HS2.out.lt))).trans HF3.out)).trans (MkFr.of_below HBT.out (Nat.le_trans HS3.out.1.1 (Nat.le_of_lt HS3.out.lt)))) hp HZ4.out HU4.out (good_fn HG.out HG3.out (Nat.le_refl _)))
  · go_wp2_with (go_at_call 24; refine (HI.out _ _ H1.out (by omega)).mono ?_)
    rintro e W2 ⟨⟨t, u, rfl, hg, hu⟩, ⟨k2, hk2, hs2⟩, hf2⟩
    obtain ⟨a2, n2, rfl⟩ := hu.shape
    have hz2 := hf2.2 _ _ HZ.out HNe.out
    have hzl2 := (Array.getElem?_eq_some_iff.1 hz2).1
    have HZ2 := Lib.hid hz2; have HU := Lib.hid hu; have HS2 := Lib.hid hs2; have HF2 := Lib.hid hf2; have HG := Lib.hid hg
    clear hz2 hu hs2 hf2 hg c0 c1 c2 f0 f1 f2
    simp only [tyV]
    go_wp2_with fail
    have hbx := alloc_new W2 (.cells #[.int .i64 t.kind, .string t.name, .slice a2 t.kids.length n2] 31)
    have HBX := Lib.hid hbx
    have hne2 : W2.heap.size ≠ p := by have := HS2.out.lt; omega
    have HNe2 := Lib.hid hne2
    clear hbx hne2
    go_region_with (first
      | (go_at_call 24; refine (HI2.out k2 _ ?hs ?hk).mono ?_; (case hs => exact SeqAt.drew (HS2.out.below ((Below.refl _ W2).alloc (Nat.le_refl _) _))); (case hk => omega); rintro e W3 ⟨⟨t3, u3, rfl, hg3, hu3⟩, ⟨k3, hk3, hs3⟩, hf3'⟩; have hf3 := MkFr.of_drew hf3'; clear hf3'; obtain ⟨a3, n3, rfl⟩ := hu3.shape; have hbx3 := hf3.2 _ _ HBX.out HNe2.out; obtain ⟨x0, x1, x2⟩ := three_cells hbx3; have hz3 := hf3.2 _ _ ((Below.heap_alloc W2 _ _ hzl2).trans HZ2.out) HNe.out; have hzl3 := (Array.getElem?_eq_some_iff.1 hz3).1; have HZ3 := Lib.hid hz3; have HS3 := Lib.hid hs3; have HF3 := Lib.hid hf3; have HG3 := Lib.hid hg3; have HUt := Lib.hid ((HU.out.mono (ok' := fun k => w.heap.size < k) fun k hk => Nat.lt_of_lt_of_le hzl hk).keep (fun k cs fz _ hh => ((keepT_alloc W2 _).trans (KeepT.of_mk hf3 (HS2.out.below ((Below.refl _ W2).alloc (Nat.le_refl _) _)))) k cs fz hh)); have hu3' : TyIn (fun k => w.heap.size < k) W3 t3 (.slice a3 t3.kids.length n3) := hu3.mono (fun k hk => by have h9 : (W2.alloc (.cells #[.int .i64 t.kind, .string t.name, .slice a2 t.kids.length n2] 31)).heap.size ≤ k := hk; simp at h9; omega); have HU3 := Lib.hid hu3'; clear hz3 hs3 hf3 hu3 hu3' hg3 hbx3; simp only [tyV])
      | (go_at_call 54; refine (fun2_in t t3 _ _ _ _ _ (fun k hk => Nat.lt_of_lt_of_le hzl3 hk) HUt.out HU3.out).mono ?_; rintro e W4 ⟨⟨u4, rfl, hu4⟩, hb4⟩; obtain ⟨a4, n4, rfl⟩ := hu4.shape; have HBT := Lib.hid hb4; have hz4 : W4.heap[w.heap.size]? = some (.cells #[.int .i64 0, .string ⟨#[]⟩, .slice none 0 0] 31 (0, 0)) := (HBT.out.block _ hzl3).trans HZ3.out; obtain ⟨d0, d1, d2⟩ := three_cells hz4; have g0 := Lib.frozen_of_heap hz4 0; have g1 := Lib.frozen_of_heap hz4 1; have g2 := Lib.frozen_of_heap hz4 2; have HZ4 := Lib.hid hz4; have HU4 := Lib.hid hu4; clear hz4 hu4 hb4; simp only [tyV, show (T.fn t t3).kind = 3 from rfl, show (T.fn t t3).name = ⟨#[]⟩ from rfl, show (T.fn t t3).kids.length = 2 from rfl]))
    all_goals go_wp2
    all_goals exact bodyPost_ret (v := .agg #[.int .i64 3, .string ⟨#[]⟩, .slice a4 2 n4]) (by have hc := set3_cells HZ4.out (.int .i64 3) (.string ⟨#[]⟩) (.slice a4 2 n4); simp [results, Tryz.results24, go_sem, hc.1, hc.2.1, hc.2.2]) rfl (made_fn (t := T.fn t t3) (HS3.out.below HBT.out) (by omega) (((H2.out.trans HF2.out).trans ((MkFr.of_below ((Below.refl _ W2).alloc (Nat.le_refl _) _) (Nat.le_trans HS2.out.1.1 (Nat.le_of_lt HS2.out.lt))).trans HF3.out)).trans (MkFr.of_below HBT.out (Nat.le_trans HS3.out.1.1 (Nat.le_of_lt HS3.out.lt)))) hp HZ4.out HU4.out (good_fn HG.out HG3.out (Nat.le_refl _)))
end Go.Proofs.YtjnlchhikdfifaaGreatDoor
/- Types of depth three, of depth four, made of numbers. -/
namespace Go.Proofs.YtjnlchhikdfifaaGreatDoor
open Go.RowKit

theorem make_n1 (B p : Nat) (a : Option Addr) (n c k : Nat) (w : World) (h : SeqAt B p a n c k w) (hk : k + 4 < 1152921504606846976) (hn : n < 1152921504606846976) :
    Calls Tryz.prog 24 #[.pointer (some ⟨p, 0, none⟩), .int .i64 1] w (MadeN B p a n c k 4 28 w) :=
  make_stepN 1 (by decide) (by decide) 2 14 (by decide) (by decide) B p a n c k w h hk hn (fun k w h hk => make_n0 B p a n c k w h (by omega) hn)
theorem make_n2 (B p : Nat) (a : Option Addr) (n c k : Nat) (w : World) (h : SeqAt B p a n c k w) (hk : k + 8 < 1152921504606846976) (hn : n < 1152921504606846976) :
    Calls Tryz.prog 24 #[.pointer (some ⟨p, 0, none⟩), .int .i64 2] w (MadeN B p a n c k 8 56 w) :=
  make_stepN 2 (by decide) (by decide) 4 28 (by decide) (by decide) B p a n c k w h hk hn (fun k w h hk => make_n1 B p a n c k w h hk hn)
theorem make_n3 (B p : Nat) (a : Option Addr) (n c k : Nat) (w : World) (h : SeqAt B p a n c k w) (hk : k + 16 < 1152921504606846976) (hn : n < 1152921504606846976) :
    Calls Tryz.prog 24 #[.pointer (some ⟨p, 0, none⟩), .int .i64 3] w (MadeN B p a n c k 16 112 w) :=
  make_stepN 3 (by decide) (by decide) 8 56 (by decide) (by decide) B p a n c k w h hk hn (fun k w h hk => make_n2 B p a n c k w h hk hn)
theorem make_n4 (B p : Nat) (a : Option Addr) (n c k : Nat) (w : World) (h : SeqAt B p a n c k w) (hk : k + 32 < 1152921504606846976) (hn : n < 1152921504606846976) :
    Calls Tryz.prog 24 #[.pointer (some ⟨p, 0, none⟩), .int .i64 4] w (MadeN B p a n c k 32 224 w) :=
  make_stepN 4 (by decide) (by decide) 16 112 (by decide) (by decide) B p a n c k w h hk hn (fun k w h hk => make_n3 B p a n c k w h hk hn)
end Go.Proofs.YtjnlchhikdfifaaGreatDoor
/- Predicates, rows of them, that are made of numbers: of whatever depth. (Made by a program out of SbMkPr.) -/
namespace Go.Proofs.YtjnlchhikdfifaaGreatDoor
open Go.RowKit
attribute [local go_sem] Oper.semAt_some
attribute [local go_sem ↓] Go.wp_at_zero Go.wp_at_succ

def MadePG (m D B p : Nat) (a : Option Addr) (n c k : Nat) (w : World) (e : Ending) (w' : World) : Prop :=
  (∃ q u, e = .returned (prV q u) ∧ (T.Good q.2 ∧ Fits q.2 ∧ (T.text q.2).length + 10 ≤ D) ∧ TysAt w' u q.2.kids) ∧ (∃ k', k' ≤ k + 1 + m ∧ SeqAt B p a n c k' w') ∧ MkFr B p w w'

theorem pred_finG {m D B p : Nat} {a : Option Addr} {n c k k2 : Nat} {w W : World} {O1 O2 : Obj} {q : Pr} {v x y z u x0 y0 z0 u0 : Value} (hs : SeqAt B p a n c k2 W) (hk2 : k2 + 1 ≤ k + 1 + m) (hfr : MkFr B p ((w.alloc O1).alloc O2) W) (hp : p < w.heap.size)
    (h0 : W.heap[w.heap.size]? = some (.cells #[x0, y0, z0, u0] 55 (0, 0))) (hu : TysAt W v q.2.kids) (hg : (T.Good q.2 ∧ Fits q.2 ∧ (T.text q.2).length + 10 ≤ D)) :
    MadePG m D B p a n c k w (.returned (prV q v)) ((((W.setCell ⟨w.heap.size, 0, none⟩ x).setCell ⟨w.heap.size, 1, none⟩ y).setCell ⟨w.heap.size, 2, none⟩ z).setCell ⟨w.heap.size, 3, none⟩ u) := by
  have he : Else w.heap.size W ((((W.setCell ⟨w.heap.size, 0, none⟩ x).setCell ⟨w.heap.size, 1, none⟩ y).setCell ⟨w.heap.size, 2, none⟩ z).setCell ⟨w.heap.size, 3, none⟩ u) := (((Else.set _ _ _ _).trans (Else.set _ _ _ _)).trans (Else.set _ _ _ _)).trans (Else.set _ _ _ _)
  obtain ⟨e1, e2⟩ := else_fin rfl hs ((MkFr.of_below ((Below.refl _ _).alloc (Nat.le_refl _) O2) (by have := hs.1.1; simp; omega)).trans hfr) hp he
  exact ⟨⟨q, v, rfl, hg, hu.keep (KeepT.else he h0 (by decide))⟩, ⟨k2, by omega, e1⟩, e2⟩
set_option maxRecDepth 100000 in
set_option maxHeartbeats 4000000 in
theorem make_predG (dp m D : Nat) (B p : Nat) (a : Option Addr) (n c k : Nat) (w : World) (h : SeqAt B p a n c k w) (hk : k < 900000000000000000) (hT : ∀ (k : Nat) (W : World), SeqAt B p a n c k W → k < 1000000000000000000 → Calls Tryz.prog 24 #[.pointer (some ⟨p, 0, none⟩), .int .i64 (dp : Int)] W (MadeN B p a n c k m D W)) (hn : n < 1152921504606846976) :
    Calls Tryz.prog 31 #[.pointer (some ⟨p, 0, none⟩), .int .i64 (dp : Int)] w (MadePG m D B p a n c k w) := by
  have hp := h.lt
  have HN := Lib.hid (fun o1 o2 => next_any B p a n c k 4 ((w.alloc o1).alloc o2) (h.below (((Below.refl _ w).alloc (Nat.le_refl _) o1).alloc (show w.heap.size ≤ (w.alloc o1).heap.size by simp) o2)) (by decide) (by decide) (by omega) hn)
  have HT := Lib.hid (fun W (hs : SeqAt B p a n c (k + 1) W) => hT (k + 1) W hs (by omega))
  have HNe := Lib.hid (show w.heap.size ≠ p by omega)
  have HNe1 := Lib.hid (show w.heap.size + 1 ≠ p by omega)
  have HBp := Lib.hid h.1.1
  clear h hT
  go_enter Tryz.func31, Tryz.ntmps31
  go_wp2_with (go_at_call 30; refine (HN.out _ _).mono ?_)
  rintro e W1 ⟨⟨r, hr, rfl⟩, h1, h2⟩
  have hz := h2.2 _ _ ((Below.heap_alloc _ _ _ (by simp)).trans (alloc_new w _)) HNe.out
  have hs := h2.2 _ _ (show ((w.alloc _).alloc _).heap[w.heap.size + 1]? = _ from by rw [show w.heap.size + 1 = (w.alloc (.cells #[.string ⟨#[]⟩, .int .i64 0, .string ⟨#[]⟩, .slice none 0 0] 55)).heap.size from by simp]; exact alloc_new _ _) HNe1.out
  obtain ⟨s0, s1, s2, s3⟩ := four_strs hs
  have hzl := (Array.getElem?_eq_some_iff.1 hz).1
  have HZ := Lib.hid hz; have H1 := Lib.hid h1; have H2 := Lib.hid h2
  clear hz hs h1 h2
  obtain ⟨z, hz⟩ : ∃ z : Int, (r : Int) = z := ⟨_, rfl⟩
  rw [hz]
  have h4 : z = 0 ∨ z = 1 ∨ z = 2 ∨ z = 3 := by omega
  clear hz hr
  rcases h4 with rfl | rfl | rfl | rfl
  · go_wp2_with (go_at_call 24; refine (HT.out _ H1.out).mono ?_)
    rintro e W2 ⟨⟨t, u, rfl, hg, hu⟩, ⟨k2, hk2, hs2⟩, hf2⟩
    obtain ⟨a2, n2, rfl⟩ := hu.shape
    have hz2 := hf2.2 _ _ HZ.out HNe.out
    obtain ⟨d0, d1, d2, d3⟩ := four_cells hz2
    have g0 := Lib.frozen_of_heap hz2 0
    have g1 := Lib.frozen_of_heap hz2 1
    have g2 := Lib.frozen_of_heap hz2 2
    have g3 := Lib.frozen_of_heap hz2 3
    have HZ2 := Lib.hid hz2; have HU := Lib.hid hu; have HS2 := Lib.hid hs2; have HF2 := Lib.hid hf2; have HG := Lib.hid hg
    clear hz2 hu hs2 hf2 hg s0 s1 s2 s3
    simp only [tyV]
    go_wp2
    exact bodyPost_ret (v := prV (⟨#[69, 113]⟩, t) (.slice a2 t.kids.length n2)) (by have hc := set4_cells HZ2.out (.string ⟨#[69, 113]⟩) (.int .i64 t.kind) (.string t.name) (.slice a2 t.kids.length n2); simp [results, Tryz.results31, go_sem, prV, hc.1, hc.2.1, hc.2.2.1, hc.2.2.2]) rfl (pred_finG (q := (⟨#[69, 113]⟩, t)) HS2.out hk2 (H2.out.trans HF2.out) hp HZ2.out HU.out.tys HG.out)
  · go_wp2_with (go_at_call 24; refine (HT.out _ H1.out).mono ?_)
    rintro e W2 ⟨⟨t, u, rfl, hg, hu⟩, ⟨k2, hk2, hs2⟩, hf2⟩
    obtain ⟨a2, n2, rfl⟩ := hu.shape
    have hz2 := hf2.2 _ _ HZ.out HNe.out
    obtain ⟨d0, d1, d2, d3⟩ := four_cells hz2
    have g0 := Lib.frozen_of_heap hz2 0
    have g1 := Lib.frozen_of_heap hz2 1
    have g2 := Lib.frozen_of_heap hz2 2
    have g3 := Lib.frozen_of_heap hz2 3
    have HZ2 := Lib.hid hz2; have HU := Lib.hid hu; have HS2 := Lib.hid hs2; have HF2 := Lib.hid hf2; have HG := Lib.hid hg
    clear hz2 hu hs2 hf2 hg s0 s1 s2 s3
    simp only [tyV]
    go_wp2
    exact bodyPost_ret (v := prV (⟨#[79, 114, 100]⟩, t) (.slice a2 t.kids.length n2)) (by have hc := set4_cells HZ2.out (.string ⟨#[79, 114, 100]⟩) (.int .i64 t.kind) (.string t.name) (.slice a2 t.kids.length n2); simp [results, Tryz.results31, go_sem, prV, hc.1, hc.2.1, hc.2.2.1, hc.2.2.2]) rfl (pred_finG (q := (⟨#[79, 114, 100]⟩, t)) HS2.out hk2 (H2.out.trans HF2.out) hp HZ2.out HU.out.tys HG.out)
  · go_wp2_with (go_at_call 24; refine (HT.out _ H1.out).mono ?_)
    rintro e W2 ⟨⟨t, u, rfl, hg, hu⟩, ⟨k2, hk2, hs2⟩, hf2⟩
    obtain ⟨a2, n2, rfl⟩ := hu.shape
    have hz2 := hf2.2 _ _ HZ.out HNe.out
    obtain ⟨d0, d1, d2, d3⟩ := four_cells hz2
    have g0 := Lib.frozen_of_heap hz2 0
    have g1 := Lib.frozen_of_heap hz2 1
    have g2 := Lib.frozen_of_heap hz2 2
    have g3 := Lib.frozen_of_heap hz2 3
    have HZ2 := Lib.hid hz2; have HU := Lib.hid hu; have HS2 := Lib.hid hs2; have HF2 := Lib.hid hf2; have HG := Lib.hid hg
    clear hz2 hu hs2 hf2 hg s0 s1 s2 s3
    simp only [tyV]
    go_wp2
    exact bodyPost_ret (v := prV (⟨#[83, 104, 111, 119]⟩, t) (.slice a2 t.kids.length n2)) (by have hc := set4_cells HZ2.out (.string ⟨#[83, 104, 111, 119]⟩) (.int .i64 t.kind) (.string t.name) (.slice a2 t.kids.length n2); simp [results, Tryz.results31, go_sem, prV, hc.1, hc.2.1, hc.2.2.1, hc.2.2.2]) rfl (pred_finG (q := (⟨#[83, 104, 111, 119]⟩, t)) HS2.out hk2 (H2.out.trans HF2.out) hp HZ2.out HU.out.tys HG.out)
  · go_wp2_with (go_at_call 24; refine (HT.out _ H1.out).mono ?_)
    rintro e W2 ⟨⟨t, u, rfl, hg, hu⟩, ⟨k2, hk2, hs2⟩, hf2⟩
    obtain ⟨a2, n2, rfl⟩ := hu.shape
    have hz2 := hf2.2 _ _ HZ.out HNe.out
    obtain ⟨d0, d1, d2, d3⟩ := four_cells hz2
    have g0 := Lib.frozen_of_heap hz2 0
    have g1 := Lib.frozen_of_heap hz2 1
    have g2 := Lib.frozen_of_heap hz2 2
    have g3 := Lib.frozen_of_heap hz2 3
    have HZ2 := Lib.hid hz2; have HU := Lib.hid hu; have HS2 := Lib.hid hs2; have HF2 := Lib.hid hf2; have HG := Lib.hid hg
    clear hz2 hu hs2 hf2 hg s0 s1 s2 s3
    simp only [tyV]
    go_wp2
    exact bodyPost_ret (v := prV (⟨#[78, 117, 109]⟩, t) (.slice a2 t.kids.length n2)) (by have hc := set4_cells HZ2.out (.string ⟨#[78, 117, 109]⟩) (.int .i64 t.kind) (.string t.name) (.slice a2 t.kids.length n2); simp [results, Tryz.results31, go_sem, prV, hc.1, hc.2.1, hc.2.2.1, hc.2.2.2]) rfl (pred_finG (q := (⟨#[78, 117, 109]⟩, t)) HS2.out hk2 (H2.out.trans HF2.out) hp HZ2.out HU.out.tys HG.out)

def MadePsG (most m D B p : Nat) (a : Option Addr) (n c k : Nat) (w : World) (e : Ending) (w' : World) : Prop :=
  (∃ l v, e = .returned v ∧ (l.length ≤ most ∧ ∀ q ∈ l, (T.Good q.2 ∧ Fits q.2 ∧ (T.text q.2).length + 10 ≤ D)) ∧ PrsAt w' v l) ∧ (∃ k', k' ≤ k + 1 + (1 + m) * most ∧ SeqAt B p a n c k' w') ∧ MkFr B p w w'

set_option maxRecDepth 100000 in
set_option maxHeartbeats 4000000 in
theorem make_predsG (most dp m D : Nat) (hmost : most ≤ 1000) (hm1000 : m ≤ 1000) (B p : Nat) (a : Option Addr) (n c k : Nat) (w : World) (h : SeqAt B p a n c k w) (hk : k < 100000000000000000) (hT : ∀ (k : Nat) (W : World), SeqAt B p a n c k W → k < 1000000000000000000 → Calls Tryz.prog 24 #[.pointer (some ⟨p, 0, none⟩), .int .i64 (dp : Int)] W (MadeN B p a n c k m D W)) (hn : n < 1152921504606846976) :
    Calls Tryz.prog 7 #[.pointer (some ⟨p, 0, none⟩), .int .i64 (most : Int), .int .i64 (dp : Int)] w (MadePsG most m D B p a n c k w) := by
  have hp := h.lt
  obtain ⟨i0, hi, hz0, hz1, hz2⟩ := info_parts Tryz.infoPred
  have HN := Lib.hid (next_any B p a n c k (most + 1) w h (by omega) (by omega) (by omega) hn)
  have HB := Lib.hid h.1.1
  have HT := Lib.hid hT
  have hmI : wrap64 ((most : Int) + 1) = (most : Int) + 1 := by unfold wrap64; omega
  have hmI2 : IntKind.i64.wrap ((most : Int) + 1) = (most : Int) + 1 := by rw [IntKind.wrap_i64]; omega
  have hmI3 : (((most + 1 : Nat)) : Int) = (most : Int) + 1 := by omega
  rw [hmI3] at HN
  clear h hT
  go_enter Tryz.func7, Tryz.ntmps7
  go_wp2_with (go_at_call 30; refine HN.out.mono ?_)
  rintro e W1 ⟨⟨r, hr, rfl⟩, h1, h2⟩
  have H1 := Lib.hid h1; have H2 := Lib.hid h2
  clear h1 h2
  go_wp2_with fail
  go_loopw [7, 8] (fun vl vi wr => ∃ (q : List (Pr × Value)) (i k' : Nat), vi = .int .i64 i ∧ i + q.length ≤ most ∧ Hid (wr.ownsRow w.heap.size 55 4 vl q.length (prRow q)) ∧ Hid (∀ x ∈ q, TysAt wr x.2 x.1.2.kids) ∧ Hid (∀ x ∈ q, (T.Good x.1.2 ∧ Fits x.1.2 ∧ (T.text x.1.2).length + 10 ≤ D)) ∧ Hid (k' ≤ k + 1 + (1 + m) * q.length ∧ SeqAt B p a n c k' wr) ∧ Hid (MkFr B p w wr)) (fun _ vi _ => (intOf vi).toNat)
  case atStart => exact ⟨[], r, k + 1, rfl, by simp; omega, Lib.hid (World.ownsRow_nil _ _ _ _), Lib.hid (fun x hx => by cases hx), Lib.hid (fun x hx => by cases hx), Lib.hid ⟨by simp, H1.out⟩, Lib.hid H2.out⟩
  case round =>
    obtain ⟨q, i, k', rfl, hq3, hrow, hty, hgd, hsq, hfr⟩ := hrel
    by_cases hpos : 0 < i
    · have hposI : (0 : Int) < (i : Int) := by omega
      go_wp2_with (go_at_call 31; refine (make_predG dp m D B p a n c k' _ hsq.out.2 (by have h1 := hsq.out.1; have h2 := Nat.mul_le_mul_left (1 + m) (show q.length ≤ 1000 by omega); omega) HT.out hn).mono ?_)
      rintro e W2 ⟨⟨x, u, rfl, hg, hu⟩, ⟨k2, hk2, hs2⟩, hf2⟩
      obtain ⟨a2, n2, rfl⟩ := hu.shape
      have hrow2 := own_keep hrow.out hf2.2 hp
      have HF2 := Lib.hid (hfr.out.trans hf2)
      have HS2 := Lib.hid hs2; have HU := Lib.hid hu; have HG := Lib.hid hg; have HR2 := Lib.hid hrow2
      have HTY2 := Lib.hid (fun y hy => (hty.out y hy).keep (KeepT.of_mk hf2 hsq.out.2))
      have HKq := Lib.hid hk2
      clear hrow2 hs2 hu hg hf2 hk2
      simp only [prV]
      go_wp2_with (at_builtin; refine wpList_append_own _ rfl _ _ 28 rfl w.heap.size 55 i0 (.agg #[.string ⟨#[]⟩, .int .i64 0, .string ⟨#[]⟩, .slice none 0 0]) 4 64 Tryz.underlying28 hi hz0 hz1 hz2 rfl (by decide) _ _ _ rfl (HR2.out.alloc _) ⟨W2.heap.size, 0, none⟩ 1 1 (prCells (x, .slice a2 x.2.kids.length n2)) rfl rfl (cell_new4 _ _ _ _ _ _) (by simp [prCells, Value.oneCell']) ?c3 ?c4 ?c5 ?_)
      case c3 => unfold maxLen; omega
      case c4 => omega
      case c5 => have := HF2.out.1.size; simp; omega
      intro v' W3 hown3 hgrow _
      have hkt : KeepT W2 W3 := (keepT_alloc W2 _).trans (KeepT.grown hgrow (HR2.out.alloc _) (by decide))
      have hsz : w.heap.size ≤ W2.heap.size := HF2.out.1.size
      have hBw : B ≤ w.heap.size := by have := HB.out; omega
      have hbelB : Below B W2 W3 := ((Below.refl B W2).alloc (Nat.le_trans hBw hsz) _).grown hgrow (by simp; omega) (fun j hj => Nat.le_trans hBw (HR2.out.lt j hj).1)
      have hblk : ∀ j o, W2.heap[j]? = some o → j < w.heap.size → W3.heap[j]? = some o := fun j o hj hlt =>
        (hgrow.block j (by simp; omega) (fun e => by have := (HR2.out.lt j e.symm).1; omega)).trans ((Below.heap_alloc W2 _ j (by omega)).trans hj)
      have HS3 := Lib.hid (show SeqAt B p a n c k2 W3 from ⟨⟨HB.out, hblk p _ HS2.out.1.2 hp⟩, HS2.out.2.keep hbelB⟩)
      have HF3 := Lib.hid (show MkFr B p w W3 from ⟨HF2.out.1.trans hbelB, fun j o hj hjp => hblk j o (HF2.out.2 j o hj hjp) (Array.getElem?_eq_some_iff.1 hj).1⟩)
      have HT3 := Lib.hid (fun y hy => (HTY2.out y hy).keep hkt)
      have HX3 := Lib.hid (HU.out.keep hkt)
      have HO3 := Lib.hid hown3
      clear hkt hbelB hblk hown3 hgrow
      go_wp2
      go_roundw
      case rel =>
        refine ⟨q ++ [(x, .slice a2 x.2.kids.length n2)], i - 1, k2, congrArg (Value.int .i64) (by omega), by simp; omega, Lib.hid ?_, Lib.hid ?_, Lib.hid ?_, Lib.hid ⟨?_, HS3.out⟩, HF3⟩
        · rw [prRow_snoc, List.length_append]; exact HO3.out
        · intro y hy
          rcases List.mem_append.1 hy with hy | hy
          · exact HT3.out y hy
          · obtain rfl := List.mem_singleton.1 hy
            exact HX3.out
        · intro y hy
          rcases List.mem_append.1 hy with hy | hy
          · exact hgd.out y hy
          · obtain rfl := List.mem_singleton.1 hy
            exact HG.out
        · have h1 := HKq.out; have h2 := hsq.out.1
          rw [List.length_append, List.length_singleton, Nat.mul_add, Nat.mul_one]; omega
      case measure => simp [intOf]; omega
    · obtain rfl : i = 0 := by omega
      obtain ⟨va, vc, rfl⟩ := row_val hrow.out
      go_wp2
      go_ret
      have h2 := hsq.out.1
      refine ⟨⟨q.map (·.1), .slice va q.length vc, rfl, ⟨by simp; omega, fun y hy => ?_⟩, prs_of_row hrow.out hty.out⟩, ⟨k', Nat.le_trans h2 (Nat.add_le_add_left (Nat.mul_le_mul_left (1 + m) (by omega)) _), hsq.out.2⟩, hfr.out⟩
      obtain ⟨z, hz, rfl⟩ := List.mem_map.1 hy
      exact hgd.out z hz
end Go.Proofs.YtjnlchhikdfifaaGreatDoor
/- The document's Compare of types (from TyRef, whose Size is SbSize's here). -/
namespace Go.Proofs.YtjnlchhikdfifaaGreatDoor
open Go.RowKit
attribute [local go_sem] Oper.semAt_some

theorem sign_of (a b r : Int) (w : World) (h : a < b ∧ r = -1 ∨ (¬ a < b ∧ b < a) ∧ r = 1 ∨ (¬ a < b ∧ ¬ b < a) ∧ r = 0) : Calls Tryz.prog 94 #[.int .i64 a, .int .i64 b] w fun e w' => e = .returned (.int .i64 r) ∧ w = w' := by
  rcases h with ⟨h, rfl⟩ | ⟨⟨h, h'⟩, rfl⟩ | ⟨⟨h, h'⟩, rfl⟩
  all_goals
    go_enter Tryz.func94, Tryz.ntmps94
    go_wp2
    go_ret
    exact ⟨rfl, rfl⟩
theorem sign_any (a b : Int) (w : World) : Calls Tryz.prog 94 #[.int .i64 a, .int .i64 b] w fun e w' => e = .returned (.int .i64 (sgn a b)) ∧ w = w' :=
  sign_of a b _ w (by unfold sgn; (repeat' split) <;> omega)

def RCmpOK (t : T) : Prop := ∀ (t' : T) (a b : Option Addr) (c d : Nat) (w : World), TysAt w (.slice a t.kids.length c) t.kids → TysAt w (.slice b t'.kids.length d) t'.kids → tsize t ≤ 1000000000 →
    Calls Tryz.prog 71 #[tyV t (.slice a t.kids.length c), tyV t' (.slice b t'.kids.length d)] w fun e w' => e = .returned (.int .i64 (cmpT t t')) ∧ Below w.heap.size w w'

/-- What was found before the parts are looked at. -/
theorem cmp_done {t t' : T} {hd : Int} (h : orI (sgn t.kind t'.kind) (orI (cmpL t.name.data.toList t'.name.data.toList) (sgn t.kids.length t'.kids.length)) = hd) (hz : ¬ hd = 0) : cmpT t t' = hd := by
  have h' := cmpT_eq t t'
  rw [h', ← h]
  unfold orI at *
  by_cases hp : sgn t.kind t'.kind = 0
  · by_cases hq : cmpL t.name.data.toList t'.name.data.toList = 0
    · by_cases hr : sgn (t.kids.length : Int) t'.kids.length = 0
      · simp [hp, hq, hr] at h; omega
      · simp [hp, hq, hr]
    · simp [hp, hq]
  · simp [hp]

set_option maxHeartbeats 4000000 in
theorem rcmp_step (t : T) (H : ∀ k ∈ t.kids, RCmpOK k) : RCmpOK t := by
  intro t' a b c d w h h' hs
  have hz := tsize_eq t
  have hlen := len_sizes' t.kids
  have hB : ∀ o1 o2 : Obj, Below w.heap.size w ((w.alloc o1).alloc o2) := fun o1 o2 => ((Below.refl _ w).alloc (Nat.le_refl _) _).alloc (by simp) _
  have HB := Lib.hid hB; clear hB
  have e1 : (t.name.toList == t'.name.toList) = decide (cmpL t.name.data.toList t'.name.data.toList = 0) := by rw [Lib.toList_data, Lib.toList_data, beq_cmpL]
  have e2 : Op.bytesLess t.name.toList t'.name.toList = decide (cmpL t.name.data.toList t'.name.data.toList < 0) := by rw [Lib.toList_data, Lib.toList_data, less_cmpL]
  have hp1 := sgn_unit t.kind t'.kind
  have hq1 := cmpL_unit t.name.data.toList t'.name.data.toList
  have hr1 := sgn_unit (t.kids.length : Int) t'.kids.length
  obtain ⟨p, hp⟩ : ∃ p, sgn t.kind t'.kind = p := ⟨_, rfl⟩
  obtain ⟨q, hq⟩ : ∃ p, cmpL t.name.data.toList t'.name.data.toList = p := ⟨_, rfl⟩
  obtain ⟨r, hr⟩ : ∃ p, sgn (t.kids.length : Int) t'.kids.length = p := ⟨_, rfl⟩
  have HSK := Lib.hid (fun (W : World) => sign_any t.kind t'.kind W)
  have HSL := Lib.hid (fun (W : World) => sign_any (t.kids.length : Int) t'.kids.length W)
  have HD := fun (hz : ¬ orI p (orI q r) = 0) => cmp_done (t := t) (t' := t') (hd := orI p (orI q r)) (by rw [hp, hq, hr]) hz
  have HEq := cmpT_eq t t'
  have HLen : r = 0 → t.kids.length = t'.kids.length := fun e => by rw [← hr] at e; have := sgn_zero.1 e; omega
  rw [hp] at HSK hp1
  rw [hq] at e1 e2 hq1
  rw [hr] at HSL hr1
  rw [hp, hq, hr] at HEq
  obtain ⟨res, hres⟩ : ∃ p, cmpT t t' = p := ⟨_, rfl⟩
  rw [hres] at HEq HD ⊢
  have HEq' := Lib.hid HEq; have HD' := Lib.hid HD; have HLen' := Lib.hid HLen
  clear hp hq hr hres HEq HD HLen
  by_cases hp0 : p = 0
  · subst hp0
    by_cases hq0 : q = 0
    · subst hq0
      simp only [decide_true, Int.lt_irrefl, decide_false] at e1 e2
      by_cases hr0 : r = 0
      · subst hr0
        have hl := HLen'.out rfl
        have HR := Lib.hid h.part
        rw [← hl] at h'
        have HR' := Lib.hid (hl ▸ h').part
        have HS := Lib.hid H
        have HL := Lib.hid hl
        have hres : cmpTs t.kids t'.kids = res := HEq'.out.symm
        have HRs := Lib.hid hres
        clear h h' H hl hres HD' HEq' HLen' hp1 hq1 hr1
        simp only [tyV]
        go_enter Tryz.func71, Tryz.ntmps71
        go_wp2_with (go_at_call 94; first | ((with_reducible refine (HSK.out _).mono ?_); rintro e w2 ⟨rfl, rfl⟩) | ((with_reducible refine (HSL.out _).mono ?_); rintro e w2 ⟨rfl, rfl⟩))
        go_loopw [5, 6] (fun vn vi wr => ∃ (i : Nat) (m : Int), i ≤ t.kids.length ∧ vi = .int .i64 i ∧ vn = .int .i64 m ∧ Hid ((m = 0 ∧ cmpTs (t.kids.drop i) (t'.kids.drop i) = res) ∨ (¬ m = 0 ∧ m = res)) ∧ Hid (Below w.heap.size w wr) ∧
          Hid (wr.heap[w.heap.size]? = some (.cells #[.int .i64 t.kind, .string t.name, .slice a t.kids.length c] 31 (0, 0)) ∧ wr.heap[w.heap.size + 1]? = some (.cells #[.int .i64 t'.kind, .string t'.name, .slice b t'.kids.length d] 31 (0, 0)))) (fun _ vi _ => t.kids.length - (intOf vi).toNat)
        case atStart => exact ⟨0, 0, Nat.zero_le _, rfl, rfl, Lib.hid (.inl ⟨rfl, by simpa using HRs.out⟩), Lib.hid (HB.out _ _), Lib.hid ⟨(Below.heap_alloc _ _ _ (by simp)).trans (alloc_new w _), by have := alloc_new (w.alloc (.cells #[.int .i64 t.kind, .string t.name, .slice a t.kids.length c] 31)) (.cells #[.int .i64 t'.kind, .string t'.name, .slice b t'.kids.length d] 31); simpa using this⟩⟩
        case round =>
          obtain ⟨i, m, hi, rfl, rfl, hM, hBl, hBox⟩ := hrel
          obtain ⟨z0, z1, z2⟩ := three_cells hBox.out.1
          obtain ⟨z3, z4, z5⟩ := three_cells hBox.out.2
          rcases hM.out with ⟨rfl, hc⟩ | ⟨hm, rfl⟩
          · by_cases hlt : i < t.kids.length
            · have hlt' : i < t'.kids.length := by have := HL.out; omega
              obtain ⟨g, pa, ca, rfl, hcap, hr⟩ := HR.out i hlt
              obtain ⟨g', pb, cb, rfl, hcap', hr'⟩ := HR'.out i hlt'
              obtain ⟨⟨hg, x0, x1, x2⟩, xk⟩ := hr wr (KeepT.of_below hBl.out)
              obtain ⟨⟨hg', y0, y1, y2⟩, yk⟩ := hr' wr (KeepT.of_below hBl.out)
              have hkk := size_mem' (List.getElem_mem hlt)
              have HC := Lib.hid (HS.out t.kids[i] (List.getElem_mem hlt) t'.kids[i] pa pb ca cb wr.drew (xk.keep (show KeepT wr wr.drew from fun _ _ _ h => h)) (yk.keep (show KeepT wr wr.drew from fun _ _ _ h => h)) (by omega))
              have hd := cmp_drop t.kids t'.kids i hlt hlt'
              rw [hc] at hd
              clear hr hr' xk yk hkk HS HR HR' hM hc HRs
              generalize t.kids[i] = u at x0 x1 x2 HC hd
              generalize t'.kids[i] = u' at y0 y1 y2 HC hd
              simp only [tyV] at HC
              have HDr := Lib.hid hd; clear hd
              obtain ⟨k, hk⟩ : ∃ k, cmpT u u' = k := ⟨_, rfl⟩
              rw [hk] at HC
              have HK := Lib.hid hk; clear hk
              have hlt1 : ((i : Int) < (t.kids.length : Int)) := by omega
              have hlt2 : ((i : Int) < (t'.kids.length : Int)) := by omega
              have lb : w.heap.size + 1 < wr.heap.size := (Array.getElem?_eq_some_iff.1 hBox.out.2).1
              go_wp2
              go_region_held3 (fun V => V.cell? ⟨w.heap.size, 2, none⟩ = some (.slice (some ⟨g, 0, none⟩) t.kids.length c) ∧ V.cell? ⟨w.heap.size + 1, 2, none⟩ = some (.slice (some ⟨g', 0, none⟩) t'.kids.length d) ∧ (V.cell? ⟨g, i * 3, none⟩ = some (.int .i64 u.kind) ∧ V.cell? ⟨g, i * 3 + 1, none⟩ = some (.string u.name) ∧ V.cell? ⟨g, i * 3 + 2, none⟩ = some (.slice pa u.kids.length ca)) ∧ (V.cell? ⟨g', i * 3, none⟩ = some (.int .i64 u'.kind) ∧ V.cell? ⟨g', i * 3 + 1, none⟩ = some (.string u'.name) ∧ V.cell? ⟨g', i * 3 + 2, none⟩ = some (.slice pb u'.kids.length cb)))
                (first | exact ⟨z2, z5, ⟨x0, x1, x2⟩, y0, y1, y2⟩ | exact ⟨v2, v5, ⟨v6, v7, v8⟩, v9, v10, v11⟩)
                ((go_at_call 71; refine HC.out.mono ?_; rintro e w2 ⟨rfl, hb2⟩; have cc : ∀ (b o : Nat) (x : Value), b < wr.heap.size → wr.cell? ⟨b, o, none⟩ = some x → w2.cell? ⟨b, o, none⟩ = some x := (fun b o x hb hx => (hb2.cell (p := ⟨b, o, none⟩) hb).trans hx); have v2 := cc _ _ _ (by omega) z2; have v5 := cc _ _ _ lb z5; have v6 := cc _ _ _ hg x0; have v7 := cc _ _ _ hg x1; have v8 := cc _ _ _ hg x2; have v9 := cc _ _ _ hg' y0; have v10 := cc _ _ _ hg' y1; have v11 := cc _ _ _ hg' y2; have HB2 := Lib.hid (hBl.out.drew.trans (hb2.mono hBl.out.size)); have HBox2 := Lib.hid (And.intro ((hb2.block w.heap.size (by show w.heap.size < wr.heap.size; omega)).trans hBox.out.1) ((hb2.block (w.heap.size + 1) lb).trans hBox.out.2)); clear cc hb2))
              all_goals
                clear z0 z1 z2 z3 z4 z5 x0 x1 x2 y0 y1 y2 v2 v5 v6 v7 v8 v9 v10 v11
                go_wp2
                go_roundw
                case rel =>
                  refine ⟨i + 1, k, by omega, by go_num, rfl, Lib.hid ?_, HB2, HBox2⟩
                  have := HDr.out
                  rw [HK.out] at this
                  by_cases h0 : k = 0
                  · exact .inl ⟨h0, by rw [this, h0]; rfl⟩
                  · exact .inr ⟨h0, by rw [this, orI, if_neg h0]⟩
                case measure => simp [intOf]; omega
            · obtain rfl : i = t.kids.length := by omega
              have e : res = 0 := by rw [← hc, List.drop_length, HL.out, List.drop_length, cmpTs]
              subst e
              clear HR HR' HS HRs hM hc
              go_wp2
              go_ret
              exact ⟨rfl, hBl.out⟩
          · have hz1 : (m == 0) = false := by simpa using hm
            clear HR HR' HS HRs hM hm
            go_wp2
            all_goals go_ret
            all_goals exact ⟨rfl, hBl.out⟩
      · have e : res = r := by have := HD'.out (by simpa [orI] using hr0); simpa [orI] using this
        subst e
        have hz1 : (res == 0) = false := by simpa using hr0
        clear h h' H HD' HEq' HLen' hp1 hq1 hr1 hr0
        simp only [tyV]
        go_enter Tryz.func71, Tryz.ntmps71
        go_wp2_with (go_at_call 94; first | ((with_reducible refine (HSK.out _).mono ?_); rintro e w2 ⟨rfl, rfl⟩) | ((with_reducible refine (HSL.out _).mono ?_); rintro e w2 ⟨rfl, rfl⟩))
        refine wp_loop_rounds 1 ?_
        rw [rounds_succ]; go_wp2
        all_goals go_ret
        all_goals exact ⟨rfl, HB.out _ _⟩
    · have e : res = q := by have := HD'.out (by simp [orI, hq0]); simpa [orI, hq0] using this
      subst e
      have hz1 : (res == 0) = false := by simpa using hq0
      rw [decide_eq_false hq0] at e1
      clear h h' H HD' HEq' HLen' hp1 hr1
      simp only [tyV]
      rcases hq1 with rfl | rfl | rfl
      · simp at e2
        go_enter Tryz.func71, Tryz.ntmps71
        go_wp2_with (go_at_call 94; ((with_reducible refine (HSK.out _).mono ?_); rintro e w2 ⟨rfl, rfl⟩))
        refine wp_loop_rounds 1 ?_
        rw [rounds_succ]; go_wp2
        all_goals go_ret
        all_goals exact ⟨rfl, HB.out _ _⟩
      · exact absurd rfl hq0
      · simp at e2
        go_enter Tryz.func71, Tryz.ntmps71
        go_wp2_with (go_at_call 94; ((with_reducible refine (HSK.out _).mono ?_); rintro e w2 ⟨rfl, rfl⟩))
        refine wp_loop_rounds 1 ?_
        rw [rounds_succ]; go_wp2
        all_goals go_ret
        all_goals exact ⟨rfl, HB.out _ _⟩
  · have e : res = p := by have := HD'.out (by simp [orI, hp0]); simpa [orI, hp0] using this
    subst e
    have hz1 : (res == 0) = false := by simpa using hp0
    clear h h' H HD' HEq' HLen' hp1 hq1 hr1 hp0
    simp only [tyV]
    go_enter Tryz.func71, Tryz.ntmps71
    go_wp2_with (go_at_call 94; ((with_reducible refine (HSK.out _).mono ?_); rintro e w2 ⟨rfl, rfl⟩))
    refine wp_loop_rounds 1 ?_
    rw [rounds_succ]; go_wp2
    all_goals go_ret
    all_goals exact ⟨rfl, HB.out _ _⟩
theorem rcmp_any {t t' : T} {v v' : Value} {w : World} (hs : tsize t ≤ 1000000000) (h : TysAt w v t.kids) (h' : TysAt w v' t'.kids) :
    Calls Tryz.prog 71 #[tyV t v, tyV t' v'] w fun e w' => e = .returned (.int .i64 (cmpT t t')) ∧ Below w.heap.size w w' := by
  obtain ⟨a, c, rfl⟩ := h.shape
  obtain ⟨b, d, rfl⟩ := h'.shape
  exact T.by_kids (P := RCmpOK) rcmp_step t t' a b c d w h h' hs
end Go.Proofs.YtjnlchhikdfifaaGreatDoor
/- The document's copy of a row of predicates. -/
namespace Go.Proofs.YtjnlchhikdfifaaGreatDoor
open Go.RowKit Go.Sort Go.Lib
attribute [local go_sem] Oper.semAt_some

set_option maxRecDepth 100000 in
set_option maxHeartbeats 4000000 in
theorem rPreds_any (g o cap : Nat) (l : List PR) (w : World) (hl : l.length ≤ 1000) (hg : g < w.heap.size)
    (hcell : ∀ i, i < l.length → w.cell? ⟨g, o + i * 4, none⟩ = some (.string (l.getD i noP).n) ∧ w.cell? ⟨g, o + i * 4 + 1, none⟩ = some (.int .i64 (l.getD i noP).t.kind) ∧ w.cell? ⟨g, o + i * 4 + 2, none⟩ = some (.string (l.getD i noP).t.name) ∧ w.cell? ⟨g, o + i * 4 + 3, none⟩ = some (.slice (l.getD i noP).a (l.getD i noP).t.kids.length (l.getD i noP).c)) :
    Calls Tryz.prog 48 #[.slice (some ⟨g, o, none⟩) l.length cap] w fun e w' => (∃ v, e = .returned v ∧ w'.ownsRow w.heap.size 55 4 v l.length (cellsP l)) ∧ Below w.heap.size w w' := by
  obtain ⟨i0, hi, hz0, hz1, hz2⟩ := info_parts Tryz.infoPred
  have hmk : ∀ W : World, (Instr.makeSlice 28 (.int .i64 0) (.int .i64 (l.length : Int))).run Tryz.prog W = .ok (.slice (some ⟨W.heap.size, 0, none⟩) 0 l.length) (W.alloc (.cells (madeCells #[.string ⟨#[]⟩, .int .i64 0, .string ⟨#[]⟩, .slice none 0 0] (l.length * 4)) 55)) := fun W => by
    have hr := run_make (P := Tryz.prog) W 28 55 i0 _ Tryz.underlying28 hi hz0 .i64 .i64 0 l.length (Int.le_refl _) (by omega) (by rw [hz2]; omega) (by omega)
    simp only [Int.toNat_natCast, hz1] at hr
    exact hr
  have HO0 := Lib.hid (show (w.alloc (.cells (madeCells #[.string ⟨#[]⟩, .int .i64 0, .string ⟨#[]⟩, .slice none 0 0] (l.length * 4)) 55)).ownsRow w.heap.size 55 4 (.slice (some ⟨w.heap.size, 0, none⟩) 0 l.length) 0 [] from World.ownsRow_made (base := w.heap.size) (e := 55) (size := 4) w _ l.length (Nat.le_refl _) (by unfold maxLen; omega) (by rw [size_madeCells]))
  have HB0 := Lib.hid ((Below.refl w.heap.size w).alloc (Nat.le_refl _) (.cells (madeCells #[.string ⟨#[]⟩, .int .i64 0, .string ⟨#[]⟩, .slice none 0 0] (l.length * 4)) 55))
  have HCell := Lib.hid hcell
  clear hcell
  go_enter Tryz.func48, Tryz.ntmps48
  go_wp2_with fail
  go_loopw [3, 4] (fun vl vi wr => ∃ i : Nat, i ≤ l.length ∧ vi = .int .i64 i ∧ Hid (wr.ownsRow w.heap.size 55 4 vl i (cellsP (l.take i))) ∧ Hid (Below w.heap.size w wr)) (fun _ vi _ => l.length - (intOf vi).toNat)
  case atStart => exact ⟨0, Nat.zero_le _, rfl, HO0, HB0⟩
  case round =>
    obtain ⟨i, hi', rfl, hO, hB⟩ := hrel
    obtain ⟨va, vc, rfl⟩ := row_val hO.out
    by_cases hlt : i < l.length
    · have hltI : (i : Int) < (l.length : Int) := by omega
      obtain ⟨x0, x1, x2, x3⟩ := HCell.out i hlt
      have c0 := (hB.out.cell (p := ⟨g, o + i * 4, none⟩) hg).trans x0
      have c1 := (hB.out.cell (p := ⟨g, o + i * 4 + 1, none⟩) hg).trans x1
      have c2 := (hB.out.cell (p := ⟨g, o + i * 4 + 2, none⟩) hg).trans x2
      have c3 := (hB.out.cell (p := ⟨g, o + i * 4 + 3, none⟩) hg).trans x3
      have HT := Lib.hid (show cellsP (l.take (i + 1)) = cellsP (l.take i) ++ encP (l.getD i noP) by
        rw [List.take_succ_eq_append_getElem hlt, cellsP_snoc, show l.getD i noP = l[i] by simp [List.getD, hlt]])
      clear x0 x1 x2 x3
      generalize l.getD i noP = x at *
      have hz := hB.out.size
      go_wp2_with (at_builtin; refine wpList_append_own _ rfl _ _ 28 rfl w.heap.size 55 i0 (.agg #[.string ⟨#[]⟩, .int .i64 0, .string ⟨#[]⟩, .slice none 0 0]) 4 64 Tryz.underlying28 hi hz0 hz1 hz2 rfl (by decide) _ _ _ rfl (hO.out.alloc _) ⟨wr.heap.size, 0, none⟩ 1 1 (encP x) rfl rfl (cell_new4 _ _ _ _ _ _) (by simp [encP, Value.oneCell']) ?c3 ?c4 ?c5 ?_)
      case c3 => unfold maxLen; omega
      case c4 => omega
      case c5 => simp; omega
      intro v' W3 hown3 hgrow _
      have hb3 : Below w.heap.size w W3 := (hB.out.alloc hz _).grown hgrow (by simp; omega) (fun j hj => (hO.out.lt j hj).1)
      have HO3 := Lib.hid hown3; have HB3 := Lib.hid hb3
      clear hown3 hgrow hb3
      go_wp2
      go_roundw
      case rel => exact ⟨i + 1, by omega, by go_num, Lib.hid (by rw [HT.out]; exact HO3.out), HB3⟩
      case measure => simp [intOf]; omega
    · obtain rfl : i = l.length := by omega
      have HE := Lib.hid (And.intro hO.out hB.out)
      clear hO hB
      go_wp2
      go_ret
      exact ⟨⟨_, rfl, by have := HE.out.1; rwa [List.take_length] at this⟩, HE.out.2⟩
end Go.Proofs.YtjnlchhikdfifaaGreatDoor
/- SchemeSorts: rows of predicates that are read. -/
namespace Go.Proofs.YtjnlchhikdfifaaGreatDoor
open Go.RowKit Go.Sort Go.Lib
attribute [local go_sem] Oper.semAt_some

/-- Block g holds the predicates ls, to be read. -/
def RowF (g : Nat) (ls : List PR) (V : World) : Prop := ∃ cs fz, V.heap[g]? = some (.cells cs 55 fz) ∧ ∀ i, i < ls.length →
    cs[i * 4]? = some (.string (ls.getD i noP).n) ∧ cs[i * 4 + 1]? = some (.int .i64 (ls.getD i noP).t.kind) ∧ cs[i * 4 + 2]? = some (.string (ls.getD i noP).t.name) ∧ cs[i * 4 + 3]? = some (.slice (ls.getD i noP).a (ls.getD i noP).t.kids.length (ls.getD i noP).c)
theorem RowF.lt {g : Nat} {ls : List PR} {V : World} (h : RowF g ls V) : g < V.heap.size := by obtain ⟨_, _, h, _⟩ := h; exact (Array.getElem?_eq_some_iff.1 h).1
theorem RowF.below {g : Nat} {ls : List PR} {V Y : World} (h : RowF g ls V) (hb : Below V.heap.size V Y) : RowF g ls Y := by
  have hl := h.lt
  obtain ⟨cs, fz, h1, h2⟩ := h; exact ⟨cs, fz, (hb.block g hl).trans h1, h2⟩
theorem RowF.cells {g : Nat} {ls : List PR} {V : World} (h : RowF g ls V) {i : Nat} (hi : i < ls.length) :
    V.cell? ⟨g, i * 4, none⟩ = some (.string (ls.getD i noP).n) ∧ V.cell? ⟨g, i * 4 + 1, none⟩ = some (.int .i64 (ls.getD i noP).t.kind) ∧ V.cell? ⟨g, i * 4 + 2, none⟩ = some (.string (ls.getD i noP).t.name) ∧ V.cell? ⟨g, i * 4 + 3, none⟩ = some (.slice (ls.getD i noP).a (ls.getD i noP).t.kids.length (ls.getD i noP).c) := by
  obtain ⟨cs, fz, h1, h2⟩ := h
  rw [Lib.cell_of_heap h1, Lib.cell_of_heap h1, Lib.cell_of_heap h1, Lib.cell_of_heap h1]
  exact h2 i hi
/-- v is a row of the predicates ls. -/
def PV (ls : List PR) (v : Value) (V : World) : Prop := Typ ls V ∧ ((ls = [] ∧ ∃ a c, v = .slice a 0 c) ∨ ∃ g cap, v = .slice (some ⟨g, 0, none⟩) ls.length cap ∧ ls.length ≤ cap ∧ RowF g ls V)
theorem PV.below {ls : List PR} {v : Value} {V Y : World} (h : PV ls v V) (hb : Below V.heap.size V Y) : PV ls v Y :=
  ⟨h.1.keep (KeepT.of_below hb), h.2.imp id fun ⟨g, cap, e, hc, hr⟩ => ⟨g, cap, e, hc, hr.below hb⟩⟩
theorem PV.shape {ls : List PR} {v : Value} {V : World} (h : PV ls v V) : ∃ a c, v = .slice a ls.length c := by
  rcases h.2 with ⟨rfl, a, c, rfl⟩ | ⟨g, cap, rfl, _, _⟩
  · exact ⟨a, c, rfl⟩
  · exact ⟨_, _, rfl⟩
theorem PV.row {ls : List PR} {a : Option Addr} {c : Nat} {V : World} (h : PV ls (.slice a ls.length c) V) (h0 : 0 < ls.length) : ∃ g, a = some ⟨g, 0, none⟩ ∧ ls.length ≤ c ∧ RowF g ls V := by
  rcases h.2 with ⟨rfl, _⟩ | ⟨g, cap, e, hc, hr⟩
  · simp at h0
  · cases e; exact ⟨g, rfl, hc, hr⟩
theorem PV.of_prs {w : World} {v : Value} {l : List Pr} (h : PrsAt w v l) : ∃ ls : List PR, ls.map prOf = l ∧ PV ls v w := by
  rcases h with ⟨rfl, a, c, rfl⟩ | ⟨g, cap, cs, fz, u, rfl, h1, h2, h3⟩
  · exact ⟨[], rfl, (fun x hx => nomatch hx), .inl ⟨rfl, a, c, rfl⟩⟩
  · have key : ∀ i : Fin l.length, ∃ x : PR, prOf x = l[i] ∧ u i = .slice x.a x.t.kids.length x.c := fun i => by
      obtain ⟨a, c, e⟩ := (h3 i i.2).2.shape
      exact ⟨⟨l[i].1, l[i].2, a, c⟩, rfl, e⟩
    obtain ⟨f, hf⟩ := Classical.axiomOfChoice key
    have hlen : (List.ofFn f).length = l.length := List.length_ofFn
    have hget : ∀ i (hi : i < l.length), (List.ofFn f).getD i noP = f ⟨i, hi⟩ := fun i hi => by simp [List.getD, hi]
    refine ⟨List.ofFn f, ?_, fun x hx => ?_, .inr ⟨g, cap, by rw [hlen], by rw [hlen]; exact h2, cs, fz, h1, fun i hi => ?_⟩⟩
    · apply List.ext_getElem
      · simp
      · intro i h1 h2; simpa using (hf ⟨i, h2⟩).1
    · obtain ⟨i, hi, rfl⟩ := List.mem_iff_getElem.1 hx
      have hi' : i < l.length := by simpa using hi
      obtain ⟨e1, e2⟩ := hf ⟨i, hi'⟩
      have := (h3 i hi').2
      rw [List.getElem_ofFn, ← e2]
      rwa [show l[i].2 = (f ⟨i, hi'⟩).t from by have := congrArg Prod.snd e1; exact this.symm] at this
    · have hi' : i < l.length := by rw [hlen] at hi; exact hi
      rw [hget i hi']
      obtain ⟨e1, e2⟩ := hf ⟨i, hi'⟩
      have a1 : l[i].1 = (f ⟨i, hi'⟩).n := (congrArg Prod.fst e1).symm
      have a2 : l[i].2 = (f ⟨i, hi'⟩).t := (congrArg Prod.snd e1).symm
      have := (h3 i hi').1
      rw [a1, a2] at this
      exact ⟨this.1, this.2.1, this.2.2.1, this.2.2.2.trans (congrArg some e2)⟩
/-- Two rows in order that hold the same predicates are one. -/
theorem strict_unique : ∀ (l m : List PR), l.Pairwise (fun x y => cmpR x y < 0) → m.Pairwise (fun x y => cmpR x y < 0) → (∀ q, q ∈ l.map prOf ↔ q ∈ m.map prOf) → l.map prOf = m.map prOf
  | [], [], _, _, _ => rfl
  | [], y :: m, _, _, h => nomatch (h (prOf y)).2 (by simp)
  | x :: l, [], _, _, h => nomatch (h (prOf x)).1 (by simp)
  | x :: l, y :: m, hl, hm, h => by
    obtain ⟨hx, hl'⟩ := List.pairwise_cons.1 hl
    obtain ⟨hy, hm'⟩ := List.pairwise_cons.1 hm
    have pc : ∀ {a b c d : PR}, prOf a = prOf c → prOf b = prOf d → cmpR a b = cmpR c d := fun {a b c d} e1 e2 => by
      have n1 : a.n = c.n := congrArg Prod.fst e1
      have t1 : a.t = c.t := congrArg Prod.snd e1
      have n2 : b.n = d.n := congrArg Prod.fst e2
      have t2 : b.t = d.t := congrArg Prod.snd e2
      unfold cmpR; rw [n1, t1, n2, t2]
    have hself : ∀ a : PR, cmpR a a = 0 := fun a => (cmpR_zero a a).2 ⟨rfl, rfl⟩
    have hxy : prOf x = prOf y := by
      obtain ⟨z, hz, e⟩ := List.mem_map.1 ((h (prOf x)).1 (by simp))
      obtain ⟨z', hz', e'⟩ := List.mem_map.1 ((h (prOf y)).2 (by simp))
      rcases List.mem_cons.1 hz with rfl | hz
      · exact e.symm
      · rcases List.mem_cons.1 hz' with rfl | hz'
        · exact e'
        · have h1 := hy z hz
          have h2 := hx z' hz'
          rw [pc rfl e] at h1
          rw [pc rfl e', cmpR_neg y x] at h2
          omega
    have hrest : l.map prOf = m.map prOf := strict_unique l m hl' hm' fun q => by
      have hq := h q
      simp only [List.map_cons, List.mem_cons] at hq
      rw [hxy] at hq
      have n1 : prOf y ∉ l.map prOf := fun hm => by
        obtain ⟨z, hz, e⟩ := List.mem_map.1 hm
        have h1 := hx z hz
        rw [pc (c := y) (d := y) hxy e, hself] at h1
        omega
      have n2 : prOf y ∉ m.map prOf := fun hm => by
        obtain ⟨z, hz, e⟩ := List.mem_map.1 hm
        have h1 := hy z hz
        rw [pc (c := y) (d := y) rfl e, hself] at h1
        omega
      constructor
      · intro hin
        rcases hq.1 (.inr hin) with rfl | h
        · exact absurd hin n1
        · exact h
      · intro hin
        rcases hq.2 (.inr hin) with rfl | h
        · exact absurd hin n2
        · exact h
    rw [List.map_cons, List.map_cons, hxy, hrest]
end Go.Proofs.YtjnlchhikdfifaaGreatDoor
/- slices.Equal of texts; slices.EqualFunc of contexts. -/
namespace Go.Proofs.YtjnlchhikdfifaaGreatDoor
open Go.RowKit Go.Sort Go.Lib
attribute [local go_sem] Oper.semAt_some

set_option maxHeartbeats 2000000 in
theorem equalT_any (l l' : List ByteArray) (hl : l.length ≤ 1000000000) (a b : Option Addr) (c d : Nat) (w : World) (h : TextsAt w (.slice a l.length c) l) (h' : TextsAt w (.slice b l'.length d) l') :
    Calls Tryz.prog 50 #[.slice a l.length c, .slice b l'.length d] w fun e w' => e = .returned (.bool (eqB l l')) ∧ Below w.heap.size w w' := by
  by_cases hlen : l.length = l'.length
  · have hm : ((l.length : Int) != (l'.length : Int)) = false := by simp; omega
    have HR := Lib.hid (h.part.2)
    have HR' := Lib.hid (h'.part.2)
    have HL := Lib.hid hlen
    have hlen1 : l'.length ≤ l.length := by omega
    have hlen2 : l.length ≤ l'.length := by omega
    obtain ⟨res, hres⟩ : ∃ r, eqB l l' = r := ⟨_, rfl⟩
    have HRes := Lib.hid hres
    rw [hres]
    clear h h' hlen hres
    go_enter Tryz.func50, Tryz.ntmps50
    go_wp2
    go_loopw [13] (fun vi wr => ∃ i : Nat, i ≤ l.length ∧ vi = .int .i64 i ∧ Hid (Below w.heap.size w wr) ∧ Hid (∀ j (h1 : j < l.length) (h2 : j < l'.length), j < i → l[j] = l'[j])) (fun vi _ => l.length - (intOf vi).toNat)
    case atStart => exact ⟨0, Nat.zero_le _, rfl, Lib.hid (Below.refl _ _), Lib.hid (fun j _ _ h => absurd h (by omega))⟩
    case round =>
      obtain ⟨i, hi, rfl, hB, hS⟩ := hrel
      by_cases hlt : i < l.length
      · have hlt' : i < l'.length := by omega
        obtain ⟨g, rfl, hc, hg, hh⟩ := HR.out i hlt
        obtain ⟨g', rfl, hc', hg', hh'⟩ := HR'.out i hlt'
        have x0 := hh wr (fun k _ _ hk => (hB.out.block k (Array.getElem?_eq_some_iff.1 hk).1).trans hk)
        have y0 := hh' wr (fun k _ _ hk => (hB.out.block k (Array.getElem?_eq_some_iff.1 hk).1).trans hk)
        have hb : (l[i].toList == l'[i].toList) = eqB l[i] l'[i] := bytes_beq _ _
        obtain ⟨u, hu⟩ : ∃ u, l[i] = u := ⟨_, rfl⟩
        obtain ⟨u', hu'⟩ : ∃ u, l'[i] = u := ⟨_, rfl⟩
        have HU := Lib.hid hu; have HU' := Lib.hid hu'
        rw [hu] at x0 hb; rw [hu'] at y0 hb
        clear hh hh' hu hu' HR HR'
        have hlt1 : ((i : Int) < (l.length : Int)) := by omega
        have hlt2 : ((i : Int) < (l'.length : Int)) := by omega
        by_cases hq : u = u'
        · rw [eqB_true hq] at hb
          have HQ := Lib.hid hq
          clear hq
          go_wp2
          go_quiet (fail)
          go_wp2
          go_roundw
          case rel => exact ⟨i + 1, by omega, by go_num, Lib.hid (below_drewN hB.out _), Lib.hid fun j h1 h2 hji => by
            by_cases e : j = i
            · subst e; rw [HU.out, HU'.out]; exact HQ.out
            · exact hS.out j h1 h2 (by omega)⟩
          case measure => simp [intOf]; omega
        · rw [eqB_false hq] at hb
          have e : res = false := by
            rw [← HRes.out]
            refine eqB_false fun e => hq ?_
            rw [← HU.out, ← HU'.out]
            exact List.getElem_of_eq e hlt
          subst e
          clear hq HRes HU HU'
          go_wp2
          go_quiet (fail)
          go_wp2
          go_ret
          exact ⟨rfl, below_drewN hB.out _⟩
      · obtain rfl : i = l.length := by omega
        have e : res = true := by
          rw [← HRes.out]
          exact eqB_true (List.ext_getElem HL.out (fun j h1 h2 => hS.out j h1 h2 h1))
        subst e
        clear HRes HR HR'
        go_wp2
        go_ret
        exact ⟨rfl, hB.out⟩
  · have hm : ((l.length : Int) != (l'.length : Int)) = true := by simp; omega
    rw [eqB_false (fun e => hlen (by rw [e]))]
    clear h h'
    go_enter Tryz.func50, Tryz.ntmps50
    go_wp2
    go_ret
    exact ⟨rfl, Below.refl _ _⟩
set_option maxRecDepth 100000 in
set_option maxHeartbeats 4000000 in
theorem equalF_any (ls ms : List PR) (H : ∀ x ∈ ls, Fits x.t) (a b : Option Addr) (c d : Nat) (w : World) (h : PV ls (.slice a ls.length c) w) (h' : PV ms (.slice b ms.length d) w) (hn : ls.length ≤ 1000000) :
    Calls Tryz.prog 51 #[.slice a ls.length c, .slice b ms.length d, .func (.func 46) #[] #[]] w fun e w' => e = .returned (.bool (eqB (ls.map prOf) (ms.map prOf))) ∧ Below w.heap.size w w' := by
  by_cases hlen : ls.length = ms.length
  · have hm : ((ls.length : Int) != (ms.length : Int)) = false := by simp; omega
    have H1 := Lib.hid h; have H2 := Lib.hid h'; have HF := Lib.hid H
    have HL := Lib.hid hlen
    have hlen1 : ms.length ≤ ls.length := by omega
    have hlen2 : ls.length ≤ ms.length := by omega
    obtain ⟨res, hres⟩ : ∃ r, eqB (ls.map prOf) (ms.map prOf) = r := ⟨_, rfl⟩
    have HRes := Lib.hid hres
    rw [hres]
    clear h h' H hlen hres
    go_enter Tryz.func51, Tryz.ntmps51
    go_wp2
    go_loopw [17] (fun vi wr => ∃ i : Nat, i ≤ ls.length ∧ vi = .int .i64 i ∧ Hid (Below w.heap.size w wr) ∧ Hid (∀ j, j < i → prOf (ls.getD j noP) = prOf (ms.getD j noP))) (fun vi _ => ls.length - (intOf vi).toNat)
    case atStart => exact ⟨0, Nat.zero_le _, rfl, Lib.hid (Below.refl _ _), Lib.hid (fun j h => absurd h (Nat.not_lt_zero _))⟩
    case round =>
      obtain ⟨i, hi, rfl, hB, hS⟩ := hrel
      by_cases hlt : i < ls.length
      · have hlt' : i < ms.length := by omega
        obtain ⟨g1, rfl, hc1, hr1⟩ := H1.out.row (by omega)
        obtain ⟨g2, rfl, hc2, hr2⟩ := H2.out.row (by omega)
        obtain ⟨x0, x1, x2, x3⟩ := (hr1.below hB.out).cells hlt
        obtain ⟨y0, y1, y2, y3⟩ := (hr2.below hB.out).cells hlt'
        have lx := (hr1.below hB.out).lt
        have ly := (hr2.below hB.out).lt
        have HC := Lib.hid (fun (W : World) (hb : Below w.heap.size w W) => sameQ_any (ls.getD i noP) (ms.getD i noP) W (HF.out _ (getD_memR hlt)) ((H1.out.1 _ (getD_memR hlt)).keep (KeepT.of_below hb)) ((H2.out.1 _ (getD_memR hlt')).keep (KeepT.of_below hb)))
        have hz : cmpR (ls.getD i noP) (ms.getD i noP) = 0 ↔ prOf (ls.getD i noP) = prOf (ms.getD i noP) := (cmpR_zero _ _).trans ⟨fun e => Prod.ext e.1 e.2, fun e => ⟨congrArg Prod.fst e, congrArg Prod.snd e⟩⟩
        have HX := Lib.hid (show ∃ x, ls.getD i noP = x from ⟨_, rfl⟩)
        have HZ := Lib.hid hz
        have hltI : (i : Int) < (ls.length : Int) := by omega
        have hltI2 : (i : Int) < (ms.length : Int) := by omega
        have lx1 : g1 < wr.heap.size + 1 := by omega
        have ly1 : g2 < wr.heap.size + 1 := by omega
        have HBn := Lib.hid (fun (o1 o2 : Obj) => (hB.out.alloc hB.out.size o1).alloc (by simp; have := hB.out.size; omega) o2)
        clear hr1 hr2 hz HX
        obtain ⟨x, hx⟩ : ∃ x, ls.getD i noP = x := ⟨_, rfl⟩
        obtain ⟨y, hy⟩ : ∃ y, ms.getD i noP = y := ⟨_, rfl⟩
        have HXe := Lib.hid hx; have HYe := Lib.hid hy
        rw [hx] at x0 x1 x2 x3 HC HZ
        rw [hy] at y0 y1 y2 y3 HC HZ
        clear hx hy
        simp only [pairV] at HC
        by_cases hq : cmpR x y = 0
        · have hqB : (cmpR x y == 0) = true := by rw [hq]; rfl
          have HQ := Lib.hid (HZ.out.1 hq)
          rw [hqB] at HC
          clear hq hqB HZ
          go_wp2_with (go_at_fn 46; fail)
          refine (HC.out _ (HBn.out _ _)).mono ?_
          rintro e w5 ⟨rfl, hb5⟩
          have HB5 := Lib.hid ((HBn.out _ _).trans (hb5.mono (by simp; have := hB.out.size; omega)))
          clear hb5 HC HBn
          go_wp2_with fail
          go_roundw
          case rel => exact ⟨i + 1, by omega, by go_num, HB5, Lib.hid fun j hj => by
            by_cases e : j = i
            · subst e; rw [HXe.out, HYe.out]; exact HQ.out
            · exact hS.out j (by omega)⟩
          case measure => simp [intOf]; omega
        · have hqB : (cmpR x y == 0) = false := by simpa using hq
          have e : res = false := by
            rw [← HRes.out]
            refine eqB_false fun e => hq (HZ.out.2 ?_)
            have := congrArg (fun l : List Pr => l[i]?) e
            simp only [List.getElem?_map] at this
            rw [← HXe.out, ← HYe.out]
            simpa [List.getD, hlt, hlt'] using this
          subst e
          rw [hqB] at HC
          clear hq hqB HZ HRes
          go_wp2_with (go_at_fn 46; fail)
          refine (HC.out _ (HBn.out _ _)).mono ?_
          rintro e w5 ⟨rfl, hb5⟩
          have HB5 := Lib.hid ((HBn.out _ _).trans (hb5.mono (by simp; have := hB.out.size; omega)))
          clear hb5 HC HBn
          go_wp2_with fail
          go_ret
          exact ⟨rfl, HB5.out⟩
      · obtain rfl : i = ls.length := by omega
        have e : res = true := by
          rw [← HRes.out]
          refine eqB_true (List.ext_getElem (by simp [HL.out]) fun j h1 h2 => ?_)
          have h1' : j < ls.length := by simpa using h1
          have h2' : j < ms.length := by simpa using h2
          have := hS.out j h1'
          simpa [List.getD, h1', h2'] using this
        subst e
        clear HRes H1 H2 HF
        go_wp2_with fail
        go_ret
        exact ⟨rfl, hB.out⟩
  · have hm : ((ls.length : Int) != (ms.length : Int)) = true := by simp; omega
    rw [eqB_false (fun e => hlen (by have := congrArg List.length e; simpa using this))]
    clear h h' H
    go_enter Tryz.func51, Tryz.ntmps51
    go_wp2
    go_ret
    exact ⟨rfl, Below.refl _ _⟩
end Go.Proofs.YtjnlchhikdfifaaGreatDoor
/- scheme: its last statement, a region of 13 operations that draws its order, by an invariant. (Made by a program.) -/
namespace Go.Proofs.YtjnlchhikdfifaaGreatDoor
open Go.RowKit Go.Sort Go.Lib
attribute [local go_sem] Oper.semAt_some

noncomputable def gcnOps : Array Oper := regionIn 2 (Tryz.f12.body.getD .skip)
def gcnFr (b : Nat → Value) (d : List Deferred) (x : Nat → Value) : Act := { tmps := #[b 0, b 1, b 2, x 11, x 12, b 5, b 6, b 7, b 8, x 8, x 0, x 1, x 2, x 3, x 4, x 5, x 6, x 7, x 9, x 10, b 20, b 21, b 22, b 23, b 24, b 25, b 26, b 27, b 28, b 29, b 30, b 31], defers := d }

def gcnVals (b1 : Nat) (xa ca ta : Option Addr) (xc cc tc : Nat) (xs L : List ByteArray) (lc : List Pr) (t : T) (i : Nat) (v : Value) (V : World) : Prop :=
  match i with
  | 0 => v = .pointer (some ⟨b1, 1, none⟩)
  | 1 => v = .slice ca lc.length cc
  | 2 => v = .pointer (some ⟨b1, 2, none⟩)
  | 3 => v = .agg #[.int .i64 (t).kind, .string (t).name, .slice ta (t).kids.length tc]
  | 4 => ∃ za zc, v = .slice za L.length zc ∧ TextsAt V (.slice za L.length zc) L
  | 5 => v = .pointer (some ⟨b1, 0, none⟩)
  | 6 => v = .slice xa xs.length xc
  | 7 => ∃ zi zp zo zq, v = .tuple #[.slice zi (L.filter (inB xs)).length zp, .slice zo (L.filter fun n => !inB xs n).length zq] ∧ (TextsAt V (.slice zi (L.filter (inB xs)).length zp) (L.filter (inB xs)) ∧ TextsAt V (.slice zo (L.filter fun n => !inB xs n).length zq) (L.filter fun n => !inB xs n))
  | 8 => ∃ zi zp zo zq, v = .tuple #[.slice zi (L.filter (inB xs)).length zp, .slice zo (L.filter fun n => !inB xs n).length zq] ∧ (TextsAt V (.slice zi (L.filter (inB xs)).length zp) (L.filter (inB xs)) ∧ TextsAt V (.slice zo (L.filter fun n => !inB xs n).length zq) (L.filter fun n => !inB xs n))
  | 9 => ∃ zi zp, v = .slice zi (L.filter (inB xs)).length zp ∧ TextsAt V (.slice zi (L.filter (inB xs)).length zp) (L.filter (inB xs))
  | 10 => ∃ zo zq, v = .slice zo (L.filter fun n => !inB xs n).length zq ∧ TextsAt V (.slice zo (L.filter fun n => !inB xs n).length zq) (L.filter fun n => !inB xs n)
  | 11 => ∃ zi zp, v = .slice zi (L.filter (inB xs)).length zp ∧ TextsAt V (.slice zi (L.filter (inB xs)).length zp) (L.filter (inB xs))
  | 12 => ∃ zo zq, v = .slice zo (L.filter fun n => !inB xs n).length zq ∧ TextsAt V (.slice zo (L.filter fun n => !inB xs n).length zq) (L.filter fun n => !inB xs n)
  | _ => True

theorem gcnVals_keep {b1 : Nat} {xa ca ta : Option Addr} {xc cc tc : Nat} {xs L : List ByteArray} {lc : List Pr} {t : T} (i : Nat) (v : Value) (V Y : World) (h : gcnVals b1 xa ca ta xc cc tc xs L lc t i v V) (hb : Below V.heap.size V Y) : gcnVals b1 xa ca ta xc cc tc xs L lc t i v Y := by
  unfold gcnVals at *
  split at h <;> first
    | exact h
    | (obtain ⟨za, zc, e, h⟩ := h; exact ⟨za, zc, e, h.below hb⟩)
    | (obtain ⟨zi, zp, zo, zq, e, h⟩ := h; exact ⟨zi, zp, zo, zq, e, ⟨h.1.below hb, h.2.below hb⟩⟩)
    | (obtain ⟨zi, zp, e, h⟩ := h; exact ⟨zi, zp, e, h.below hb⟩)
    | (obtain ⟨zo, zq, e, h⟩ := h; exact ⟨zo, zq, e, h.below hb⟩)

theorem gcn_size : gcnOps.size = 13 := by kernel_rfl
set_option linter.unusedSimpArgs false in
set_option maxRecDepth 100000 in
set_option maxHeartbeats 8000000 in
theorem gcn_region {w : World} {b1 : Nat} {xa ca ta : Option Addr} {xc cc tc : Nat} {xs L : List ByteArray} {lc : List Pr} {t : T} {b : Nat → Value} {d : List Deferred}
    (h1 : b 1 = .pointer (some ⟨b1, 0, none⟩))
    (HC4 : ∀ V, SFg w b1 xa xc xs ca cc lc t ta tc V → Calls Tryz.prog 38 #[.slice ca lc.length cc, .agg #[.int .i64 (t).kind, .string (t).name, .slice ta (t).kids.length tc]] V fun e Y => (∃ za zc, e = .returned (.slice za L.length zc) ∧ TextsAt Y (.slice za L.length zc) L) ∧ Below V.heap.size V Y)
    (HC7 : ∀ V, SFg w b1 xa xc xs ca cc lc t ta tc V → ∀ za4, ∀ zc4, TextsAt V (.slice za4 L.length zc4) L → Calls Tryz.prog 37 #[.slice za4 L.length zc4, .slice xa xs.length xc] V fun e Y => (∃ zi zp zo zq, e = .returned (.tuple #[.slice zi (L.filter (inB xs)).length zp, .slice zo (L.filter fun n => !inB xs n).length zq]) ∧ (TextsAt Y (.slice zi (L.filter (inB xs)).length zp) (L.filter (inB xs)) ∧ TextsAt Y (.slice zo (L.filter fun n => !inB xs n).length zq) (L.filter fun n => !inB xs n))) ∧ Below V.heap.size V Y)
    {Q : Exit → Act → World → Prop} {ops : Array Oper} (hops : ops = gcnOps) (x0 : Nat → Value) (X : World) (hS : SFg w b1 xa xc xs ca cc lc t ta tc X.drew)
    (hfin : ∀ (x : Nat → Value) V zi zp zo zq, SFg w b1 xa xc xs ca cc lc t ta tc V → x 11 = .slice zi (L.filter (inB xs)).length zp → x 12 = .slice zo (L.filter fun n => !inB xs n).length zq → TextsAt V (.slice zi (L.filter (inB xs)).length zp) (L.filter (inB xs)) → TextsAt V (.slice zo (L.filter fun n => !inB xs n).length zq) (L.filter fun n => !inB xs n) → Q .normal (gcnFr b d x) V) : (Code.region 2 ops true).wp Tryz.prog Q (gcnFr b d x0) X := by
  have HC := Lib.hid (And.intro HC4 HC7)
  clear HC4 HC7
  refine region_inv (gcnFr b d) (fun V => SFg w b1 xa xc xs ca cc lc t ta tc V) (fun V Y => Below V.heap.size V Y) (gcnVals b1 xa ca ta xc cc tc xs L lc t) x0 (by kernel_rfl) rfl hS (fun V Y h hb => h.below hb) (fun i v V Y _ h hb => gcnVals_keep i v V Y h hb) ?_ (fun x V hV h => by obtain ⟨zi, zp, e1, k1⟩ := h 11 (by rw [hops, gcn_size]; decide); obtain ⟨zo, zq, e2, k2⟩ := h 12 (by rw [hops, gcn_size]; decide); exact hfin x V zi zp zo zq hV e1 e2 k1 k2)
  clear hfin hS
  obtain ⟨f, hf⟩ : ∃ qq, StepAt Tryz.prog (gcnFr b d) (fun V => SFg w b1 xa xc xs ca cc lc t ta tc V) (fun V Y => Below V.heap.size V Y) (gcnVals b1 xa ca ta xc cc tc xs L lc t) ops Q = qq := ⟨_, rfl⟩
  rw [hf, hops]
  simp only [gcnOps, Tryz.f12, regionIn, Option.getD_some, Nat.reduceBEq, Bool.false_eq_true, if_false, if_true, beq_self_eq_true, Array.append_empty, Array.empty_append, List.append_eq, List.cons_append, List.nil_append, AllAt, Nat.reduceAdd, Nat.zero_add]
  -- 0: slot 10 := Op.fieldAddr 33 t1 1
  refine And.intro ?_ ?_
  · rw [← hf]; clear hf
    refine ⟨by decide +kernel, fun x v => by kernel_rfl, fun x V hV hdep K hK => ?_⟩
    clear hdep
    refine run_bare (by kernel_rfl) ?_
    unfold gcnFr
    go_simp
    refine kfit (hK _ _ (Below.refl _ V) rfl) ?_
    first | (simp only [gcnFr, Act.put, List.setIfInBounds_toArray, List.set_cons_zero, List.set_cons_succ, h1]; done) | (simp only [gcnFr, Act.put, List.setIfInBounds_toArray, List.set_cons_zero, List.set_cons_succ, h1]; rfl)
  -- 1: slot 11 := Op.load 28 t10
  refine And.intro ?_ ?_
  · rw [← hf]; clear hf
    refine ⟨by decide +kernel, fun x v => by kernel_rfl, fun x V hV hdep K hK => ?_⟩
    have e0 : x 0 = .pointer (some ⟨b1, 1, none⟩) := depOf hdep 0 (by decide +kernel)
    clear hdep
    refine run_bare (by kernel_rfl) ?_
    unfold gcnFr
    obtain ⟨y0, y1, y2, y3, y4⟩ := cells5 hV.1.1
    go_simp
    refine kfit (hK _ _ (Below.refl _ V) rfl) ?_
    first | (simp only [gcnFr, Act.put, List.setIfInBounds_toArray, List.set_cons_zero, List.set_cons_succ, h1, e0]; done) | (simp only [gcnFr, Act.put, List.setIfInBounds_toArray, List.set_cons_zero, List.set_cons_succ, h1, e0]; rfl)
  -- 2: slot 12 := Op.fieldAddr 33 t1 2
  refine And.intro ?_ ?_
  · rw [← hf]; clear hf
    refine ⟨by decide +kernel, fun x v => by kernel_rfl, fun x V hV hdep K hK => ?_⟩
    clear hdep
    refine run_bare (by kernel_rfl) ?_
    unfold gcnFr
    go_simp
    refine kfit (hK _ _ (Below.refl _ V) rfl) ?_
    first | (simp only [gcnFr, Act.put, List.setIfInBounds_toArray, List.set_cons_zero, List.set_cons_succ, h1]; done) | (simp only [gcnFr, Act.put, List.setIfInBounds_toArray, List.set_cons_zero, List.set_cons_succ, h1]; rfl)
  -- 3: slot 13 := Op.load 31 t12
  refine And.intro ?_ ?_
  · rw [← hf]; clear hf
    refine ⟨by decide +kernel, fun x v => by kernel_rfl, fun x V hV hdep K hK => ?_⟩
    have e2 : x 2 = .pointer (some ⟨b1, 2, none⟩) := depOf hdep 2 (by decide +kernel)
    clear hdep
    refine run_bare (by kernel_rfl) ?_
    unfold gcnFr
    obtain ⟨y0, y1, y2, y3, y4⟩ := cells5 hV.1.1
    go_simp
    refine kfit (hK _ _ (Below.refl _ V) rfl) ?_
    first | (simp only [gcnFr, Act.put, List.setIfInBounds_toArray, List.set_cons_zero, List.set_cons_succ, h1, e2]; done) | (simp only [gcnFr, Act.put, List.setIfInBounds_toArray, List.set_cons_zero, List.set_cons_succ, h1, e2]; rfl)
  -- 4: slot 14 := Op.call { value (Operand.func 38), args := #[t11, t13], argT
  refine And.intro ?_ ?_
  · rw [← hf]; clear hf
    refine ⟨by decide +kernel, fun x v => by kernel_rfl, fun x V hV hdep K hK => ?_⟩
    have e1 : x 1 = .slice ca lc.length cc := depOf hdep 1 (by decide +kernel)
    have e3 : x 3 = .agg #[.int .i64 (t).kind, .string (t).name, .slice ta (t).kids.length tc] := depOf hdep 3 (by decide +kernel)
    clear hdep
    refine run_bare (by kernel_rfl) ?_
    unfold gcnFr
    obtain ⟨HC4, HC7⟩ := HC.out
    clear HC7
    have H := HC4 V hV
    replace H := Lib.hid H; clear HC4
    go_simp
    go_at_call 38
    refine H.out.mono ?_
    rintro e Y ⟨⟨za, zc, rfl, hq⟩, hb⟩; refine kfit (hK _ _ hb ⟨za, zc, rfl, hq⟩) ?_
    first | (simp only [gcnFr, Act.put, List.setIfInBounds_toArray, List.set_cons_zero, List.set_cons_succ, h1, e1, e3]; done) | (simp only [gcnFr, Act.put, List.setIfInBounds_toArray, List.set_cons_zero, List.set_cons_succ, h1, e1, e3]; rfl)
  -- 5: slot 15 := Op.fieldAddr 33 t1 0
  refine And.intro ?_ ?_
  · rw [← hf]; clear hf
    refine ⟨by decide +kernel, fun x v => by kernel_rfl, fun x V hV hdep K hK => ?_⟩
    clear hdep
    refine run_bare (by kernel_rfl) ?_
    unfold gcnFr
    go_simp
    refine kfit (hK _ _ (Below.refl _ V) rfl) ?_
    first | (simp only [gcnFr, Act.put, List.setIfInBounds_toArray, List.set_cons_zero, List.set_cons_succ, h1]; done) | (simp only [gcnFr, Act.put, List.setIfInBounds_toArray, List.set_cons_zero, List.set_cons_succ, h1]; rfl)
  -- 6: slot 16 := Op.load 23 t15
  refine And.intro ?_ ?_
  · rw [← hf]; clear hf
    refine ⟨by decide +kernel, fun x v => by kernel_rfl, fun x V hV hdep K hK => ?_⟩
    have e5 : x 5 = .pointer (some ⟨b1, 0, none⟩) := depOf hdep 5 (by decide +kernel)
    clear hdep
    refine run_bare (by kernel_rfl) ?_
    unfold gcnFr
    obtain ⟨y0, y1, y2, y3, y4⟩ := cells5 hV.1.1
    go_simp
    refine kfit (hK _ _ (Below.refl _ V) rfl) ?_
    first | (simp only [gcnFr, Act.put, List.setIfInBounds_toArray, List.set_cons_zero, List.set_cons_succ, h1, e5]; done) | (simp only [gcnFr, Act.put, List.setIfInBounds_toArray, List.set_cons_zero, List.set_cons_succ, h1, e5]; rfl)
  -- 7: slot 17 := Op.call { value (Operand.func 37), args := #[t14, t16], argT
  refine And.intro ?_ ?_
  · rw [← hf]; clear hf
    refine ⟨by decide +kernel, fun x v => by kernel_rfl, fun x V hV hdep K hK => ?_⟩
    obtain ⟨za4, zc4, e4, d4⟩ : ∃ za4 zc4, x 4 = .slice za4 L.length zc4 ∧ TextsAt V (.slice za4 L.length zc4) L := depOf hdep 4 (by decide +kernel)
    have e6 : x 6 = .slice xa xs.length xc := depOf hdep 6 (by decide +kernel)
    clear hdep
    refine run_bare (by kernel_rfl) ?_
    unfold gcnFr
    obtain ⟨HC4, HC7⟩ := HC.out
    clear HC4
    have H := HC7 V hV _ _ d4
    replace H := Lib.hid H; clear HC7
    go_simp
    go_at_call 37
    refine H.out.mono ?_
    rintro e Y ⟨⟨zi, zp, zo, zq, rfl, hq⟩, hb⟩; refine kfit (hK _ _ hb ⟨zi, zp, zo, zq, rfl, hq⟩) ?_
    first | (simp only [gcnFr, Act.put, List.setIfInBounds_toArray, List.set_cons_zero, List.set_cons_succ, h1, e4, e6]; done) | (simp only [gcnFr, Act.put, List.setIfInBounds_toArray, List.set_cons_zero, List.set_cons_succ, h1, e4, e6]; rfl)
  -- 8: slot 9 := Op.move t17
  refine And.intro ?_ ?_
  · rw [← hf]; clear hf
    refine ⟨by decide +kernel, fun x v => by kernel_rfl, fun x V hV hdep K hK => ?_⟩
    obtain ⟨zi7, zp7, zo7, zq7, e7, d7⟩ : ∃ zi7 zp7 zo7 zq7, x 7 = .tuple #[.slice zi7 (L.filter (inB xs)).length zp7, .slice zo7 (L.filter fun n => !inB xs n).length zq7] ∧ (TextsAt V (.slice zi7 (L.filter (inB xs)).length zp7) (L.filter (inB xs)) ∧ TextsAt V (.slice zo7 (L.filter fun n => !inB xs n).length zq7) (L.filter fun n => !inB xs n)) := depOf hdep 7 (by decide +kernel)
    clear hdep
    refine run_bare (by kernel_rfl) ?_
    unfold gcnFr
    go_simp
    refine kfit (hK _ _ (Below.refl _ V) ⟨_, _, _, _, rfl, d7⟩) ?_
    first | (simp only [gcnFr, Act.put, List.setIfInBounds_toArray, List.set_cons_zero, List.set_cons_succ, h1, e7]; done) | (simp only [gcnFr, Act.put, List.setIfInBounds_toArray, List.set_cons_zero, List.set_cons_succ, h1, e7]; rfl)
  -- 9: slot 18 := Op.extract t9 0
  refine And.intro ?_ ?_
  · rw [← hf]; clear hf
    refine ⟨by decide +kernel, fun x v => by kernel_rfl, fun x V hV hdep K hK => ?_⟩
    obtain ⟨zi8, zp8, zo8, zq8, e8, d8⟩ : ∃ zi8 zp8 zo8 zq8, x 8 = .tuple #[.slice zi8 (L.filter (inB xs)).length zp8, .slice zo8 (L.filter fun n => !inB xs n).length zq8] ∧ (TextsAt V (.slice zi8 (L.filter (inB xs)).length zp8) (L.filter (inB xs)) ∧ TextsAt V (.slice zo8 (L.filter fun n => !inB xs n).length zq8) (L.filter fun n => !inB xs n)) := depOf hdep 8 (by decide +kernel)
    clear hdep
    refine run_bare (by kernel_rfl) ?_
    unfold gcnFr
    go_simp
    refine kfit (hK _ _ (Below.refl _ V) ⟨_, _, rfl, d8.1⟩) ?_
    first | (simp only [gcnFr, Act.put, List.setIfInBounds_toArray, List.set_cons_zero, List.set_cons_succ, h1, e8]; done) | (simp only [gcnFr, Act.put, List.setIfInBounds_toArray, List.set_cons_zero, List.set_cons_succ, h1, e8]; rfl)
  -- 10: slot 19 := Op.extract t9 1
  refine And.intro ?_ ?_
  · rw [← hf]; clear hf
    refine ⟨by decide +kernel, fun x v => by kernel_rfl, fun x V hV hdep K hK => ?_⟩
    obtain ⟨zi8, zp8, zo8, zq8, e8, d8⟩ : ∃ zi8 zp8 zo8 zq8, x 8 = .tuple #[.slice zi8 (L.filter (inB xs)).length zp8, .slice zo8 (L.filter fun n => !inB xs n).length zq8] ∧ (TextsAt V (.slice zi8 (L.filter (inB xs)).length zp8) (L.filter (inB xs)) ∧ TextsAt V (.slice zo8 (L.filter fun n => !inB xs n).length zq8) (L.filter fun n => !inB xs n)) := depOf hdep 8 (by decide +kernel)
    clear hdep
    refine run_bare (by kernel_rfl) ?_
    unfold gcnFr
    go_simp
    refine kfit (hK _ _ (Below.refl _ V) ⟨_, _, rfl, d8.2⟩) ?_
    first | (simp only [gcnFr, Act.put, List.setIfInBounds_toArray, List.set_cons_zero, List.set_cons_succ, h1, e8]; done) | (simp only [gcnFr, Act.put, List.setIfInBounds_toArray, List.set_cons_zero, List.set_cons_succ, h1, e8]; rfl)
  -- 11: slot 3 := Op.assign t18
  refine And.intro ?_ ?_
  · rw [← hf]; clear hf
    refine ⟨by decide +kernel, fun x v => by kernel_rfl, fun x V hV hdep K hK => ?_⟩
    obtain ⟨zi9, zp9, e9, d9⟩ : ∃ zi9 zp9, x 9 = .slice zi9 (L.filter (inB xs)).length zp9 ∧ TextsAt V (.slice zi9 (L.filter (inB xs)).length zp9) (L.filter (inB xs)) := depOf hdep 9 (by decide +kernel)
    clear hdep
    refine run_bare (by kernel_rfl) ?_
    unfold gcnFr
    go_simp
    refine kfit (hK _ _ (Below.refl _ V) ⟨_, _, rfl, d9⟩) ?_
    first | (simp only [gcnFr, Act.put, List.setIfInBounds_toArray, List.set_cons_zero, List.set_cons_succ, h1, e9]; done) | (simp only [gcnFr, Act.put, List.setIfInBounds_toArray, List.set_cons_zero, List.set_cons_succ, h1, e9]; rfl)
  -- 12: slot 4 := Op.assign t19
  refine And.intro ?_ ?_
  · rw [← hf]; clear hf
    refine ⟨by decide +kernel, fun x v => by kernel_rfl, fun x V hV hdep K hK => ?_⟩
    obtain ⟨zo10, zq10, e10, d10⟩ : ∃ zo10 zq10, x 10 = .slice zo10 (L.filter fun n => !inB xs n).length zq10 ∧ TextsAt V (.slice zo10 (L.filter fun n => !inB xs n).length zq10) (L.filter fun n => !inB xs n) := depOf hdep 10 (by decide +kernel)
    clear hdep
    refine run_bare (by kernel_rfl) ?_
    unfold gcnFr
    go_simp
    refine kfit (hK _ _ (Below.refl _ V) ⟨_, _, rfl, d10⟩) ?_
    first | (simp only [gcnFr, Act.put, List.setIfInBounds_toArray, List.set_cons_zero, List.set_cons_succ, h1, e10]; done) | (simp only [gcnFr, Act.put, List.setIfInBounds_toArray, List.set_cons_zero, List.set_cons_succ, h1, e10]; rfl)
  exact trivial
theorem gcn_here {w : World} {b1 : Nat} {xa ca ta : Option Addr} {xc cc tc : Nat} {xs L : List ByteArray} {lc : List Pr} {t : T}
    (HC4 : ∀ V, SFg w b1 xa xc xs ca cc lc t ta tc V → Calls Tryz.prog 38 #[.slice ca lc.length cc, .agg #[.int .i64 (t).kind, .string (t).name, .slice ta (t).kids.length tc]] V fun e Y => (∃ za zc, e = .returned (.slice za L.length zc) ∧ TextsAt Y (.slice za L.length zc) L) ∧ Below V.heap.size V Y)
    (HC7 : ∀ V, SFg w b1 xa xc xs ca cc lc t ta tc V → ∀ za4, ∀ zc4, TextsAt V (.slice za4 L.length zc4) L → Calls Tryz.prog 37 #[.slice za4 L.length zc4, .slice xa xs.length xc] V fun e Y => (∃ zi zp zo zq, e = .returned (.tuple #[.slice zi (L.filter (inB xs)).length zp, .slice zo (L.filter fun n => !inB xs n).length zq]) ∧ (TextsAt Y (.slice zi (L.filter (inB xs)).length zp) (L.filter (inB xs)) ∧ TextsAt Y (.slice zo (L.filter fun n => !inB xs n).length zq) (L.filter fun n => !inB xs n))) ∧ Below V.heap.size V Y)
    {Q : Exit → Act → World → Prop} {ops : Array Oper} {a : Act} (X : World) (hops : ops = gcnOps)
    (h1 : a.tmps.getD 1 undef = .pointer (some ⟨b1, 0, none⟩))
    (ha : a = gcnFr (fun j => a.tmps.getD j undef) a.defers (fun i => a.tmps.getD (if i = 8 then 9 else if i = 11 then 3 else if i = 12 then 4 else if i < 8 then 10 + i else 9 + i) undef)) (hS : SFg w b1 xa xc xs ca cc lc t ta tc X.drew)
    (hfin : ∀ (x : Nat → Value) V zi zp zo zq, SFg w b1 xa xc xs ca cc lc t ta tc V → x 11 = .slice zi (L.filter (inB xs)).length zp → x 12 = .slice zo (L.filter fun n => !inB xs n).length zq → TextsAt V (.slice zi (L.filter (inB xs)).length zp) (L.filter (inB xs)) → TextsAt V (.slice zo (L.filter fun n => !inB xs n).length zq) (L.filter fun n => !inB xs n) → Q .normal (gcnFr (fun j => a.tmps.getD j undef) a.defers x) V) : (Code.region 2 ops true).wp Tryz.prog Q a X :=
  cast (congrArg (fun z => (Code.region 2 ops true).wp Tryz.prog Q z X) ha.symm) (gcn_region (b := fun j => a.tmps.getD j undef) (d := a.defers) h1 HC4 HC7 hops _ X hS hfin)
end Go.Proofs.YtjnlchhikdfifaaGreatDoor
/- scheme: its last statement, a region of 8 operations that draws its order, by an invariant. (Made by a program.) -/
namespace Go.Proofs.YtjnlchhikdfifaaGreatDoor
open Go.RowKit Go.Sort Go.Lib
attribute [local go_sem] Oper.semAt_some

noncomputable def gchOps : Array Oper := regionIn 3 (Tryz.f12.body.getD .skip)
def gchFr (b : Nat → Value) (d : List Deferred) (x : Nat → Value) : Act := { tmps := #[b 0, b 1, b 2, b 3, b 4, b 5, b 6, b 7, b 8, b 9, b 10, b 11, b 12, b 13, b 14, b 15, b 16, b 17, b 18, b 19, x 0, x 1, x 2, x 3, x 4, x 5, x 6, b 27, b 28, b 29, b 30, b 31], defers := d }

def gchVals (xa ca ta ba oa : Option Addr) (xn xc cc tc bc oc : Nat) (bs os : List ByteArray) (lc : List Pr) (t : T) (i : Nat) (v : Value) (V : World) : Prop :=
  match i with
  | 0 => v = .agg #[.slice xa xn xc, .slice ca lc.length cc, .int .i64 t.kind, .string t.name, .slice ta t.kids.length tc]
  | 1 => v = .slice ba bs.length bc
  | 2 => v = .slice ba bs.length bc
  | 3 => v = .int .i64 (bs.length : Int)
  | 4 => v = .slice oa os.length oc
  | 5 => ∃ (zn : List ByteArray) (za : Option Addr) (zc : Nat), v = .slice za zn.length zc ∧ (TextsAt V (.slice za zn.length zc) zn ∧ NewX bs.length os zn)
  | 6 => ∃ (zn : List ByteArray) (za : Option Addr) (zc : Nat) (zp : Option Addr) (zq : Nat) (zt : Option Addr) (zu : Nat), v = .agg #[.slice za zn.length zc, .slice zp lc.length zq, .int .i64 (app (prs bs zn) t).kind, .string (app (prs bs zn) t).name, .slice zt (app (prs bs zn) t).kids.length zu] ∧ ((TextsAt V (.slice za zn.length zc) zn ∧ NewX bs.length os zn) ∧ PrsAt V (.slice zp lc.length zq) (appP (prs bs zn) lc) ∧ TysAt V (.slice zt (app (prs bs zn) t).kids.length zu) (app (prs bs zn) t).kids)
  | _ => True

theorem gchVals_keep {xa ca ta ba oa : Option Addr} {xn xc cc tc bc oc : Nat} {bs os : List ByteArray} {lc : List Pr} {t : T} (i : Nat) (v : Value) (V Y : World) (h : gchVals xa ca ta ba oa xn xc cc tc bc oc bs os lc t i v V) (hb : Below V.heap.size V Y) : gchVals xa ca ta ba oa xn xc cc tc bc oc bs os lc t i v Y := by
  unfold gchVals at *
  split at h <;> first
    | exact h
    | (obtain ⟨zn, za, zc, e, h⟩ := h; exact ⟨zn, za, zc, e, ⟨h.1.below hb, h.2⟩⟩)
    | (obtain ⟨zn, za, zc, zp, zq, zt, zu, e, h⟩ := h; exact ⟨zn, za, zc, zp, zq, zt, zu, e, ⟨⟨h.1.1.below hb, h.1.2⟩, h.2.1.belowG hb, h.2.2.keep (KeepT.of_below hb)⟩⟩)

theorem gch_size : gchOps.size = 8 := by kernel_rfl
theorem gch_cov : covered gchOps 7 = true := by kernel_rfl
set_option linter.unusedSimpArgs false in
set_option maxRecDepth 100000 in
set_option maxHeartbeats 8000000 in
theorem gch_region {w : World} {b1 b2 : Nat} {xa ca ta ba oa : Option Addr} {xn xc cc tc bc oc : Nat} {bs os : List ByteArray} {lc : List Pr} {t : T} {b : Nat → Value} {d : List Deferred}
    (h1 : b 1 = .pointer (some ⟨b1, 0, none⟩)) (h3 : b 3 = .slice ba bs.length bc) (h4 : b 4 = .slice oa os.length oc)
    (HC5 : ∀ V, SNg w b1 b2 xa xn xc ca cc lc t ta tc ba bc oa oc bs os V → Calls Tryz.prog 39 #[.int .i64 (bs.length : Int), .slice oa os.length oc] V fun e Y => (∃ (zn : List ByteArray) (za : Option Addr) (zc : Nat), e = .returned (.slice za zn.length zc) ∧ (TextsAt Y (.slice za zn.length zc) zn ∧ NewX bs.length os zn)) ∧ Below V.heap.size V Y)
    (HC6 : ∀ V, SNg w b1 b2 xa xn xc ca cc lc t ta tc ba bc oa oc bs os V → ∀ (zn5 : List ByteArray), ∀ za5, ∀ zc5, (TextsAt V (.slice za5 zn5.length zc5) zn5 ∧ NewX bs.length os zn5) → Calls Tryz.prog 33 #[.agg #[.slice xa xn xc, .slice ca lc.length cc, .int .i64 t.kind, .string t.name, .slice ta t.kids.length tc], .slice ba bs.length bc, .slice za5 zn5.length zc5] V fun e Y => (∃ (zn : List ByteArray) (za : Option Addr) (zc : Nat) (zp : Option Addr) (zq : Nat) (zt : Option Addr) (zu : Nat), e = .returned (.agg #[.slice za zn.length zc, .slice zp lc.length zq, .int .i64 (app (prs bs zn) t).kind, .string (app (prs bs zn) t).name, .slice zt (app (prs bs zn) t).kids.length zu]) ∧ ((TextsAt Y (.slice za zn.length zc) zn ∧ NewX bs.length os zn) ∧ PrsAt Y (.slice zp lc.length zq) (appP (prs bs zn) lc) ∧ TysAt Y (.slice zt (app (prs bs zn) t).kids.length zu) (app (prs bs zn) t).kids)) ∧ Below V.heap.size V Y)
    {Q : Exit → Act → World → Prop} {ops : Array Oper} (hops : ops = gchOps) (x0 : Nat → Value) (X : World) (hS : SNg w b1 b2 xa xn xc ca cc lc t ta tc ba bc oa oc bs os X.drew)
    (hfin : ∀ (x : Nat → Value) V (zn : List ByteArray) za zc zp zq zt zu, SNg w b1 b2 xa xn xc ca cc lc t ta tc ba bc oa oc bs os V → ((TextsAt V (.slice za zn.length zc) zn ∧ NewX bs.length os zn) ∧ PrsAt V (.slice zp lc.length zq) (appP (prs bs zn) lc) ∧ TysAt V (.slice zt (app (prs bs zn) t).kids.length zu) (app (prs bs zn) t).kids) → Q .normal (gchFr b d x) (set5 V b1 (.slice za zn.length zc) (.slice zp lc.length zq) (.int .i64 (app (prs bs zn) t).kind) (.string (app (prs bs zn) t).name) (.slice zt (app (prs bs zn) t).kids.length zu))) : (Code.region 3 ops true).wp Tryz.prog Q (gchFr b d x0) X := by
  have HC := Lib.hid (And.intro HC5 HC6)
  clear HC5 HC6
  have hszo : ops.size = 7 + 1 := by rw [hops]; exact gch_size
  have hcovo : covered ops 7 = true := by rw [hops]; exact gch_cov
  refine region_last (gchFr b d) (fun V => SNg w b1 b2 xa xn xc ca cc lc t ta tc ba bc oa oc bs os V) (fun V Y => Below V.heap.size V Y) (gchVals xa ca ta ba oa xn xc cc tc bc oc bs os lc t) x0 7 (by kernel_rfl) rfl hS hszo hcovo (fun V Y h hb => h.below hb) (fun i v V Y _ h hb => gchVals_keep i v V Y h hb) ?_
  have HFIN := Lib.hid hfin
  clear hfin hS hszo hcovo
  obtain ⟨gl, hgl⟩ : ∃ qq, LastAt Tryz.prog (gchFr b d) (fun V => SNg w b1 b2 xa xn xc ca cc lc t ta tc ba bc oa oc bs os V) (gchVals xa ca ta ba oa xn xc cc tc bc oc bs os lc t) ops Q 7 = qq := ⟨_, rfl⟩
  rw [hgl]
  obtain ⟨f, hf⟩ : ∃ qq, StepAt Tryz.prog (gchFr b d) (fun V => SNg w b1 b2 xa xn xc ca cc lc t ta tc ba bc oa oc bs os V) (fun V Y => Below V.heap.size V Y) (gchVals xa ca ta ba oa xn xc cc tc bc oc bs os lc t) ops Q = qq := ⟨_, rfl⟩
  rw [hf, hops]
  simp only [gchOps, Tryz.f12, regionIn, Option.getD_some, Nat.reduceBEq, Bool.false_eq_true, if_false, if_true, beq_self_eq_true, Array.append_empty, Array.empty_append, List.append_eq, List.cons_append, List.nil_append, AllBut, Nat.reduceAdd, Nat.zero_add]
  -- 0: slot 20 := Op.load 33 t1
  refine And.intro ?_ ?_
  · clear HFIN hgl
    rw [← hf]; clear hf
    refine ⟨by decide +kernel, fun x v => by kernel_rfl, fun x V hV hdep K hK => ?_⟩
    clear hdep
    refine run_bare (by kernel_rfl) ?_
    unfold gchFr
    obtain ⟨y0, y1, y2, y3, y4⟩ := cells5 hV.1.1
    go_simp
    refine kfit (hK _ _ (Below.refl _ V) rfl) ?_
    first | (simp only [gchFr, Act.put, List.setIfInBounds_toArray, List.set_cons_zero, List.set_cons_succ, h1, h3, h4]; done) | (simp only [gchFr, Act.put, List.setIfInBounds_toArray, List.set_cons_zero, List.set_cons_succ, h1, h3, h4]; rfl)
  -- 1: slot 21 := Op.move t3
  refine And.intro ?_ ?_
  · clear HFIN hgl
    rw [← hf]; clear hf
    refine ⟨by decide +kernel, fun x v => by kernel_rfl, fun x V hV hdep K hK => ?_⟩
    clear hdep
    refine run_bare (by kernel_rfl) ?_
    unfold gchFr
    go_simp
    refine kfit (hK _ _ (Below.refl _ V) rfl) ?_
    first | (simp only [gchFr, Act.put, List.setIfInBounds_toArray, List.set_cons_zero, List.set_cons_succ, h1, h3, h4]; done) | (simp only [gchFr, Act.put, List.setIfInBounds_toArray, List.set_cons_zero, List.set_cons_succ, h1, h3, h4]; rfl)
  -- 2: slot 22 := Op.move t3
  refine And.intro ?_ ?_
  · clear HFIN hgl
    rw [← hf]; clear hf
    refine ⟨by decide +kernel, fun x v => by kernel_rfl, fun x V hV hdep K hK => ?_⟩
    clear hdep
    refine run_bare (by kernel_rfl) ?_
    unfold gchFr
    go_simp
    refine kfit (hK _ _ (Below.refl _ V) rfl) ?_
    first | (simp only [gchFr, Act.put, List.setIfInBounds_toArray, List.set_cons_zero, List.set_cons_succ, h1, h3, h4]; done) | (simp only [gchFr, Act.put, List.setIfInBounds_toArray, List.set_cons_zero, List.set_cons_succ, h1, h3, h4]; rfl)
  -- 3: slot 23 := Op.call { builtin len, args := #[t22], argTypes := #[23] }
  refine And.intro ?_ ?_
  · clear HFIN hgl
    rw [← hf]; clear hf
    refine ⟨by decide +kernel, fun x v => by kernel_rfl, fun x V hV hdep K hK => ?_⟩
    have e2 : x 2 = .slice ba bs.length bc := depOf hdep 2 (by decide +kernel)
    clear hdep
    refine run_bare (by kernel_rfl) ?_
    unfold gchFr
    go_simp
    refine kfit (hK _ _ (Below.refl _ V) rfl) ?_
    first | (simp only [gchFr, Act.put, List.setIfInBounds_toArray, List.set_cons_zero, List.set_cons_succ, h1, h3, h4, e2]; done) | (simp only [gchFr, Act.put, List.setIfInBounds_toArray, List.set_cons_zero, List.set_cons_succ, h1, h3, h4, e2]; rfl)
  -- 4: slot 24 := Op.move t4
  refine And.intro ?_ ?_
  · clear HFIN hgl
    rw [← hf]; clear hf
    refine ⟨by decide +kernel, fun x v => by kernel_rfl, fun x V hV hdep K hK => ?_⟩
    clear hdep
    refine run_bare (by kernel_rfl) ?_
    unfold gchFr
    go_simp
    refine kfit (hK _ _ (Below.refl _ V) rfl) ?_
    first | (simp only [gchFr, Act.put, List.setIfInBounds_toArray, List.set_cons_zero, List.set_cons_succ, h1, h3, h4]; done) | (simp only [gchFr, Act.put, List.setIfInBounds_toArray, List.set_cons_zero, List.set_cons_succ, h1, h3, h4]; rfl)
  -- 5: slot 25 := Op.call { value (Operand.func 39), args := #[t23, t24], argT
  refine And.intro ?_ ?_
  · clear HFIN hgl
    rw [← hf]; clear hf
    refine ⟨by decide +kernel, fun x v => by kernel_rfl, fun x V hV hdep K hK => ?_⟩
    have e3 : x 3 = .int .i64 (bs.length : Int) := depOf hdep 3 (by decide +kernel)
    have e4 : x 4 = .slice oa os.length oc := depOf hdep 4 (by decide +kernel)
    clear hdep
    refine run_bare (by kernel_rfl) ?_
    unfold gchFr
    obtain ⟨HC5, HC6⟩ := HC.out
    clear HC6
    have H := HC5 V hV
    replace H := Lib.hid H; clear HC5
    go_simp
    go_at_call 39
    refine H.out.mono ?_
    rintro e Y ⟨⟨zn, za, zc, rfl, hq⟩, hb⟩; refine kfit (hK _ _ hb ⟨zn, za, zc, rfl, hq⟩) ?_
    first | (simp only [gchFr, Act.put, List.setIfInBounds_toArray, List.set_cons_zero, List.set_cons_succ, h1, h3, h4, e3, e4]; done) | (simp only [gchFr, Act.put, List.setIfInBounds_toArray, List.set_cons_zero, List.set_cons_succ, h1, h3, h4, e3, e4]; rfl)
  -- 6: slot 26 := Op.call { value (Operand.func 33), args := #[t20, t21, t25],
  refine And.intro ?_ ?_
  · clear HFIN hgl
    rw [← hf]; clear hf
    refine ⟨by decide +kernel, fun x v => by kernel_rfl, fun x V hV hdep K hK => ?_⟩
    have e0 : x 0 = .agg #[.slice xa xn xc, .slice ca lc.length cc, .int .i64 t.kind, .string t.name, .slice ta t.kids.length tc] := depOf hdep 0 (by decide +kernel)
    have e1 : x 1 = .slice ba bs.length bc := depOf hdep 1 (by decide +kernel)
    obtain ⟨zn5, za5, zc5, e5, d5⟩ : ∃ (zn5 : List ByteArray) (za5 : Option Addr) (zc5 : Nat), x 5 = .slice za5 zn5.length zc5 ∧ (TextsAt V (.slice za5 zn5.length zc5) zn5 ∧ NewX bs.length os zn5) := depOf hdep 5 (by decide +kernel)
    clear hdep
    refine run_bare (by kernel_rfl) ?_
    unfold gchFr
    obtain ⟨HC5, HC6⟩ := HC.out
    clear HC5
    have H := HC6 V hV _ _ _ d5
    replace H := Lib.hid H; clear HC6
    go_simp
    go_at_call 33
    refine H.out.mono ?_
    rintro e Y ⟨⟨zn, za, zc, zp, zq, zt, zu, rfl, hq⟩, hb⟩; refine kfit (hK _ _ hb ⟨zn, za, zc, zp, zq, zt, zu, rfl, hq⟩) ?_
    first | (simp only [gchFr, Act.put, List.setIfInBounds_toArray, List.set_cons_zero, List.set_cons_succ, h1, h3, h4, e0, e1, e5]; done) | (simp only [gchFr, Act.put, List.setIfInBounds_toArray, List.set_cons_zero, List.set_cons_succ, h1, h3, h4, e0, e1, e5]; rfl)
  -- 7: slot none := Op.store 33 t1 t26
  · clear HC
    rw [← hgl]; clear hgl
    refine ⟨by decide +kernel, fun x V hV hall K hK => ?_⟩
    obtain ⟨zn, za, zc, zp, zq, zt, zu, e6, d6⟩ : ∃ (zn : List ByteArray) (za : Option Addr) (zc : Nat) (zp : Option Addr) (zq : Nat) (zt : Option Addr) (zu : Nat), x 6 = .agg #[.slice za zn.length zc, .slice zp lc.length zq, .int .i64 (app (prs bs zn) t).kind, .string (app (prs bs zn) t).name, .slice zt (app (prs bs zn) t).kids.length zu] ∧ ((TextsAt V (.slice za zn.length zc) zn ∧ NewX bs.length os zn) ∧ PrsAt V (.slice zp lc.length zq) (appP (prs bs zn) lc) ∧ TysAt V (.slice zt (app (prs bs zn) t).kids.length zu) (app (prs bs zn) t).kids) := hall 6 (by decide)
    clear hall
    refine run_bare (by kernel_rfl) ?_
    unfold gchFr
    obtain ⟨v0, v1, v2, v3, v4⟩ := cells5 hV.1.1
    have f0 := Lib.frozen_of_heap hV.1.1 0; have f1 := Lib.frozen_of_heap hV.1.1 1; have f2 := Lib.frozen_of_heap hV.1.1 2; have f3 := Lib.frozen_of_heap hV.1.1 3; have f4 := Lib.frozen_of_heap hV.1.1 4
    have H := Lib.hid (HFIN.out x V zn za zc zp zq zt zu hV d6)
    clear HFIN hV d6
    go_simp
    refine kfit (hK undef _ H.out) ?_
    first | (simp only [gchFr, Act.put, List.setIfInBounds_toArray, List.set_cons_zero, List.set_cons_succ, h1, h3, h4, e6]; done) | (simp only [gchFr, Act.put, List.setIfInBounds_toArray, List.set_cons_zero, List.set_cons_succ, h1, h3, h4, e6]; rfl)
theorem gch_here {w : World} {b1 b2 : Nat} {xa ca ta ba oa : Option Addr} {xn xc cc tc bc oc : Nat} {bs os : List ByteArray} {lc : List Pr} {t : T}
    (HC5 : ∀ V, SNg w b1 b2 xa xn xc ca cc lc t ta tc ba bc oa oc bs os V → Calls Tryz.prog 39 #[.int .i64 (bs.length : Int), .slice oa os.length oc] V fun e Y => (∃ (zn : List ByteArray) (za : Option Addr) (zc : Nat), e = .returned (.slice za zn.length zc) ∧ (TextsAt Y (.slice za zn.length zc) zn ∧ NewX bs.length os zn)) ∧ Below V.heap.size V Y)
    (HC6 : ∀ V, SNg w b1 b2 xa xn xc ca cc lc t ta tc ba bc oa oc bs os V → ∀ (zn5 : List ByteArray), ∀ za5, ∀ zc5, (TextsAt V (.slice za5 zn5.length zc5) zn5 ∧ NewX bs.length os zn5) → Calls Tryz.prog 33 #[.agg #[.slice xa xn xc, .slice ca lc.length cc, .int .i64 t.kind, .string t.name, .slice ta t.kids.length tc], .slice ba bs.length bc, .slice za5 zn5.length zc5] V fun e Y => (∃ (zn : List ByteArray) (za : Option Addr) (zc : Nat) (zp : Option Addr) (zq : Nat) (zt : Option Addr) (zu : Nat), e = .returned (.agg #[.slice za zn.length zc, .slice zp lc.length zq, .int .i64 (app (prs bs zn) t).kind, .string (app (prs bs zn) t).name, .slice zt (app (prs bs zn) t).kids.length zu]) ∧ ((TextsAt Y (.slice za zn.length zc) zn ∧ NewX bs.length os zn) ∧ PrsAt Y (.slice zp lc.length zq) (appP (prs bs zn) lc) ∧ TysAt Y (.slice zt (app (prs bs zn) t).kids.length zu) (app (prs bs zn) t).kids)) ∧ Below V.heap.size V Y)
    {Q : Exit → Act → World → Prop} {ops : Array Oper} {a : Act} (X : World) (hops : ops = gchOps)
    (h1 : a.tmps.getD 1 undef = .pointer (some ⟨b1, 0, none⟩)) (h3 : a.tmps.getD 3 undef = .slice ba bs.length bc) (h4 : a.tmps.getD 4 undef = .slice oa os.length oc)
    (ha : a = gchFr (fun j => a.tmps.getD j undef) a.defers (fun i => a.tmps.getD (20 + i) undef)) (hS : SNg w b1 b2 xa xn xc ca cc lc t ta tc ba bc oa oc bs os X.drew)
    (hfin : ∀ (x : Nat → Value) V (zn : List ByteArray) za zc zp zq zt zu, SNg w b1 b2 xa xn xc ca cc lc t ta tc ba bc oa oc bs os V → ((TextsAt V (.slice za zn.length zc) zn ∧ NewX bs.length os zn) ∧ PrsAt V (.slice zp lc.length zq) (appP (prs bs zn) lc) ∧ TysAt V (.slice zt (app (prs bs zn) t).kids.length zu) (app (prs bs zn) t).kids) → Q .normal (gchFr (fun j => a.tmps.getD j undef) a.defers x) (set5 V b1 (.slice za zn.length zc) (.slice zp lc.length zq) (.int .i64 (app (prs bs zn) t).kind) (.string (app (prs bs zn) t).name) (.slice zt (app (prs bs zn) t).kids.length zu))) : (Code.region 3 ops true).wp Tryz.prog Q a X :=
  cast (congrArg (fun z => (Code.region 3 ops true).wp Tryz.prog Q z X) ha.symm) (gch_region (b := fun j => a.tmps.getD j undef) (d := a.defers) h1 h3 h4 HC5 HC6 hops _ X hS hfin)
end Go.Proofs.YtjnlchhikdfifaaGreatDoor
/- strconv.FormatUint at base 10. -/
namespace Go.Proofs.YtjnlchhikdfifaaGreatDoor
open Go.Shelf Go.RowKit Go.Sort Go.Lib
attribute [local go_sem] Oper.semAt_some

def numRen : Go.Shelf.Ren := ⟨fun | 129 => 89 | 283 => 96 | 284 => 97 | 285 => 98 | 317 => 112 | 318 => 113 | n => n,
  fun | 0 => 0 | 3 => 3 | 4 => 4 | 5 => 5 | 9 => 9 | 37 => 79 | 46 => 101 | 51 => 122 | 53 => 89 | 212 => 147 | n => n, fun | 17 => 0 | n => n⟩
theorem lay283 : Lays.n283 Tryz.prog numRen :=
  {
    mixed := by kernel_rfl
    f283 := by kernel_rfl
    t3 := by kernel_rfl
    a3 := fun _ => by kernel_rfl
    z3 := fun _ => by kernel_rfl
    v3 := fun _ => by kernel_rfl
    t4 := by kernel_rfl
    a4 := fun _ => by kernel_rfl
    z4 := fun _ => by kernel_rfl
    v4 := fun _ => by kernel_rfl
    t9 := by kernel_rfl
    a9 := fun _ => by kernel_rfl
    z9 := fun _ => by kernel_rfl
    v9 := fun _ => by kernel_rfl }
theorem lay285 : Lays.n285 Tryz.prog numRen :=
  {
    mixed := by kernel_rfl
    f285 := by kernel_rfl
    t0 := by kernel_rfl
    a0 := fun _ => by kernel_rfl
    z0 := fun _ => by kernel_rfl
    v0 := fun _ => by kernel_rfl
    t3 := by kernel_rfl
    a3 := fun _ => by kernel_rfl
    z3 := fun _ => by kernel_rfl
    v3 := fun _ => by kernel_rfl
    t4 := by kernel_rfl
    a4 := fun _ => by kernel_rfl
    z4 := fun _ => by kernel_rfl
    v4 := fun _ => by kernel_rfl
    t5 := by kernel_rfl
    a5 := fun _ => by kernel_rfl
    z5 := fun _ => by kernel_rfl
    v5 := fun _ => by kernel_rfl
    t9 := by kernel_rfl
    a9 := fun _ => by kernel_rfl
    z9 := fun _ => by kernel_rfl
    v9 := fun _ => by kernel_rfl
    t37 := by kernel_rfl
    a37 := fun _ => by kernel_rfl
    z37 := fun _ => by kernel_rfl
    v37 := fun _ => by kernel_rfl
    t51 := by kernel_rfl
    a51 := fun _ => by kernel_rfl
    z51 := fun _ => by kernel_rfl
    v51 := fun _ => by kernel_rfl
    t53 := by kernel_rfl
    a53 := fun _ => by kernel_rfl
    z53 := fun _ => by kernel_rfl
    v53 := fun _ => by kernel_rfl }
theorem lay284 : LaysM.n284 Tryz.prog numRen :=
  {
    mixed := by kernel_rfl
    f129 := by kernel_rfl
    f284 := by kernel_rfl
    f317 := by kernel_rfl
    f318 := by kernel_rfl
    t0 := by kernel_rfl
    a0 := fun _ => by kernel_rfl
    z0 := fun _ => by kernel_rfl
    v0 := fun _ => by kernel_rfl
    t3 := by kernel_rfl
    a3 := fun _ => by kernel_rfl
    z3 := fun _ => by kernel_rfl
    v3 := fun _ => by kernel_rfl
    t4 := by kernel_rfl
    a4 := fun _ => by kernel_rfl
    z4 := fun _ => by kernel_rfl
    v4 := fun _ => by kernel_rfl
    t5 := by kernel_rfl
    a5 := fun _ => by kernel_rfl
    z5 := fun _ => by kernel_rfl
    v5 := fun _ => by kernel_rfl
    t9 := by kernel_rfl
    a9 := fun _ => by kernel_rfl
    z9 := fun _ => by kernel_rfl
    v9 := fun _ => by kernel_rfl
    t46 := by kernel_rfl
    a46 := fun _ => by kernel_rfl
    z46 := fun _ => by kernel_rfl
    v46 := fun _ => by kernel_rfl
    t53 := by kernel_rfl
    a53 := fun _ => by kernel_rfl
    z53 := fun _ => by kernel_rfl
    v53 := fun _ => by kernel_rfl
    t212 := by kernel_rfl
    a212 := fun _ => by kernel_rfl
    z212 := fun _ => by kernel_rfl
    v212 := fun _ => by kernel_rfl
    g17 := by kernel_rfl
    i0 := by kernel_rfl
    i3 := by kernel_rfl
    i4 := by kernel_rfl
    i5 := by kernel_rfl
    i9 := by kernel_rfl
    i46 := by kernel_rfl
    i53 := by kernel_rfl
    i212 := by kernel_rfl
    m17 := by kernel_rfl }
theorem small_num (i : Nat) (hi : i < 100) (w : World) : Calls Tryz.prog 96 #[.int .i64 i] w fun e w' => e = .returned (.string ⟨(Lib.decDigits i).toArray⟩) ∧ w' = w := Any.internal_strconv_small lay283 i hi w
theorem digits_num (u : Nat) (h1 : 1 ≤ u) (h2 : u < 18446744073709551616) (w : World) (htab : Lib.TabIs Tryz.prog w "internal/strconv.uint64pow10" .u64 Lib.pow10Tab) :
    Calls Tryz.prog 97 #[.int .u64 u] w fun e w' => e = .returned (.int .i64 (Lib.nDigits u)) ∧ w' = w := Any.internal_strconv_numDigits lay284 u h1 h2 w htab
theorem base_num (blk off cap : Nat) (u : Nat) (d : Array UInt8) (w : World) (hH : Holds (fun (b : UInt8) => Value.int .u8 (b.toNat : Int)) w blk off d) (hu : u < 10 ^ d.size) (hu64 : u < 18446744073709551616) (hsz : d.size < 4611686018427387904) :
    Calls Tryz.prog 98 #[.slice (some ⟨blk, off, none⟩) d.size cap, .int .u64 u] w fun e w' =>
      e = .returned (.tuple #[]) ∧ ∃ (n v' : Nat) (dk : Array UInt8), w' = (putRow (fun (b : UInt8) => Value.int .u8 (b.toNat : Int)) w blk off dk).drewN n ∧ FmtInv d.size u 0 v' dk := Any.internal_strconv_formatBase10 lay285 blk off cap u d w hH hu hu64 hsz
/-- FormatUint, of any number, in decimal. -/
theorem funum_any (u : Nat) (hu64 : u < 18446744073709551616) (w : World) (htab : Lib.TabIs Tryz.prog w "internal/strconv.uint64pow10" .u64 Lib.pow10Tab) :
    Calls Tryz.prog 74 #[.int .u64 u, .int .i64 10] w fun e w' => e = .returned (.string ⟨(Lib.decDigits u).toArray⟩) ∧ Below w.heap.size w w' := by
  by_cases hi : u < 100
  · have hw : IntKind.i64.wrap (u : Int) = (u : Int) := by rw [IntKind.wrap_i64]; omega
    have hiI : (u : Int) < 100 := by omega
    go_enter Tryz.func74, Tryz.ntmps74
    go_wp2_with (go_at_call 96; refine (small_num u hi _).mono ?_; rintro e w' ⟨rfl, rfl⟩)
    go_ret
    exact ⟨rfl, Below.refl _ _⟩
  · have hiI : ¬ ((u : Int) < 100) := by omega
    have hu1 : 1 ≤ u := by omega
    have hnd20 : Lib.nDigits u ≤ 20 := by have := Lib.numDigits_eq u hu1 hu64; split at this <;> omega
    have hal : Tryz.prog.arrayLen 128 = 24 := by kernel_rfl
    have hsl1 : ∀ W, (Instr.sliceAt 128 (.pointer (some ⟨w.heap.size, 0, none⟩)) none (some (.int .i64 (Lib.nDigits u : Int))) none).run Tryz.prog W = .ok (.slice (some ⟨w.heap.size, 0, none⟩) (Lib.nDigits u) 24) W := fun W => by
      rw [run_sliceAt_array_h W 128 ⟨w.heap.size, 0, none⟩ (by simp [Program.arrayLen, Program.elem, Tryz.underlying128]) .i64 (Lib.nDigits u : Int) (by omega) (by rw [hal]; omega)]
      go_simp
    have hH0 := Lib.holds_zero0 w 128 (Lib.nDigits u) (by omega)
    have hfmt := base_num w.heap.size 0 24 u (Array.replicate (Lib.nDigits u) 0) (w.alloc (.cells Lib.zeros24 128)) hH0 (by rw [Array.size_replicate]; exact Lib.lt_pow_nDigits u) hu64 (by rw [Array.size_replicate]; omega)
    rw [Array.size_replicate] at hfmt
    have HH0 := Lib.hid hH0
    have HF := Lib.hid hfmt
    have HTab := Lib.hid htab
    clear hH0 hal hfmt htab
    go_enter Tryz.func74, Tryz.ntmps74
    go_wp2_with (go_at_call 97; refine (digits_num u hu1 hu64 _ (Lib.tabIs_alloc HTab.out _)).mono ?_; rintro e w' ⟨rfl, rfl⟩)
    go_at_call 98
    refine HF.out.mono ?_
    rintro e w' ⟨rfl, k, v', dk, rfl, hF⟩
    have hcv : (convert 79 9 (.slice (some ⟨w.heap.size, 0, none⟩) (Lib.nDigits u) 24)).run Tryz.prog ((putRow (fun (b : UInt8) => Value.int .u8 (b.toNat : Int)) (w.alloc (.cells Lib.zeros24 128)) w.heap.size 0 dk).drewN k) = .ok (.string ⟨(Lib.decDigits u).toArray⟩) ((putRow (fun (b : UInt8) => Value.int .u8 (b.toNat : Int)) (w.alloc (.cells Lib.zeros24 128)) w.heap.size 0 dk).drewN k) := by
      have h := run_convert_bytes_back (P := Tryz.prog) ((putRow (fun (b : UInt8) => Value.int .u8 (b.toNat : Int)) (w.alloc (.cells Lib.zeros24 128)) w.heap.size 0 dk).drewN k) 79 9 5 ⟨w.heap.size, 0, none⟩ 24 (Lib.decDigits u) (by kernel_rfl) (by kernel_rfl) (by kernel_rfl) (fun j hj => by
        rw [Lib.row_is_numeral hF j hj, Lib.add_plain, World.cell?_drewN]
        exact cell?_putRow (fun (b : UInt8) => Value.int .u8 (b.toNat : Int)) _ w.heap.size 0 _ dk HH0.out (by rw [hF.size, Array.size_replicate]) j (by rw [hF.size]; rw [Lib.decDigits_length] at hj; exact hj))
      rw [Lib.decDigits_length] at h
      exact h
    go_wp2
    go_ret
    refine ⟨rfl, ?_⟩
    rw [alloc_eq_grow]
    obtain ⟨os', _, e⟩ := putRow_grow_new (fun (b : UInt8) => Value.int .u8 (b.toNat : Int)) w #[(.cells Lib.zeros24 128)] w.heap.size 0 dk (Nat.le_refl _)
    rw [e]
    exact Lib.below_grow w.heap.size w (Nat.le_refl _) k os'
end Go.Proofs.YtjnlchhikdfifaaGreatDoor
/- types.Size, types.Has; the document's Size. -/
namespace Go.Proofs.YtjnlchhikdfifaaGreatDoor
open Go.RowKit
attribute [local go_sem] Oper.semAt_some

end Go.Proofs.YtjnlchhikdfifaaGreatDoor
/- The document's variables of a type: Texts, vars, Vars. -/
namespace Go.Proofs.YtjnlchhikdfifaaGreatDoor
open Go.RowKit
attribute [local go_sem] Oper.semAt_some

theorem make_strs (n : Nat) (hn : n ≤ 1000000000) (w : World) :
    (Instr.makeSlice 23 (.int .i64 0) (.int .i64 (n : Int))).run Tryz.prog w = .ok (.slice (some ⟨w.heap.size, 0, none⟩) 0 n) (w.alloc (.cells (madeCells #[.string ⟨#[]⟩] n) 9)) := by
  obtain ⟨i, hi, hzz⟩ := Option.map_eq_some_iff.1 Tryz.infoStr
  simp only [Prod.mk.injEq] at hzz
  obtain ⟨hz, hs, hb⟩ := hzz
  have hr := run_make (P := Tryz.prog) w 23 9 i _ Tryz.underlying23 hi hz .i64 .i64 0 n (by omega) (by omega) (by rw [hb]; omega) (by omega)
  simp only [Int.toNat_natCast, hs, Nat.mul_one] at hr
  exact hr
theorem below_grown {B : Nat} {w X w1 : World} {o : Obj} {e : TypeId} {size n : Nat} {v : Value} {xs : List Value} (hB : Below B w X) (hown : X.ownsRow B e size v n xs) (hg : (X.alloc o).grownBy w1 v.ownBlock) (hb : B ≤ X.heap.size) : Below B w w1 :=
  hB.trans ⟨hg.os, hg.tape, hg.output, by have := hg.size; simp at this; omega, fun k hk => (hg.block k (by simp; omega) fun e => by have := (hown.lt k e.symm).1; omega).trans (Below.heap_alloc X o k (by omega))⟩

set_option maxHeartbeats 2000000 in
theorem textsR_any (l : List ByteArray) (hl : l.length ≤ 1000000000) (a : Option Addr) (c : Nat) (w : World) (h : TextsAt w (.slice a l.length c) l) :
    Calls Tryz.prog 73 #[.slice a l.length c] w fun e w' => (∃ v, e = .returned v ∧ w'.ownsRow w.heap.size 9 1 v l.length (l.map Value.string)) ∧ Below w.heap.size w w' := by
  have HR := Lib.hid (h.part.2)
  have hmk := make_strs l.length (by omega)
  obtain ⟨i0, hi, hz0, hz1, hz2⟩ := info_parts Tryz.infoStr
  clear h
  go_enter Tryz.func73, Tryz.ntmps73
  go_wp2
  go_loopw [3, 4] (fun v vi wr => ∃ (i : Nat) (b : Option Addr) (d : Nat), i ≤ l.length ∧ vi = .int .i64 i ∧ v = .slice b i d ∧ Hid (Below w.heap.size w wr) ∧ Hid (wr.ownsRow w.heap.size 9 1 (.slice b i d) i ((l.take i).map Value.string))) (fun _ vi _ => l.length - (intOf vi).toNat)
  case atStart => exact ⟨0, _, _, Nat.zero_le _, rfl, rfl, Lib.hid ((Below.refl _ w).alloc (Nat.le_refl _) _), Lib.hid (World.ownsRow_made w _ l.length (Nat.le_refl _) (by unfold maxLen; omega) (by simp [size_madeCells]))⟩
  case round =>
    obtain ⟨i, b, d, hi', rfl, rfl, hB, hO⟩ := hrel
    by_cases hlt : i < l.length
    · obtain ⟨g, rfl, hc, hg, hh⟩ := HR.out i hlt
      have x0 := hh wr (fun k _ _ hk => (hB.out.block k (Array.getElem?_eq_some_iff.1 hk).1).trans hk)
      have htk : l.take (i + 1) = l.take i ++ [l[i]] := by rw [List.take_succ_eq_append_getElem hlt]
      have HT := Lib.hid htk
      have hgr : g < wr.heap.size := Nat.lt_of_lt_of_le hg hB.out.size
      clear hh HR htk hmk
      generalize l[i] = u at x0 HT
      have hlt1 : ((i : Int) < (l.length : Int)) := by omega
      go_wp2_with (at_builtin; refine wpList_append_own _ rfl _ _ 23 rfl w.heap.size 9 i0 (.string ⟨#[]⟩) 1 16 Tryz.underlying23 hi hz0 hz1 hz2 rfl (by decide) _ _ _ rfl (hO.out.alloc _) ⟨wr.heap.size, 0, none⟩ 1 1 [.string u] rfl rfl (new_one _ _ _) (by simp [Value.oneCell']) (by unfold maxLen; omega) (by omega) (by simp; have := hB.out.size; omega) ?_; intro v' w1 hown' hgrow _; obtain ⟨ga, gc, rfl⟩ := row_slice hown'; have HOW := Lib.hid hown'; have HBW := Lib.hid (below_grown hB.out hO.out hgrow hB.out.size); clear hown' hgrow)
      go_roundw
      case rel => exact ⟨i + 1, ga, gc, by omega, by go_num, rfl, HBW, Lib.hid (by rw [HT.out, List.map_append]; exact HOW.out)⟩
      case measure => simp [intOf]; omega
    · obtain rfl : i = l.length := by omega
      rw [List.take_length] at hO
      clear HR hmk
      go_wp2
      go_ret
      exact ⟨⟨_, rfl, hO.out⟩, hB.out⟩

mutual
theorem fv_congr (t : T) (bd bd' out : List ByteArray) (h : ∀ x, x ∈ bd ↔ x ∈ bd') : fv bd out t = fv bd' out t := by
  cases t with
  | var n =>
    rw [fv, fv]
    by_cases hx : n ∈ bd ∨ n ∈ out
    · rw [if_pos hx, if_pos (by rw [← h]; exact hx)]
    · rw [if_neg hx, if_neg (by rw [← h]; exact hx)]
  | con n l => rw [fv, fv]; exact fvs_congr l bd bd' out h
  | fn a b => rw [fv, fv, fv_congr a bd bd' out h, fv_congr b bd bd' _ h]
  | all n a => rw [fv, fv]; exact fv_congr a _ _ out (fun x => by simp only [List.mem_cons, h])
theorem fvs_congr (l : List T) (bd bd' out : List ByteArray) (h : ∀ x, x ∈ bd ↔ x ∈ bd') : fvs bd out l = fvs bd' out l := by
  cases l with
  | nil => rw [fvs, fvs]
  | cons a l => rw [fvs, fvs, fv_congr a bd bd' out h, fvs_congr l bd bd' _ h]
end

def RVarsOK (t : T) : Prop := ∀ (bd out : List ByteArray) (oa ba a : Option Addr) (oc bc c : Nat) (w : World), TextsAt w (.slice oa out.length oc) out → TextsAt w (.slice ba bd.length bc) bd → TysAt w (.slice a t.kids.length c) t.kids →
    out.length + tsize t ≤ 1000000000 → bd.length + tsize t ≤ 1000000000 →
    Calls Tryz.prog 56 #[.slice oa out.length oc, .slice ba bd.length bc, tyV t (.slice a t.kids.length c)] w fun e w' => (∃ v, e = .returned v ∧ TextsAt w' v (fv bd out t)) ∧ Below w.heap.size w w'

theorem own_base {W : World} {b b' : Nat} {e : TypeId} {size n : Nat} {v : Value} {xs : List Value} (h : W.ownsRow b e size v n xs) (hb : b' ≤ b) : W.ownsRow b' e size v n xs := by
  refine ⟨h.1, ?_⟩
  rcases h.2 with h | ⟨g, cap, cur, rfl, hg, r⟩
  · exact .inl h
  · exact .inr ⟨g, cap, cur, rfl, Nat.le_trans hb hg, r⟩
theorem below_grown0 {B : Nat} {w X w1 : World} {e : TypeId} {size n : Nat} {v : Value} {xs : List Value} (hB : Below B w X) (hown : X.ownsRow B e size v n xs) (hg : X.grownBy w1 v.ownBlock) (hb : B ≤ X.heap.size) : Below B w w1 :=
  hB.trans ⟨hg.os, hg.tape, hg.output, hg.size, fun k hk => hg.block k (by omega) fun e => by have := (hown.lt k e.symm).1; omega⟩
theorem texts_snoc {W : World} {base : Nat} {v : Value} {l : List ByteArray} {x : ByteArray} (h : W.ownsRow base 9 1 v (l.length + 1) (l.map Value.string ++ [.string x])) : TextsAt W v (l ++ [x]) := by
  have e : l.length + 1 = (l ++ [x]).length := by simp
  have e2 : l.map Value.string ++ [.string x] = (l ++ [x]).map Value.string := by simp
  rw [e, e2] at h
  exact TextsAt.of_row h
set_option maxRecDepth 100000 in
set_option maxHeartbeats 4000000 in
theorem rvars_var (t : T) (hk : t.kind = 1) (h0 : t.kids = []) (bd out : List ByteArray) (oa ba a : Option Addr) (oc bc c : Nat) (w : World) (ho : TextsAt w (.slice oa out.length oc) out) (hb : TextsAt w (.slice ba bd.length bc) bd) (hol : out.length ≤ 1000000000) (hbl : bd.length ≤ 1000000000) (hn : out.length < 1000000000) :
    Calls Tryz.prog 56 #[.slice oa out.length oc, .slice ba bd.length bc, tyV t (.slice a t.kids.length c)] w fun e w' => (∃ v, e = .returned v ∧ TextsAt w' v (if inB out t.name = true ∨ inB bd t.name = true then out else out ++ [t.name])) ∧ Below w.heap.size w w' := by
  have hl : t.kids.length = 0 := by rw [h0]; rfl
  rw [hl]
  simp only [tyV, hk]
  have HBd := Lib.hid (fun o => (Below.refl _ w).alloc (Nat.le_refl _) o)
  have HO := Lib.hid (fun (V : World) (k : Below w.heap.size w V) => hasR_any out (by omega) t.name oa oc V (ho.below k))
  have HBb := Lib.hid (fun (V : World) (k : Below w.heap.size w V) => hasR_any bd (by omega) t.name ba bc V (hb.below k))
  have HOut := Lib.hid ho
  have HTx := Lib.hid (fun (V : World) (k : Below w.heap.size w V) => textsR_any out hol oa oc V (ho.below k))
  clear hl h0 hb ho
  cases h1 : inB out t.name with
  | true =>
    rw [if_pos (.inl rfl)]
    rw [h1] at HO
    clear h1 HBb HTx
    go_enter Tryz.func56, Tryz.ntmps56
    go_wp2_with (go_at_call 29; refine (HO.out _ ?kk).mono ?_; (case kk => exact HBd.out _); rintro e w2 ⟨rfl, rfl⟩)
    go_ret
    exact ⟨⟨_, rfl, HOut.out.below (HBd.out _)⟩, HBd.out _⟩
  | false =>
    rw [h1] at HO
    cases h2 : inB bd t.name with
    | true =>
      rw [if_pos (.inr rfl)]
      rw [h2] at HBb
      clear h1 h2 HTx
      go_enter Tryz.func56, Tryz.ntmps56
      go_wp2_with (go_at_call 29; first | ((with_reducible refine (HO.out _ ?kk).mono ?_); (case kk => exact HBd.out _); rintro e w2 ⟨rfl, rfl⟩) | ((with_reducible refine (HBb.out _ ?kk).mono ?_); (case kk => exact HBd.out _); rintro e w2 ⟨rfl, rfl⟩))
      go_ret
      exact ⟨⟨_, rfl, HOut.out.below (HBd.out _)⟩, HBd.out _⟩
    | false =>
      rw [if_neg (fun e => by simp at e)]
      rw [h2] at HBb
      clear h1 h2
      go_enter Tryz.func56, Tryz.ntmps56
      go_wp2_with (go_at_call 29; first | ((with_reducible refine (HO.out _ ?kk).mono ?_); (case kk => exact HBd.out _); rintro e w2 ⟨rfl, rfl⟩) | ((with_reducible refine (HBb.out _ ?kk).mono ?_); (case kk => exact HBd.out _); rintro e w2 ⟨rfl, rfl⟩))
      obtain ⟨i0, hi, hz0, hz1, hz2⟩ := info_parts Tryz.infoStr
      refine with_worldC (fun V => Below w.heap.size w V ∧ V.heap[w.heap.size]? = some (.cells #[.int .i64 1, .string t.name, .slice a 0 c] 31 (0, 0))) ⟨HBd.out _, alloc_new w _⟩ ?_
      rintro V ⟨hbV, hbox⟩
      obtain ⟨z0, z1, z2⟩ := three_cells hbox
      have HBV := Lib.hid hbV; have HBox := Lib.hid hbox
      have lV := (Array.getElem?_eq_some_iff.1 hbox).1
      have al : Hid (∀ (o : Obj), (V.alloc o).cell? ⟨w.heap.size, 1, none⟩ = some (.string t.name)) := Lib.hid fun o => (((Below.refl V.heap.size V).alloc (Nat.le_refl _) o).cell (p := ⟨w.heap.size, 1, none⟩) lV).trans z1
      clear hbV hbox
      go_region_held3 (fun V' => V'.cell? ⟨w.heap.size, 1, none⟩ = some (.string t.name)) (first | exact z1 | exact al.out _ | exact y1 | exact aly.out _ | exact u1)
        (first
          | (go_at_call 73; refine (HTx.out V.drew ?kk).mono ?_; (case kk => exact HBV.out.drew); rintro e Y ⟨⟨v, rfl, hown⟩, hbY⟩; obtain ⟨va, vc, rfl⟩ := row_slice hown; have y1 := (hbY.cell (p := ⟨w.heap.size, 1, none⟩) lV).trans z1; have lY : V.heap.size ≤ Y.heap.size := hbY.size; have HBY := Lib.hid (HBV.out.trans (((Below.refl _ V).drew.trans hbY).mono HBV.out.size)); have aly : Hid (∀ (o : Obj), (Y.alloc o).cell? ⟨w.heap.size, 1, none⟩ = some (.string t.name)) := Lib.hid (fun o => (((Below.refl Y.heap.size Y).alloc (Nat.le_refl _) o).cell (p := ⟨w.heap.size, 1, none⟩) (by show w.heap.size < Y.heap.size; omega)).trans y1); have HBoxY := Lib.hid ((hbY.block w.heap.size lV).trans HBox.out); have HOW := Lib.hid (show Y.ownsRow V.heap.size 9 1 _ _ _ from hown); clear hown hbY)
          | (go_at_call 73; refine (HTx.out (V.alloc (.cells #[.string t.name] 9)).drew ?kk).mono ?_; (case kk => exact (HBV.out.alloc HBV.out.size _).drew); rintro e Y ⟨⟨v, rfl, hown⟩, hbY⟩; obtain ⟨va, vc, rfl⟩ := row_slice hown; have hnb : Y.heap[V.heap.size]? = some (.cells #[.string t.name] 9 (0, 0)) := (hbY.block V.heap.size (by simp)).trans (alloc_new V _); have y1 : Y.cell? ⟨w.heap.size, 1, none⟩ = some (.string t.name) := (hbY.cell (p := ⟨w.heap.size, 1, none⟩) (by simp; omega)).trans (al.out _); have lY : V.heap.size < Y.heap.size := (Array.getElem?_eq_some_iff.1 hnb).1; have HBY := Lib.hid (HBV.out.trans ((((Below.refl _ V).alloc (Nat.le_refl _) _).drew.trans (hbY.mono (by simp))).mono HBV.out.size)); have HBoxY := Lib.hid ((hbY.block w.heap.size (by simp; omega)).trans ((Below.heap_alloc V _ _ lV).trans HBox.out)); have HNB := Lib.hid (World.news_of_block hnb); have hown' : Y.ownsRow (V.heap.size + 1) 9 1 (.slice va out.length vc) out.length (out.map Value.string) := (by simpa using hown); have HOW := Lib.hid hown'; clear hown hown' hbY hnb)
          | (refine step_append_lies _ (by rfl) _ _ 23 (by rfl) V.heap.size 9 i0 (.string ⟨#[]⟩) 1 16 Tryz.underlying23 hi hz0 hz1 hz2 rfl (by decide) _ out.length (out.map Value.string) (by rfl) (HOW.out.alloc _) ⟨Y.heap.size, 0, none⟩ 1 1 [.string t.name] (by rfl) rfl (new_one _ _ _) (by simp [Value.oneCell']) (by decide) (by unfold maxLen; omega) (by omega) (by simp; omega) (Y.heap.size + 1) (by simp) ?_; intro g' cap' w1 hown1 hgrow _ _; have hb1 := Lib.hid (below_grown (B := w.heap.size) HBY.out (own_base HOW.out HBV.out.size) hgrow (Nat.le_trans HBV.out.size lY)); have bx1 := Lib.hid ((row_other (HOW.out.alloc _) hgrow ((Below.heap_alloc Y _ _ (by omega)).trans HBoxY.out) (by decide))); have u1 : w1.cell? ⟨w.heap.size, 1, none⟩ = some (.string t.name) := (by rw [Lib.cell_of_heap bx1.out]; rfl); have HFin := Lib.hid (texts_snoc hown1); clear hown1 hgrow)
          | (refine step_append_lies _ (by rfl) _ _ 23 (by rfl) (V.heap.size + 1) 9 i0 (.string ⟨#[]⟩) 1 16 Tryz.underlying23 hi hz0 hz1 hz2 rfl (by decide) _ out.length (out.map Value.string) (by rfl) HOW.out ⟨V.heap.size, 0, none⟩ 1 1 [.string t.name] (by rfl) rfl HNB.out (by simp [Value.oneCell']) (by decide) (by unfold maxLen; omega) (by omega) (by omega) Y.heap.size rfl ?_; intro g' cap' w1 hown1 hgrow _ _; have hb1 := Lib.hid (below_grown0 (B := w.heap.size) HBY.out (own_base HOW.out (by have := HBV.out.size; omega)) hgrow (by have := HBV.out.size; omega)); have bx1 := Lib.hid (row_other HOW.out hgrow HBoxY.out (by decide)); have u1 : w1.cell? ⟨w.heap.size, 1, none⟩ = some (.string t.name) := (by rw [Lib.cell_of_heap bx1.out]; rfl); have HFin := Lib.hid (texts_snoc hown1); clear hown1 hgrow))
      all_goals
        clear y1
        go_wp2
        go_ret
        exact ⟨⟨_, rfl, HFin.out⟩, hb1.out⟩
end Go.Proofs.YtjnlchhikdfifaaGreatDoor
/- The document's vars, of a constructor, of a function. -/
namespace Go.Proofs.YtjnlchhikdfifaaGreatDoor
open Go.RowKit
attribute [local go_sem] Oper.semAt_some

set_option maxHeartbeats 800000 in
theorem rvars_plain (t : T) (H : ∀ k ∈ t.kids, RVarsOK k) (hk1 : ¬ t.kind = 1) (hk4 : ¬ t.kind = 4) (bd out : List ByteArray) (oa ba a : Option Addr) (oc bc c : Nat) (w : World) (ho : TextsAt w (.slice oa out.length oc) out) (hb : TextsAt w (.slice ba bd.length bc) bd) (ht : TysAt w (.slice a t.kids.length c) t.kids)
    (hol : out.length + tsize t ≤ 1000000000) (hbl : bd.length + tsize t ≤ 1000000000) :
    Calls Tryz.prog 56 #[.slice oa out.length oc, .slice ba bd.length bc, tyV t (.slice a t.kids.length c)] w fun e w' => (∃ v, e = .returned v ∧ TextsAt w' v (fvs bd out t.kids)) ∧ Below w.heap.size w w' := by
  have q1 : (t.kind == 1) = false := by simpa using hk1
  have q4 : (t.kind == 4) = false := by simpa using hk4
  have hz := tsize_eq t
  have hlen := len_sizes' t.kids
  have HBd := Lib.hid (fun o => (Below.refl _ w).alloc (Nat.le_refl _) o)
  have HR := Lib.hid ht.part
  have HS := Lib.hid H
  have HO := Lib.hid ho; have HBb := Lib.hid hb
  clear hk1 hk4 ht H ho hb
  simp only [tyV]
  go_enter Tryz.func56, Tryz.ntmps56
  go_wp2
  go_loopw [0, 7] (fun vo vi wr => ∃ (i : Nat) (b : Option Addr) (d n : Nat), i ≤ t.kids.length ∧ vi = .int .i64 i ∧ vo = .slice b n d ∧ Hid (n = (fvs bd out (t.kids.take i)).length ∧ TextsAt wr (.slice b n d) (fvs bd out (t.kids.take i)) ∧ Below w.heap.size w wr) ∧ Hid (TextsAt wr (.slice ba bd.length bc) bd) ∧ Hid (wr.heap[w.heap.size]? = some (.cells #[.int .i64 t.kind, .string t.name, .slice a t.kids.length c] 31 (0, 0)))) (fun _ vi _ => t.kids.length - (intOf vi).toNat)
  case atStart => exact ⟨0, oa, oc, out.length, Nat.zero_le _, rfl, rfl, Lib.hid ⟨by simp [fvs], by simpa [fvs] using HO.out.below (HBd.out _), HBd.out _⟩, Lib.hid (HBb.out.below (HBd.out _)), Lib.hid (alloc_new w _)⟩
  case round =>
    obtain ⟨i, ob, od, n, hi', rfl, rfl, hF, hBd, hBox⟩ := hrel
    obtain ⟨b0, b1, b2⟩ := three_cells hBox.out
    by_cases hlt : i < t.kids.length
    · obtain ⟨hn, hT, hBl⟩ := hF.out
      obtain ⟨g, pa, ca, rfl, hcap, hr⟩ := HR.out i hlt
      obtain ⟨⟨hg, x0, x1, x2⟩, xk⟩ := hr wr (KeepT.of_below hBl)
      have hsz := tsizes_take t.kids i hlt
      have hl1 := fvs_len (t.kids.take i) bd out
      have hkk := size_mem' (List.getElem_mem hlt)
      rw [hn] at hT ⊢
      have HC := Lib.hid (HS.out t.kids[i] (List.getElem_mem hlt) bd (fvs bd out (t.kids.take i)) ob ba pa od bc ca wr hT hBd.out xk (by omega) (by omega))
      rw [← fvs_drop bd out t.kids i hlt] at HC
      have HB1 := Lib.hid hBl
      clear hr xk hsz hl1 hkk HS HR hF hT hBl hn
      generalize t.kids[i] = u at x0 x1 x2 HC
      simp only [tyV] at HC
      have hlt1 : ((i : Int) < (t.kids.length : Int)) := by omega
      generalize (fvs bd out (t.kids.take i)).length = m at HC ⊢
      go_wp2_with (go_at_call 56; refine HC.out.mono ?_; rintro e w2 ⟨⟨v2, rfl, hT2⟩, hb2⟩; obtain ⟨oe, of, rfl⟩ := hT2.shape; have HF2 := Lib.hid (⟨hT2, HB1.out.trans (hb2.mono HB1.out.size)⟩ : TextsAt w2 (.slice oe (fvs bd out (t.kids.take (i + 1))).length of) (fvs bd out (t.kids.take (i + 1))) ∧ Below w.heap.size w w2); have HBd2 := Lib.hid (hBd.out.below hb2); have HBox2 := Lib.hid ((hb2.block _ (Array.getElem?_eq_some_iff.1 hBox.out).1).trans hBox.out); clear hT2 hb2)
      go_roundw
      case rel => exact ⟨i + 1, oe, of, _, by omega, by go_num, rfl, Lib.hid ⟨rfl, HF2.out⟩, HBd2, HBox2⟩
      case measure => simp [intOf]; omega
    · obtain rfl : i = t.kids.length := by omega
      rw [List.take_length] at hF
      clear HR HS
      go_wp2
      go_ret
      exact ⟨⟨_, rfl, hF.out.2.1⟩, hF.out.2.2⟩
end Go.Proofs.YtjnlchhikdfifaaGreatDoor
/- The document's vars, of a type for all. -/
namespace Go.Proofs.YtjnlchhikdfifaaGreatDoor
open Go.RowKit
attribute [local go_sem] Oper.semAt_some

set_option maxRecDepth 100000 in
set_option maxHeartbeats 1000000 in
theorem rvars_all (t : T) (H : ∀ k ∈ t.kids, RVarsOK k) (hk4 : t.kind = 4) (bd out : List ByteArray) (oa ba a : Option Addr) (oc bc c : Nat) (w : World) (ho : TextsAt w (.slice oa out.length oc) out) (hb : TextsAt w (.slice ba bd.length bc) bd) (ht : TysAt w (.slice a t.kids.length c) t.kids)
    (hol : out.length + tsize t ≤ 1000000000) (hbl : bd.length + tsize t ≤ 1000000000) :
    Calls Tryz.prog 56 #[.slice oa out.length oc, .slice ba bd.length bc, tyV t (.slice a t.kids.length c)] w fun e w' => (∃ v, e = .returned v ∧ TextsAt w' v (fvs (bd ++ [t.name]) out t.kids)) ∧ Below w.heap.size w w' := by
  have hz := tsize_eq t
  have hlen := len_sizes' t.kids
  have hbl2 : bd.length ≤ 1000000000 := by omega
  have HBd := Lib.hid (fun o => (Below.refl _ w).alloc (Nat.le_refl _) o)
  have HR := Lib.hid ht.part
  have HS := Lib.hid H
  have HO := Lib.hid ho
  have HTb := Lib.hid (fun (V : World) (k : Below w.heap.size w V) => textsR_any bd hbl2 ba bc V (hb.below k))
  clear ht H ho hb
  simp only [tyV, hk4]
  clear hk4
  go_enter Tryz.func56, Tryz.ntmps56
  go_wp2
  obtain ⟨i0, hi, hz0, hz1, hz2⟩ := info_parts Tryz.infoStr
  refine with_worldC (fun V => Below w.heap.size w V ∧ V.heap[w.heap.size]? = some (.cells #[.int .i64 4, .string t.name, .slice a t.kids.length c] 31 (0, 0))) ⟨HBd.out _, alloc_new w _⟩ ?_
  rintro V ⟨hbV, hbox⟩
  obtain ⟨z0, z1, z2⟩ := three_cells hbox
  have HBV := Lib.hid hbV; have HBox := Lib.hid hbox
  have lV := (Array.getElem?_eq_some_iff.1 hbox).1
  have al : Hid (∀ (o : Obj), (V.alloc o).cell? ⟨w.heap.size, 1, none⟩ = some (.string t.name)) := Lib.hid fun o => (((Below.refl V.heap.size V).alloc (Nat.le_refl _) o).cell (p := ⟨w.heap.size, 1, none⟩) lV).trans z1
  clear hbV hbox
  go_region_held3 (fun V' => V'.cell? ⟨w.heap.size, 1, none⟩ = some (.string t.name)) (first | exact z1 | exact al.out _ | exact y1 | exact aly.out _ | exact u1)
    (first
      | (go_at_call 73; refine (HTb.out V.drew ?kk).mono ?_; (case kk => exact HBV.out.drew); rintro e Y ⟨⟨v, rfl, hown⟩, hbY⟩; obtain ⟨va, vc, rfl⟩ := row_slice hown; have y1 := (hbY.cell (p := ⟨w.heap.size, 1, none⟩) lV).trans z1; have lY : V.heap.size ≤ Y.heap.size := hbY.size; have HBY := Lib.hid (HBV.out.trans (((Below.refl _ V).drew.trans hbY).mono HBV.out.size)); have aly : Hid (∀ (o : Obj), (Y.alloc o).cell? ⟨w.heap.size, 1, none⟩ = some (.string t.name)) := Lib.hid (fun o => (((Below.refl Y.heap.size Y).alloc (Nat.le_refl _) o).cell (p := ⟨w.heap.size, 1, none⟩) (by show w.heap.size < Y.heap.size; omega)).trans y1); have HBoxY := Lib.hid ((hbY.block w.heap.size lV).trans HBox.out); have HOW := Lib.hid (show Y.ownsRow V.heap.size 9 1 _ _ _ from hown); clear hown hbY)
      | (go_at_call 73; refine (HTb.out (V.alloc (.cells #[.string t.name] 9)).drew ?kk).mono ?_; (case kk => exact (HBV.out.alloc HBV.out.size _).drew); rintro e Y ⟨⟨v, rfl, hown⟩, hbY⟩; obtain ⟨va, vc, rfl⟩ := row_slice hown; have hnb : Y.heap[V.heap.size]? = some (.cells #[.string t.name] 9 (0, 0)) := (hbY.block V.heap.size (by simp)).trans (alloc_new V _); have y1 : Y.cell? ⟨w.heap.size, 1, none⟩ = some (.string t.name) := (hbY.cell (p := ⟨w.heap.size, 1, none⟩) (by simp; omega)).trans (al.out _); have lY : V.heap.size < Y.heap.size := (Array.getElem?_eq_some_iff.1 hnb).1; have HBY := Lib.hid (HBV.out.trans ((((Below.refl _ V).alloc (Nat.le_refl _) _).drew.trans (hbY.mono (by simp))).mono HBV.out.size)); have HBoxY := Lib.hid ((hbY.block w.heap.size (by simp; omega)).trans ((Below.heap_alloc V _ _ lV).trans HBox.out)); have HNB := Lib.hid (World.news_of_block hnb); have hown' : Y.ownsRow (V.heap.size + 1) 9 1 (.slice va bd.length vc) bd.length (bd.map Value.string) := (by simpa using hown); have HOW := Lib.hid hown'; clear hown hown' hbY hnb)
      | (refine step_append_lies _ (by rfl) _ _ 23 (by rfl) V.heap.size 9 i0 (.string ⟨#[]⟩) 1 16 Tryz.underlying23 hi hz0 hz1 hz2 rfl (by decide) _ bd.length (bd.map Value.string) (by rfl) (HOW.out.alloc _) ⟨Y.heap.size, 0, none⟩ 1 1 [.string t.name] (by rfl) rfl (new_one _ _ _) (by simp [Value.oneCell']) (by decide) (by unfold maxLen; omega) (by omega) (by simp; omega) (Y.heap.size + 1) (by simp) ?_; intro g' cap' w1 hown1 hgrow _ _; have hb1 := Lib.hid (below_grown (B := w.heap.size) HBY.out (own_base HOW.out HBV.out.size) hgrow (Nat.le_trans HBV.out.size lY)); have bx1 := Lib.hid ((row_other (HOW.out.alloc _) hgrow ((Below.heap_alloc Y _ _ (by omega)).trans HBoxY.out) (by decide))); have u1 : w1.cell? ⟨w.heap.size, 1, none⟩ = some (.string t.name) := (by rw [Lib.cell_of_heap bx1.out]; rfl); have HFin := Lib.hid (texts_snoc hown1); clear hown1 hgrow)
      | (refine step_append_lies _ (by rfl) _ _ 23 (by rfl) (V.heap.size + 1) 9 i0 (.string ⟨#[]⟩) 1 16 Tryz.underlying23 hi hz0 hz1 hz2 rfl (by decide) _ bd.length (bd.map Value.string) (by rfl) HOW.out ⟨V.heap.size, 0, none⟩ 1 1 [.string t.name] (by rfl) rfl HNB.out (by simp [Value.oneCell']) (by decide) (by unfold maxLen; omega) (by omega) (by omega) Y.heap.size rfl ?_; intro g' cap' w1 hown1 hgrow _ _; have hb1 := Lib.hid (below_grown0 (B := w.heap.size) HBY.out (own_base HOW.out (by have := HBV.out.size; omega)) hgrow (by have := HBV.out.size; omega)); have bx1 := Lib.hid (row_other HOW.out hgrow HBoxY.out (by decide)); have u1 : w1.cell? ⟨w.heap.size, 1, none⟩ = some (.string t.name) := (by rw [Lib.cell_of_heap bx1.out]; rfl); have HFin := Lib.hid (texts_snoc hown1); clear hown1 hgrow))
  all_goals
    clear y1 z0 z1 z2 u1 lV lY
    obtain ⟨bd', hbd⟩ : ∃ b, bd ++ [t.name] = b := ⟨_, rfl⟩
    have hl' : bd.length + 1 = bd'.length := by rw [← hbd]; simp
    rw [hbd, hl'] at HFin
    rw [hl']
    have HBE := Lib.hid hbd
    have hbl' : bd'.length + tsizes t.kids ≤ 1000000000 := by omega
    clear hbd hl' HOW
    go_wp2
    go_loopw [0, 7] (fun vo vi wr => ∃ (i : Nat) (b : Option Addr) (d n : Nat), i ≤ t.kids.length ∧ vi = .int .i64 i ∧ vo = .slice b n d ∧ Hid (n = (fvs bd' out (t.kids.take i)).length ∧ TextsAt wr (.slice b n d) (fvs bd' out (t.kids.take i)) ∧ Below w.heap.size w wr) ∧ Hid (TextsAt wr (.slice (some ⟨g', 0, none⟩) bd'.length cap') bd') ∧ Hid (wr.heap[w.heap.size]? = some (.cells #[.int .i64 4, .string t.name, .slice a t.kids.length c] 31 (0, 0)))) (fun _ vi _ => t.kids.length - (intOf vi).toNat)
    case atStart => exact ⟨0, oa, oc, out.length, Nat.zero_le _, rfl, rfl, Lib.hid ⟨by simp [fvs], by simpa [fvs] using HO.out.below hb1.out, hb1.out⟩, Lib.hid HFin.out, Lib.hid bx1.out⟩
    case round =>
      obtain ⟨i, ob, od, n, hi', rfl, rfl, hF, hBd, hBox⟩ := hrel
      obtain ⟨b0, b1, b2⟩ := three_cells hBox.out
      by_cases hlt : i < t.kids.length
      · obtain ⟨hn, hT, hBl⟩ := hF.out
        obtain ⟨g, pa, ca, rfl, hcap, hr⟩ := HR.out i hlt
        obtain ⟨⟨hg, x0, x1, x2⟩, xk⟩ := hr wr (KeepT.of_below hBl)
        have hsz := tsizes_take t.kids i hlt
        have hl1 := fvs_len (t.kids.take i) bd' out
        have hkk := size_mem' (List.getElem_mem hlt)
        rw [hn] at hT ⊢
        have HC := Lib.hid (HS.out t.kids[i] (List.getElem_mem hlt) bd' (fvs bd' out (t.kids.take i)) ob (some ⟨g', 0, none⟩) pa od cap' ca wr hT hBd.out xk (by omega) (by omega))
        rw [← fvs_drop bd' out t.kids i hlt] at HC
        have HB1 := Lib.hid hBl
        clear hr xk hsz hl1 hkk HS HR hF hT hBl hn
        generalize t.kids[i] = u at x0 x1 x2 HC
        simp only [tyV] at HC
        have hlt1 : ((i : Int) < (t.kids.length : Int)) := by omega
        generalize (fvs bd' out (t.kids.take i)).length = m at HC ⊢
        go_wp2_with (go_at_call 56; refine HC.out.mono ?_; rintro e w2 ⟨⟨v2, rfl, hT2⟩, hb2⟩; obtain ⟨oe, of, rfl⟩ := hT2.shape; have HF2 := Lib.hid (⟨hT2, HB1.out.trans (hb2.mono HB1.out.size)⟩ : TextsAt w2 (.slice oe (fvs bd' out (t.kids.take (i + 1))).length of) (fvs bd' out (t.kids.take (i + 1))) ∧ Below w.heap.size w w2); have HBd2 := Lib.hid (hBd.out.below hb2); have HBox2 := Lib.hid ((hb2.block _ (Array.getElem?_eq_some_iff.1 hBox.out).1).trans hBox.out); clear hT2 hb2)
        go_roundw
        case rel => exact ⟨i + 1, oe, of, _, by omega, by go_num, rfl, Lib.hid ⟨rfl, HF2.out⟩, HBd2, HBox2⟩
        case measure => simp [intOf]; omega
      · obtain rfl : i = t.kids.length := by omega
        rw [List.take_length] at hF
        clear HR HS
        go_wp2
        go_ret
        exact ⟨⟨_, rfl, by rw [HBE.out]; exact hF.out.2.1⟩, hF.out.2.2⟩
end Go.Proofs.YtjnlchhikdfifaaGreatDoor
/- The document's Vars. -/
namespace Go.Proofs.YtjnlchhikdfifaaGreatDoor
open Go.RowKit
attribute [local go_sem] Oper.semAt_some

theorem rvars_any (t : T) : RVarsOK t := by
  refine T.by_kids (P := RVarsOK) (fun t H => ?_) t
  have hz := tsize_eq t
  intro bd out oa ba a oc bc c w ho hb ht hol hbl
  cases t with
  | var n =>
    refine (rvars_var (.var n) rfl rfl bd out oa ba a oc bc c w ho hb (by omega) (by omega) (by omega)).mono ?_
    rintro e w' ⟨⟨v, rfl, h⟩, hb'⟩
    refine ⟨⟨v, rfl, ?_⟩, hb'⟩
    rw [fv]
    by_cases hx : n ∈ bd ∨ n ∈ out
    · rw [if_pos hx]; rw [if_pos (hx.elim (fun e => .inr (inB_iff.2 e)) (fun e => .inl (inB_iff.2 e)))] at h; exact h
    · rw [if_neg hx]; rw [if_neg (fun e => hx (e.elim (fun e => .inr (inB_iff.1 e)) (fun e => .inl (inB_iff.1 e))))] at h; exact h
  | con n l => rw [fv]; exact rvars_plain (.con n l) H (by simp [T.kind]) (by simp [T.kind]) bd out oa ba a oc bc c w ho hb ht hol hbl
  | fn x y =>
    have e : fv bd out (.fn x y) = fvs bd out (T.fn x y).kids := by simp [fv, T.kids, fvs]
    rw [e]
    exact rvars_plain (.fn x y) H (by simp [T.kind]) (by simp [T.kind]) bd out oa ba a oc bc c w ho hb ht hol hbl
  | all n x =>
    have e : fv bd out (.all n x) = fvs (bd ++ [(T.all n x).name]) out (T.all n x).kids := by
      simp only [fv, T.kids, fvs, T.name]
      exact fv_congr x _ _ out (fun y => by simp only [List.mem_cons, List.mem_append, List.not_mem_nil, or_false]; exact Or.comm)
    rw [e]
    exact rvars_all (.all n x) H rfl bd out oa ba a oc bc c w ho hb ht hol hbl

set_option maxHeartbeats 2000000 in
theorem rVars_any (l : List T) (hs : tsizes l ≤ 1000000000) (a : Option Addr) (c : Nat) (w : World) (ht : TysAt w (.slice a l.length c) l) :
    Calls Tryz.prog 28 #[.slice a l.length c] w fun e w' => (∃ v, e = .returned v ∧ TextsAt w' v (fvs [] [] l)) ∧ Below w.heap.size w w' := by
  have hlen := len_sizes' l
  have HR := Lib.hid ht.part
  clear ht
  go_enter Tryz.func28, Tryz.ntmps28
  go_wp2
  go_loopw [3, 4] (fun vo vi wr => ∃ (i : Nat) (b : Option Addr) (d n : Nat), i ≤ l.length ∧ vi = .int .i64 i ∧ vo = .slice b n d ∧ Hid (n = (fvs [] [] (l.take i)).length ∧ TextsAt wr (.slice b n d) (fvs [] [] (l.take i)) ∧ Below w.heap.size w wr)) (fun _ vi _ => l.length - (intOf vi).toNat)
  case atStart => exact ⟨0, none, 0, 0, Nat.zero_le _, rfl, rfl, Lib.hid ⟨by simp [fvs], ⟨none, 0, by simp [fvs], .inl (by simp [fvs])⟩, Below.refl _ _⟩⟩
  case round =>
    obtain ⟨i, ob, od, n, hi', rfl, rfl, hF⟩ := hrel
    by_cases hlt : i < l.length
    · obtain ⟨hn, hT, hBl⟩ := hF.out
      obtain ⟨g, pa, ca, rfl, hcap, hr⟩ := HR.out i hlt
      obtain ⟨⟨hg, x0, x1, x2⟩, xk⟩ := hr wr (KeepT.of_below hBl)
      have hsz := tsizes_take l i hlt
      have hl1 := fvs_len (l.take i) [] []
      have hkk := size_mem' (List.getElem_mem hlt)
      rw [hn] at hT ⊢
      simp only [List.length_nil] at hl1
      have HC := Lib.hid (rvars_any l[i] [] (fvs [] [] (l.take i)) ob none pa od 0 ca wr hT ⟨none, 0, rfl, .inl rfl⟩ xk (by omega) (by simp only [List.length_nil]; omega))
      rw [← fvs_drop [] [] l i hlt] at HC
      have HB1 := Lib.hid hBl
      clear hr xk hsz hl1 hkk HR hF hT hBl hn
      generalize l[i] = u at x0 x1 x2 HC
      simp only [tyV, List.length_nil] at HC
      have hlt1 : ((i : Int) < (l.length : Int)) := by omega
      generalize (fvs [] [] (l.take i)).length = m at HC ⊢
      go_wp2_with (go_at_call 56; refine HC.out.mono ?_; rintro e w2 ⟨⟨v2, rfl, hT2⟩, hb2⟩; obtain ⟨oe, of, rfl⟩ := hT2.shape; have HF2 := Lib.hid (⟨hT2, HB1.out.trans (hb2.mono HB1.out.size)⟩ : TextsAt w2 (.slice oe (fvs [] [] (l.take (i + 1))).length of) (fvs [] [] (l.take (i + 1))) ∧ Below w.heap.size w w2); clear hT2 hb2)
      go_roundw
      case rel => exact ⟨i + 1, oe, of, _, by omega, by go_num, rfl, Lib.hid ⟨rfl, HF2.out⟩⟩
      case measure => simp [intOf]; omega
    · obtain rfl : i = l.length := by omega
      rw [List.take_length] at hF
      clear HR
      go_wp2
      go_ret
      exact ⟨⟨_, rfl, hF.out.2.1⟩, hF.out.2.2⟩
end Go.Proofs.YtjnlchhikdfifaaGreatDoor
