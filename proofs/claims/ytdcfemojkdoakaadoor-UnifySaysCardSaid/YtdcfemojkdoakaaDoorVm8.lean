/- Merged: MakeTypeN, MakeStepN, MakeAllN, UfLaws, UgAllA, UgAll, UgUnify, UgFoundD, RegTail, UgFoundF, UgFoundS, UgFoundG. -/
import Derived.Test.YtdcfemojkdoakaaDoorVm3
import Derived.Test.YtdcfemojkdoakaaDoorVm4
import Derived.Test.YtdcfemojkdoakaaDoorVm7
import Derived.Test.YtdcfemojkdoakaaDoorVm5
import Derived.Test.YtdcfemojkdoakaaDoorVm6
import Derived.Deep.AppendLies
/- The types that are made of numbers: good ones, of a bounded text. -/
namespace Go.Proofs.YtdcfemojkdoakaaDoor
open Go.RowKit
attribute [local go_sem] Oper.semAt_some
attribute [local go_sem ↓] Go.wp_at_zero Go.wp_at_succ

/-- What a maker of a type hands back. -/
def MadeN (B p : Nat) (a : Option Addr) (n c k m D : Nat) (w : World) (e : Ending) (w' : World) : Prop :=
  (∃ t u, e = .returned (tyV t u) ∧ (T.Good t ∧ Fits t ∧ (T.text t).length + 10 ≤ D) ∧ TyIn (fun k => w.heap.size ≤ k) w' t u) ∧ (∃ k', k' + 1 ≤ k + m ∧ SeqAt B p a n c k' w') ∧ MkFr B p w w'
/-- The end: the type is stored in the result's own block. -/
theorem made_fn {B p : Nat} {a : Option Addr} {n c k k' m D : Nat} {w W : World} {O : Obj} {t : T} {u x y z : Value} (hs : SeqAt B p a n c k' W) (hk : k' + 1 ≤ k + m) (hfr : MkFr B p (w.alloc O) W) (hp : p < w.heap.size)
    (_ : W.heap[w.heap.size]? = some (.cells #[.int .i64 0, .string ⟨#[]⟩, .slice none 0 0] 29 (0, 0))) (ht : TyIn (fun k => w.heap.size < k) W t u) (hg : T.Good t ∧ Fits t ∧ (T.text t).length + 10 ≤ D) :
    MadeN B p a n c k m D w (.returned (tyV t u)) (((W.setCell ⟨w.heap.size, 0, none⟩ x).setCell ⟨w.heap.size, 1, none⟩ y).setCell ⟨w.heap.size, 2, none⟩ z) := by
  have hk3 : ∀ i, i ≠ w.heap.size → (((W.setCell ⟨w.heap.size, 0, none⟩ x).setCell ⟨w.heap.size, 1, none⟩ y).setCell ⟨w.heap.size, 2, none⟩ z).heap[i]? = W.heap[i]? := fun i hi =>
    (Below.heap_setCell _ ⟨w.heap.size, 2, none⟩ _ i hi).trans ((Below.heap_setCell _ ⟨w.heap.size, 1, none⟩ _ i hi).trans (Below.heap_setCell _ ⟨w.heap.size, 0, none⟩ _ i hi))
  have hB := hs.1.1
  have hbel : Below B W (((W.setCell ⟨w.heap.size, 0, none⟩ x).setCell ⟨w.heap.size, 1, none⟩ y).setCell ⟨w.heap.size, 2, none⟩ z) :=
    (((Below.refl B W).setCell (p := ⟨w.heap.size, 0, none⟩) (by show B ≤ w.heap.size; omega) _).setCell (p := ⟨w.heap.size, 1, none⟩) (by show B ≤ w.heap.size; omega) _).setCell (p := ⟨w.heap.size, 2, none⟩) (by show B ≤ w.heap.size; omega) _
  refine ⟨⟨t, u, rfl, hg, (ht.keep fun k _ _ hk hh => (hk3 k (Nat.ne_of_gt hk)).trans hh).mono fun k hk => Nat.le_of_lt hk⟩, ⟨k', hk, ⟨hB, (hk3 p (by omega)).trans hs.1.2⟩, hs.2.keep hbel⟩, ?_, ?_⟩
  · exact (((Below.refl B w).alloc (by omega) O).trans hfr.1).trans hbel
  · intro i o hi hip
    have hlt := (Array.getElem?_eq_some_iff.1 hi).1
    exact (hk3 i (by omega)).trans (hfr.2 i o ((Below.heap_alloc w O i hlt).trans hi) hip)

theorem in_one {ok : Nat → Prop} {W : World} {t : T} {v : Value} (n : ByteArray) (hok : ok W.heap.size) (h : TyIn ok W t v) : TyIn ok (W.alloc (.cells #[.int .i64 t.kind, .string t.name, v] 29)) (.con n [t]) (.slice (some ⟨W.heap.size, 0, none⟩) 1 1) := by
  refine .row (.con n [t]) W.heap.size 1 #[.int .i64 t.kind, .string t.name, v] (0, 0) (fun _ => v) hok (alloc_new W _) (Nat.le_refl _) (fun i hi => ?_) (fun i hi => ?_)
  · obtain rfl : i = 0 := by simp [T.kids] at hi; exact hi
    exact ⟨rfl, rfl, rfl⟩
  · obtain rfl : i = 0 := by simp [T.kids] at hi; exact hi
    exact h.keep fun k _ _ _ hh => (Below.heap_alloc W _ k (Array.getElem?_eq_some_iff.1 hh).1).trans hh
theorem in_pair {ok : Nat → Prop} {W : World} {t t' c : T} {v v' : Value} {g : Nat} (hg : g = W.heap.size) (hc : c.kids = [t, t']) (hok : ok W.heap.size) (h : TyIn ok W t v) (h' : TyIn ok W t' v') : TyIn ok (W.alloc (.cells #[.int .i64 t.kind, .string t.name, v, .int .i64 t'.kind, .string t'.name, v'] 29)) c (.slice (some ⟨g, 0, none⟩) 2 2) := by
  subst hg
  have hl : c.kids.length = 2 := by rw [hc]; rfl
  have hkeep : ∀ (o : Obj) {t : T} {v : Value}, TyIn ok W t v → TyIn ok (W.alloc o) t v := fun o t v h => h.keep fun k _ _ _ hh => (Below.heap_alloc W _ k (Array.getElem?_eq_some_iff.1 hh).1).trans hh
  rw [show (Value.slice (some ⟨W.heap.size, 0, none⟩) 2 2) = .slice (some ⟨W.heap.size, 0, none⟩) c.kids.length 2 by rw [hl]]
  refine .row c W.heap.size 2 #[.int .i64 t.kind, .string t.name, v, .int .i64 t'.kind, .string t'.name, v'] (0, 0) (fun i => if i = 0 then v else v') hok (alloc_new W _) (by rw [hl]; exact Nat.le_refl _) (fun i hi => ?_) (fun i hi => ?_)
  · have hi2 : i < 2 := by omega
    have e : c.kids[i] = [t, t'][i] := by simp [hc]
    rw [e]
    match i, hi2 with
    | 0, _ => exact ⟨rfl, rfl, rfl⟩
    | 1, _ => exact ⟨rfl, rfl, rfl⟩
    | n + 2, h => omega
  · have hi2 : i < 2 := by omega
    have e : c.kids[i] = [t, t'][i] := by simp [hc]
    rw [e]
    match i, hi2 with
    | 0, _ => exact hkeep _ h
    | 1, _ => exact hkeep _ h'
    | n + 2, h => omega
set_option maxHeartbeats 1000000 in
theorem con_in {ok : Nat → Prop} (n : ByteArray) (a : Option Addr) (l : List T) (k c : Nat) (w : World) (h : TyIn ok w (.con n l) (.slice a k c)) :
    Calls Tryd.prog 38 #[.string n, .slice a k c] w fun e w' => (∃ u, e = .returned (tyV (.con n l) u) ∧ TyIn ok w' (.con n l) u) ∧ Below w.heap.size w w' := by
  have H := Lib.hid h; clear h
  go_enter Tryd.func38, Tryd.ntmps38
  go_wp2
  refine bodyPost_ret (v := tyV (.con n l) (.slice a k c)) (by simp [results, Tryd.results38, go_sem, tyV, T.kind, T.name]) rfl ⟨⟨_, rfl, H.out.keep fun k _ _ _ hh => (Below.heap_alloc w _ k (Array.getElem?_eq_some_iff.1 hh).1).trans hh⟩, (Below.refl _ w).alloc (Nat.le_refl _) _⟩
set_option maxHeartbeats 1000000 in
theorem fun2_in {ok : Nat → Prop} (x y : T) (a b : Option Addr) (c d : Nat) (w : World) (hok : ∀ k, w.heap.size ≤ k → ok k) (hx : TyIn ok w x (.slice a x.kids.length c)) (hy : TyIn ok w y (.slice b y.kids.length d)) :
    Calls Tryd.prog 39 #[tyV x (.slice a x.kids.length c), tyV y (.slice b y.kids.length d)] w fun e w' => (∃ u, e = .returned (tyV (.fn x y) u) ∧ TyIn ok w' (.fn x y) u) ∧ Below w.heap.size w w' := by
  have HX := Lib.hid hx; have HY := Lib.hid hy; have HK := Lib.hid hok
  clear hx hy hok
  simp only [tyV]
  go_enter Tryd.func39, Tryd.ntmps39
  go_wp2
  have k3 : ∀ (o1 o2 o3 : Obj) {t : T} {v : Value}, TyIn ok w t v → TyIn ok (((w.alloc o1).alloc o2).alloc o3) t v := fun o1 o2 o3 t v h => h.keep (fun k cs fz _ hh => (((keepT_alloc w o1).trans (keepT_alloc _ o2)).trans (keepT_alloc _ o3)) k cs fz hh)
  refine bodyPost_ret (v := .agg #[.int .i64 3, .string ⟨#[]⟩, .slice (some ⟨w.heap.size + 1 + 1 + 1, 0, none⟩) 2 2]) (by simp [results, Tryd.results39, go_sem]) rfl ⟨⟨_, rfl, ?_⟩, ?_⟩
  · exact in_pair (by simp) rfl (HK.out _ (by simp; omega)) (k3 _ _ _ HX.out) (k3 _ _ _ HY.out)
  · exact ((((Below.refl _ w).alloc (Nat.le_refl _) _).alloc (by simp) _).alloc (by simp; omega) _).alloc (by simp; omega) _

set_option maxHeartbeats 4000000 in
theorem make_n0 (B p : Nat) (a : Option Addr) (n c k : Nat) (w : World) (h : SeqAt B p a n c k w) (hk : k < 1152921504606846976) (hn : n < 1152921504606846976) :
    Calls Tryd.prog 9 #[.pointer (some ⟨p, 0, none⟩), .int .i64 0] w (MadeN B p a n c k 2 14 w) := by
  have hp := h.lt
  have HN := Lib.hid (fun o => next_any B p a n c k 9 (w.alloc o) (h.below ((Below.refl _ w).alloc (Nat.le_refl _) o)) (by decide) (by decide) hk hn)
  have HNe := Lib.hid (show w.heap.size ≠ p by omega)
  clear h
  go_enter Tryd.func9, Tryd.ntmps9
  go_wp2_with (go_at_call 37; refine (HN.out _).mono ?_)
  rintro e W1 ⟨⟨r, hr, rfl⟩, h1, h2⟩
  have hz := h2.2 _ _ (alloc_new w _) HNe.out
  obtain ⟨c0, c1, c2⟩ := three_cells hz
  have f0 := Lib.frozen_of_heap hz 0
  have f1 := Lib.frozen_of_heap hz 1
  have f2 := Lib.frozen_of_heap hz 2
  have HZ := Lib.hid hz; have H1 := Lib.hid h1; have H2 := Lib.hid h2
  have hzl := (Array.getElem?_eq_some_iff.1 hz).1
  clear hz h1 h2
  obtain ⟨z, hz⟩ : ∃ z : Int, (r : Int) = z := ⟨_, rfl⟩
  rw [hz]
  have h9 : z = 0 ∨ z = 1 ∨ z = 2 ∨ z = 3 ∨ z = 4 ∨ z = 5 ∨ z = 6 ∨ z = 7 ∨ z = 8 := by omega
  clear hz hr
  rcases h9 with rfl | rfl | rfl | rfl | rfl | rfl | rfl | rfl | rfl
  · go_wp2_with (go_at_call 30; refine (var_any _ _).mono ?_)
    rintro e W2 ⟨⟨u, rfl, hu⟩, hb⟩
    have HBT := Lib.hid (((Below.refl _ W1).alloc (Nat.le_refl _) _).trans (hb.mono (by simp)))
    clear hb
    obtain ⟨a2, n2, rfl⟩ := hu.shape
    have hz2 : W2.heap[w.heap.size]? = some (.cells #[.int .i64 0, .string ⟨#[]⟩, .slice none 0 0] 29 (0, 0)) := (HBT.out.block _ hzl).trans HZ.out
    obtain ⟨d0, d1, d2⟩ := three_cells hz2
    have g0 := Lib.frozen_of_heap hz2 0
    have g1 := Lib.frozen_of_heap hz2 1
    have g2 := Lib.frozen_of_heap hz2 2
    have HZ2 := Lib.hid hz2; have HU := Lib.hid hu
    clear hz2 hu c0 c1 c2 f0 f1 f2
    simp only [tyV, T.kind, T.name, List.length_nil]
    go_wp2
    exact bodyPost_ret (v := .agg #[.int .i64 1, .string ⟨#[97]⟩, .slice a2 0 n2]) (by have hc := set3_cells HZ2.out (.int .i64 1) (.string ⟨#[97]⟩) (.slice a2 0 n2); simp [results, Tryd.results9, go_sem, hc.1, hc.2.1, hc.2.2]) rfl (made_fn (t := .var ⟨#[97]⟩) (H1.out.below HBT.out) (by omega) (H2.out.trans (MkFr.of_below HBT.out (Nat.le_trans H1.out.1.1 (Nat.le_of_lt H1.out.lt)))) hp HZ2.out (.leaf _ _ _ rfl) (good_var (by decide) (by decide) (by decide)))
  · go_wp2_with (go_at_call 30; refine (var_any _ _).mono ?_)
    rintro e W2 ⟨⟨u, rfl, hu⟩, hb⟩
    have HBT := Lib.hid (((Below.refl _ W1).alloc (Nat.le_refl _) _).trans (hb.mono (by simp)))
    clear hb
    obtain ⟨a2, n2, rfl⟩ := hu.shape
    have hz2 : W2.heap[w.heap.size]? = some (.cells #[.int .i64 0, .string ⟨#[]⟩, .slice none 0 0] 29 (0, 0)) := (HBT.out.block _ hzl).trans HZ.out
    obtain ⟨d0, d1, d2⟩ := three_cells hz2
    have g0 := Lib.frozen_of_heap hz2 0
    have g1 := Lib.frozen_of_heap hz2 1
    have g2 := Lib.frozen_of_heap hz2 2
    have HZ2 := Lib.hid hz2; have HU := Lib.hid hu
    clear hz2 hu c0 c1 c2 f0 f1 f2
    simp only [tyV, T.kind, T.name, List.length_nil]
    go_wp2
    exact bodyPost_ret (v := .agg #[.int .i64 1, .string ⟨#[98]⟩, .slice a2 0 n2]) (by have hc := set3_cells HZ2.out (.int .i64 1) (.string ⟨#[98]⟩) (.slice a2 0 n2); simp [results, Tryd.results9, go_sem, hc.1, hc.2.1, hc.2.2]) rfl (made_fn (t := .var ⟨#[98]⟩) (H1.out.below HBT.out) (by omega) (H2.out.trans (MkFr.of_below HBT.out (Nat.le_trans H1.out.1.1 (Nat.le_of_lt H1.out.lt)))) hp HZ2.out (.leaf _ _ _ rfl) (good_var (by decide) (by decide) (by decide)))
  · go_wp2_with (go_at_call 30; refine (var_any _ _).mono ?_)
    rintro e W2 ⟨⟨u, rfl, hu⟩, hb⟩
    have HBT := Lib.hid (((Below.refl _ W1).alloc (Nat.le_refl _) _).trans (hb.mono (by simp)))
    clear hb
    obtain ⟨a2, n2, rfl⟩ := hu.shape
    have hz2 : W2.heap[w.heap.size]? = some (.cells #[.int .i64 0, .string ⟨#[]⟩, .slice none 0 0] 29 (0, 0)) := (HBT.out.block _ hzl).trans HZ.out
    obtain ⟨d0, d1, d2⟩ := three_cells hz2
    have g0 := Lib.frozen_of_heap hz2 0
    have g1 := Lib.frozen_of_heap hz2 1
    have g2 := Lib.frozen_of_heap hz2 2
    have HZ2 := Lib.hid hz2; have HU := Lib.hid hu
    clear hz2 hu c0 c1 c2 f0 f1 f2
    simp only [tyV, T.kind, T.name, List.length_nil]
    go_wp2
    exact bodyPost_ret (v := .agg #[.int .i64 1, .string ⟨#[99]⟩, .slice a2 0 n2]) (by have hc := set3_cells HZ2.out (.int .i64 1) (.string ⟨#[99]⟩) (.slice a2 0 n2); simp [results, Tryd.results9, go_sem, hc.1, hc.2.1, hc.2.2]) rfl (made_fn (t := .var ⟨#[99]⟩) (H1.out.below HBT.out) (by omega) (H2.out.trans (MkFr.of_below HBT.out (Nat.le_trans H1.out.1.1 (Nat.le_of_lt H1.out.lt)))) hp HZ2.out (.leaf _ _ _ rfl) (good_var (by decide) (by decide) (by decide)))
  · go_wp2_with (go_at_call 38; refine (con_any _ none [] 0 0 _ (TysAt.nil _ _ _)).mono ?_)
    rintro e W2 ⟨⟨u, rfl, hu⟩, hb⟩
    have HBT := Lib.hid hb
    clear hb
    obtain ⟨a2, n2, rfl⟩ := hu.shape
    have hz2 : W2.heap[w.heap.size]? = some (.cells #[.int .i64 0, .string ⟨#[]⟩, .slice none 0 0] 29 (0, 0)) := (HBT.out.block _ hzl).trans HZ.out
    obtain ⟨d0, d1, d2⟩ := three_cells hz2
    have g0 := Lib.frozen_of_heap hz2 0
    have g1 := Lib.frozen_of_heap hz2 1
    have g2 := Lib.frozen_of_heap hz2 2
    have HZ2 := Lib.hid hz2; have HU := Lib.hid hu
    clear hz2 hu c0 c1 c2 f0 f1 f2
    simp only [tyV, T.kind, T.name, List.length_nil]
    go_wp2
    exact bodyPost_ret (v := .agg #[.int .i64 2, .string ⟨#[73, 110, 116]⟩, .slice a2 0 n2]) (by have hc := set3_cells HZ2.out (.int .i64 2) (.string ⟨#[73, 110, 116]⟩) (.slice a2 0 n2); simp [results, Tryd.results9, go_sem, hc.1, hc.2.1, hc.2.2]) rfl (made_fn (t := .con ⟨#[73, 110, 116]⟩ []) (H1.out.below HBT.out) (by omega) (H2.out.trans (MkFr.of_below HBT.out (Nat.le_trans H1.out.1.1 (Nat.le_of_lt H1.out.lt)))) hp HZ2.out (.leaf _ _ _ rfl) (good_con0 (by decide) (by decide) (by decide)))
  · go_wp2_with (go_at_call 38; refine (con_any _ none [] 0 0 _ (TysAt.nil _ _ _)).mono ?_)
    rintro e W2 ⟨⟨u, rfl, hu⟩, hb⟩
    have HBT := Lib.hid hb
    clear hb
    obtain ⟨a2, n2, rfl⟩ := hu.shape
    have hz2 : W2.heap[w.heap.size]? = some (.cells #[.int .i64 0, .string ⟨#[]⟩, .slice none 0 0] 29 (0, 0)) := (HBT.out.block _ hzl).trans HZ.out
    obtain ⟨d0, d1, d2⟩ := three_cells hz2
    have g0 := Lib.frozen_of_heap hz2 0
    have g1 := Lib.frozen_of_heap hz2 1
    have g2 := Lib.frozen_of_heap hz2 2
    have HZ2 := Lib.hid hz2; have HU := Lib.hid hu
    clear hz2 hu c0 c1 c2 f0 f1 f2
    simp only [tyV, T.kind, T.name, List.length_nil]
    go_wp2
    exact bodyPost_ret (v := .agg #[.int .i64 2, .string ⟨#[66, 111, 111, 108]⟩, .slice a2 0 n2]) (by have hc := set3_cells HZ2.out (.int .i64 2) (.string ⟨#[66, 111, 111, 108]⟩) (.slice a2 0 n2); simp [results, Tryd.results9, go_sem, hc.1, hc.2.1, hc.2.2]) rfl (made_fn (t := .con ⟨#[66, 111, 111, 108]⟩ []) (H1.out.below HBT.out) (by omega) (H2.out.trans (MkFr.of_below HBT.out (Nat.le_trans H1.out.1.1 (Nat.le_of_lt H1.out.lt)))) hp HZ2.out (.leaf _ _ _ rfl) (good_con0 (by decide) (by decide) (by decide)))
  · go_wp2_with (go_at_call 30; refine (var_any _ _).mono ?_)
    rintro e W2 ⟨⟨u, rfl, hu⟩, hb⟩
    have HBT := Lib.hid (((Below.refl _ W1).alloc (Nat.le_refl _) _).trans (hb.mono (by simp)))
    clear hb
    obtain ⟨a2, n2, rfl⟩ := hu.shape
    have hz2 : W2.heap[w.heap.size]? = some (.cells #[.int .i64 0, .string ⟨#[]⟩, .slice none 0 0] 29 (0, 0)) := (HBT.out.block _ hzl).trans HZ.out
    obtain ⟨d0, d1, d2⟩ := three_cells hz2
    have g0 := Lib.frozen_of_heap hz2 0
    have g1 := Lib.frozen_of_heap hz2 1
    have g2 := Lib.frozen_of_heap hz2 2
    have HZ2 := Lib.hid hz2; have HU := Lib.hid hu
    clear hz2 hu c0 c1 c2 f0 f1 f2
    simp only [tyV, T.kind, T.name, List.length_nil]
    go_wp2
    exact bodyPost_ret (v := .agg #[.int .i64 1, .string ⟨#[97]⟩, .slice a2 0 n2]) (by have hc := set3_cells HZ2.out (.int .i64 1) (.string ⟨#[97]⟩) (.slice a2 0 n2); simp [results, Tryd.results9, go_sem, hc.1, hc.2.1, hc.2.2]) rfl (made_fn (t := .var ⟨#[97]⟩) (H1.out.below HBT.out) (by omega) (H2.out.trans (MkFr.of_below HBT.out (Nat.le_trans H1.out.1.1 (Nat.le_of_lt H1.out.lt)))) hp HZ2.out (.leaf _ _ _ rfl) (good_var (by decide) (by decide) (by decide)))
  · go_wp2_with (go_at_call 30; refine (var_any _ _).mono ?_)
    rintro e W2 ⟨⟨u, rfl, hu⟩, hb⟩
    have HBT := Lib.hid (((Below.refl _ W1).alloc (Nat.le_refl _) _).trans (hb.mono (by simp)))
    clear hb
    obtain ⟨a2, n2, rfl⟩ := hu.shape
    have hz2 : W2.heap[w.heap.size]? = some (.cells #[.int .i64 0, .string ⟨#[]⟩, .slice none 0 0] 29 (0, 0)) := (HBT.out.block _ hzl).trans HZ.out
    obtain ⟨d0, d1, d2⟩ := three_cells hz2
    have g0 := Lib.frozen_of_heap hz2 0
    have g1 := Lib.frozen_of_heap hz2 1
    have g2 := Lib.frozen_of_heap hz2 2
    have HZ2 := Lib.hid hz2; have HU := Lib.hid hu
    clear hz2 hu c0 c1 c2 f0 f1 f2
    simp only [tyV, T.kind, T.name, List.length_nil]
    go_wp2
    exact bodyPost_ret (v := .agg #[.int .i64 1, .string ⟨#[98]⟩, .slice a2 0 n2]) (by have hc := set3_cells HZ2.out (.int .i64 1) (.string ⟨#[98]⟩) (.slice a2 0 n2); simp [results, Tryd.results9, go_sem, hc.1, hc.2.1, hc.2.2]) rfl (made_fn (t := .var ⟨#[98]⟩) (H1.out.below HBT.out) (by omega) (H2.out.trans (MkFr.of_below HBT.out (Nat.le_trans H1.out.1.1 (Nat.le_of_lt H1.out.lt)))) hp HZ2.out (.leaf _ _ _ rfl) (good_var (by decide) (by decide) (by decide)))
  · go_wp2_with (go_at_call 30; refine (var_any _ _).mono ?_)
    rintro e W2 ⟨⟨u, rfl, hu⟩, hb⟩
    have HBT := Lib.hid (((Below.refl _ W1).alloc (Nat.le_refl _) _).trans (hb.mono (by simp)))
    clear hb
    obtain ⟨a2, n2, rfl⟩ := hu.shape
    have hz2 : W2.heap[w.heap.size]? = some (.cells #[.int .i64 0, .string ⟨#[]⟩, .slice none 0 0] 29 (0, 0)) := (HBT.out.block _ hzl).trans HZ.out
    obtain ⟨d0, d1, d2⟩ := three_cells hz2
    have g0 := Lib.frozen_of_heap hz2 0
    have g1 := Lib.frozen_of_heap hz2 1
    have g2 := Lib.frozen_of_heap hz2 2
    have HZ2 := Lib.hid hz2; have HU := Lib.hid hu
    clear hz2 hu c0 c1 c2 f0 f1 f2
    simp only [tyV, T.kind, T.name, List.length_nil]
    go_wp2
    exact bodyPost_ret (v := .agg #[.int .i64 1, .string ⟨#[99]⟩, .slice a2 0 n2]) (by have hc := set3_cells HZ2.out (.int .i64 1) (.string ⟨#[99]⟩) (.slice a2 0 n2); simp [results, Tryd.results9, go_sem, hc.1, hc.2.1, hc.2.2]) rfl (made_fn (t := .var ⟨#[99]⟩) (H1.out.below HBT.out) (by omega) (H2.out.trans (MkFr.of_below HBT.out (Nat.le_trans H1.out.1.1 (Nat.le_of_lt H1.out.lt)))) hp HZ2.out (.leaf _ _ _ rfl) (good_var (by decide) (by decide) (by decide)))
  · go_wp2_with (go_at_call 38; refine (con_any _ none [] 0 0 _ (TysAt.nil _ _ _)).mono ?_)
    rintro e W2 ⟨⟨u, rfl, hu⟩, hb⟩
    have HBT := Lib.hid hb
    clear hb
    obtain ⟨a2, n2, rfl⟩ := hu.shape
    have hz2 : W2.heap[w.heap.size]? = some (.cells #[.int .i64 0, .string ⟨#[]⟩, .slice none 0 0] 29 (0, 0)) := (HBT.out.block _ hzl).trans HZ.out
    obtain ⟨d0, d1, d2⟩ := three_cells hz2
    have g0 := Lib.frozen_of_heap hz2 0
    have g1 := Lib.frozen_of_heap hz2 1
    have g2 := Lib.frozen_of_heap hz2 2
    have HZ2 := Lib.hid hz2; have HU := Lib.hid hu
    clear hz2 hu c0 c1 c2 f0 f1 f2
    simp only [tyV, T.kind, T.name, List.length_nil]
    go_wp2
    exact bodyPost_ret (v := .agg #[.int .i64 2, .string ⟨#[73, 110, 116]⟩, .slice a2 0 n2]) (by have hc := set3_cells HZ2.out (.int .i64 2) (.string ⟨#[73, 110, 116]⟩) (.slice a2 0 n2); simp [results, Tryd.results9, go_sem, hc.1, hc.2.1, hc.2.2]) rfl (made_fn (t := .con ⟨#[73, 110, 116]⟩ []) (H1.out.below HBT.out) (by omega) (H2.out.trans (MkFr.of_below HBT.out (Nat.le_trans H1.out.1.1 (Nat.le_of_lt H1.out.lt)))) hp HZ2.out (.leaf _ _ _ rfl) (good_con0 (by decide) (by decide) (by decide)))

end Go.Proofs.YtdcfemojkdoakaaDoor
/- The types that are made of numbers: a level more. -/
namespace Go.Proofs.YtdcfemojkdoakaaDoor
open Go.RowKit
attribute [local go_sem] Oper.semAt_some
attribute [local go_sem ↓] Go.wp_at_zero Go.wp_at_succ

set_option maxHeartbeats 4000000 in
theorem make_stepN (d : Int) (hd1 : 1 ≤ d) (hd2 : d ≤ 100) (M D : Nat) (hM : 2 ≤ M) (hD : 14 ≤ D) (B p : Nat) (a : Option Addr) (n c k : Nat) (w : World) (h : SeqAt B p a n c k w) (hk : k + 2 * M < 1152921504606846976) (hn : n < 1152921504606846976)
    (IH : ∀ k w, SeqAt B p a n c k w → k + M < 1152921504606846976 → Calls Tryd.prog 9 #[.pointer (some ⟨p, 0, none⟩), .int .i64 (d - 1)] w (MadeN B p a n c k M D w)) :
    Calls Tryd.prog 9 #[.pointer (some ⟨p, 0, none⟩), .int .i64 d] w (MadeN B p a n c k (2 * M) (2 * D) w) := by
  have hp := h.lt
  have HN := Lib.hid (fun o => next_any B p a n c k 9 (w.alloc o) (h.below ((Below.refl _ w).alloc (Nat.le_refl _) o)) (by decide) (by decide) (by omega) hn)
  have HNe := Lib.hid (show w.heap.size ≠ p by omega)
  have hw : IntKind.i64.wrap (d - 1) = d - 1 := by rw [IntKind.wrap_i64]; omega
  have HI := Lib.hid IH
  have HI2 := Lib.hid IH
  rw [← hw] at HI2
  clear hw
  clear h IH
  go_enter Tryd.func9, Tryd.ntmps9
  go_wp2_with (go_at_call 37; refine (HN.out _).mono ?_)
  rintro e W1 ⟨⟨r, hr, rfl⟩, h1, h2⟩
  have hz := h2.2 _ _ (alloc_new w _) HNe.out
  obtain ⟨c0, c1, c2⟩ := three_cells hz
  have f0 := Lib.frozen_of_heap hz 0
  have f1 := Lib.frozen_of_heap hz 1
  have f2 := Lib.frozen_of_heap hz 2
  have HZ := Lib.hid hz; have H1 := Lib.hid h1; have H2 := Lib.hid h2
  have hzl := (Array.getElem?_eq_some_iff.1 hz).1
  clear hz h1 h2
  obtain ⟨z, hz⟩ : ∃ z : Int, (r : Int) = z := ⟨_, rfl⟩
  rw [hz]
  have h9 : z = 0 ∨ z = 1 ∨ z = 2 ∨ z = 3 ∨ z = 4 ∨ z = 5 ∨ z = 6 ∨ z = 7 ∨ z = 8 := by omega
  clear hz hr
  rcases h9 with rfl | rfl | rfl | rfl | rfl | rfl | rfl | rfl | rfl
  · go_wp2_with (go_at_call 30; refine (var_any _ _).mono ?_)
    rintro e W2 ⟨⟨u, rfl, hu⟩, hb⟩
    have HBT := Lib.hid (((Below.refl _ W1).alloc (Nat.le_refl _) _).trans (hb.mono (by simp)))
    clear hb
    obtain ⟨a2, n2, rfl⟩ := hu.shape
    have hz2 : W2.heap[w.heap.size]? = some (.cells #[.int .i64 0, .string ⟨#[]⟩, .slice none 0 0] 29 (0, 0)) := (HBT.out.block _ hzl).trans HZ.out
    obtain ⟨d0, d1, d2⟩ := three_cells hz2
    have g0 := Lib.frozen_of_heap hz2 0
    have g1 := Lib.frozen_of_heap hz2 1
    have g2 := Lib.frozen_of_heap hz2 2
    have HZ2 := Lib.hid hz2; have HU := Lib.hid hu
    clear hz2 hu c0 c1 c2 f0 f1 f2
    simp only [tyV, T.kind, T.name, List.length_nil]
    go_wp2
    exact bodyPost_ret (v := .agg #[.int .i64 1, .string ⟨#[97]⟩, .slice a2 0 n2]) (by have hc := set3_cells HZ2.out (.int .i64 1) (.string ⟨#[97]⟩) (.slice a2 0 n2); simp [results, Tryd.results9, go_sem, hc.1, hc.2.1, hc.2.2]) rfl (made_fn (t := .var ⟨#[97]⟩) (H1.out.below HBT.out) (by omega) (H2.out.trans (MkFr.of_below HBT.out (Nat.le_trans H1.out.1.1 (Nat.le_of_lt H1.out.lt)))) hp HZ2.out (.leaf _ _ _ rfl) (good_var (by decide) (by decide) (by omega)))
  · go_wp2_with (go_at_call 30; refine (var_any _ _).mono ?_)
    rintro e W2 ⟨⟨u, rfl, hu⟩, hb⟩
    have HBT := Lib.hid (((Below.refl _ W1).alloc (Nat.le_refl _) _).trans (hb.mono (by simp)))
    clear hb
    obtain ⟨a2, n2, rfl⟩ := hu.shape
    have hz2 : W2.heap[w.heap.size]? = some (.cells #[.int .i64 0, .string ⟨#[]⟩, .slice none 0 0] 29 (0, 0)) := (HBT.out.block _ hzl).trans HZ.out
    obtain ⟨d0, d1, d2⟩ := three_cells hz2
    have g0 := Lib.frozen_of_heap hz2 0
    have g1 := Lib.frozen_of_heap hz2 1
    have g2 := Lib.frozen_of_heap hz2 2
    have HZ2 := Lib.hid hz2; have HU := Lib.hid hu
    clear hz2 hu c0 c1 c2 f0 f1 f2
    simp only [tyV, T.kind, T.name, List.length_nil]
    go_wp2
    exact bodyPost_ret (v := .agg #[.int .i64 1, .string ⟨#[98]⟩, .slice a2 0 n2]) (by have hc := set3_cells HZ2.out (.int .i64 1) (.string ⟨#[98]⟩) (.slice a2 0 n2); simp [results, Tryd.results9, go_sem, hc.1, hc.2.1, hc.2.2]) rfl (made_fn (t := .var ⟨#[98]⟩) (H1.out.below HBT.out) (by omega) (H2.out.trans (MkFr.of_below HBT.out (Nat.le_trans H1.out.1.1 (Nat.le_of_lt H1.out.lt)))) hp HZ2.out (.leaf _ _ _ rfl) (good_var (by decide) (by decide) (by omega)))
  · go_wp2_with (go_at_call 30; refine (var_any _ _).mono ?_)
    rintro e W2 ⟨⟨u, rfl, hu⟩, hb⟩
    have HBT := Lib.hid (((Below.refl _ W1).alloc (Nat.le_refl _) _).trans (hb.mono (by simp)))
    clear hb
    obtain ⟨a2, n2, rfl⟩ := hu.shape
    have hz2 : W2.heap[w.heap.size]? = some (.cells #[.int .i64 0, .string ⟨#[]⟩, .slice none 0 0] 29 (0, 0)) := (HBT.out.block _ hzl).trans HZ.out
    obtain ⟨d0, d1, d2⟩ := three_cells hz2
    have g0 := Lib.frozen_of_heap hz2 0
    have g1 := Lib.frozen_of_heap hz2 1
    have g2 := Lib.frozen_of_heap hz2 2
    have HZ2 := Lib.hid hz2; have HU := Lib.hid hu
    clear hz2 hu c0 c1 c2 f0 f1 f2
    simp only [tyV, T.kind, T.name, List.length_nil]
    go_wp2
    exact bodyPost_ret (v := .agg #[.int .i64 1, .string ⟨#[99]⟩, .slice a2 0 n2]) (by have hc := set3_cells HZ2.out (.int .i64 1) (.string ⟨#[99]⟩) (.slice a2 0 n2); simp [results, Tryd.results9, go_sem, hc.1, hc.2.1, hc.2.2]) rfl (made_fn (t := .var ⟨#[99]⟩) (H1.out.below HBT.out) (by omega) (H2.out.trans (MkFr.of_below HBT.out (Nat.le_trans H1.out.1.1 (Nat.le_of_lt H1.out.lt)))) hp HZ2.out (.leaf _ _ _ rfl) (good_var (by decide) (by decide) (by omega)))
  · go_wp2_with (go_at_call 38; refine (con_any _ none [] 0 0 _ (TysAt.nil _ _ _)).mono ?_)
    rintro e W2 ⟨⟨u, rfl, hu⟩, hb⟩
    have HBT := Lib.hid hb
    clear hb
    obtain ⟨a2, n2, rfl⟩ := hu.shape
    have hz2 : W2.heap[w.heap.size]? = some (.cells #[.int .i64 0, .string ⟨#[]⟩, .slice none 0 0] 29 (0, 0)) := (HBT.out.block _ hzl).trans HZ.out
    obtain ⟨d0, d1, d2⟩ := three_cells hz2
    have g0 := Lib.frozen_of_heap hz2 0
    have g1 := Lib.frozen_of_heap hz2 1
    have g2 := Lib.frozen_of_heap hz2 2
    have HZ2 := Lib.hid hz2; have HU := Lib.hid hu
    clear hz2 hu c0 c1 c2 f0 f1 f2
    simp only [tyV, T.kind, T.name, List.length_nil]
    go_wp2
    exact bodyPost_ret (v := .agg #[.int .i64 2, .string ⟨#[73, 110, 116]⟩, .slice a2 0 n2]) (by have hc := set3_cells HZ2.out (.int .i64 2) (.string ⟨#[73, 110, 116]⟩) (.slice a2 0 n2); simp [results, Tryd.results9, go_sem, hc.1, hc.2.1, hc.2.2]) rfl (made_fn (t := .con ⟨#[73, 110, 116]⟩ []) (H1.out.below HBT.out) (by omega) (H2.out.trans (MkFr.of_below HBT.out (Nat.le_trans H1.out.1.1 (Nat.le_of_lt H1.out.lt)))) hp HZ2.out (.leaf _ _ _ rfl) (good_con0 (by decide) (by decide) (by omega)))
  · go_wp2_with (go_at_call 38; refine (con_any _ none [] 0 0 _ (TysAt.nil _ _ _)).mono ?_)
    rintro e W2 ⟨⟨u, rfl, hu⟩, hb⟩
    have HBT := Lib.hid hb
    clear hb
    obtain ⟨a2, n2, rfl⟩ := hu.shape
    have hz2 : W2.heap[w.heap.size]? = some (.cells #[.int .i64 0, .string ⟨#[]⟩, .slice none 0 0] 29 (0, 0)) := (HBT.out.block _ hzl).trans HZ.out
    obtain ⟨d0, d1, d2⟩ := three_cells hz2
    have g0 := Lib.frozen_of_heap hz2 0
    have g1 := Lib.frozen_of_heap hz2 1
    have g2 := Lib.frozen_of_heap hz2 2
    have HZ2 := Lib.hid hz2; have HU := Lib.hid hu
    clear hz2 hu c0 c1 c2 f0 f1 f2
    simp only [tyV, T.kind, T.name, List.length_nil]
    go_wp2
    exact bodyPost_ret (v := .agg #[.int .i64 2, .string ⟨#[66, 111, 111, 108]⟩, .slice a2 0 n2]) (by have hc := set3_cells HZ2.out (.int .i64 2) (.string ⟨#[66, 111, 111, 108]⟩) (.slice a2 0 n2); simp [results, Tryd.results9, go_sem, hc.1, hc.2.1, hc.2.2]) rfl (made_fn (t := .con ⟨#[66, 111, 111, 108]⟩ []) (H1.out.below HBT.out) (by omega) (H2.out.trans (MkFr.of_below HBT.out (Nat.le_trans H1.out.1.1 (Nat.le_of_lt H1.out.lt)))) hp HZ2.out (.leaf _ _ _ rfl) (good_con0 (by decide) (by decide) (by omega)))
  · go_wp2_with (go_at_call 9; refine (HI.out _ _ H1.out (by omega)).mono ?_)
    rintro e W2 ⟨⟨t, u, rfl, hg, hu⟩, ⟨k2, hk2, hs2⟩, hf2⟩
    obtain ⟨a2, n2, rfl⟩ := hu.shape
    have hz2 := hf2.2 _ _ HZ.out HNe.out
    have hzl2 := (Array.getElem?_eq_some_iff.1 hz2).1
    have HZ2 := Lib.hid hz2; have HU := Lib.hid hu; have HS2 := Lib.hid hs2; have HF2 := Lib.hid hf2; have HG := Lib.hid hg
    clear hz2 hu hs2 hf2 hg c0 c1 c2 f0 f1 f2
    simp only [tyV]
    go_wp2_with (go_at_call 38; refine (con_in (ok := fun k => w.heap.size < k) _ _ [t] 1 1 _ (in_one _ hzl2 (HU.out.mono fun k hk => Nat.lt_of_lt_of_le hzl hk))).mono ?_)
    rintro e W3 ⟨⟨u3, rfl, hu3⟩, hb⟩
    obtain ⟨a3, n3, rfl⟩ := hu3.shape
    have HBT := Lib.hid (((Below.refl _ W2).alloc (Nat.le_refl _) _).trans (hb.mono (by simp)))
    have hz3 : W3.heap[w.heap.size]? = some (.cells #[.int .i64 0, .string ⟨#[]⟩, .slice none 0 0] 29 (0, 0)) := (HBT.out.block _ hzl2).trans HZ2.out
    obtain ⟨d0, d1, d2⟩ := three_cells hz3
    have g0 := Lib.frozen_of_heap hz3 0
    have g1 := Lib.frozen_of_heap hz3 1
    have g2 := Lib.frozen_of_heap hz3 2
    have HZ3 := Lib.hid hz3; have HU3 := Lib.hid hu3
    clear hz3 hu3 hb
    simp only [tyV, show (T.con ⟨#[76, 105, 115, 116]⟩ [t]).kind = 2 from rfl, show (T.con ⟨#[76, 105, 115, 116]⟩ [t]).name = ⟨#[76, 105, 115, 116]⟩ from rfl, show (T.con ⟨#[76, 105, 115, 116]⟩ [t]).kids.length = 1 from rfl]
    go_wp2
    exact bodyPost_ret (v := .agg #[.int .i64 2, .string ⟨#[76, 105, 115, 116]⟩, .slice a3 1 n3]) (by have hc := set3_cells HZ3.out (.int .i64 2) (.string ⟨#[76, 105, 115, 116]⟩) (.slice a3 1 n3); simp [results, Tryd.results9, go_sem, hc.1, hc.2.1, hc.2.2]) rfl (made_fn (t := .con ⟨#[76, 105, 115, 116]⟩ [t]) (HS2.out.below HBT.out) (by omega) ((H2.out.trans HF2.out).trans (MkFr.of_below HBT.out (Nat.le_trans HS2.out.1.1 (Nat.le_of_lt HS2.out.lt)))) hp HZ3.out HU3.out (good_con1 (by decide) (by decide) HG.out (Nat.le_refl _) hD))
  · go_wp2_with (go_at_call 9; refine (HI.out _ _ H1.out (by omega)).mono ?_)
    rintro e W2 ⟨⟨t, u, rfl, hg, hu⟩, ⟨k2, hk2, hs2⟩, hf2⟩
    obtain ⟨a2, n2, rfl⟩ := hu.shape
    have hz2 := hf2.2 _ _ HZ.out HNe.out
    have hzl2 := (Array.getElem?_eq_some_iff.1 hz2).1
    have HZ2 := Lib.hid hz2; have HU := Lib.hid hu; have HS2 := Lib.hid hs2; have HF2 := Lib.hid hf2; have HG := Lib.hid hg
    clear hz2 hu hs2 hf2 hg c0 c1 c2 f0 f1 f2
    simp only [tyV]
    go_wp2_with fail
    have hbx := alloc_new W2 (.cells #[.int .i64 t.kind, .string t.name, .slice a2 t.kids.length n2] 29)
    have HBX := Lib.hid hbx
    have hne2 : W2.heap.size ≠ p := by have := HS2.out.lt; omega
    have HNe2 := Lib.hid hne2
    clear hbx hne2
    go_region_with (first
      | (go_at_call 9; refine (HI2.out k2 _ ?hs ?hk).mono ?_; (case hs => exact SeqAt.drew (HS2.out.below ((Below.refl _ W2).alloc (Nat.le_refl _) _))); (case hk => omega); rintro e W3 ⟨⟨t3, u3, rfl, hg3, hu3⟩, ⟨k3, hk3, hs3⟩, hf3'⟩; have hf3 := MkFr.of_drew hf3'; clear hf3'; obtain ⟨a3, n3, rfl⟩ := hu3.shape; have hbx3 := hf3.2 _ _ HBX.out HNe2.out; obtain ⟨x0, x1, x2⟩ := three_cells hbx3; have hz3 := hf3.2 _ _ ((Below.heap_alloc W2 _ _ hzl2).trans HZ2.out) HNe.out; have hzl3 := (Array.getElem?_eq_some_iff.1 hz3).1; have HZ3 := Lib.hid hz3; have HS3 := Lib.hid hs3; have HF3 := Lib.hid hf3; have HG3 := Lib.hid hg3; have HUt := Lib.hid ((HU.out.mono (ok' := fun k => w.heap.size < k) fun k hk => Nat.lt_of_lt_of_le hzl hk).keep (fun k cs fz _ hh => ((keepT_alloc W2 _).trans (KeepT.of_mk hf3 (HS2.out.below ((Below.refl _ W2).alloc (Nat.le_refl _) _)))) k cs fz hh)); have hu3' : TyIn (fun k => w.heap.size < k) W3 t3 (.slice a3 t3.kids.length n3) := hu3.mono (fun k hk => by have h9 : (W2.alloc (.cells #[.int .i64 t.kind, .string t.name, .slice a2 t.kids.length n2] 29)).heap.size ≤ k := hk; simp at h9; omega); have HU3 := Lib.hid hu3'; clear hz3 hs3 hf3 hu3 hu3' hg3 hbx3; simp only [tyV])
      | (go_at_call 38; refine (con_in (ok := fun k => w.heap.size < k) _ _ [t, t3] 2 2 _ (in_pair rfl rfl hzl3 HUt.out HU3.out)).mono ?_; rintro e W4 ⟨⟨u4, rfl, hu4⟩, hb4⟩; obtain ⟨a4, n4, rfl⟩ := hu4.shape; have HBT := Lib.hid (((Below.refl _ W3).alloc (Nat.le_refl _) _).trans (hb4.mono (by simp))); have hz4 : W4.heap[w.heap.size]? = some (.cells #[.int .i64 0, .string ⟨#[]⟩, .slice none 0 0] 29 (0, 0)) := (HBT.out.block _ hzl3).trans HZ3.out; obtain ⟨d0, d1, d2⟩ := three_cells hz4; have g0 := Lib.frozen_of_heap hz4 0; have g1 := Lib.frozen_of_heap hz4 1; have g2 := Lib.frozen_of_heap hz4 2; have HZ4 := Lib.hid hz4; have HU4 := Lib.hid hu4; clear hz4 hu4 hb4; simp only [tyV, show (T.con ⟨#[80, 97, 105, 114]⟩ [t, t3]).kind = 2 from rfl, show (T.con ⟨#[80, 97, 105, 114]⟩ [t, t3]).name = ⟨#[80, 97, 105, 114]⟩ from rfl, show (T.con ⟨#[80, 97, 105, 114]⟩ [t, t3]).kids.length = 2 from rfl]))
    all_goals go_wp2
    all_goals exact bodyPost_ret (v := .agg #[.int .i64 2, .string ⟨#[80, 97, 105, 114]⟩, .slice a4 2 n4]) (by have hc := set3_cells HZ4.out (.int .i64 2) (.string ⟨#[80, 97, 105, 114]⟩) (.slice a4 2 n4); simp [results, Tryd.results9, go_sem, hc.1, hc.2.1, hc.2.2]) rfl (made_fn (t := T.con ⟨#[80, 97, 105, 114]⟩ [t, t3]) (HS3.out.below HBT.out) (by omega) (((H2.out.trans HF2.out).trans ((MkFr.of_below ((Below.refl _ W2).alloc (Nat.le_refl _) _) (Nat.le_trans HS2.out.1.1 (Nat.le_of_lt HS2.out.lt))).trans HF3.out)).trans (MkFr.of_below HBT.out (Nat.le_trans HS3.out.1.1 (Nat.le_of_lt HS3.out.lt)))) hp HZ4.out HU4.out (good_con2 (by decide) (by decide) HG.out HG3.out (Nat.le_refl _)))
  · go_wp2_with (go_at_call 9; refine (HI.out _ _ H1.out (by omega)).mono ?_)
    rintro e W2 ⟨⟨t, u, rfl, hg, hu⟩, ⟨k2, hk2, hs2⟩, hf2⟩
    obtain ⟨a2, n2, rfl⟩ := hu.shape
    have hz2 := hf2.2 _ _ HZ.out HNe.out
    have hzl2 := (Array.getElem?_eq_some_iff.1 hz2).1
    have HZ2 := Lib.hid hz2; have HU := Lib.hid hu; have HS2 := Lib.hid hs2; have HF2 := Lib.hid hf2; have HG := Lib.hid hg
    clear hz2 hu hs2 hf2 hg c0 c1 c2 f0 f1 f2
    simp only [tyV]
    go_wp2_with fail
    have hbx := alloc_new W2 (.cells #[.int .i64 t.kind, .string t.name, .slice a2 t.kids.length n2] 29)
    have HBX := Lib.hid hbx
    have hne2 : W2.heap.size ≠ p := by have := HS2.out.lt; omega
    have HNe2 := Lib.hid hne2
    clear hbx hne2
    go_region_with (first
      | (go_at_call 9; refine (HI2.out k2 _ ?hs ?hk).mono ?_; (case hs => exact SeqAt.drew (HS2.out.below ((Below.refl _ W2).alloc (Nat.le_refl _) _))); (case hk => omega); rintro e W3 ⟨⟨t3, u3, rfl, hg3, hu3⟩, ⟨k3, hk3, hs3⟩, hf3'⟩; have hf3 := MkFr.of_drew hf3'; clear hf3'; obtain ⟨a3, n3, rfl⟩ := hu3.shape; have hbx3 := hf3.2 _ _ HBX.out HNe2.out; obtain ⟨x0, x1, x2⟩ := three_cells hbx3; have hz3 := hf3.2 _ _ ((Below.heap_alloc W2 _ _ hzl2).trans HZ2.out) HNe.out; have hzl3 := (Array.getElem?_eq_some_iff.1 hz3).1; have HZ3 := Lib.hid hz3; have HS3 := Lib.hid hs3; have HF3 := Lib.hid hf3; have HG3 := Lib.hid hg3; have HUt := Lib.hid ((HU.out.mono (ok' := fun k => w.heap.size < k) fun k hk => Nat.lt_of_lt_of_le hzl hk).keep (fun k cs fz _ hh => ((keepT_alloc W2 _).trans (KeepT.of_mk hf3 (HS2.out.below ((Below.refl _ W2).alloc (Nat.le_refl _) _)))) k cs fz hh)); have hu3' : TyIn (fun k => w.heap.size < k) W3 t3 (.slice a3 t3.kids.length n3) := hu3.mono (fun k hk => by have h9 : (W2.alloc (.cells #[.int .i64 t.kind, .string t.name, .slice a2 t.kids.length n2] 29)).heap.size ≤ k := hk; simp at h9; omega); have HU3 := Lib.hid hu3'; clear hz3 hs3 hf3 hu3 hu3' hg3 hbx3; simp only [tyV])
      | (go_at_call 39; refine (fun2_in t t3 _ _ _ _ _ (fun k hk => Nat.lt_of_lt_of_le hzl3 hk) HUt.out HU3.out).mono ?_; rintro e W4 ⟨⟨u4, rfl, hu4⟩, hb4⟩; obtain ⟨a4, n4, rfl⟩ := hu4.shape; have HBT := Lib.hid hb4; have hz4 : W4.heap[w.heap.size]? = some (.cells #[.int .i64 0, .string ⟨#[]⟩, .slice none 0 0] 29 (0, 0)) := (HBT.out.block _ hzl3).trans HZ3.out; obtain ⟨d0, d1, d2⟩ := three_cells hz4; have g0 := Lib.frozen_of_heap hz4 0; have g1 := Lib.frozen_of_heap hz4 1; have g2 := Lib.frozen_of_heap hz4 2; have HZ4 := Lib.hid hz4; have HU4 := Lib.hid hu4; clear hz4 hu4 hb4; simp only [tyV, show (T.fn t t3).kind = 3 from rfl, show (T.fn t t3).name = ⟨#[]⟩ from rfl, show (T.fn t t3).kids.length = 2 from rfl]))
    all_goals go_wp2
    all_goals exact bodyPost_ret (v := .agg #[.int .i64 3, .string ⟨#[]⟩, .slice a4 2 n4]) (by have hc := set3_cells HZ4.out (.int .i64 3) (.string ⟨#[]⟩) (.slice a4 2 n4); simp [results, Tryd.results9, go_sem, hc.1, hc.2.1, hc.2.2]) rfl (made_fn (t := T.fn t t3) (HS3.out.below HBT.out) (by omega) (((H2.out.trans HF2.out).trans ((MkFr.of_below ((Below.refl _ W2).alloc (Nat.le_refl _) _) (Nat.le_trans HS2.out.1.1 (Nat.le_of_lt HS2.out.lt))).trans HF3.out)).trans (MkFr.of_below HBT.out (Nat.le_trans HS3.out.1.1 (Nat.le_of_lt HS3.out.lt)))) hp HZ4.out HU4.out (good_fn HG.out HG3.out (Nat.le_refl _)))
  · go_wp2_with (go_at_call 9; refine (HI.out _ _ H1.out (by omega)).mono ?_)
    rintro e W2 ⟨⟨t, u, rfl, hg, hu⟩, ⟨k2, hk2, hs2⟩, hf2⟩
    obtain ⟨a2, n2, rfl⟩ := hu.shape
    have hz2 := hf2.2 _ _ HZ.out HNe.out
    have hzl2 := (Array.getElem?_eq_some_iff.1 hz2).1
    have HZ2 := Lib.hid hz2; have HU := Lib.hid hu; have HS2 := Lib.hid hs2; have HF2 := Lib.hid hf2; have HG := Lib.hid hg
    clear hz2 hu hs2 hf2 hg c0 c1 c2 f0 f1 f2
    simp only [tyV]
    go_wp2_with fail
    have hbx := alloc_new W2 (.cells #[.int .i64 t.kind, .string t.name, .slice a2 t.kids.length n2] 29)
    have HBX := Lib.hid hbx
    have hne2 : W2.heap.size ≠ p := by have := HS2.out.lt; omega
    have HNe2 := Lib.hid hne2
    clear hbx hne2
    go_region_with (first
      | (go_at_call 9; refine (HI2.out k2 _ ?hs ?hk).mono ?_; (case hs => exact SeqAt.drew (HS2.out.below ((Below.refl _ W2).alloc (Nat.le_refl _) _))); (case hk => omega); rintro e W3 ⟨⟨t3, u3, rfl, hg3, hu3⟩, ⟨k3, hk3, hs3⟩, hf3'⟩; have hf3 := MkFr.of_drew hf3'; clear hf3'; obtain ⟨a3, n3, rfl⟩ := hu3.shape; have hbx3 := hf3.2 _ _ HBX.out HNe2.out; obtain ⟨x0, x1, x2⟩ := three_cells hbx3; have hz3 := hf3.2 _ _ ((Below.heap_alloc W2 _ _ hzl2).trans HZ2.out) HNe.out; have hzl3 := (Array.getElem?_eq_some_iff.1 hz3).1; have HZ3 := Lib.hid hz3; have HS3 := Lib.hid hs3; have HF3 := Lib.hid hf3; have HG3 := Lib.hid hg3; have HUt := Lib.hid ((HU.out.mono (ok' := fun k => w.heap.size < k) fun k hk => Nat.lt_of_lt_of_le hzl hk).keep (fun k cs fz _ hh => ((keepT_alloc W2 _).trans (KeepT.of_mk hf3 (HS2.out.below ((Below.refl _ W2).alloc (Nat.le_refl _) _)))) k cs fz hh)); have hu3' : TyIn (fun k => w.heap.size < k) W3 t3 (.slice a3 t3.kids.length n3) := hu3.mono (fun k hk => by have h9 : (W2.alloc (.cells #[.int .i64 t.kind, .string t.name, .slice a2 t.kids.length n2] 29)).heap.size ≤ k := hk; simp at h9; omega); have HU3 := Lib.hid hu3'; clear hz3 hs3 hf3 hu3 hu3' hg3 hbx3; simp only [tyV])
      | (go_at_call 39; refine (fun2_in t t3 _ _ _ _ _ (fun k hk => Nat.lt_of_lt_of_le hzl3 hk) HUt.out HU3.out).mono ?_; rintro e W4 ⟨⟨u4, rfl, hu4⟩, hb4⟩; obtain ⟨a4, n4, rfl⟩ := hu4.shape; have HBT := Lib.hid hb4; have hz4 : W4.heap[w.heap.size]? = some (.cells #[.int .i64 0, .string ⟨#[]⟩, .slice none 0 0] 29 (0, 0)) := (HBT.out.block _ hzl3).trans HZ3.out; obtain ⟨d0, d1, d2⟩ := three_cells hz4; have g0 := Lib.frozen_of_heap hz4 0; have g1 := Lib.frozen_of_heap hz4 1; have g2 := Lib.frozen_of_heap hz4 2; have HZ4 := Lib.hid hz4; have HU4 := Lib.hid hu4; clear hz4 hu4 hb4; simp only [tyV, show (T.fn t t3).kind = 3 from rfl, show (T.fn t t3).name = ⟨#[]⟩ from rfl, show (T.fn t t3).kids.length = 2 from rfl]))
    all_goals go_wp2
    all_goals exact bodyPost_ret (v := .agg #[.int .i64 3, .string ⟨#[]⟩, .slice a4 2 n4]) (by have hc := set3_cells HZ4.out (.int .i64 3) (.string ⟨#[]⟩) (.slice a4 2 n4); simp [results, Tryd.results9, go_sem, hc.1, hc.2.1, hc.2.2]) rfl (made_fn (t := T.fn t t3) (HS3.out.below HBT.out) (by omega) (((H2.out.trans HF2.out).trans ((MkFr.of_below ((Below.refl _ W2).alloc (Nat.le_refl _) _) (Nat.le_trans HS2.out.1.1 (Nat.le_of_lt HS2.out.lt))).trans HF3.out)).trans (MkFr.of_below HBT.out (Nat.le_trans HS3.out.1.1 (Nat.le_of_lt HS3.out.lt)))) hp HZ4.out HU4.out (good_fn HG.out HG3.out (Nat.le_refl _)))
end Go.Proofs.YtdcfemojkdoakaaDoor
/- Types of depth three, of depth four, made of numbers. -/
namespace Go.Proofs.YtdcfemojkdoakaaDoor
open Go.RowKit

theorem make_n1 (B p : Nat) (a : Option Addr) (n c k : Nat) (w : World) (h : SeqAt B p a n c k w) (hk : k + 4 < 1152921504606846976) (hn : n < 1152921504606846976) :
    Calls Tryd.prog 9 #[.pointer (some ⟨p, 0, none⟩), .int .i64 1] w (MadeN B p a n c k 4 28 w) :=
  make_stepN 1 (by decide) (by decide) 2 14 (by decide) (by decide) B p a n c k w h hk hn (fun k w h hk => make_n0 B p a n c k w h (by omega) hn)
theorem make_n2 (B p : Nat) (a : Option Addr) (n c k : Nat) (w : World) (h : SeqAt B p a n c k w) (hk : k + 8 < 1152921504606846976) (hn : n < 1152921504606846976) :
    Calls Tryd.prog 9 #[.pointer (some ⟨p, 0, none⟩), .int .i64 2] w (MadeN B p a n c k 8 56 w) :=
  make_stepN 2 (by decide) (by decide) 4 28 (by decide) (by decide) B p a n c k w h hk hn (fun k w h hk => make_n1 B p a n c k w h hk hn)
theorem make_n3 (B p : Nat) (a : Option Addr) (n c k : Nat) (w : World) (h : SeqAt B p a n c k w) (hk : k + 16 < 1152921504606846976) (hn : n < 1152921504606846976) :
    Calls Tryd.prog 9 #[.pointer (some ⟨p, 0, none⟩), .int .i64 3] w (MadeN B p a n c k 16 112 w) :=
  make_stepN 3 (by decide) (by decide) 8 56 (by decide) (by decide) B p a n c k w h hk hn (fun k w h hk => make_n2 B p a n c k w h hk hn)
theorem make_n4 (B p : Nat) (a : Option Addr) (n c k : Nat) (w : World) (h : SeqAt B p a n c k w) (hk : k + 32 < 1152921504606846976) (hn : n < 1152921504606846976) :
    Calls Tryd.prog 9 #[.pointer (some ⟨p, 0, none⟩), .int .i64 4] w (MadeN B p a n c k 32 224 w) :=
  make_stepN 4 (by decide) (by decide) 16 112 (by decide) (by decide) B p a n c k w h hk hn (fun k w h hk => make_n3 B p a n c k w h hk hn)
end Go.Proofs.YtdcfemojkdoakaaDoor
/- What the program's Unify is to tell, and what the laws of unification share. -/
namespace Go.Proofs.YtdcfemojkdoakaaDoor
open Go.RowKit Go.Sort Go.Lib
attribute [local go_sem] Oper.semAt_some

/-- The two errors of unification lie where they are to. -/
def TwoE (aT aO : Addr) (w : World) : Prop := w.cell? ⟨1, 0, none⟩ = some (errP aT) ∧ w.cell? ⟨0, 0, none⟩ = some (errP aO)
theorem TwoE.below {aT aO : Addr} {w W : World} (h : TwoE aT aO w) (hb : Below w.heap.size w W) : TwoE aT aO W :=
  ⟨(hb.cell (p := ⟨1, 0, none⟩) (World.block_lt_of_cell? _ _ h.1)).trans h.1, (hb.cell (p := ⟨0, 0, none⟩) (World.block_lt_of_cell? _ _ h.2)).trans h.2⟩
/-- What the program's Unify tells. -/
def PRes (aT aO : Addr) (S : USet) (r : UR) (E : Ending) (w' : World) : Prop :=
  match r with
  | .ok τ => ∃ sv l, E = .returned (.tuple #[.agg #[sv], .nilIface]) ∧ SubAt sv l w' ∧ PInv S l τ
  | .bad e => ∃ a c, E = .returned (.tuple #[.agg #[.slice a 0 c], errP (if e then aO else aT)])
/-- The contract of the program's Unify. -/
def PUni : Prop := ∀ (S : USet), S.V.length < 10 → ∀ (a b : T) (r : UR) (pa pb : Option Addr) (ca cb : Nat) (w : World) (aT aO : Addr), Uni T.var a b r → S.O a → S.O b → S.P a b → TwoE aT aO w → TysAt w (.slice pa a.kids.length ca) a.kids → TysAt w (.slice pb b.kids.length cb) b.kids →
  Calls Tryd.prog 10 #[.agg #[.int .i64 a.kind, .string a.name, .slice pa a.kids.length ca], .agg #[.int .i64 b.kind, .string b.name, .slice pb b.kids.length cb]] w fun E w' => PRes aT aO S r E w' ∧ Below w.heap.size w w'
/-- Apply of what was found. -/
theorem pap_ret {S : USet} {τ : Sg} {l : List PR} {t u : T} {sv : Value} {a : Option Addr} {c : Nat} {w : World} (hs : SubAt sv l w) (hp : PInv S l τ) (hi : UInv S τ) (hl : S.V.length < 10) (ht : tsize t ≤ 900000000) (e : sub τ t = u) (hT : TysAt w (.slice a t.kids.length c) t.kids) :
    Calls Tryd.prog 14 #[.agg #[sv], .agg #[.int .i64 t.kind, .string t.name, .slice a t.kids.length c]] w fun E Y => (∃ za zc, E = .returned (.agg #[.int .i64 u.kind, .string u.name, .slice za u.kids.length zc]) ∧ TysAt Y (.slice za u.kids.length zc) u.kids) ∧ Below w.heap.size w Y := by
  have e2 : app l t = u := (hp.is.app t).trans e
  subst e2
  have hlen := hp.len
  refine (apply_any (d := l) (t := t) (by omega) (fun x hx => by have := hp.sized hi x hx; omega) (by omega) hs hT).mono ?_
  rintro E Y ⟨⟨za, zc, rfl, hin⟩, hb⟩
  exact ⟨⟨za, zc, rfl, hin.tys⟩, hb⟩
theorem fits_le {t : T} (h : tsize t ≤ 900000000) : Fits t := by
  refine T.by_kids (P := fun t => tsize t ≤ 900000000 → Fits t) (fun t H h => ?_) t h
  refine .mk t ?_ fun k hk => H k hk (by have := tsize_kid hk; omega)
  have h1 := len_sizes' t.kids
  rw [tsize_eq] at h; omega
theorem sameU_ret {t : T} (ht : tsize t ≤ 900000000) {a b : Option Addr} {c d : Nat} {w : World} (h : TysAt w (.slice a t.kids.length c) t.kids) (h' : TysAt w (.slice b t.kids.length d) t.kids) :
    Calls Tryd.prog 13 #[.agg #[.int .i64 t.kind, .string t.name, .slice a t.kids.length c], .agg #[.int .i64 t.kind, .string t.name, .slice b t.kids.length d]] w fun e Y => e = .returned (.bool true) ∧ Below w.heap.size w Y := by
  have := sameType_any (t := t) (t' := t) (w := w) (fits_le ht) h h'
  rwa [eqB_true rfl] at this
/-- What two types come to, and that it goes on. -/
theorem uni_start (S : USet) {a b : T} (ha : S.O a) (hb : S.O b) (hP : S.P a b) : ∃ r, Uni T.var a b r ∧ ∀ τ, r = .ok τ → UInv S τ ∧ sub τ a = sub τ b := by
  obtain ⟨r, hr, _⟩ := uni_total S.V T.var a b idem_var (vin_var _) (S.tin a ha) (S.tin b hb)
  refine ⟨r, hr, fun τ e => ?_⟩
  subst e
  exact ⟨(hr.inv (uinv_var S) (.of ha) (.of hb) hP).1, (hr.sound idem_var).2.2⟩
theorem uni_found {a b : T} {r : UR} (h : Uni T.var a b r) (θ : Sg) (e : sub θ a = sub θ b) : ∃ τ, r = .ok τ ∧ Goes θ τ := h.most idem_var (goes_var θ) e
/-- The other way round it is found, too. -/
theorem uni_turn {a b : T} {r q : UR} (h : Uni T.var a b r) (k : Uni T.var b a q) : (∃ τ τ', r = .ok τ ∧ q = .ok τ') ∨ ∃ e e', r = .bad e ∧ q = .bad e' := by
  cases r with
  | ok τ =>
    obtain ⟨τ', e, _⟩ := uni_found k τ (h.sound idem_var).2.2.symm
    exact .inl ⟨τ, τ', rfl, e⟩
  | bad e =>
    cases q with
    | ok τ' =>
      obtain ⟨_, e', _⟩ := uni_found h τ' (k.sound idem_var).2.2.symm
      cases e'
    | bad e' => exact .inr ⟨e, e', rfl, rfl⟩
theorem made_small {t : T} {D : Nat} (h : T.Good t ∧ Fits t ∧ (T.text t).length + 10 ≤ D) (hD : D ≤ 224) : uset3.O t := good_o3 h.1 (by have := tsize2_text t h.1; have := h.2.2; omega)
/-- The example's two types. -/
def s1 : USet := usetV [⟨#[97]⟩] 1 (by decide) (by decide) (by intro x hx; simp at hx; subst hx; decide) (by decide)
theorem o1_a : s1.O (.var ⟨#[97]⟩) := s1.var _ (by simp [s1, usetV])
theorem o1_int : s1.O tInt := ⟨fun x hx => by simp [tInt, vs, vss] at hx, .mk _ (by simp [tInt, T.kind]) (fun k hk => by simp [tInt, T.kids] at hk), by simp [tInt, tsize, tsizes]⟩
theorem first_found : ∃ τ, Uni T.var (.var ⟨#[97]⟩) tInt (.ok τ) ∧ UInv s1 τ ∧ ∀ l, PInv s1 l τ → l.length = 1 := by
  obtain ⟨r, hr, hs⟩ := uni_start s1 o1_a o1_int trivial
  obtain ⟨τ, rfl, _⟩ := uni_found hr (one ⟨#[97]⟩ tInt) (by show one ⟨#[97]⟩ tInt ⟨#[97]⟩ = _; rw [one_at]; rfl)
  refine ⟨τ, hr, (hs τ rfl).1, fun l hl => ?_⟩
  have h1 : τ ⟨#[97]⟩ = tInt := (hs τ rfl).2
  have h2 := hl.len
  have h3 : l ≠ [] := by
    rintro rfl
    have := hl.is ⟨#[97]⟩
    rw [h1] at this; cases this
  have : l.length ≠ 0 := fun e => h3 (List.length_eq_zero_iff.1 e)
  simp only [s1, usetV, List.length_singleton] at h2
  omega
theorem len_ret (a : Option Addr) (n c : Nat) (w : World) :
    Calls Tryd.prog 19 #[.agg #[.slice a n c]] w fun e Y => e = .returned (.int .i64 (n : Int)) ∧ Below w.heap.size w Y := by
  go_enter Tryd.func19, Tryd.ntmps19
  go_wp2
  go_ret
  exact ⟨rfl, (Below.refl _ w).alloc (Nat.le_refl _) _⟩
set_option maxRecDepth 100000 in
set_option maxHeartbeats 1000000 in
theorem first_uni (HU : PUni) (aT aO : Addr) (w : World) (hE : TwoE aT aO w) : Calls Tryd.prog 8 #[] w fun e w' => e = .returned (.bool true) ∧ Below w.heap.size w w' := by
  obtain ⟨τ, hr, hi, hl⟩ := first_found
  have HC := Lib.hid (fun (V : World) (hb : Below w.heap.size w V) => HU s1 (by decide) (.var ⟨#[97]⟩) tInt (.ok τ) none none 0 0 V aT aO hr o1_a o1_int trivial (hE.below hb) (TysAt.nil _ _ _) (TysAt.nil _ _ _))
  have HB := Lib.hid (fun o => (Below.refl _ w).alloc (Nat.le_refl _) o)
  simp only [T.kind, T.name, T.kids, List.length_nil, tInt] at HC
  clear hE hr HU
  go_enter Tryd.func8, Tryd.ntmps8
  go_wp2_with (go_at_call 10; refine (HC.out _ (HB.out _)).mono ?_)
  rintro E w2 ⟨⟨sv, l, rfl, h1, h2⟩, hb2⟩
  obtain ⟨sa, sc, rfl⟩ := h1.shape
  have hl1 := hl l h2
  rw [hl1]
  have HB2 := Lib.hid ((HB.out _).trans (hb2.mono (by simp)))
  clear h1 h2 hb2 HC hl1
  have HL := Lib.hid (fun W => len_ret sa 1 sc W)
  go_wp2_with (go_at_call 19; refine (HL.out _).mono ?_; rintro e w3 ⟨rfl, hb3⟩; have HB3 := Lib.hid ((HB2.out.alloc HB2.out.size _).trans (hb3.mono (by have := HB2.out.size; simp; omega))); clear hb3)
  go_ret
  exact ⟨rfl, HB3.out⟩
end Go.Proofs.YtdcfemojkdoakaaDoor
/- The program's All: pair by pair, as the graph goes. -/
namespace Go.Proofs.YtdcfemojkdoakaaDoor
open Go.RowKit Go.Maps Go.Sort Go.Lib
attribute [local go_sem] Oper.semAt_some

def tsumP : List (T × T) → Nat
  | [] => 0
  | x :: l => tsize x.1 + tsize x.2 + tsumP l
/-- What the pairs so far have come to, and what the others are to come to. -/
def Phase (G : Gr) (rt : Nat → Nat) (fl : Bool) (l : List (T × T)) (r : UR) : Prop :=
  (fl = true ∧ ∃ σ, SI G σ rt ∧ UniAll σ l r) ∨ (¬ Acyc G rt ∧ r = .bad true) ∨ (fl = false ∧ Acyc G rt ∧ r = .bad false)
theorem Phase.ext {G G' : Gr} {rt rt' : Nat → Nat} {l : List (T × T)} {r : UR} (h : Phase G rt true l r) (e : ExtG G rt G' rt') : Phase G' rt' true l r := by
  rcases h with ⟨_, σ, h1, h2⟩ | ⟨h1, h2⟩ | ⟨h, _⟩
  · exact .inl ⟨rfl, σ, e.si σ h1, h2⟩
  · exact .inr (.inl ⟨fun h => h1 (e.ac h), h2⟩)
  · cases h
theorem Phase.join {G : Gr} {rt : Nat → Nat} {a b : T} {l : List (T × T)} {r : UR} {E c i j : Nat} (hE : ∀ i, i < G.N → (G.ag i).length ≤ E) (g : GI G rt) (h : Phase G rt true ((a, b) :: l) r) (hi : i < G.N) (hj : j < G.N) (ei : G.tr i = a) (ej : G.tr j = b) :
    ∃ n fl rf, EndsIn G E (G.N + E) n rt [⟨i, j, false⟩] c fl rf ∧ GI G rf ∧ Phase G rf fl l r := by
  have hs : SK G E rt [⟨i, j, false⟩] := ⟨⟨⟨hi, hj, fun h => (by cases h)⟩, trivial⟩, ⟨fun t ht => (by cases ht), trivial⟩, ⟨by simp, trivial⟩⟩
  rcases h with ⟨_, σ, h1, h2⟩ | ⟨h1, h2⟩ | ⟨h, _⟩
  · cases h2 with
    | cons _ τ _ _ _ _ hu hr =>
      obtain ⟨n, fl, rf, k1, k2, k3⟩ := join_ends (K := G.N + E) hE g hi hj h1 (by rw [ei, ej]; exact hu) c
      exact ⟨n, fl, rf, k1, k2, .inl ⟨k3.1, τ, k3.2, hr⟩⟩
    | bad _ _ _ _ e hu =>
      obtain ⟨n, fl, rf, k1, k2, k3⟩ := join_ends (K := G.N + E) hE g hi hj h1 (by rw [ei, ej]; exact hu) c
      refine ⟨n, fl, rf, k1, k2, ?_⟩
      cases e with
      | true => exact .inr (.inl ⟨k3, rfl⟩)
      | false => exact .inr (.inr ⟨k3.1, k3.2, rfl⟩)
  · obtain ⟨n, fl, rf, k1, k2, k3⟩ := cyc_ends (K := G.N + E) hE (G.N + E + 1 - c) rt [⟨i, j, false⟩] c (Nat.le_refl _) (by simp [numJ]; omega) g hs h1
    exact ⟨n, fl, rf, k1, k2, .inr (.inl ⟨k3, h2⟩)⟩
  · cases h
/-- The variables of the graph are among these. -/
def VarIn (V : List ByteArray) (G : Gr) : Prop := ∀ i, i < G.N → ∀ x ∈ vs (G.tr i), x ∈ V
/-- The graph while pairs are laid into it: S: so many parts there can be. -/
structure AG (V : List ByteArray) (S : Nat) (w : World) (g mb : Nat) (G : Gr) (rt : Nat → Nat) (E c : Nat) (pv : Value) (sl : Nat → Value) (wr : World) : Prop where
  gm : GM w.heap.size G rt E c g mb pv sl wr
  gi : GI G rt
  hE : ∀ i, i < G.N → (G.ag i).length ≤ E
  n : G.N ≤ S
  e : E ≤ S
  c : c ≤ G.N + E
  vars : VarIn V G
  low : Below w.heap.size w wr
def AIU (V : List ByteArray) (S : Nat) (w : World) (g mb : Nat) (l : List (T × T)) (r : UR) (pos fl : Bool) (wr : World) : Prop :=
  ∃ G rt E c pv sl, AG V S w g mb G rt E c pv sl wr ∧ Phase G rt fl l r ∧ (pos = true → 0 < G.N)
/-- Behind the first put of a round, behind the second. -/
def P1 (V : List ByteArray) (S : Nat) (w : World) (g mb : Nat) (a : T) (l : List (T × T)) (r : UR) (i : Nat) (wr : World) : Prop :=
  ∃ G rt E c pv sl, AG V S w g mb G rt E c pv sl wr ∧ Phase G rt true l r ∧ i < G.N ∧ G.tr i = a
def P2 (V : List ByteArray) (S : Nat) (w : World) (g mb : Nat) (a b : T) (l : List (T × T)) (r : UR) (i j : Nat) (wr : World) : Prop :=
  ∃ G rt E c pv sl, AG V S w g mb G rt E c pv sl wr ∧ Phase G rt true l r ∧ (i < G.N ∧ G.tr i = a) ∧ j < G.N ∧ G.tr j = b
theorem put_ag {V : List ByteArray} {S S' : Nat} {w wr : World} {g mb : Nat} {G : Gr} {rt : Nat → Nat} {E c : Nat} {pv : Value} {sl : Nat → Value} {t : T} {a : Option Addr} {ca : Nat} (h : AG V S w g mb G rt E c pv sl wr) (hS : S + tsize t ≤ S') (hS' : S' ≤ 1000000) (hp : Plain3 t) (hn : ∀ x ∈ vs t, x.size ≤ 1000) (hv : ∀ x ∈ vs t, x ∈ V) (hT : TysAt wr (.slice a t.kids.length ca) t.kids) :
    Calls Tryd.prog 48 #[gp g, tyV t (.slice a t.kids.length ca)] wr fun e w' => ∃ G' rt' E' pv' sl' r, e = .returned (.int .i64 (r : Nat)) ∧ AG V S' w g mb G' rt' E' c pv' sl' w' ∧ ExtG G rt G' rt' ∧ r < G'.N ∧ G'.tr r = t := by
  have h1 := h.n; have h2 := h.e
  refine (put_any t hp hn w.heap.size G rt E c g mb pv sl wr a ca h.gm h.gi h.hE h.low.size (by omega) (by omega) hT).mono ?_
  rintro e w' ⟨G', rt', E', pv', sl', r, ⟨rfl, k1, k2⟩, ⟨k3, k4, k5, k6, k7, k8, _, k9⟩, k10, _, k11⟩
  refine ⟨G', rt', E', pv', sl', r, rfl, ⟨k10, k4, k5, by omega, by omega, by have := h.c; have := k3.n; omega, fun i hi x hx => ?_, h.low.trans k11⟩, k3, k1, k2⟩
  by_cases hlt : i < G.N
  · rw [(k3.old i hlt).1] at hx; exact h.vars i hlt x hx
  · exact hv x (k9 i (by omega) hi x hx)
theorem put_one {V : List ByteArray} {S S' : Nat} {w wr : World} {g mb : Nat} {t : T} {l : List (T × T)} {r : UR} {pos : Bool} {a : Option Addr} {ca : Nat} (h : AIU V S w g mb l r pos true wr) (hS : S + tsize t ≤ S') (hS' : S' ≤ 1000000) (hp : Plain3 t) (hn : ∀ x ∈ vs t, x.size ≤ 1000) (hv : ∀ x ∈ vs t, x ∈ V) (hT : TysAt wr (.slice a t.kids.length ca) t.kids) :
    Calls Tryd.prog 48 #[gp g, tyV t (.slice a t.kids.length ca)] wr fun e w' => ∃ i : Nat, e = .returned (.int .i64 (i : Nat)) ∧ P1 V S' w g mb t l r i w' := by
  obtain ⟨G, rt, E, c, pv, sl, h1, h2, _⟩ := h
  refine (put_ag h1 hS hS' hp hn hv hT).mono ?_
  rintro e w' ⟨G', rt', E', pv', sl', i, rfl, k1, k2, k3, k4⟩
  exact ⟨i, rfl, G', rt', E', c, pv', sl', k1, h2.ext k2, k3, k4⟩
theorem put_two {V : List ByteArray} {S S' : Nat} {w wr : World} {g mb i : Nat} {t0 t : T} {l : List (T × T)} {r : UR} {a : Option Addr} {ca : Nat} (h : P1 V S w g mb t0 l r i wr) (hS : S + tsize t ≤ S') (hS' : S' ≤ 1000000) (hp : Plain3 t) (hn : ∀ x ∈ vs t, x.size ≤ 1000) (hv : ∀ x ∈ vs t, x ∈ V) (hT : TysAt wr (.slice a t.kids.length ca) t.kids) :
    Calls Tryd.prog 48 #[gp g, tyV t (.slice a t.kids.length ca)] wr fun e w' => ∃ j : Nat, e = .returned (.int .i64 (j : Nat)) ∧ P2 V S' w g mb t0 t l r i j w' := by
  obtain ⟨G, rt, E, c, pv, sl, h1, h2, h3, h4⟩ := h
  refine (put_ag h1 hS hS' hp hn hv hT).mono ?_
  rintro e w' ⟨G', rt', E', pv', sl', j, rfl, k1, k2, k3, k4⟩
  exact ⟨j, rfl, G', rt', E', c, pv', sl', k1, h2.ext k2, ⟨Nat.lt_of_lt_of_le h3 k2.n, (k2.old i h3).1.trans h4⟩, k3, k4⟩
theorem GM.form {B : Nat} {G : Gr} {rt : Nat → Nat} {E c g mb : Nat} {pv : Value} {sl : Nat → Value} {w : World} (h : GM B G rt E c g mb pv sl w) (hN : 0 < G.N) : ∃ p cap, pv = .slice (some ⟨p, 0, none⟩) G.N cap ∧ B ≤ p := by
  obtain ⟨_, _, ⟨_, _, _, h4, _⟩, _⟩ := h
  rcases h4.2 with ⟨_, e⟩ | ⟨p, cap, cur, e, hb, _⟩
  · omega
  · exact ⟨p, cap, e, hb⟩
theorem join_two {V : List ByteArray} {S : Nat} {w wr : World} {g mb i j : Nat} {a b : T} {l : List (T × T)} {r : UR} (h : P2 V S w g mb a b ((a, b) :: l) r i j wr) (hS : S ≤ 1000000) :
    Calls Tryd.prog 47 #[gp g, .int .i64 (i : Int), .int .i64 (j : Int)] wr fun e w' => ∃ fl, e = .returned (.bool fl) ∧ AIU V S w g mb l r true fl w' := by
  obtain ⟨G, rt, E, c, pv, sl, h1, h2, ⟨h3, h4⟩, h5, h6⟩ := h
  obtain ⟨n, fl, rf, k1, k2, k3⟩ := h2.join h1.hE h1.gi h3 h5 h4 h6
  obtain ⟨p, cap, rfl, hp⟩ := h1.gm.form (by omega)
  have hn := h1.n; have he := h1.e
  refine (join_any h1.gm h1.gi h1.hE (by omega) (by omega) h3 h5 h1.c k1).mono ?_
  rintro e w' ⟨⟨rfl, c', q1, q2⟩, q3⟩
  exact ⟨fl, rfl, G, rf, E, c', _, sl, ⟨q2, k2, h1.hE, h1.n, h1.e, q1, h1.vars, h1.low.trans (q3.below hp h1.gm.bg h1.low.size)⟩, k3, fun _ => by omega⟩
/-- The order, and whether there is one. -/
def OrdA (V : List ByteArray) (S : Nat) (w : World) (g mb : Nat) (r : UR) (fl : Bool) (e : Ending) (w' : World) : Prop := ∃ v ends, e = .returned (.tuple #[v, .bool ends]) ∧ Below w.heap.size w w' ∧
      ((ends = false ∧ r = .bad true) ∨ (ends = true ∧ fl = false ∧ r = .bad false) ∨ (ends = true ∧ fl = true ∧ ∃ σ G rt E c p cap sl ls, r = .ok σ ∧ SI G σ rt ∧ w.heap.size ≤ p ∧ AG V S w g mb G rt E c (.slice (some ⟨p, 0, none⟩) G.N cap) sl w' ∧ 0 < G.N ∧ PlcAt w' v ls ∧ (ls.length ≤ G.N ∧ ∀ i ∈ ls, i < G.N ∧ rt i = i) ∧ (∀ i, i < G.N → rt i = i → i ∈ ls) ∧ ∀ q (hq : q < ls.length), ∀ x ∈ G.ag ls[q], ∃ p, ∃ hp : p < ls.length, q < p ∧ ls[p] = rt x))
theorem order_ai {V : List ByteArray} {S : Nat} {w wr : World} {g mb : Nat} {r : UR} {fl : Bool} (h : AIU V S w g mb [] r true fl wr) (hS : S ≤ 1000000) :
    Calls Tryd.prog 49 #[gp g] wr fun e w' => OrdA V S w g mb r fl e w' := by
  obtain ⟨G, rt, E, c, pv, sl, h1, h2, h3⟩ := h
  have hN := h3 rfl
  obtain ⟨p, cap, rfl, hp⟩ := h1.gm.form hN
  have hn := h1.n; have he := h1.e
  refine (order_any h1.gm h1.gi (fun i hi => Nat.le_trans (h1.hE i hi) (by omega)) (by omega) hN).mono ?_
  rintro e w' ⟨v, ls, W, rfl, hO, hP, hM, hF⟩
  have hb : Below w.heap.size w w' := h1.low.trans (hF.two g |>.below hp h1.gm.bg h1.low.size)
  obtain ⟨e1, e2⟩ := hO.ends h1.gi
  refine ⟨v, _, rfl, hb, ?_⟩
  by_cases hA : Acyc G rt
  · have hl := e1.2 hA
    rcases h2 with ⟨rfl, σ, s1, s2⟩ | ⟨h, _⟩ | ⟨rfl, _, rfl⟩
    · cases s2
      obtain ⟨q1, q2⟩ := e2 hl
      refine .inr (.inr ⟨decide_eq_true hl, rfl, σ, G, rt, E, c, p, cap, sl, ls, rfl, s1, hp, ⟨hM, h1.gi, h1.hE, h1.n, h1.e, h1.c, h1.vars, hb⟩, hN, hP, ⟨?_, fun i hi => mem_roots.1 (hO.sub i hi)⟩, q1, q2⟩)
      have := nodup_len (R := List.range G.N) hO.nodup fun i hi => List.mem_range.2 (mem_roots.1 (hO.sub i hi)).1
      simpa using this
    · exact (h hA).elim
    · exact .inr (.inl ⟨decide_eq_true hl, rfl, rfl⟩)
  · have hl : ¬ ls.length = (rootsU rt G.N).length := fun h => hA (e1.1 h)
    rcases h2 with ⟨_, σ, s1, _⟩ | ⟨_, rfl⟩ | ⟨_, h, _⟩
    · exact (hA (s1.acyc h1.gi)).elim
    · exact .inl ⟨decide_eq_false hl, rfl⟩
    · exact (hA h).elim
end Go.Proofs.YtdcfemojkdoakaaDoor
/- The program's All, by a contract of found. -/
namespace Go.Proofs.YtdcfemojkdoakaaDoor
open Go.RowKit Go.Maps Go.Sort Go.Lib
attribute [local go_sem] Oper.semAt_some

/-- What found tells. -/
def FoundR (w wr : World) (σ : Sg) (e : Ending) (w' : World) : Prop := (∃ sv d, e = .returned (.agg #[sv]) ∧ SubAt sv d w' ∧ IsSg d σ) ∧ Below w.heap.size wr w'
theorem SubAt.other {v x : Value} {d : List PR} {w : World} {b : Nat} {cs : Array Value} {fz : Nat × Nat} (h : SubAt v d w) (hb : w.heap[b]? = some (.cells cs 33 fz)) : SubAt v d (w.setCell ⟨b, 0, none⟩ x) := by
  have ho : ∀ k, k ≠ b → (w.setCell ⟨b, 0, none⟩ x).heap[k]? = w.heap[k]? := fun k hk => Below.heap_setCell _ ⟨b, 0, none⟩ _ k hk
  refine ⟨⟨?_, h.1.2⟩, h.2.keep fun k cs' fz' hk => (ho k (by rintro rfl; rw [hb] at hk; cases hk)).trans hk⟩
  rcases h.1.1 with e | ⟨g, cap, e, hc, hr⟩
  · exact .inl e
  · refine .inr ⟨g, cap, e, hc, hr.same (ho g ?_)⟩
    rintro rfl
    obtain ⟨cs', h1, _⟩ := hr
    rw [hb] at h1; cases h1
/-- The contract of found. -/
def FoundOK : Prop := ∀ (V : List ByteArray) (S : Nat) (w wr : World) (g mb : Nat) (σ : Sg) (G : Gr) (rt : Nat → Nat) (E c p cap : Nat) (sl : Nat → Value) (ls : List Nat) (v : Value), SI G σ rt → w.heap.size ≤ p → AG V S w g mb G rt E c (.slice (some ⟨p, 0, none⟩) G.N cap) sl wr → 0 < G.N → PlcAt wr v ls → (ls.length ≤ G.N ∧ ∀ i ∈ ls, i < G.N ∧ rt i = i) → (∀ i, i < G.N → rt i = i → i ∈ ls) → (∀ q (hq : q < ls.length), ∀ x ∈ G.ag ls[q], ∃ p, ∃ hp : p < ls.length, q < p ∧ ls[p] = rt x) → V.length < 20 → (∀ x ∈ V, tsize (σ x) ≤ 900000000) → S ≤ 1000000 →
    Calls Tryd.prog 50 #[gp g, v] wr fun e w' => FoundR w wr σ e w'
/-- What All tells. -/
def AllR (aT aO : Addr) (r : UR) (e : Ending) (w' : World) : Prop :=
  match r with
  | .ok τ => ∃ sv d, e = .returned (.tuple #[.agg #[sv], .nilIface]) ∧ SubAt sv d w' ∧ IsSg d τ
  | .bad b => ∃ a c, e = .returned (.tuple #[.agg #[.slice a 0 c], errP (if b then aO else aT)])
def g0 : Gr := ⟨0, fun _ => .var ⟨#[]⟩, fun _ => []⟩
theorem start_ai (V : List ByteArray) (w : World) (l : List (T × T)) (r : UR) (h : UniAll T.var l r) : AIU V 0 w (w.heap.size + 1) w.heap.size l r false true ((w.alloc (.map #[] 0)).alloc (.cells #[.slice none 0 0, .map (some w.heap.size), .int .i64 0, .int .i64 0] 95)) := by
  have hb := below_two w (.map #[] 0) (.cells #[.slice none 0 0, .map (some w.heap.size), .int .i64 0, .int .i64 0] 95)
  have hw : Way g0 id id id := ⟨(fun i hi => absurd hi (Nat.not_lt_zero _)), (fun i hi => absurd hi (Nat.not_lt_zero _)), (fun i hi => absurd hi (Nat.not_lt_zero _)), (fun i hi => absurd hi (Nat.not_lt_zero _))⟩
  have hok : g0.OK := ⟨(fun i hi => absurd hi (Nat.not_lt_zero _)), (fun i hi => absurd hi (Nat.not_lt_zero _)), (fun i j hi => absurd hi (Nat.not_lt_zero _)), (fun i hi => absurd hi (Nat.not_lt_zero _))⟩
  have hgi : GI g0 id := ⟨hok, (fun i hi => absurd hi (Nat.not_lt_zero _)), (fun i hi => absurd hi (Nat.not_lt_zero _)), (fun i j hi => absurd hi (Nat.not_lt_zero _)), (fun i hi => absurd hi (Nat.not_lt_zero _))⟩
  have hsi : SI g0 T.var id := ⟨idem_var, (fun i j hi => absurd hi (Nat.not_lt_zero _)), (fun i hi => absurd hi (Nat.not_lt_zero _)), fun _ _ => rfl⟩
  have htop : ((w.alloc (.map #[] 0)).alloc (.cells #[.slice none 0 0, .map (some w.heap.size), .int .i64 0, .int .i64 0] 95)).heap[w.heap.size + 1]? = some (.cells #[.slice none 0 0, .map (some w.heap.size), .int .i64 0, .int .i64 0] 95 (0, 0)) := by
    have := alloc_new (w.alloc (.map #[] 0)) (.cells #[.slice none 0 0, .map (some w.heap.size), .int .i64 0, .int .i64 0] 95)
    simpa using this
  have hm : MapV w.heap.size 0 (fun _ => none) ((w.alloc (.map #[] 0)).alloc (.cells #[.slice none 0 0, .map (some w.heap.size), .int .i64 0, .int .i64 0] 95)) :=
    ⟨.map [], ⟨[], rfl⟩, (World.ownsMap_made (H := Unit) w Tryd.prog 9 (plainElem Tryd.prog 3)).alloc _, fun n _ => ⟨rfl, rfl⟩⟩
  have hpl : PlV g0 (fun _ => none) := fun n => ⟨fun i e => (by cases e), fun _ => (fun i hi => absurd hi (Nat.not_lt_zero _))⟩
  have hgm : GM w.heap.size g0 id 0 0 (w.heap.size + 1) w.heap.size (.slice none 0 0) (fun _ => .slice none 0 0) ((w.alloc (.map #[] 0)).alloc (.cells #[.slice none 0 0, .map (some w.heap.size), .int .i64 0, .int .i64 0] 95)) :=
    ⟨by omega, htop, ⟨id, id, hw, World.ownsRow_nil _ _ _ _, (fun i hi => absurd hi (Nat.not_lt_zero _))⟩, ⟨fun _ => none, Nat.le_refl _, hm, hpl⟩⟩
  exact ⟨g0, id, 0, 0, .slice none 0 0, fun _ => .slice none 0 0, ⟨hgm, hgi, (fun i hi => absurd hi (Nat.not_lt_zero _)), Nat.le_refl _, Nat.le_refl _, Nat.zero_le _, (fun i hi => absurd hi (Nat.not_lt_zero _)), hb⟩, .inl ⟨rfl, T.var, hsi, h⟩, fun h => (by cases h)⟩
theorem tsumP_take {l : List (Tl × Tl)} {i : Nat} (h : i < l.length) : tsumP (plainP (l.take (i + 1))) = tsumP (plainP (l.take i)) + tsize l[i].1.1 + tsize l[i].2.1 := by
  have happ : ∀ a b : List (T × T), tsumP (a ++ b) = tsumP a + tsumP b := by
    intro a b
    induction a with
    | nil => simp [tsumP]
    | cons x a ih => rw [List.cons_append, tsumP, tsumP, ih]; omega
  rw [List.take_succ_eq_append_getElem h]
  unfold plainP
  rw [List.map_append, happ]
  simp [tsumP]; omega
theorem tsumP_le (l : List (Tl × Tl)) (i : Nat) : tsumP (plainP (l.take i)) ≤ tsumP (plainP l) := by
  have happ : ∀ a b : List (T × T), tsumP (a ++ b) = tsumP a + tsumP b := by
    intro a b
    induction a with
    | nil => simp [tsumP]
    | cons x a ih => rw [List.cons_append, tsumP, tsumP, ih]; omega
  conv => rhs; rw [← List.take_append_drop i l]
  unfold plainP
  rw [List.map_append, happ]; omega
theorem AIU.low {V : List ByteArray} {S : Nat} {w wr : World} {g mb : Nat} {l : List (T × T)} {r : UR} {pos fl : Bool} (h : AIU V S w g mb l r pos fl wr) : Below w.heap.size w wr := by
  obtain ⟨_, _, _, _, _, _, h, _⟩ := h; exact h.low
theorem AIU.keep {V : List ByteArray} {S : Nat} {w wr w' : World} {g mb : Nat} {l : List (T × T)} {r : UR} {pos fl : Bool} (h : AIU V S w g mb l r pos fl wr) (k : Below wr.heap.size wr w') : AIU V S w g mb l r pos fl w' := by
  obtain ⟨G, rt, E, c, pv, sl, h, h2⟩ := h
  exact ⟨G, rt, E, c, pv, sl, ⟨h.gm.keep k, h.gi, h.hE, h.n, h.e, h.c, h.vars, h.low.trans (k.mono h.low.size)⟩, h2⟩
theorem P1.low {V : List ByteArray} {S : Nat} {w wr : World} {g mb i : Nat} {a : T} {l : List (T × T)} {r : UR} (h : P1 V S w g mb a l r i wr) : Below w.heap.size w wr := by
  obtain ⟨_, _, _, _, _, _, h, _⟩ := h; exact h.low
theorem AIU.end0 {V : List ByteArray} {S S' : Nat} {w wr : World} {g mb : Nat} {l : List (T × T)} {r : UR} {fl : Bool} (h : AIU V S w g mb l r true fl wr) (hl : l = [] ∨ fl = false) (hS : S ≤ S') : AIU V S' w g mb [] r true fl wr := by
  obtain ⟨G, rt, E, c, pv, sl, h1, h2, h3⟩ := h
  have h4 := h1.n; have h5 := h1.e
  refine ⟨G, rt, E, c, pv, sl, ⟨h1.gm, h1.gi, h1.hE, by omega, by omega, h1.c, h1.vars, h1.low⟩, ?_, h3⟩
  rcases hl with rfl | rfl
  · exact h2
  · rcases h2 with ⟨h, _⟩ | h | h
    · cases h
    · exact .inr (.inl h)
    · exact .inr (.inr h)
set_option maxRecDepth 100000 in
set_option maxHeartbeats 8000000 in
theorem all_any (HF : FoundOK) (V : List ByteArray) (hV : V.length < 20) (l : List (Tl × Tl)) (hl0 : l ≠ []) (hl : l.length ≤ 1000) (r : UR) (v : Value) (w : World) (aT aO : Addr) (h : UniAll T.var (plainP l) r) (hs : tsumP (plainP l) ≤ 900000) (hO : ∀ x ∈ l, (Plain3 x.1.1 ∧ ∀ y ∈ vs x.1.1, y.size ≤ 1000 ∧ y ∈ V) ∧ (Plain3 x.2.1 ∧ ∀ y ∈ vs x.2.1, y.size ≤ 1000 ∧ y ∈ V)) (hz : ∀ σ, r = .ok σ → ∀ x ∈ V, tsize (σ x) ≤ 900000000) (hE : TwoE aT aO w) (hv : P2At v l w) :
    Calls Tryd.prog 16 #[v] w fun e w' => AllR aT aO r e w' ∧ Below w.heap.size w w' := by
  have HP := Lib.hid hv
  obtain ⟨va, vc, rfl, hcap, _⟩ := hv
  have hb1 := (Below.refl _ w).alloc (Nat.le_refl _) (.cells #[.slice none 0 0] 33)
  have hx1 := alloc_new w (.cells #[.slice none 0 0] 33)
  have hs1 : (w.alloc (.cells #[.slice none 0 0] 33)).heap.size = w.heap.size + 1 := by simp
  have hS := start_ai V (w.alloc (.cells #[.slice none 0 0] 33)) (plainP l) r h
  obtain ⟨w1, hw1⟩ : ∃ w1, w.alloc (.cells #[.slice none 0 0] 33) = w1 := ⟨_, rfl⟩
  rw [hw1] at hb1 hx1 hs1 hS
  have HS := Lib.hid hS; have HB1 := Lib.hid hb1; have HX1 := Lib.hid hx1; have HS1 := Lib.hid hs1
  have hmm : ∀ W : World, (Instr.makeMap 92 none).run Tryd.prog W = .ok (.map (some W.heap.size)) (W.alloc (.map #[] 0)) := fun _ => rfl
  clear hb1 hx1 hs1 hS
  have HOO := Lib.hid hO
  have HEE := Lib.hid hE
  have HZ := Lib.hid hz
  have HFO := Lib.hid HF
  clear h hO hE hz HF
  go_enter Tryd.func16, Tryd.ntmps16
  go_wp2
  go_loopw [5, 6] (fun vf vi wr => ∃ (i : Nat) (fl : Bool), i ≤ l.length ∧ vi = .int .i64 (i : Nat) ∧ vf = .bool fl ∧ (fl = false → 0 < i) ∧ Hid (AIU V (tsumP (plainP (l.take i))) w1 (w1.heap.size + 1) w1.heap.size (plainP (l.drop i)) r (decide (0 < i)) fl wr)) (fun _ vi _ => l.length - (intOf vi).toNat)
  case atStart => exact ⟨0, true, Nat.zero_le _, rfl, rfl, (fun h => by cases h), Lib.hid (by simpa [plainP, tsumP] using HS.out)⟩
  case round =>
    obtain ⟨i, fl, hi, rfl, rfl, hfi, hX⟩ := hrel
    by_cases hlt : i < l.length
    · have hiz : (i : Int) < (l.length : Int) := by omega
      cases fl with
      | true =>
        have hA := hX.out
        have hB := HB1.out.trans (hA.low.mono (by rw [HS1.out]; omega))
        obtain ⟨_, _, e9, _, hrow⟩ := HP.out
        cases e9
        obtain ⟨gk, rfl, lg, ⟨⟨x0, x1, x2⟩, y0, y1, y2⟩, xk, yk⟩ := hrow i hlt
        have f1 := fun o => hB.cell (p := ⟨gk, o, none⟩) lg
        have HY := Lib.hid (fun (W : World) (hb : Below w1.heap.size w1 W) => (by
          have hB9 := HB1.out.trans (hb.mono (by rw [HS1.out]; omega))
          have f9 := fun o => hB9.cell (p := ⟨gk, o, none⟩) lg
          exact ⟨(f9 _).trans y0, (f9 _).trans y1, (f9 _).trans y2, Nat.lt_of_lt_of_le lg hB9.size⟩ : W.cell? ⟨gk, i * 6 + 3, none⟩ = some (.int .i64 l[i].2.1.kind) ∧ W.cell? ⟨gk, i * 6 + 3 + 1, none⟩ = some (.string l[i].2.1.name) ∧ W.cell? ⟨gk, i * 6 + 3 + 2, none⟩ = some (.slice l[i].2.2.1 l[i].2.1.kids.length l[i].2.2.2) ∧ gk < W.heap.size))
        rw [← f1] at x0 x1 x2 y0 y1 y2
        have hlg : gk < wr.heap.size := Nat.lt_of_lt_of_le lg hB.size
        obtain ⟨⟨pa, na⟩, pb, nb⟩ := HOO.out _ (List.getElem_mem hlt)
        have hts := tsumP_take hlt
        have hts2 := tsumP_le l (i + 1)
        have hd : plainP (l.drop i) = (l[i].1.1, l[i].2.1) :: plainP (l.drop (i + 1)) := by rw [List.drop_eq_getElem_cons hlt]; rfl
        rw [hd] at hA
        have HA1 := Lib.hid (put_one (hA.keep (Below.refl _ wr).drew) (Nat.le_refl _) (by omega) pa (fun y hy => (na y hy).1) (fun y hy => (na y hy).2) (xk.keep (KeepT.of_below hB.drew)))
        have HA2 := Lib.hid (fun (k : Nat) (W : World) (h1 : P1 V (tsumP (plainP (l.take i)) + tsize l[i].1.1) w1 (w1.heap.size + 1) w1.heap.size l[i].1.1 ((l[i].1.1, l[i].2.1) :: plainP (l.drop (i + 1))) r k W) => put_two h1 (S' := tsumP (plainP (l.take (i + 1)))) (by omega) (by omega) pb (fun y hy => (nb y hy).1) (fun y hy => (nb y hy).2) (yk.keep (KeepT.of_below (HB1.out.trans (h1.low.mono (by rw [HS1.out]; omega))))))
        have HA3 := Lib.hid (fun (k j : Nat) (W : World) (h2 : P2 V (tsumP (plainP (l.take (i + 1)))) w1 (w1.heap.size + 1) w1.heap.size l[i].1.1 l[i].2.1 ((l[i].1.1, l[i].2.1) :: plainP (l.drop (i + 1))) r k j W) => join_two h2 (by omega))
        clear hA hB hrow xk yk f1 pa na pb nb hts hts2 hd hX hfi
        generalize l[i] = u at *
        obtain ⟨⟨ta, aa, ca⟩, tb, ab, cb⟩ := u
        simp only [tyV] at x0 x1 x2 y0 y1 y2 HA1 HA2 HA3
        go_wp2
        go_region_with (first
          | (go_at_call 47; refine (HA3.out _ _ _ HQ2.out).mono ?_; rintro e w7 ⟨fl7, rfl, hq7⟩; have HQ7 := Lib.hid hq7; clear hq7)
          | (go_at_call 48; refine (HA2.out _ _ HQ1.out).mono ?_; rintro e w6 ⟨j6, rfl, hq6⟩; have HQ2 := Lib.hid hq6; clear hq6)
          | (go_at_call 48; refine HA1.out.mono ?_; rintro e w5 ⟨j5, rfl, hq5⟩; have HQ1 := Lib.hid hq5; obtain ⟨s0, s1, s2, s3⟩ := HY.out _ hq5.low; clear hq5))
        all_goals
          go_wp2
          go_roundw
          case rel => exact ⟨i + 1, _, by omega, by go_num, rfl, (fun _ => Nat.succ_pos i), Lib.hid (by simpa using HQ7.out)⟩
          case measure => simp [intOf]; omega
      | false =>
        have hA0 := (show AIU V _ w1 _ _ _ r true false wr by have := hX.out; rwa [decide_eq_true (hfi rfl)] at this).end0 (.inr rfl) (tsumP_le l i)
        clear hfi
        have HO := Lib.hid (order_ai hA0 (by omega))
        clear hA0 hX
        go_wp2_with (go_at_call 49; refine HO.out.mono ?_)
        rintro e w8 ⟨v8, ends, rfl, hb8, hcase⟩
        have hB8 := HB1.out.trans (hb8.mono (by rw [HS1.out]; omega))
        have hx8 := (hb8.block w.heap.size (by rw [HS1.out]; omega)).trans HX1.out
        have hE8 := HEE.out.below hB8
        have e1 := hE8.1
        have e2 := hE8.2
        have z0 : w8.cell? ⟨w.heap.size, 0, none⟩ = some (.slice none 0 0) := by rw [Lib.cell_of_heap hx8]; rfl
        have zf := Lib.frozen_of_heap hx8 0
        have hwl : w.heap.size < w8.heap.size := (Array.getElem?_eq_some_iff.1 hx8).1
        have HB8 := Lib.hid hB8
        have HX8 := Lib.hid hx8
        have hE9 := HEE.out.below (hB8.setCell (p := ⟨w.heap.size, 0, none⟩) (Nat.le_refl _) (.slice none 0 0))
        have e3 := hE9.1
        have e4 := hE9.2
        clear hB8 hx8 hE8 HO hE9
        rcases hcase with ⟨rfl, hr⟩ | ⟨rfl, hfl, hr⟩ | ⟨rfl, hfl, hrest⟩
        · have HR := Lib.hid hr
          clear hr
          go_wp2
          go_region
          go_wp2
          have hs : (w8.setCell ⟨w.heap.size, 0, none⟩ (.slice none 0 0)).heap[w.heap.size]? = some (.cells #[.slice none 0 0] 33 (0, 0)) := blk_set (W := w8) (o := 0) HX8.out (.slice none 0 0)
          have hc0 : (w8.setCell ⟨w.heap.size, 0, none⟩ (.slice none 0 0)).cell? ⟨w.heap.size, 0, none⟩ = some (.slice none 0 0) := by rw [Lib.cell_of_heap hs]; rfl
          refine bodyPost_ret (v := .tuple #[.agg #[.slice none 0 0], errP aO]) (by simp [results, Tryd.results16, go_sem, hc0]) rfl ⟨?_, (HB8.out.setCell (p := ⟨w.heap.size, 0, none⟩) (Nat.le_refl _) _).drew⟩
          rw [HR.out]
          exact ⟨none, 0, rfl⟩
        · have HR := Lib.hid hr
          clear hr hfl
          go_wp2
          go_region
          go_wp2
          have hs : (w8.setCell ⟨w.heap.size, 0, none⟩ (.slice none 0 0)).heap[w.heap.size]? = some (.cells #[.slice none 0 0] 33 (0, 0)) := blk_set (W := w8) (o := 0) HX8.out (.slice none 0 0)
          have hc0 : (w8.setCell ⟨w.heap.size, 0, none⟩ (.slice none 0 0)).cell? ⟨w.heap.size, 0, none⟩ = some (.slice none 0 0) := by rw [Lib.cell_of_heap hs]; rfl
          refine bodyPost_ret (v := .tuple #[.agg #[.slice none 0 0], errP aT]) (by simp [results, Tryd.results16, go_sem, hc0]) rfl ⟨?_, (HB8.out.setCell (p := ⟨w.heap.size, 0, none⟩) (Nat.le_refl _) _).drew⟩
          rw [HR.out]
          exact ⟨none, 0, rfl⟩
        · cases hfl
    · have hiz : ¬ ((i : Int) < (l.length : Int)) := by omega
      have hpos : 0 < i := by
        have := List.length_pos_iff.2 hl0
        omega
      have hdr : plainP (l.drop i) = [] := by rw [List.drop_eq_nil_of_le (by omega)]; rfl
      have hA1 := hX.out
      rw [decide_eq_true hpos] at hA1
      cases fl with
      | false =>
        have hA0 := hA1.end0 (.inr rfl) (tsumP_le l i)
        clear hfi hA1 hdr
        have HO := Lib.hid (order_ai hA0 (by omega))
        clear hA0 hX
        go_wp2_with (go_at_call 49; refine HO.out.mono ?_)
        rintro e w8 ⟨v8, ends, rfl, hb8, hcase⟩
        have hB8 := HB1.out.trans (hb8.mono (by rw [HS1.out]; omega))
        have hx8 := (hb8.block w.heap.size (by rw [HS1.out]; omega)).trans HX1.out
        have hE8 := HEE.out.below hB8
        have e1 := hE8.1
        have e2 := hE8.2
        have z0 : w8.cell? ⟨w.heap.size, 0, none⟩ = some (.slice none 0 0) := by rw [Lib.cell_of_heap hx8]; rfl
        have zf := Lib.frozen_of_heap hx8 0
        have hwl : w.heap.size < w8.heap.size := (Array.getElem?_eq_some_iff.1 hx8).1
        have HB8 := Lib.hid hB8
        have HX8 := Lib.hid hx8
        have hE9 := HEE.out.below (hB8.setCell (p := ⟨w.heap.size, 0, none⟩) (Nat.le_refl _) (.slice none 0 0))
        have e3 := hE9.1
        have e4 := hE9.2
        clear hB8 hx8 hE8 HO hE9
        rcases hcase with ⟨rfl, hr⟩ | ⟨rfl, hfl, hr⟩ | ⟨rfl, hfl, hrest⟩
        · have HR := Lib.hid hr
          clear hr
          go_wp2
          go_region
          go_wp2
          have hs : (w8.setCell ⟨w.heap.size, 0, none⟩ (.slice none 0 0)).heap[w.heap.size]? = some (.cells #[.slice none 0 0] 33 (0, 0)) := blk_set (W := w8) (o := 0) HX8.out (.slice none 0 0)
          have hc0 : (w8.setCell ⟨w.heap.size, 0, none⟩ (.slice none 0 0)).cell? ⟨w.heap.size, 0, none⟩ = some (.slice none 0 0) := by rw [Lib.cell_of_heap hs]; rfl
          refine bodyPost_ret (v := .tuple #[.agg #[.slice none 0 0], errP aO]) (by simp [results, Tryd.results16, go_sem, hc0]) rfl ⟨?_, (HB8.out.setCell (p := ⟨w.heap.size, 0, none⟩) (Nat.le_refl _) _).drew⟩
          rw [HR.out]
          exact ⟨none, 0, rfl⟩
        · have HR := Lib.hid hr
          clear hr hfl
          go_wp2
          go_region
          go_wp2
          have hs : (w8.setCell ⟨w.heap.size, 0, none⟩ (.slice none 0 0)).heap[w.heap.size]? = some (.cells #[.slice none 0 0] 33 (0, 0)) := blk_set (W := w8) (o := 0) HX8.out (.slice none 0 0)
          have hc0 : (w8.setCell ⟨w.heap.size, 0, none⟩ (.slice none 0 0)).cell? ⟨w.heap.size, 0, none⟩ = some (.slice none 0 0) := by rw [Lib.cell_of_heap hs]; rfl
          refine bodyPost_ret (v := .tuple #[.agg #[.slice none 0 0], errP aT]) (by simp [results, Tryd.results16, go_sem, hc0]) rfl ⟨?_, (HB8.out.setCell (p := ⟨w.heap.size, 0, none⟩) (Nat.le_refl _) _).drew⟩
          rw [HR.out]
          exact ⟨none, 0, rfl⟩
        · cases hfl
      | true =>
        have hA0 := hA1.end0 (.inl hdr) (tsumP_le l i)
        clear hfi hA1 hdr
        have HO := Lib.hid (order_ai hA0 (by omega))
        clear hA0 hX
        go_wp2_with (go_at_call 49; refine HO.out.mono ?_)
        rintro e w8 ⟨v8, ends, rfl, hb8, hcase⟩
        have hB8 := HB1.out.trans (hb8.mono (by rw [HS1.out]; omega))
        have hx8 := (hb8.block w.heap.size (by rw [HS1.out]; omega)).trans HX1.out
        have hE8 := HEE.out.below hB8
        have e1 := hE8.1
        have e2 := hE8.2
        have z0 : w8.cell? ⟨w.heap.size, 0, none⟩ = some (.slice none 0 0) := by rw [Lib.cell_of_heap hx8]; rfl
        have zf := Lib.frozen_of_heap hx8 0
        have hwl : w.heap.size < w8.heap.size := (Array.getElem?_eq_some_iff.1 hx8).1
        have HB8 := Lib.hid hB8
        have HX8 := Lib.hid hx8
        have hE9 := HEE.out.below (hB8.setCell (p := ⟨w.heap.size, 0, none⟩) (Nat.le_refl _) (.slice none 0 0))
        have e3 := hE9.1
        have e4 := hE9.2
        clear hB8 hx8 hE8 HO hE9
        rcases hcase with ⟨rfl, hr⟩ | ⟨rfl, hfl, hr⟩ | ⟨rfl, hfl, hrest⟩
        · have HR := Lib.hid hr
          clear hr
          go_wp2
          go_region
          go_wp2
          have hs : (w8.setCell ⟨w.heap.size, 0, none⟩ (.slice none 0 0)).heap[w.heap.size]? = some (.cells #[.slice none 0 0] 33 (0, 0)) := blk_set (W := w8) (o := 0) HX8.out (.slice none 0 0)
          have hc0 : (w8.setCell ⟨w.heap.size, 0, none⟩ (.slice none 0 0)).cell? ⟨w.heap.size, 0, none⟩ = some (.slice none 0 0) := by rw [Lib.cell_of_heap hs]; rfl
          refine bodyPost_ret (v := .tuple #[.agg #[.slice none 0 0], errP aO]) (by simp [results, Tryd.results16, go_sem, hc0]) rfl ⟨?_, (HB8.out.setCell (p := ⟨w.heap.size, 0, none⟩) (Nat.le_refl _) _).drew⟩
          rw [HR.out]
          exact ⟨none, 0, rfl⟩
        · cases hfl
        · obtain ⟨σ, G, rt, E, c, p, cap, sl, ls, hr, h1, h2, h3, h4, h5, h6, h7, h8⟩ := hrest
          have HR := Lib.hid hr
          have HFd := Lib.hid (HFO.out V _ w1 w8 _ _ σ G rt E c p cap sl ls v8 h1 h2 h3 h4 h5 h6 h7 h8 hV (HZ.out σ hr) (by omega))
          clear hr h1 h2 h3 h4 h5 h6 h7 h8 e1 e2 e3 e4
          go_wp2_with (go_at_call 50; refine HFd.out.mono ?_)
          rintro e w9 hfd
          obtain ⟨⟨sv, d, he9, k1, k2⟩, hb9⟩ := hfd
          subst he9
          obtain ⟨sa, sc, hsv⟩ := k1.shape
          obtain ⟨dn, hdn⟩ : ∃ n, d.length = n := ⟨_, rfl⟩
          rw [hdn] at hsv
          subst hsv
          clear hdn
          have hx9 := (hb9.block w.heap.size (by rw [HS1.out]; omega)).trans HX8.out
          have z9 : w9.cell? ⟨w.heap.size, 0, none⟩ = some (.slice none 0 0) := by rw [Lib.cell_of_heap hx9]; rfl
          have zf9 := Lib.frozen_of_heap hx9 0
          have hwl9 : w.heap.size < w9.heap.size := (Array.getElem?_eq_some_iff.1 hx9).1
          have HK := Lib.hid (⟨k1.other (x := .slice sa dn sc) hx9, k2⟩ : SubAt (.slice sa dn sc) d (w9.setCell ⟨w.heap.size, 0, none⟩ (.slice sa dn sc)) ∧ IsSg d σ)
          have HB9 := Lib.hid ((HB8.out.trans (hb9.mono (by rw [HS1.out]; omega))).setCell (p := ⟨w.heap.size, 0, none⟩) (Nat.le_refl _) (.slice sa dn sc))
          have hs : (w9.setCell ⟨w.heap.size, 0, none⟩ (.slice sa dn sc)).heap[w.heap.size]? = some (.cells #[.slice sa dn sc] 33 (0, 0)) := blk_set (W := w9) (o := 0) hx9 (.slice sa dn sc)
          have hc0 : (w9.setCell ⟨w.heap.size, 0, none⟩ (.slice sa dn sc)).cell? ⟨w.heap.size, 0, none⟩ = some (.slice sa dn sc) := by rw [Lib.cell_of_heap hs]; rfl
          clear k1 k2 hb9 hx9 hs HFd
          go_wp2
          refine bodyPost_ret (v := .tuple #[.agg #[.slice sa dn sc], .nilIface]) (by simp [results, Tryd.results16, go_sem, hc0]) rfl ⟨?_, HB9.out⟩
          rw [HR.out]
          exact ⟨_, d, rfl, HK.out.1, HK.out.2⟩
end Go.Proofs.YtdcfemojkdoakaaDoor
/- The program's Unify, by a contract of found. -/
namespace Go.Proofs.YtdcfemojkdoakaaDoor
open Go.RowKit Go.Maps Go.Sort Go.Lib
attribute [local go_sem] Oper.semAt_some

/-- What is found is about these variables alone. -/
theorem uni_out {V : List ByteArray} : ∀ (f : Nat) (σ : Sg) (a b : T) (τ : Sg), uni f σ a b = some (.ok τ) → Idem σ → VIn V σ → TIn V a → TIn V b → (∀ x, x ∉ V → σ x = .var x) → VIn V τ ∧ ∀ x, x ∉ V → τ x = .var x
  | 0, _, _, _, _, h, _, _, _, _, _ => by cases h
  | f + 1, σ, a, b, τ, h, hi, hv, ha, hb, ho => by
    rw [uni] at h
    have hs := stepU_is (uni f) σ a b hi
    rw [h] at hs
    have ta := hv.sub ha
    have tb := hv.sub hb
    have hbind : ∀ {x : ByteArray} {u : T} {ρ : Sg}, Binds σ x u ρ → x ∈ V → TIn V u → VIn V ρ ∧ ∀ y, y ∉ V → ρ y = .var y := fun {x u ρ} hB hx hu => by
      refine ⟨hB.vin hv hu, fun y hy => ?_⟩
      rw [hB.new]
      show sub (one x u) (σ y) = _
      rw [ho y hy]
      exact one_ne _ fun e => hy (e ▸ hx)
    generalize hr : some (UR.ok τ) = q at hs
    cases hs with
    | same x e1 e2 =>
      simp only [Option.some.injEq, UR.ok.injEq] at hr
      subst hr; exact ⟨hv, ho⟩
    | left x ρ e1 hB =>
      simp only [Option.some.injEq, UR.ok.injEq] at hr
      subst hr
      exact hbind hB (ta x (by rw [e1]; simp [vs])) tb
    | leftIn => cases hr
    | right x ρ _ e2 hB =>
      simp only [Option.some.injEq, UR.ok.injEq] at hr
      subst hr
      exact hbind hB (tb x (by rw [e2]; simp [vs])) ta
    | rightIn => cases hr
    | parts h1 h2 h3 h4 h5 =>
      have key : ∀ (l m : List T) (σ : Sg) (τ : Sg), uniL (uni f) σ l m = some (.ok τ) → Idem σ → VIn V σ → (∀ k ∈ l, TIn V k) → (∀ k ∈ m, TIn V k) → (∀ x, x ∉ V → σ x = .var x) → VIn V τ ∧ ∀ x, x ∉ V → τ x = .var x := by
        intro l
        induction l with
        | nil =>
          intro m σ τ h _ hv _ _ ho
          simp only [uniL, Option.some.injEq, UR.ok.injEq] at h
          subst h; exact ⟨hv, ho⟩
        | cons c l ih =>
          intro m σ τ h hi hv hl hm ho
          cases m with
          | nil =>
            simp only [uniL, Option.some.injEq, UR.ok.injEq] at h
            subst h; exact ⟨hv, ho⟩
          | cons d m =>
            rw [uniL] at h
            cases hu : uni f σ c d with
            | none => rw [hu] at h; cases h
            | some q =>
              rw [hu] at h
              cases q with
              | bad e => cases h
              | ok ρ =>
                obtain ⟨k1, k2⟩ := uni_out f σ c d ρ hu hi hv (hl c (by simp)) (hm d (by simp)) ho
                exact ih m ρ τ h (uni_sound f σ c d ρ hu hi).1 k1 (fun k hk => hl k (List.mem_cons_of_mem _ hk)) (fun k hk => hm k (List.mem_cons_of_mem _ hk)) k2
      exact key _ _ σ τ hr.symm hi hv (fun k hk => ta.kid h1 hk) (fun k hk => tb.kid h2 hk) ho
    | bad => cases hr
theorem nodup_lenB {α : Type} [DecidableEq α] {l R : List α} (hn : l.Nodup) (hs : ∀ i ∈ l, i ∈ R) : l.length ≤ R.length := by
  induction l generalizing R with
  | nil => exact Nat.zero_le _
  | cons a l ih =>
    have hp := List.perm_cons_erase (hs a (by simp))
    have hn' := List.nodup_cons.1 hn
    have := ih (R := R.erase a) hn'.2 fun j hj => (List.mem_erase_of_ne (fun e => hn'.1 (by rw [← e]; exact hj))).2 (hs j (List.mem_cons_of_mem _ hj))
    rw [hp.length_eq, List.length_cons, List.length_cons]; omega
open Classical in
/-- Sorted pairs that say what was found: none twice, of these variables alone. -/
theorem pinv_of {S : USet} {τ : Sg} {d : List PR} (hd : Neat d) (hs : IsSg d τ) (hi : ∀ x, x ∉ S.V → τ x = .var x) : PInv S d τ := by
  have hx : ∀ x ∈ d, x.t = τ x.n ∧ x.n ∈ S.V ∧ ¬ τ x.n = .var x.n := fun x hx => by
    have e1 : x.t = τ x.n := by rw [← hs x.n, ty_some (lk_sorted hd.1 hx)]
    have e2 : ¬ τ x.n = .var x.n := fun e => by
      have := hd.2 x hx
      rw [ownP_iff.2 (e1.trans e)] at this; cases this
    refine ⟨e1, ?_, e2⟩
    by_cases h : x.n ∈ S.V
    · exact h
    · exact absurd (hi _ h) e2
  refine ⟨hs, fun x h => ⟨(hx x h).2.1, (hx x h).1⟩, ?_⟩
  have hn : (d.map PR.n).Nodup := by
    refine List.pairwise_map.2 (hd.1.imp ?_)
    intro a b hab e
    rw [cmp_of_name e] at hab; exact absurd hab (by omega)
  have h1 := nodup_lenB (l := d.map PR.n) (R := S.V.filter fun x => !decide (τ x = .var x)) hn fun n hm => by
    obtain ⟨x, h, rfl⟩ := List.mem_map.1 hm
    rw [List.mem_filter]
    exact ⟨(hx x h).2.1, by simp [(hx x h).2.2]⟩
  have h2 : ∀ V : List ByteArray, (V.filter fun x => decide (τ x = .var x)).length + (V.filter fun x => !decide (τ x = .var x)).length = V.length := by
    intro V
    induction V with
    | nil => rfl
    | cons a V ih =>
      rw [List.filter_cons, List.filter_cons]
      by_cases e : τ a = .var a <;> simp [e] <;> omega
  have h3 := h2 S.V
  rw [List.length_map] at h1
  unfold uns
  omega
set_option maxRecDepth 100000 in
set_option maxHeartbeats 4000000 in
theorem puni (HF : FoundOK) : PUni := by
  intro S hV a b r pa pb ca cb w aT aO hu oa ob oP hE hTa hTb
  obtain ⟨f, hf⟩ := hu
  have hr : ∀ σ, r = .ok σ → (∀ x ∈ S.V, tsize (σ x) ≤ 900000000) ∧ ∀ x, x ∉ S.V → σ x = .var x := fun σ e => by
    subst e
    exact ⟨fun x hx => (Uni.inv ⟨f, hf⟩ (uinv_var S) (.of oa) (.of ob) oP).1.var_le hx, (uni_out f T.var a b σ hf idem_var (vin_var _) (S.tin a oa) (S.tin b ob) fun _ _ => rfl).2⟩
  have hU : UniAll T.var (plainP [((a, pa, ca), (b, pb, cb))]) r := by
    cases r with
    | ok τ => exact .cons _ τ _ _ _ _ ⟨f, hf⟩ (.nil _)
    | bad e => exact .bad _ _ _ _ e ⟨f, hf⟩
  have hza := S.sz a oa; have hzb := S.sz b ob
  have HA := Lib.hid (fun (V : World) (v : Value) (hb : Below w.heap.size w V) (hv : P2At v [((a, pa, ca), (b, pb, cb))] V) => all_any HF S.V (by omega) [((a, pa, ca), (b, pb, cb))] (by simp) (by simp) r v V aT aO hU (by simp [plainP, tsumP]; omega) (fun x hx => by
    obtain rfl : x = ((a, pa, ca), (b, pb, cb)) := by simpa using hx
    exact ⟨⟨S.plain a oa, fun y hy => ⟨S.nm y (S.tin a oa y hy), S.tin a oa y hy⟩⟩, ⟨S.plain b ob, fun y hy => ⟨S.nm y (S.tin b ob y hy), S.tin b ob y hy⟩⟩⟩) (fun σ e => (hr σ e).1) (hE.below hb) hv)
  have hb4 : ∀ o1 o2 o3 o4 : Obj, Below w.heap.size w ((((w.alloc o1).alloc o2).alloc o3).alloc o4) := fun o1 o2 o3 o4 => ((((Below.refl w.heap.size w).alloc (Nat.le_refl _) o1).alloc (by simp) o2).alloc (by simp; omega) o3).alloc (by simp; omega) o4
  have hn4 : ∀ o1 o2 o3 o4 : Obj, ((((w.alloc o1).alloc o2).alloc o3).alloc o4).heap[w.heap.size + 1 + 1 + 1]? = some o4 := fun o1 o2 o3 o4 => by
    have := alloc_new (((w.alloc o1).alloc o2).alloc o3) o4
    simpa using this
  have hn3 : ∀ o1 o2 o3 o4 : Obj, ((((w.alloc o1).alloc o2).alloc o3).alloc o4).heap[w.heap.size + 1 + 1]? = some o3 := fun o1 o2 o3 o4 => by
    rw [Below.heap_alloc _ _ _ (by simp)]
    have := alloc_new ((w.alloc o1).alloc o2) o3
    simpa using this
  have HB4 := Lib.hid hb4; have HN4 := Lib.hid hn4; have HN3 := Lib.hid hn3
  have HP := Lib.hid (fun (V : World) (g : Nat) (hb : Below w.heap.size w V) (hg : V.heap[g]? = some (.cells #[.int .i64 a.kind, .string a.name, .slice pa a.kids.length ca, .int .i64 b.kind, .string b.name, .slice pb b.kids.length cb] 45 (0, 0))) => (show P2At (.slice (some ⟨g, 0, none⟩) 1 1) [((a, pa, ca), (b, pb, cb))] V from by
    refine ⟨_, 1, rfl, Nat.le_refl _, fun i hi => ?_⟩
    obtain rfl : i = 0 := by simp at hi; omega
    refine ⟨g, rfl, (Array.getElem?_eq_some_iff.1 hg).1, ⟨⟨?_, ?_, ?_⟩, ⟨?_, ?_, ?_⟩⟩, hTa.keep (.of_below hb), hTb.keep (.of_below hb)⟩ <;> (rw [Lib.cell_of_heap hg]; rfl)))
  clear hb4 hn4 hn3
  have HR := Lib.hid hr
  have HTa := Lib.hid hTa; have HTb := Lib.hid hTb
  clear hU hr hE hTa hTb hf oa ob oP hza hzb HF
  go_enter Tryd.func10, Tryd.ntmps10
  go_wp2_with (go_at_call 16; refine (HA.out _ _ (HB4.out _ _ _ _) (HP.out _ _ (HB4.out _ _ _ _) (HN4.out _ _ _ _))).mono ?_)
  rintro e w5 ⟨hr5, hb5⟩
  have hc := (hb5.block (w.heap.size + 1 + 1) (by simp <;> omega)).trans (HN3.out _ _ _ _)
  have HC := Lib.hid hc
  have c0 : w5.cell? ⟨w.heap.size + 1 + 1, 0, none⟩ = some (.slice none 0 0) := by rw [Lib.cell_of_heap hc]; rfl
  have u0 := Lib.frozen_of_heap hc 0
  have hcl := (Array.getElem?_eq_some_iff.1 hc).1
  have HB5 := Lib.hid ((HB4.out _ _ _ _).trans (hb5.mono (by simp <;> omega)))
  clear hb5 HA HP HB4 HN4 HN3
  cases r with
  | ok τ =>
    obtain ⟨sv, d, rfl, hsv, hd⟩ := hr5
    obtain ⟨x, n, y, rfl⟩ : ∃ x n y, sv = .slice x n y := by
      rcases hsv.1.1 with ⟨_, x, y, e, _⟩ | ⟨q, k, e, _⟩
      · exact ⟨x, 0, y, e⟩
      · exact ⟨_, _, k, e⟩
    have HSV := Lib.hid hsv; have HD := Lib.hid hd
    clear hsv hd hc
    go_wp2
    have hk : (w5.setCell ⟨w.heap.size + 1 + 1, 0, none⟩ (.slice x n y)).cell? ⟨w.heap.size + 1 + 1, 0, none⟩ = some (.slice x n y) := by rw [Lib.cell_of_heap (blk_set (o := 0) HC.out (.slice x n y))]; rfl
    refine bodyPost_ret (v := .tuple #[.agg #[.slice x n y], .nilIface]) (by simp [results, Tryd.results10, go_sem, hk]) rfl ⟨⟨.slice x n y, d, rfl, HSV.out.other HC.out, pinv_of HSV.out.1.2 HD.out (HR.out τ rfl).2⟩, HB5.out.setCell (p := ⟨w.heap.size + 1 + 1, 0, none⟩) (by show w.heap.size ≤ w.heap.size + 1 + 1; omega) _⟩
  | bad e =>
    obtain ⟨x, y, rfl⟩ := hr5
    clear hc
    cases e <;> go_wp2
    · have hk : (w5.setCell ⟨w.heap.size + 1 + 1, 0, none⟩ (.slice x 0 y)).cell? ⟨w.heap.size + 1 + 1, 0, none⟩ = some (.slice x 0 y) := by rw [Lib.cell_of_heap (blk_set (o := 0) HC.out (.slice x 0 y))]; rfl
      refine bodyPost_ret (v := .tuple #[.agg #[.slice x 0 y], errP (if false then aO else aT)]) (by simp [results, Tryd.results10, go_sem, hk]) rfl ⟨⟨x, y, rfl⟩, HB5.out.setCell (p := ⟨w.heap.size + 1 + 1, 0, none⟩) (by show w.heap.size ≤ w.heap.size + 1 + 1; omega) _⟩
    · have hk : (w5.setCell ⟨w.heap.size + 1 + 1, 0, none⟩ (.slice x 0 y)).cell? ⟨w.heap.size + 1 + 1, 0, none⟩ = some (.slice x 0 y) := by rw [Lib.cell_of_heap (blk_set (o := 0) HC.out (.slice x 0 y))]; rfl
      refine bodyPost_ret (v := .tuple #[.agg #[.slice x 0 y], errP (if true then aO else aT)]) (by simp [results, Tryd.results10, go_sem, hk]) rfl ⟨⟨x, y, rfl⟩, HB5.out.setCell (p := ⟨w.heap.size + 1 + 1, 0, none⟩) (by show w.heap.size ≤ w.heap.size + 1 + 1; omega) _⟩
end Go.Proofs.YtdcfemojkdoakaaDoor
/- found: the list of pairs that it makes, as plain data. -/
namespace Go.Proofs.YtdcfemojkdoakaaDoor

/-- What the list of pairs says behind k parts. -/
structure PL (G : Gr) (σ : Sg) (k : Nat) (d : List PR) : Prop where
  mem : ∀ x ∈ d, x.t = σ x.n ∧ ∃ i, i < k ∧ G.tr i = .var x.n
  all : ∀ i, i < k → ∀ n, G.tr i = .var n → ∃ x ∈ d, x.n = n
  one : (d.map PR.n).Nodup
theorem PL.start (G : Gr) (σ : Sg) : PL G σ 0 [] := ⟨(fun _ hx => nomatch hx), fun _ hi => absurd hi (Nat.not_lt_zero _), List.nodup_nil⟩
theorem PL.skip {G : Gr} {σ : Sg} {k : Nat} {d : List PR} (h : PL G σ k d) (hv : (G.tr k).isV = false) : PL G σ (k + 1) d := by
  refine ⟨fun x hx => ?_, fun i hi n e => ?_, h.one⟩
  · obtain ⟨h1, i, h2, h3⟩ := h.mem x hx
    exact ⟨h1, i, by omega, h3⟩
  · by_cases hk : i = k
    · subst hk; rw [e] at hv; simp [T.isV] at hv
    · exact h.all i (by omega) n e
theorem PL.next {G : Gr} {σ : Sg} {k : Nat} {d : List PR} (h : PL G σ k d) (ok : G.OK) (hk : k < G.N) {x : PR} (hx : G.tr k = .var x.n) (ht : x.t = σ x.n) : PL G σ (k + 1) (d ++ [x]) := by
  refine ⟨fun y hy => ?_, fun i hi n e => ?_, ?_⟩
  · rcases List.mem_append.1 hy with hy | hy
    · obtain ⟨h1, i, h2, h3⟩ := h.mem y hy
      exact ⟨h1, i, by omega, h3⟩
    · obtain rfl := List.mem_singleton.1 hy
      exact ⟨ht, k, by omega, hx⟩
  · by_cases hik : i = k
    · subst hik
      refine ⟨x, by simp, ?_⟩
      rw [hx] at e; injection e
    · obtain ⟨y, hy, e2⟩ := h.all i (by omega) n e
      exact ⟨y, by simp [hy], e2⟩
  · rw [List.map_append, List.nodup_append]
    refine ⟨h.one, by simp, fun a ha b hb e => ?_⟩
    obtain ⟨y, hy, rfl⟩ := List.mem_map.1 ha
    obtain rfl : b = x.n := by simpa using hb
    obtain ⟨_, i, h2, h3⟩ := h.mem y hy
    have := ok.vars i k (by omega) hk (by rw [h3]; rfl) (by rw [h3, hx, e])
    omega
theorem PL.isSg {G : Gr} {σ : Sg} {d : List PR} (h : PL G σ G.N d) (hout : ∀ x, (∀ i, i < G.N → G.tr i ≠ .var x) → σ x = .var x) : IsSg d σ := by
  intro n
  unfold ty
  cases e : lk n d with
  | some x =>
    obtain ⟨hx, rfl⟩ := lk_name e
    exact (h.mem x hx).1
  | none =>
    refine (hout n fun i hi ht => ?_).symm
    obtain ⟨x, hx, hn⟩ := h.all i hi n ht
    unfold lk at e
    have := List.find?_eq_none.1 e x hx
    simp [hn] at this
theorem PL.small {G : Gr} {σ : Sg} {d : List PR} {V : List ByteArray} {k : Nat} (h : PL G σ k d) (hk : k ≤ G.N) (hV : VarIn V G) : d.length ≤ V.length := by
  have := nodup_lenB (l := d.map PR.n) (R := V) h.one (fun n hn => by
    obtain ⟨x, hx, rfl⟩ := List.mem_map.1 hn
    obtain ⟨_, i, h2, h3⟩ := h.mem x hx
    exact hV i (by omega) x.n (by rw [h3]; simp [vs]))
  simpa using this
theorem PL.inV {G : Gr} {σ : Sg} {d : List PR} {V : List ByteArray} {k : Nat} (h : PL G σ k d) (hk : k ≤ G.N) (hV : VarIn V G) : ∀ x ∈ d, x.n ∈ V := fun x hx => by
  obtain ⟨_, i, h2, h3⟩ := h.mem x hx
  exact hV i (by omega) x.n (by rw [h3]; simp [vs])
end Go.Proofs.YtdcfemojkdoakaaDoor
/- A region that draws its order and ends with an append and the assignment of what it gives: all but these two by an invariant. -/
namespace Go.Proofs.YtdcfemojkdoakaaDoor

section
variable {P : Program} {ops : Array Oper} {Q : Exit → Act → World → Prop} {fr : (Nat → Value) → Act} {S : World → Prop} {Rel : World → World → Prop} {Vals : Nat → Value → World → Prop} {s : Nat}

/-- What is asked of the last operation, behind the last but one. -/
def LastOf (P : Program) (ops : Array Oper) (Q : Exit → Act → World → Prop) (o : Oper) (a : Act) (w : World) : Prop :=
  ∀ K : Act → World → Prop, (∀ v w', Q .normal (a.put o.dst v) w' → K (a.put o.dst v) w') → if Region.wanted o (yielded ops a.tmps) = true then Oper.wp P o a w K Q else K (a.put o.dst undef) w

theorem count_low {l : Array Bool} (hz : l.size = s + 2) (h0 : l.getD s false = false) (h1 : l.getD (s + 1) false = false) : l.toList.count true ≤ s := by
  have hl : l.toList.length = s + 2 := by simpa using hz
  have : l.toList.count true = (l.toList.take s).count true + (l.toList.drop s).count true := by rw [← List.count_append, List.take_append_drop]
  have hd : (l.toList.drop s).count true = 0 := by
    rw [List.count_eq_zero]
    intro hm
    obtain ⟨k, hk, e⟩ := List.getElem_of_mem hm
    rw [List.length_drop, hl] at hk
    rw [List.getElem_drop] at e
    have : k = 0 ∨ k = 1 := by omega
    rcases this with rfl | rfl
    · simp [show s < l.size by omega] at h0; simp at e; rw [h0] at e; cases e
    · simp [show s + 1 < l.size by omega] at h1; simp at e; rw [h1] at e; cases e
  have ht : (l.toList.take s).count true ≤ s := Nat.le_trans List.count_le_length (by rw [List.length_take]; omega)
  omega

theorem tail_any {o1 o2 : Oper} (ho1 : ops[s]? = some o1) (ho2 : ops[s + 1]? = some o2) (hsz : ops.size = s + 2) (hput : ∀ i o, i < s → ops[i]? = some o → StepAt P fr S Rel Vals ops Q i o)
    (hb1 : ∀ e ∈ o1.after, Region.binds .any e = true → e.on < s) (hb2 : ∀ e ∈ o2.after, Region.binds .any e = true → e.on < s + 1) (hd2 : ∃ e ∈ o2.after, Region.binds .any e = true ∧ e.on = s)
    (hcov : ∀ i, i < s → ∃ j o e, i < j ∧ j ≤ s ∧ ops[j]? = some o ∧ e ∈ o.after ∧ Region.binds .any e = true ∧ e.on = i)
    (hrel : ∀ w w', S w → Rel w w' → S w') (hval : ∀ i v w w', S w → Vals i v w → Rel w w' → Vals i v w')
    (hlast : ∀ x w, S w → (∀ i, i < s → Vals i (x i) w) → ∀ K : Act → World → Prop, (∀ v w', LastOf P ops Q o2 ((fr x).put o1.dst v) w' → K ((fr x).put o1.dst v) w') →
      if Region.wanted o1 (yielded ops (fr x).tmps) = true then Oper.wp P o1 (fr x) w K Q else K ((fr x).put o1.dst undef) w) :
    ∀ (fuel : Nat) (listed : Array Bool) (x : Nat → Value) (w : World), listed.size = ops.size → ops.size ≤ fuel + listed.toList.count true → S w → listed.getD s false = false → listed.getD (s + 1) false = false →
      (∀ j o, listed.getD j false = true → ops[j]? = some o → ∀ e ∈ o.after, Region.binds .any e = true → listed.getD e.on false = true) →
      (∀ i, listed.getD i false = true → Vals i (x i) w) → wpAny P .any ops Q fuel listed (fr x) w := by
  have hback : ∀ i o, ops[i]? = some o → ∀ e ∈ o.after, Region.binds .any e = true → e.on < i := fun i o ho => by
    have hi : i < s + 2 := by rw [← hsz]; exact (Array.getElem?_eq_some_iff.1 ho).1
    by_cases e : i = s
    · subst e; rw [ho1] at ho; cases ho; exact hb1
    · by_cases e2 : i = s + 1
      · subst e2; rw [ho2] at ho; cases ho; exact hb2
      · exact (hput i o (by omega) ho).back
  have hend : ∀ (listed : Array Bool), listed.size = ops.size → listed.getD (s + 1) false = false → Region.ready .any ops listed = [] → False := fun listed hz h0 h => by
    have := all_of_none hback hz h (s + 1) (by omega)
    rw [h0] at this; cases this
  intro fuel
  induction fuel with
  | zero =>
    intro listed x w hz hc hS h0 h1 hcl hV
    have := count_low (s := s) (by omega) h0 h1
    omega
  | succ fuel ih =>
    intro listed x w hz hc hS h0 h1 hcl hV
    refine ⟨fun h => (hend listed hz h1 h).elim, fun i hi => ?_⟩
    obtain ⟨hi0, o, ho, hdep⟩ := mem_ready.1 hi
    have hlt : i < listed.size := by rw [hz]; exact (Array.getElem?_eq_some_iff.1 ho).1
    have hi0' : listed[i] = false := by simpa [hlt] using hi0
    have hsetD : ∀ j, (listed.setIfInBounds i true).getD j false = true → j = i ∨ listed.getD j false = true := fun j hj => by
      by_cases hji : j = i
      · exact .inl hji
      · rw [getD_set_ne false (Ne.symm hji)] at hj; exact .inr hj
    have hsetI : (listed.setIfInBounds i true).getD i false = true := by simp [hlt]
    have hmono : ∀ j, listed.getD j false = true → (listed.setIfInBounds i true).getD j false = true := fun j hj => by
      by_cases hji : j = i
      · subst hji; exact hsetI
      · rw [getD_set_ne false (Ne.symm hji)]; exact hj
    by_cases hi2 : i = s + 1
    · subst hi2
      rw [ho2] at ho; cases ho
      obtain ⟨e, he, hb, hon⟩ := hd2
      have := hdep e he hb
      rw [hon, h0] at this; cases this
    by_cases his : i = s
    · subst his
      rw [ho1] at ho; cases ho
      have hall : ∀ j, j < i → listed.getD j false = true := fun j hj => all_ahead hcov hcl (fun o' ho' => by rw [ho1] at ho'; cases ho'; exact hdep) (i - j) j (by omega) (by omega)
      have hcl2 := count_low (s := i) (by omega) h0 h1
      obtain ⟨fuel', rfl⟩ : ∃ f, fuel = f + 1 := ⟨fuel - 1, by omega⟩
      have hK : ∀ v w', LastOf P ops Q o2 ((fr x).put o1.dst v) w' → wpAny P .any ops Q (fuel' + 1) (listed.setIfInBounds i true) ((fr x).put o1.dst v) w' := fun v w' hq => by
        refine ⟨fun h => (hend _ (by simpa using hz) (by rw [getD_set_ne false (by omega)]; exact h1) h).elim, fun j hj => ?_⟩
        obtain ⟨hj0, oj, hoj, hjd⟩ := mem_ready.1 hj
        have hjl : j < i + 2 := by rw [← hsz]; exact (Array.getElem?_eq_some_iff.1 hoj).1
        have hj2 : j = i + 1 := by
          by_cases e : j = i
          · subst e; rw [getD_tt hsetI] at hj0; cases hj0
          · by_cases e2 : j = i + 1
            · exact e2
            · have := hmono j (hall j (by omega))
              rw [getD_tt this] at hj0; cases hj0
        subst hj2
        rw [ho2] at hoj; cases hoj
        have hK2 : ∀ v2 w2, Q .normal (((fr x).put o1.dst v).put o2.dst v2) w2 → wpAny P .any ops Q fuel' ((listed.setIfInBounds i true).setIfInBounds (i + 1) true) (((fr x).put o1.dst v).put o2.dst v2) w2 := fun v2 w2 hq2 => by
          have hlt2 : i + 1 < listed.size := by omega
          have hnone : Region.ready .any ops ((listed.setIfInBounds i true).setIfInBounds (i + 1) true) = [] := by
            cases h : Region.ready .any ops ((listed.setIfInBounds i true).setIfInBounds (i + 1) true) with
            | nil => rfl
            | cons k l =>
              have hk : k ∈ Region.ready .any ops ((listed.setIfInBounds i true).setIfInBounds (i + 1) true) := by rw [h]; simp
              obtain ⟨hk0, ok, hok, _⟩ := mem_ready.1 hk
              have hkl : k < i + 2 := by rw [← hsz]; exact (Array.getElem?_eq_some_iff.1 hok).1
              have : ((listed.setIfInBounds i true).setIfInBounds (i + 1) true).getD k false = true := by
                by_cases e : k = i + 1
                · subst e; simp [hlt2]
                · rw [getD_set_ne false (Ne.symm e)]
                  by_cases e2 : k = i
                  · subst e2; exact hsetI
                  · exact hmono k (hall k (by omega))
              rw [getD_tt this] at hk0; cases hk0
          cases fuel' with
          | zero => exact ⟨hnone, hq2⟩
          | succ f => exact ⟨fun _ => hq2, fun j hj => by rw [hnone] at hj; cases hj⟩
        have := hq _ hK2
        unfold wpOp
        simp only [ho2]
        split
        · rename_i hw; rw [if_pos hw] at this; exact .inl this
        · rename_i hw; rw [if_neg hw] at this; exact this
      have := hlast x w hS (fun j hj => hV j (hall j hj)) _ hK
      unfold wpOp
      simp only [ho1]
      split
      · rename_i hw; rw [if_pos hw] at this; exact .inl this
      · rename_i hw; rw [if_neg hw] at this; exact this
    · have hil : i < s := by have := (Array.getElem?_eq_some_iff.1 ho).1; omega
      have H := hput i o hil ho
      have hK : ∀ v w', Rel w w' → Vals i v w' → wpAny P .any ops Q fuel (listed.setIfInBounds i true) ((fr x).put o.dst v) w' := fun v w' hr hv => by
        rw [H.put]
        refine ih _ _ _ (by simpa using hz) ?_ (hrel w w' hS hr) (by rw [getD_set_ne false his]; exact h0) (by rw [getD_set_ne false hi2]; exact h1) (fun j oj hj hoj e he hb => ?_) fun j hj => ?_
        · have : (listed.setIfInBounds i true).toList.count true = listed.toList.count true + 1 := by
            rw [Array.toList_setIfInBounds, List.count_set (by simpa using hlt)]
            simp [hi0']
          omega
        · rcases hsetD j hj with rfl | hj'
          · rw [ho] at hoj; cases hoj
            exact hmono _ (hdep e he hb)
          · exact hmono _ (hcl j oj hj' hoj e he hb)
        · by_cases hji : j = i
          · subst hji; rw [upd_same]; exact hv
          · rw [upd_other x v hji]
            exact hval _ _ _ _ hS (hV j (by rw [getD_set_ne false (Ne.symm hji)] at hj; exact hj)) hr
      have := H.run x w hS (fun e he hb => hV e.on (hdep e he hb)) _ hK
      unfold wpOp
      simp only [ho]
      split
      · rename_i hw; rw [if_pos hw] at this; exact .inl this
      · rename_i hw; rw [if_neg hw] at this; exact this

/-- What is asked of all but the last two operations, and of these. -/
def AllTail (f : Nat → Oper → Prop) (g : Oper → Oper → Prop) : Nat → List Oper → Prop
  | _, [] => False
  | _, [_] => False
  | _, [o, o'] => g o o'
  | n, o :: o' :: o'' :: os => f n o ∧ AllTail f g (n + 1) (o' :: o'' :: os)
theorem AllTail.get {f : Nat → Oper → Prop} {g : Oper → Oper → Prop} : ∀ {l : List Oper} {n : Nat}, AllTail f g n l → (∀ {i : Nat} {o : Oper}, l[i]? = some o → i + 2 < l.length → f (n + i) o) ∧ (∀ {i : Nat} {o o' : Oper}, l[i]? = some o → l[i + 1]? = some o' → i + 2 = l.length → g o o')
  | [], _, h => h.elim
  | [_], _, h => h.elim
  | [a, b], n, h => ⟨fun {i o} _ hi => by simp at hi; omega, fun {i o o'} h1 h2 hi => by
      have : i = 0 := by simp at hi; omega
      subst this; simp at h1 h2; subst h1; subst h2; exact h⟩
  | a :: b :: c :: l, n, h => by
    obtain ⟨r1, r2⟩ := AllTail.get h.2
    refine ⟨fun {i o} h1 hi => ?_, fun {i o o'} h1 h2 hi => ?_⟩
    · cases i with
      | zero => simp at h1; subst h1; exact h.1
      | succ i =>
        have := r1 (i := i) (o := o) (by simpa using h1) (by simp at hi ⊢; omega)
        rw [show n + (i + 1) = n + 1 + i by omega]; exact this
    · cases i with
      | zero => simp at hi
      | succ i => exact r2 (i := i) (by simpa using h1) (by simpa using h2) (by simp at hi ⊢; omega)

/-- What is asked of the last but one. -/
structure TailAt (P : Program) (fr : (Nat → Value) → Act) (S : World → Prop) (Vals : Nat → Value → World → Prop) (ops : Array Oper) (Q : Exit → Act → World → Prop) (s : Nat) (o o2 : Oper) : Prop where
  back : ∀ e ∈ o.after, Region.binds .any e = true → e.on < s
  back2 : ∀ e ∈ o2.after, Region.binds .any e = true → e.on < s + 1
  dep : ∃ e ∈ o2.after, Region.binds .any e = true ∧ e.on = s
  run : ∀ (x : Nat → Value) (w : World), S w → (∀ i, i < s → Vals i (x i) w) → ∀ K : Act → World → Prop, (∀ v w', LastOf P ops Q o2 ((fr x).put o.dst v) w' → K ((fr x).put o.dst v) w') →
      if Region.wanted o (yielded ops (fr x).tmps) = true then Oper.wp P o (fr x) w K Q else K ((fr x).put o.dst undef) w

theorem region_tail (fr : (Nat → Value) → Act) (S : World → Prop) (Rel : World → World → Prop) (Vals : Nat → Value → World → Prop) (x0 : Nat → Value) (s : Nat) {id : Nat} {a : Act} {w : World}
    (hm : P.follows .mixedOrders = true) (ha : a = fr x0) (hS : S w.drew) (hsz : ops.size = s + 2) (hcov : covered ops s = true)
    (hrel : ∀ w w', S w → Rel w w' → S w') (hval : ∀ i v w w', S w → Vals i v w → Rel w w' → Vals i v w')
    (hops : AllTail (StepAt P fr S Rel Vals ops Q) (TailAt P fr S Vals ops Q s) 0 ops.toList) : (Code.region id ops true).wp P Q a w := by
  subst ha
  refine wp_region_any hm ?_
  obtain ⟨g1, g2⟩ := hops.get
  obtain ⟨o1, ho1⟩ : ∃ o, ops[s]? = some o := ⟨ops[s]'(by omega), Array.getElem?_eq_getElem (by omega)⟩
  obtain ⟨o2, ho2⟩ : ∃ o, ops[s + 1]? = some o := ⟨ops[s + 1]'(by omega), Array.getElem?_eq_getElem (by omega)⟩
  have T := g2 (i := s) (by simpa using ho1) (by simpa using ho2) (by simp [hsz])
  refine tail_any ho1 ho2 hsz (fun i o hi h => ?_) T.back T.back2 T.dep (covered_get hcov) hrel hval T.run _ _ _ _ (by simp) (by simp) hS (by simp [hsz]) (by simp [hsz]) (fun j o hj => ?_) (fun i hi => ?_)
  · have := g1 (i := i) (o := o) (by simpa using h) (by simp [hsz]; omega); rwa [Nat.zero_add] at this
  · by_cases h : j < ops.size
    · simp [h] at hj
    · simp [h] at hj
  · by_cases h : i < ops.size
    · simp [h] at hi
    · simp [h] at hi
end
end Go.Proofs.YtdcfemojkdoakaaDoor
/- found: what its second loop's drawn region keeps. -/
namespace Go.Proofs.YtdcfemojkdoakaaDoor
open Go.RowKit Go.Maps Go.Sort Go.Lib
attribute [local go_sem] Oper.semAt_some

/-- The cells that a part's round reads. -/
structure TC (p b2 b5 b14 M N r g : Nat) (x : PR) (w : World) : Prop where
  c2 : w.cell? ⟨b2, 0, none⟩ = some (gp g)
  c5 : w.cell? ⟨b5, 0, none⟩ = some (.slice (some ⟨M, 0, none⟩) N N)
  m0 : w.cell? ⟨M, r * 3, none⟩ = some (.int .i64 x.t.kind)
  m1 : w.cell? ⟨M, r * 3 + 1, none⟩ = some (.string x.t.name)
  m2 : w.cell? ⟨M, r * 3 + 2, none⟩ = some (.slice x.a x.t.kids.length x.c)
  n1 : w.cell? ⟨b14, 1, none⟩ = some (.string x.n)
  ne : b2 ≠ p ∧ b5 ≠ p ∧ M ≠ p ∧ b14 ≠ p ∧ p < w.heap.size
theorem TC.fr {p b2 b5 b14 M N r g : Nat} {x : PR} {w v : World} (h : TC p b2 b5 b14 M N r g x w) (hf : Fr p w v) : TC p b2 b5 b14 M N r g x v := by
  obtain ⟨c2, c5, m0, m1, m2, n1, e0, e1, e2, e3, e4⟩ := h
  exact ⟨hf.cell c2 e0, hf.cell c5 e1, hf.cell m0 e2, hf.cell m1 e2, hf.cell m2 e2, hf.cell n1 e3, e0, e1, e2, e3, Nat.lt_of_lt_of_le e4 hf.1.size⟩
def TSt (B : Nat) (G : Gr) (rt : Nat → Nat) (E c g mb p cap : Nat) (sl : Nat → Value) (b2 b5 b14 M r : Nat) (x : PR) (wr V : World) : Prop :=
  GM B G rt E c g mb (.slice (some ⟨p, 0, none⟩) G.N cap) sl V ∧ Fr p wr V ∧ TC p b2 b5 b14 M G.N r g x V
theorem TSt.step {B : Nat} {G : Gr} {rt : Nat → Nat} {E c g mb p cap : Nat} {sl : Nat → Value} {b2 b5 b14 M r : Nat} {x : PR} {wr V Y : World} (h : TSt B G rt E c g mb p cap sl b2 b5 b14 M r x wr V) (hr : FRel B G rt E c g mb p cap sl V Y) : TSt B G rt E c g mb p cap sl b2 b5 b14 M r x wr Y :=
  ⟨hr.1, h.2.1.trans hr.2, h.2.2.fr hr.2⟩
theorem TSt.rel {B : Nat} {G : Gr} {rt : Nat → Nat} {E c g mb p cap : Nat} {sl : Nat → Value} {b2 b5 b14 M r : Nat} {x : PR} {wr V : World} (h : TSt B G rt E c g mb p cap sl b2 b5 b14 M r x wr V) : FRel B G rt E c g mb p cap sl V V := ⟨h.1, Fr.refl _ _⟩
theorem TSt.made {B : Nat} {G : Gr} {rt : Nat → Nat} {E c g mb p cap : Nat} {sl : Nat → Value} {b2 b5 b14 M r : Nat} {x : PR} {wr V : World} (h : TSt B G rt E c g mb p cap sl b2 b5 b14 M r x wr V) (o : Obj) : FRel B G rt E c g mb p cap sl V (V.alloc o) :=
  ⟨h.1.keep ((Below.refl _ V).alloc (Nat.le_refl _) o), Fr.of_below ((Below.refl _ V).alloc (Nat.le_refl _) o)⟩
theorem TSt.start {B : Nat} {G : Gr} {rt : Nat → Nat} {E c g mb p cap : Nat} {sl : Nat → Value} {b2 b5 b14 M r : Nat} {x : PR} {wr : World} (h : GM B G rt E c g mb (.slice (some ⟨p, 0, none⟩) G.N cap) sl wr) (hc : TC p b2 b5 b14 M G.N r g x wr) : TSt B G rt E c g mb p cap sl b2 b5 b14 M r x wr wr.drew :=
  ⟨h.drew, (Fr.refl _ _).drew, hc.fr (Fr.refl _ _).drew⟩
/-- The row of one pair that is to be appended. -/
def RowX (p : Nat) (x : PR) (zb : Nat) (V : World) : Prop := V.heap[zb]? = some (.cells #[.string x.n, .int .i64 x.t.kind, .string x.t.name, .slice x.a x.t.kids.length x.c] 119 (0, 0)) ∧ zb ≠ p
theorem RowX.fr {p : Nat} {x : PR} {zb : Nat} {V Y : World} (h : RowX p x zb V) (hf : Fr p V Y) : RowX p x zb Y := ⟨(hf.2 zb (Array.getElem?_eq_some_iff.1 h.1).1 h.2).trans h.1, h.2⟩
theorem RowX.news {p : Nat} {x : PR} {zb : Nat} {V : World} (h : RowX p x zb V) : ∀ j u, (encP x)[j]? = some u → V.cell? ((⟨zb, 0, none⟩ : Addr).add j) = some u := by
  intro j u hu
  have hadd : (⟨zb, 0, none⟩ : Addr).add j = ⟨zb, j, none⟩ := by unfold Addr.add; split <;> simp_all
  rw [hadd]
  simp only [World.cell?, h.1]
  simp only [encP] at hu
  match j, hu with
  | 0, hu => simpa using hu
  | 1, hu => simpa using hu
  | 2, hu => simpa using hu
  | 3, hu => simpa using hu
  | n + 4, hu => simp at hu
theorem RowX.new {p : Nat} {x : PR} {V : World} (hp : p < V.heap.size) : RowX p x V.heap.size (V.alloc (.cells #[.string x.n, .int .i64 x.t.kind, .string x.t.name, .slice x.a x.t.kids.length x.c] 119)) := ⟨alloc_new V _, by omega⟩
theorem own_fr {w w' : World} {p base : Nat} {e : TypeId} {size : Nat} {v : Value} {n : Nat} {xs : List Value} (h : w.ownsRow base e size v n xs) (hf : Fr p w w') (hp : p < base) : w'.ownsRow base e size v n xs :=
  own_keep h (fun k _ hk hne => (hf.2 k (Array.getElem?_eq_some_iff.1 hk).1 hne).trans hk) hp
end Go.Proofs.YtdcfemojkdoakaaDoor
/- found: its last statement, a region of 13 operations that draws its order, by an invariant. (Made by a program.) -/
namespace Go.Proofs.YtdcfemojkdoakaaDoor
open Go.RowKit Go.Maps Go.Sort Go.Lib
attribute [local go_sem] Oper.semAt_some

noncomputable def trdOps : Array Oper := regionIn 17 (Tryd.f50.body.getD .skip)
def trdFr (b : Nat → Value) (d : List Deferred) (x : Nat → Value) : Act := { tmps := #[b 0, b 1, b 2, b 3, b 4, b 5, b 6, b 7, b 8, b 9, b 10, b 11, b 12, b 13, b 14, b 15, b 16, b 17, b 18, b 19, b 20, b 21, b 22, b 23, b 24, b 25, b 26, b 27, b 28, b 29, b 30, b 31, b 32, b 33, b 34, b 35, b 36, b 37, b 38, b 39, b 40, b 41, b 42, b 43, b 44, b 45, b 46, b 47, b 48, b 49, b 50, b 51, b 52, b 53, b 54, b 55, b 56, b 57, b 58, b 59, b 60, b 61, b 62, b 63, b 64, b 65, b 66, b 67, b 68, b 69, b 70, b 71, b 72, b 73, b 74, b 75, x 0, x 1, x 2, x 3, x 4, x 5, x 6, x 7, x 8, x 9, x 10, x 11, b 88, b 89, b 90], defers := d }

def trdVals (G : Gr) (rt : Nat → Nat) (g p : Nat) (M b14 ix : Nat) (pr : PR) (lv : Value) (i : Nat) (v : Value) (V : World) : Prop :=
  match i with
  | 0 => v = lv
  | 1 => v = .pointer (some ⟨b14, 1, none⟩)
  | 2 => v = .string pr.n
  | 3 => v = .slice (some ⟨M, 0, none⟩) G.N G.N
  | 4 => v = gp g
  | 5 => v = .int .i64 (ix : Int)
  | 6 => v = .int .i64 (rt ix : Nat)
  | 7 => v = .pointer (some ⟨M, rt ix * 3, none⟩)
  | 8 => v = .agg #[.int .i64 pr.t.kind, .string pr.t.name, .slice pr.a pr.t.kids.length pr.c]
  | 9 => v = .agg #[.string pr.n, .int .i64 pr.t.kind, .string pr.t.name, .slice pr.a pr.t.kids.length pr.c]
  | 10 => ∃ zb, v = .slice (some ⟨zb, 0, none⟩) 1 1 ∧ RowX p pr zb V
  | _ => True

theorem trdVals_keep {G : Gr} {rt : Nat → Nat} {g p : Nat} {M b14 ix : Nat} {pr : PR} {lv : Value} {B : Nat} {E c mb cap : Nat} {sl : Nat → Value} (i : Nat) (v : Value) (V Y : World) (h : trdVals G rt g p M b14 ix pr lv i v V) (hb : FRel B G rt E c g mb p cap sl V Y) : trdVals G rt g p M b14 ix pr lv i v Y := by
  unfold trdVals at *
  split at h <;> first
    | exact h
    | (obtain ⟨zb, e, h⟩ := h; exact ⟨zb, e, h.fr hb.2⟩)

theorem trd_size : trdOps.size = 13 := by kernel_rfl
theorem trd_cov : covered trdOps 11 = true := by kernel_rfl
set_option linter.unusedSimpArgs false in
set_option maxRecDepth 100000 in
set_option maxHeartbeats 8000000 in
theorem trd_region {B : Nat} {G : Gr} {rt : Nat → Nat} {E c g mb p cap : Nat} {sl : Nat → Value} {b2 b5 b14 M base ix : Nat} {pr : PR} {ds : List PR} {lv : Value} {wr : World} (hrz : ((rt ix : Nat) : Int) < (G.N : Int)) (hown : wr.ownsRow base 119 4 lv ds.length (cellsP ds)) (hpb : p < base) (hbw : base ≤ wr.heap.size) (hds : ds.length ≤ 1000) {b : Nat → Value} {d : List Deferred}
    (h12 : b 12 = lv) (h13 : b 13 = .int .i64 (ix : Int)) (h5 : b 5 = .pointer (some ⟨b5, 0, none⟩)) (h2 : b 2 = .pointer (some ⟨b2, 0, none⟩)) (h14 : b 14 = .pointer (some ⟨b14, 0, none⟩))
    (HC6 : ∀ V, TSt B G rt E c g mb p cap sl b2 b5 b14 M (rt ix) pr wr V → Calls Tryd.prog 73 #[gp g, .int .i64 (ix : Int)] V fun e Y => e = .returned (.int .i64 (rt ix : Nat)) ∧ FRel B G rt E c g mb p cap sl V Y)
    {Q : Exit → Act → World → Prop} {ops : Array Oper} (hops : ops = trdOps) (x0 : Nat → Value) (X : World) (hS : TSt B G rt E c g mb p cap sl b2 b5 b14 M (rt ix) pr wr X.drew)
    (hfin : ∀ (x : Nat → Value) V g9 c9 w9, TSt B G rt E c g mb p cap sl b2 b5 b14 M (rt ix) pr wr V → w9.ownsRow base 119 4 (.slice (some ⟨g9, 0, none⟩) (ds.length + 1) c9) (ds.length + 1) (cellsP ds ++ encP pr) → V.grownBy w9 lv.ownBlock → Q .normal (((trdFr b d x).put (some 87) (.slice (some ⟨g9, 0, none⟩) (ds.length + 1) c9)).put (some 12) (.slice (some ⟨g9, 0, none⟩) (ds.length + 1) c9)) w9) : (Code.region 17 ops true).wp Tryd.prog Q (trdFr b d x0) X := by
  have HC := Lib.hid (HC6)
  clear HC6
  have hszo : ops.size = 11 + 2 := by rw [hops]; exact trd_size
  have hcovo : covered ops 11 = true := by rw [hops]; exact trd_cov
  refine region_tail (trdFr b d) (fun V => TSt B G rt E c g mb p cap sl b2 b5 b14 M (rt ix) pr wr V) (fun V Y => FRel B G rt E c g mb p cap sl V Y) (trdVals G rt g p M b14 ix pr lv) x0 11 (by kernel_rfl) rfl hS hszo hcovo (fun V Y h hb => h.step hb) (fun i v V Y _ h hb => trdVals_keep i v V Y h hb) ?_
  have HFIN := Lib.hid hfin
  clear hfin hS hszo hcovo
  obtain ⟨gl, hgl⟩ : ∃ qq, TailAt Tryd.prog (trdFr b d) (fun V => TSt B G rt E c g mb p cap sl b2 b5 b14 M (rt ix) pr wr V) (trdVals G rt g p M b14 ix pr lv) ops Q 11 = qq := ⟨_, rfl⟩
  rw [hgl]
  obtain ⟨f, hf⟩ : ∃ qq, StepAt Tryd.prog (trdFr b d) (fun V => TSt B G rt E c g mb p cap sl b2 b5 b14 M (rt ix) pr wr V) (fun V Y => FRel B G rt E c g mb p cap sl V Y) (trdVals G rt g p M b14 ix pr lv) ops Q = qq := ⟨_, rfl⟩
  rw [hf, hops]
  simp only [trdOps, Tryd.f50, regionIn, Option.getD_some, Nat.reduceBEq, Bool.false_eq_true, if_false, if_true, beq_self_eq_true, Array.append_empty, Array.empty_append, List.append_eq, List.cons_append, List.nil_append, AllTail, Nat.reduceAdd, Nat.zero_add]
  -- 0: slot 76 := Op.move t12
  refine And.intro ?_ ?_
  · clear HFIN hgl
    rw [← hf]; clear hf
    refine ⟨by decide +kernel, fun x v => by kernel_rfl, fun x V hV hdep K hK => ?_⟩
    clear hdep
    refine run_bare (by kernel_rfl) ?_
    unfold trdFr
    go_simp
    refine kfit (hK _ _ (hV.rel) rfl) ?_
    first | (simp only [trdFr, Act.put, List.setIfInBounds_toArray, List.set_cons_zero, List.set_cons_succ, h12, h13, h5, h2, h14]; done) | (simp only [trdFr, Act.put, List.setIfInBounds_toArray, List.set_cons_zero, List.set_cons_succ, h12, h13, h5, h2, h14]; rfl)
  -- 1: slot 77 := Op.fieldAddr 102 t14 1
  refine And.intro ?_ ?_
  · clear HFIN hgl
    rw [← hf]; clear hf
    refine ⟨by decide +kernel, fun x v => by kernel_rfl, fun x V hV hdep K hK => ?_⟩
    clear hdep
    refine run_bare (by kernel_rfl) ?_
    unfold trdFr
    go_simp
    refine kfit (hK _ _ (hV.rel) rfl) ?_
    first | (simp only [trdFr, Act.put, List.setIfInBounds_toArray, List.set_cons_zero, List.set_cons_succ, h12, h13, h5, h2, h14]; done) | (simp only [trdFr, Act.put, List.setIfInBounds_toArray, List.set_cons_zero, List.set_cons_succ, h12, h13, h5, h2, h14]; rfl)
  -- 2: slot 78 := Op.load 9 t77
  refine And.intro ?_ ?_
  · clear HFIN hgl
    rw [← hf]; clear hf
    refine ⟨by decide +kernel, fun x v => by kernel_rfl, fun x V hV hdep K hK => ?_⟩
    have e1 : x 1 = .pointer (some ⟨b14, 1, none⟩) := depOf hdep 1 (by decide +kernel)
    clear hdep
    refine run_bare (by kernel_rfl) ?_
    unfold trdFr
    obtain ⟨y0, y1, y2, y3, y4, y5, y6⟩ := hV.2.2
    go_simp
    refine kfit (hK _ _ (hV.rel) rfl) ?_
    first | (simp only [trdFr, Act.put, List.setIfInBounds_toArray, List.set_cons_zero, List.set_cons_succ, h12, h13, h5, h2, h14, e1]; done) | (simp only [trdFr, Act.put, List.setIfInBounds_toArray, List.set_cons_zero, List.set_cons_succ, h12, h13, h5, h2, h14, e1]; rfl)
  -- 3: slot 79 := Op.load 27 t5
  refine And.intro ?_ ?_
  · clear HFIN hgl
    rw [← hf]; clear hf
    refine ⟨by decide +kernel, fun x v => by kernel_rfl, fun x V hV hdep K hK => ?_⟩
    clear hdep
    refine run_bare (by kernel_rfl) ?_
    unfold trdFr
    obtain ⟨y0, y1, y2, y3, y4, y5, y6⟩ := hV.2.2
    go_simp
    refine kfit (hK _ _ (hV.rel) rfl) ?_
    first | (simp only [trdFr, Act.put, List.setIfInBounds_toArray, List.set_cons_zero, List.set_cons_succ, h12, h13, h5, h2, h14]; done) | (simp only [trdFr, Act.put, List.setIfInBounds_toArray, List.set_cons_zero, List.set_cons_succ, h12, h13, h5, h2, h14]; rfl)
  -- 4: slot 80 := Op.load 96 t2
  refine And.intro ?_ ?_
  · clear HFIN hgl
    rw [← hf]; clear hf
    refine ⟨by decide +kernel, fun x v => by kernel_rfl, fun x V hV hdep K hK => ?_⟩
    clear hdep
    refine run_bare (by kernel_rfl) ?_
    unfold trdFr
    obtain ⟨y0, y1, y2, y3, y4, y5, y6⟩ := hV.2.2
    go_simp
    refine kfit (hK _ _ (hV.rel) rfl) ?_
    first | (simp only [trdFr, Act.put, List.setIfInBounds_toArray, List.set_cons_zero, List.set_cons_succ, h12, h13, h5, h2, h14]; done) | (simp only [trdFr, Act.put, List.setIfInBounds_toArray, List.set_cons_zero, List.set_cons_succ, h12, h13, h5, h2, h14]; rfl)
  -- 5: slot 81 := Op.move t13
  refine And.intro ?_ ?_
  · clear HFIN hgl
    rw [← hf]; clear hf
    refine ⟨by decide +kernel, fun x v => by kernel_rfl, fun x V hV hdep K hK => ?_⟩
    clear hdep
    refine run_bare (by kernel_rfl) ?_
    unfold trdFr
    go_simp
    refine kfit (hK _ _ (hV.rel) rfl) ?_
    first | (simp only [trdFr, Act.put, List.setIfInBounds_toArray, List.set_cons_zero, List.set_cons_succ, h12, h13, h5, h2, h14]; done) | (simp only [trdFr, Act.put, List.setIfInBounds_toArray, List.set_cons_zero, List.set_cons_succ, h12, h13, h5, h2, h14]; rfl)
  -- 6: slot 82 := Op.call { value (Operand.func 46), args := #[t80, t81], argT
  refine And.intro ?_ ?_
  · clear HFIN hgl
    rw [← hf]; clear hf
    refine ⟨by decide +kernel, fun x v => by kernel_rfl, fun x V hV hdep K hK => ?_⟩
    have e4 : x 4 = gp g := depOf hdep 4 (by decide +kernel)
    have e5 : x 5 = .int .i64 (ix : Int) := depOf hdep 5 (by decide +kernel)
    clear hdep
    refine run_bare (by kernel_rfl) ?_
    unfold trdFr
    have HC6 := HC.out
    have H := HC6 V hV
    replace H := Lib.hid H; clear HC6
    go_simp
    go_at_call 73
    refine H.out.mono ?_
    rintro e Y ⟨rfl, hb⟩; refine kfit (hK _ _ hb rfl) ?_
    first | (simp only [trdFr, Act.put, List.setIfInBounds_toArray, List.set_cons_zero, List.set_cons_succ, h12, h13, h5, h2, h14, e4, e5]; done) | (simp only [trdFr, Act.put, List.setIfInBounds_toArray, List.set_cons_zero, List.set_cons_succ, h12, h13, h5, h2, h14, e4, e5]; rfl)
  -- 7: slot 83 := Op.indexAddr 27 t79 t82
  refine And.intro ?_ ?_
  · clear HFIN hgl
    rw [← hf]; clear hf
    refine ⟨by decide +kernel, fun x v => by kernel_rfl, fun x V hV hdep K hK => ?_⟩
    have e3 : x 3 = .slice (some ⟨M, 0, none⟩) G.N G.N := depOf hdep 3 (by decide +kernel)
    have e6 : x 6 = .int .i64 (rt ix : Nat) := depOf hdep 6 (by decide +kernel)
    clear hdep
    refine run_bare (by kernel_rfl) ?_
    unfold trdFr
    go_simp
    refine kfit (hK _ _ (hV.rel) rfl) ?_
    first | (simp only [trdFr, Act.put, List.setIfInBounds_toArray, List.set_cons_zero, List.set_cons_succ, h12, h13, h5, h2, h14, e3, e6]; done) | (simp only [trdFr, Act.put, List.setIfInBounds_toArray, List.set_cons_zero, List.set_cons_succ, h12, h13, h5, h2, h14, e3, e6]; rfl)
  -- 8: slot 84 := Op.load 29 t83
  refine And.intro ?_ ?_
  · clear HFIN hgl
    rw [← hf]; clear hf
    refine ⟨by decide +kernel, fun x v => by kernel_rfl, fun x V hV hdep K hK => ?_⟩
    have e7 : x 7 = .pointer (some ⟨M, rt ix * 3, none⟩) := depOf hdep 7 (by decide +kernel)
    clear hdep
    refine run_bare (by kernel_rfl) ?_
    unfold trdFr
    obtain ⟨y0, y1, y2, y3, y4, y5, y6⟩ := hV.2.2
    go_simp
    refine kfit (hK _ _ (hV.rel) rfl) ?_
    first | (simp only [trdFr, Act.put, List.setIfInBounds_toArray, List.set_cons_zero, List.set_cons_succ, h12, h13, h5, h2, h14, e7]; done) | (simp only [trdFr, Act.put, List.setIfInBounds_toArray, List.set_cons_zero, List.set_cons_succ, h12, h13, h5, h2, h14, e7]; rfl)
  -- 9: slot 85 := Op.build 93 #[(0, t78), (1, t84)]
  refine And.intro ?_ ?_
  · clear HFIN hgl
    rw [← hf]; clear hf
    refine ⟨by decide +kernel, fun x v => by kernel_rfl, fun x V hV hdep K hK => ?_⟩
    have e2 : x 2 = .string pr.n := depOf hdep 2 (by decide +kernel)
    have e8 : x 8 = .agg #[.int .i64 pr.t.kind, .string pr.t.name, .slice pr.a pr.t.kids.length pr.c] := depOf hdep 8 (by decide +kernel)
    clear hdep
    refine run_bare (by kernel_rfl) ?_
    unfold trdFr
    go_simp
    refine kfit (hK _ _ (hV.rel) rfl) ?_
    first | (simp only [trdFr, Act.put, List.setIfInBounds_toArray, List.set_cons_zero, List.set_cons_succ, h12, h13, h5, h2, h14, e2, e8]; done) | (simp only [trdFr, Act.put, List.setIfInBounds_toArray, List.set_cons_zero, List.set_cons_succ, h12, h13, h5, h2, h14, e2, e8]; rfl)
  -- 10: slot 86 := Op.buildSlice 31 1 #[(0, t85)]
  refine And.intro ?_ ?_
  · clear HFIN hgl
    rw [← hf]; clear hf
    refine ⟨by decide +kernel, fun x v => by kernel_rfl, fun x V hV hdep K hK => ?_⟩
    have e9 : x 9 = .agg #[.string pr.n, .int .i64 pr.t.kind, .string pr.t.name, .slice pr.a pr.t.kids.length pr.c] := depOf hdep 9 (by decide +kernel)
    clear hdep
    refine run_bare (by kernel_rfl) ?_
    unfold trdFr
    go_simp
    refine kfit (hK _ _ (hV.made _) ⟨_, rfl, RowX.new hV.2.2.ne.2.2.2.2⟩) ?_
    first | (simp only [trdFr, Act.put, List.setIfInBounds_toArray, List.set_cons_zero, List.set_cons_succ, h12, h13, h5, h2, h14, e9]; done) | (simp only [trdFr, Act.put, List.setIfInBounds_toArray, List.set_cons_zero, List.set_cons_succ, h12, h13, h5, h2, h14, e9]; rfl)
  -- 11: slot 87 := Op.call { builtin append, args := #[t76, t86], argTypes := #
  · clear HC
    rw [← hgl]; clear hgl
    refine ⟨by decide +kernel, by decide +kernel, ⟨_, Array.mem_of_getElem (i := 0) (h := by decide) rfl, by decide, rfl⟩, fun x V hV hall K hK => ?_⟩
    have e0 : x 0 = lv := hall 0 (by decide)
    obtain ⟨zb, e10, hz⟩ : ∃ zb, x 10 = .slice (some ⟨zb, 0, none⟩) 1 1 ∧ RowX p pr zb V := hall 10 (by decide)
    clear hall
    have hV2 := hV.2.1
    have ho := own_fr hown hV2 hpb
    obtain ⟨i0, hi, hz0, hz1, hz2⟩ := info_parts Tryd.infoPair
    have hsz : base ≤ V.heap.size := Nat.le_trans hbw hV2.1.size
    have HF := Lib.hid (fun g9 c9 w9 => HFIN.out x V g9 c9 w9 hV)
    clear HFIN
    unfold trdFr at hK ⊢
    refine step_append_lies V (by kernel_rfl) (.tmp 76) (.tmp 86) 31 (by kernel_rfl) base 119 i0 (.agg zeroP) 4 64 Tryd.underlying31 hi hz0 hz1 hz2 rfl (by decide) lv ds.length (cellsP ds) e0 ho ⟨zb, 0, none⟩ 1 1 (encP pr) e10 rfl hz.news (encP_one pr) (by decide) (by unfold maxLen; omega) (by omega) hsz V.heap.size rfl ?_
    intro g9 c9 w9 hown9 hgr9 _ _
    have H := Lib.hid (HF.out g9 c9 w9 hown9 hgr9)
    clear HF hown9 hgr9 hV hV2 ho hz
    unfold trdFr at H
    refine hK _ _ fun K2 hK2 => run_bare (by kernel_rfl) ?_
    clear hK
    go_simp
    refine kfit (hK2 _ _ H.out) ?_
    first | (simp only [Act.put, List.setIfInBounds_toArray, List.set_cons_zero, List.set_cons_succ, h12, h13, h5, h2, h14, e0, e10]; done) | (simp only [Act.put, List.setIfInBounds_toArray, List.set_cons_zero, List.set_cons_succ, h12, h13, h5, h2, h14, e0, e10]; rfl)
  -- 12: slot 12 := Op.assign t87
theorem trd_here {B : Nat} {G : Gr} {rt : Nat → Nat} {E c g mb p cap : Nat} {sl : Nat → Value} {b2 b5 b14 M base ix : Nat} {pr : PR} {ds : List PR} {lv : Value} {wr : World} (hrz : ((rt ix : Nat) : Int) < (G.N : Int)) (hown : wr.ownsRow base 119 4 lv ds.length (cellsP ds)) (hpb : p < base) (hbw : base ≤ wr.heap.size) (hds : ds.length ≤ 1000)
    (HC6 : ∀ V, TSt B G rt E c g mb p cap sl b2 b5 b14 M (rt ix) pr wr V → Calls Tryd.prog 73 #[gp g, .int .i64 (ix : Int)] V fun e Y => e = .returned (.int .i64 (rt ix : Nat)) ∧ FRel B G rt E c g mb p cap sl V Y)
    {Q : Exit → Act → World → Prop} {ops : Array Oper} {a : Act} (X : World) (hops : ops = trdOps)
    (h12 : a.tmps.getD 12 undef = lv) (h13 : a.tmps.getD 13 undef = .int .i64 (ix : Int)) (h5 : a.tmps.getD 5 undef = .pointer (some ⟨b5, 0, none⟩)) (h2 : a.tmps.getD 2 undef = .pointer (some ⟨b2, 0, none⟩)) (h14 : a.tmps.getD 14 undef = .pointer (some ⟨b14, 0, none⟩))
    (ha : a = trdFr (fun j => a.tmps.getD j undef) a.defers (fun i => a.tmps.getD (76 + i) undef)) (hS : TSt B G rt E c g mb p cap sl b2 b5 b14 M (rt ix) pr wr X.drew)
    (hfin : ∀ (x : Nat → Value) V g9 c9 w9, TSt B G rt E c g mb p cap sl b2 b5 b14 M (rt ix) pr wr V → w9.ownsRow base 119 4 (.slice (some ⟨g9, 0, none⟩) (ds.length + 1) c9) (ds.length + 1) (cellsP ds ++ encP pr) → V.grownBy w9 lv.ownBlock → Q .normal (((trdFr (fun j => a.tmps.getD j undef) a.defers x).put (some 87) (.slice (some ⟨g9, 0, none⟩) (ds.length + 1) c9)).put (some 12) (.slice (some ⟨g9, 0, none⟩) (ds.length + 1) c9)) w9) : (Code.region 17 ops true).wp Tryd.prog Q a X :=
  cast (congrArg (fun z => (Code.region 17 ops true).wp Tryd.prog Q z X) ha.symm) (trd_region hrz hown hpb hbw hds (b := fun j => a.tmps.getD j undef) (d := a.defers) h12 h13 h5 h2 h14 HC6 hops _ X hS hfin)
end Go.Proofs.YtdcfemojkdoakaaDoor
/- found: what its second loop keeps; what it answers. -/
namespace Go.Proofs.YtdcfemojkdoakaaDoor
open Go.RowKit Go.Maps Go.Sort Go.Lib
attribute [local go_sem] Oper.semAt_some

theorem Fr.keepT' {p : Nat} {w v : World} (h : Fr p w v) {cs : Array Value} {fz : Nat × Nat} (hp : w.heap[p]? = some (.cells cs 128 fz)) : KeepT w v := by
  intro k cs' fz' hk
  refine (h.2 k (Array.getElem?_eq_some_iff.1 hk).1 fun e => ?_).trans hk
  subst e; rw [hp] at hk; cases hk
/-- What the second loop keeps; W: the world at its beginning. -/
structure PS (B : Nat) (G : Gr) (rt : Nat → Nat) (σ : Sg) (E c g mb p cap : Nat) (sl : Nat → Value) (W : World) (k : Nat) (d : List PR) (v : Value) (wr : World) : Prop where
  gm : GM B G rt E c g mb (.slice (some ⟨p, 0, none⟩) G.N cap) sl wr
  fr : Fr p W wr
  own : wr.ownsRow W.heap.size 119 4 v d.length (cellsP d)
  nil : d = [] → v = .slice none 0 0
  typ : Typ d wr
  pl : PL G σ k d
theorem PS.start {B : Nat} {G : Gr} {rt : Nat → Nat} {σ : Sg} {E c g mb p cap : Nat} {sl : Nat → Value} {W : World} (h : GM B G rt E c g mb (.slice (some ⟨p, 0, none⟩) G.N cap) sl W) : PS B G rt σ E c g mb p cap sl W 0 [] (.slice none 0 0) W :=
  ⟨h, Fr.refl _ _, ⟨rfl, .inl ⟨rfl, rfl⟩⟩, fun _ => rfl, (fun _ hx => nomatch hx), PL.start _ _⟩
theorem PS.made {B : Nat} {G : Gr} {rt : Nat → Nat} {σ : Sg} {E c g mb p cap : Nat} {sl : Nat → Value} {W : World} {k : Nat} {d : List PR} {v : Value} {wr Y : World} (h : PS B G rt σ E c g mb p cap sl W k d v wr) (hb : Below wr.heap.size wr Y) (hp : p < W.heap.size) : PS B G rt σ E c g mb p cap sl W k d v Y :=
  ⟨h.gm.keep hb, h.fr.trans (Fr.of_below hb), own_fr h.own (Fr.of_below hb) hp, h.nil, h.typ.keep (KeepT.of_below hb), h.pl⟩
theorem PS.skip {B : Nat} {G : Gr} {rt : Nat → Nat} {σ : Sg} {E c g mb p cap : Nat} {sl : Nat → Value} {W : World} {k : Nat} {d : List PR} {v : Value} {wr : World} (h : PS B G rt σ E c g mb p cap sl W k d v wr) (hv : (G.tr k).isV = false) : PS B G rt σ E c g mb p cap sl W (k + 1) d v wr :=
  ⟨h.gm, h.fr, h.own, h.nil, h.typ, h.pl.skip hv⟩
theorem PS.next {B : Nat} {G : Gr} {rt : Nat → Nat} {σ : Sg} {E c g mb p cap : Nat} {sl : Nat → Value} {W : World} {k : Nat} {d : List PR} {v : Value} {wr V w9 : World} {x : PR} {g9 c9 : Nat} (h : PS B G rt σ E c g mb p cap sl W k d v wr) (gi : GI G rt) (hW : GM B G rt E c g mb (.slice (some ⟨p, 0, none⟩) G.N cap) sl W) (hp : p < W.heap.size)
    (hV : FRel B G rt E c g mb p cap sl wr V) (ho : w9.ownsRow W.heap.size 119 4 (.slice (some ⟨g9, 0, none⟩) (d.length + 1) c9) (d.length + 1) (cellsP d ++ encP x)) (hg : V.grownBy w9 v.ownBlock)
    (hk : k < G.N) (hx : G.tr k = .var x.n) (ht : x.t = σ x.n) (hty : TysAt V (.slice x.a x.t.kids.length x.c) x.t.kids) : PS B G rt σ E c g mb p cap sl W (k + 1) (d ++ [x]) (.slice (some ⟨g9, 0, none⟩) (d.length + 1) c9) w9 := by
  have hown := own_fr h.own hV.2 hp
  have hlow : ∀ j, j < W.heap.size → w9.heap[j]? = V.heap[j]? := fun j hj => hg.block j (by have := h.fr.1.size; have := hV.2.1.size; omega) (fun e => by have := (hown.lt j e.symm).1; omega)
  have hbl : Below W.heap.size V w9 := ⟨hg.os, hg.tape, hg.output, hg.size, fun j hj => hlow j hj⟩
  have hfr := h.fr.trans hV.2
  have hkt : KeepT V w9 := KeepT.grown hg hown (by decide)
  refine ⟨GM.low hW hV.1 hbl, ⟨hfr.1.trans (hbl.mono (Nat.zero_le _)), fun j hj hjp => (hlow j hj).trans (hfr.2 j hj hjp)⟩, ?_, fun e => by simp at e, fun y hy => ?_, h.pl.next gi.ok hk hx ht⟩
  · rw [cellsP_snoc, List.length_append, List.length_singleton]; exact ho
  · rcases List.mem_append.1 hy with hy | hy
    · exact ((h.typ.keep (hV.2.keepT' h.gm.kind.choose_spec)) y hy).keep hkt
    · obtain rfl := List.mem_singleton.1 hy
      exact hty.keep hkt
theorem SubAt.turn {v : Value} {d : List PR} {w w' : World} (h : SubAt v d w) (hk : ∀ (k : Nat) (cs : Array Value) (T : TypeId) (fz : Nat × Nat), w.heap[k]? = some (.cells cs T fz) → w'.heap[k]? = some (.cells cs T fz)) : SubAt v d w' := by
  refine ⟨⟨?_, h.1.2⟩, h.2.keep fun k cs fz hh => hk _ _ _ _ hh⟩
  rcases h.1.1 with e | ⟨g, cap, e, hc, hr⟩
  · exact .inl e
  · refine .inr ⟨g, cap, e, hc, ?_⟩
    obtain ⟨cs, h1, h2⟩ := hr
    exact ⟨cs, hk _ _ _ _ h1, h2⟩
/-- All is ready for the list of pairs to be made a substitution. -/
theorem PS.ready {B : Nat} {G : Gr} {rt : Nat → Nat} {σ : Sg} {E c g mb p cap : Nat} {sl : Nat → Value} {W : World} {d : List PR} {v : Value} {wr : World} {V : List ByteArray} (h : PS B G rt σ E c g mb p cap sl W G.N d v wr) (hsi : SI G σ rt) (hV : VarIn V G) (hl : V.length < 20) (hz : ∀ x ∈ V, tsize (σ x) ≤ 900000000) :
    GivenP v d wr ∧ Typ d wr ∧ FitsAll d ∧ SizedAll d ∧ d.length < 20 ∧ IsSg d σ := by
  have hs : ∀ x ∈ d, tsize x.t ≤ 900000000 := fun x hx => by rw [(h.pl.mem x hx).1]; exact hz _ (h.pl.inV (Nat.le_refl _) hV x hx)
  exact ⟨given_of_row h.own h.nil, h.typ, fun x hx => fits_le (hs x hx), fun x hx => Nat.le_trans (hs x hx) (by omega), Nat.lt_of_le_of_lt (h.pl.small (Nat.le_refl _) hV) hl, h.pl.isSg hsi.out⟩
end Go.Proofs.YtdcfemojkdoakaaDoor
