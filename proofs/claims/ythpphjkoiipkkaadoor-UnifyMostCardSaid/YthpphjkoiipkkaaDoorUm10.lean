/- Merged: MakeStep, MakeAll, SbSize, SbFirst, RegInv, SbOthersA, Range. -/
import Derived.Test.YthpphjkoiipkkaaDoorUm9
import Derived.Test.YthpphjkoiipkkaaDoorUm8
import Derived.Test.YthpphjkoiipkkaaDoorUm4
import Derived.Deep.RegionHeld
import Derived.Test.YthpphjkoiipkkaaDoorProg
import Derived.Test.YthpphjkoiipkkaaDoorUm6
/- The types that are made of numbers: a level more. -/
namespace Go.Proofs.YthpphjkoiipkkaaDoor
open Go.RowKit
attribute [local go_sem] Oper.semAt_some
attribute [local go_sem ↓] Go.wp_at_zero Go.wp_at_succ

theorem SeqAt.drew {B p : Nat} {a : Option Addr} {n c k : Nat} {w : World} (h : SeqAt B p a n c k w) : SeqAt B p a n c k w.drew := h
theorem MkFr.of_drew {B p : Nat} {w w' : World} (h : MkFr B p w.drew w') : MkFr B p w w' := ⟨⟨h.1.os, h.1.tape, h.1.output, h.1.size, h.1.block⟩, h.2⟩

set_option maxHeartbeats 4000000 in
theorem make_step (d : Int) (hd1 : 1 ≤ d) (hd2 : d ≤ 100) (M D : Nat) (hM : 2 ≤ M) (hD : 14 ≤ D) (B p : Nat) (a : Option Addr) (n c k : Nat) (w : World) (h : SeqAt B p a n c k w) (hk : k + 2 * M < 1152921504606846976) (hn : n < 1152921504606846976)
    (IH : ∀ k w, SeqAt B p a n c k w → k + M < 1152921504606846976 → Calls Tryd.prog 9 #[.pointer (some ⟨p, 0, none⟩), .int .i64 (d - 1)] w (MadeT B p a n c k M D w)) :
    Calls Tryd.prog 9 #[.pointer (some ⟨p, 0, none⟩), .int .i64 d] w (MadeT B p a n c k (2 * M) (2 * D) w) := by
  have hp := h.lt
  have HN := Lib.hid (fun o => next_any B p a n c k 9 (w.alloc o) (h.below ((Below.refl _ w).alloc (Nat.le_refl _) o)) (by decide) (by decide) (by omega) hn)
  have HNe := Lib.hid (show w.heap.size ≠ p by omega)
  have hw : IntKind.i64.wrap (d - 1) = d - 1 := by rw [IntKind.wrap_i64]; omega
  have HI := Lib.hid IH
  have HI2 := Lib.hid IH
  rw [← hw] at HI2
  clear hw
  clear h IH
  go_enter Tryd.func9, Tryd.ntmps9
  go_wp2_with (go_at_call 23; refine (HN.out _).mono ?_)
  rintro e W1 ⟨⟨r, hr, rfl⟩, h1, h2⟩
  have hz := h2.2 _ _ (alloc_new w _) HNe.out
  obtain ⟨c0, c1, c2⟩ := three_cells hz
  have f0 := Lib.frozen_of_heap hz 0
  have f1 := Lib.frozen_of_heap hz 1
  have f2 := Lib.frozen_of_heap hz 2
  have HZ := Lib.hid hz; have H1 := Lib.hid h1; have H2 := Lib.hid h2
  have hzl := (Array.getElem?_eq_some_iff.1 hz).1
  clear hz h1 h2
  obtain ⟨z, hz⟩ : ∃ z : Int, (r : Int) = z := ⟨_, rfl⟩
  rw [hz]
  have h9 : z = 0 ∨ z = 1 ∨ z = 2 ∨ z = 3 ∨ z = 4 ∨ z = 5 ∨ z = 6 ∨ z = 7 ∨ z = 8 := by omega
  clear hz hr
  rcases h9 with rfl | rfl | rfl | rfl | rfl | rfl | rfl | rfl | rfl
  · go_wp2_with (go_at_call 24; refine (var_any _ _).mono ?_)
    rintro e W2 ⟨⟨u, rfl, hu⟩, hb⟩
    have HBT := Lib.hid (((Below.refl _ W1).alloc (Nat.le_refl _) _).trans (hb.mono (by simp)))
    clear hb
    obtain ⟨a2, n2, rfl⟩ := hu.shape
    have hz2 : W2.heap[w.heap.size]? = some (.cells #[.int .i64 0, .string ⟨#[]⟩, .slice none 0 0] 29 (0, 0)) := (HBT.out.block _ hzl).trans HZ.out
    obtain ⟨d0, d1, d2⟩ := three_cells hz2
    have g0 := Lib.frozen_of_heap hz2 0
    have g1 := Lib.frozen_of_heap hz2 1
    have g2 := Lib.frozen_of_heap hz2 2
    have HZ2 := Lib.hid hz2; have HU := Lib.hid hu
    clear hz2 hu c0 c1 c2 f0 f1 f2
    simp only [tyV, T.kind, T.name, List.length_nil]
    go_wp2
    exact bodyPost_ret (v := .agg #[.int .i64 1, .string ⟨#[97]⟩, .slice a2 0 n2]) (by have hc := set3_cells HZ2.out (.int .i64 1) (.string ⟨#[97]⟩) (.slice a2 0 n2); simp [results, Tryd.results9, go_sem, hc.1, hc.2.1, hc.2.2]) rfl (made_fin (t := .var ⟨#[97]⟩) (H1.out.below HBT.out) (by omega) (H2.out.trans (MkFr.of_below HBT.out (Nat.le_trans H1.out.1.1 (Nat.le_of_lt H1.out.lt)))) hp HZ2.out HU.out (good_var (by decide) (by decide) (by omega)))
  · go_wp2_with (go_at_call 24; refine (var_any _ _).mono ?_)
    rintro e W2 ⟨⟨u, rfl, hu⟩, hb⟩
    have HBT := Lib.hid (((Below.refl _ W1).alloc (Nat.le_refl _) _).trans (hb.mono (by simp)))
    clear hb
    obtain ⟨a2, n2, rfl⟩ := hu.shape
    have hz2 : W2.heap[w.heap.size]? = some (.cells #[.int .i64 0, .string ⟨#[]⟩, .slice none 0 0] 29 (0, 0)) := (HBT.out.block _ hzl).trans HZ.out
    obtain ⟨d0, d1, d2⟩ := three_cells hz2
    have g0 := Lib.frozen_of_heap hz2 0
    have g1 := Lib.frozen_of_heap hz2 1
    have g2 := Lib.frozen_of_heap hz2 2
    have HZ2 := Lib.hid hz2; have HU := Lib.hid hu
    clear hz2 hu c0 c1 c2 f0 f1 f2
    simp only [tyV, T.kind, T.name, List.length_nil]
    go_wp2
    exact bodyPost_ret (v := .agg #[.int .i64 1, .string ⟨#[98]⟩, .slice a2 0 n2]) (by have hc := set3_cells HZ2.out (.int .i64 1) (.string ⟨#[98]⟩) (.slice a2 0 n2); simp [results, Tryd.results9, go_sem, hc.1, hc.2.1, hc.2.2]) rfl (made_fin (t := .var ⟨#[98]⟩) (H1.out.below HBT.out) (by omega) (H2.out.trans (MkFr.of_below HBT.out (Nat.le_trans H1.out.1.1 (Nat.le_of_lt H1.out.lt)))) hp HZ2.out HU.out (good_var (by decide) (by decide) (by omega)))
  · go_wp2_with (go_at_call 24; refine (var_any _ _).mono ?_)
    rintro e W2 ⟨⟨u, rfl, hu⟩, hb⟩
    have HBT := Lib.hid (((Below.refl _ W1).alloc (Nat.le_refl _) _).trans (hb.mono (by simp)))
    clear hb
    obtain ⟨a2, n2, rfl⟩ := hu.shape
    have hz2 : W2.heap[w.heap.size]? = some (.cells #[.int .i64 0, .string ⟨#[]⟩, .slice none 0 0] 29 (0, 0)) := (HBT.out.block _ hzl).trans HZ.out
    obtain ⟨d0, d1, d2⟩ := three_cells hz2
    have g0 := Lib.frozen_of_heap hz2 0
    have g1 := Lib.frozen_of_heap hz2 1
    have g2 := Lib.frozen_of_heap hz2 2
    have HZ2 := Lib.hid hz2; have HU := Lib.hid hu
    clear hz2 hu c0 c1 c2 f0 f1 f2
    simp only [tyV, T.kind, T.name, List.length_nil]
    go_wp2
    exact bodyPost_ret (v := .agg #[.int .i64 1, .string ⟨#[99]⟩, .slice a2 0 n2]) (by have hc := set3_cells HZ2.out (.int .i64 1) (.string ⟨#[99]⟩) (.slice a2 0 n2); simp [results, Tryd.results9, go_sem, hc.1, hc.2.1, hc.2.2]) rfl (made_fin (t := .var ⟨#[99]⟩) (H1.out.below HBT.out) (by omega) (H2.out.trans (MkFr.of_below HBT.out (Nat.le_trans H1.out.1.1 (Nat.le_of_lt H1.out.lt)))) hp HZ2.out HU.out (good_var (by decide) (by decide) (by omega)))
  · go_wp2_with (go_at_call 25; refine (con_any _ none [] 0 0 _ (TysAt.nil _ _ _)).mono ?_)
    rintro e W2 ⟨⟨u, rfl, hu⟩, hb⟩
    have HBT := Lib.hid hb
    clear hb
    obtain ⟨a2, n2, rfl⟩ := hu.shape
    have hz2 : W2.heap[w.heap.size]? = some (.cells #[.int .i64 0, .string ⟨#[]⟩, .slice none 0 0] 29 (0, 0)) := (HBT.out.block _ hzl).trans HZ.out
    obtain ⟨d0, d1, d2⟩ := three_cells hz2
    have g0 := Lib.frozen_of_heap hz2 0
    have g1 := Lib.frozen_of_heap hz2 1
    have g2 := Lib.frozen_of_heap hz2 2
    have HZ2 := Lib.hid hz2; have HU := Lib.hid hu
    clear hz2 hu c0 c1 c2 f0 f1 f2
    simp only [tyV, T.kind, T.name, List.length_nil]
    go_wp2
    exact bodyPost_ret (v := .agg #[.int .i64 2, .string ⟨#[73, 110, 116]⟩, .slice a2 0 n2]) (by have hc := set3_cells HZ2.out (.int .i64 2) (.string ⟨#[73, 110, 116]⟩) (.slice a2 0 n2); simp [results, Tryd.results9, go_sem, hc.1, hc.2.1, hc.2.2]) rfl (made_fin (t := .con ⟨#[73, 110, 116]⟩ []) (H1.out.below HBT.out) (by omega) (H2.out.trans (MkFr.of_below HBT.out (Nat.le_trans H1.out.1.1 (Nat.le_of_lt H1.out.lt)))) hp HZ2.out HU.out (good_con0 (by decide) (by decide) (by omega)))
  · go_wp2_with (go_at_call 25; refine (con_any _ none [] 0 0 _ (TysAt.nil _ _ _)).mono ?_)
    rintro e W2 ⟨⟨u, rfl, hu⟩, hb⟩
    have HBT := Lib.hid hb
    clear hb
    obtain ⟨a2, n2, rfl⟩ := hu.shape
    have hz2 : W2.heap[w.heap.size]? = some (.cells #[.int .i64 0, .string ⟨#[]⟩, .slice none 0 0] 29 (0, 0)) := (HBT.out.block _ hzl).trans HZ.out
    obtain ⟨d0, d1, d2⟩ := three_cells hz2
    have g0 := Lib.frozen_of_heap hz2 0
    have g1 := Lib.frozen_of_heap hz2 1
    have g2 := Lib.frozen_of_heap hz2 2
    have HZ2 := Lib.hid hz2; have HU := Lib.hid hu
    clear hz2 hu c0 c1 c2 f0 f1 f2
    simp only [tyV, T.kind, T.name, List.length_nil]
    go_wp2
    exact bodyPost_ret (v := .agg #[.int .i64 2, .string ⟨#[66, 111, 111, 108]⟩, .slice a2 0 n2]) (by have hc := set3_cells HZ2.out (.int .i64 2) (.string ⟨#[66, 111, 111, 108]⟩) (.slice a2 0 n2); simp [results, Tryd.results9, go_sem, hc.1, hc.2.1, hc.2.2]) rfl (made_fin (t := .con ⟨#[66, 111, 111, 108]⟩ []) (H1.out.below HBT.out) (by omega) (H2.out.trans (MkFr.of_below HBT.out (Nat.le_trans H1.out.1.1 (Nat.le_of_lt H1.out.lt)))) hp HZ2.out HU.out (good_con0 (by decide) (by decide) (by omega)))
  · go_wp2_with (go_at_call 9; refine (HI.out _ _ H1.out (by omega)).mono ?_)
    rintro e W2 ⟨⟨t, u, rfl, hg, hu⟩, ⟨k2, hk2, hs2⟩, hf2⟩
    obtain ⟨a2, n2, rfl⟩ := hu.shape
    have hz2 := hf2.2 _ _ HZ.out HNe.out
    have hzl2 := (Array.getElem?_eq_some_iff.1 hz2).1
    have HZ2 := Lib.hid hz2; have HU := Lib.hid hu; have HS2 := Lib.hid hs2; have HF2 := Lib.hid hf2; have HG := Lib.hid hg
    clear hz2 hu hs2 hf2 hg c0 c1 c2 f0 f1 f2
    simp only [tyV]
    go_wp2_with (go_at_call 25; refine (con_any _ _ [t] 1 1 _ (TysAt.one rfl (TyAt.mk t HU.out))).mono ?_)
    rintro e W3 ⟨⟨u3, rfl, hu3⟩, hb⟩
    obtain ⟨a3, n3, rfl⟩ := hu3.shape
    have HBT := Lib.hid (((Below.refl _ W2).alloc (Nat.le_refl _) _).trans (hb.mono (by simp)))
    have hz3 : W3.heap[w.heap.size]? = some (.cells #[.int .i64 0, .string ⟨#[]⟩, .slice none 0 0] 29 (0, 0)) := (HBT.out.block _ hzl2).trans HZ2.out
    obtain ⟨d0, d1, d2⟩ := three_cells hz3
    have g0 := Lib.frozen_of_heap hz3 0
    have g1 := Lib.frozen_of_heap hz3 1
    have g2 := Lib.frozen_of_heap hz3 2
    have HZ3 := Lib.hid hz3; have HU3 := Lib.hid hu3
    clear hz3 hu3 hb
    simp only [tyV, show (T.con ⟨#[76, 105, 115, 116]⟩ [t]).kind = 2 from rfl, show (T.con ⟨#[76, 105, 115, 116]⟩ [t]).name = ⟨#[76, 105, 115, 116]⟩ from rfl, List.length_cons, List.length_nil]
    go_wp2
    exact bodyPost_ret (v := .agg #[.int .i64 2, .string ⟨#[76, 105, 115, 116]⟩, .slice a3 1 n3]) (by have hc := set3_cells HZ3.out (.int .i64 2) (.string ⟨#[76, 105, 115, 116]⟩) (.slice a3 1 n3); simp [results, Tryd.results9, go_sem, hc.1, hc.2.1, hc.2.2]) rfl (made_fin (t := .con ⟨#[76, 105, 115, 116]⟩ [t]) (HS2.out.below HBT.out) (by omega) ((H2.out.trans HF2.out).trans (MkFr.of_below HBT.out (Nat.le_trans HS2.out.1.1 (Nat.le_of_lt HS2.out.lt)))) hp HZ3.out HU3.out (good_con1 (by decide) (by decide) HG.out (Nat.le_refl _) hD))
  · go_wp2_with (go_at_call 9; refine (HI.out _ _ H1.out (by omega)).mono ?_)
    rintro e W2 ⟨⟨t, u, rfl, hg, hu⟩, ⟨k2, hk2, hs2⟩, hf2⟩
    obtain ⟨a2, n2, rfl⟩ := hu.shape
    have hz2 := hf2.2 _ _ HZ.out HNe.out
    have hzl2 := (Array.getElem?_eq_some_iff.1 hz2).1
    have HZ2 := Lib.hid hz2; have HU := Lib.hid hu; have HS2 := Lib.hid hs2; have HF2 := Lib.hid hf2; have HG := Lib.hid hg
    clear hz2 hu hs2 hf2 hg c0 c1 c2 f0 f1 f2
    simp only [tyV]
    go_wp2_with fail
    have hbx := alloc_new W2 (.cells #[.int .i64 t.kind, .string t.name, .slice a2 t.kids.length n2] 29)
    have HBX := Lib.hid hbx
    have hne2 : W2.heap.size ≠ p := by have := HS2.out.lt; omega
    have HNe2 := Lib.hid hne2
    clear hbx hne2
    go_region_with (first
      | (go_at_call 9; refine (HI2.out k2 _ ?hs ?hk).mono ?_; (case hs => exact SeqAt.drew (HS2.out.below ((Below.refl _ W2).alloc (Nat.le_refl _) _))); (case hk => omega); rintro e W3 ⟨⟨t3, u3, rfl, hg3, hu3⟩, ⟨k3, hk3, hs3⟩, hf3'⟩; have hf3 := MkFr.of_drew hf3'; clear hf3'; obtain ⟨a3, n3, rfl⟩ := hu3.shape; have hbx3 := hf3.2 _ _ HBX.out HNe2.out; obtain ⟨x0, x1, x2⟩ := three_cells hbx3; have hz3 := hf3.2 _ _ ((Below.heap_alloc W2 _ _ hzl2).trans HZ2.out) HNe.out; have hzl3 := (Array.getElem?_eq_some_iff.1 hz3).1; have HZ3 := Lib.hid hz3; have HS3 := Lib.hid hs3; have HF3 := Lib.hid hf3; have HU3 := Lib.hid hu3; have HG3 := Lib.hid hg3; have HUt := Lib.hid (HU.out.keep ((keepT_alloc W2 _).trans (KeepT.of_mk hf3 (HS2.out.below ((Below.refl _ W2).alloc (Nat.le_refl _) _))))); clear hz3 hs3 hf3 hu3 hg3 hbx3; simp only [tyV])
      | (go_at_call 25; refine (con_any _ _ [t, t3] 2 2 _ (TysAt.two rfl (TyAt.mk t HUt.out) (TyAt.mk t3 HU3.out))).mono ?_; rintro e W4 ⟨⟨u4, rfl, hu4⟩, hb4⟩; obtain ⟨a4, n4, rfl⟩ := hu4.shape; have HBT := Lib.hid (((Below.refl _ W3).alloc (Nat.le_refl _) _).trans (hb4.mono (by simp))); have hz4 : W4.heap[w.heap.size]? = some (.cells #[.int .i64 0, .string ⟨#[]⟩, .slice none 0 0] 29 (0, 0)) := (HBT.out.block _ hzl3).trans HZ3.out; obtain ⟨d0, d1, d2⟩ := three_cells hz4; have g0 := Lib.frozen_of_heap hz4 0; have g1 := Lib.frozen_of_heap hz4 1; have g2 := Lib.frozen_of_heap hz4 2; have HZ4 := Lib.hid hz4; have HU4 := Lib.hid hu4; clear hz4 hu4 hb4; simp only [tyV, show (T.con ⟨#[80, 97, 105, 114]⟩ [t, t3]).kind = 2 from rfl, show (T.con ⟨#[80, 97, 105, 114]⟩ [t, t3]).name = ⟨#[80, 97, 105, 114]⟩ from rfl, List.length_cons, List.length_nil]))
    all_goals go_wp2
    all_goals exact bodyPost_ret (v := .agg #[.int .i64 2, .string ⟨#[80, 97, 105, 114]⟩, .slice a4 2 n4]) (by have hc := set3_cells HZ4.out (.int .i64 2) (.string ⟨#[80, 97, 105, 114]⟩) (.slice a4 2 n4); simp [results, Tryd.results9, go_sem, hc.1, hc.2.1, hc.2.2]) rfl (made_fin (t := T.con ⟨#[80, 97, 105, 114]⟩ [t, t3]) (HS3.out.below HBT.out) (by omega) (((H2.out.trans HF2.out).trans ((MkFr.of_below ((Below.refl _ W2).alloc (Nat.le_refl _) _) (Nat.le_trans HS2.out.1.1 (Nat.le_of_lt HS2.out.lt))).trans HF3.out)).trans (MkFr.of_below HBT.out (Nat.le_trans HS3.out.1.1 (Nat.le_of_lt HS3.out.lt)))) hp HZ4.out HU4.out (good_con2 (by decide) (by decide) HG.out HG3.out (Nat.le_refl _)))
  · go_wp2_with (go_at_call 9; refine (HI.out _ _ H1.out (by omega)).mono ?_)
    rintro e W2 ⟨⟨t, u, rfl, hg, hu⟩, ⟨k2, hk2, hs2⟩, hf2⟩
    obtain ⟨a2, n2, rfl⟩ := hu.shape
    have hz2 := hf2.2 _ _ HZ.out HNe.out
    have hzl2 := (Array.getElem?_eq_some_iff.1 hz2).1
    have HZ2 := Lib.hid hz2; have HU := Lib.hid hu; have HS2 := Lib.hid hs2; have HF2 := Lib.hid hf2; have HG := Lib.hid hg
    clear hz2 hu hs2 hf2 hg c0 c1 c2 f0 f1 f2
    simp only [tyV]
    go_wp2_with fail
    have hbx := alloc_new W2 (.cells #[.int .i64 t.kind, .string t.name, .slice a2 t.kids.length n2] 29)
    have HBX := Lib.hid hbx
    have hne2 : W2.heap.size ≠ p := by have := HS2.out.lt; omega
    have HNe2 := Lib.hid hne2
    clear hbx hne2
    go_region_with (first
      | (go_at_call 9; refine (HI2.out k2 _ ?hs ?hk).mono ?_; (case hs => exact SeqAt.drew (HS2.out.below ((Below.refl _ W2).alloc (Nat.le_refl _) _))); (case hk => omega); rintro e W3 ⟨⟨t3, u3, rfl, hg3, hu3⟩, ⟨k3, hk3, hs3⟩, hf3'⟩; have hf3 := MkFr.of_drew hf3'; clear hf3'; obtain ⟨a3, n3, rfl⟩ := hu3.shape; have hbx3 := hf3.2 _ _ HBX.out HNe2.out; obtain ⟨x0, x1, x2⟩ := three_cells hbx3; have hz3 := hf3.2 _ _ ((Below.heap_alloc W2 _ _ hzl2).trans HZ2.out) HNe.out; have hzl3 := (Array.getElem?_eq_some_iff.1 hz3).1; have HZ3 := Lib.hid hz3; have HS3 := Lib.hid hs3; have HF3 := Lib.hid hf3; have HU3 := Lib.hid hu3; have HG3 := Lib.hid hg3; have HUt := Lib.hid (HU.out.keep ((keepT_alloc W2 _).trans (KeepT.of_mk hf3 (HS2.out.below ((Below.refl _ W2).alloc (Nat.le_refl _) _))))); clear hz3 hs3 hf3 hu3 hg3 hbx3; simp only [tyV])
      | (go_at_call 26; refine (fun2_any t t3 _ _ _ _ _ HUt.out HU3.out).mono ?_; rintro e W4 ⟨⟨u4, rfl, hu4⟩, hb4⟩; obtain ⟨a4, n4, rfl⟩ := hu4.shape; have HBT := Lib.hid hb4; have hz4 : W4.heap[w.heap.size]? = some (.cells #[.int .i64 0, .string ⟨#[]⟩, .slice none 0 0] 29 (0, 0)) := (HBT.out.block _ hzl3).trans HZ3.out; obtain ⟨d0, d1, d2⟩ := three_cells hz4; have g0 := Lib.frozen_of_heap hz4 0; have g1 := Lib.frozen_of_heap hz4 1; have g2 := Lib.frozen_of_heap hz4 2; have HZ4 := Lib.hid hz4; have HU4 := Lib.hid hu4; clear hz4 hu4 hb4; simp only [tyV, show (T.fn t t3).kind = 3 from rfl, show (T.fn t t3).name = ⟨#[]⟩ from rfl, List.length_cons, List.length_nil]))
    all_goals go_wp2
    all_goals exact bodyPost_ret (v := .agg #[.int .i64 3, .string ⟨#[]⟩, .slice a4 2 n4]) (by have hc := set3_cells HZ4.out (.int .i64 3) (.string ⟨#[]⟩) (.slice a4 2 n4); simp [results, Tryd.results9, go_sem, hc.1, hc.2.1, hc.2.2]) rfl (made_fin (t := T.fn t t3) (HS3.out.below HBT.out) (by omega) (((H2.out.trans HF2.out).trans ((MkFr.of_below ((Below.refl _ W2).alloc (Nat.le_refl _) _) (Nat.le_trans HS2.out.1.1 (Nat.le_of_lt HS2.out.lt))).trans HF3.out)).trans (MkFr.of_below HBT.out (Nat.le_trans HS3.out.1.1 (Nat.le_of_lt HS3.out.lt)))) hp HZ4.out HU4.out (good_fn HG.out HG3.out (Nat.le_refl _)))
  · go_wp2_with (go_at_call 9; refine (HI.out _ _ H1.out (by omega)).mono ?_)
    rintro e W2 ⟨⟨t, u, rfl, hg, hu⟩, ⟨k2, hk2, hs2⟩, hf2⟩
    obtain ⟨a2, n2, rfl⟩ := hu.shape
    have hz2 := hf2.2 _ _ HZ.out HNe.out
    have hzl2 := (Array.getElem?_eq_some_iff.1 hz2).1
    have HZ2 := Lib.hid hz2; have HU := Lib.hid hu; have HS2 := Lib.hid hs2; have HF2 := Lib.hid hf2; have HG := Lib.hid hg
    clear hz2 hu hs2 hf2 hg c0 c1 c2 f0 f1 f2
    simp only [tyV]
    go_wp2_with fail
    have hbx := alloc_new W2 (.cells #[.int .i64 t.kind, .string t.name, .slice a2 t.kids.length n2] 29)
    have HBX := Lib.hid hbx
    have hne2 : W2.heap.size ≠ p := by have := HS2.out.lt; omega
    have HNe2 := Lib.hid hne2
    clear hbx hne2
    go_region_with (first
      | (go_at_call 9; refine (HI2.out k2 _ ?hs ?hk).mono ?_; (case hs => exact SeqAt.drew (HS2.out.below ((Below.refl _ W2).alloc (Nat.le_refl _) _))); (case hk => omega); rintro e W3 ⟨⟨t3, u3, rfl, hg3, hu3⟩, ⟨k3, hk3, hs3⟩, hf3'⟩; have hf3 := MkFr.of_drew hf3'; clear hf3'; obtain ⟨a3, n3, rfl⟩ := hu3.shape; have hbx3 := hf3.2 _ _ HBX.out HNe2.out; obtain ⟨x0, x1, x2⟩ := three_cells hbx3; have hz3 := hf3.2 _ _ ((Below.heap_alloc W2 _ _ hzl2).trans HZ2.out) HNe.out; have hzl3 := (Array.getElem?_eq_some_iff.1 hz3).1; have HZ3 := Lib.hid hz3; have HS3 := Lib.hid hs3; have HF3 := Lib.hid hf3; have HU3 := Lib.hid hu3; have HG3 := Lib.hid hg3; have HUt := Lib.hid (HU.out.keep ((keepT_alloc W2 _).trans (KeepT.of_mk hf3 (HS2.out.below ((Below.refl _ W2).alloc (Nat.le_refl _) _))))); clear hz3 hs3 hf3 hu3 hg3 hbx3; simp only [tyV])
      | (go_at_call 26; refine (fun2_any t t3 _ _ _ _ _ HUt.out HU3.out).mono ?_; rintro e W4 ⟨⟨u4, rfl, hu4⟩, hb4⟩; obtain ⟨a4, n4, rfl⟩ := hu4.shape; have HBT := Lib.hid hb4; have hz4 : W4.heap[w.heap.size]? = some (.cells #[.int .i64 0, .string ⟨#[]⟩, .slice none 0 0] 29 (0, 0)) := (HBT.out.block _ hzl3).trans HZ3.out; obtain ⟨d0, d1, d2⟩ := three_cells hz4; have g0 := Lib.frozen_of_heap hz4 0; have g1 := Lib.frozen_of_heap hz4 1; have g2 := Lib.frozen_of_heap hz4 2; have HZ4 := Lib.hid hz4; have HU4 := Lib.hid hu4; clear hz4 hu4 hb4; simp only [tyV, show (T.fn t t3).kind = 3 from rfl, show (T.fn t t3).name = ⟨#[]⟩ from rfl, List.length_cons, List.length_nil]))
    all_goals go_wp2
    all_goals exact bodyPost_ret (v := .agg #[.int .i64 3, .string ⟨#[]⟩, .slice a4 2 n4]) (by have hc := set3_cells HZ4.out (.int .i64 3) (.string ⟨#[]⟩) (.slice a4 2 n4); simp [results, Tryd.results9, go_sem, hc.1, hc.2.1, hc.2.2]) rfl (made_fin (t := T.fn t t3) (HS3.out.below HBT.out) (by omega) (((H2.out.trans HF2.out).trans ((MkFr.of_below ((Below.refl _ W2).alloc (Nat.le_refl _) _) (Nat.le_trans HS2.out.1.1 (Nat.le_of_lt HS2.out.lt))).trans HF3.out)).trans (MkFr.of_below HBT.out (Nat.le_trans HS3.out.1.1 (Nat.le_of_lt HS3.out.lt)))) hp HZ4.out HU4.out (good_fn HG.out HG3.out (Nat.le_refl _)))
end Go.Proofs.YthpphjkoiipkkaaDoor
/- Types of depth three, of depth four, made of numbers. -/
namespace Go.Proofs.YthpphjkoiipkkaaDoor
open Go.RowKit

theorem make_type1 (B p : Nat) (a : Option Addr) (n c k : Nat) (w : World) (h : SeqAt B p a n c k w) (hk : k + 4 < 1152921504606846976) (hn : n < 1152921504606846976) :
    Calls Tryd.prog 9 #[.pointer (some ⟨p, 0, none⟩), .int .i64 1] w (MadeT B p a n c k 4 28 w) :=
  make_step 1 (by decide) (by decide) 2 14 (by decide) (by decide) B p a n c k w h hk hn (fun k w h hk => make_type0 B p a n c k w h (by omega) hn)
theorem make_type2 (B p : Nat) (a : Option Addr) (n c k : Nat) (w : World) (h : SeqAt B p a n c k w) (hk : k + 8 < 1152921504606846976) (hn : n < 1152921504606846976) :
    Calls Tryd.prog 9 #[.pointer (some ⟨p, 0, none⟩), .int .i64 2] w (MadeT B p a n c k 8 56 w) :=
  make_step 2 (by decide) (by decide) 4 28 (by decide) (by decide) B p a n c k w h hk hn (fun k w h hk => make_type1 B p a n c k w h hk hn)
theorem make_type3 (B p : Nat) (a : Option Addr) (n c k : Nat) (w : World) (h : SeqAt B p a n c k w) (hk : k + 16 < 1152921504606846976) (hn : n < 1152921504606846976) :
    Calls Tryd.prog 9 #[.pointer (some ⟨p, 0, none⟩), .int .i64 3] w (MadeT B p a n c k 16 112 w) :=
  make_step 3 (by decide) (by decide) 8 56 (by decide) (by decide) B p a n c k w h hk hn (fun k w h hk => make_type2 B p a n c k w h hk hn)
theorem make_type4 (B p : Nat) (a : Option Addr) (n c k : Nat) (w : World) (h : SeqAt B p a n c k w) (hk : k + 32 < 1152921504606846976) (hn : n < 1152921504606846976) :
    Calls Tryd.prog 9 #[.pointer (some ⟨p, 0, none⟩), .int .i64 4] w (MadeT B p a n c k 32 224 w) :=
  make_step 4 (by decide) (by decide) 16 112 (by decide) (by decide) B p a n c k w h hk hn (fun k w h hk => make_type3 B p a n c k w h hk hn)
end Go.Proofs.YthpphjkoiipkkaaDoor
/- The document's Size; how long a type's text is. -/
namespace Go.Proofs.YthpphjkoiipkkaaDoor
open Go.RowKit
attribute [local go_sem] Oper.semAt_some

theorem vname_pos {n : ByteArray} (h : n.data.toList ∈ T.vnames) : 1 ≤ n.data.toList.length ∧ n.size ≤ 4 := by
  rw [Lib.size_eq]
  simp [T.vnames] at h
  rcases h with h | h | h <;> rw [h] <;> decide
theorem cname_pos {n : ByteArray} (h : n.data.toList ∈ T.cnames) : 1 ≤ n.data.toList.length ∧ n.size ≤ 4 := by
  rw [Lib.size_eq]
  simp [T.cnames] at h
  rcases h with h | h | h | h <;> rw [h] <;> decide
theorem br_ge (b : Bool) (s : List UInt8) : s.length ≤ (T.br b s).length := by
  unfold T.br; split <;> simp <;> omega
mutual
theorem size_text (t : T) (h : T.Good t) : tsize t ≤ (T.text t).length := by
  cases t with
  | var n => rw [T.Good] at h; rw [tsize, T.text]; exact (vname_pos h).1
  | con n l =>
    rw [T.Good] at h
    rw [tsize, T.text, List.length_append]
    have := (cname_pos h.1).1
    have := sizes_text l h.2
    omega
  | fn a b =>
    rw [T.Good] at h
    rw [tsize, T.text]
    have := size_text a h.1; have := size_text b h.2; have := br_ge a.arrow a.text
    simp only [List.length_append, List.length_cons, List.length_nil]
    omega
  | all n a => rw [T.Good] at h; exact h.elim
theorem sizes_text (l : List T) (h : T.Goods l) : tsizes l ≤ (T.texts l).length := by
  cases l with
  | nil => simp [tsizes]
  | cons a l =>
    rw [T.Goods] at h
    rw [tsizes, T.texts_cons]
    have := size_text a h.1; have := sizes_text l h.2; have := br_ge a.wide a.text
    simp only [List.length_append, List.length_cons, List.length_nil, T.arg]
    omega
end
end Go.Proofs.YthpphjkoiipkkaaDoor
/- The chapter's example holds; rows that are written out. -/
namespace Go.Proofs.YthpphjkoiipkkaaDoor
open Go.RowKit Go.Sort Go.Lib
attribute [local go_sem] Oper.semAt_some

theorem rowP_one {w : World} {b : Nat} (x : PR) (h : w.heap[b]? = some (.cells #[.string x.n, .int .i64 x.t.kind, .string x.t.name, .slice x.a x.t.kids.length x.c] 93 (0, 0))) : RowP b [x] w := by
  refine ⟨_, h, by simp, fun i hi => ?_⟩
  obtain rfl : i = 0 := by simpa using hi
  exact ⟨rfl, rfl, rfl, rfl⟩
theorem rowP_two {w : World} {b : Nat} (x y : PR) (h : w.heap[b]? = some (.cells #[.string x.n, .int .i64 x.t.kind, .string x.t.name, .slice x.a x.t.kids.length x.c, .string y.n, .int .i64 y.t.kind, .string y.t.name, .slice y.a y.t.kids.length y.c] 93 (0, 0))) : RowP b [x, y] w := by
  refine ⟨_, h, by simp, fun i hi => ?_⟩
  match i, hi with
  | 0, _ => exact ⟨rfl, rfl, rfl, rfl⟩
  | 1, _ => exact ⟨rfl, rfl, rfl, rfl⟩
  | n + 2, hi => simp at hi; omega
theorem SubAt.shape {v : Value} {d : List PR} {w : World} (h : SubAt v d w) : ∃ a c, v = .slice a d.length c := by
  rcases h.1.1 with ⟨rfl, a, c, rfl, _⟩ | ⟨g, cap, rfl, _⟩
  · exact ⟨a, c, rfl⟩
  · exact ⟨_, _, rfl⟩
set_option maxRecDepth 100000 in
set_option maxHeartbeats 1000000 in
theorem len_any (a : Option Addr) (n c : Nat) (w : World) :
    Calls Tryd.prog 21 #[.agg #[.slice a n c]] w fun e w' => e = .returned (.int .i64 (n : Int)) ∧ Below w.heap.size w w' := by
  have HB := Lib.hid (fun o => (Below.refl _ w).alloc (Nat.le_refl _) o)
  go_enter Tryd.func21, Tryd.ntmps21
  go_wp2
  go_ret
  exact ⟨rfl, HB.out _⟩
theorem made_ty {d l : List PR} (h : Made d l) : ∀ t, app l t = app d t := app_congr h.same
theorem fits_small {t : T} (h : tsize t ≤ 1000000000) : Fits t := by
  refine T.by_kids (P := fun t => tsize t ≤ 1000000000 → Fits t) (fun t H ht => ?_) t h
  obtain ⟨h1, h2⟩ := kids_small ht
  exact .mk t (by omega) (fun k hk => H k hk (h2 k hk))
theorem ty_cons (n : ByteArray) (x : PR) (l : List PR) : ty n (x :: l) = if x.n = n then x.t else ty n l := by
  unfold ty; rw [lk_cons]
  by_cases h : x.n = n
  · rw [if_pos h, if_pos h]; rfl
  · rw [if_neg h, if_neg h]
theorem ty_nil (n : ByteArray) : ty n [] = .var n := rfl
theorem leaf_at (t : T) (h : t.kids = []) (w : World) (a : Option Addr) (c : Nat) : TysAt w (.slice a t.kids.length c) t.kids := by rw [h]; exact TysAt.nil w a c

def tA : T := .var ⟨#[97]⟩
def tB : T := .var ⟨#[98]⟩
def tInt : T := .con ⟨#[73, 110, 116]⟩ []
def pInt : PR := ⟨⟨#[97]⟩, tInt, none, 0⟩
theorem app_int : app [pInt] tA = tInt := by rw [tA, app, ty_cons]; exact if_pos rfl
end Go.Proofs.YthpphjkoiipkkaaDoor
/- A region that draws its order, by an invariant: each operation is run once, at whatever state meets the facts on those that it waits for. -/
namespace Go.Proofs.YthpphjkoiipkkaaDoor

def upd (x : Nat → Value) (i : Nat) (v : Value) : Nat → Value := fun j => if j = i then v else x j
theorem upd_same (x : Nat → Value) (i : Nat) (v : Value) : upd x i v i = v := by simp [upd]
theorem upd_other (x : Nat → Value) {i j : Nat} (v : Value) (h : j ≠ i) : upd x i v j = x j := by simp [upd, h]

def AllAt (f : Nat → Oper → Prop) : Nat → List Oper → Prop
  | _, [] => True
  | n, o :: os => f n o ∧ AllAt f (n + 1) os

theorem AllAt.get {f : Nat → Oper → Prop} : ∀ {l : List Oper} {n : Nat}, AllAt f n l → ∀ {i : Nat} {o : Oper}, l[i]? = some o → f (n + i) o
  | [], _, _, i, o, h => by simp at h
  | a :: l, n, hl, 0, o, h => by simp at h; subst h; exact hl.1
  | a :: l, n, hl, i + 1, o, h => by
    have := AllAt.get hl.2 (i := i) (o := o) (by simpa using h)
    rw [show n + (i + 1) = n + 1 + i by omega]; exact this

/-- What is asked of operation 'o', number 'i'. -/
structure StepAt (P : Program) (fr : (Nat → Value) → Act) (S : World → Prop) (Rel : World → World → Prop) (Vals : Nat → Value → World → Prop)
    (ops : Array Oper) (Q : Exit → Act → World → Prop) (i : Nat) (o : Oper) : Prop where
  back : ∀ e ∈ o.after, Region.binds .any e = true → e.on < i
  put : ∀ x v, (fr x).put o.dst v = fr (upd x i v)
  run : ∀ (x : Nat → Value) (w : World), S w → (∀ e ∈ o.after, Region.binds .any e = true → Vals e.on (x e.on) w) →
    ∀ K : Act → World → Prop, (∀ v w', Rel w w' → Vals i v w' → K ((fr x).put o.dst v) w') →
      if Region.wanted o (yielded ops (fr x).tmps) = true then Oper.wp P o (fr x) w K Q else K ((fr x).put o.dst undef) w

section
variable {P : Program} {ops : Array Oper} {Q : Exit → Act → World → Prop} {fr : (Nat → Value) → Act} {S : World → Prop} {Rel : World → World → Prop} {Vals : Nat → Value → World → Prop}

theorem all_of_none (hback : ∀ i o, ops[i]? = some o → ∀ e ∈ o.after, Region.binds .any e = true → e.on < i) {listed : Array Bool} (hz : listed.size = ops.size)
    (h : Region.ready .any ops listed = []) : ∀ i, i < ops.size → listed.getD i false = true := by
  intro i
  induction i using Nat.strongRecOn with
  | ind i ih =>
    intro hi
    cases hl : listed.getD i false with
    | true => rfl
    | false =>
      have : i ∈ Region.ready .any ops listed := mem_ready.2 ⟨by
        have : i < listed.size := by omega
        simp [this] at hl ⊢; exact hl, ops[i], Array.getElem?_eq_getElem hi, fun e he hb => by
          have hlt := hback i ops[i] (Array.getElem?_eq_getElem hi) e he hb
          exact ih e.on hlt (by omega)⟩
      rw [h] at this; cases this

theorem inv_any (hput : ∀ i o, ops[i]? = some o → StepAt P fr S Rel Vals ops Q i o)
    (hrel : ∀ w w', S w → Rel w w' → S w') (hval : ∀ i v w w', S w → Vals i v w → Rel w w' → Vals i v w')
    (hfin : ∀ x w, S w → (∀ i, i < ops.size → Vals i (x i) w) → Q .normal (fr x) w) :
    ∀ (fuel : Nat) (listed : Array Bool) (x : Nat → Value) (w : World), listed.size = ops.size → ops.size ≤ fuel + listed.toList.count true → S w →
      (∀ i, listed.getD i false = true → Vals i (x i) w) → wpAny P .any ops Q fuel listed (fr x) w := by
  have hend : ∀ (listed : Array Bool) (x : Nat → Value) (w : World), listed.size = ops.size → S w → (∀ i, listed.getD i false = true → Vals i (x i) w) →
      Region.ready .any ops listed = [] → Q .normal (fr x) w := fun listed x w hz hS hV h =>
    hfin x w hS fun i hi => hV i (all_of_none (fun i o h => (hput i o h).back) hz h i hi)
  intro fuel
  induction fuel with
  | zero =>
    intro listed x w hz hc hS hV
    have hall : listed.toList.count true = listed.toList.length := by
      have := List.count_le_length (a := true) (l := listed.toList)
      simp at this hc ⊢; omega
    have hr : Region.ready .any ops listed = [] := by
      cases h : Region.ready .any ops listed with
      | nil => rfl
      | cons i l =>
        have hi : i ∈ Region.ready .any ops listed := by rw [h]; simp
        obtain ⟨h0, o, ho, _⟩ := mem_ready.1 hi
        have hlt : i < listed.size := by rw [hz]; exact (Array.getElem?_eq_some_iff.1 ho).1
        have := List.count_eq_length.1 hall listed[i] (by simp)
        simp [hlt] at h0
        rw [h0] at this; cases this
    exact ⟨hr, hend listed x w hz hS hV hr⟩
  | succ fuel ih =>
    intro listed x w hz hc hS hV
    refine ⟨hend listed x w hz hS hV, fun i hi => ?_⟩
    obtain ⟨h0, o, ho, hdep⟩ := mem_ready.1 hi
    have hlt : i < listed.size := by rw [hz]; exact (Array.getElem?_eq_some_iff.1 ho).1
    have h0' : listed[i] = false := by simpa [hlt] using h0
    have H := hput i o ho
    have hK : ∀ v w', Rel w w' → Vals i v w' → wpAny P .any ops Q fuel (listed.setIfInBounds i true) ((fr x).put o.dst v) w' := fun v w' hr hv => by
      rw [H.put]
      refine ih _ _ _ (by simpa using hz) ?_ (hrel w w' hS hr) fun j hj => ?_
      · have : (listed.setIfInBounds i true).toList.count true = listed.toList.count true + 1 := by
          rw [Array.toList_setIfInBounds, List.count_set (by simpa using hlt)]
          simp [h0']
        omega
      · by_cases hji : j = i
        · subst hji; rw [upd_same]; exact hv
        · rw [upd_other x v hji]
          exact hval _ _ _ _ hS (hV j (by rw [getD_set_ne false (Ne.symm hji)] at hj; exact hj)) hr
    have := H.run x w hS (fun e he hb => hV e.on (hdep e he hb)) _ hK
    unfold wpOp
    simp only [ho]
    split
    · rename_i hw; rw [if_pos hw] at this; exact .inl this
    · rename_i hw; rw [if_neg hw] at this; exact this

theorem region_inv (fr : (Nat → Value) → Act) (S : World → Prop) (Rel : World → World → Prop) (Vals : Nat → Value → World → Prop) (x0 : Nat → Value) {id : Nat} {a : Act} {w : World}
    (hm : P.follows .mixedOrders = true) (ha : a = fr x0) (hS : S w.drew)
    (hrel : ∀ w w', S w → Rel w w' → S w') (hval : ∀ i v w w', S w → Vals i v w → Rel w w' → Vals i v w')
    (hops : AllAt (StepAt P fr S Rel Vals ops Q) 0 ops.toList)
    (hfin : ∀ x w, S w → (∀ i, i < ops.size → Vals i (x i) w) → Q .normal (fr x) w) : (Code.region id ops true).wp P Q a w := by
  subst ha
  refine wp_region_any hm ?_
  exact inv_any (fun i o h => by have := hops.get (i := i) (o := o) (by simpa using h); rwa [Nat.zero_add] at this) hrel hval hfin _ _ _ _ (by simp) (by simp) hS
    (fun i hi => by
      by_cases h : i < ops.size
      · simp [h] at hi
      · simp [h] at hi)
end
end Go.Proofs.YthpphjkoiipkkaaDoor
/- SubstOthers: plain facts; what its last statement keeps. -/
namespace Go.Proofs.YthpphjkoiipkkaaDoor
open Go.RowKit Go.Sort Go.Lib
attribute [local go_sem] Oper.semAt_some

/-- Type t lies in block b. -/
def BoxT (b : Nat) (t : T) (a : Option Addr) (c : Nat) (w : World) : Prop :=
  w.heap[b]? = some (.cells #[.int .i64 t.kind, .string t.name, .slice a t.kids.length c] 29 (0, 0)) ∧ TysAt w (.slice a t.kids.length c) t.kids
theorem BoxT.below {b : Nat} {t : T} {a : Option Addr} {c : Nat} {w W : World} (h : BoxT b t a c w) (hb : Below w.heap.size w W) : BoxT b t a c W :=
  ⟨(hb.block b (Array.getElem?_eq_some_iff.1 h.1).1).trans h.1, h.2.keep (KeepT.of_below hb)⟩
theorem BoxT.alloc {b : Nat} {t : T} {a : Option Addr} {c : Nat} {w : World} (h : BoxT b t a c w) (o : Obj) : BoxT b t a c (w.alloc o) := h.below ((Below.refl _ w).alloc (Nat.le_refl _) o)
theorem BoxT.new {t : T} {a : Option Addr} {c : Nat} {w : World} (h : TysAt w (.slice a t.kids.length c) t.kids) : BoxT w.heap.size t a c (w.alloc (.cells #[.int .i64 t.kind, .string t.name, .slice a t.kids.length c] 29)) :=
  ⟨alloc_new w _, h.keep (keepT_alloc w _)⟩
theorem BoxT.cells {b : Nat} {t : T} {a : Option Addr} {c : Nat} {w : World} (h : BoxT b t a c w) : w.cell? ⟨b, 0, none⟩ = some (.int .i64 t.kind) ∧ w.cell? ⟨b, 1, none⟩ = some (.string t.name) ∧ w.cell? ⟨b, 2, none⟩ = some (.slice a t.kids.length c) := three_cells h.1
theorem BoxT.lt {b : Nat} {t : T} {a : Option Addr} {c : Nat} {w : World} (h : BoxT b t a c w) : b < w.heap.size := (Array.getElem?_eq_some_iff.1 h.1).1
/-- Types for variables lie in block b. -/
def BoxS (b : Nat) (v : Value) (d : List PR) (w : World) : Prop := w.heap[b]? = some (.cells #[v] 33 (0, 0)) ∧ SubAt v d w
theorem BoxS.below {b : Nat} {v : Value} {d : List PR} {w W : World} (h : BoxS b v d w) (hb : Below w.heap.size w W) : BoxS b v d W := ⟨(hb.block b (Array.getElem?_eq_some_iff.1 h.1).1).trans h.1, h.2.below hb⟩
theorem BoxS.alloc {b : Nat} {v : Value} {d : List PR} {w : World} (h : BoxS b v d w) (o : Obj) : BoxS b v d (w.alloc o) := h.below ((Below.refl _ w).alloc (Nat.le_refl _) o)
theorem BoxS.new {v : Value} {d : List PR} {w : World} (h : SubAt v d w) : BoxS w.heap.size v d (w.alloc (.cells #[v] 33)) := ⟨alloc_new w _, h.below ((Below.refl _ w).alloc (Nat.le_refl _) _)⟩
theorem BoxS.cell {b : Nat} {v : Value} {d : List PR} {w : World} (h : BoxS b v d w) : w.cell? ⟨b, 0, none⟩ = some v := by rw [Lib.cell_of_heap h.1]; rfl
theorem BoxS.lt {b : Nat} {v : Value} {d : List PR} {w : World} (h : BoxS b v d w) : b < w.heap.size := (Array.getElem?_eq_some_iff.1 h.1).1
theorem with_calls {P : Program} {f : Nat} {args : Array Value} {R : Ending → World → Prop} {w : World} (S : World → Prop) (h : S w) (k : ∀ W, S W → Calls P f args W R) : Calls P f args w R := k w h
theorem seq_new {w0 w : World} {a : Option Addr} {n c : Nat} (hb : Below w0.heap.size w0 w) (hl : IntsAt w0.heap.size a n w0) : SeqAt w0.heap.size w.heap.size a n c 0 (w.alloc (.cells #[.slice a n c, .int .i64 0] 26)) :=
  ⟨⟨hb.size, alloc_new w _⟩, hl.keep (hb.alloc hb.size _)⟩
theorem strs_two (w : World) (x y : ByteArray) : StrsP (.slice (some ⟨w.heap.size, 0, none⟩) 2 2) [x, y] (w.alloc (.cells #[.string x, .string y] 9)) :=
  .inr ⟨w.heap.size, 0, 2, rfl, by simp, fun i hi => by
    have h := alloc_new w (.cells #[.string x, .string y] 9)
    rw [Lib.cell_of_heap h]
    match i, hi with
    | 0, _ => rfl
    | 1, _ => rfl
    | n + 2, hi => simp at hi; omega⟩
theorem strs_three {w : World} {b : Nat} {x y z : ByteArray} (h : w.heap[b]? = some (.cells #[.string x, .string y, .string z] 9 (0, 0))) : StrsP (.slice (some ⟨b, 0, none⟩) 3 3) [x, y, z] w :=
  .inr ⟨b, 0, 3, rfl, (Array.getElem?_eq_some_iff.1 h).1, fun i hi => by
    rw [Lib.cell_of_heap h]
    match i, hi with
    | 0, _ => rfl
    | 1, _ => rfl
    | 2, _ => rfl
    | n + 3, hi => simp at hi; omega⟩

/-! Names for names. -/
/-- Of a made type: what is the same at a, b, c is the same. -/
theorem app_ext (d d' : List PR) (h : ∀ n : ByteArray, n.data.toList ∈ T.vnames → app d (.var n) = app d' (.var n)) : ∀ t, T.Good t → app d t = app d' t := by
  intro t
  refine T.by_kids (P := fun t => T.Good t → app d t = app d' t) (fun t H ht => ?_) t
  cases t with
  | var n => exact h n (by rwa [T.Good] at ht)
  | con n l =>
    rw [app, app, apps_map, apps_map]
    congr 1
    rw [T.Good] at ht
    exact List.map_congr_left fun k hk => H k hk (goods_mem ht.2 k hk)
  | fn a b =>
    rw [T.Good] at ht
    rw [app, app, H a (by simp [T.kids]) ht.1, H b (by simp [T.kids]) ht.2]
  | all n a => rw [T.Good] at ht; exact ht.elim
where
  goods_mem {l : List T} (h : T.Goods l) : ∀ k ∈ l, T.Good k := by
    induction l with
    | nil => intro k hk; cases hk
    | cons a l ih =>
      rw [T.Goods] at h
      intro k hk
      rcases List.mem_cons.1 hk with rfl | hk
      · exact h.1
      · exact ih h.2 k hk
theorem app_round (d d' : List PR) (h : ∀ n : ByteArray, n.data.toList ∈ T.vnames → app d (app d' (.var n)) = .var n) : ∀ t, T.Good t → app d (app d' t) = t := by
  intro t
  refine T.by_kids (P := fun t => T.Good t → app d (app d' t) = t) (fun t H ht => ?_) t
  cases t with
  | var n => exact h n (by rwa [T.Good] at ht)
  | con n l =>
    rw [app, app, apps_map, apps_map, List.map_map]
    congr 1
    rw [T.Good] at ht
    conv => rhs; rw [← List.map_id l]
    exact List.map_congr_left fun k hk => H k hk (app_ext.goods_mem ht.2 k hk)
  | fn a b =>
    rw [T.Good] at ht
    rw [app, app, H a (by simp [T.kids]) ht.1, H b (by simp [T.kids]) ht.2]
  | all n a => rw [T.Good] at ht; exact ht.elim
theorem app_same (d : List PR) (h : ∀ n : ByteArray, n.data.toList ∈ T.vnames → app d (.var n) = .var n) (t : T) (ht : T.Good t) : app d t = t := by
  have := app_round d [] (fun n hn => by rw [app_nil]; exact h n hn) t ht
  rwa [app_nil] at this
theorem size_app (d : List PR) (h : ∀ n : ByteArray, n.data.toList ∈ T.vnames → tsize (app d (.var n)) = 1) : ∀ t, T.Good t → tsize (app d t) = tsize t := by
  intro t
  refine T.by_kids (P := fun t => T.Good t → tsize (app d t) = tsize t) (fun t H ht => ?_) t
  cases t with
  | var n => rw [h n (by rwa [T.Good] at ht)]; rfl
  | con n l =>
    rw [T.Good] at ht
    rw [app, tsize, tsize, apps_map]
    have key : ∀ m : List T, (∀ k ∈ m, k ∈ l) → tsizes (m.map (app d)) = tsizes m := by
      intro m
      induction m with
      | nil => intro _; rfl
      | cons a m ih =>
        intro hm
        rw [List.map_cons, tsizes, tsizes, ih (fun k hk => hm k (List.mem_cons_of_mem _ hk)), H a (hm a (List.mem_cons_self ..)) (app_ext.goods_mem ht.2 a (hm a (List.mem_cons_self ..)))]
    rw [key l (fun k hk => hk)]
  | fn a b =>
    rw [T.Good] at ht
    rw [app, tsize, tsize, H a (by simp [T.kids]) ht.1, H b (by simp [T.kids]) ht.2]
  | all n a => rw [T.Good] at ht; exact ht.elim

def nA : ByteArray := ⟨#[97]⟩
def nB : ByteArray := ⟨#[98]⟩
def nC : ByteArray := ⟨#[99]⟩
def nX : ByteArray := ⟨#[120]⟩
def nZ : ByteArray := ⟨#[122, 122]⟩
theorem vn_cases {n : ByteArray} (h : n.data.toList ∈ T.vnames) : n = nA ∨ n = nB ∨ n = nC := by
  simp only [T.vnames, List.mem_cons, List.not_mem_nil, or_false] at h
  cases n with | mk d => cases d with | mk l =>
    simp only at h
    rcases h with rfl | rfl | rfl
    · exact .inl rfl
    · exact .inr (.inl rfl)
    · exact .inr (.inr rfl)
theorem app_v (n : ByteArray) (d : List PR) : app d (.var n) = ty n d := rfl
def dS : List PR := [⟨nA, .var nB, none, 0⟩, ⟨nB, .var nA, none, 0⟩]
def dU : List PR := [⟨nZ, .var nA, none, 0⟩]
def fromL : List ByteArray := [nA, nB, nC]
def toL : List ByteArray := [nC, nX, nB]
theorem tyc {n m : ByteArray} {t : T} {a : Option Addr} {c : Nat} {l : List PR} : ty n (⟨m, t, a, c⟩ :: l) = if m = n then t else ty n l := ty_cons n ⟨m, t, a, c⟩ l
theorem swap_twice (t : T) (h : T.Good t) : app dS (app dS t) = t := by
  refine app_round _ _ (fun n hn => ?_) t h
  rcases vn_cases hn with rfl | rfl | rfl
  · rw [app_v, dS, tyc, if_pos rfl, app_v, tyc, if_neg (by decide), tyc, if_pos rfl]
  · rw [app_v, dS, tyc, if_neg (by decide), tyc, if_pos rfl, app_v, tyc, if_pos rfl]
  · rw [app_v, dS, tyc, if_neg (by decide), tyc, if_neg (by decide), ty_nil, app_v, tyc, if_neg (by decide), tyc, if_neg (by decide), ty_nil]
theorem stays (t : T) (h : T.Good t) : app dU t = t := by
  refine app_same _ (fun n hn => ?_) t h
  rcases vn_cases hn with rfl | rfl | rfl <;> rw [app_v, dU, tyc, if_neg (by decide), ty_nil]
def dF : List PR := [⟨nA, .var nC, none, 0⟩, ⟨nB, .var nX, none, 0⟩, ⟨nC, .var nB, none, 0⟩]
def dT : List PR := [⟨nC, .var nA, none, 0⟩, ⟨nX, .var nB, none, 0⟩, ⟨nB, .var nC, none, 0⟩]
theorem prs_ft : prs fromL toL = dF := rfl
theorem prs_tf : prs toL fromL = dT := rfl
theorem there_back (t : T) (h : T.Good t) : app (prs toL fromL) (app (prs fromL toL) t) = t := by
  rw [prs_ft, prs_tf]
  refine app_round _ _ (fun n hn => ?_) t h
  rcases vn_cases hn with rfl | rfl | rfl
  · rw [app_v, dF, tyc, if_pos rfl, app_v, dT, tyc, if_pos rfl]
  · rw [app_v, dF, tyc, if_neg (by decide), tyc, if_pos rfl, app_v, dT, tyc, if_neg (by decide), tyc, if_pos rfl]
  · rw [app_v, dF, tyc, if_neg (by decide), tyc, if_neg (by decide), tyc, if_pos rfl, app_v, dT, tyc, if_neg (by decide), tyc, if_neg (by decide), tyc, if_pos rfl]
theorem swap_names (t : T) (h : T.Good t) : app (prs [nA, nB] [nB, nA]) t = app dS t := by
  refine app_ext _ _ (fun n _ => ?_) t h
  rfl
theorem swap_size (t : T) (h : T.Good t) : tsize (app dS t) = tsize t := by
  refine size_app _ (fun n hn => ?_) t h
  rcases vn_cases hn with rfl | rfl | rfl
  · rw [app_v, dS, tyc, if_pos rfl]; rfl
  · rw [app_v, dS, tyc, if_neg (by decide), tyc, if_pos rfl]; rfl
  · rw [app_v, dS, tyc, if_neg (by decide), tyc, if_neg (by decide), ty_nil]; rfl
theorem there_size (t : T) (h : T.Good t) : tsize (app (prs fromL toL) t) = tsize t := by
  rw [prs_ft]
  refine size_app _ (fun n hn => ?_) t h
  rcases vn_cases hn with rfl | rfl | rfl
  · rw [app_v, dF, tyc, if_pos rfl]; rfl
  · rw [app_v, dF, tyc, if_neg (by decide), tyc, if_pos rfl]; rfl
  · rw [app_v, dF, tyc, if_neg (by decide), tyc, if_neg (by decide), tyc, if_pos rfl]; rfl

theorem sized_made {d l : List PR} (h : Made d l) (hd : SizedAll d) : SizedAll l := fun x hx => by
  obtain ⟨y, hy, _, e⟩ := h.sub x hx
  rw [e]; exact hd y hy
/-- Calls whose results are told. -/
theorem apply_ret {d0 l : List PR} {t t' : T} (hm : Made d0 l) (hd : SizedAll d0) (hl : d0.length ≤ 1000) (ht : tsize t ≤ 1000000000) (e : app d0 t = t') {s : Value} {a : Option Addr} {c : Nat} {w : World} (hs : SubAt s l w) (h : TysAt w (.slice a t.kids.length c) t.kids) :
    Calls Tryd.prog 14 #[.agg #[s], .agg #[.int .i64 t.kind, .string t.name, .slice a t.kids.length c]] w fun e Y => (∃ za zc, e = .returned (.agg #[.int .i64 t'.kind, .string t'.name, .slice za t'.kids.length zc]) ∧ TysAt Y (.slice za t'.kids.length zc) t'.kids) ∧ Below w.heap.size w Y := by
  refine (apply_any (d := l) (t := t) (s := s) (w := w) (by have := hm.len; omega) (sized_made hm hd) ht hs h).mono ?_
  rintro e1 w5 ⟨⟨a, c, rfl, hin⟩, hb5⟩
  rw [made_ty hm, e] at hin ⊢
  exact ⟨⟨a, c, rfl, hin.tys⟩, hb5⟩
theorem same_ret {t : T} (ht : tsize t ≤ 1000000000) {a b : Option Addr} {c d : Nat} {w : World} (h : TysAt w (.slice a t.kids.length c) t.kids) (h' : TysAt w (.slice b t.kids.length d) t.kids) :
    Calls Tryd.prog 13 #[.agg #[.int .i64 t.kind, .string t.name, .slice a t.kids.length c], .agg #[.int .i64 t.kind, .string t.name, .slice b t.kids.length d]] w fun e Y => e = .returned (.bool true) ∧ Below w.heap.size w Y := by
  have := sameType_any (t := t) (t' := t) (w := w) (fits_small ht) h h'
  rwa [eqB_true rfl] at this
/-- What the last statement of SubstOthers keeps. -/
def SO (w : World) (b5 b8 b9 b12 : Nat) (t sw : T) (pa pw : Option Addr) (ca cw : Nat) (sv uv frv tov : Value) (ls lu : List PR) (X : World) : Prop :=
  (BoxT b5 t pa ca X ∧ BoxT b12 sw pw cw X) ∧ (BoxS b8 sv ls X ∧ BoxS b9 uv lu X) ∧ (StrsP frv fromL X ∧ StrsP tov toL X) ∧ Below w.heap.size w X
theorem SO.below {w : World} {b5 b8 b9 b12 : Nat} {t sw : T} {pa pw : Option Addr} {ca cw : Nat} {sv uv frv tov : Value} {ls lu : List PR} {X Y : World} (h : SO w b5 b8 b9 b12 t sw pa pw ca cw sv uv frv tov ls lu X) (hb : Below X.heap.size X Y) : SO w b5 b8 b9 b12 t sw pa pw ca cw sv uv frv tov ls lu Y :=
  ⟨⟨h.1.1.below hb, h.1.2.below hb⟩, ⟨h.2.1.1.below hb, h.2.1.2.below hb⟩, ⟨h.2.2.1.1.below hb, h.2.2.1.2.below hb⟩, h.2.2.2.trans (hb.mono h.2.2.2.size)⟩
theorem SO.cells {w : World} {b5 b8 b9 b12 : Nat} {t sw : T} {pa pw : Option Addr} {ca cw : Nat} {sv uv frv tov : Value} {ls lu : List PR} {X : World} (h : SO w b5 b8 b9 b12 t sw pa pw ca cw sv uv frv tov ls lu X) :
    (X.cell? ⟨b5, 0, none⟩ = some (.int .i64 t.kind) ∧ X.cell? ⟨b5, 1, none⟩ = some (.string t.name) ∧ X.cell? ⟨b5, 2, none⟩ = some (.slice pa t.kids.length ca)) ∧ (X.cell? ⟨b12, 0, none⟩ = some (.int .i64 sw.kind) ∧ X.cell? ⟨b12, 1, none⟩ = some (.string sw.name) ∧ X.cell? ⟨b12, 2, none⟩ = some (.slice pw sw.kids.length cw)) ∧
    X.cell? ⟨b8, 0, none⟩ = some sv ∧ X.cell? ⟨b9, 0, none⟩ = some uv := ⟨h.1.1.cells, h.1.2.cells, h.2.1.1.cell, h.2.1.2.cell⟩
end Go.Proofs.YthpphjkoiipkkaaDoor
/- A loop over an iterator, once more: the rounds are told of the memory since the last round's end; the loop may be left by one jump (a return, or a break); what a round's frame holds may hang on what the body keeps. -/
namespace Go.Proofs.YthpphjkoiipkkaaDoor
open Go.RowKit

/-- The contract. Between two rounds the iterator may have laid blocks ('Below', from X0, where the last round ended, to X, where the next begins); the rounds may be told 'Ex x' of the world in which they are handed x; a round that goes on keeps what the iterator has laid since X0, and the blocks of K. -/
def SeqGen {α : Type} (n : Nat) (P : Program) (g : Nat) (lb : Array Value) (encs : α → Array Value) (Ex : List α → α → World → World → Prop) (K : Nat → Prop) (S Sp : List α → Prop) (N : Nat) (w : World) : Prop :=
  ∀ (l : Nat) (J Jx : List α → World → Prop) (W : World), Below w.heap.size w W →
    (∀ pre x X0 X, J pre X0 → pre.length < N → Below X0.heap.size X0 X → Ex pre x X0 X → YieldAt Fence.wide (n - 1) P l (encs x) X fun e Y =>
      (e = .returned (.bool true) ∧ J (pre ++ [x]) Y ∧ Kept K X0.heap.size X Y) ∨ (e = .returned (.bool false) ∧ Jx (pre ++ [x]) Y)) →
    J [] W →
    CallsIn Fence.wide n P g (#[.func (.yield l) #[] #[]] ++ lb) W fun e Y => (∃ v, e = .returned v) ∧ ((∃ xs, S xs ∧ J xs Y) ∨ (∃ pre, Sp pre ∧ Jx pre Y))

/-- How a round's body may be left: by its end, or by a return. The body may write the blocks of T alone, and what it has made itself. -/
def RoundGen {σ α : Type} (jump : Code) (B : Nat) (T : Nat → Prop) (I : σ → List α → World → Prop) (Ix : List α → World → Prop) (xs : List α) (X : World) : Exit → Act → World → Prop
  | .normal, _, Y => KeepsFrom B X Y ∧ (∀ k, ¬ T k → k < X.heap.size → Y.heap[k]? = X.heap[k]?) ∧ ∃ s, I s xs Y
  | .ret, _, Y => jump = .ret ∧ KeepsFrom B X Y ∧ Ix xs Y
  | .exit id, _, Y => jump = .exit id ∧ KeepsFrom B X Y ∧ Ix xs Y
  | _, _, _ => False

/-- **The statement 'for .. := range f', its body left by its end or by a return.** 's': what the body keeps of its own; 'T s': the blocks that it may write there. -/
theorem range_gen {n : Nat} {P : Program} {σ α : Type} {g : Operand} {ps : Array Tmp} {assign body : Code} {Q : Exit → Act → World → Prop} {a : Act} {w : World} (h1 : 1 ≤ n)
    {gf : Nat} {lb : Array Value} (hg : a.eval g = .func (.func gf) #[] lb) (eg : ∀ args w, (callFunc gf args).run P w = .ok (.enter gf args) w)
    {encs : α → Array Value} {Ex : List α → α → World → World → Prop} {K : Nat → Prop} {S Sp : List α → Prop} {N : Nat} {w0 : World} (hseq : SeqGen (n - 1) P gf lb encs Ex K S Sp N w0)
    (hK : ∀ k, K k → k < w.heap.size) (hb0 : Below w0.heap.size w0 w) (hps : ∀ x, (encs x).size = ps.size)
    (I : σ → List α → World → Prop) (Ix : List α → World → Prop) (T : σ → Nat → Prop) (hI : ∀ s, OwnFrom w.heap.size (I s)) (hIx : OwnFrom w.heap.size Ix)
    (hT : ∀ s pre X k, I s pre X → T s k → k < X.heap.size ∧ ¬ K k) (h0 : ∃ s, I s [] w)
    (Ax : σ → List α → α → Act → World → Prop) (hAx : ∀ s pre x a', OwnFrom w.heap.size (fun (_ : Unit) W => Ax s pre x a' W)) (jump : Code)
    (hassign : ∀ (l : Nat) (s : σ) (pre : List α) (x : α) (X0 X : World) (C : Act → World → Prop), I s pre X0 → Below X0.heap.size X0 X → I s pre X → Ex pre x X0 X →
      (∀ a' Y, KeepsFrom w.heap.size X Y → Below X.heap.size X Y → Ax s pre x a' Y → C a' Y) →
      assign.wpIn (Fence.wide.inRound l) (n - 1 - 1) P (Exit.then C (fun _ _ _ => False)) { tmps := (ps.zip (encs x)).foldl (fun t (p, v) => t.setIfInBounds p v) a.tmps, defers := [] } X)
    (hbody : ∀ (l : Nat) (s : σ) (pre : List α) (x : α) (a' : Act) (X : World), I s pre X → pre.length < N → Ax s pre x a' X → body.wpIn (Fence.wide.inRound l) (n - 1 - 1) P (RoundGen jump w.heap.size (T s) I Ix (pre ++ [x]) X) a' X)
    (hdone : ∀ (D : Nat) (s : σ) (xs : List α) (W : World), w.heap.size ≤ D → S xs → I s xs W → W.heap[D]? = some (.deferred (some [])) → Q .normal { a with defers := { target := .collected D, args := #[] } :: a.defers } W)
    (hstop : ∀ (D : Nat) (pre : List α) (W : World), w.heap.size ≤ D → Sp pre → Ix pre W → W.heap[D]? = some (.deferred (some [])) → jump.wpIn Fence.wide n P Q { a with defers := { target := .collected D, args := #[] } :: a.defers } W) :
    (Code.rangeFunc g ps assign body).wpIn Fence.wide n P Q a w := by
  refine wpIn_rangeFunc fun fn _ => ?_
  -- the two blocks that the loop lays: the rounds' deferred calls at B, the record behind it
  generalize hB : w.heap.size = B at *
  obtain ⟨R, hR⟩ : ∃ R : LoopState → Option Code → Obj, R = fun st pe => .loop { state := st, pending := pe, fn, tmps := a.tmps, params := ps, assign, body, defers := B } := ⟨_, rfl⟩
  have hcells : ∀ st pe, (R st pe).isCells = false := fun st pe => by rw [hR]; rfl
  obtain ⟨V, hV⟩ : ∃ V, (w.alloc (.deferred (some []))).alloc (R .ready none) = V := ⟨_, rfl⟩
  have below : Below w.heap.size w V := by rw [← hV]; exact ((Below.refl _ w).alloc (Nat.le_refl _) _).alloc (by simp) _
  have hVL : V.heap[B + 1]? = some (R .ready none) := by
    rw [← hV]
    have := World.alloc_heap_new (w.alloc (.deferred (some []))) (R .ready none)
    rwa [World.size_alloc, hB] at this
  have hVB : V.heap[B]? = some (.deferred (some [])) := by
    rw [← hV, Below.heap_alloc _ _ _ (by simp; omega), ← hB]
    exact World.alloc_heap_new w _
  obtain ⟨s0, h0⟩ := h0
  have hVI : I s0 [] V := hI _ _ _ _ none h0 (grown_of_below below) (fun r e => by cases e)
  -- turning the record keeps what is asked
  have turn : ∀ {X : World} {o : Obj} (o' : Obj), X.heap[B + 1]? = some o → o.isCells = false → (∀ s xs, I s xs X → I s xs (X.putObj (B + 1) o')) ∧ (∀ xs, Ix xs X → Ix xs (X.putObj (B + 1) o')) ∧
      (∀ s pre x a', Ax s pre x a' X → Ax s pre x a' (X.putObj (B + 1) o')) ∧ (∀ k, k ≠ B + 1 → (X.putObj (B + 1) o').heap[k]? = X.heap[k]?) ∧ (X.putObj (B + 1) o').heap[B + 1]? = some o' ∧ (X.putObj (B + 1) o').heap[B]? = X.heap[B]? :=
    fun {X o} o' hl ho => by
      have hlt := (Array.getElem?_eq_some_iff.1 hl).1
      exact ⟨fun s xs h => (hI s).putObj _ h (by omega) hl ho, fun xs h => hIx.putObj _ h (by omega) hl ho, fun s pre x a' h => (hAx s pre x a').putObj (s := ()) _ h (by omega) hl ho,
        fun k hk => World.putObj_heap_other hk, World.putObj_heap_same hlt, World.putObj_heap_other (by omega)⟩
  refine ⟨B + 1, [{ target := .collected B, args := #[] }], V, { target := .fn (.func gf) lb, args := #[.func (.yield (B + 1)) #[] #[]] }, V, gf, #[.func (.yield (B + 1)) #[] #[]] ++ lb, V, ?_, ?_, fun _ _ => trivial, ?_, fun _ => h1, ?_⟩
  · have e := run_enterLoop_outer (P := P) (w := w) fn a.tmps ps assign body
    rw [hB] at e
    rw [← hV, hR]
    exact e
  · simp only [resolve, hg]
    simp [go_sem]
  · simp [invoke, go_sem, eg]
  · refine (hseq (B + 1)
      (fun pre X => (∃ s, I s pre X) ∧ X.heap[B + 1]? = some (R .ready none) ∧ X.heap[B]? = some (.deferred (some [])))
      (fun pre X => Ix pre X ∧ X.heap[B + 1]? = some (R .done (some jump)) ∧ X.heap[B]? = some (.deferred (some [])))
      V (hb0.trans (below.mono (by rw [hB]; have := hb0.size; omega)))
      ?_ ⟨⟨s0, hVI⟩, hVL, hVB⟩).mono ?_
    · -- a round
      rintro pre x X0 X ⟨⟨s, hi0⟩, hl0, hd0⟩ hlen hX hex
      have hlt0 := (Array.getElem?_eq_some_iff.1 hl0).1
      have hi : I s pre X := hI _ _ _ _ none hi0 (grown_of_below hX) (fun r e => by cases e)
      have hl := (hX.block _ hlt0).trans hl0
      have hd := (hX.block _ (Array.getElem?_eq_some_iff.1 hd0).1).trans hd0
      have hl' := hl
      rw [hR] at hl'
      refine ⟨fn, _, assign, body, run_yield (P := P) (args := encs x) hl' (hps x), roundIn_of_wpIn trivial (hassign _ s pre x X0 X _ hi0 hX hi hex ?_)⟩
      intro a' Y hk hb hax
      have hiY : I s pre Y := hI _ _ _ _ none hi (grown_of_below hb) (fun r e => by cases e)
      have hlY := hk.same _ _ (by omega) hl (hcells _ _)
      have hdY := hk.same _ _ (Nat.le_refl _) hd rfl
      have hlY' := hlY
      rw [hR] at hlY'
      have begins := run_beginRound (P := P) hlY' rfl
      obtain ⟨t1, _, t3, t4, t5, t6⟩ := turn (R .busy none) hlY (hcells _ _)
      refine ⟨Y.putObj (B + 1) (R .busy none), by rw [begins, hR], ?_⟩
      have ends : ∀ (jump : Option Code) (Z : World), KeepsFrom B (Y.putObj (B + 1) (R .busy none)) Z → Z.heap[B + 1]? = some (R .busy none) ∧ Z.heap[B]? = some (.deferred (some [])) ∧
          (Instr.endRound (B + 1) jump).run P Z = .ok (.bool jump.isNone) (Z.putObj (B + 1) (R (if jump.isNone then .ready else .done) jump)) := fun jump Z hz => by
        have z1 := hz.same _ _ (by omega) t5 (hcells _ _)
        refine ⟨z1, hz.same _ _ (Nat.le_refl _) (t6.trans hdY) rfl, ?_⟩
        rw [hR] at z1 ⊢
        exact run_endRound (P := P) jump z1
      refine wpIn_mono (hbody _ s pre x a' _ (t1 _ _ hiY) hlen (t3 _ _ _ _ hax)) ?_
      rintro e a3 Z hp
      cases e with
      | normal =>
        obtain ⟨hz, hzb, s', hzi⟩ := hp
        obtain ⟨z1, z2, z3⟩ := ends none Z hz
        obtain ⟨u1, _, _, u4, u5, u6⟩ := turn (R .ready none) z1 (hcells _ _)
        refine ⟨_, _, z3, .inl ⟨rfl, ⟨⟨s', u1 _ _ hzi⟩, u5, u6.trans z2⟩, ?_, ?_⟩⟩
        · have := hb.size; have := hz.size; simp at this ⊢; omega
        · intro k hk hkX
          have hne : k ≠ B + 1 := by
            rcases hk with hk | hk
            · omega
            · have := hK k hk; omega
          have hnT : ¬ T s k := by
            intro ht
            rcases hk with hk | hk
            · have := (hT s pre X0 k hi0 ht).1; omega
            · exact (hT s pre X0 k hi0 ht).2 hk
          have hkY : k < Y.heap.size := by have := hb.size; omega
          exact (u4 k hne).trans ((hzb k hnT (by simpa using hkY)).trans ((t4 k hne).trans (hb.block k hkX)))
      | ret =>
        obtain ⟨rfl, hz, hzi⟩ := hp
        obtain ⟨z1, z2, z3⟩ := ends (some .ret) Z hz
        obtain ⟨_, u2, _, _, u5, u6⟩ := turn (R .done (some .ret)) z1 (hcells _ _)
        exact ⟨_, _, z3, .inr ⟨rfl, u2 _ hzi, u5, u6.trans z2⟩⟩
      | exit id =>
        obtain ⟨rfl, hz, hzi⟩ := hp
        obtain ⟨z1, z2, z3⟩ := ends (some (.exit id)) Z hz
        obtain ⟨_, u2, _, _, u5, u6⟩ := turn (R .done (some (.exit id))) z1 (hcells _ _)
        exact ⟨_, _, z3, .inr ⟨rfl, u2 _ hzi, u5, u6.trans z2⟩⟩
      | goto t => exact hp.elim
      | panic ch => exact hp.elim
      | outgrown => exact hp.elim
    · -- behind the iterator
      rintro e Z ⟨⟨v, rfl⟩, (⟨xs, hS, ⟨s, hi⟩, hl, hd⟩ | ⟨pre, hSp, hi, hl, hd⟩)⟩
      · obtain ⟨u1, _, _, _, _, u6⟩ := turn (R .exhausted none) hl (hcells _ _)
        have hl' := hl
        rw [hR] at hl'
        refine ⟨none, _, by have e := run_endLoop (P := P) hl' (by simp); exact e, ?_⟩
        have := hdone B s xs _ (Nat.le_refl _) hS (u1 _ _ hi) (u6.trans hd)
        rw [hR] at this
        exact this
      · obtain ⟨_, u2, _, _, _, u6⟩ := turn (R .exhausted (some jump)) hl (hcells _ _)
        have hl' := hl
        rw [hR] at hl'
        refine ⟨some jump, _, by have e := run_endLoop (P := P) hl' (by simp); exact e, ?_⟩
        have := hstop B pre _ (Nat.le_refl _) hSp (u2 _ hi) (u6.trans hd)
        rw [hR] at this
        exact this
end Go.Proofs.YthpphjkoiipkkaaDoor
