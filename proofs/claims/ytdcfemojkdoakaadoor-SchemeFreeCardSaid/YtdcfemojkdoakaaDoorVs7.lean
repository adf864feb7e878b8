/- Merged: MakeStepN, MakeAllN, UfLaws, SfA, SfB, SfC, SfT, SfF, SfL, PlainRow, IntsRow. -/
import Derived.Test.YtdcfemojkdoakaaDoorVs2
import Derived.Test.YtdcfemojkdoakaaDoorVs6
import Derived.Test.YtdcfemojkdoakaaDoorVs3
import Derived.Test.YtdcfemojkdoakaaDoorVs4
import Derived.Test.YtdcfemojkdoakaaDoorRows
import Derived.ProofKit
import Derived.OpenShut
import Derived.Carry
/- The types that are made of numbers: a level more. -/
namespace Go.Proofs.YtdcfemojkdoakaaDoor
open Go.RowKit
attribute [local go_sem] Oper.semAt_some
attribute [local go_sem ↓] Go.wp_at_zero Go.wp_at_succ

set_option maxHeartbeats 4000000 in
theorem make_stepN (d : Int) (hd1 : 1 ≤ d) (hd2 : d ≤ 100) (M D : Nat) (hM : 2 ≤ M) (hD : 14 ≤ D) (B p : Nat) (a : Option Addr) (n c k : Nat) (w : World) (h : SeqAt B p a n c k w) (hk : k + 2 * M < 1152921504606846976) (hn : n < 1152921504606846976)
    (IH : ∀ k w, SeqAt B p a n c k w → k + M < 1152921504606846976 → Calls Tryd.prog 9 #[.pointer (some ⟨p, 0, none⟩), .int .i64 (d - 1)] w (MadeN B p a n c k M D w)) :
    Calls Tryd.prog 9 #[.pointer (some ⟨p, 0, none⟩), .int .i64 d] w (MadeN B p a n c k (2 * M) (2 * D) w) := by
  have hp := h.lt
  have HN := Lib.hid (fun o => next_any B p a n c k 9 (w.alloc o) (h.below ((Below.refl _ w).alloc (Nat.le_refl _) o)) (by decide) (by decide) (by omega) hn)
  have HNe := Lib.hid (show w.heap.size ≠ p by omega)
  have hw : IntKind.i64.wrap (d - 1) = d - 1 := by rw [IntKind.wrap_i64]; omega
  have HI := Lib.hid IH
  have HI2 := Lib.hid IH
  rw [← hw] at HI2
  clear hw
  clear h IH
  go_enter Tryd.func9, Tryd.ntmps9
  go_wp2_with (go_at_call 37; refine (HN.out _).mono ?_)
  rintro e W1 ⟨⟨r, hr, rfl⟩, h1, h2⟩
  have hz := h2.2 _ _ (alloc_new w _) HNe.out
  obtain ⟨c0, c1, c2⟩ := three_cells hz
  have f0 := Lib.frozen_of_heap hz 0
  have f1 := Lib.frozen_of_heap hz 1
  have f2 := Lib.frozen_of_heap hz 2
  have HZ := Lib.hid hz; have H1 := Lib.hid h1; have H2 := Lib.hid h2
  have hzl := (Array.getElem?_eq_some_iff.1 hz).1
  clear hz h1 h2
  obtain ⟨z, hz⟩ : ∃ z : Int, (r : Int) = z := ⟨_, rfl⟩
  rw [hz]
  have h9 : z = 0 ∨ z = 1 ∨ z = 2 ∨ z = 3 ∨ z = 4 ∨ z = 5 ∨ z = 6 ∨ z = 7 ∨ z = 8 := by omega
  clear hz hr
  rcases h9 with rfl | rfl | rfl | rfl | rfl | rfl | rfl | rfl | rfl
  · go_wp2_with (go_at_call 30; refine (var_any _ _).mono ?_)
    rintro e W2 ⟨⟨u, rfl, hu⟩, hb⟩
    have HBT := Lib.hid (((Below.refl _ W1).alloc (Nat.le_refl _) _).trans (hb.mono (by simp)))
    clear hb
    obtain ⟨a2, n2, rfl⟩ := hu.shape
    have hz2 : W2.heap[w.heap.size]? = some (.cells #[.int .i64 0, .string ⟨#[]⟩, .slice none 0 0] 29 (0, 0)) := (HBT.out.block _ hzl).trans HZ.out
    obtain ⟨d0, d1, d2⟩ := three_cells hz2
    have g0 := Lib.frozen_of_heap hz2 0
    have g1 := Lib.frozen_of_heap hz2 1
    have g2 := Lib.frozen_of_heap hz2 2
    have HZ2 := Lib.hid hz2; have HU := Lib.hid hu
    clear hz2 hu c0 c1 c2 f0 f1 f2
    simp only [tyV, T.kind, T.name, List.length_nil]
    go_wp2
    exact bodyPost_ret (v := .agg #[.int .i64 1, .string ⟨#[97]⟩, .slice a2 0 n2]) (by have hc := set3_cells HZ2.out (.int .i64 1) (.string ⟨#[97]⟩) (.slice a2 0 n2); simp [results, Tryd.results9, go_sem, hc.1, hc.2.1, hc.2.2]) rfl (made_fn (t := .var ⟨#[97]⟩) (H1.out.below HBT.out) (by omega) (H2.out.trans (MkFr.of_below HBT.out (Nat.le_trans H1.out.1.1 (Nat.le_of_lt H1.out.lt)))) hp HZ2.out (.leaf _ _ _ rfl) (good_var (by decide) (by decide) (by omega)))
  · go_wp2_with (go_at_call 30; refine (var_any _ _).mono ?_)
    rintro e W2 ⟨⟨u, rfl, hu⟩, hb⟩
    have HBT := Lib.hid (((Below.refl _ W1).alloc (Nat.le_refl _) _).trans (hb.mono (by simp)))
    clear hb
    obtain ⟨a2, n2, rfl⟩ := hu.shape
    have hz2 : W2.heap[w.heap.size]? = some (.cells #[.int .i64 0, .string ⟨#[]⟩, .slice none 0 0] 29 (0, 0)) := (HBT.out.block _ hzl).trans HZ.out
    obtain ⟨d0, d1, d2⟩ := three_cells hz2
    have g0 := Lib.frozen_of_heap hz2 0
    have g1 := Lib.frozen_of_heap hz2 1
    have g2 := Lib.frozen_of_heap hz2 2
    have HZ2 := Lib.hid hz2; have HU := Lib.hid hu
    clear hz2 hu c0 c1 c2 f0 f1 f2
    simp only [tyV, T.kind, T.name, List.length_nil]
    go_wp2
    exact bodyPost_ret (v := .agg #[.int .i64 1, .string ⟨#[98]⟩, .slice a2 0 n2]) (by have hc := set3_cells HZ2.out (.int .i64 1) (.string ⟨#[98]⟩) (.slice a2 0 n2); simp [results, Tryd.results9, go_sem, hc.1, hc.2.1, hc.2.2]) rfl (made_fn (t := .var ⟨#[98]⟩) (H1.out.below HBT.out) (by omega) (H2.out.trans (MkFr.of_below HBT.out (Nat.le_trans H1.out.1.1 (Nat.le_of_lt H1.out.lt)))) hp HZ2.out (.leaf _ _ _ rfl) (good_var (by decide) (by decide) (by omega)))
  · go_wp2_with (go_at_call 30; refine (var_any _ _).mono ?_)
    rintro e W2 ⟨⟨u, rfl, hu⟩, hb⟩
    have HBT := Lib.hid (((Below.refl _ W1).alloc (Nat.le_refl _) _).trans (hb.mono (by simp)))
    clear hb
    obtain ⟨a2, n2, rfl⟩ := hu.shape
    have hz2 : W2.heap[w.heap.size]? = some (.cells #[.int .i64 0, .string ⟨#[]⟩, .slice none 0 0] 29 (0, 0)) := (HBT.out.block _ hzl).trans HZ.out
    obtain ⟨d0, d1, d2⟩ := three_cells hz2
    have g0 := Lib.frozen_of_heap hz2 0
    have g1 := Lib.frozen_of_heap hz2 1
    have g2 := Lib.frozen_of_heap hz2 2
    have HZ2 := Lib.hid hz2; have HU := Lib.hid hu
    clear hz2 hu c0 c1 c2 f0 f1 f2
    simp only [tyV, T.kind, T.name, List.length_nil]
    go_wp2
    exact bodyPost_ret (v := .agg #[.int .i64 1, .string ⟨#[99]⟩, .slice a2 0 n2]) (by have hc := set3_cells HZ2.out (.int .i64 1) (.string ⟨#[99]⟩) (.slice a2 0 n2); simp [results, Tryd.results9, go_sem, hc.1, hc.2.1, hc.2.2]) rfl (made_fn (t := .var ⟨#[99]⟩) (H1.out.below HBT.out) (by omega) (H2.out.trans (MkFr.of_below HBT.out (Nat.le_trans H1.out.1.1 (Nat.le_of_lt H1.out.lt)))) hp HZ2.out (.leaf _ _ _ rfl) (good_var (by decide) (by decide) (by omega)))
  · go_wp2_with (go_at_call 38; refine (con_any _ none [] 0 0 _ (TysAt.nil _ _ _)).mono ?_)
    rintro e W2 ⟨⟨u, rfl, hu⟩, hb⟩
    have HBT := Lib.hid hb
    clear hb
    obtain ⟨a2, n2, rfl⟩ := hu.shape
    have hz2 : W2.heap[w.heap.size]? = some (.cells #[.int .i64 0, .string ⟨#[]⟩, .slice none 0 0] 29 (0, 0)) := (HBT.out.block _ hzl).trans HZ.out
    obtain ⟨d0, d1, d2⟩ := three_cells hz2
    have g0 := Lib.frozen_of_heap hz2 0
    have g1 := Lib.frozen_of_heap hz2 1
    have g2 := Lib.frozen_of_heap hz2 2
    have HZ2 := Lib.hid hz2; have HU := Lib.hid hu
    clear hz2 hu c0 c1 c2 f0 f1 f2
    simp only [tyV, T.kind, T.name, List.length_nil]
    go_wp2
    exact bodyPost_ret (v := .agg #[.int .i64 2, .string ⟨#[73, 110, 116]⟩, .slice a2 0 n2]) (by have hc := set3_cells HZ2.out (.int .i64 2) (.string ⟨#[73, 110, 116]⟩) (.slice a2 0 n2); simp [results, Tryd.results9, go_sem, hc.1, hc.2.1, hc.2.2]) rfl (made_fn (t := .con ⟨#[73, 110, 116]⟩ []) (H1.out.below HBT.out) (by omega) (H2.out.trans (MkFr.of_below HBT.out (Nat.le_trans H1.out.1.1 (Nat.le_of_lt H1.out.lt)))) hp HZ2.out (.leaf _ _ _ rfl) (good_con0 (by decide) (by decide) (by omega)))
  · go_wp2_with (go_at_call 38; refine (con_any _ none [] 0 0 _ (TysAt.nil _ _ _)).mono ?_)
    rintro e W2 ⟨⟨u, rfl, hu⟩, hb⟩
    have HBT := Lib.hid hb
    clear hb
    obtain ⟨a2, n2, rfl⟩ := hu.shape
    have hz2 : W2.heap[w.heap.size]? = some (.cells #[.int .i64 0, .string ⟨#[]⟩, .slice none 0 0] 29 (0, 0)) := (HBT.out.block _ hzl).trans HZ.out
    obtain ⟨d0, d1, d2⟩ := three_cells hz2
    have g0 := Lib.frozen_of_heap hz2 0
    have g1 := Lib.frozen_of_heap hz2 1
    have g2 := Lib.frozen_of_heap hz2 2
    have HZ2 := Lib.hid hz2; have HU := Lib.hid hu
    clear hz2 hu c0 c1 c2 f0 f1 f2
    simp only [tyV, T.kind, T.name, List.length_nil]
    go_wp2
    exact bodyPost_ret (v := .agg #[.int .i64 2, .string ⟨#[66, 111, 111, 108]⟩, .slice a2 0 n2]) (by have hc := set3_cells HZ2.out (.int .i64 2) (.string ⟨#[66, 111, 111, 108]⟩) (.slice a2 0 n2); simp [results, Tryd.results9, go_sem, hc.1, hc.2.1, hc.2.2]) rfl (made_fn (t := .con ⟨#[66, 111, 111, 108]⟩ []) (H1.out.below HBT.out) (by omega) (H2.out.trans (MkFr.of_below HBT.out (Nat.le_trans H1.out.1.1 (Nat.le_of_lt H1.out.lt)))) hp HZ2.out (.leaf _ _ _ rfl) (good_con0 (by decide) (by decide) (by omega)))
  · go_wp2_with (go_at_call 9; refine (HI.out _ _ H1.out (by omega)).mono ?_)
    rintro e W2 ⟨⟨t, u, rfl, hg, hu⟩, ⟨k2, hk2, hs2⟩, hf2⟩
    obtain ⟨a2, n2, rfl⟩ := hu.shape
    have hz2 := hf2.2 _ _ HZ.out HNe.out
    have hzl2 := (Array.getElem?_eq_some_iff.1 hz2).1
    have HZ2 := Lib.hid hz2; have HU := Lib.hid hu; have HS2 := Lib.hid hs2; have HF2 := Lib.hid hf2; have HG := Lib.hid hg
    clear hz2 hu hs2 hf2 hg c0 c1 c2 f0 f1 f2
    simp only [tyV]
    go_wp2_with (go_at_call 38; refine (con_in (ok := fun k => w.heap.size < k) _ _ [t] 1 1 _ (in_one _ hzl2 (HU.out.mono fun k hk => Nat.lt_of_lt_of_le hzl hk))).mono ?_)
    rintro e W3 ⟨⟨u3, rfl, hu3⟩, hb⟩
    obtain ⟨a3, n3, rfl⟩ := hu3.shape
    have HBT := Lib.hid (((Below.refl _ W2).alloc (Nat.le_refl _) _).trans (hb.mono (by simp)))
    have hz3 : W3.heap[w.heap.size]? = some (.cells #[.int .i64 0, .string ⟨#[]⟩, .slice none 0 0] 29 (0, 0)) := (HBT.out.block _ hzl2).trans HZ2.out
    obtain ⟨d0, d1, d2⟩ := three_cells hz3
    have g0 := Lib.frozen_of_heap hz3 0
    have g1 := Lib.frozen_of_heap hz3 1
    have g2 := Lib.frozen_of_heap hz3 2
    have HZ3 := Lib.hid hz3; have HU3 := Lib.hid hu3
    clear hz3 hu3 hb
    simp only [tyV, show (T.con ⟨#[76, 105, 115, 116]⟩ [t]).kind = 2 from rfl, show (T.con ⟨#[76, 105, 115, 116]⟩ [t]).name = ⟨#[76, 105, 115, 116]⟩ from rfl, show (T.con ⟨#[76, 105, 115, 116]⟩ [t]).kids.length = 1 from rfl]
    go_wp2
    exact bodyPost_ret (v := .agg #[.int .i64 2, .string ⟨#[76, 105, 115, 116]⟩, .slice a3 1 n3]) (by have hc := set3_cells HZ3.out (.int .i64 2) (.string ⟨#[76, 105, 115, 116]⟩) (.slice a3 1 n3); simp [results, Tryd.results9, go_sem, hc.1, hc.2.1, hc.2.2]) rfl (made_fn (t := .con ⟨#[76, 105, 115, 116]⟩ [t]) (HS2.out.below HBT.out) (by omega) ((H2.out.trans HF2.out).trans (MkFr.of_below HBT.out (Nat.le_trans HS2.out.1.1 (Nat.le_of_lt HS2.out.lt)))) hp HZ3.out HU3.out (good_con1 (by decide) (by decide) HG.out (Nat.le_refl _) hD))
  · go_wp2_with (go_at_call 9; refine (HI.out _ _ H1.out (by omega)).mono ?_)
    rintro e W2 ⟨⟨t, u, rfl, hg, hu⟩, ⟨k2, hk2, hs2⟩, hf2⟩
    obtain ⟨a2, n2, rfl⟩ := hu.shape
    have hz2 := hf2.2 _ _ HZ.out HNe.out
    have hzl2 := (Array.getElem?_eq_some_iff.1 hz2).1
    have HZ2 := Lib.hid hz2; have HU := Lib.hid hu; have HS2 := Lib.hid hs2; have HF2 := Lib.hid hf2; have HG := Lib.hid hg
    clear hz2 hu hs2 hf2 hg c0 c1 c2 f0 f1 f2
    simp only [tyV]
    go_wp2_with fail
    have hbx := alloc_new W2 (.cells #[.int .i64 t.kind, .string t.name, .slice a2 t.kids.length n2] 29)
    have HBX := Lib.hid hbx
    have hne2 : W2.heap.size ≠ p := by have := HS2.out.lt; omega
    have HNe2 := Lib.hid hne2
    clear hbx hne2
    go_region_with (first
      | (go_at_call 9; refine (HI2.out k2 _ ?hs ?hk).mono ?_; (case hs => exact SeqAt.drew (HS2.out.below ((Below.refl _ W2).alloc (Nat.le_refl _) _))); (case hk => omega); rintro e W3 ⟨⟨t3, u3, rfl, hg3, hu3⟩, ⟨k3, hk3, hs3⟩, hf3'⟩; have hf3 := MkFr.of_drew hf3'; clear hf3'; obtain ⟨a3, n3, rfl⟩ := hu3.shape; have hbx3 := hf3.2 _ _ HBX.out HNe2.out; obtain ⟨x0, x1, x2⟩ := three_cells hbx3; have hz3 := hf3.2 _ _ ((Below.heap_alloc W2 _ _ hzl2).trans HZ2.out) HNe.out; have hzl3 := (Array.getElem?_eq_some_iff.1 hz3).1; have HZ3 := Lib.hid hz3; have HS3 := Lib.hid hs3; have HF3 := Lib.hid hf3; have HG3 := Lib.hid hg3; have HUt := Lib.hid ((HU.out.mono (ok' := fun k => w.heap.size < k) fun k hk => Nat.lt_of_lt_of_le hzl hk).keep (fun k cs fz _ hh => ((keepT_alloc W2 _).trans (KeepT.of_mk hf3 (HS2.out.below ((Below.refl _ W2).alloc (Nat.le_refl _) _)))) k cs fz hh)); have hu3' : TyIn (fun k => w.heap.size < k) W3 t3 (.slice a3 t3.kids.length n3) := hu3.mono (fun k hk => by have h9 : (W2.alloc (.cells #[.int .i64 t.kind, .string t.name, .slice a2 t.kids.length n2] 29)).heap.size ≤ k := hk; simp at h9; omega); have HU3 := Lib.hid hu3'; clear hz3 hs3 hf3 hu3 hu3' hg3 hbx3; simp only [tyV])
      | (go_at_call 38; refine (con_in (ok := fun k => w.heap.size < k) _ _ [t, t3] 2 2 _ (in_pair rfl rfl hzl3 HUt.out HU3.out)).mono ?_; rintro e W4 ⟨⟨u4, rfl, hu4⟩, hb4⟩; obtain ⟨a4, n4, rfl⟩ := hu4.shape; have HBT := Lib.hid (((Below.refl _ W3).alloc (Nat.le_refl _) _).trans (hb4.mono (by simp))); have hz4 : W4.heap[w.heap.size]? = some (.cells #[.int .i64 0, .string ⟨#[]⟩, .slice none 0 0] 29 (0, 0)) := (HBT.out.block _ hzl3).trans HZ3.out; obtain ⟨d0, d1, d2⟩ := three_cells hz4; have g0 := Lib.frozen_of_heap hz4 0; have g1 := Lib.frozen_of_heap hz4 1; have g2 := Lib.frozen_of_heap hz4 2; have HZ4 := Lib.hid hz4; have HU4 := Lib.hid hu4; clear hz4 hu4 hb4; simp only [tyV, show (T.con ⟨#[80, 97, 105, 114]⟩ [t, t3]).kind = 2 from rfl, show (T.con ⟨#[80, 97, 105, 114]⟩ [t, t3]).name = ⟨#[80, 97, 105, 114]⟩ from rfl, show (T.con ⟨#[80, 97, 105, 114]⟩ [t, t3]).kids.length = 2 from rfl]))
    all_goals go_wp2
    all_goals exact bodyPost_ret (v := .agg #[.int .i64 2, .string ⟨#[80, 97, 105, 114]⟩, .slice a4 2 n4]) (by have hc := set3_cells HZ4.out (.int .i64 2) (.string ⟨#[80, 97, 105, 114]⟩) (.slice a4 2 n4); simp [results, Tryd.results9, go_sem, hc.1, hc.2.1, hc.2.2]) rfl (made_fn (t := T.con ⟨#[80, 97, 105, 114]⟩ [t, t3]) (HS3.out.below HBT.out) (by omega) (((H2.out.trans HF2.out).trans ((MkFr.of_below ((Below.refl _ W2).alloc (Nat.le_refl _) _) (Nat.le_trans HS2.out.1.1 (Nat.le_of_lt HS2.out.lt))).trans HF3.out)).trans (MkFr.of_below HBT.out (Nat.le_trans HS3.out.1.1 (Nat.le_of_lt HS3.out.lt)))) hp HZ4.out HU4.out (good_con2 (by decide) (by decide) HG.out HG3.out (Nat.le_refl _)))
  · go_wp2_with (go_at_call 9; refine (HI.out _ _ H1.out (by omega)).mono ?_)
    rintro e W2 ⟨⟨t, u, rfl, hg, hu⟩, ⟨k2, hk2, hs2⟩, hf2⟩
    obtain ⟨a2, n2, rfl⟩ := hu.shape
    have hz2 := hf2.2 _ _ HZ.out HNe.out
    have hzl2 := (Array.getElem?_eq_some_iff.1 hz2).1
    have HZ2 := Lib.hid hz2; have HU := Lib.hid hu; have HS2 := Lib.hid hs2; have HF2 := Lib.hid hf2; have HG := Lib.hid hg
    clear hz2 hu hs2 hf2 hg c0 c1 c2 f0 f1 f2
    simp only [tyV]
    go_wp2_with fail
    have hbx := alloc_new W2 (.cells #[.int .i64 t.kind, .string t.name, .slice a2 t.kids.length n2] 29)
    have HBX := Lib.hid hbx
    have hne2 : W2.heap.size ≠ p := by have := HS2.out.lt; omega
    have HNe2 := Lib.hid hne2
    clear hbx hne2
    go_region_with (first
      | (go_at_call 9; refine (HI2.out k2 _ ?hs ?hk).mono ?_; (case hs => exact SeqAt.drew (HS2.out.below ((Below.refl _ W2).alloc (Nat.le_refl _) _))); (case hk => omega); rintro e W3 ⟨⟨t3, u3, rfl, hg3, hu3⟩, ⟨k3, hk3, hs3⟩, hf3'⟩; have hf3 := MkFr.of_drew hf3'; clear hf3'; obtain ⟨a3, n3, rfl⟩ := hu3.shape; have hbx3 := hf3.2 _ _ HBX.out HNe2.out; obtain ⟨x0, x1, x2⟩ := three_cells hbx3; have hz3 := hf3.2 _ _ ((Below.heap_alloc W2 _ _ hzl2).trans HZ2.out) HNe.out; have hzl3 := (Array.getElem?_eq_some_iff.1 hz3).1; have HZ3 := Lib.hid hz3; have HS3 := Lib.hid hs3; have HF3 := Lib.hid hf3; have HG3 := Lib.hid hg3; have HUt := Lib.hid ((HU.out.mono (ok' := fun k => w.heap.size < k) fun k hk => Nat.lt_of_lt_of_le hzl hk).keep (fun k cs fz _ hh => ((keepT_alloc W2 _).trans (KeepT.of_mk hf3 (HS2.out.below ((Below.refl _ W2).alloc (Nat.le_refl _) _)))) k cs fz hh)); have hu3' : TyIn (fun k => w.heap.size < k) W3 t3 (.slice a3 t3.kids.length n3) := hu3.mono (fun k hk => by have h9 : (W2.alloc (.cells #[.int .i64 t.kind, .string t.name, .slice a2 t.kids.length n2] 29)).heap.size ≤ k := hk; simp at h9; omega); have HU3 := Lib.hid hu3'; clear hz3 hs3 hf3 hu3 hu3' hg3 hbx3; simp only [tyV])
      | (go_at_call 39; refine (fun2_in t t3 _ _ _ _ _ (fun k hk => Nat.lt_of_lt_of_le hzl3 hk) HUt.out HU3.out).mono ?_; rintro e W4 ⟨⟨u4, rfl, hu4⟩, hb4⟩; obtain ⟨a4, n4, rfl⟩ := hu4.shape; have HBT := Lib.hid hb4; have hz4 : W4.heap[w.heap.size]? = some (.cells #[.int .i64 0, .string ⟨#[]⟩, .slice none 0 0] 29 (0, 0)) := (HBT.out.block _ hzl3).trans HZ3.out; obtain ⟨d0, d1, d2⟩ := three_cells hz4; have g0 := Lib.frozen_of_heap hz4 0; have g1 := Lib.frozen_of_heap hz4 1; have g2 := Lib.frozen_of_heap hz4 2; have HZ4 := Lib.hid hz4; have HU4 := Lib.hid hu4; clear hz4 hu4 hb4; simp only [tyV, show (T.fn t t3).kind = 3 from rfl, show (T.fn t t3).name = ⟨#[]⟩ from rfl, show (T.fn t t3).kids.length = 2 from rfl]))
    all_goals go_wp2
    all_goals exact bodyPost_ret (v := .agg #[.int .i64 3, .string ⟨#[]⟩, .slice a4 2 n4]) (by have hc := set3_cells HZ4.out (.int .i64 3) (.string ⟨#[]⟩) (.slice a4 2 n4); simp [results, Tryd.results9, go_sem, hc.1, hc.2.1, hc.2.2]) rfl (made_fn (t := T.fn t t3) (HS3.out.below HBT.out) (by omega) (((H2.out.trans HF2.out).trans ((MkFr.of_below ((Below.refl _ W2).alloc (Nat.le_refl _) _) (Nat.le_trans HS2.out.1.1 (Nat.le_of_lt HS2.out.lt))).trans HF3.out)).trans (MkFr.of_below HBT.out (Nat.le_trans HS3.out.1.1 (Nat.le_of_lt HS3.out.lt)))) hp HZ4.out HU4.out (good_fn HG.out HG3.out (Nat.le_refl _)))
  · go_wp2_with (go_at_call 9; refine (HI.out _ _ H1.out (by omega)).mono ?_)
    rintro e W2 ⟨⟨t, u, rfl, hg, hu⟩, ⟨k2, hk2, hs2⟩, hf2⟩
    obtain ⟨a2, n2, rfl⟩ := hu.shape
    have hz2 := hf2.2 _ _ HZ.out HNe.out
    have hzl2 := (Array.getElem?_eq_some_iff.1 hz2).1
    have HZ2 := Lib.hid hz2; have HU := Lib.hid hu; have HS2 := Lib.hid hs2; have HF2 := Lib.hid hf2; have HG := Lib.hid hg
    clear hz2 hu hs2 hf2 hg c0 c1 c2 f0 f1 f2
    simp only [tyV]
    go_wp2_with fail
    have hbx := alloc_new W2 (.cells #[.int .i64 t.kind, .string t.name, .slice a2 t.kids.length n2] 29)
    have HBX := Lib.hid hbx
    have hne2 : W2.heap.size ≠ p := by have := HS2.out.lt; omega
    have HNe2 := Lib.hid hne2
    clear hbx hne2
    go_region_with (first
      | (go_at_call 9; refine (HI2.out k2 _ ?hs ?hk).mono ?_; (case hs => exact SeqAt.drew (HS2.out.below ((Below.refl _ W2).alloc (Nat.le_refl _) _))); (case hk => omega); rintro e W3 ⟨⟨t3, u3, rfl, hg3, hu3⟩, ⟨k3, hk3, hs3⟩, hf3'⟩; have hf3 := MkFr.of_drew hf3'; clear hf3'; obtain ⟨a3, n3, rfl⟩ := hu3.shape; have hbx3 := hf3.2 _ _ HBX.out HNe2.out; obtain ⟨x0, x1, x2⟩ := three_cells hbx3; have hz3 := hf3.2 _ _ ((Below.heap_alloc W2 _ _ hzl2).trans HZ2.out) HNe.out; have hzl3 := (Array.getElem?_eq_some_iff.1 hz3).1; have HZ3 := Lib.hid hz3; have HS3 := Lib.hid hs3; have HF3 := Lib.hid hf3; have HG3 := Lib.hid hg3; have HUt := Lib.hid ((HU.out.mono (ok' := fun k => w.heap.size < k) fun k hk => Nat.lt_of_lt_of_le hzl hk).keep (fun k cs fz _ hh => ((keepT_alloc W2 _).trans (KeepT.of_mk hf3 (HS2.out.below ((Below.refl _ W2).alloc (Nat.le_refl _) _)))) k cs fz hh)); have hu3' : TyIn (fun k => w.heap.size < k) W3 t3 (.slice a3 t3.kids.length n3) := hu3.mono (fun k hk => by have h9 : (W2.alloc (.cells #[.int .i64 t.kind, .string t.name, .slice a2 t.kids.length n2] 29)).heap.size ≤ k := hk; simp at h9; omega); have HU3 := Lib.hid hu3'; clear hz3 hs3 hf3 hu3 hu3' hg3 hbx3; simp only [tyV])
      | (go_at_call 39; refine (fun2_in t t3 _ _ _ _ _ (fun k hk => Nat.lt_of_lt_of_le hzl3 hk) HUt.out HU3.out).mono ?_; rintro e W4 ⟨⟨u4, rfl, hu4⟩, hb4⟩; obtain ⟨a4, n4, rfl⟩ := hu4.shape; have HBT := Lib.hid hb4; have hz4 : W4.heap[w.heap.size]? = some (.cells #[.int .i64 0, .string ⟨#[]⟩, .slice none 0 0] 29 (0, 0)) := (HBT.out.block _ hzl3).trans HZ3.out; obtain ⟨d0, d1, d2⟩ := three_cells hz4; have g0 := Lib.frozen_of_heap hz4 0; have g1 := Lib.frozen_of_heap hz4 1; have g2 := Lib.frozen_of_heap hz4 2; have HZ4 := Lib.hid hz4; have HU4 := Lib.hid hu4; clear hz4 hu4 hb4; simp only [tyV, show (T.fn t t3).kind = 3 from rfl, show (T.fn t t3).name = ⟨#[]⟩ from rfl, show (T.fn t t3).kids.length = 2 from rfl]))
    all_goals go_wp2
    all_goals exact bodyPost_ret (v := .agg #[.int .i64 3, .string ⟨#[]⟩, .slice a4 2 n4]) (by have hc := set3_cells HZ4.out (.int .i64 3) (.string ⟨#[]⟩) (.slice a4 2 n4); simp [results, Tryd.results9, go_sem, hc.1, hc.2.1, hc.2.2]) rfl (made_fn (t := T.fn t t3) (HS3.out.below HBT.out) (by omega) (((H2.out.trans HF2.out).trans ((MkFr.of_below ((Below.refl _ W2).alloc (Nat.le_refl _) _) (Nat.le_trans HS2.out.1.1 (Nat.le_of_lt HS2.out.lt))).trans HF3.out)).trans (MkFr.of_below HBT.out (Nat.le_trans HS3.out.1.1 (Nat.le_of_lt HS3.out.lt)))) hp HZ4.out HU4.out (good_fn HG.out HG3.out (Nat.le_refl _)))
end Go.Proofs.YtdcfemojkdoakaaDoor
/- Types of depth three, of depth four, made of numbers. -/
namespace Go.Proofs.YtdcfemojkdoakaaDoor
open Go.RowKit

theorem make_n1 (B p : Nat) (a : Option Addr) (n c k : Nat) (w : World) (h : SeqAt B p a n c k w) (hk : k + 4 < 1152921504606846976) (hn : n < 1152921504606846976) :
    Calls Tryd.prog 9 #[.pointer (some ⟨p, 0, none⟩), .int .i64 1] w (MadeN B p a n c k 4 28 w) :=
  make_stepN 1 (by decide) (by decide) 2 14 (by decide) (by decide) B p a n c k w h hk hn (fun k w h hk => make_n0 B p a n c k w h (by omega) hn)
theorem make_n2 (B p : Nat) (a : Option Addr) (n c k : Nat) (w : World) (h : SeqAt B p a n c k w) (hk : k + 8 < 1152921504606846976) (hn : n < 1152921504606846976) :
    Calls Tryd.prog 9 #[.pointer (some ⟨p, 0, none⟩), .int .i64 2] w (MadeN B p a n c k 8 56 w) :=
  make_stepN 2 (by decide) (by decide) 4 28 (by decide) (by decide) B p a n c k w h hk hn (fun k w h hk => make_n1 B p a n c k w h hk hn)
theorem make_n3 (B p : Nat) (a : Option Addr) (n c k : Nat) (w : World) (h : SeqAt B p a n c k w) (hk : k + 16 < 1152921504606846976) (hn : n < 1152921504606846976) :
    Calls Tryd.prog 9 #[.pointer (some ⟨p, 0, none⟩), .int .i64 3] w (MadeN B p a n c k 16 112 w) :=
  make_stepN 3 (by decide) (by decide) 8 56 (by decide) (by decide) B p a n c k w h hk hn (fun k w h hk => make_n2 B p a n c k w h hk hn)
theorem make_n4 (B p : Nat) (a : Option Addr) (n c k : Nat) (w : World) (h : SeqAt B p a n c k w) (hk : k + 32 < 1152921504606846976) (hn : n < 1152921504606846976) :
    Calls Tryd.prog 9 #[.pointer (some ⟨p, 0, none⟩), .int .i64 4] w (MadeN B p a n c k 32 224 w) :=
  make_stepN 4 (by decide) (by decide) 16 112 (by decide) (by decide) B p a n c k w h hk hn (fun k w h hk => make_n3 B p a n c k w h hk hn)
end Go.Proofs.YtdcfemojkdoakaaDoor
/- What the program's Unify is to tell, and what the laws of unification share. -/
namespace Go.Proofs.YtdcfemojkdoakaaDoor
open Go.RowKit Go.Sort Go.Lib
attribute [local go_sem] Oper.semAt_some

/-- The two errors of unification lie where they are to. -/
def TwoE (aT aO : Addr) (w : World) : Prop := w.cell? ⟨1, 0, none⟩ = some (errP aT) ∧ w.cell? ⟨0, 0, none⟩ = some (errP aO)
theorem TwoE.below {aT aO : Addr} {w W : World} (h : TwoE aT aO w) (hb : Below w.heap.size w W) : TwoE aT aO W :=
  ⟨(hb.cell (p := ⟨1, 0, none⟩) (World.block_lt_of_cell? _ _ h.1)).trans h.1, (hb.cell (p := ⟨0, 0, none⟩) (World.block_lt_of_cell? _ _ h.2)).trans h.2⟩
/-- What the program's Unify tells. -/
def PRes (aT aO : Addr) (S : USet) (r : UR) (E : Ending) (w' : World) : Prop :=
  match r with
  | .ok τ => ∃ sv l, E = .returned (.tuple #[.agg #[sv], .nilIface]) ∧ SubAt sv l w' ∧ PInv S l τ
  | .bad e => ∃ a c, E = .returned (.tuple #[.agg #[.slice a 0 c], errP (if e then aO else aT)])
/-- The contract of the program's Unify. -/
def PUni : Prop := ∀ (S : USet), S.V.length < 10 → ∀ (a b : T) (r : UR) (pa pb : Option Addr) (ca cb : Nat) (w : World) (aT aO : Addr), Uni T.var a b r → S.O a → S.O b → S.P a b → TwoE aT aO w → TysAt w (.slice pa a.kids.length ca) a.kids → TysAt w (.slice pb b.kids.length cb) b.kids →
  Calls Tryd.prog 10 #[.agg #[.int .i64 a.kind, .string a.name, .slice pa a.kids.length ca], .agg #[.int .i64 b.kind, .string b.name, .slice pb b.kids.length cb]] w fun E w' => PRes aT aO S r E w' ∧ Below w.heap.size w w'
/-- Apply of what was found. -/
theorem pap_ret {S : USet} {τ : Sg} {l : List PR} {t u : T} {sv : Value} {a : Option Addr} {c : Nat} {w : World} (hs : SubAt sv l w) (hp : PInv S l τ) (hi : UInv S τ) (hl : S.V.length < 10) (ht : tsize t ≤ 900000000) (e : sub τ t = u) (hT : TysAt w (.slice a t.kids.length c) t.kids) :
    Calls Tryd.prog 14 #[.agg #[sv], .agg #[.int .i64 t.kind, .string t.name, .slice a t.kids.length c]] w fun E Y => (∃ za zc, E = .returned (.agg #[.int .i64 u.kind, .string u.name, .slice za u.kids.length zc]) ∧ TysAt Y (.slice za u.kids.length zc) u.kids) ∧ Below w.heap.size w Y := by
  have e2 : app l t = u := (hp.is.app t).trans e
  subst e2
  have hlen := hp.len
  refine (apply_any (d := l) (t := t) (by omega) (fun x hx => by have := hp.sized hi x hx; omega) (by omega) hs hT).mono ?_
  rintro E Y ⟨⟨za, zc, rfl, hin⟩, hb⟩
  exact ⟨⟨za, zc, rfl, hin.tys⟩, hb⟩
theorem fits_le {t : T} (h : tsize t ≤ 900000000) : Fits t := by
  refine T.by_kids (P := fun t => tsize t ≤ 900000000 → Fits t) (fun t H h => ?_) t h
  refine .mk t ?_ fun k hk => H k hk (by have := tsize_kid hk; omega)
  have h1 := len_sizes' t.kids
  rw [tsize_eq] at h; omega
theorem sameU_ret {t : T} (ht : tsize t ≤ 900000000) {a b : Option Addr} {c d : Nat} {w : World} (h : TysAt w (.slice a t.kids.length c) t.kids) (h' : TysAt w (.slice b t.kids.length d) t.kids) :
    Calls Tryd.prog 13 #[.agg #[.int .i64 t.kind, .string t.name, .slice a t.kids.length c], .agg #[.int .i64 t.kind, .string t.name, .slice b t.kids.length d]] w fun e Y => e = .returned (.bool true) ∧ Below w.heap.size w Y := by
  have := sameType_any (t := t) (t' := t) (w := w) (fits_le ht) h h'
  rwa [eqB_true rfl] at this
/-- What two types come to, and that it goes on. -/
theorem uni_start (S : USet) {a b : T} (ha : S.O a) (hb : S.O b) (hP : S.P a b) : ∃ r, Uni T.var a b r ∧ ∀ τ, r = .ok τ → UInv S τ ∧ sub τ a = sub τ b := by
  obtain ⟨r, hr, _⟩ := uni_total S.V T.var a b idem_var (vin_var _) (S.tin a ha) (S.tin b hb)
  refine ⟨r, hr, fun τ e => ?_⟩
  subst e
  exact ⟨(hr.inv (uinv_var S) (.of ha) (.of hb) hP).1, (hr.sound idem_var).2.2⟩
theorem uni_found {a b : T} {r : UR} (h : Uni T.var a b r) (θ : Sg) (e : sub θ a = sub θ b) : ∃ τ, r = .ok τ ∧ Goes θ τ := h.most idem_var (goes_var θ) e
/-- The other way round it is found, too. -/
theorem uni_turn {a b : T} {r q : UR} (h : Uni T.var a b r) (k : Uni T.var b a q) : (∃ τ τ', r = .ok τ ∧ q = .ok τ') ∨ ∃ e e', r = .bad e ∧ q = .bad e' := by
  cases r with
  | ok τ =>
    obtain ⟨τ', e, _⟩ := uni_found k τ (h.sound idem_var).2.2.symm
    exact .inl ⟨τ, τ', rfl, e⟩
  | bad e =>
    cases q with
    | ok τ' =>
      obtain ⟨_, e', _⟩ := uni_found h τ' (k.sound idem_var).2.2.symm
      cases e'
    | bad e' => exact .inr ⟨e, e', rfl, rfl⟩
theorem made_small {t : T} {D : Nat} (h : T.Good t ∧ Fits t ∧ (T.text t).length + 10 ≤ D) (hD : D ≤ 224) : uset3.O t := good_o3 h.1 (by have := tsize2_text t h.1; have := h.2.2; omega)
/-- The example's two types. -/
def s1 : USet := usetV [⟨#[97]⟩] 1 (by decide) (by decide) (by intro x hx; simp at hx; subst hx; decide) (by decide)
theorem o1_a : s1.O (.var ⟨#[97]⟩) := s1.var _ (by simp [s1, usetV])
theorem o1_int : s1.O tInt := ⟨fun x hx => by simp [tInt, vs, vss] at hx, .mk _ (by simp [tInt, T.kind]) (fun k hk => by simp [tInt, T.kids] at hk), by simp [tInt, tsize, tsizes]⟩
theorem first_found : ∃ τ, Uni T.var (.var ⟨#[97]⟩) tInt (.ok τ) ∧ UInv s1 τ ∧ ∀ l, PInv s1 l τ → l.length = 1 := by
  obtain ⟨r, hr, hs⟩ := uni_start s1 o1_a o1_int trivial
  obtain ⟨τ, rfl, _⟩ := uni_found hr (one ⟨#[97]⟩ tInt) (by show one ⟨#[97]⟩ tInt ⟨#[97]⟩ = _; rw [one_at]; rfl)
  refine ⟨τ, hr, (hs τ rfl).1, fun l hl => ?_⟩
  have h1 : τ ⟨#[97]⟩ = tInt := (hs τ rfl).2
  have h2 := hl.len
  have h3 : l ≠ [] := by
    rintro rfl
    have := hl.is ⟨#[97]⟩
    rw [h1] at this; cases this
  have : l.length ≠ 0 := fun e => h3 (List.length_eq_zero_iff.1 e)
  simp only [s1, usetV, List.length_singleton] at h2
  omega
theorem len_ret (a : Option Addr) (n c : Nat) (w : World) :
    Calls Tryd.prog 19 #[.agg #[.slice a n c]] w fun e Y => e = .returned (.int .i64 (n : Int)) ∧ Below w.heap.size w Y := by
  go_enter Tryd.func19, Tryd.ntmps19
  go_wp2
  go_ret
  exact ⟨rfl, (Below.refl _ w).alloc (Nat.le_refl _) _⟩
set_option maxRecDepth 100000 in
set_option maxHeartbeats 1000000 in
theorem first_uni (HU : PUni) (aT aO : Addr) (w : World) (hE : TwoE aT aO w) : Calls Tryd.prog 8 #[] w fun e w' => e = .returned (.bool true) ∧ Below w.heap.size w w' := by
  obtain ⟨τ, hr, hi, hl⟩ := first_found
  have HC := Lib.hid (fun (V : World) (hb : Below w.heap.size w V) => HU s1 (by decide) (.var ⟨#[97]⟩) tInt (.ok τ) none none 0 0 V aT aO hr o1_a o1_int trivial (hE.below hb) (TysAt.nil _ _ _) (TysAt.nil _ _ _))
  have HB := Lib.hid (fun o => (Below.refl _ w).alloc (Nat.le_refl _) o)
  simp only [T.kind, T.name, T.kids, List.length_nil, tInt] at HC
  clear hE hr HU
  go_enter Tryd.func8, Tryd.ntmps8
  go_wp2_with (go_at_call 10; refine (HC.out _ (HB.out _)).mono ?_)
  rintro E w2 ⟨⟨sv, l, rfl, h1, h2⟩, hb2⟩
  obtain ⟨sa, sc, rfl⟩ := h1.shape
  have hl1 := hl l h2
  rw [hl1]
  have HB2 := Lib.hid ((HB.out _).trans (hb2.mono (by simp)))
  clear h1 h2 hb2 HC hl1
  have HL := Lib.hid (fun W => len_ret sa 1 sc W)
  go_wp2_with (go_at_call 19; refine (HL.out _).mono ?_; rintro e w3 ⟨rfl, hb3⟩; have HB3 := Lib.hid ((HB2.out.alloc HB2.out.size _).trans (hb3.mono (by have := HB2.out.size; simp; omega))); clear hb3)
  go_ret
  exact ⟨rfl, HB3.out⟩
end Go.Proofs.YtdcfemojkdoakaaDoor
/- SchemeFree: what the names come to, as plain data. -/
namespace Go.Proofs.YtdcfemojkdoakaaDoor
open Go.RowKit Go.Sort Go.Lib
attribute [local go_sem] Oper.semAt_some

theorem fv_nodups : ∀ t : T, ∀ bd out : List ByteArray, out.Nodup → (fv bd out t).Nodup := by
  refine T.kidsInd fun t ih bd out ho => ?_
  have hl : ∀ l : List T, (∀ k ∈ l, k ∈ t.kids) → ∀ bd out : List ByteArray, out.Nodup → (fvs bd out l).Nodup := by
    intro l
    induction l with
    | nil => intro _ bd out h; simpa [fvs] using h
    | cons a l ih2 => intro hk bd out h; rw [fvs]; exact ih2 (fun k h => hk k (List.mem_cons_of_mem _ h)) bd _ (ih a (hk a (List.mem_cons_self ..)) bd out h)
  cases t with
  | var n =>
    rw [fv]
    split
    · exact ho
    · rename_i h
      rw [List.nodup_append]
      exact ⟨ho, by simp, fun a ha b hb e => by
        have hb' : b = n := by simpa using hb
        exact h (.inr (by rw [← hb', ← e]; exact ha))⟩
  | con n l => rw [fv]; exact hl l (fun k h => h) bd out ho
  | fn a b => rw [fv]; exact ih b (by simp [T.kids]) bd _ (ih a (by simp [T.kids]) bd out ho)
  | all n a => rw [fv]; exact ih a (by simp [T.kids]) _ out ho
theorem fvs1_nodup (t : T) : (fvs [] [] [t]).Nodup := by rw [show fvs [] [] [t] = fv [] [] t by simp [fvs]]; exact fv_nodups t [] [] List.nodup_nil
theorem fvs1_mem {t : T} (h : NoAll t) {n : ByteArray} : n ∈ fvs [] [] [t] ↔ n ∈ vs t := by rw [← inB_iff]; exact vars_in h n
theorem only_if {l : List ByteArray} {m : ByteArray} {c : Bool} (hn : l.Nodup) (h : ∀ x ∈ l, x = m) (hc : c = true ↔ m ∈ l) : l = if c = true then [m] else [] := by
  cases l with
  | nil => rw [if_neg (fun e => nomatch hc.1 e)]
  | cons a l =>
    have ha := h a (List.mem_cons_self ..)
    subst ha
    rw [if_pos (hc.2 (List.mem_cons_self ..))]
    cases l with
    | nil => rfl
    | cons b l =>
      have hb := h b (by simp)
      subst hb
      simp at hn
theorem nm_sub {σ : Sg} : ∀ t, Nm t → (∀ y ∈ vs t, Nm (σ y)) → Nm (sub σ t) := by
  refine T.kidsInd fun t ih h hs => ?_
  cases hv : t.isV with
  | true =>
    rw [isV_var hv] at hs ⊢
    exact hs _ (by simp [vs])
  | false =>
    obtain ⟨e1, e2, e3, _⟩ := sub_parts σ t hv
    refine .mk _ (by rw [e2]; exact h.name) fun k hk => ?_
    rw [e3] at hk
    obtain ⟨k0, h0, rfl⟩ := List.mem_map.1 hk
    exact ih k0 h0 (h.kid h0) fun y hy => hs y ((vs_kids hv).2 ⟨k0, h0, hy⟩)
theorem tsizes_map {f : T → T} : ∀ l : List T, (∀ k ∈ l, tsize (f k) = tsize k) → tsizes (l.map f) = tsizes l
  | [], _ => rfl
  | a :: l, h => by rw [List.map_cons, tsizes, tsizes, h a (List.mem_cons_self ..), tsizes_map l fun k hk => h k (List.mem_cons_of_mem _ hk)]
theorem size_subV {σ : Sg} : ∀ t, (∀ y ∈ vs t, ∃ z, σ y = .var z) → tsize (sub σ t) = tsize t := by
  refine T.kidsInd fun t ih hs => ?_
  cases hv : t.isV with
  | true =>
    rw [isV_var hv] at hs ⊢
    obtain ⟨z, hz⟩ := hs t.name (by simp [vs])
    rw [sub, hz, tsize, tsize]
  | false =>
    obtain ⟨e1, e2, e3, _⟩ := sub_parts σ t hv
    rw [tsize_eq, tsize_eq t, e3, tsizes_map _ fun k hk => ih k hk fun y hy => hs y ((vs_kids hv).2 ⟨k, hk, hy⟩)]
theorem ty_prs_in : ∀ (F G : List ByteArray) (y : ByteArray), F.length = G.length → y ∈ F → ∃ z ∈ G, ty y (prs F G) = .var z
  | f :: F, g :: G, y, hl, hy => by
    rw [prs, ty_cons]
    by_cases e : f = y
    · rw [if_pos e]; exact ⟨g, List.mem_cons_self .., rfl⟩
    · rw [if_neg e]
      obtain ⟨z, hz, h⟩ := ty_prs_in F G y (by simpa using hl) ((List.mem_cons.1 hy).resolve_left fun q => e q.symm)
      exact ⟨z, List.mem_cons_of_mem _ hz, h⟩
  | [], _, _, _, hy => nomatch hy
  | _ :: _, [], _, hl, _ => by simp at hl
theorem ty_prs_out : ∀ (F G : List ByteArray) (y : ByteArray), y ∉ F → ty y (prs F G) = .var y
  | f :: F, g :: G, y, hy => by
    rw [prs, ty_cons, if_neg fun e : f = y => hy (by rw [← e]; exact List.mem_cons_self ..)]
    exact ty_prs_out F G y fun h => hy (List.mem_cons_of_mem _ h)
  | [], _, y, _ => by rw [prs]; exact ty_nil y; simp
  | _ :: _, [], y, _ => by rw [prs]; exact ty_nil y; simp
/-- What is for all, what is free. -/
theorem sf_free {t : T} {nm : ByteArray} : (fvs [] [] [t]).filter (fun n => !inB ((fvs [] [] [t]).filter fun n => !inB [nm] n) n) = if inB (fvs [] [] [t]) nm = true then [nm] else [] := by
  have hm : ∀ n, n ∈ (fvs [] [] [t]).filter (fun n => !inB [nm] n) ↔ n ∈ fvs [] [] [t] ∧ ¬ n = nm := fun n => by
    rw [List.mem_filter, Bool.not_eq_true', Bool.eq_false_iff, ne_eq, inB_iff, List.mem_singleton]
  refine only_if ((fvs1_nodup t).filter _) (fun x hx => ?_) ?_
  · obtain ⟨h1, h2⟩ := List.mem_filter.1 hx
    rw [Bool.not_eq_true', Bool.eq_false_iff, ne_eq, inB_iff, hm] at h2
    exact Classical.byContradiction fun e => h2 ⟨h1, e⟩
  · rw [inB_iff, List.mem_filter, Bool.not_eq_true', Bool.eq_false_iff, ne_eq, inB_iff, hm]
    exact ⟨fun h => ⟨h, fun q => q.2 rfl⟩, fun h => h.1⟩
theorem sf_nm : ∀ t, T.Good t → Nm t := by
  refine T.kidsInd fun t ih h => .mk t ?_ fun k hk => ih k hk (good_kid h hk)
  cases t with
  | var n => rw [T.Good] at h; have := (vname_pos h).2; simp only [T.name]; omega
  | con n l => rw [T.Good] at h; have := (cname_pos h.1).2; simp only [T.name]; omega
  | fn a b => exact (by decide : (0 : Nat) ≤ 1000)
  | all n a => rw [T.Good] at h; exact h.elim
structure SfU (t U : T) (nm : ByteArray) (zn : List ByteArray) : Prop where
  nmU : Nm U
  size : tsize U = tsize t
  names : ∀ n ∈ fvs [] [] [U], n.size ≤ 1000000
  zsize : ∀ n ∈ zn, n.size ≤ 1000000
  zlen : zn.length ≤ (fvs [] [] [t]).length
  free : (fvs [] [] [U]).filter (fun n => !inB zn n) = if inB (fvs [] [] [t]) nm = true then [nm] else []
  apart : inB (fvs [] [] [t]) nm = true → ∀ x ∈ zn, x ≠ nm
theorem sf_u {t : T} {nm : ByteArray} {zn X : List ByteArray} (hG : T.Good t) (hX : ((fvs [] [] [t]).filter fun n => !inB [nm] n) = X)
    (hz : NewN ((fvs [] [] [t]).filter (inB X)).length ((fvs [] [] [t]).filter fun n => !inB X n) zn) : SfU t (app (prs ((fvs [] [] [t]).filter (inB X)) zn) t) nm zn := by
  have hP := good_plain t hG
  have hF := @fvs1_mem t hP.no
  have hos := @sf_free t nm
  rw [hX] at hos
  rw [hos] at hz
  obtain ⟨hzl, hzn, hza⟩ := hz
  have hxm : ∀ n, n ∈ X ↔ n ∈ fvs [] [] [t] ∧ ¬ n = nm := fun n => by
    rw [← hX, List.mem_filter, Bool.not_eq_true', Bool.eq_false_iff, ne_eq, inB_iff, List.mem_singleton]
  have hbm : ∀ n, n ∈ (fvs [] [] [t]).filter (inB X) ↔ n ∈ fvs [] [] [t] ∧ ¬ n = nm := fun n => by
    rw [List.mem_filter, inB_iff, hxm]; exact ⟨fun h => h.2, fun h => ⟨h.1, h⟩⟩
  have hbl := List.length_filter_le (inB X) (fvs [] [] [t])
  generalize (fvs [] [] [t]).filter (inB X) = bs at *
  have hsg : ∀ y ∈ vs t, (∃ z ∈ zn, ty y (prs bs zn) = .var z ∧ y ≠ nm) ∨ (y = nm ∧ ty y (prs bs zn) = .var y) := fun y hy => by
    by_cases e : y = nm
    · exact .inr ⟨e, ty_prs_out bs zn y fun h => ((hbm y).1 h).2 e⟩
    · obtain ⟨z, h1, h2⟩ := ty_prs_in bs zn y hzl.symm ((hbm y).2 ⟨hF.2 hy, e⟩)
      exact .inl ⟨z, h1, h2, e⟩
  have hv : ∀ y ∈ vs t, ∃ z, ty y (prs bs zn) = .var z ∧ z.size ≤ 1000 := fun y hy => by
    rcases hsg y hy with ⟨z, h1, h2, _⟩ | ⟨_, h2⟩
    · exact ⟨z, h2, by rw [(hza z h1).2]; decide⟩
    · exact ⟨y, h2, v3_small y (good_in t hG y hy)⟩
  have hap : inB (fvs [] [] [t]) nm = true → ∀ x ∈ zn, x ≠ nm := fun h x hx e => (hza x hx).1 (by rw [if_pos h, e]; exact List.mem_singleton_self _)
  have hU : app (prs bs zn) t = sub (fun n => ty n (prs bs zn)) t := app_sub _ t
  rw [hU]
  have hPU : Plain3 (sub (fun n => ty n (prs bs zn)) t) := plain_sub t hP fun y hy => by
    obtain ⟨z, h, _⟩ := hv y hy
    rw [h]; exact .mk _ (by simp [T.kind]) (fun k hk => by cases hk)
  have hFU := @fvs1_mem _ hPU.no
  have hvu : ∀ x, x ∈ vs (sub (fun n => ty n (prs bs zn)) t) ↔ ∃ y ∈ vs t, x ∈ vs (ty y (prs bs zn)) := fun x => vs_sub t
  refine ⟨nm_sub t (sf_nm t hG) fun y hy => ?_, size_subV t fun y hy => (hv y hy).imp fun _ h => h.1, fun n hn => ?_, fun n hn => by rw [(hza n hn).2]; decide, by rw [hzl]; exact hbl, ?_, hap⟩
  · obtain ⟨z, h, hs⟩ := hv y hy
    rw [h]; exact .mk _ hs fun k hk => by cases hk
  · obtain ⟨y, hy, hx⟩ := (hvu n).1 (hFU.1 hn)
    obtain ⟨z, h, hs⟩ := hv y hy
    rw [h] at hx
    have : n = z := by simpa [vs] using hx
    rw [this]; omega
  · refine only_if ((fvs1_nodup _).filter _) (fun x hx => ?_) ?_
    · obtain ⟨h1, h2⟩ := List.mem_filter.1 hx
      rw [Bool.not_eq_true', Bool.eq_false_iff, ne_eq, inB_iff] at h2
      obtain ⟨y, hy, hx⟩ := (hvu x).1 (hFU.1 h1)
      rcases hsg y hy with ⟨z, k1, k2, _⟩ | ⟨k1, k2⟩
      · rw [k2] at hx
        have : x = z := by simpa [vs] using hx
        exact absurd (this ▸ k1) h2
      · rw [k2] at hx
        have : x = y := by simpa [vs] using hx
        rw [this, k1]
    · rw [inB_iff, List.mem_filter, Bool.not_eq_true', Bool.eq_false_iff, ne_eq, inB_iff, hFU, hvu]
      refine ⟨fun h => ⟨⟨nm, hF.1 h, ?_⟩, fun q => hap (inB_iff.2 h) nm q rfl⟩, fun h => ?_⟩
      · rw [ty_prs_out bs zn nm fun q => ((hbm nm).1 q).2 rfl]; simp [vs]
      · obtain ⟨⟨y, hy, hx⟩, h2⟩ := h
        rcases hsg y hy with ⟨z, k1, k2, _⟩ | ⟨k1, k2⟩
        · rw [k2] at hx
          have : nm = z := by simpa [vs] using hx
          exact absurd (this ▸ k1) h2
        · rw [← k1]; exact hF.2 hy
theorem sf_small {t : T} (hG : T.Good t) : (∀ n ∈ fvs [] [] [t], n.size ≤ 1000000) ∧ (fvs [] [] [t]).length ≤ 3 := by
  have hF := @fvs1_mem t (good_plain t hG).no
  refine ⟨fun n hn => ?_, nodup_lenS (R := V3) (fvs1_nodup t) fun n hn => good_in t hG n (hF.1 hn)⟩
  have := v3_small n (good_in t hG n (hF.1 hn)); omega
end Go.Proofs.YtdcfemojkdoakaaDoor
/- SchemeFree: what its last statement keeps. -/
namespace Go.Proofs.YtdcfemojkdoakaaDoor
open Go.RowKit Go.Sort Go.Lib
attribute [local go_sem] Oper.semAt_some

theorem run_guardF {P : Program} {o : Oper} {ops : Array Oper} {a : Act} {w : World} {K : Act → World → Prop} {Q : Exit → Act → World → Prop} {C : Prop} (g k : Nat) (v : Value) (hg : o.guard = some (g, false))
    (hk : (ops[g]?).bind (·.dst) = some k) (hv : a.tmps[k]? = some v) (e : v = .bool false) (h : Oper.wp P o a w K Q) :
    if Region.wanted o (yielded ops a.tmps) = true then Oper.wp P o a w K Q else C := by
  rw [if_pos (by simp [Region.wanted, hg, yielded, hk, hv, e])]; exact h
theorem run_skipF {P : Program} {o : Oper} {ops : Array Oper} {a : Act} {w : World} {K : Act → World → Prop} {Q : Exit → Act → World → Prop} {C : Prop} (g k : Nat) (v : Value) (hg : o.guard = some (g, false))
    (hk : (ops[g]?).bind (·.dst) = some k) (hv : a.tmps[k]? = some v) (e : v = .bool true) (h : C) :
    if Region.wanted o (yielded ops a.tmps) = true then Oper.wp P o a w K Q else C := by
  rw [if_neg (by simp [Region.wanted, hg, yielded, hk, hv, e])]; exact h
theorem mod3S (z : Int) : ∃ nn : Nat, nn < 3 ∧ (wrap64 (z.tmod 3 + 3)).tmod 3 = (nn : Int) := by
  have k1 := Int.tmod_lt_of_pos z (show (0 : Int) < 3 by omega)
  have k2 := Int.lt_tmod_of_pos z (show (0 : Int) < 3 by omega)
  have e : wrap64 (z.tmod 3 + 3) = z.tmod 3 + 3 := by unfold wrap64; omega
  rw [e]
  have k3 := Int.tmod_lt_of_pos (z.tmod 3 + 3) (show (0 : Int) < 3 by omega)
  have k4 := Int.tmod_nonneg 3 (show 0 ≤ z.tmod 3 + 3 by omega)
  exact ⟨((z.tmod 3 + 3).tmod 3).toNat, by omega, by omega⟩
theorem nm3 : ∀ (nn : Nat) (h : nn < 3), ∃ nm : ByteArray, nm ∈ V3 ∧ ([Value.string ⟨#[97]⟩, .string ⟨#[98]⟩, .string ⟨#[99]⟩][nn]'h) = .string nm
  | 0, _ => ⟨⟨#[97]⟩, by simp [V3], rfl⟩
  | 1, _ => ⟨⟨#[98]⟩, by simp [V3], rfl⟩
  | 2, _ => ⟨⟨#[99]⟩, by simp [V3], rfl⟩
  | n + 3, h => by omega
/-- A row whose first text is told. -/
def FRow (g : Nat) (nm : ByteArray) (V : World) : Prop := ∃ cs T fz, V.heap[g]? = some (.cells cs T fz) ∧ cs[0]? = some (.string nm)
theorem FRow.below {g : Nat} {nm : ByteArray} {V Y : World} (h : FRow g nm V) (hb : Below V.heap.size V Y) : FRow g nm Y := by
  obtain ⟨cs, T, fz, h1, h2⟩ := h
  exact ⟨cs, T, fz, (hb.block _ (Array.getElem?_eq_some_iff.1 h1).1).trans h1, h2⟩
theorem FRow.cell {g : Nat} {nm : ByteArray} {V : World} (h : FRow g nm V) : V.cell? ⟨g, 0, none⟩ = some (.string nm) := by
  obtain ⟨cs, T, fz, h1, h2⟩ := h
  rw [Lib.cell_of_heap h1]; exact h2
theorem FRow.of {a : Option Addr} {c : Nat} {nm : ByteArray} {V : World} (h : TextsAt V (.slice a [nm].length c) [nm]) : ∃ g, a = some ⟨g, 0, none⟩ ∧ FRow g nm V := by
  obtain ⟨a', c', e, h⟩ := h
  cases e
  rcases h with h | ⟨g, rfl, hc, cs, fz, hg, hr⟩
  · cases h
  · exact ⟨g, rfl, cs, _, fz, hg, hr 0 (by simp)⟩
/-- A type, a scheme of it, its canon. -/
def SfZ (w : World) (b6 b8 b9 : Nat) (t u : T) (pa : Option Addr) (ca : Nat) (xa : Option Addr) (xc : Nat) (xs : List ByteArray) (xx : Option Addr) (xk : Nat) (ta : Option Addr) (tc : Nat) (za : Option Addr) (zc : Nat) (zn : List ByteArray) (zp : Option Addr) (zq : Nat) (ua : Option Addr) (uc : Nat) (V : World) : Prop :=
  BoxT b6 t pa ca V ∧ (SchB b8 (.slice xa xs.length xc) (.slice xx 0 xk) t ta tc V ∧ TextsAt V (.slice xa xs.length xc) xs) ∧ (SchB b9 (.slice za zn.length zc) (.slice zp 0 zq) u ua uc V ∧ TextsAt V (.slice za zn.length zc) zn) ∧ Below w.heap.size w V
section
variable {w X Y : World} {b6 b8 b9 : Nat} {t u : T} {pa : Option Addr} {ca : Nat} {xa : Option Addr} {xc : Nat} {xs : List ByteArray} {xx : Option Addr} {xk : Nat} {ta : Option Addr} {tc : Nat} {za : Option Addr} {zc : Nat} {zn : List ByteArray} {zp : Option Addr} {zq : Nat} {ua : Option Addr} {uc : Nat}
theorem SfZ.below (h : SfZ w b6 b8 b9 t u pa ca xa xc xs xx xk ta tc za zc zn zp zq ua uc X) (hb : Below X.heap.size X Y) : SfZ w b6 b8 b9 t u pa ca xa xc xs xx xk ta tc za zc zn zp zq ua uc Y :=
  ⟨h.1.below hb, ⟨h.2.1.1.below hb, h.2.1.2.below hb⟩, ⟨h.2.2.1.1.below hb, h.2.2.1.2.below hb⟩, h.2.2.2.trans (hb.mono h.2.2.2.size)⟩
end
end Go.Proofs.YtdcfemojkdoakaaDoor
/- SchemeFree: what its calls answer. -/
namespace Go.Proofs.YtdcfemojkdoakaaDoor
open Go.RowKit Go.Sort Go.Lib
attribute [local go_sem] Oper.semAt_some

theorem texts_one {V : World} {g : Nat} {nm : ByteArray} (h : V.heap[g]? = some (.cells #[.string nm] 9 (0, 0))) : TextsAt V (.slice (some ⟨g, 0, none⟩) [nm].length 1) [nm] :=
  ⟨_, _, rfl, .inr ⟨g, rfl, by simp, _, _, h, fun i hi => by
    have : i = 0 := by simpa using hi
    subst this; rfl⟩⟩
theorem clos_ret {t : T} {nm : ByteArray} {xs : List ByteArray} (hG : T.Good t) (hs : tsize t ≤ 107) (hm : nm ∈ V3) (hX : ((fvs [] [] [t]).filter fun n => !inB [nm] n) = xs) {pa na : Option Addr} {ca nc : Nat} {V : World} (ht : TysAt V (.slice pa t.kids.length ca) t.kids) (hN : TextsAt V (.slice na 1 nc) [nm]) :
    Calls Tryd.prog 32 #[.slice none 0 0, .agg #[.int .i64 t.kind, .string t.name, .slice pa t.kids.length ca], .slice na 1 nc] V fun e Y =>
      (∃ xa xc xp ta tc, e = .returned (.agg #[.slice xa xs.length xc, .slice (some xp) 0 0, .int .i64 t.kind, .string t.name, .slice ta t.kids.length tc]) ∧ TextsAt Y (.slice xa xs.length xc) xs ∧ TysAt Y (.slice ta t.kids.length tc) t.kids) ∧ Below V.heap.size V Y := by
  subst hX
  have h3 := sf_small hG
  exact clos_any t [nm] (sf_nm t hG) (by omega) h3.1 (by have := h3.2; omega) (fun n hn => by
    have e : n = nm := by simpa using hn
    rw [e]; have := v3_small nm hm; omega) (by simp) none pa na 0 ca nc V ht hN
theorem canon_ret {t : T} {nm : ByteArray} {xs : List ByteArray} (hG : T.Good t) (hs : tsize t ≤ 107) (hX : ((fvs [] [] [t]).filter fun n => !inB [nm] n) = xs) {xa xx ta : Option Addr} {xc xk tc : Nat} {V : World} (ht : TysAt V (.slice ta t.kids.length tc) t.kids) (hx : TextsAt V (.slice xa xs.length xc) xs) :
    Calls Tryd.prog 33 #[.agg #[.slice xa xs.length xc, .slice xx 0 xk, .int .i64 t.kind, .string t.name, .slice ta t.kids.length tc]] V fun e Y =>
      (∃ (zn : List ByteArray) (u : T) (za : Option Addr) (zc : Nat) (zp : Option Addr) (zq : Nat) (ua : Option Addr) (uc : Nat), e = .returned (.agg #[.slice za zn.length zc, .slice zp 0 zq, .int .i64 u.kind, .string u.name, .slice ua u.kids.length uc]) ∧ (TextsAt Y (.slice za zn.length zc) zn ∧ TysAt Y (.slice ua u.kids.length uc) u.kids) ∧ SfU t u nm zn) ∧ Below V.heap.size V Y := by
  have h3 := sf_small hG
  have hl1 : xs.length ≤ 3 := by rw [← hX]; have := List.length_filter_le (fun n => !inB [nm] n) (fvs [] [] [t]); omega
  have hx1 : ∀ n ∈ xs, n.size ≤ 1000000 := fun n hn => by rw [← hX] at hn; exact h3.1 n (List.mem_filter.1 hn).1
  have hb1 := List.length_filter_le (inB xs) (fvs [] [] [t])
  have hb2 := List.length_filter_le (fun n => !inB xs n) (fvs [] [] [t])
  refine (canon_any t xs (sf_nm t hG) (by omega) h3.1 (by have := h3.2; omega) hx1 (by omega) (by have := h3.2; omega) xa xx ta xc xk tc V ht hx).mono fun e Y hq => ?_
  obtain ⟨⟨zn, za, zc, zp, zq, zt, zu, e1, h1, h2, h4⟩, hb⟩ := hq
  exact ⟨⟨zn, _, za, zc, zp, zq, zt, zu, e1, ⟨h1, h2⟩, sf_u hG hX h4⟩, hb⟩
theorem frees_ret {t : T} {nm : ByteArray} {xs L : List ByteArray} (hG : T.Good t) (hs : tsize t ≤ 107) (hX : ((fvs [] [] [t]).filter fun n => !inB [nm] n) = xs) (hL : (if inB (fvs [] [] [t]) nm = true then [nm] else []) = L) {xa xx ta : Option Addr} {xc xk tc : Nat} {V : World} (ht : TysAt V (.slice ta t.kids.length tc) t.kids) (hx : TextsAt V (.slice xa xs.length xc) xs) :
    Calls Tryd.prog 35 #[.agg #[.slice xa xs.length xc, .slice xx 0 xk, .int .i64 t.kind, .string t.name, .slice ta t.kids.length tc]] V fun e Y =>
      (∃ qa qc, e = .returned (.slice qa L.length qc) ∧ TextsAt Y (.slice qa L.length qc) L) ∧ Below V.heap.size V Y := by
  have h3 := sf_small hG
  have hl1 : xs.length ≤ 3 := by rw [← hX]; have := List.length_filter_le (fun n => !inB [nm] n) (fvs [] [] [t]); omega
  have hx1 : ∀ n ∈ xs, n.size ≤ 1000000 := fun n hn => by rw [← hX] at hn; exact h3.1 n (List.mem_filter.1 hn).1
  have hf := @sf_free t nm
  rw [hX, hL] at hf
  rw [← hf]
  exact free_any t xs (sf_nm t hG) (by omega) h3.1 (by have := h3.2; omega) hx1 (by omega) xa xx ta xc xk tc V ht hx
theorem freec_ret {t u : T} {nm : ByteArray} {zn L : List ByteArray} (hs : tsize t ≤ 107) (hG : T.Good t) (hU : SfU t u nm zn) (hL : (if inB (fvs [] [] [t]) nm = true then [nm] else []) = L) {za zp ua : Option Addr} {zc zq uc : Nat} {V : World} (ht : TysAt V (.slice ua u.kids.length uc) u.kids) (hx : TextsAt V (.slice za zn.length zc) zn) :
    Calls Tryd.prog 35 #[.agg #[.slice za zn.length zc, .slice zp 0 zq, .int .i64 u.kind, .string u.name, .slice ua u.kids.length uc]] V fun e Y =>
      (∃ qa qc, e = .returned (.slice qa L.length qc) ∧ TextsAt Y (.slice qa L.length qc) L) ∧ Below V.heap.size V Y := by
  have hf := hU.free
  rw [hL] at hf
  rw [← hf]
  have hl : (fvs [] [] [u]).length ≤ 0 + tsizes [u] := fv_lens.2 [u] [] []
  have hsz := hU.size
  have hz := hU.zlen; have h3 := (sf_small hG).2
  simp only [tsizes] at hl
  exact free_any u zn hU.nmU (by omega) hU.names (by omega) hU.zsize (by omega) za zp ua zc zq uc V ht hx
end Go.Proofs.YtdcfemojkdoakaaDoor
/- SchemeFree: its last statement, a region of 36 operations that draws its order, by an invariant. (Made by a program.) -/
namespace Go.Proofs.YtdcfemojkdoakaaDoor
open Go.RowKit Go.Sort Go.Lib
attribute [local go_sem] Oper.semAt_some

noncomputable def sftOps : Array Oper := regionIn 17 (Tryd.f7.body.getD .skip)
def sftFr (b : Nat → Value) (d : List Deferred) (x : Nat → Value) : Act := { tmps := #[b 0, b 1, b 2, b 3, x 35, b 5, b 6, b 7, b 8, b 9, b 10, b 11, b 12, b 13, b 14, b 15, b 16, b 17, b 18, b 19, b 20, b 21, b 22, b 23, b 24, b 25, b 26, b 27, b 28, b 29, b 30, b 31, b 32, b 33, b 34, b 35, b 36, b 37, b 38, b 39, b 40, b 41, b 42, b 43, b 44, b 45, b 46, b 47, b 48, b 49, b 50, b 51, b 52, b 53, b 54, b 55, b 56, b 57, b 58, b 59, b 60, x 0, x 1, x 2, x 3, x 4, x 5, x 6, x 7, x 8, x 9, x 10, x 11, x 12, x 13, x 14, x 15, x 16, x 17, x 18, x 19, x 20, x 21, x 22, x 23, x 24, x 25, x 26, x 27, x 28, x 29, x 30, x 31, x 32, x 33, x 34], defers := d }

def sftVals (b9 : Nat) (t u : T) (pa : Option Addr) (ca : Nat) (xa : Option Addr) (xc : Nat) (xs : List ByteArray) (xx : Option Addr) (xk : Nat) (ta : Option Addr) (tc : Nat) (ua : Option Addr) (uc : Nat) (nm : ByteArray) (fg fc : Nat) (i : Nat) (v : Value) (V : World) : Prop :=
  match i with
  | 0 => v = .bool true
  | 1 => v = .bool true
  | 2 => v = .slice (some ⟨fg, 0, none⟩) 1 fc
  | 3 => v = .int .i64 1
  | 4 => v = .agg #[.slice xa xs.length xc, .slice xx 0 xk, .int .i64 t.kind, .string t.name, .slice ta t.kids.length tc]
  | 5 => ∃ qa qc, v = .slice qa 1 qc ∧ True
  | 6 => v = .int .i64 1
  | 7 => v = .bool true
  | 8 => v = .bool true
  | 9 => v = .bool true
  | 10 => v = .slice (some ⟨fg, 0, none⟩) 1 fc
  | 11 => v = .int .i64 1
  | 12 => v = .bool true
  | 13 => v = .bool true
  | 14 => v = .bool true
  | 15 => v = .bool true
  | 16 => v = .bool true
  | 17 => v = .bool true
  | 18 => v = .bool false
  | 19 => v = .bool false
  | 20 => v = .slice (some ⟨fg, 0, none⟩) 1 fc
  | 21 => v = .pointer (some ⟨fg, 0, none⟩)
  | 22 => v = .string nm
  | 23 => v = .string nm
  | 24 => v = .bool true
  | 25 => v = .bool true
  | 26 => v = .bool true
  | 27 => v = .bool true
  | 28 => v = .pointer (some ⟨b9, 2, none⟩)
  | 29 => v = .agg #[.int .i64 (u).kind, .string (u).name, .slice ua (u).kids.length uc]
  | 30 => v = .int .i64 (tsize t : Int)
  | 31 => v = .agg #[.int .i64 (t).kind, .string (t).name, .slice pa (t).kids.length ca]
  | 32 => v = .int .i64 (tsize t : Int)
  | 33 => v = .bool true
  | 34 => v = .bool true
  | 35 => v = .bool true
  | _ => True

theorem sftVals_keep {b9 : Nat} {t u : T} {pa : Option Addr} {ca : Nat} {xa : Option Addr} {xc : Nat} {xs : List ByteArray} {xx : Option Addr} {xk : Nat} {ta : Option Addr} {tc : Nat} {ua : Option Addr} {uc : Nat} {nm : ByteArray} {fg fc : Nat} (i : Nat) (v : Value) (V Y : World) (h : sftVals b9 t u pa ca xa xc xs xx xk ta tc ua uc nm fg fc i v V) (hb : Below V.heap.size V Y) : sftVals b9 t u pa ca xa xc xs xx xk ta tc ua uc nm fg fc i v Y := by
  unfold sftVals at *
  split at h <;> first
    | exact h
    | (obtain ⟨qa, qc, e, h⟩ := h; exact ⟨qa, qc, e, h⟩)

theorem sft_size : sftOps.size = 36 := by kernel_rfl
theorem sft_dst_1 : (sftOps[1]?).bind (·.dst) = some 62 := by kernel_rfl
theorem sft_dst_9 : (sftOps[9]?).bind (·.dst) = some 70 := by kernel_rfl
theorem sft_dst_16 : (sftOps[16]?).bind (·.dst) = some 77 := by kernel_rfl
theorem sft_dst_19 : (sftOps[19]?).bind (·.dst) = some 80 := by kernel_rfl
theorem sft_dst_27 : (sftOps[27]?).bind (·.dst) = some 88 := by kernel_rfl
set_option linter.unusedSimpArgs false in
set_option maxRecDepth 100000 in
set_option maxHeartbeats 8000000 in
theorem sft_region {w : World} {b6 b8 b9 : Nat} {t u : T} {pa : Option Addr} {ca : Nat} {xa : Option Addr} {xc : Nat} {xs : List ByteArray} {xx : Option Addr} {xk : Nat} {ta : Option Addr} {tc : Nat} {za : Option Addr} {zc : Nat} {zn : List ByteArray} {zp : Option Addr} {zq : Nat} {ua : Option Addr} {uc : Nat} {nm : ByteArray} {fg fc : Nat} {b : Nat → Value} {d : List Deferred}
    (h5 : b 5 = .bool true) (h6 : b 6 = .pointer (some ⟨b6, 0, none⟩)) (h7 : b 7 = .string nm) (h8 : b 8 = .pointer (some ⟨b8, 0, none⟩)) (h9 : b 9 = .pointer (some ⟨b9, 0, none⟩)) (h10 : b 10 = .bool true) (h11 : b 11 = .slice (some ⟨fg, 0, none⟩) 1 fc)
    (HC5 : ∀ V, (SfZ w b6 b8 b9 t u pa ca xa xc xs xx xk ta tc za zc zn zp zq ua uc V ∧ FRow fg nm V) → Calls Tryd.prog 35 #[.agg #[.slice xa xs.length xc, .slice xx 0 xk, .int .i64 t.kind, .string t.name, .slice ta t.kids.length tc]] V fun e Y => (∃ qa qc, e = .returned (.slice qa 1 qc) ∧ True) ∧ Below V.heap.size V Y)
    (HC30 : ∀ V, (SfZ w b6 b8 b9 t u pa ca xa xc xs xx xk ta tc za zc zn zp zq ua uc V ∧ FRow fg nm V) → Calls Tryd.prog 36 #[.agg #[.int .i64 (u).kind, .string (u).name, .slice ua (u).kids.length uc]] V fun e Y => e = .returned (.int .i64 (tsize t : Int)) ∧ Below V.heap.size V Y)
    (HC32 : ∀ V, (SfZ w b6 b8 b9 t u pa ca xa xc xs xx xk ta tc za zc zn zp zq ua uc V ∧ FRow fg nm V) → Calls Tryd.prog 36 #[.agg #[.int .i64 (t).kind, .string (t).name, .slice pa (t).kids.length ca]] V fun e Y => e = .returned (.int .i64 (tsize t : Int)) ∧ Below V.heap.size V Y)
    {Q : Exit → Act → World → Prop} {ops : Array Oper} (hops : ops = sftOps) (x0 : Nat → Value) (X : World) (hS : (SfZ w b6 b8 b9 t u pa ca xa xc xs xx xk ta tc za zc zn zp zq ua uc X.drew ∧ FRow fg nm X.drew))
    (hfin : ∀ x V, (SfZ w b6 b8 b9 t u pa ca xa xc xs xx xk ta tc za zc zn zp zq ua uc V ∧ FRow fg nm V) → x 35 = .bool true → Q .normal (sftFr b d x) V) : (Code.region 17 ops true).wp Tryd.prog Q (sftFr b d x0) X := by
  have HC := Lib.hid (And.intro HC5 (And.intro HC30 HC32))
  clear HC5 HC30 HC32
  refine region_inv (sftFr b d) (fun V => (SfZ w b6 b8 b9 t u pa ca xa xc xs xx xk ta tc za zc zn zp zq ua uc V ∧ FRow fg nm V)) (fun V Y => Below V.heap.size V Y) (sftVals b9 t u pa ca xa xc xs xx xk ta tc ua uc nm fg fc) x0 (by kernel_rfl) rfl hS (fun V Y h hb => ⟨h.1.below hb, h.2.below hb⟩) (fun i v V Y _ h hb => sftVals_keep i v V Y h hb) ?_ (fun x V hV h => hfin x V hV (h 35 (by rw [hops, sft_size]; decide)))
  clear hfin hS
  obtain ⟨f, hf⟩ : ∃ qq, StepAt Tryd.prog (sftFr b d) (fun V => (SfZ w b6 b8 b9 t u pa ca xa xc xs xx xk ta tc za zc zn zp zq ua uc V ∧ FRow fg nm V)) (fun V Y => Below V.heap.size V Y) (sftVals b9 t u pa ca xa xc xs xx xk ta tc ua uc nm fg fc) ops Q = qq := ⟨_, rfl⟩
  rw [hf, hops]
  simp only [sftOps, Tryd.f7, regionIn, Option.getD_some, Nat.reduceBEq, Bool.false_eq_true, if_false, if_true, beq_self_eq_true, Array.append_empty, Array.empty_append, List.append_eq, List.cons_append, List.nil_append, AllAt, Nat.reduceAdd, Nat.zero_add]
  -- 0: slot 61 := Op.move t5
  refine And.intro ?_ ?_
  · rw [← hf]; clear hf
    refine ⟨by decide +kernel, fun x v => by kernel_rfl, fun x V hV hdep K hK => ?_⟩
    clear hdep
    refine run_bare (by kernel_rfl) ?_
    unfold sftFr
    go_simp
    refine kfit (hK _ _ (Below.refl _ V) rfl) ?_
    first | (simp only [sftFr, Act.put, List.setIfInBounds_toArray, List.set_cons_zero, List.set_cons_succ, h5, h6, h7, h8, h9, h10, h11]; done) | (simp only [sftFr, Act.put, List.setIfInBounds_toArray, List.set_cons_zero, List.set_cons_succ, h5, h6, h7, h8, h9, h10, h11]; rfl)
  -- 1: slot 62 := Op.move t61
  refine And.intro ?_ ?_
  · rw [← hf]; clear hf
    refine ⟨by decide +kernel, fun x v => by kernel_rfl, fun x V hV hdep K hK => ?_⟩
    have e0 : x 0 = .bool true := depOf hdep 0 (by decide +kernel)
    clear hdep
    refine run_bare (by kernel_rfl) ?_
    unfold sftFr
    go_simp
    refine kfit (hK _ _ (Below.refl _ V) rfl) ?_
    first | (simp only [sftFr, Act.put, List.setIfInBounds_toArray, List.set_cons_zero, List.set_cons_succ, h5, h6, h7, h8, h9, h10, h11, e0]; done) | (simp only [sftFr, Act.put, List.setIfInBounds_toArray, List.set_cons_zero, List.set_cons_succ, h5, h6, h7, h8, h9, h10, h11, e0]; rfl)
  -- 2: slot 63 := Op.move t11
  refine And.intro ?_ ?_
  · rw [← hf]; clear hf
    refine ⟨by decide +kernel, fun x v => by kernel_rfl, fun x V hV hdep K hK => ?_⟩
    have e1 : x 1 = .bool true := depOf hdep 1 (by decide +kernel)
    clear hdep
    refine run_guard 1 62 (x 1) (by kernel_rfl) (by rw [hops]; exact sft_dst_1) (by kernel_rfl) e1 ?_; clear hops
    unfold sftFr
    go_simp
    refine kfit (hK _ _ (Below.refl _ V) rfl) ?_
    first | (simp only [sftFr, Act.put, List.setIfInBounds_toArray, List.set_cons_zero, List.set_cons_succ, h5, h6, h7, h8, h9, h10, h11, e1]; done) | (simp only [sftFr, Act.put, List.setIfInBounds_toArray, List.set_cons_zero, List.set_cons_succ, h5, h6, h7, h8, h9, h10, h11, e1]; rfl)
  -- 3: slot 64 := Op.call { builtin len, args := #[t63], argTypes := #[64] }
  refine And.intro ?_ ?_
  · rw [← hf]; clear hf
    refine ⟨by decide +kernel, fun x v => by kernel_rfl, fun x V hV hdep K hK => ?_⟩
    have e1 : x 1 = .bool true := depOf hdep 1 (by decide +kernel)
    have e2 : x 2 = .slice (some ⟨fg, 0, none⟩) 1 fc := depOf hdep 2 (by decide +kernel)
    clear hdep
    refine run_guard 1 62 (x 1) (by kernel_rfl) (by rw [hops]; exact sft_dst_1) (by kernel_rfl) e1 ?_; clear hops
    unfold sftFr
    go_simp
    refine kfit (hK _ _ (Below.refl _ V) rfl) ?_
    first | (simp only [sftFr, Act.put, List.setIfInBounds_toArray, List.set_cons_zero, List.set_cons_succ, h5, h6, h7, h8, h9, h10, h11, e1, e2]; done) | (simp only [sftFr, Act.put, List.setIfInBounds_toArray, List.set_cons_zero, List.set_cons_succ, h5, h6, h7, h8, h9, h10, h11, e1, e2]; rfl)
  -- 4: slot 65 := Op.load 66 t8
  refine And.intro ?_ ?_
  · rw [← hf]; clear hf
    refine ⟨by decide +kernel, fun x v => by kernel_rfl, fun x V hV hdep K hK => ?_⟩
    have e1 : x 1 = .bool true := depOf hdep 1 (by decide +kernel)
    clear hdep
    refine run_guard 1 62 (x 1) (by kernel_rfl) (by rw [hops]; exact sft_dst_1) (by kernel_rfl) e1 ?_; clear hops
    unfold sftFr
    obtain ⟨y0, y1, y2⟩ := hV.1.1.cells; obtain ⟨y3, y4, y5, y6, y7⟩ := cells5 hV.1.2.1.1.1; obtain ⟨y8, y9, y10, y11, y12⟩ := cells5 hV.1.2.2.1.1.1; have y13 := hV.2.cell
    go_simp
    refine kfit (hK _ _ (Below.refl _ V) rfl) ?_
    first | (simp only [sftFr, Act.put, List.setIfInBounds_toArray, List.set_cons_zero, List.set_cons_succ, h5, h6, h7, h8, h9, h10, h11, e1]; done) | (simp only [sftFr, Act.put, List.setIfInBounds_toArray, List.set_cons_zero, List.set_cons_succ, h5, h6, h7, h8, h9, h10, h11, e1]; rfl)
  -- 5: slot 66 := Op.call { value (Operand.func 35), args := #[t65], argTypes 
  refine And.intro ?_ ?_
  · rw [← hf]; clear hf
    refine ⟨by decide +kernel, fun x v => by kernel_rfl, fun x V hV hdep K hK => ?_⟩
    have e1 : x 1 = .bool true := depOf hdep 1 (by decide +kernel)
    have e4 : x 4 = .agg #[.slice xa xs.length xc, .slice xx 0 xk, .int .i64 t.kind, .string t.name, .slice ta t.kids.length tc] := depOf hdep 4 (by decide +kernel)
    clear hdep
    refine run_guard 1 62 (x 1) (by kernel_rfl) (by rw [hops]; exact sft_dst_1) (by kernel_rfl) e1 ?_; clear hops
    unfold sftFr
    obtain ⟨HC5, HC30, HC32⟩ := HC.out
    clear HC30 HC32
    have H := HC5 V hV
    replace H := Lib.hid H; clear HC5
    go_simp
    go_at_call 35
    refine H.out.mono ?_
    rintro e Y ⟨⟨qa, qc, rfl, hq⟩, hb⟩; refine kfit (hK _ _ hb ⟨qa, qc, rfl, hq⟩) ?_
    first | (simp only [sftFr, Act.put, List.setIfInBounds_toArray, List.set_cons_zero, List.set_cons_succ, h5, h6, h7, h8, h9, h10, h11, e1, e4]; done) | (simp only [sftFr, Act.put, List.setIfInBounds_toArray, List.set_cons_zero, List.set_cons_succ, h5, h6, h7, h8, h9, h10, h11, e1, e4]; rfl)
  -- 6: slot 67 := Op.call { builtin len, args := #[t66], argTypes := #[64] }
  refine And.intro ?_ ?_
  · rw [← hf]; clear hf
    refine ⟨by decide +kernel, fun x v => by kernel_rfl, fun x V hV hdep K hK => ?_⟩
    have e1 : x 1 = .bool true := depOf hdep 1 (by decide +kernel)
    obtain ⟨qa5, qc5, e5, d5⟩ : ∃ qa5 qc5, x 5 = .slice qa5 1 qc5 ∧ True := depOf hdep 5 (by decide +kernel)
    clear hdep
    refine run_guard 1 62 (x 1) (by kernel_rfl) (by rw [hops]; exact sft_dst_1) (by kernel_rfl) e1 ?_; clear hops
    unfold sftFr
    go_simp
    refine kfit (hK _ _ (Below.refl _ V) rfl) ?_
    first | (simp only [sftFr, Act.put, List.setIfInBounds_toArray, List.set_cons_zero, List.set_cons_succ, h5, h6, h7, h8, h9, h10, h11, e1, e5]; done) | (simp only [sftFr, Act.put, List.setIfInBounds_toArray, List.set_cons_zero, List.set_cons_succ, h5, h6, h7, h8, h9, h10, h11, e1, e5]; rfl)
  -- 7: slot 68 := Op.binOp BinOp.eql 3 t64 t67 3
  refine And.intro ?_ ?_
  · rw [← hf]; clear hf
    refine ⟨by decide +kernel, fun x v => by kernel_rfl, fun x V hV hdep K hK => ?_⟩
    have e1 : x 1 = .bool true := depOf hdep 1 (by decide +kernel)
    have e3 : x 3 = .int .i64 1 := depOf hdep 3 (by decide +kernel)
    have e6 : x 6 = .int .i64 1 := depOf hdep 6 (by decide +kernel)
    clear hdep
    refine run_guard 1 62 (x 1) (by kernel_rfl) (by rw [hops]; exact sft_dst_1) (by kernel_rfl) e1 ?_; clear hops
    unfold sftFr
    go_simp
    refine kfit (hK _ _ (Below.refl _ V) rfl) ?_
    first | (simp only [sftFr, Act.put, List.setIfInBounds_toArray, List.set_cons_zero, List.set_cons_succ, h5, h6, h7, h8, h9, h10, h11, e1, e3, e6]; done) | (simp only [sftFr, Act.put, List.setIfInBounds_toArray, List.set_cons_zero, List.set_cons_succ, h5, h6, h7, h8, h9, h10, h11, e1, e3, e6]; rfl)
  -- 8: slot 69 := Op.pick t62 t68 (const (Value.bool false))
  refine And.intro ?_ ?_
  · rw [← hf]; clear hf
    refine ⟨by decide +kernel, fun x v => by kernel_rfl, fun x V hV hdep K hK => ?_⟩
    have e1 : x 1 = .bool true := depOf hdep 1 (by decide +kernel)
    have e7 : x 7 = .bool true := depOf hdep 7 (by decide +kernel)
    clear hdep
    refine run_bare (by kernel_rfl) ?_
    unfold sftFr
    go_simp
    refine kfit (hK _ _ (Below.refl _ V) rfl) ?_
    first | (simp only [sftFr, Act.put, List.setIfInBounds_toArray, List.set_cons_zero, List.set_cons_succ, h5, h6, h7, h8, h9, h10, h11, e1, e7]; done) | (simp only [sftFr, Act.put, List.setIfInBounds_toArray, List.set_cons_zero, List.set_cons_succ, h5, h6, h7, h8, h9, h10, h11, e1, e7]; rfl)
  -- 9: slot 70 := Op.move t69
  refine And.intro ?_ ?_
  · rw [← hf]; clear hf
    refine ⟨by decide +kernel, fun x v => by kernel_rfl, fun x V hV hdep K hK => ?_⟩
    have e8 : x 8 = .bool true := depOf hdep 8 (by decide +kernel)
    clear hdep
    refine run_bare (by kernel_rfl) ?_
    unfold sftFr
    go_simp
    refine kfit (hK _ _ (Below.refl _ V) rfl) ?_
    first | (simp only [sftFr, Act.put, List.setIfInBounds_toArray, List.set_cons_zero, List.set_cons_succ, h5, h6, h7, h8, h9, h10, h11, e8]; done) | (simp only [sftFr, Act.put, List.setIfInBounds_toArray, List.set_cons_zero, List.set_cons_succ, h5, h6, h7, h8, h9, h10, h11, e8]; rfl)
  -- 10: slot 71 := Op.move t11
  refine And.intro ?_ ?_
  · rw [← hf]; clear hf
    refine ⟨by decide +kernel, fun x v => by kernel_rfl, fun x V hV hdep K hK => ?_⟩
    have e9 : x 9 = .bool true := depOf hdep 9 (by decide +kernel)
    clear hdep
    refine run_guard 9 70 (x 9) (by kernel_rfl) (by rw [hops]; exact sft_dst_9) (by kernel_rfl) e9 ?_; clear hops
    unfold sftFr
    go_simp
    refine kfit (hK _ _ (Below.refl _ V) rfl) ?_
    first | (simp only [sftFr, Act.put, List.setIfInBounds_toArray, List.set_cons_zero, List.set_cons_succ, h5, h6, h7, h8, h9, h10, h11, e9]; done) | (simp only [sftFr, Act.put, List.setIfInBounds_toArray, List.set_cons_zero, List.set_cons_succ, h5, h6, h7, h8, h9, h10, h11, e9]; rfl)
  -- 11: slot 72 := Op.call { builtin len, args := #[t71], argTypes := #[64] }
  refine And.intro ?_ ?_
  · rw [← hf]; clear hf
    refine ⟨by decide +kernel, fun x v => by kernel_rfl, fun x V hV hdep K hK => ?_⟩
    have e9 : x 9 = .bool true := depOf hdep 9 (by decide +kernel)
    have e10 : x 10 = .slice (some ⟨fg, 0, none⟩) 1 fc := depOf hdep 10 (by decide +kernel)
    clear hdep
    refine run_guard 9 70 (x 9) (by kernel_rfl) (by rw [hops]; exact sft_dst_9) (by kernel_rfl) e9 ?_; clear hops
    unfold sftFr
    go_simp
    refine kfit (hK _ _ (Below.refl _ V) rfl) ?_
    first | (simp only [sftFr, Act.put, List.setIfInBounds_toArray, List.set_cons_zero, List.set_cons_succ, h5, h6, h7, h8, h9, h10, h11, e9, e10]; done) | (simp only [sftFr, Act.put, List.setIfInBounds_toArray, List.set_cons_zero, List.set_cons_succ, h5, h6, h7, h8, h9, h10, h11, e9, e10]; rfl)
  -- 12: slot 73 := Op.binOp BinOp.eql 3 t72 (const (1:i64)) 3
  refine And.intro ?_ ?_
  · rw [← hf]; clear hf
    refine ⟨by decide +kernel, fun x v => by kernel_rfl, fun x V hV hdep K hK => ?_⟩
    have e9 : x 9 = .bool true := depOf hdep 9 (by decide +kernel)
    have e11 : x 11 = .int .i64 1 := depOf hdep 11 (by decide +kernel)
    clear hdep
    refine run_guard 9 70 (x 9) (by kernel_rfl) (by rw [hops]; exact sft_dst_9) (by kernel_rfl) e9 ?_; clear hops
    unfold sftFr
    go_simp
    refine kfit (hK _ _ (Below.refl _ V) rfl) ?_
    first | (simp only [sftFr, Act.put, List.setIfInBounds_toArray, List.set_cons_zero, List.set_cons_succ, h5, h6, h7, h8, h9, h10, h11, e9, e11]; done) | (simp only [sftFr, Act.put, List.setIfInBounds_toArray, List.set_cons_zero, List.set_cons_succ, h5, h6, h7, h8, h9, h10, h11, e9, e11]; rfl)
  -- 13: slot 74 := Op.move t10
  refine And.intro ?_ ?_
  · rw [← hf]; clear hf
    refine ⟨by decide +kernel, fun x v => by kernel_rfl, fun x V hV hdep K hK => ?_⟩
    have e9 : x 9 = .bool true := depOf hdep 9 (by decide +kernel)
    clear hdep
    refine run_guard 9 70 (x 9) (by kernel_rfl) (by rw [hops]; exact sft_dst_9) (by kernel_rfl) e9 ?_; clear hops
    unfold sftFr
    go_simp
    refine kfit (hK _ _ (Below.refl _ V) rfl) ?_
    first | (simp only [sftFr, Act.put, List.setIfInBounds_toArray, List.set_cons_zero, List.set_cons_succ, h5, h6, h7, h8, h9, h10, h11, e9]; done) | (simp only [sftFr, Act.put, List.setIfInBounds_toArray, List.set_cons_zero, List.set_cons_succ, h5, h6, h7, h8, h9, h10, h11, e9]; rfl)
  -- 14: slot 75 := Op.binOp BinOp.eql 4 t73 t74 4
  refine And.intro ?_ ?_
  · rw [← hf]; clear hf
    refine ⟨by decide +kernel, fun x v => by kernel_rfl, fun x V hV hdep K hK => ?_⟩
    have e9 : x 9 = .bool true := depOf hdep 9 (by decide +kernel)
    have e12 : x 12 = .bool true := depOf hdep 12 (by decide +kernel)
    have e13 : x 13 = .bool true := depOf hdep 13 (by decide +kernel)
    clear hdep
    refine run_guard 9 70 (x 9) (by kernel_rfl) (by rw [hops]; exact sft_dst_9) (by kernel_rfl) e9 ?_; clear hops
    unfold sftFr
    go_simp
    refine kfit (hK _ _ (Below.refl _ V) rfl) ?_
    first | (simp only [sftFr, Act.put, List.setIfInBounds_toArray, List.set_cons_zero, List.set_cons_succ, h5, h6, h7, h8, h9, h10, h11, e9, e12, e13]; done) | (simp only [sftFr, Act.put, List.setIfInBounds_toArray, List.set_cons_zero, List.set_cons_succ, h5, h6, h7, h8, h9, h10, h11, e9, e12, e13]; rfl)
  -- 15: slot 76 := Op.pick t70 t75 (const (Value.bool false))
  refine And.intro ?_ ?_
  · rw [← hf]; clear hf
    refine ⟨by decide +kernel, fun x v => by kernel_rfl, fun x V hV hdep K hK => ?_⟩
    have e9 : x 9 = .bool true := depOf hdep 9 (by decide +kernel)
    have e14 : x 14 = .bool true := depOf hdep 14 (by decide +kernel)
    clear hdep
    refine run_bare (by kernel_rfl) ?_
    unfold sftFr
    go_simp
    refine kfit (hK _ _ (Below.refl _ V) rfl) ?_
    first | (simp only [sftFr, Act.put, List.setIfInBounds_toArray, List.set_cons_zero, List.set_cons_succ, h5, h6, h7, h8, h9, h10, h11, e9, e14]; done) | (simp only [sftFr, Act.put, List.setIfInBounds_toArray, List.set_cons_zero, List.set_cons_succ, h5, h6, h7, h8, h9, h10, h11, e9, e14]; rfl)
  -- 16: slot 77 := Op.move t76
  refine And.intro ?_ ?_
  · rw [← hf]; clear hf
    refine ⟨by decide +kernel, fun x v => by kernel_rfl, fun x V hV hdep K hK => ?_⟩
    have e15 : x 15 = .bool true := depOf hdep 15 (by decide +kernel)
    clear hdep
    refine run_bare (by kernel_rfl) ?_
    unfold sftFr
    go_simp
    refine kfit (hK _ _ (Below.refl _ V) rfl) ?_
    first | (simp only [sftFr, Act.put, List.setIfInBounds_toArray, List.set_cons_zero, List.set_cons_succ, h5, h6, h7, h8, h9, h10, h11, e15]; done) | (simp only [sftFr, Act.put, List.setIfInBounds_toArray, List.set_cons_zero, List.set_cons_succ, h5, h6, h7, h8, h9, h10, h11, e15]; rfl)
  -- 17: slot 78 := Op.move t10
  refine And.intro ?_ ?_
  · rw [← hf]; clear hf
    refine ⟨by decide +kernel, fun x v => by kernel_rfl, fun x V hV hdep K hK => ?_⟩
    have e16 : x 16 = .bool true := depOf hdep 16 (by decide +kernel)
    clear hdep
    refine run_guard 16 77 (x 16) (by kernel_rfl) (by rw [hops]; exact sft_dst_16) (by kernel_rfl) e16 ?_; clear hops
    unfold sftFr
    go_simp
    refine kfit (hK _ _ (Below.refl _ V) rfl) ?_
    first | (simp only [sftFr, Act.put, List.setIfInBounds_toArray, List.set_cons_zero, List.set_cons_succ, h5, h6, h7, h8, h9, h10, h11, e16]; done) | (simp only [sftFr, Act.put, List.setIfInBounds_toArray, List.set_cons_zero, List.set_cons_succ, h5, h6, h7, h8, h9, h10, h11, e16]; rfl)
  -- 18: slot 79 := Op.unOp UnOp.not 4 t78
  refine And.intro ?_ ?_
  · rw [← hf]; clear hf
    refine ⟨by decide +kernel, fun x v => by kernel_rfl, fun x V hV hdep K hK => ?_⟩
    have e16 : x 16 = .bool true := depOf hdep 16 (by decide +kernel)
    have e17 : x 17 = .bool true := depOf hdep 17 (by decide +kernel)
    clear hdep
    refine run_guard 16 77 (x 16) (by kernel_rfl) (by rw [hops]; exact sft_dst_16) (by kernel_rfl) e16 ?_; clear hops
    unfold sftFr
    go_simp
    refine kfit (hK _ _ (Below.refl _ V) rfl) ?_
    first | (simp only [sftFr, Act.put, List.setIfInBounds_toArray, List.set_cons_zero, List.set_cons_succ, h5, h6, h7, h8, h9, h10, h11, e16, e17]; done) | (simp only [sftFr, Act.put, List.setIfInBounds_toArray, List.set_cons_zero, List.set_cons_succ, h5, h6, h7, h8, h9, h10, h11, e16, e17]; rfl)
  -- 19: slot 80 := Op.move t79
  refine And.intro ?_ ?_
  · rw [← hf]; clear hf
    refine ⟨by decide +kernel, fun x v => by kernel_rfl, fun x V hV hdep K hK => ?_⟩
    have e16 : x 16 = .bool true := depOf hdep 16 (by decide +kernel)
    have e18 : x 18 = .bool false := depOf hdep 18 (by decide +kernel)
    clear hdep
    refine run_guard 16 77 (x 16) (by kernel_rfl) (by rw [hops]; exact sft_dst_16) (by kernel_rfl) e16 ?_; clear hops
    unfold sftFr
    go_simp
    refine kfit (hK _ _ (Below.refl _ V) rfl) ?_
    first | (simp only [sftFr, Act.put, List.setIfInBounds_toArray, List.set_cons_zero, List.set_cons_succ, h5, h6, h7, h8, h9, h10, h11, e16, e18]; done) | (simp only [sftFr, Act.put, List.setIfInBounds_toArray, List.set_cons_zero, List.set_cons_succ, h5, h6, h7, h8, h9, h10, h11, e16, e18]; rfl)
  -- 20: slot 81 := Op.move t11
  refine And.intro ?_ ?_
  · rw [← hf]; clear hf
    refine ⟨by decide +kernel, fun x v => by kernel_rfl, fun x V hV hdep K hK => ?_⟩
    have e19 : x 19 = .bool false := depOf hdep 19 (by decide +kernel)
    clear hdep
    refine run_guardF 19 80 (x 19) (by kernel_rfl) (by rw [hops]; exact sft_dst_19) (by kernel_rfl) e19 ?_; clear hops
    unfold sftFr
    go_simp
    refine kfit (hK _ _ (Below.refl _ V) rfl) ?_
    first | (simp only [sftFr, Act.put, List.setIfInBounds_toArray, List.set_cons_zero, List.set_cons_succ, h5, h6, h7, h8, h9, h10, h11, e19]; done) | (simp only [sftFr, Act.put, List.setIfInBounds_toArray, List.set_cons_zero, List.set_cons_succ, h5, h6, h7, h8, h9, h10, h11, e19]; rfl)
  -- 21: slot 82 := Op.indexAddr 64 t81 (const (0:i64))
  refine And.intro ?_ ?_
  · rw [← hf]; clear hf
    refine ⟨by decide +kernel, fun x v => by kernel_rfl, fun x V hV hdep K hK => ?_⟩
    have e19 : x 19 = .bool false := depOf hdep 19 (by decide +kernel)
    have e20 : x 20 = .slice (some ⟨fg, 0, none⟩) 1 fc := depOf hdep 20 (by decide +kernel)
    clear hdep
    refine run_guardF 19 80 (x 19) (by kernel_rfl) (by rw [hops]; exact sft_dst_19) (by kernel_rfl) e19 ?_; clear hops
    unfold sftFr
    go_simp
    refine kfit (hK _ _ (Below.refl _ V) rfl) ?_
    first | (simp only [sftFr, Act.put, List.setIfInBounds_toArray, List.set_cons_zero, List.set_cons_succ, h5, h6, h7, h8, h9, h10, h11, e19, e20]; done) | (simp only [sftFr, Act.put, List.setIfInBounds_toArray, List.set_cons_zero, List.set_cons_succ, h5, h6, h7, h8, h9, h10, h11, e19, e20]; rfl)
  -- 22: slot 83 := Op.load 9 t82
  refine And.intro ?_ ?_
  · rw [← hf]; clear hf
    refine ⟨by decide +kernel, fun x v => by kernel_rfl, fun x V hV hdep K hK => ?_⟩
    have e19 : x 19 = .bool false := depOf hdep 19 (by decide +kernel)
    have e21 : x 21 = .pointer (some ⟨fg, 0, none⟩) := depOf hdep 21 (by decide +kernel)
    clear hdep
    refine run_guardF 19 80 (x 19) (by kernel_rfl) (by rw [hops]; exact sft_dst_19) (by kernel_rfl) e19 ?_; clear hops
    unfold sftFr
    obtain ⟨y0, y1, y2⟩ := hV.1.1.cells; obtain ⟨y3, y4, y5, y6, y7⟩ := cells5 hV.1.2.1.1.1; obtain ⟨y8, y9, y10, y11, y12⟩ := cells5 hV.1.2.2.1.1.1; have y13 := hV.2.cell
    go_simp
    refine kfit (hK _ _ (Below.refl _ V) rfl) ?_
    first | (simp only [sftFr, Act.put, List.setIfInBounds_toArray, List.set_cons_zero, List.set_cons_succ, h5, h6, h7, h8, h9, h10, h11, e19, e21]; done) | (simp only [sftFr, Act.put, List.setIfInBounds_toArray, List.set_cons_zero, List.set_cons_succ, h5, h6, h7, h8, h9, h10, h11, e19, e21]; rfl)
  -- 23: slot 84 := Op.move t7
  refine And.intro ?_ ?_
  · rw [← hf]; clear hf
    refine ⟨by decide +kernel, fun x v => by kernel_rfl, fun x V hV hdep K hK => ?_⟩
    have e19 : x 19 = .bool false := depOf hdep 19 (by decide +kernel)
    clear hdep
    refine run_guardF 19 80 (x 19) (by kernel_rfl) (by rw [hops]; exact sft_dst_19) (by kernel_rfl) e19 ?_; clear hops
    unfold sftFr
    go_simp
    refine kfit (hK _ _ (Below.refl _ V) rfl) ?_
    first | (simp only [sftFr, Act.put, List.setIfInBounds_toArray, List.set_cons_zero, List.set_cons_succ, h5, h6, h7, h8, h9, h10, h11, e19]; done) | (simp only [sftFr, Act.put, List.setIfInBounds_toArray, List.set_cons_zero, List.set_cons_succ, h5, h6, h7, h8, h9, h10, h11, e19]; rfl)
  -- 24: slot 85 := Op.binOp BinOp.eql 9 t83 t84 9
  refine And.intro ?_ ?_
  · rw [← hf]; clear hf
    refine ⟨by decide +kernel, fun x v => by kernel_rfl, fun x V hV hdep K hK => ?_⟩
    have e19 : x 19 = .bool false := depOf hdep 19 (by decide +kernel)
    have e22 : x 22 = .string nm := depOf hdep 22 (by decide +kernel)
    have e23 : x 23 = .string nm := depOf hdep 23 (by decide +kernel)
    clear hdep
    refine run_guardF 19 80 (x 19) (by kernel_rfl) (by rw [hops]; exact sft_dst_19) (by kernel_rfl) e19 ?_; clear hops
    unfold sftFr
    go_simp
    refine kfit (hK _ _ (Below.refl _ V) rfl) ?_
    first | (simp only [sftFr, Act.put, List.setIfInBounds_toArray, List.set_cons_zero, List.set_cons_succ, h5, h6, h7, h8, h9, h10, h11, e19, e22, e23]; done) | (simp only [sftFr, Act.put, List.setIfInBounds_toArray, List.set_cons_zero, List.set_cons_succ, h5, h6, h7, h8, h9, h10, h11, e19, e22, e23]; rfl)
  -- 25: slot 86 := Op.pick t80 (const (Value.bool true)) t85
  refine And.intro ?_ ?_
  · rw [← hf]; clear hf
    refine ⟨by decide +kernel, fun x v => by kernel_rfl, fun x V hV hdep K hK => ?_⟩
    have e16 : x 16 = .bool true := depOf hdep 16 (by decide +kernel)
    have e19 : x 19 = .bool false := depOf hdep 19 (by decide +kernel)
    have e24 : x 24 = .bool true := depOf hdep 24 (by decide +kernel)
    clear hdep
    refine run_guard 16 77 (x 16) (by kernel_rfl) (by rw [hops]; exact sft_dst_16) (by kernel_rfl) e16 ?_; clear hops
    unfold sftFr
    go_simp
    refine kfit (hK _ _ (Below.refl _ V) rfl) ?_
    first | (simp only [sftFr, Act.put, List.setIfInBounds_toArray, List.set_cons_zero, List.set_cons_succ, h5, h6, h7, h8, h9, h10, h11, e16, e19, e24]; done) | (simp only [sftFr, Act.put, List.setIfInBounds_toArray, List.set_cons_zero, List.set_cons_succ, h5, h6, h7, h8, h9, h10, h11, e16, e19, e24]; rfl)
  -- 26: slot 87 := Op.pick t77 t86 (const (Value.bool false))
  refine And.intro ?_ ?_
  · rw [← hf]; clear hf
    refine ⟨by decide +kernel, fun x v => by kernel_rfl, fun x V hV hdep K hK => ?_⟩
    have e16 : x 16 = .bool true := depOf hdep 16 (by decide +kernel)
    have e25 : x 25 = .bool true := depOf hdep 25 (by decide +kernel)
    clear hdep
    refine run_bare (by kernel_rfl) ?_
    unfold sftFr
    go_simp
    refine kfit (hK _ _ (Below.refl _ V) rfl) ?_
    first | (simp only [sftFr, Act.put, List.setIfInBounds_toArray, List.set_cons_zero, List.set_cons_succ, h5, h6, h7, h8, h9, h10, h11, e16, e25]; done) | (simp only [sftFr, Act.put, List.setIfInBounds_toArray, List.set_cons_zero, List.set_cons_succ, h5, h6, h7, h8, h9, h10, h11, e16, e25]; rfl)
  -- 27: slot 88 := Op.move t87
  refine And.intro ?_ ?_
  · rw [← hf]; clear hf
    refine ⟨by decide +kernel, fun x v => by kernel_rfl, fun x V hV hdep K hK => ?_⟩
    have e26 : x 26 = .bool true := depOf hdep 26 (by decide +kernel)
    clear hdep
    refine run_bare (by kernel_rfl) ?_
    unfold sftFr
    go_simp
    refine kfit (hK _ _ (Below.refl _ V) rfl) ?_
    first | (simp only [sftFr, Act.put, List.setIfInBounds_toArray, List.set_cons_zero, List.set_cons_succ, h5, h6, h7, h8, h9, h10, h11, e26]; done) | (simp only [sftFr, Act.put, List.setIfInBounds_toArray, List.set_cons_zero, List.set_cons_succ, h5, h6, h7, h8, h9, h10, h11, e26]; rfl)
  -- 28: slot 89 := Op.fieldAddr 66 t9 2
  refine And.intro ?_ ?_
  · rw [← hf]; clear hf
    refine ⟨by decide +kernel, fun x v => by kernel_rfl, fun x V hV hdep K hK => ?_⟩
    have e27 : x 27 = .bool true := depOf hdep 27 (by decide +kernel)
    clear hdep
    refine run_guard 27 88 (x 27) (by kernel_rfl) (by rw [hops]; exact sft_dst_27) (by kernel_rfl) e27 ?_; clear hops
    unfold sftFr
    go_simp
    refine kfit (hK _ _ (Below.refl _ V) rfl) ?_
    first | (simp only [sftFr, Act.put, List.setIfInBounds_toArray, List.set_cons_zero, List.set_cons_succ, h5, h6, h7, h8, h9, h10, h11, e27]; done) | (simp only [sftFr, Act.put, List.setIfInBounds_toArray, List.set_cons_zero, List.set_cons_succ, h5, h6, h7, h8, h9, h10, h11, e27]; rfl)
  -- 29: slot 90 := Op.load 29 t89
  refine And.intro ?_ ?_
  · rw [← hf]; clear hf
    refine ⟨by decide +kernel, fun x v => by kernel_rfl, fun x V hV hdep K hK => ?_⟩
    have e27 : x 27 = .bool true := depOf hdep 27 (by decide +kernel)
    have e28 : x 28 = .pointer (some ⟨b9, 2, none⟩) := depOf hdep 28 (by decide +kernel)
    clear hdep
    refine run_guard 27 88 (x 27) (by kernel_rfl) (by rw [hops]; exact sft_dst_27) (by kernel_rfl) e27 ?_; clear hops
    unfold sftFr
    obtain ⟨y0, y1, y2⟩ := hV.1.1.cells; obtain ⟨y3, y4, y5, y6, y7⟩ := cells5 hV.1.2.1.1.1; obtain ⟨y8, y9, y10, y11, y12⟩ := cells5 hV.1.2.2.1.1.1; have y13 := hV.2.cell
    go_simp
    refine kfit (hK _ _ (Below.refl _ V) rfl) ?_
    first | (simp only [sftFr, Act.put, List.setIfInBounds_toArray, List.set_cons_zero, List.set_cons_succ, h5, h6, h7, h8, h9, h10, h11, e27, e28]; done) | (simp only [sftFr, Act.put, List.setIfInBounds_toArray, List.set_cons_zero, List.set_cons_succ, h5, h6, h7, h8, h9, h10, h11, e27, e28]; rfl)
  -- 30: slot 91 := Op.call { value (Operand.func 36), args := #[t90], argTypes 
  refine And.intro ?_ ?_
  · rw [← hf]; clear hf
    refine ⟨by decide +kernel, fun x v => by kernel_rfl, fun x V hV hdep K hK => ?_⟩
    have e27 : x 27 = .bool true := depOf hdep 27 (by decide +kernel)
    have e29 : x 29 = .agg #[.int .i64 (u).kind, .string (u).name, .slice ua (u).kids.length uc] := depOf hdep 29 (by decide +kernel)
    clear hdep
    refine run_guard 27 88 (x 27) (by kernel_rfl) (by rw [hops]; exact sft_dst_27) (by kernel_rfl) e27 ?_; clear hops
    unfold sftFr
    obtain ⟨HC5, HC30, HC32⟩ := HC.out
    clear HC5 HC32
    have H := HC30 V hV
    replace H := Lib.hid H; clear HC30
    go_simp
    go_at_call 36
    refine H.out.mono ?_
    rintro e Y ⟨rfl, hb⟩; refine kfit (hK _ _ hb rfl) ?_
    first | (simp only [sftFr, Act.put, List.setIfInBounds_toArray, List.set_cons_zero, List.set_cons_succ, h5, h6, h7, h8, h9, h10, h11, e27, e29]; done) | (simp only [sftFr, Act.put, List.setIfInBounds_toArray, List.set_cons_zero, List.set_cons_succ, h5, h6, h7, h8, h9, h10, h11, e27, e29]; rfl)
  -- 31: slot 92 := Op.load 29 t6
  refine And.intro ?_ ?_
  · rw [← hf]; clear hf
    refine ⟨by decide +kernel, fun x v => by kernel_rfl, fun x V hV hdep K hK => ?_⟩
    have e27 : x 27 = .bool true := depOf hdep 27 (by decide +kernel)
    clear hdep
    refine run_guard 27 88 (x 27) (by kernel_rfl) (by rw [hops]; exact sft_dst_27) (by kernel_rfl) e27 ?_; clear hops
    unfold sftFr
    obtain ⟨y0, y1, y2⟩ := hV.1.1.cells; obtain ⟨y3, y4, y5, y6, y7⟩ := cells5 hV.1.2.1.1.1; obtain ⟨y8, y9, y10, y11, y12⟩ := cells5 hV.1.2.2.1.1.1; have y13 := hV.2.cell
    go_simp
    refine kfit (hK _ _ (Below.refl _ V) rfl) ?_
    first | (simp only [sftFr, Act.put, List.setIfInBounds_toArray, List.set_cons_zero, List.set_cons_succ, h5, h6, h7, h8, h9, h10, h11, e27]; done) | (simp only [sftFr, Act.put, List.setIfInBounds_toArray, List.set_cons_zero, List.set_cons_succ, h5, h6, h7, h8, h9, h10, h11, e27]; rfl)
  -- 32: slot 93 := Op.call { value (Operand.func 36), args := #[t92], argTypes 
  refine And.intro ?_ ?_
  · rw [← hf]; clear hf
    refine ⟨by decide +kernel, fun x v => by kernel_rfl, fun x V hV hdep K hK => ?_⟩
    have e27 : x 27 = .bool true := depOf hdep 27 (by decide +kernel)
    have e31 : x 31 = .agg #[.int .i64 (t).kind, .string (t).name, .slice pa (t).kids.length ca] := depOf hdep 31 (by decide +kernel)
    clear hdep
    refine run_guard 27 88 (x 27) (by kernel_rfl) (by rw [hops]; exact sft_dst_27) (by kernel_rfl) e27 ?_; clear hops
    unfold sftFr
    obtain ⟨HC5, HC30, HC32⟩ := HC.out
    clear HC5 HC30
    have H := HC32 V hV
    replace H := Lib.hid H; clear HC32
    go_simp
    go_at_call 36
    refine H.out.mono ?_
    rintro e Y ⟨rfl, hb⟩; refine kfit (hK _ _ hb rfl) ?_
    first | (simp only [sftFr, Act.put, List.setIfInBounds_toArray, List.set_cons_zero, List.set_cons_succ, h5, h6, h7, h8, h9, h10, h11, e27, e31]; done) | (simp only [sftFr, Act.put, List.setIfInBounds_toArray, List.set_cons_zero, List.set_cons_succ, h5, h6, h7, h8, h9, h10, h11, e27, e31]; rfl)
  -- 33: slot 94 := Op.binOp BinOp.eql 3 t91 t93 3
  refine And.intro ?_ ?_
  · rw [← hf]; clear hf
    refine ⟨by decide +kernel, fun x v => by kernel_rfl, fun x V hV hdep K hK => ?_⟩
    have e27 : x 27 = .bool true := depOf hdep 27 (by decide +kernel)
    have e30 : x 30 = .int .i64 (tsize t : Int) := depOf hdep 30 (by decide +kernel)
    have e32 : x 32 = .int .i64 (tsize t : Int) := depOf hdep 32 (by decide +kernel)
    clear hdep
    refine run_guard 27 88 (x 27) (by kernel_rfl) (by rw [hops]; exact sft_dst_27) (by kernel_rfl) e27 ?_; clear hops
    unfold sftFr
    go_simp
    refine kfit (hK _ _ (Below.refl _ V) rfl) ?_
    first | (simp only [sftFr, Act.put, List.setIfInBounds_toArray, List.set_cons_zero, List.set_cons_succ, h5, h6, h7, h8, h9, h10, h11, e27, e30, e32]; done) | (simp only [sftFr, Act.put, List.setIfInBounds_toArray, List.set_cons_zero, List.set_cons_succ, h5, h6, h7, h8, h9, h10, h11, e27, e30, e32]; rfl)
  -- 34: slot 95 := Op.pick t88 t94 (const (Value.bool false))
  refine And.intro ?_ ?_
  · rw [← hf]; clear hf
    refine ⟨by decide +kernel, fun x v => by kernel_rfl, fun x V hV hdep K hK => ?_⟩
    have e27 : x 27 = .bool true := depOf hdep 27 (by decide +kernel)
    have e33 : x 33 = .bool true := depOf hdep 33 (by decide +kernel)
    clear hdep
    refine run_bare (by kernel_rfl) ?_
    unfold sftFr
    go_simp
    refine kfit (hK _ _ (Below.refl _ V) rfl) ?_
    first | (simp only [sftFr, Act.put, List.setIfInBounds_toArray, List.set_cons_zero, List.set_cons_succ, h5, h6, h7, h8, h9, h10, h11, e27, e33]; done) | (simp only [sftFr, Act.put, List.setIfInBounds_toArray, List.set_cons_zero, List.set_cons_succ, h5, h6, h7, h8, h9, h10, h11, e27, e33]; rfl)
  -- 35: slot 4 := Op.assign t95
  refine And.intro ?_ ?_
  · rw [← hf]; clear hf
    refine ⟨by decide +kernel, fun x v => by kernel_rfl, fun x V hV hdep K hK => ?_⟩
    have e34 : x 34 = .bool true := depOf hdep 34 (by decide +kernel)
    clear hdep
    refine run_bare (by kernel_rfl) ?_
    unfold sftFr
    go_simp
    refine kfit (hK _ _ (Below.refl _ V) rfl) ?_
    first | (simp only [sftFr, Act.put, List.setIfInBounds_toArray, List.set_cons_zero, List.set_cons_succ, h5, h6, h7, h8, h9, h10, h11, e34]; done) | (simp only [sftFr, Act.put, List.setIfInBounds_toArray, List.set_cons_zero, List.set_cons_succ, h5, h6, h7, h8, h9, h10, h11, e34]; rfl)
  exact trivial
theorem sft_here {w : World} {b6 b8 b9 : Nat} {t u : T} {pa : Option Addr} {ca : Nat} {xa : Option Addr} {xc : Nat} {xs : List ByteArray} {xx : Option Addr} {xk : Nat} {ta : Option Addr} {tc : Nat} {za : Option Addr} {zc : Nat} {zn : List ByteArray} {zp : Option Addr} {zq : Nat} {ua : Option Addr} {uc : Nat} {nm : ByteArray} {fg fc : Nat}
    (HC5 : ∀ V, (SfZ w b6 b8 b9 t u pa ca xa xc xs xx xk ta tc za zc zn zp zq ua uc V ∧ FRow fg nm V) → Calls Tryd.prog 35 #[.agg #[.slice xa xs.length xc, .slice xx 0 xk, .int .i64 t.kind, .string t.name, .slice ta t.kids.length tc]] V fun e Y => (∃ qa qc, e = .returned (.slice qa 1 qc) ∧ True) ∧ Below V.heap.size V Y)
    (HC30 : ∀ V, (SfZ w b6 b8 b9 t u pa ca xa xc xs xx xk ta tc za zc zn zp zq ua uc V ∧ FRow fg nm V) → Calls Tryd.prog 36 #[.agg #[.int .i64 (u).kind, .string (u).name, .slice ua (u).kids.length uc]] V fun e Y => e = .returned (.int .i64 (tsize t : Int)) ∧ Below V.heap.size V Y)
    (HC32 : ∀ V, (SfZ w b6 b8 b9 t u pa ca xa xc xs xx xk ta tc za zc zn zp zq ua uc V ∧ FRow fg nm V) → Calls Tryd.prog 36 #[.agg #[.int .i64 (t).kind, .string (t).name, .slice pa (t).kids.length ca]] V fun e Y => e = .returned (.int .i64 (tsize t : Int)) ∧ Below V.heap.size V Y)
    {Q : Exit → Act → World → Prop} {ops : Array Oper} {a : Act} (X : World) (hops : ops = sftOps)
    (h5 : a.tmps.getD 5 undef = .bool true) (h6 : a.tmps.getD 6 undef = .pointer (some ⟨b6, 0, none⟩)) (h7 : a.tmps.getD 7 undef = .string nm) (h8 : a.tmps.getD 8 undef = .pointer (some ⟨b8, 0, none⟩)) (h9 : a.tmps.getD 9 undef = .pointer (some ⟨b9, 0, none⟩)) (h10 : a.tmps.getD 10 undef = .bool true) (h11 : a.tmps.getD 11 undef = .slice (some ⟨fg, 0, none⟩) 1 fc)
    (ha : a = sftFr (fun j => a.tmps.getD j undef) a.defers (fun i => a.tmps.getD (if i = 35 then 4 else 61 + i) undef)) (hS : (SfZ w b6 b8 b9 t u pa ca xa xc xs xx xk ta tc za zc zn zp zq ua uc X.drew ∧ FRow fg nm X.drew))
    (hfin : ∀ x V, (SfZ w b6 b8 b9 t u pa ca xa xc xs xx xk ta tc za zc zn zp zq ua uc V ∧ FRow fg nm V) → x 35 = .bool true → Q .normal (sftFr (fun j => a.tmps.getD j undef) a.defers x) V) : (Code.region 17 ops true).wp Tryd.prog Q a X :=
  cast (congrArg (fun z => (Code.region 17 ops true).wp Tryd.prog Q z X) ha.symm) (sft_region (b := fun j => a.tmps.getD j undef) (d := a.defers) h5 h6 h7 h8 h9 h10 h11 HC5 HC30 HC32 hops _ X hS hfin)
end Go.Proofs.YtdcfemojkdoakaaDoor
/- SchemeFree: its last statement, a region of 36 operations that draws its order, by an invariant. (Made by a program.) -/
namespace Go.Proofs.YtdcfemojkdoakaaDoor
open Go.RowKit Go.Sort Go.Lib
attribute [local go_sem] Oper.semAt_some

noncomputable def sffOps : Array Oper := regionIn 17 (Tryd.f7.body.getD .skip)
def sffFr (b : Nat → Value) (d : List Deferred) (x : Nat → Value) : Act := { tmps := #[b 0, b 1, b 2, b 3, x 35, b 5, b 6, b 7, b 8, b 9, b 10, b 11, b 12, b 13, b 14, b 15, b 16, b 17, b 18, b 19, b 20, b 21, b 22, b 23, b 24, b 25, b 26, b 27, b 28, b 29, b 30, b 31, b 32, b 33, b 34, b 35, b 36, b 37, b 38, b 39, b 40, b 41, b 42, b 43, b 44, b 45, b 46, b 47, b 48, b 49, b 50, b 51, b 52, b 53, b 54, b 55, b 56, b 57, b 58, b 59, b 60, x 0, x 1, x 2, x 3, x 4, x 5, x 6, x 7, x 8, x 9, x 10, x 11, x 12, x 13, x 14, x 15, x 16, x 17, x 18, x 19, x 20, x 21, x 22, x 23, x 24, x 25, x 26, x 27, x 28, x 29, x 30, x 31, x 32, x 33, x 34], defers := d }

def sffVals (b9 : Nat) (t u : T) (pa : Option Addr) (ca : Nat) (xa : Option Addr) (xc : Nat) (xs : List ByteArray) (xx : Option Addr) (xk : Nat) (ta : Option Addr) (tc : Nat) (ua : Option Addr) (uc : Nat) (fa : Option Addr) (fc : Nat) (i : Nat) (v : Value) (V : World) : Prop :=
  match i with
  | 0 => v = .bool true
  | 1 => v = .bool true
  | 2 => v = .slice fa 0 fc
  | 3 => v = .int .i64 0
  | 4 => v = .agg #[.slice xa xs.length xc, .slice xx 0 xk, .int .i64 t.kind, .string t.name, .slice ta t.kids.length tc]
  | 5 => ∃ qa qc, v = .slice qa 0 qc ∧ True
  | 6 => v = .int .i64 0
  | 7 => v = .bool true
  | 8 => v = .bool true
  | 9 => v = .bool true
  | 10 => v = .slice fa 0 fc
  | 11 => v = .int .i64 0
  | 12 => v = .bool false
  | 13 => v = .bool false
  | 14 => v = .bool true
  | 15 => v = .bool true
  | 16 => v = .bool true
  | 17 => v = .bool false
  | 18 => v = .bool true
  | 19 => v = .bool true
  | 20 => ∃ qu, v = qu ∧ True
  | 21 => ∃ qu, v = qu ∧ True
  | 22 => ∃ qu, v = qu ∧ True
  | 23 => ∃ qu, v = qu ∧ True
  | 24 => ∃ qu, v = qu ∧ True
  | 25 => v = .bool true
  | 26 => v = .bool true
  | 27 => v = .bool true
  | 28 => v = .pointer (some ⟨b9, 2, none⟩)
  | 29 => v = .agg #[.int .i64 (u).kind, .string (u).name, .slice ua (u).kids.length uc]
  | 30 => v = .int .i64 (tsize t : Int)
  | 31 => v = .agg #[.int .i64 (t).kind, .string (t).name, .slice pa (t).kids.length ca]
  | 32 => v = .int .i64 (tsize t : Int)
  | 33 => v = .bool true
  | 34 => v = .bool true
  | 35 => v = .bool true
  | _ => True

theorem sffVals_keep {b9 : Nat} {t u : T} {pa : Option Addr} {ca : Nat} {xa : Option Addr} {xc : Nat} {xs : List ByteArray} {xx : Option Addr} {xk : Nat} {ta : Option Addr} {tc : Nat} {ua : Option Addr} {uc : Nat} {fa : Option Addr} {fc : Nat} (i : Nat) (v : Value) (V Y : World) (h : sffVals b9 t u pa ca xa xc xs xx xk ta tc ua uc fa fc i v V) (hb : Below V.heap.size V Y) : sffVals b9 t u pa ca xa xc xs xx xk ta tc ua uc fa fc i v Y := by
  unfold sffVals at *
  split at h <;> first
    | exact h
    | (obtain ⟨qa, qc, e, h⟩ := h; exact ⟨qa, qc, e, h⟩)
    | (obtain ⟨qu, e, h⟩ := h; exact ⟨qu, e, h⟩)

theorem sff_size : sffOps.size = 36 := by kernel_rfl
theorem sff_dst_1 : (sffOps[1]?).bind (·.dst) = some 62 := by kernel_rfl
theorem sff_dst_9 : (sffOps[9]?).bind (·.dst) = some 70 := by kernel_rfl
theorem sff_dst_16 : (sffOps[16]?).bind (·.dst) = some 77 := by kernel_rfl
theorem sff_dst_19 : (sffOps[19]?).bind (·.dst) = some 80 := by kernel_rfl
theorem sff_dst_27 : (sffOps[27]?).bind (·.dst) = some 88 := by kernel_rfl
set_option linter.unusedSimpArgs false in
set_option maxRecDepth 100000 in
set_option maxHeartbeats 8000000 in
theorem sff_region {w : World} {b6 b8 b9 : Nat} {t u : T} {pa : Option Addr} {ca : Nat} {xa : Option Addr} {xc : Nat} {xs : List ByteArray} {xx : Option Addr} {xk : Nat} {ta : Option Addr} {tc : Nat} {za : Option Addr} {zc : Nat} {zn : List ByteArray} {zp : Option Addr} {zq : Nat} {ua : Option Addr} {uc : Nat} {nm : ByteArray} {fa : Option Addr} {fc : Nat} {b : Nat → Value} {d : List Deferred}
    (h5 : b 5 = .bool true) (h6 : b 6 = .pointer (some ⟨b6, 0, none⟩)) (h7 : b 7 = .string nm) (h8 : b 8 = .pointer (some ⟨b8, 0, none⟩)) (h9 : b 9 = .pointer (some ⟨b9, 0, none⟩)) (h10 : b 10 = .bool false) (h11 : b 11 = .slice fa 0 fc)
    (HC5 : ∀ V, SfZ w b6 b8 b9 t u pa ca xa xc xs xx xk ta tc za zc zn zp zq ua uc V → Calls Tryd.prog 35 #[.agg #[.slice xa xs.length xc, .slice xx 0 xk, .int .i64 t.kind, .string t.name, .slice ta t.kids.length tc]] V fun e Y => (∃ qa qc, e = .returned (.slice qa 0 qc) ∧ True) ∧ Below V.heap.size V Y)
    (HC30 : ∀ V, SfZ w b6 b8 b9 t u pa ca xa xc xs xx xk ta tc za zc zn zp zq ua uc V → Calls Tryd.prog 36 #[.agg #[.int .i64 (u).kind, .string (u).name, .slice ua (u).kids.length uc]] V fun e Y => e = .returned (.int .i64 (tsize t : Int)) ∧ Below V.heap.size V Y)
    (HC32 : ∀ V, SfZ w b6 b8 b9 t u pa ca xa xc xs xx xk ta tc za zc zn zp zq ua uc V → Calls Tryd.prog 36 #[.agg #[.int .i64 (t).kind, .string (t).name, .slice pa (t).kids.length ca]] V fun e Y => e = .returned (.int .i64 (tsize t : Int)) ∧ Below V.heap.size V Y)
    {Q : Exit → Act → World → Prop} {ops : Array Oper} (hops : ops = sffOps) (x0 : Nat → Value) (X : World) (hS : SfZ w b6 b8 b9 t u pa ca xa xc xs xx xk ta tc za zc zn zp zq ua uc X.drew)
    (hfin : ∀ x V, SfZ w b6 b8 b9 t u pa ca xa xc xs xx xk ta tc za zc zn zp zq ua uc V → x 35 = .bool true → Q .normal (sffFr b d x) V) : (Code.region 17 ops true).wp Tryd.prog Q (sffFr b d x0) X := by
  have HC := Lib.hid (And.intro HC5 (And.intro HC30 HC32))
  clear HC5 HC30 HC32
  refine region_inv (sffFr b d) (fun V => SfZ w b6 b8 b9 t u pa ca xa xc xs xx xk ta tc za zc zn zp zq ua uc V) (fun V Y => Below V.heap.size V Y) (sffVals b9 t u pa ca xa xc xs xx xk ta tc ua uc fa fc) x0 (by kernel_rfl) rfl hS (fun V Y h hb => h.below hb) (fun i v V Y _ h hb => sffVals_keep i v V Y h hb) ?_ (fun x V hV h => hfin x V hV (h 35 (by rw [hops, sff_size]; decide)))
  clear hfin hS
  obtain ⟨f, hf⟩ : ∃ qq, StepAt Tryd.prog (sffFr b d) (fun V => SfZ w b6 b8 b9 t u pa ca xa xc xs xx xk ta tc za zc zn zp zq ua uc V) (fun V Y => Below V.heap.size V Y) (sffVals b9 t u pa ca xa xc xs xx xk ta tc ua uc fa fc) ops Q = qq := ⟨_, rfl⟩
  rw [hf, hops]
  simp only [sffOps, Tryd.f7, regionIn, Option.getD_some, Nat.reduceBEq, Bool.false_eq_true, if_false, if_true, beq_self_eq_true, Array.append_empty, Array.empty_append, List.append_eq, List.cons_append, List.nil_append, AllAt, Nat.reduceAdd, Nat.zero_add]
  -- 0: slot 61 := Op.move t5
  refine And.intro ?_ ?_
  · rw [← hf]; clear hf
    refine ⟨by decide +kernel, fun x v => by kernel_rfl, fun x V hV hdep K hK => ?_⟩
    clear hdep
    refine run_bare (by kernel_rfl) ?_
    unfold sffFr
    go_simp
    refine kfit (hK _ _ (Below.refl _ V) rfl) ?_
    first | (simp only [sffFr, Act.put, List.setIfInBounds_toArray, List.set_cons_zero, List.set_cons_succ, h5, h6, h7, h8, h9, h10, h11]; done) | (simp only [sffFr, Act.put, List.setIfInBounds_toArray, List.set_cons_zero, List.set_cons_succ, h5, h6, h7, h8, h9, h10, h11]; rfl)
  -- 1: slot 62 := Op.move t61
  refine And.intro ?_ ?_
  · rw [← hf]; clear hf
    refine ⟨by decide +kernel, fun x v => by kernel_rfl, fun x V hV hdep K hK => ?_⟩
    have e0 : x 0 = .bool true := depOf hdep 0 (by decide +kernel)
    clear hdep
    refine run_bare (by kernel_rfl) ?_
    unfold sffFr
    go_simp
    refine kfit (hK _ _ (Below.refl _ V) rfl) ?_
    first | (simp only [sffFr, Act.put, List.setIfInBounds_toArray, List.set_cons_zero, List.set_cons_succ, h5, h6, h7, h8, h9, h10, h11, e0]; done) | (simp only [sffFr, Act.put, List.setIfInBounds_toArray, List.set_cons_zero, List.set_cons_succ, h5, h6, h7, h8, h9, h10, h11, e0]; rfl)
  -- 2: slot 63 := Op.move t11
  refine And.intro ?_ ?_
  · rw [← hf]; clear hf
    refine ⟨by decide +kernel, fun x v => by kernel_rfl, fun x V hV hdep K hK => ?_⟩
    have e1 : x 1 = .bool true := depOf hdep 1 (by decide +kernel)
    clear hdep
    refine run_guard 1 62 (x 1) (by kernel_rfl) (by rw [hops]; exact sff_dst_1) (by kernel_rfl) e1 ?_; clear hops
    unfold sffFr
    go_simp
    refine kfit (hK _ _ (Below.refl _ V) rfl) ?_
    first | (simp only [sffFr, Act.put, List.setIfInBounds_toArray, List.set_cons_zero, List.set_cons_succ, h5, h6, h7, h8, h9, h10, h11, e1]; done) | (simp only [sffFr, Act.put, List.setIfInBounds_toArray, List.set_cons_zero, List.set_cons_succ, h5, h6, h7, h8, h9, h10, h11, e1]; rfl)
  -- 3: slot 64 := Op.call { builtin len, args := #[t63], argTypes := #[64] }
  refine And.intro ?_ ?_
  · rw [← hf]; clear hf
    refine ⟨by decide +kernel, fun x v => by kernel_rfl, fun x V hV hdep K hK => ?_⟩
    have e1 : x 1 = .bool true := depOf hdep 1 (by decide +kernel)
    have e2 : x 2 = .slice fa 0 fc := depOf hdep 2 (by decide +kernel)
    clear hdep
    refine run_guard 1 62 (x 1) (by kernel_rfl) (by rw [hops]; exact sff_dst_1) (by kernel_rfl) e1 ?_; clear hops
    unfold sffFr
    go_simp
    refine kfit (hK _ _ (Below.refl _ V) rfl) ?_
    first | (simp only [sffFr, Act.put, List.setIfInBounds_toArray, List.set_cons_zero, List.set_cons_succ, h5, h6, h7, h8, h9, h10, h11, e1, e2]; done) | (simp only [sffFr, Act.put, List.setIfInBounds_toArray, List.set_cons_zero, List.set_cons_succ, h5, h6, h7, h8, h9, h10, h11, e1, e2]; rfl)
  -- 4: slot 65 := Op.load 66 t8
  refine And.intro ?_ ?_
  · rw [← hf]; clear hf
    refine ⟨by decide +kernel, fun x v => by kernel_rfl, fun x V hV hdep K hK => ?_⟩
    have e1 : x 1 = .bool true := depOf hdep 1 (by decide +kernel)
    clear hdep
    refine run_guard 1 62 (x 1) (by kernel_rfl) (by rw [hops]; exact sff_dst_1) (by kernel_rfl) e1 ?_; clear hops
    unfold sffFr
    obtain ⟨y0, y1, y2⟩ := hV.1.cells; obtain ⟨y3, y4, y5, y6, y7⟩ := cells5 hV.2.1.1.1; obtain ⟨y8, y9, y10, y11, y12⟩ := cells5 hV.2.2.1.1.1
    go_simp
    refine kfit (hK _ _ (Below.refl _ V) rfl) ?_
    first | (simp only [sffFr, Act.put, List.setIfInBounds_toArray, List.set_cons_zero, List.set_cons_succ, h5, h6, h7, h8, h9, h10, h11, e1]; done) | (simp only [sffFr, Act.put, List.setIfInBounds_toArray, List.set_cons_zero, List.set_cons_succ, h5, h6, h7, h8, h9, h10, h11, e1]; rfl)
  -- 5: slot 66 := Op.call { value (Operand.func 35), args := #[t65], argTypes 
  refine And.intro ?_ ?_
  · rw [← hf]; clear hf
    refine ⟨by decide +kernel, fun x v => by kernel_rfl, fun x V hV hdep K hK => ?_⟩
    have e1 : x 1 = .bool true := depOf hdep 1 (by decide +kernel)
    have e4 : x 4 = .agg #[.slice xa xs.length xc, .slice xx 0 xk, .int .i64 t.kind, .string t.name, .slice ta t.kids.length tc] := depOf hdep 4 (by decide +kernel)
    clear hdep
    refine run_guard 1 62 (x 1) (by kernel_rfl) (by rw [hops]; exact sff_dst_1) (by kernel_rfl) e1 ?_; clear hops
    unfold sffFr
    obtain ⟨HC5, HC30, HC32⟩ := HC.out
    clear HC30 HC32
    have H := HC5 V hV
    replace H := Lib.hid H; clear HC5
    go_simp
    go_at_call 35
    refine H.out.mono ?_
    rintro e Y ⟨⟨qa, qc, rfl, hq⟩, hb⟩; refine kfit (hK _ _ hb ⟨qa, qc, rfl, hq⟩) ?_
    first | (simp only [sffFr, Act.put, List.setIfInBounds_toArray, List.set_cons_zero, List.set_cons_succ, h5, h6, h7, h8, h9, h10, h11, e1, e4]; done) | (simp only [sffFr, Act.put, List.setIfInBounds_toArray, List.set_cons_zero, List.set_cons_succ, h5, h6, h7, h8, h9, h10, h11, e1, e4]; rfl)
  -- 6: slot 67 := Op.call { builtin len, args := #[t66], argTypes := #[64] }
  refine And.intro ?_ ?_
  · rw [← hf]; clear hf
    refine ⟨by decide +kernel, fun x v => by kernel_rfl, fun x V hV hdep K hK => ?_⟩
    have e1 : x 1 = .bool true := depOf hdep 1 (by decide +kernel)
    obtain ⟨qa5, qc5, e5, d5⟩ : ∃ qa5 qc5, x 5 = .slice qa5 0 qc5 ∧ True := depOf hdep 5 (by decide +kernel)
    clear hdep
    refine run_guard 1 62 (x 1) (by kernel_rfl) (by rw [hops]; exact sff_dst_1) (by kernel_rfl) e1 ?_; clear hops
    unfold sffFr
    go_simp
    refine kfit (hK _ _ (Below.refl _ V) rfl) ?_
    first | (simp only [sffFr, Act.put, List.setIfInBounds_toArray, List.set_cons_zero, List.set_cons_succ, h5, h6, h7, h8, h9, h10, h11, e1, e5]; done) | (simp only [sffFr, Act.put, List.setIfInBounds_toArray, List.set_cons_zero, List.set_cons_succ, h5, h6, h7, h8, h9, h10, h11, e1, e5]; rfl)
  -- 7: slot 68 := Op.binOp BinOp.eql 3 t64 t67 3
  refine And.intro ?_ ?_
  · rw [← hf]; clear hf
    refine ⟨by decide +kernel, fun x v => by kernel_rfl, fun x V hV hdep K hK => ?_⟩
    have e1 : x 1 = .bool true := depOf hdep 1 (by decide +kernel)
    have e3 : x 3 = .int .i64 0 := depOf hdep 3 (by decide +kernel)
    have e6 : x 6 = .int .i64 0 := depOf hdep 6 (by decide +kernel)
    clear hdep
    refine run_guard 1 62 (x 1) (by kernel_rfl) (by rw [hops]; exact sff_dst_1) (by kernel_rfl) e1 ?_; clear hops
    unfold sffFr
    go_simp
    refine kfit (hK _ _ (Below.refl _ V) rfl) ?_
    first | (simp only [sffFr, Act.put, List.setIfInBounds_toArray, List.set_cons_zero, List.set_cons_succ, h5, h6, h7, h8, h9, h10, h11, e1, e3, e6]; done) | (simp only [sffFr, Act.put, List.setIfInBounds_toArray, List.set_cons_zero, List.set_cons_succ, h5, h6, h7, h8, h9, h10, h11, e1, e3, e6]; rfl)
  -- 8: slot 69 := Op.pick t62 t68 (const (Value.bool false))
  refine And.intro ?_ ?_
  · rw [← hf]; clear hf
    refine ⟨by decide +kernel, fun x v => by kernel_rfl, fun x V hV hdep K hK => ?_⟩
    have e1 : x 1 = .bool true := depOf hdep 1 (by decide +kernel)
    have e7 : x 7 = .bool true := depOf hdep 7 (by decide +kernel)
    clear hdep
    refine run_bare (by kernel_rfl) ?_
    unfold sffFr
    go_simp
    refine kfit (hK _ _ (Below.refl _ V) rfl) ?_
    first | (simp only [sffFr, Act.put, List.setIfInBounds_toArray, List.set_cons_zero, List.set_cons_succ, h5, h6, h7, h8, h9, h10, h11, e1, e7]; done) | (simp only [sffFr, Act.put, List.setIfInBounds_toArray, List.set_cons_zero, List.set_cons_succ, h5, h6, h7, h8, h9, h10, h11, e1, e7]; rfl)
  -- 9: slot 70 := Op.move t69
  refine And.intro ?_ ?_
  · rw [← hf]; clear hf
    refine ⟨by decide +kernel, fun x v => by kernel_rfl, fun x V hV hdep K hK => ?_⟩
    have e8 : x 8 = .bool true := depOf hdep 8 (by decide +kernel)
    clear hdep
    refine run_bare (by kernel_rfl) ?_
    unfold sffFr
    go_simp
    refine kfit (hK _ _ (Below.refl _ V) rfl) ?_
    first | (simp only [sffFr, Act.put, List.setIfInBounds_toArray, List.set_cons_zero, List.set_cons_succ, h5, h6, h7, h8, h9, h10, h11, e8]; done) | (simp only [sffFr, Act.put, List.setIfInBounds_toArray, List.set_cons_zero, List.set_cons_succ, h5, h6, h7, h8, h9, h10, h11, e8]; rfl)
  -- 10: slot 71 := Op.move t11
  refine And.intro ?_ ?_
  · rw [← hf]; clear hf
    refine ⟨by decide +kernel, fun x v => by kernel_rfl, fun x V hV hdep K hK => ?_⟩
    have e9 : x 9 = .bool true := depOf hdep 9 (by decide +kernel)
    clear hdep
    refine run_guard 9 70 (x 9) (by kernel_rfl) (by rw [hops]; exact sff_dst_9) (by kernel_rfl) e9 ?_; clear hops
    unfold sffFr
    go_simp
    refine kfit (hK _ _ (Below.refl _ V) rfl) ?_
    first | (simp only [sffFr, Act.put, List.setIfInBounds_toArray, List.set_cons_zero, List.set_cons_succ, h5, h6, h7, h8, h9, h10, h11, e9]; done) | (simp only [sffFr, Act.put, List.setIfInBounds_toArray, List.set_cons_zero, List.set_cons_succ, h5, h6, h7, h8, h9, h10, h11, e9]; rfl)
  -- 11: slot 72 := Op.call { builtin len, args := #[t71], argTypes := #[64] }
  refine And.intro ?_ ?_
  · rw [← hf]; clear hf
    refine ⟨by decide +kernel, fun x v => by kernel_rfl, fun x V hV hdep K hK => ?_⟩
    have e9 : x 9 = .bool true := depOf hdep 9 (by decide +kernel)
    have e10 : x 10 = .slice fa 0 fc := depOf hdep 10 (by decide +kernel)
    clear hdep
    refine run_guard 9 70 (x 9) (by kernel_rfl) (by rw [hops]; exact sff_dst_9) (by kernel_rfl) e9 ?_; clear hops
    unfold sffFr
    go_simp
    refine kfit (hK _ _ (Below.refl _ V) rfl) ?_
    first | (simp only [sffFr, Act.put, List.setIfInBounds_toArray, List.set_cons_zero, List.set_cons_succ, h5, h6, h7, h8, h9, h10, h11, e9, e10]; done) | (simp only [sffFr, Act.put, List.setIfInBounds_toArray, List.set_cons_zero, List.set_cons_succ, h5, h6, h7, h8, h9, h10, h11, e9, e10]; rfl)
  -- 12: slot 73 := Op.binOp BinOp.eql 3 t72 (const (1:i64)) 3
  refine And.intro ?_ ?_
  · rw [← hf]; clear hf
    refine ⟨by decide +kernel, fun x v => by kernel_rfl, fun x V hV hdep K hK => ?_⟩
    have e9 : x 9 = .bool true := depOf hdep 9 (by decide +kernel)
    have e11 : x 11 = .int .i64 0 := depOf hdep 11 (by decide +kernel)
    clear hdep
    refine run_guard 9 70 (x 9) (by kernel_rfl) (by rw [hops]; exact sff_dst_9) (by kernel_rfl) e9 ?_; clear hops
    unfold sffFr
    go_simp
    refine kfit (hK _ _ (Below.refl _ V) rfl) ?_
    first | (simp only [sffFr, Act.put, List.setIfInBounds_toArray, List.set_cons_zero, List.set_cons_succ, h5, h6, h7, h8, h9, h10, h11, e9, e11]; done) | (simp only [sffFr, Act.put, List.setIfInBounds_toArray, List.set_cons_zero, List.set_cons_succ, h5, h6, h7, h8, h9, h10, h11, e9, e11]; rfl)
  -- 13: slot 74 := Op.move t10
  refine And.intro ?_ ?_
  · rw [← hf]; clear hf
    refine ⟨by decide +kernel, fun x v => by kernel_rfl, fun x V hV hdep K hK => ?_⟩
    have e9 : x 9 = .bool true := depOf hdep 9 (by decide +kernel)
    clear hdep
    refine run_guard 9 70 (x 9) (by kernel_rfl) (by rw [hops]; exact sff_dst_9) (by kernel_rfl) e9 ?_; clear hops
    unfold sffFr
    go_simp
    refine kfit (hK _ _ (Below.refl _ V) rfl) ?_
    first | (simp only [sffFr, Act.put, List.setIfInBounds_toArray, List.set_cons_zero, List.set_cons_succ, h5, h6, h7, h8, h9, h10, h11, e9]; done) | (simp only [sffFr, Act.put, List.setIfInBounds_toArray, List.set_cons_zero, List.set_cons_succ, h5, h6, h7, h8, h9, h10, h11, e9]; rfl)
  -- 14: slot 75 := Op.binOp BinOp.eql 4 t73 t74 4
  refine And.intro ?_ ?_
  · rw [← hf]; clear hf
    refine ⟨by decide +kernel, fun x v => by kernel_rfl, fun x V hV hdep K hK => ?_⟩
    have e9 : x 9 = .bool true := depOf hdep 9 (by decide +kernel)
    have e12 : x 12 = .bool false := depOf hdep 12 (by decide +kernel)
    have e13 : x 13 = .bool false := depOf hdep 13 (by decide +kernel)
    clear hdep
    refine run_guard 9 70 (x 9) (by kernel_rfl) (by rw [hops]; exact sff_dst_9) (by kernel_rfl) e9 ?_; clear hops
    unfold sffFr
    go_simp
    refine kfit (hK _ _ (Below.refl _ V) rfl) ?_
    first | (simp only [sffFr, Act.put, List.setIfInBounds_toArray, List.set_cons_zero, List.set_cons_succ, h5, h6, h7, h8, h9, h10, h11, e9, e12, e13]; done) | (simp only [sffFr, Act.put, List.setIfInBounds_toArray, List.set_cons_zero, List.set_cons_succ, h5, h6, h7, h8, h9, h10, h11, e9, e12, e13]; rfl)
  -- 15: slot 76 := Op.pick t70 t75 (const (Value.bool false))
  refine And.intro ?_ ?_
  · rw [← hf]; clear hf
    refine ⟨by decide +kernel, fun x v => by kernel_rfl, fun x V hV hdep K hK => ?_⟩
    have e9 : x 9 = .bool true := depOf hdep 9 (by decide +kernel)
    have e14 : x 14 = .bool true := depOf hdep 14 (by decide +kernel)
    clear hdep
    refine run_bare (by kernel_rfl) ?_
    unfold sffFr
    go_simp
    refine kfit (hK _ _ (Below.refl _ V) rfl) ?_
    first | (simp only [sffFr, Act.put, List.setIfInBounds_toArray, List.set_cons_zero, List.set_cons_succ, h5, h6, h7, h8, h9, h10, h11, e9, e14]; done) | (simp only [sffFr, Act.put, List.setIfInBounds_toArray, List.set_cons_zero, List.set_cons_succ, h5, h6, h7, h8, h9, h10, h11, e9, e14]; rfl)
  -- 16: slot 77 := Op.move t76
  refine And.intro ?_ ?_
  · rw [← hf]; clear hf
    refine ⟨by decide +kernel, fun x v => by kernel_rfl, fun x V hV hdep K hK => ?_⟩
    have e15 : x 15 = .bool true := depOf hdep 15 (by decide +kernel)
    clear hdep
    refine run_bare (by kernel_rfl) ?_
    unfold sffFr
    go_simp
    refine kfit (hK _ _ (Below.refl _ V) rfl) ?_
    first | (simp only [sffFr, Act.put, List.setIfInBounds_toArray, List.set_cons_zero, List.set_cons_succ, h5, h6, h7, h8, h9, h10, h11, e15]; done) | (simp only [sffFr, Act.put, List.setIfInBounds_toArray, List.set_cons_zero, List.set_cons_succ, h5, h6, h7, h8, h9, h10, h11, e15]; rfl)
  -- 17: slot 78 := Op.move t10
  refine And.intro ?_ ?_
  · rw [← hf]; clear hf
    refine ⟨by decide +kernel, fun x v => by kernel_rfl, fun x V hV hdep K hK => ?_⟩
    have e16 : x 16 = .bool true := depOf hdep 16 (by decide +kernel)
    clear hdep
    refine run_guard 16 77 (x 16) (by kernel_rfl) (by rw [hops]; exact sff_dst_16) (by kernel_rfl) e16 ?_; clear hops
    unfold sffFr
    go_simp
    refine kfit (hK _ _ (Below.refl _ V) rfl) ?_
    first | (simp only [sffFr, Act.put, List.setIfInBounds_toArray, List.set_cons_zero, List.set_cons_succ, h5, h6, h7, h8, h9, h10, h11, e16]; done) | (simp only [sffFr, Act.put, List.setIfInBounds_toArray, List.set_cons_zero, List.set_cons_succ, h5, h6, h7, h8, h9, h10, h11, e16]; rfl)
  -- 18: slot 79 := Op.unOp UnOp.not 4 t78
  refine And.intro ?_ ?_
  · rw [← hf]; clear hf
    refine ⟨by decide +kernel, fun x v => by kernel_rfl, fun x V hV hdep K hK => ?_⟩
    have e16 : x 16 = .bool true := depOf hdep 16 (by decide +kernel)
    have e17 : x 17 = .bool false := depOf hdep 17 (by decide +kernel)
    clear hdep
    refine run_guard 16 77 (x 16) (by kernel_rfl) (by rw [hops]; exact sff_dst_16) (by kernel_rfl) e16 ?_; clear hops
    unfold sffFr
    go_simp
    refine kfit (hK _ _ (Below.refl _ V) rfl) ?_
    first | (simp only [sffFr, Act.put, List.setIfInBounds_toArray, List.set_cons_zero, List.set_cons_succ, h5, h6, h7, h8, h9, h10, h11, e16, e17]; done) | (simp only [sffFr, Act.put, List.setIfInBounds_toArray, List.set_cons_zero, List.set_cons_succ, h5, h6, h7, h8, h9, h10, h11, e16, e17]; rfl)
  -- 19: slot 80 := Op.move t79
  refine And.intro ?_ ?_
  · rw [← hf]; clear hf
    refine ⟨by decide +kernel, fun x v => by kernel_rfl, fun x V hV hdep K hK => ?_⟩
    have e16 : x 16 = .bool true := depOf hdep 16 (by decide +kernel)
    have e18 : x 18 = .bool true := depOf hdep 18 (by decide +kernel)
    clear hdep
    refine run_guard 16 77 (x 16) (by kernel_rfl) (by rw [hops]; exact sff_dst_16) (by kernel_rfl) e16 ?_; clear hops
    unfold sffFr
    go_simp
    refine kfit (hK _ _ (Below.refl _ V) rfl) ?_
    first | (simp only [sffFr, Act.put, List.setIfInBounds_toArray, List.set_cons_zero, List.set_cons_succ, h5, h6, h7, h8, h9, h10, h11, e16, e18]; done) | (simp only [sffFr, Act.put, List.setIfInBounds_toArray, List.set_cons_zero, List.set_cons_succ, h5, h6, h7, h8, h9, h10, h11, e16, e18]; rfl)
  -- 20: slot 81 := Op.move t11
  refine And.intro ?_ ?_
  · rw [← hf]; clear hf
    refine ⟨by decide +kernel, fun x v => by kernel_rfl, fun x V hV hdep K hK => ?_⟩
    have e19 : x 19 = .bool true := depOf hdep 19 (by decide +kernel)
    clear hdep
    refine run_skipF 19 80 (x 19) (by kernel_rfl) (by rw [hops]; exact sff_dst_19) (by kernel_rfl) e19 ?_; clear hops
    exact hK _ _ (Below.refl _ V) ⟨_, rfl, trivial⟩
  -- 21: slot 82 := Op.indexAddr 64 t81 (const (0:i64))
  refine And.intro ?_ ?_
  · rw [← hf]; clear hf
    refine ⟨by decide +kernel, fun x v => by kernel_rfl, fun x V hV hdep K hK => ?_⟩
    have e19 : x 19 = .bool true := depOf hdep 19 (by decide +kernel)
    obtain ⟨qu20, e20, d20⟩ : ∃ qu20, x 20 = qu20 ∧ True := depOf hdep 20 (by decide +kernel)
    clear hdep
    refine run_skipF 19 80 (x 19) (by kernel_rfl) (by rw [hops]; exact sff_dst_19) (by kernel_rfl) e19 ?_; clear hops
    exact hK _ _ (Below.refl _ V) ⟨_, rfl, trivial⟩
  -- 22: slot 83 := Op.load 9 t82
  refine And.intro ?_ ?_
  · rw [← hf]; clear hf
    refine ⟨by decide +kernel, fun x v => by kernel_rfl, fun x V hV hdep K hK => ?_⟩
    have e19 : x 19 = .bool true := depOf hdep 19 (by decide +kernel)
    obtain ⟨qu21, e21, d21⟩ : ∃ qu21, x 21 = qu21 ∧ True := depOf hdep 21 (by decide +kernel)
    clear hdep
    refine run_skipF 19 80 (x 19) (by kernel_rfl) (by rw [hops]; exact sff_dst_19) (by kernel_rfl) e19 ?_; clear hops
    exact hK _ _ (Below.refl _ V) ⟨_, rfl, trivial⟩
  -- 23: slot 84 := Op.move t7
  refine And.intro ?_ ?_
  · rw [← hf]; clear hf
    refine ⟨by decide +kernel, fun x v => by kernel_rfl, fun x V hV hdep K hK => ?_⟩
    have e19 : x 19 = .bool true := depOf hdep 19 (by decide +kernel)
    clear hdep
    refine run_skipF 19 80 (x 19) (by kernel_rfl) (by rw [hops]; exact sff_dst_19) (by kernel_rfl) e19 ?_; clear hops
    exact hK _ _ (Below.refl _ V) ⟨_, rfl, trivial⟩
  -- 24: slot 85 := Op.binOp BinOp.eql 9 t83 t84 9
  refine And.intro ?_ ?_
  · rw [← hf]; clear hf
    refine ⟨by decide +kernel, fun x v => by kernel_rfl, fun x V hV hdep K hK => ?_⟩
    have e19 : x 19 = .bool true := depOf hdep 19 (by decide +kernel)
    obtain ⟨qu22, e22, d22⟩ : ∃ qu22, x 22 = qu22 ∧ True := depOf hdep 22 (by decide +kernel)
    obtain ⟨qu23, e23, d23⟩ : ∃ qu23, x 23 = qu23 ∧ True := depOf hdep 23 (by decide +kernel)
    clear hdep
    refine run_skipF 19 80 (x 19) (by kernel_rfl) (by rw [hops]; exact sff_dst_19) (by kernel_rfl) e19 ?_; clear hops
    exact hK _ _ (Below.refl _ V) ⟨_, rfl, trivial⟩
  -- 25: slot 86 := Op.pick t80 (const (Value.bool true)) t85
  refine And.intro ?_ ?_
  · rw [← hf]; clear hf
    refine ⟨by decide +kernel, fun x v => by kernel_rfl, fun x V hV hdep K hK => ?_⟩
    have e16 : x 16 = .bool true := depOf hdep 16 (by decide +kernel)
    have e19 : x 19 = .bool true := depOf hdep 19 (by decide +kernel)
    obtain ⟨qu24, e24, d24⟩ : ∃ qu24, x 24 = qu24 ∧ True := depOf hdep 24 (by decide +kernel)
    clear hdep
    refine run_guard 16 77 (x 16) (by kernel_rfl) (by rw [hops]; exact sff_dst_16) (by kernel_rfl) e16 ?_; clear hops
    unfold sffFr
    go_simp
    refine kfit (hK _ _ (Below.refl _ V) rfl) ?_
    first | (simp only [sffFr, Act.put, List.setIfInBounds_toArray, List.set_cons_zero, List.set_cons_succ, h5, h6, h7, h8, h9, h10, h11, e16, e19, e24]; done) | (simp only [sffFr, Act.put, List.setIfInBounds_toArray, List.set_cons_zero, List.set_cons_succ, h5, h6, h7, h8, h9, h10, h11, e16, e19, e24]; rfl)
  -- 26: slot 87 := Op.pick t77 t86 (const (Value.bool false))
  refine And.intro ?_ ?_
  · rw [← hf]; clear hf
    refine ⟨by decide +kernel, fun x v => by kernel_rfl, fun x V hV hdep K hK => ?_⟩
    have e16 : x 16 = .bool true := depOf hdep 16 (by decide +kernel)
    have e25 : x 25 = .bool true := depOf hdep 25 (by decide +kernel)
    clear hdep
    refine run_bare (by kernel_rfl) ?_
    unfold sffFr
    go_simp
    refine kfit (hK _ _ (Below.refl _ V) rfl) ?_
    first | (simp only [sffFr, Act.put, List.setIfInBounds_toArray, List.set_cons_zero, List.set_cons_succ, h5, h6, h7, h8, h9, h10, h11, e16, e25]; done) | (simp only [sffFr, Act.put, List.setIfInBounds_toArray, List.set_cons_zero, List.set_cons_succ, h5, h6, h7, h8, h9, h10, h11, e16, e25]; rfl)
  -- 27: slot 88 := Op.move t87
  refine And.intro ?_ ?_
  · rw [← hf]; clear hf
    refine ⟨by decide +kernel, fun x v => by kernel_rfl, fun x V hV hdep K hK => ?_⟩
    have e26 : x 26 = .bool true := depOf hdep 26 (by decide +kernel)
    clear hdep
    refine run_bare (by kernel_rfl) ?_
    unfold sffFr
    go_simp
    refine kfit (hK _ _ (Below.refl _ V) rfl) ?_
    first | (simp only [sffFr, Act.put, List.setIfInBounds_toArray, List.set_cons_zero, List.set_cons_succ, h5, h6, h7, h8, h9, h10, h11, e26]; done) | (simp only [sffFr, Act.put, List.setIfInBounds_toArray, List.set_cons_zero, List.set_cons_succ, h5, h6, h7, h8, h9, h10, h11, e26]; rfl)
  -- 28: slot 89 := Op.fieldAddr 66 t9 2
  refine And.intro ?_ ?_
  · rw [← hf]; clear hf
    refine ⟨by decide +kernel, fun x v => by kernel_rfl, fun x V hV hdep K hK => ?_⟩
    have e27 : x 27 = .bool true := depOf hdep 27 (by decide +kernel)
    clear hdep
    refine run_guard 27 88 (x 27) (by kernel_rfl) (by rw [hops]; exact sff_dst_27) (by kernel_rfl) e27 ?_; clear hops
    unfold sffFr
    go_simp
    refine kfit (hK _ _ (Below.refl _ V) rfl) ?_
    first | (simp only [sffFr, Act.put, List.setIfInBounds_toArray, List.set_cons_zero, List.set_cons_succ, h5, h6, h7, h8, h9, h10, h11, e27]; done) | (simp only [sffFr, Act.put, List.setIfInBounds_toArray, List.set_cons_zero, List.set_cons_succ, h5, h6, h7, h8, h9, h10, h11, e27]; rfl)
  -- 29: slot 90 := Op.load 29 t89
  refine And.intro ?_ ?_
  · rw [← hf]; clear hf
    refine ⟨by decide +kernel, fun x v => by kernel_rfl, fun x V hV hdep K hK => ?_⟩
    have e27 : x 27 = .bool true := depOf hdep 27 (by decide +kernel)
    have e28 : x 28 = .pointer (some ⟨b9, 2, none⟩) := depOf hdep 28 (by decide +kernel)
    clear hdep
    refine run_guard 27 88 (x 27) (by kernel_rfl) (by rw [hops]; exact sff_dst_27) (by kernel_rfl) e27 ?_; clear hops
    unfold sffFr
    obtain ⟨y0, y1, y2⟩ := hV.1.cells; obtain ⟨y3, y4, y5, y6, y7⟩ := cells5 hV.2.1.1.1; obtain ⟨y8, y9, y10, y11, y12⟩ := cells5 hV.2.2.1.1.1
    go_simp
    refine kfit (hK _ _ (Below.refl _ V) rfl) ?_
    first | (simp only [sffFr, Act.put, List.setIfInBounds_toArray, List.set_cons_zero, List.set_cons_succ, h5, h6, h7, h8, h9, h10, h11, e27, e28]; done) | (simp only [sffFr, Act.put, List.setIfInBounds_toArray, List.set_cons_zero, List.set_cons_succ, h5, h6, h7, h8, h9, h10, h11, e27, e28]; rfl)
  -- 30: slot 91 := Op.call { value (Operand.func 36), args := #[t90], argTypes 
  refine And.intro ?_ ?_
  · rw [← hf]; clear hf
    refine ⟨by decide +kernel, fun x v => by kernel_rfl, fun x V hV hdep K hK => ?_⟩
    have e27 : x 27 = .bool true := depOf hdep 27 (by decide +kernel)
    have e29 : x 29 = .agg #[.int .i64 (u).kind, .string (u).name, .slice ua (u).kids.length uc] := depOf hdep 29 (by decide +kernel)
    clear hdep
    refine run_guard 27 88 (x 27) (by kernel_rfl) (by rw [hops]; exact sff_dst_27) (by kernel_rfl) e27 ?_; clear hops
    unfold sffFr
    obtain ⟨HC5, HC30, HC32⟩ := HC.out
    clear HC5 HC32
    have H := HC30 V hV
    replace H := Lib.hid H; clear HC30
    go_simp
    go_at_call 36
    refine H.out.mono ?_
    rintro e Y ⟨rfl, hb⟩; refine kfit (hK _ _ hb rfl) ?_
    first | (simp only [sffFr, Act.put, List.setIfInBounds_toArray, List.set_cons_zero, List.set_cons_succ, h5, h6, h7, h8, h9, h10, h11, e27, e29]; done) | (simp only [sffFr, Act.put, List.setIfInBounds_toArray, List.set_cons_zero, List.set_cons_succ, h5, h6, h7, h8, h9, h10, h11, e27, e29]; rfl)
  -- 31: slot 92 := Op.load 29 t6
  refine And.intro ?_ ?_
  · rw [← hf]; clear hf
    refine ⟨by decide +kernel, fun x v => by kernel_rfl, fun x V hV hdep K hK => ?_⟩
    have e27 : x 27 = .bool true := depOf hdep 27 (by decide +kernel)
    clear hdep
    refine run_guard 27 88 (x 27) (by kernel_rfl) (by rw [hops]; exact sff_dst_27) (by kernel_rfl) e27 ?_; clear hops
    unfold sffFr
    obtain ⟨y0, y1, y2⟩ := hV.1.cells; obtain ⟨y3, y4, y5, y6, y7⟩ := cells5 hV.2.1.1.1; obtain ⟨y8, y9, y10, y11, y12⟩ := cells5 hV.2.2.1.1.1
    go_simp
    refine kfit (hK _ _ (Below.refl _ V) rfl) ?_
    first | (simp only [sffFr, Act.put, List.setIfInBounds_toArray, List.set_cons_zero, List.set_cons_succ, h5, h6, h7, h8, h9, h10, h11, e27]; done) | (simp only [sffFr, Act.put, List.setIfInBounds_toArray, List.set_cons_zero, List.set_cons_succ, h5, h6, h7, h8, h9, h10, h11, e27]; rfl)
  -- 32: slot 93 := Op.call { value (Operand.func 36), args := #[t92], argTypes 
  refine And.intro ?_ ?_
  · rw [← hf]; clear hf
    refine ⟨by decide +kernel, fun x v => by kernel_rfl, fun x V hV hdep K hK => ?_⟩
    have e27 : x 27 = .bool true := depOf hdep 27 (by decide +kernel)
    have e31 : x 31 = .agg #[.int .i64 (t).kind, .string (t).name, .slice pa (t).kids.length ca] := depOf hdep 31 (by decide +kernel)
    clear hdep
    refine run_guard 27 88 (x 27) (by kernel_rfl) (by rw [hops]; exact sff_dst_27) (by kernel_rfl) e27 ?_; clear hops
    unfold sffFr
    obtain ⟨HC5, HC30, HC32⟩ := HC.out
    clear HC5 HC30
    have H := HC32 V hV
    replace H := Lib.hid H; clear HC32
    go_simp
    go_at_call 36
    refine H.out.mono ?_
    rintro e Y ⟨rfl, hb⟩; refine kfit (hK _ _ hb rfl) ?_
    first | (simp only [sffFr, Act.put, List.setIfInBounds_toArray, List.set_cons_zero, List.set_cons_succ, h5, h6, h7, h8, h9, h10, h11, e27, e31]; done) | (simp only [sffFr, Act.put, List.setIfInBounds_toArray, List.set_cons_zero, List.set_cons_succ, h5, h6, h7, h8, h9, h10, h11, e27, e31]; rfl)
  -- 33: slot 94 := Op.binOp BinOp.eql 3 t91 t93 3
  refine And.intro ?_ ?_
  · rw [← hf]; clear hf
    refine ⟨by decide +kernel, fun x v => by kernel_rfl, fun x V hV hdep K hK => ?_⟩
    have e27 : x 27 = .bool true := depOf hdep 27 (by decide +kernel)
    have e30 : x 30 = .int .i64 (tsize t : Int) := depOf hdep 30 (by decide +kernel)
    have e32 : x 32 = .int .i64 (tsize t : Int) := depOf hdep 32 (by decide +kernel)
    clear hdep
    refine run_guard 27 88 (x 27) (by kernel_rfl) (by rw [hops]; exact sff_dst_27) (by kernel_rfl) e27 ?_; clear hops
    unfold sffFr
    go_simp
    refine kfit (hK _ _ (Below.refl _ V) rfl) ?_
    first | (simp only [sffFr, Act.put, List.setIfInBounds_toArray, List.set_cons_zero, List.set_cons_succ, h5, h6, h7, h8, h9, h10, h11, e27, e30, e32]; done) | (simp only [sffFr, Act.put, List.setIfInBounds_toArray, List.set_cons_zero, List.set_cons_succ, h5, h6, h7, h8, h9, h10, h11, e27, e30, e32]; rfl)
  -- 34: slot 95 := Op.pick t88 t94 (const (Value.bool false))
  refine And.intro ?_ ?_
  · rw [← hf]; clear hf
    refine ⟨by decide +kernel, fun x v => by kernel_rfl, fun x V hV hdep K hK => ?_⟩
    have e27 : x 27 = .bool true := depOf hdep 27 (by decide +kernel)
    have e33 : x 33 = .bool true := depOf hdep 33 (by decide +kernel)
    clear hdep
    refine run_bare (by kernel_rfl) ?_
    unfold sffFr
    go_simp
    refine kfit (hK _ _ (Below.refl _ V) rfl) ?_
    first | (simp only [sffFr, Act.put, List.setIfInBounds_toArray, List.set_cons_zero, List.set_cons_succ, h5, h6, h7, h8, h9, h10, h11, e27, e33]; done) | (simp only [sffFr, Act.put, List.setIfInBounds_toArray, List.set_cons_zero, List.set_cons_succ, h5, h6, h7, h8, h9, h10, h11, e27, e33]; rfl)
  -- 35: slot 4 := Op.assign t95
  refine And.intro ?_ ?_
  · rw [← hf]; clear hf
    refine ⟨by decide +kernel, fun x v => by kernel_rfl, fun x V hV hdep K hK => ?_⟩
    have e34 : x 34 = .bool true := depOf hdep 34 (by decide +kernel)
    clear hdep
    refine run_bare (by kernel_rfl) ?_
    unfold sffFr
    go_simp
    refine kfit (hK _ _ (Below.refl _ V) rfl) ?_
    first | (simp only [sffFr, Act.put, List.setIfInBounds_toArray, List.set_cons_zero, List.set_cons_succ, h5, h6, h7, h8, h9, h10, h11, e34]; done) | (simp only [sffFr, Act.put, List.setIfInBounds_toArray, List.set_cons_zero, List.set_cons_succ, h5, h6, h7, h8, h9, h10, h11, e34]; rfl)
  exact trivial
theorem sff_here {w : World} {b6 b8 b9 : Nat} {t u : T} {pa : Option Addr} {ca : Nat} {xa : Option Addr} {xc : Nat} {xs : List ByteArray} {xx : Option Addr} {xk : Nat} {ta : Option Addr} {tc : Nat} {za : Option Addr} {zc : Nat} {zn : List ByteArray} {zp : Option Addr} {zq : Nat} {ua : Option Addr} {uc : Nat} {nm : ByteArray} {fa : Option Addr} {fc : Nat}
    (HC5 : ∀ V, SfZ w b6 b8 b9 t u pa ca xa xc xs xx xk ta tc za zc zn zp zq ua uc V → Calls Tryd.prog 35 #[.agg #[.slice xa xs.length xc, .slice xx 0 xk, .int .i64 t.kind, .string t.name, .slice ta t.kids.length tc]] V fun e Y => (∃ qa qc, e = .returned (.slice qa 0 qc) ∧ True) ∧ Below V.heap.size V Y)
    (HC30 : ∀ V, SfZ w b6 b8 b9 t u pa ca xa xc xs xx xk ta tc za zc zn zp zq ua uc V → Calls Tryd.prog 36 #[.agg #[.int .i64 (u).kind, .string (u).name, .slice ua (u).kids.length uc]] V fun e Y => e = .returned (.int .i64 (tsize t : Int)) ∧ Below V.heap.size V Y)
    (HC32 : ∀ V, SfZ w b6 b8 b9 t u pa ca xa xc xs xx xk ta tc za zc zn zp zq ua uc V → Calls Tryd.prog 36 #[.agg #[.int .i64 (t).kind, .string (t).name, .slice pa (t).kids.length ca]] V fun e Y => e = .returned (.int .i64 (tsize t : Int)) ∧ Below V.heap.size V Y)
    {Q : Exit → Act → World → Prop} {ops : Array Oper} {a : Act} (X : World) (hops : ops = sffOps)
    (h5 : a.tmps.getD 5 undef = .bool true) (h6 : a.tmps.getD 6 undef = .pointer (some ⟨b6, 0, none⟩)) (h7 : a.tmps.getD 7 undef = .string nm) (h8 : a.tmps.getD 8 undef = .pointer (some ⟨b8, 0, none⟩)) (h9 : a.tmps.getD 9 undef = .pointer (some ⟨b9, 0, none⟩)) (h10 : a.tmps.getD 10 undef = .bool false) (h11 : a.tmps.getD 11 undef = .slice fa 0 fc)
    (ha : a = sffFr (fun j => a.tmps.getD j undef) a.defers (fun i => a.tmps.getD (if i = 35 then 4 else 61 + i) undef)) (hS : SfZ w b6 b8 b9 t u pa ca xa xc xs xx xk ta tc za zc zn zp zq ua uc X.drew)
    (hfin : ∀ x V, SfZ w b6 b8 b9 t u pa ca xa xc xs xx xk ta tc za zc zn zp zq ua uc V → x 35 = .bool true → Q .normal (sffFr (fun j => a.tmps.getD j undef) a.defers x) V) : (Code.region 17 ops true).wp Tryd.prog Q a X :=
  cast (congrArg (fun z => (Code.region 17 ops true).wp Tryd.prog Q z X) ha.symm) (sff_region (b := fun j => a.tmps.getD j undef) (d := a.defers) h5 h6 h7 h8 h9 h10 h11 HC5 HC30 HC32 hops _ X hS hfin)
end Go.Proofs.YtdcfemojkdoakaaDoor
/- SchemeFree, walked. -/
namespace Go.Proofs.YtdcfemojkdoakaaDoor
open Go.RowKit Go.Sort Go.Lib
attribute [local go_sem] Oper.semAt_some

set_option maxRecDepth 100000 in
set_option maxHeartbeats 8000000 in
theorem sfree_law (a1 : Option Addr) (n1 c1 : Nat) (z : Int) (w : World) (hl1 : IntsAt w.heap.size a1 n1 w) :
    Calls Tryd.prog 7 #[.slice a1 n1 c1, .int .i64 z] w fun e w' => e = .returned (.bool true) ∧ Below w.heap.size w w' := by
  have HL1 := Lib.hid hl1
  clear hl1
  by_cases hb1 : n1 ≤ 100
  · have hn1 : n1 < 1152921504606846976 := by omega
    have hb1I : ¬ ((100 : Int) < (n1 : Int)) := by omega
    obtain ⟨nn, hnn, hm⟩ := mod3S z
    obtain ⟨nm, hn3, hnm⟩ := nm3 nn hnn
    go_enter Tryd.func7, Tryd.ntmps7
    go_wp2_with (go_at_call 20; refine (first8_any _).mono ?_; rintro e w' ⟨rfl, rfl⟩)
    refine (make_n4 _ _ _ _ _ _ _ (seq_new (Below.refl _ _) HL1.out) (by decide) hn1).mono ?_
    rintro e W1 ⟨⟨t, u, rfl, hg, hu⟩, _, hf⟩
    obtain ⟨pa, ca, rfl⟩ := hu.shape
    have HB2 := Lib.hid (((Below.refl w.heap.size w).alloc (Nat.le_refl _) _).trans hf.1)
    have HT := Lib.hid hu.tys; have HG := Lib.hid hg
    have hts : tsize t ≤ 107 := (made_small hg (by decide)).2.2
    obtain ⟨xs, hX⟩ : ∃ l, ((fvs [] [] [t]).filter fun n => !inB [nm] n) = l := ⟨_, rfl⟩
    have HX := Lib.hid hX
    have HN3 := Lib.hid hn3
    clear hu hf hg HL1 hX hn3
    simp only [tyV]
    go_wp2_with (go_at_call 32; fail)
    refine with_calls (fun V => (BoxT W1.heap.size t pa ca V ∧ TextsAt V (.slice (some ⟨W1.heap.size + 1 + 1, 0, none⟩) [nm].length 1) [nm]) ∧ Below w.heap.size w V) ⟨⟨((BoxT.new HT.out).alloc _).alloc _, texts_one (by
      have := alloc_new ((W1.alloc (.cells #[.int .i64 t.kind, .string t.name, .slice pa t.kids.length ca] 29)).alloc (.cells #[.string ⟨#[97]⟩, .string ⟨#[98]⟩, .string ⟨#[99]⟩] 9)) (.cells #[.string nm] 9)
      simpa using this)⟩, ((HB2.out.alloc HB2.out.size _).alloc (by simp; have := HB2.out.size; omega) _).alloc (by simp; have := HB2.out.size; omega) _⟩ ?_
    rintro V1 ⟨⟨h1, h2⟩, h3⟩
    refine (clos_ret HG.out.1 hts HN3.out HX.out h1.2 h2).mono ?_
    rintro e W2 ⟨⟨xa, xc, xp, ta, tc, rfl, hx, ht⟩, hb⟩
    have h3' := h3.trans (hb.mono h3.size)
    have H2a := Lib.hid (And.intro (h1.below hb) (And.intro hx h3'))
    have H2 := Lib.hid (show BoxT W1.heap.size t pa ca (W2.alloc (.cells #[.slice xa xs.length xc, .slice (some xp) 0 0, .int .i64 t.kind, .string t.name, .slice ta t.kids.length tc] 66)) ∧ (SchB W2.heap.size (.slice xa xs.length xc) (.slice (some xp) 0 0) t ta tc (W2.alloc (.cells #[.slice xa xs.length xc, .slice (some xp) 0 0, .int .i64 t.kind, .string t.name, .slice ta t.kids.length tc] 66)) ∧ TextsAt (W2.alloc (.cells #[.slice xa xs.length xc, .slice (some xp) 0 0, .int .i64 t.kind, .string t.name, .slice ta t.kids.length tc] 66)) (.slice xa xs.length xc) xs) ∧ Below w.heap.size w (W2.alloc (.cells #[.slice xa xs.length xc, .slice (some xp) 0 0, .int .i64 t.kind, .string t.name, .slice ta t.kids.length tc] 66)) from
      ⟨(h1.below hb).alloc _, ⟨SchB.new ht, hx.below (below_a _ _)⟩, h3'.alloc h3'.size _⟩)
    clear h1 h2 h3 hb hx ht h3' HT HB2 H2a hm hnm hnn
    generalize W1.heap.size = b6 at *
    go_wp2_with (go_at_call 33; fail)
    refine (canon_ret HG.out.1 hts HX.out H2.out.2.1.1.2 H2.out.2.1.2).mono ?_
    rintro e W3 ⟨⟨zn, u, za, zc, zp, zq, ua, uc, rfl, ⟨hz, hu⟩, hU⟩, hb⟩
    have HU := Lib.hid hU
    have hb6 := H2.out.1.below hb
    obtain ⟨x0, x1, x2⟩ := hb6.cells; have lx := hb6.lt
    have HZ := Lib.hid (show SfZ w b6 W2.heap.size W3.heap.size t u pa ca xa xc xs (some xp) 0 ta tc za zc zn zp zq ua uc (W3.alloc (.cells #[.slice za zn.length zc, .slice zp 0 zq, .int .i64 u.kind, .string u.name, .slice ua u.kids.length uc] 66)) from
      ⟨hb6.alloc _, ⟨(H2.out.2.1.1.below hb).below (below_a _ _), (H2.out.2.1.2.below hb).below (below_a _ _)⟩, ⟨SchB.new hu, hz.below (below_a _ _)⟩, (H2.out.2.2.trans (hb.mono H2.out.2.2.size)).alloc (by have := H2.out.2.2.size; have := hb.size; omega) _⟩)
    clear hz hu hU hb hb6 H2
    generalize W2.heap.size = b8 at *
    go_wp2_with (go_at_call 34; fail)
    refine with_calls (fun V => SfZ w b6 b8 W3.heap.size t u pa ca xa xc xs (some xp) 0 ta tc za zc zn zp zq ua uc V ∧ TysAt V (.slice (some ⟨W3.heap.size + 1, 0, none⟩) [t].length 1) [t]) ⟨HZ.out.below (below_a _ _), TysAt.one (by simp) (TyAt.mk t HZ.out.1.2)⟩ ?_
    rintro V4 ⟨h1, h2⟩
    refine (rVars_any [t] (by simp [tsizes]; omega) _ _ _ h2).mono ?_
    rintro e W5 ⟨⟨v, rfl, hv⟩, hb⟩
    obtain ⟨va, vc, rfl⟩ := hv.shape
    have HZ5 := Lib.hid (h1.below hb)
    have HV5 := Lib.hid hv
    clear h1 h2 hb hv HZ x0 x1 x2 lx
    generalize W3.heap.size = b9 at *
    obtain ⟨y0, y1, y2, y3, y4⟩ := cells5 HZ5.out.2.2.1.1.1
    go_wp2_with (go_at_call 29; fail)
    refine (hasR_any _ (by have := (sf_small HG.out.1).2; omega) nm _ _ _ HV5.out).mono ?_
    rintro e W6 ⟨rfl, rfl⟩
    clear HV5
    have HZ6 := HZ5
    clear HZ5
    go_wp2_with (go_at_call 35; fail)
    clear y0 y1 y2 y3 y4
    rcases hin : inB (fvs [] [] [t]) nm with _ | _
    · obtain ⟨L, hL⟩ : ∃ L, (if inB (fvs [] [] [t]) nm = true then [nm] else []) = L := ⟨_, rfl⟩
      refine (freec_ret hts HG.out.1 HU.out (hL.trans (show L = [] by rw [← hL, hin]; rfl)) HZ6.out.2.2.1.1.2 HZ6.out.2.2.1.2).mono ?_
      rintro e W7 ⟨⟨fa, fc, rfl, hf⟩, hb⟩
      have HZ7 := Lib.hid (HZ6.out.below hb)
      clear hb HZ6
      clear hf
      obtain ⟨y0, y1, y2, y3, y4⟩ := cells5 HZ7.out.2.2.1.1.1
      go_wp2_with (fail)
      go_loop [12] (fun vi => ∃ i : Nat, i ≤ zn.length ∧ vi = .int .i64 i) (fun vi => zn.length - (intOf vi).toNat)
      case atStart => exact ⟨0, Nat.zero_le _, rfl⟩
      case round =>
        obtain ⟨i, hi, rfl⟩ := hrel
        have hzl : zn.length ≤ 3 := Nat.le_trans HU.out.zlen (sf_small HG.out.1).2
        by_cases hlt : i < zn.length
        · have hltI : (i : Int) < (zn.length : Int) := by omega
          go_wp2_with (fail)
          go_roundw
          case rel => exact ⟨i + 1, by omega, by go_num⟩
          case measure => simp [intOf]; omega
        · have hltI : ¬ (i : Int) < (zn.length : Int) := by omega
          go_wp2_with (fail)
          refine sff_here (w := w) (b6 := b6) (b8 := b8) (b9 := b9) (t := t) (u := u) (pa := pa) (ca := ca) (xa := xa) (xc := xc) (xs := xs) (xx := some xp) (xk := 0) (ta := ta) (tc := tc) (za := za) (zc := zc) (zn := zn) (zp := zp) (zq := zq) (ua := ua) (uc := uc) (nm := nm) (fc := fc) (fa := fa)
            (fun V h => (frees_ret HG.out.1 hts HX.out (L := []) (by rw [hin]; rfl) h.2.1.1.2 h.2.1.2).mono fun e Y hq => by
              obtain ⟨⟨qa, qc, e1, _⟩, hb⟩ := hq
              exact ⟨⟨qa, qc, e1, trivial⟩, hb⟩)
            (fun V h => by have := rsize_any (t := u) (w := V) (by have := HU.out.size; omega) h.2.2.1.1.2; rwa [HU.out.size] at this) (fun V h => rsize_any (t := t) (w := V) (by omega) h.1.2)
            _ (by kernel_rfl) (by kernel_rfl) (by kernel_rfl) (by kernel_rfl) (by kernel_rfl) (by kernel_rfl) (by kernel_rfl) (by kernel_rfl) (by kernel_rfl) (HZ7.out.below (below_d _)) ?_
          intro x V hV hx
          have HE := Lib.hid hV.2.2.2
          clear hV
          simp only [sffFr, hx]
          simp only [Array.getD_eq_getD_getElem?, List.getElem?_toArray, List.getElem?_cons_zero, List.getElem?_cons_succ, Option.getD_some]
          go_wp2_with (fail)
          exact bodyPost_ret (v := .bool true) (by simp [results, Tryd.results7, go_sem]) rfl ⟨rfl, HE.out⟩
    · obtain ⟨L, hL⟩ : ∃ L, (if inB (fvs [] [] [t]) nm = true then [nm] else []) = L := ⟨_, rfl⟩
      refine (freec_ret hts HG.out.1 HU.out (hL.trans (show L = [nm] by rw [← hL, hin]; rfl)) HZ6.out.2.2.1.1.2 HZ6.out.2.2.1.2).mono ?_
      rintro e W7 ⟨⟨fa, fc, rfl, hf⟩, hb⟩
      have HZ7 := Lib.hid (HZ6.out.below hb)
      clear hb HZ6
      obtain ⟨fg, rfl, hfr⟩ := FRow.of hf
      have HF7 := Lib.hid hfr
      clear hf hfr
      obtain ⟨y0, y1, y2, y3, y4⟩ := cells5 HZ7.out.2.2.1.1.1
      go_wp2_with (fail)
      go_loop [12] (fun vi => ∃ i : Nat, i ≤ zn.length ∧ vi = .int .i64 i) (fun vi => zn.length - (intOf vi).toNat)
      case atStart => exact ⟨0, Nat.zero_le _, rfl⟩
      case round =>
        obtain ⟨i, hi, rfl⟩ := hrel
        have hzl : zn.length ≤ 3 := Nat.le_trans HU.out.zlen (sf_small HG.out.1).2
        by_cases hlt : i < zn.length
        · have hltI : (i : Int) < (zn.length : Int) := by omega
          obtain ⟨g, rfl, hcap, hg, hc⟩ := HZ7.out.2.2.1.2.cell (Below.refl _ _) hlt
          have hne : ¬ zn[i] = nm := HU.out.apart hin _ (List.getElem_mem hlt)
          have hneB : (zn[i].toList == nm.toList) = false := by rw [bytes_beq]; exact eqB_false hne
          clear hne
          generalize zn[i] = zi at *
          generalize zn.length = zl at *
          go_wp2_with (fail)
          go_roundw
          case rel => exact ⟨i + 1, by omega, by go_num⟩
          case measure => simp [intOf]; omega
        · have hltI : ¬ (i : Int) < (zn.length : Int) := by omega
          go_wp2_with (fail)
          refine sft_here (w := w) (b6 := b6) (b8 := b8) (b9 := b9) (t := t) (u := u) (pa := pa) (ca := ca) (xa := xa) (xc := xc) (xs := xs) (xx := some xp) (xk := 0) (ta := ta) (tc := tc) (za := za) (zc := zc) (zn := zn) (zp := zp) (zq := zq) (ua := ua) (uc := uc) (nm := nm) (fc := fc) (fg := fg)
            (fun V h => (frees_ret HG.out.1 hts HX.out (L := [nm]) (by rw [hin]; rfl) h.1.2.1.1.2 h.1.2.1.2).mono fun e Y hq => by
              obtain ⟨⟨qa, qc, e1, _⟩, hb⟩ := hq
              exact ⟨⟨qa, qc, e1, trivial⟩, hb⟩)
            (fun V h => by have := rsize_any (t := u) (w := V) (by have := HU.out.size; omega) h.1.2.2.1.1.2; rwa [HU.out.size] at this) (fun V h => rsize_any (t := t) (w := V) (by omega) h.1.1.2)
            _ (by kernel_rfl) (by kernel_rfl) (by kernel_rfl) (by kernel_rfl) (by kernel_rfl) (by kernel_rfl) (by kernel_rfl) (by kernel_rfl) (by kernel_rfl) ⟨HZ7.out.below (below_d _), HF7.out.below (below_d _)⟩ ?_
          intro x V hV hx
          have HE := Lib.hid hV.1.2.2.2
          clear hV
          simp only [sftFr, hx]
          simp only [Array.getD_eq_getD_getElem?, List.getElem?_toArray, List.getElem?_cons_zero, List.getElem?_cons_succ, Option.getD_some]
          go_wp2_with (fail)
          exact bodyPost_ret (v := .bool true) (by simp [results, Tryd.results7, go_sem]) rfl ⟨rfl, HE.out⟩
  · have hb1I : (100 : Int) < (n1 : Int) := by omega
    go_enter Tryd.func7, Tryd.ntmps7
    go_wp2_with (go_at_call 20; refine (first8_any _).mono ?_; rintro e w' ⟨rfl, rfl⟩)
    go_ret
    exact ⟨rfl, Below.refl _ _⟩
end Go.Proofs.YtdcfemojkdoakaaDoor
/- What the plain rows of this seat share. -/
namespace Go.Proofs.YtdcfemojkdoakaaDoor
open Go.ChangeShapes Go.WideShapes Go.ChangeAt Go.RowKit

theorem own : ownKnob Tryd.prog.godebug = none := by kernel_rfl
theorem laidOut : laidOutB Tryd.prog = true := by kernel_rfl
theorem bounds_i64 {z : Int} (h : (Lit.int .i64 z).wf = true) : -9223372036854775808 ≤ z ∧ z ≤ 9223372036854775807 := by
  have h1 : IntKind.i64.min = -9223372036854775808 := rfl
  have h2 : IntKind.i64.max = 9223372036854775807 := rfl
  simp only [Lit.wf, Bool.and_eq_true, decide_eq_true_eq] at h
  omega
end Go.Proofs.YtdcfemojkdoakaaDoor
/- Slices of numbers that came in, for the plain rows. -/
namespace Go.Proofs.YtdcfemojkdoakaaDoor
open Go.ChangeShapes Go.WideShapes Go.ChangeAt Go.RowKit

/-- A slice of numbers that came in, nil or not, holds some numbers. -/
theorem opened_ints {H : Type} {enc : TypeId × Value → H} {W : World} {a0 : Option Addr} {len cap : Nat} {d0 : DataW H} {p : List MemPlace}
    (h0 : DataW.Trod enc Tryd.prog W 0 (fun _ => true) true 22 (.slice a0 len cap) d0 p) : IntsAt W.heap.size a0 len W := by
  obtain ⟨fuel, hf⟩ := h0
  rcases open_ints Tryd.underlying22 Tryd.underlying3 (by kernel_rfl) hf with ⟨hcs, _⟩ | ⟨x, l, c, zs, hcs, _, hl, hm, hz, _, hcell, hwz⟩
  · simp [Value.cells] at hcs
    obtain ⟨rfl, rfl, rfl⟩ := hcs
    exact .inl rfl
  · simp [Value.cells] at hcs
    obtain ⟨rfl, rfl, rfl⟩ := hcs
    simp only [if_true] at hz
    by_cases h0 : len = 0
    · exact .inl h0
    · obtain ⟨b, o, spot⟩ := x
      have hc0 := hcell 0 (by omega)
      have hspot : spot = none := by simpa [Addr.add] using World.cell?_spot hc0
      subst hspot
      have ea : ∀ j, (⟨b, o, none⟩ : Addr).add j = ⟨b, o + j, none⟩ := fun j => by unfold Addr.add; split <;> simp_all
      refine .inr ⟨b, o, rfl, World.block_lt_of_cell? _ _ hc0, fun j hj => ?_⟩
      have hc := hcell j (by omega)
      rw [ea] at hc
      have hjz : j < zs.length := by omega
      exact ⟨zs[j], by rw [hc]; simp [List.getD, List.getElem?_eq_getElem hjz], bounds_i64 (hwz _ (List.getElem_mem hjz))⟩

end Go.Proofs.YtdcfemojkdoakaaDoor
