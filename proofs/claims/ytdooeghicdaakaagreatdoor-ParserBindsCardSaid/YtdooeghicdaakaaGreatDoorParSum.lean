/- Sums. -/
import Derived.Test.YtdooeghicdaakaaGreatDoorParProd
namespace Go.Proofs.YtdooeghicdaakaaGreatDoor
open Go.RowKit
attribute [local go_sem] Oper.semAt_some field_tok0 field_tok1 field_tok2

set_option maxRecDepth 100000 in
set_option maxHeartbeats 8000000 in
theorem sum_any (c : Cx) (q : Er) (R : Nat) (rec : St → E × St) (hr : Tame c rec) (s : St) (h : ∀ s', left c s' ≤ left c s → TreeOK c q R 54 s' (prodF c rec s')) : TreeOK c q R 38 s (sumF c rec s) := by
  intro w hrd
  have hR := hrd.lt
  have hn3 := hrd.2.2.2.2.2
  have H := Lib.hid hrd; clear hrd
  have HB := Lib.hid (fun o : Obj => (Below.refl w.heap.size w).alloc (Nat.le_refl _) o)
  have HA := Lib.hid (h s (Nat.le_refl _))
  have HAf := Lib.hid (after_prod hr s).1
  have HH := Lib.hid h; clear h
  unfold sumF
  obtain ⟨x, hx⟩ : ∃ x, prodF c rec s = x := ⟨_, rfl⟩
  rw [hx] at HA HAf ⊢; clear hx
  obtain ⟨e0, s1⟩ := x
  simp only at HA HAf ⊢
  obtain ⟨res, hres⟩ : ∃ res, sumL c rec (left c s + 1) e0 s1 = res := ⟨_, rfl⟩
  have HRes := Lib.hid hres
  rw [hres]; clear hres
  go_enter Tryz.func38, Tryz.ntmps38
  go_wp2_with (go_at_call 54; refine (HA.out _ (H.out.below (HB.out _))).mono ?_; rintro e w2 ⟨⟨p1, n1, p2, n2, p3, n3, rfl, hx2⟩, h2, f2⟩; have X2 := Lib.hid hx2; have H2 := Lib.hid h2; have F2 := Lib.hid ((Fr.of_below (HB.out _) (Nat.le_of_lt hR)).trans f2); have k2 := f2.2 _ _ (World.alloc_heap_new w _) (by omega); have l2 : w.heap.size < w2.heap.size := (Array.getElem?_eq_some_iff.1 k2).1; have K2 := Lib.hid k2; clear hx2 h2 f2 k2; unfold exV)
  obtain ⟨B3, hB3⟩ : ∃ B3, w2.heap.size = B3 := ⟨_, rfl⟩
  have L0 : Hid (Lies (Ok2 (w.heap.size + 1) B3) B3 e0 (w2.alloc (.cells #[.int .i64 e0.kind, .int .i64 e0.pos, .string e0.name, .int .i64 e0.num, .slice p1 e0.kids.length n1, .slice p2 e0.alts.length n2, .slice p3 e0.binds.length n3] 28))) := Lib.hid ⟨p1, n1, p2, n2, p3, n3, by rw [← hB3]; exact World.alloc_heap_new w2 _, ((X2.out.lt.mono (fun k hk => ⟨by simpa using hk.1, by have := hk.2; omega⟩)).keep (keep_of_below ((Below.refl _ w2).alloc (Nat.le_refl _) _)))⟩
  have E0 : Hid (Empty7 w.heap.size (w2.alloc (.cells #[.int .i64 e0.kind, .int .i64 e0.pos, .string e0.name, .int .i64 e0.num, .slice p1 e0.kids.length n1, .slice p2 e0.alts.length n2, .slice p3 e0.binds.length n3] 28))) := Lib.hid ((Below.heap_alloc w2 _ _ l2).trans K2.out)
  have R0 := Lib.hid (H2.out.alloc (.cells #[.int .i64 e0.kind, .int .i64 e0.pos, .string e0.name, .int .i64 e0.num, .slice p1 e0.kids.length n1, .slice p2 e0.alts.length n2, .slice p3 e0.binds.length n3] 28))
  have F0 := Lib.hid (F2.out.alloc hR (.cells #[.int .i64 e0.kind, .int .i64 e0.pos, .string e0.name, .int .i64 e0.num, .slice p1 e0.kids.length n1, .slice p2 e0.alts.length n2, .slice p3 e0.binds.length n3] 28))
  rw [hB3] at l2 ⊢
  have l2' := l2
  clear X2 H2 F2 K2 hB3
  go_loopw [7] (fun _ wr => ∃ (e : E) (s2 : St) (k : Nat), Hid (sumL c rec k e s2 = res) ∧ (left c s2 < k ∧ left c s2 ≤ left c s) ∧ Hid (Lies (Ok2 (w.heap.size + 1) B3) B3 e wr) ∧ Hid (Empty7 w.heap.size wr) ∧ Hid (Rd c q R s2 wr) ∧ Hid (Fr R w wr)) (fun _ wr => leftOf c R wr)
  case atStart => exact ⟨e0, s1, left c s + 1, HRes, ⟨by have := HAf.out; omega, HAf.out⟩, L0, E0, R0, F0⟩
  case round =>
    obtain ⟨e, s2, k, hv, ⟨hk, hkl⟩, hL, hE, hrd, hfr⟩ := hrel
    have hn2 := hrd.out.2.2.2.1
    have HI := Lib.hid (fun W (h : Rd c q R s2 W) => is_any c q R s2 ⟨#[43]⟩ W h)
    rw [show (⟨#[43]⟩ : ByteArray).data.toList = [43] from rfl] at HI
    have HJ := Lib.hid (fun W (h : Rd c q R s2 W) => is_any c q R s2 ⟨#[45]⟩ W h)
    rw [show (⟨#[45]⟩ : ByteArray).data.toList = [45] from rfl] at HJ
    have Hop := Lib.hid (fun t f y l1 a1 b1 l2 a2 b2 W => operation_any (Ok2 (w.heap.size + 1) B3) t f y l1 a1 b1 l2 a2 b2 W)
    simp only [wdV_eq] at Hop
    unfold exV at Hop
    cases hb : isT c s2 [43] || isT c s2 [45] with
    | true =>
      obtain ⟨k', rfl⟩ : ∃ k', k = k' + 1 := ⟨k - 1, by omega⟩
      have HV := Lib.hid ((sumL_step c rec k' e s2 hb).symm.trans hv.out)
      have hlt2 : s2.next < c.ws.length := by
        rcases Bool.or_eq_true_iff.1 hb with h | h
        · exact next_of_isT (by simp) h
        · exact next_of_isT (by simp) h
      have HNx := Lib.hid (Nat.lt_of_le_of_lt (after_prod hr (takeP c s2 5).2).1 (left_take 5 hlt2))
      have HM := Lib.hid (hrd.out.leftOf)
      have HT := Lib.hid (HH.out (takeP c s2 5).2 (Nat.le_trans (after_take c s2 5).1 hkl))
      have HTk := Lib.hid (fun W (h : Rd c q R s2 W) => take_any c q R s2 5 (by decide) W h)
      obtain ⟨x, hx⟩ : ∃ x, takeP c s2 5 = x := ⟨_, rfl⟩
      rw [hx] at HV HNx HT HTk; clear hx
      obtain ⟨tk, s4⟩ := x
      simp only at HV HNx HT HTk
      obtain ⟨x, hx⟩ : ∃ x, prodF c rec s4 = x := ⟨_, rfl⟩
      rw [hx] at HV HNx HT; clear hx
      obtain ⟨y, s3⟩ := x
      simp only [wdV_eq] at HV HNx HT HTk
      clear hv
      obtain ⟨z43, h43⟩ : ∃ z, isT c s2 [43] = z := ⟨_, rfl⟩
      obtain ⟨z45, h45⟩ : ∃ z, isT c s2 [45] = z := ⟨_, rfl⟩
      rw [h43] at HI hb; rw [h45] at HJ hb
      have hor : z43 = true ∨ z43 = false ∧ z45 = true := by cases z43 <;> cases z45 <;> simp_all
      clear hb h43 h45
      rcases hor with rfl | ⟨rfl, rfl⟩
      all_goals
        go_wp2_with (first
          | (go_at_call 55; (with_reducible refine (HI.out _ hrd.out).mono ?_); rintro e2 w2 ⟨rfl, hb2⟩; have R2 := Lib.hid (hrd.out.below hb2); have F2 := Lib.hid (hfr.out.trans (Fr.of_below hb2 (Nat.le_of_lt hrd.out.lt))); have L2 := Lib.hid (hL.out.below hb2); have E2 := Lib.hid ((hb2.block _ (Array.getElem?_eq_some_iff.1 hE.out).1).trans hE.out); clear hb2)
          | (go_at_call 55; (with_reducible refine (HJ.out _ R2.out).mono ?_); rintro e2 w2 ⟨rfl, hb2⟩; have F2 := Lib.hid (F2.out.trans (Fr.of_below hb2 (Nat.le_of_lt R2.out.lt))); have R2 := Lib.hid (R2.out.below hb2); have L2 := Lib.hid (L2.out.below hb2); have E2 := Lib.hid ((hb2.block _ (Array.getElem?_eq_some_iff.1 E2.out).1).trans E2.out); clear hb2))
        go_wp2_with (go_at_call 39; refine (HTk.out _ R2.out).mono ?_; rintro e2 w3 ⟨rfl, h3, f3⟩; have R3 := Lib.hid h3; have F3 := Lib.hid (F2.out.trans f3); have L3 := Lib.hid (L2.out.fr f3 (by omega) (fun k hk => by have := hk.1; omega)); have E3 := Lib.hid (f3.2 _ _ E2.out (by omega)); have l3 : B3 < w3.heap.size := Nat.lt_of_lt_of_le L2.out.lt f3.size; clear h3 f3)
        have hk4 := World.alloc_heap_new w3 (.cells #[.int .i64 tk.kind, .int .i64 tk.pos, .string tk.text, .int .i64 tk.num] 52)
        have R4 := Lib.hid (R3.out.alloc (.cells #[.int .i64 tk.kind, .int .i64 tk.pos, .string tk.text, .int .i64 tk.num] 52))
        have F4 := Lib.hid (F3.out.alloc hR (.cells #[.int .i64 tk.kind, .int .i64 tk.pos, .string tk.text, .int .i64 tk.num] 52))
        have L4 := Lib.hid (L3.out.below ((Below.refl _ w3).alloc (Nat.le_refl _) (.cells #[.int .i64 tk.kind, .int .i64 tk.pos, .string tk.text, .int .i64 tk.num] 52)))
        have E4 : Hid (Empty7 w.heap.size (w3.alloc (.cells #[.int .i64 tk.kind, .int .i64 tk.pos, .string tk.text, .int .i64 tk.num] 52))) := Lib.hid ((Below.heap_alloc w3 _ _ (by omega)).trans E3.out)
        have hBT : w3.heap.size ≠ B3 := by omega
        have lV : w3.heap.size < (w3.alloc (.cells #[.int .i64 tk.kind, .int .i64 tk.pos, .string tk.text, .int .i64 tk.num] 52)).heap.size := by simp
        obtain ⟨B4, hB4⟩ : ∃ B4, w3.heap.size = B4 := ⟨_, rfl⟩
        rw [hB4] at hk4 hBT l3 lV ⊢
        obtain ⟨V, hV⟩ : ∃ V, w3.alloc (.cells #[.int .i64 tk.kind, .int .i64 tk.pos, .string tk.text, .int .i64 tk.num] 52) = V := ⟨_, rfl⟩
        rw [hV] at hk4 R4 F4 L4 E4 lV ⊢
        clear hV hB4 R3 F3 L3 E3 R2 F2 L2 E2
        obtain ⟨p1, n1, p2, n2, p3, n3, hk2, hx2⟩ := L4.out
        obtain ⟨z0, z1, z2, z3, z4, z5, z6⟩ := cells7 hk2
        obtain ⟨t0, t1, t2, t3⟩ := cells4 hk4
        have K2 := Lib.hid hk2; have X2 := Lib.hid hx2; have T4 := Lib.hid hk4
        have l2 : B3 < V.heap.size := L4.out.lt
        clear hk2 hx2 hk4 L4
        go_region_with (first
          | (go_at_call 54; refine (HT.out _ R4.out.drew).mono ?_; rintro e3 w5 ⟨⟨q1, m1, q2, m2, q3, m3, rfl, hx3⟩, h3, f3⟩; have H5 := Lib.hid h3; have f3' := f3.fromDrew; have F5 := Lib.hid (F4.out.trans f3'); have k5 := f3'.2 _ _ K2.out (by omega); have tk5 := f3'.2 _ _ T4.out (by omega); have l5 : B3 < w5.heap.size := (Array.getElem?_eq_some_iff.1 k5).1; have A5 : Hid (ExIn (Ok2 (w.heap.size + 1) B3) w5 e (.slice p1 e.kids.length n1) (.slice p2 e.alts.length n2) (.slice p3 e.binds.length n3)) := Lib.hid (X2.out.keep (fun k o hk ho => f3'.2 k o ho (by have := hk.1; omega))); have Y5 : Hid (ExIn (Ok2 (w.heap.size + 1) B3) w5 y (.slice q1 y.kids.length m1) (.slice q2 y.alts.length m2) (.slice q3 y.binds.length m3)) := Lib.hid (hx3.mono (fun k hk => ⟨by have : V.heap.size ≤ k := hk; omega, by have : V.heap.size ≤ k := hk; omega⟩)); have E5 := Lib.hid (f3'.2 _ _ E4.out (by omega)); have K5 := Lib.hid k5; obtain ⟨j0, j1, j2, j3, j4, j5, j6⟩ := cells7 k5; obtain ⟨u0, u1, u2, u3⟩ := cells4 tk5; clear h3 f3 f3' hx3 k5 tk5; unfold exV)
          | (go_at_call 40; refine (Hop.out tk e y _ _ _ _ _ _ _ (fun k hk => ⟨by omega, by omega⟩) A5.out Y5.out).mono ?_; rintro e4 w6 ⟨⟨q1', m1', q2', m2', q3', m3', rfl, hx4⟩, hb4⟩; have X6 := Lib.hid hx4; have H6 := Lib.hid (H5.out.below hb4); have F6 := Lib.hid (F5.out.trans (Fr.of_below hb4 (Nat.le_of_lt H5.out.lt))); have k6 := (hb4.block B3 l5).trans K5.out; have E6 := Lib.hid ((hb4.block _ (Array.getElem?_eq_some_iff.1 E5.out).1).trans E5.out); have K6 := Lib.hid k6; clear j0 j1 j2 j3 j4 j5 j6 z0 z1 z2 z3 z4 z5 z6 t0 t1 t2 t3 u0 u1 u2 u3; obtain ⟨j0, j1, j2, j3, j4, j5, j6⟩ := cells7 k6; have kf := fun i => Lib.frozen_of_heap k6 i; clear hx4 hb4 k6; unfold exV))
        all_goals go_wp2
        all_goals
          have R7 := Lib.hid (H6.out.set7 (v0 := .int .i64 (opE tk e y).kind) (v1 := .int .i64 (opE tk e y).pos) (v2 := .string (opE tk e y).name) (v3 := .int .i64 (opE tk e y).num) (v4 := .slice q1' (opE tk e y).kids.length m1') (v5 := .slice q2' (opE tk e y).alts.length m2') (v6 := .slice q3' (opE tk e y).binds.length m3') (show R < B3 by omega) K6.out (by decide))
          go_roundw
          case rel => exact ⟨opE tk e y, s3, k', HV, ⟨by have := HNx.out; omega, by have := HNx.out; omega⟩, Lib.hid (lies_set7 K6.out X6.out (fun k hk => hk.2)), Lib.hid (keep_set7 _ _ _ _ _ _ _ (by omega) E6.out), R7, Lib.hid (F6.out.set7 hR (Nat.le_of_lt l2'))⟩
          case measure => rw [R7.out.leftOf, HM.out]; exact HNx.out
    | false =>
      have HV := Lib.hid ((sumL_stop c rec k e s2 hb).symm.trans hv.out)
      clear hv
      have h43 : isT c s2 [43] = false := by cases h : isT c s2 [43] <;> simp_all
      have h45 : isT c s2 [45] = false := by cases h : isT c s2 [45] <;> simp_all
      rw [h43] at HI; rw [h45] at HJ; clear hb h43 h45
      go_wp2_with (first
          | (go_at_call 55; (with_reducible refine (HI.out _ hrd.out).mono ?_); rintro e2 w2 ⟨rfl, hb2⟩; have R2 := Lib.hid (hrd.out.below hb2); have F2 := Lib.hid (hfr.out.trans (Fr.of_below hb2 (Nat.le_of_lt hrd.out.lt))); have L2 := Lib.hid (hL.out.below hb2); have E2 := Lib.hid ((hb2.block _ (Array.getElem?_eq_some_iff.1 hE.out).1).trans hE.out); clear hb2)
          | (go_at_call 55; (with_reducible refine (HJ.out _ R2.out).mono ?_); rintro e2 w2 ⟨rfl, hb2⟩; have F2 := Lib.hid (F2.out.trans (Fr.of_below hb2 (Nat.le_of_lt R2.out.lt))); have R2 := Lib.hid (R2.out.below hb2); have L2 := Lib.hid (L2.out.below hb2); have E2 := Lib.hid ((hb2.block _ (Array.getElem?_eq_some_iff.1 E2.out).1).trans E2.out); clear hb2; obtain ⟨p1, n1, p2, n2, p3, n3, hk2, hx2⟩ := L2.out; obtain ⟨z0, z1, z2, z3, z4, z5, z6⟩ := cells7 hk2; obtain ⟨k0, k1, k2', k3', k4', k5', k6'⟩ := cells7 E2.out; have kf := fun i => Lib.frozen_of_heap E2.out i; have X2 := Lib.hid hx2; clear hk2 hx2))
      rw [← HV.out]
      exact bodyPost_ret (v := exV e (.slice p1 e.kids.length n1) (.slice p2 e.alts.length n2) (.slice p3 e.binds.length n3)) (by simp [results, Tryz.results38, go_sem, exV, k0, k1, k2', k3', k4', k5', k6']) rfl
        ⟨TreeRet.of ((X2.out.mono (fun k hk => hk.1) : ExIn (From (w.heap.size + 1)) _ _ _ _ _).laid (Nat.lt_succ_self _) _ (Nat.le_succ _) _ _ _ _ _ _ _), R2.out.set7 hR E2.out (by decide), F2.out.set7 hR (Nat.le_refl _)⟩
end Go.Proofs.YtdooeghicdaakaaGreatDoor
