/- Comparisons. -/
import Derived.Test.YtdooeghicdaakaaGreatDoorParSum
import Derived.Deep.CutRange
namespace Go.Proofs.YtdooeghicdaakaaGreatDoor
open Go.RowKit
attribute [local go_sem] Oper.semAt_some field_tok0 field_tok1 field_tok2

set_option maxRecDepth 100000 in
set_option maxHeartbeats 8000000 in
theorem cmp_any (c : Cx) (q : Er) (R : Nat) (rec : St → E × St) (hr : Tame c rec) (s : St) (h : ∀ s', left c s' ≤ left c s → TreeOK c q R 38 s' (sumF c rec s')) : TreeOK c q R 22 s (cmpF c rec s) := by
  intro w hrd
  have hR := hrd.lt
  have hn3 := hrd.2.2.2.2.2
  have H := Lib.hid hrd; clear hrd
  have HB := Lib.hid (fun o : Obj => (Below.refl w.heap.size w).alloc (Nat.le_refl _) o)
  have HA := Lib.hid (h s (Nat.le_refl _))
  have HAf := Lib.hid (after_sum hr s).1
  have HH := Lib.hid h; clear h
  unfold cmpF
  obtain ⟨x, hx⟩ : ∃ x, sumF c rec s = x := ⟨_, rfl⟩
  rw [hx] at HA HAf ⊢; clear hx
  obtain ⟨e, s2⟩ := x
  simp only at HA HAf ⊢
  have hlt := fun h => kind_lt (c := c) (s := s2) (k := 5) (by decide) h
  by_cases h5 : (word c s2).kind = 5
  · have hlt2 := hlt h5
    rw [if_pos h5]
    obtain ⟨x, hx⟩ : ∃ x, word c s2 = x := ⟨_, rfl⟩
    have HX := Lib.hid hx
    rw [hx] at h5; clear hx hlt
    have e5 : (x.kind == 5) = true := by simpa using h5
    clear h5
    have HT := Lib.hid (HH.out (takeP c s2 5).2 (Nat.le_trans (after_take c s2 5).1 HAf.out))
    have HTk := Lib.hid (fun W (h : Rd c q R s2 W) => take_any c q R s2 5 (by decide) W h)
    obtain ⟨x5, hx⟩ : ∃ x, takeP c s2 5 = x := ⟨_, rfl⟩
    rw [hx] at HT HTk ⊢; clear hx
    obtain ⟨tk, s4⟩ := x5
    simp only at HT HTk ⊢
    obtain ⟨x5, hx⟩ : ∃ x, sumF c rec s4 = x := ⟨_, rfl⟩
    rw [hx] at HT ⊢; clear hx
    obtain ⟨y, s3⟩ := x5
    simp only [wdV_eq] at HT HTk ⊢
    go_enter Tryz.func22, Tryz.ntmps22
    go_wp2_with (first
      | (go_at_call 38; refine (HA.out _ (H.out.below (HB.out _))).mono ?_; rintro e9 w2 ⟨⟨p1, n1, p2, n2, p3, n3, rfl, hx2⟩, h2, f2⟩; have k2 := f2.2 _ _ (World.alloc_heap_new w _) (by omega); have l2 : w.heap.size < w2.heap.size := (Array.getElem?_eq_some_iff.1 k2).1; have hL : Hid (Lies (Ok2 (w.heap.size + 1) w2.heap.size) w2.heap.size e (w2.alloc (.cells #[.int .i64 e.kind, .int .i64 e.pos, .string e.name, .int .i64 e.num, .slice p1 e.kids.length n1, .slice p2 e.alts.length n2, .slice p3 e.binds.length n3] 28))) := Lib.hid ⟨p1, n1, p2, n2, p3, n3, World.alloc_heap_new w2 _, ((hx2.lt.mono (fun k hk => ⟨by simpa using hk.1, by have := hk.2; omega⟩)).keep (keep_of_below ((Below.refl _ w2).alloc (Nat.le_refl _) _)))⟩; have hE : Hid (Empty7 w.heap.size (w2.alloc (.cells #[.int .i64 e.kind, .int .i64 e.pos, .string e.name, .int .i64 e.num, .slice p1 e.kids.length n1, .slice p2 e.alts.length n2, .slice p3 e.binds.length n3] 28))) := Lib.hid ((Below.heap_alloc w2 _ _ l2).trans k2); have hrd := Lib.hid (h2.alloc (.cells #[.int .i64 e.kind, .int .i64 e.pos, .string e.name, .int .i64 e.num, .slice p1 e.kids.length n1, .slice p2 e.alts.length n2, .slice p3 e.binds.length n3] 28)); have hfr := Lib.hid (((Fr.of_below (HB.out _) (Nat.le_of_lt hR)).trans f2).alloc hR (.cells #[.int .i64 e.kind, .int .i64 e.pos, .string e.name, .int .i64 e.num, .slice p1 e.kids.length n1, .slice p2 e.alts.length n2, .slice p3 e.binds.length n3] 28)); clear hx2 h2 f2 k2; unfold exV)
      | (go_at_call 16; refine (rword_any c q R s2 _ hrd.out).mono ?_; rintro e8 wA ⟨rfl, hb2⟩; rw [HX.out, wdV_eq]; have R2 := Lib.hid (hrd.out.below hb2); have F2 := Lib.hid (hfr.out.trans (Fr.of_below hb2 (Nat.le_of_lt hrd.out.lt))); have L2 := Lib.hid (hL.out.below hb2); have E2 := Lib.hid ((hb2.block _ (Array.getElem?_eq_some_iff.1 hE.out).1).trans hE.out); clear hb2)
      | (go_at_call 39; refine (HTk.out _ R2.out).mono ?_; rintro e7 w3 ⟨rfl, h3, f3⟩; have R3 := Lib.hid h3; have F3 := Lib.hid (F2.out.trans f3); have L3 := Lib.hid (L2.out.fr f3 (by omega) (fun k hk => by have := hk.1; omega)); have E3 := Lib.hid (f3.2 _ _ E2.out (by omega)); have l3 : w2.heap.size < w3.heap.size := Nat.lt_of_lt_of_le L2.out.lt f3.size; clear h3 f3))
    have hRB : R < w2.heap.size := by omega
    obtain ⟨B3, hB3⟩ : ∃ B3, w2.heap.size = B3 := ⟨_, rfl⟩
    rw [hB3] at L3 l2 l3 hRB ⊢
    have l2' := l2
    have Hop := Lib.hid (fun t f y l1 a1 b1 l2 a2 b2 W => operation_any (Ok2 (w.heap.size + 1) B3) t f y l1 a1 b1 l2 a2 b2 W)
    simp only [wdV_eq] at Hop
    unfold exV at Hop
    clear hL hE hrd hfr hB3
    have hk4 := World.alloc_heap_new w3 (.cells #[.int .i64 tk.kind, .int .i64 tk.pos, .string tk.text, .int .i64 tk.num] 52)
    have R4 := Lib.hid (R3.out.alloc (.cells #[.int .i64 tk.kind, .int .i64 tk.pos, .string tk.text, .int .i64 tk.num] 52))
    have F4 := Lib.hid (F3.out.alloc hR (.cells #[.int .i64 tk.kind, .int .i64 tk.pos, .string tk.text, .int .i64 tk.num] 52))
    have L4 := Lib.hid (L3.out.below ((Below.refl _ w3).alloc (Nat.le_refl _) (.cells #[.int .i64 tk.kind, .int .i64 tk.pos, .string tk.text, .int .i64 tk.num] 52)))
    have E4 : Hid (Empty7 w.heap.size (w3.alloc (.cells #[.int .i64 tk.kind, .int .i64 tk.pos, .string tk.text, .int .i64 tk.num] 52))) := Lib.hid ((Below.heap_alloc w3 _ _ (by omega)).trans E3.out)
    have hBT : w3.heap.size ≠ B3 := by omega
    have lV : w3.heap.size < (w3.alloc (.cells #[.int .i64 tk.kind, .int .i64 tk.pos, .string tk.text, .int .i64 tk.num] 52)).heap.size := by simp
    obtain ⟨B4, hB4⟩ : ∃ B4, w3.heap.size = B4 := ⟨_, rfl⟩
    rw [hB4] at hk4 hBT l3 lV ⊢
    obtain ⟨V, hV⟩ : ∃ V, w3.alloc (.cells #[.int .i64 tk.kind, .int .i64 tk.pos, .string tk.text, .int .i64 tk.num] 52) = V := ⟨_, rfl⟩
    rw [hV] at hk4 R4 F4 L4 E4 lV ⊢
    clear hV hB4 R3 F3 L3 E3 R2 F2 L2 E2
    obtain ⟨p1', n1', p2', n2', p3', n3', hk2, hx2⟩ := L4.out
    obtain ⟨z0, z1, z2, z3, z4, z5, z6⟩ := cells7 hk2
    obtain ⟨t0, t1, t2, t3⟩ := cells4 hk4
    have K2 := Lib.hid hk2; have X2 := Lib.hid hx2; have T4 := Lib.hid hk4
    have l2 : B3 < V.heap.size := L4.out.lt
    clear hk2 hx2 hk4 L4
    go_cut [17] from 13 to 17 (fun _ W => Hid (Lies (Ok2 (w.heap.size + 1) B3) B3 (opE tk e y) W) ∧ Hid (Empty7 w.heap.size W) ∧ Hid (Rd c q R s3 W) ∧ Hid (Fr R w W))
    case first =>
      go_region_with (first
        | (go_at_call 38; refine (HT.out _ R4.out.drew).mono ?_; rintro e3 w5 ⟨⟨q1, m1, q2, m2, q3, m3, rfl, hx3⟩, h3, f3⟩; have H5 := Lib.hid h3; have f3' := f3.fromDrew; have F5 := Lib.hid (F4.out.trans f3'); have k5 := f3'.2 _ _ K2.out (by omega); have tk5 := f3'.2 _ _ T4.out (by omega); have l5 : B3 < w5.heap.size := (Array.getElem?_eq_some_iff.1 k5).1; have A5 : Hid (ExIn (Ok2 (w.heap.size + 1) B3) w5 e (.slice p1' e.kids.length n1') (.slice p2' e.alts.length n2') (.slice p3' e.binds.length n3')) := Lib.hid (X2.out.keep (fun k o hk ho => f3'.2 k o ho (by have := hk.1; omega))); have Y5 : Hid (ExIn (Ok2 (w.heap.size + 1) B3) w5 y (.slice q1 y.kids.length m1) (.slice q2 y.alts.length m2) (.slice q3 y.binds.length m3)) := Lib.hid (hx3.mono (fun k hk => ⟨by have : V.heap.size ≤ k := hk; omega, by have : V.heap.size ≤ k := hk; omega⟩)); have E5 := Lib.hid (f3'.2 _ _ E4.out (by omega)); have K5 := Lib.hid k5; obtain ⟨j0, j1, j2, j3, j4, j5, j6⟩ := cells7 k5; obtain ⟨u0, u1, u2, u3⟩ := cells4 tk5; clear h3 f3 f3' hx3 k5 tk5; unfold exV)
        | (go_at_call 40; refine (Hop.out tk e y _ _ _ _ _ _ _ (fun k hk => ⟨by omega, by omega⟩) A5.out Y5.out).mono ?_; rintro e4 w6 ⟨⟨q1', m1', q2', m2', q3', m3', rfl, hx4⟩, hb4⟩; have X6 := Lib.hid hx4; have H6 := Lib.hid (H5.out.below hb4); have F6 := Lib.hid (F5.out.trans (Fr.of_below hb4 (Nat.le_of_lt H5.out.lt))); have k6 := (hb4.block B3 l5).trans K5.out; have E6 := Lib.hid ((hb4.block _ (Array.getElem?_eq_some_iff.1 E5.out).1).trans E5.out); have K6 := Lib.hid k6; clear j0 j1 j2 j3 j4 j5 j6 z0 z1 z2 z3 z4 z5 z6 t0 t1 t2 t3 u0 u1 u2 u3; obtain ⟨j0, j1, j2, j3, j4, j5, j6⟩ := cells7 k6; have kf := fun i => Lib.frozen_of_heap k6 i; clear hx4 hb4 k6; unfold exV))
      all_goals
        go_wp2_with fail
        go_meet
        exact ⟨Lib.hid (lies_set7 K6.out X6.out (fun k hk => hk.2)), Lib.hid (keep_set7 _ _ _ _ _ _ _ (by omega) E6.out), Lib.hid (H6.out.set7 (show R < B3 by omega) K6.out (by decide)), Lib.hid (F6.out.set7 hR (Nat.le_of_lt l2'))⟩
    case rest =>
      obtain ⟨LL, EE, RR, FF⟩ := hcut
      obtain ⟨r1, o1, r2, o2, r3, o3, hk2, hx2⟩ := LL.out
      clear z0 z1 z2 z3 z4 z5 z6 t0 t1 t2 t3
      obtain ⟨z0, z1, z2, z3, z4, z5, z6⟩ := cells7 hk2
      obtain ⟨k0, k1, k2', k3', k4', k5', k6'⟩ := cells7 EE.out
      have kf := fun i => Lib.frozen_of_heap EE.out i
      have XX := Lib.hid hx2
      clear hk2 hx2
      go_wp2
      exact bodyPost_ret (v := exV (opE tk e y) (.slice r1 (opE tk e y).kids.length o1) (.slice r2 (opE tk e y).alts.length o2) (.slice r3 (opE tk e y).binds.length o3)) (by simp [results, Tryz.results22, go_sem, exV, k0, k1, k2', k3', k4', k5', k6']) rfl
        ⟨TreeRet.of ((XX.out.mono (fun k hk => hk.1) : ExIn (From (w.heap.size + 1)) _ _ _ _ _).laid (Nat.lt_succ_self _) _ (Nat.le_succ _) _ _ _ _ _ _ _), RR.out.set7 hR EE.out (by decide), FF.out.set7 hR (Nat.le_refl _)⟩
  · rw [if_neg h5]
    obtain ⟨x, hx⟩ : ∃ x, word c s2 = x := ⟨_, rfl⟩
    have HX := Lib.hid hx
    rw [hx] at h5; clear hx hlt
    have e5 : (x.kind == 5) = false := by simpa using h5
    clear h5
    go_enter Tryz.func22, Tryz.ntmps22
    go_wp2_with (first
      | (go_at_call 38; refine (HA.out _ (H.out.below (HB.out _))).mono ?_; rintro e9 w2 ⟨⟨p1, n1, p2, n2, p3, n3, rfl, hx2⟩, h2, f2⟩; have k2 := f2.2 _ _ (World.alloc_heap_new w _) (by omega); have l2 : w.heap.size < w2.heap.size := (Array.getElem?_eq_some_iff.1 k2).1; have hL : Hid (Lies (Ok2 (w.heap.size + 1) w2.heap.size) w2.heap.size e (w2.alloc (.cells #[.int .i64 e.kind, .int .i64 e.pos, .string e.name, .int .i64 e.num, .slice p1 e.kids.length n1, .slice p2 e.alts.length n2, .slice p3 e.binds.length n3] 28))) := Lib.hid ⟨p1, n1, p2, n2, p3, n3, World.alloc_heap_new w2 _, ((hx2.lt.mono (fun k hk => ⟨by simpa using hk.1, by have := hk.2; omega⟩)).keep (keep_of_below ((Below.refl _ w2).alloc (Nat.le_refl _) _)))⟩; have hE : Hid (Empty7 w.heap.size (w2.alloc (.cells #[.int .i64 e.kind, .int .i64 e.pos, .string e.name, .int .i64 e.num, .slice p1 e.kids.length n1, .slice p2 e.alts.length n2, .slice p3 e.binds.length n3] 28))) := Lib.hid ((Below.heap_alloc w2 _ _ l2).trans k2); have hrd := Lib.hid (h2.alloc (.cells #[.int .i64 e.kind, .int .i64 e.pos, .string e.name, .int .i64 e.num, .slice p1 e.kids.length n1, .slice p2 e.alts.length n2, .slice p3 e.binds.length n3] 28)); have hfr := Lib.hid (((Fr.of_below (HB.out _) (Nat.le_of_lt hR)).trans f2).alloc hR (.cells #[.int .i64 e.kind, .int .i64 e.pos, .string e.name, .int .i64 e.num, .slice p1 e.kids.length n1, .slice p2 e.alts.length n2, .slice p3 e.binds.length n3] 28)); clear hx2 h2 f2 k2; unfold exV)
      | (go_at_call 16; refine (rword_any c q R s2 _ hrd.out).mono ?_; rintro e8 wA ⟨rfl, hb2⟩; rw [HX.out, wdV_eq]; have R2 := Lib.hid (hrd.out.below hb2); have F2 := Lib.hid (hfr.out.trans (Fr.of_below hb2 (Nat.le_of_lt hrd.out.lt))); have L2 := Lib.hid (hL.out.below hb2); have E2 := Lib.hid ((hb2.block _ (Array.getElem?_eq_some_iff.1 hE.out).1).trans hE.out); clear hb2; obtain ⟨p1', n1', p2', n2', p3', n3', hk2, hx2⟩ := L2.out; obtain ⟨z0, z1, z2, z3, z4, z5, z6⟩ := cells7 hk2; obtain ⟨k0, k1, k2', k3', k4', k5', k6'⟩ := cells7 E2.out; have kf := fun i => Lib.frozen_of_heap E2.out i; have X2 := Lib.hid hx2; clear hk2 hx2))
    exact bodyPost_ret (v := exV e (.slice p1' e.kids.length n1') (.slice p2' e.alts.length n2') (.slice p3' e.binds.length n3')) (by simp [results, Tryz.results22, go_sem, exV, k0, k1, k2', k3', k4', k5', k6']) rfl
      ⟨TreeRet.of ((X2.out.mono (fun k hk => hk.1) : ExIn (From (w.heap.size + 1)) _ _ _ _ _).laid (Nat.lt_succ_self _) _ (Nat.le_succ _) _ _ _ _ _ _ _), R2.out.set7 hR E2.out (by decide), F2.out.set7 hR (Nat.le_refl _)⟩
end Go.Proofs.YtdooeghicdaakaaGreatDoor
