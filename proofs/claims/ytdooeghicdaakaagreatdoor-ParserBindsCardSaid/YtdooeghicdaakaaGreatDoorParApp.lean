/- Applications. -/
import Derived.Test.YtdooeghicdaakaaGreatDoorParAtom
import Derived.Test.YtdooeghicdaakaaGreatDoorParPure
namespace Go.Proofs.YtdooeghicdaakaaGreatDoor
open Go.RowKit
attribute [local go_sem] Oper.semAt_some field_tok0 field_tok1 field_tok2

/-- A tree lies in a block, its rows are ok. -/
def Lies (ok : Nat → Prop) (B : Nat) (e : E) (w : World) : Prop := ∃ p1 n1 p2 n2 p3 n3, w.heap[B]? = some (.cells #[.int .i64 e.kind, .int .i64 e.pos, .string e.name, .int .i64 e.num, .slice p1 e.kids.length n1, .slice p2 e.alts.length n2, .slice p3 e.binds.length n3] 28 (0, 0)) ∧ ExIn ok w e (.slice p1 e.kids.length n1) (.slice p2 e.alts.length n2) (.slice p3 e.binds.length n3)
/-- A block with the cells of an empty tree. -/
def Empty7 (B : Nat) (w : World) : Prop := w.heap[B]? = some (.cells #[.int .i64 0, .int .i64 0, .string ⟨#[]⟩, .int .i64 0, .slice none 0 0, .slice none 0 0, .slice none 0 0] 28 (0, 0))
/-- Neither the reader nor one of two blocks; from a block on. -/
def Ok2 (n B : Nat) : Nat → Prop := fun k => n ≤ k ∧ k ≠ B
theorem Lies.fr {ok : Nat → Prop} {R B : Nat} {e : E} {w w' : World} (h : Lies ok B e w) (hf : Fr R w w') (hB : B ≠ R) (hok : ∀ k, ok k → k ≠ R) : Lies ok B e w' := by
  obtain ⟨p1, n1, p2, n2, p3, n3, h1, h2⟩ := h
  exact ⟨p1, n1, p2, n2, p3, n3, hf.2 _ _ h1 hB, h2.keep (fun k _ hk ho => hf.2 k _ ho (hok k hk))⟩
theorem Lies.below {ok : Nat → Prop} {B : Nat} {e : E} {w w' : World} (h : Lies ok B e w) (hb : Below w.heap.size w w') : Lies ok B e w' := by
  obtain ⟨p1, n1, p2, n2, p3, n3, h1, h2⟩ := h
  exact ⟨p1, n1, p2, n2, p3, n3, (hb.block B (Array.getElem?_eq_some_iff.1 h1).1).trans h1, h2.keep (keep_of_below hb)⟩
theorem Lies.lt {ok : Nat → Prop} {B : Nat} {e : E} {w : World} (h : Lies ok B e w) : B < w.heap.size := by
  obtain ⟨p1, n1, p2, n2, p3, n3, h1, h2⟩ := h
  exact (Array.getElem?_eq_some_iff.1 h1).1

theorem lies_set7 {ok : Nat → Prop} {B : Nat} {e : E} {w : World} {p1 p2 p3 : Option Addr} {n1 n2 n3 : Nat} {z0 z1 z2 z3 z4 z5 z6 : Value} (hk : w.heap[B]? = some (.cells #[z0, z1, z2, z3, z4, z5, z6] 28 (0, 0))) (hx : ExIn ok w e (.slice p1 e.kids.length n1) (.slice p2 e.alts.length n2) (.slice p3 e.binds.length n3)) (hok : ∀ k, ok k → k ≠ B) :
    Lies ok B e (((((((w.setCell ⟨B, 0, none⟩ (.int .i64 e.kind)).setCell ⟨B, 1, none⟩ (.int .i64 e.pos)).setCell ⟨B, 2, none⟩ (.string e.name)).setCell ⟨B, 3, none⟩ (.int .i64 e.num)).setCell ⟨B, 4, none⟩ (.slice p1 e.kids.length n1)).setCell ⟨B, 5, none⟩ (.slice p2 e.alts.length n2)).setCell ⟨B, 6, none⟩ (.slice p3 e.binds.length n3)) :=
  ⟨p1, n1, p2, n2, p3, n3, block_set7 hk _ _ _ _ _ _ _, hx.keep (fun k _ hk' ho => keep_set7 _ _ _ _ _ _ _ (hok k hk') ho)⟩
set_option maxRecDepth 100000 in
set_option maxHeartbeats 8000000 in
theorem app_any (c : Cx) (q : Er) (R : Nat) (rec : St → E × St) (hr : Tame c rec) (s : St) (h : ∀ s', left c s' ≤ left c s → TreeOK c q R 96 s' (atomF c rec s')) : TreeOK c q R 76 s (appF c rec s) := by
  intro w hrd
  have hR := hrd.lt
  have hn3 := hrd.2.2.2.2.2
  have H := Lib.hid hrd; clear hrd
  have HB := Lib.hid (fun o : Obj => (Below.refl w.heap.size w).alloc (Nat.le_refl _) o)
  have HA := Lib.hid (h s (Nat.le_refl _))
  have HAf := Lib.hid (after_atom hr s).1
  have HH := Lib.hid h; clear h
  unfold appF
  obtain ⟨x, hx⟩ : ∃ x, atomF c rec s = x := ⟨_, rfl⟩
  rw [hx] at HA HAf ⊢; clear hx
  obtain ⟨e0, s1⟩ := x
  simp only at HA HAf ⊢
  obtain ⟨res, hres⟩ : ∃ res, appL c rec (left c s + 1) e0 s1 = res := ⟨_, rfl⟩
  have HRes := Lib.hid hres
  rw [hres]; clear hres
  go_enter Tryz.func76, Tryz.ntmps76
  go_wp2_with (go_at_call 96; refine (HA.out _ (H.out.below (HB.out _))).mono ?_; rintro e w2 ⟨⟨p1, n1, p2, n2, p3, n3, rfl, hx2⟩, h2, f2⟩; have X2 := Lib.hid hx2; have H2 := Lib.hid h2; have F2 := Lib.hid ((Fr.of_below (HB.out _) (Nat.le_of_lt hR)).trans f2); have k2 := f2.2 _ _ (World.alloc_heap_new w _) (by omega); have l2 : w.heap.size < w2.heap.size := (Array.getElem?_eq_some_iff.1 k2).1; have K2 := Lib.hid k2; clear hx2 h2 f2 k2; unfold exV)
  obtain ⟨B3, hB3⟩ : ∃ B3, w2.heap.size = B3 := ⟨_, rfl⟩
  have L0 : Hid (Lies (Ok2 (w.heap.size + 1) B3) B3 e0 (w2.alloc (.cells #[.int .i64 e0.kind, .int .i64 e0.pos, .string e0.name, .int .i64 e0.num, .slice p1 e0.kids.length n1, .slice p2 e0.alts.length n2, .slice p3 e0.binds.length n3] 28))) := Lib.hid ⟨p1, n1, p2, n2, p3, n3, by rw [← hB3]; exact World.alloc_heap_new w2 _, ((X2.out.lt.mono (fun k hk => ⟨by simpa using hk.1, by have := hk.2; omega⟩)).keep (keep_of_below ((Below.refl _ w2).alloc (Nat.le_refl _) _)))⟩
  have E0 : Hid (Empty7 w.heap.size (w2.alloc (.cells #[.int .i64 e0.kind, .int .i64 e0.pos, .string e0.name, .int .i64 e0.num, .slice p1 e0.kids.length n1, .slice p2 e0.alts.length n2, .slice p3 e0.binds.length n3] 28))) := Lib.hid ((Below.heap_alloc w2 _ _ l2).trans K2.out)
  have R0 := Lib.hid (H2.out.alloc (.cells #[.int .i64 e0.kind, .int .i64 e0.pos, .string e0.name, .int .i64 e0.num, .slice p1 e0.kids.length n1, .slice p2 e0.alts.length n2, .slice p3 e0.binds.length n3] 28))
  have F0 := Lib.hid (F2.out.alloc hR (.cells #[.int .i64 e0.kind, .int .i64 e0.pos, .string e0.name, .int .i64 e0.num, .slice p1 e0.kids.length n1, .slice p2 e0.alts.length n2, .slice p3 e0.binds.length n3] 28))
  rw [hB3] at l2 ⊢
  have l2' := l2
  clear X2 H2 F2 K2 hB3
  go_loopw [6] (fun _ wr => ∃ (e : E) (s2 : St) (k : Nat), Hid (appL c rec k e s2 = res) ∧ (left c s2 < k ∧ left c s2 ≤ left c s) ∧ Hid (Lies (Ok2 (w.heap.size + 1) B3) B3 e wr) ∧ Hid (Empty7 w.heap.size wr) ∧ Hid (Rd c q R s2 wr) ∧ Hid (Fr R w wr)) (fun _ wr => leftOf c R wr)
  case atStart => exact ⟨e0, s1, left c s + 1, HRes, ⟨by have := HAf.out; omega, HAf.out⟩, L0, E0, R0, F0⟩
  case round =>
    obtain ⟨e, s2, k, hv, ⟨hk, hkl⟩, hL, hE, hrd, hfr⟩ := hrel
    have HBa := Lib.hid (begAtom_any c q R s2 _ hrd.out)
    cases hb : begAtom c s2 with
    | true =>
      rw [hb] at HBa
      obtain ⟨k', rfl⟩ : ∃ k', k = k' + 1 := ⟨k - 1, by omega⟩
      have HV := Lib.hid ((appL_step c rec k' e s2 hb).symm.trans hv.out)
      have HNx := Lib.hid (left_atom hr (next_of_begAtom hb))
      have HM := Lib.hid (hrd.out.leftOf)
      have HT := Lib.hid (HH.out s2 hkl)
      clear hb hv
      obtain ⟨x, hx⟩ : ∃ x, atomF c rec s2 = x := ⟨_, rfl⟩
      rw [hx] at HV HNx HT; clear hx
      obtain ⟨y, s3⟩ := x
      simp only at HV HNx HT
      go_wp2_with (go_at_call 97; refine HBa.out.mono ?_; rintro e2 w2 ⟨rfl, hb2⟩; have R2 := Lib.hid (hrd.out.below hb2); have F2 := Lib.hid (hfr.out.trans (Fr.of_below hb2 (Nat.le_of_lt hrd.out.lt))); have L2 := Lib.hid (hL.out.below hb2); have E2 := Lib.hid ((hb2.block _ (Array.getElem?_eq_some_iff.1 hE.out).1).trans hE.out); clear hb2)
      obtain ⟨p1, n1, p2, n2, p3, n3, hk2, hx2⟩ := L2.out
      obtain ⟨z0, z1, z2, z3, z4, z5, z6⟩ := cells7 hk2
      have K2 := Lib.hid hk2; have X2 := Lib.hid hx2
      have l2 : B3 < w2.heap.size := L2.out.lt
      clear hk2 hx2 L2
      go_region_with (first
        | (go_at_call 96; refine (HT.out _ R2.out.drew).mono ?_; rintro e3 w3 ⟨⟨q1, m1, q2, m2, q3, m3, rfl, hx3⟩, h3, f3⟩; have H3 := Lib.hid h3; have f3' := f3.fromDrew; have F3 := Lib.hid (F2.out.trans f3'); have k3 := f3'.2 _ _ K2.out (by omega); have l3 : B3 < w3.heap.size := (Array.getElem?_eq_some_iff.1 k3).1; have A3 : Hid (ExIn (Ok2 (w.heap.size + 1) B3) w3 e (.slice p1 e.kids.length n1) (.slice p2 e.alts.length n2) (.slice p3 e.binds.length n3)) := Lib.hid (X2.out.keep (fun k o hk ho => f3'.2 k o ho (by have := hk.1; omega))); have Y3 : Hid (ExIn (Ok2 (w.heap.size + 1) B3) w3 y (.slice q1 y.kids.length m1) (.slice q2 y.alts.length m2) (.slice q3 y.binds.length m3)) := Lib.hid (hx3.mono (fun k hk => ⟨by have : w2.heap.size ≤ k := hk; omega, by have : w2.heap.size ≤ k := hk; omega⟩)); have E3 := Lib.hid (f3'.2 _ _ E2.out (by omega)); have K3 := Lib.hid k3; obtain ⟨j0, j1, j2, j3, j4, j5, j6⟩ := cells7 k3; clear h3 f3 f3' hx3 k3; unfold exV)
        | (go_at_call 56; refine (apply_any (Ok2 (w.heap.size + 1) B3) e y _ _ _ _ _ _ _ (fun k hk => ⟨by omega, by omega⟩) A3.out Y3.out).mono ?_; rintro e4 w4 ⟨⟨q1', m1', q2', m2', q3', m3', rfl, hx4⟩, hb4⟩; have X4 := Lib.hid hx4; have H4 := Lib.hid (H3.out.below hb4); have F4 := Lib.hid (F3.out.trans (Fr.of_below hb4 (Nat.le_of_lt H3.out.lt))); have k4 := (hb4.block B3 l3).trans K3.out; have E4 := Lib.hid ((hb4.block _ (Array.getElem?_eq_some_iff.1 E3.out).1).trans E3.out); have K4 := Lib.hid k4; clear j0 j1 j2 j3 j4 j5 j6 z0 z1 z2 z3 z4 z5 z6; obtain ⟨j0, j1, j2, j3, j4, j5, j6⟩ := cells7 k4; have kf := fun i => Lib.frozen_of_heap k4 i; clear hx4 hb4 k4; unfold exV))
      all_goals go_wp2
      all_goals
        have R5 := Lib.hid (H4.out.set7 (v0 := .int .i64 (applyE e y).kind) (v1 := .int .i64 (applyE e y).pos) (v2 := .string (applyE e y).name) (v3 := .int .i64 (applyE e y).num) (v4 := .slice q1' (applyE e y).kids.length m1') (v5 := .slice q2' (applyE e y).alts.length m2') (v6 := .slice q3' (applyE e y).binds.length m3') (show R < B3 by omega) K4.out (by decide))
        go_roundw
        case rel => exact ⟨applyE e y, s3, k', HV, ⟨by have := HNx.out; omega, by have := HNx.out; omega⟩, Lib.hid (lies_set7 K4.out X4.out (fun k hk => hk.2)), Lib.hid (keep_set7 _ _ _ _ _ _ _ (by omega) E4.out), R5, Lib.hid (F4.out.set7 hR (Nat.le_of_lt l2'))⟩
        case measure => rw [R5.out.leftOf, HM.out]; exact HNx.out
    | false =>
      rw [hb] at HBa
      have HV := Lib.hid ((appL_stop c rec k e s2 hb).symm.trans hv.out)
      clear hb hv
      go_wp2_with (go_at_call 97; refine HBa.out.mono ?_; rintro e2 w2 ⟨rfl, hb2⟩; have R2 := Lib.hid (hrd.out.below hb2); have F2 := Lib.hid (hfr.out.trans (Fr.of_below hb2 (Nat.le_of_lt hrd.out.lt))); have L2 := Lib.hid (hL.out.below hb2); have hE2 := ((hb2.block _ (Array.getElem?_eq_some_iff.1 hE.out).1).trans hE.out); obtain ⟨p1, n1, p2, n2, p3, n3, hk2, hx2⟩ := L2.out; obtain ⟨z0, z1, z2, z3, z4, z5, z6⟩ := cells7 hk2; obtain ⟨k0, k1, k2', k3', k4', k5', k6'⟩ := cells7 hE2; have kf := fun i => Lib.frozen_of_heap hE2 i; have E2 := Lib.hid hE2; have X2 := Lib.hid hx2; clear hb2 hE2 hk2 hx2)
      rw [← HV.out]
      exact bodyPost_ret (v := exV e (.slice p1 e.kids.length n1) (.slice p2 e.alts.length n2) (.slice p3 e.binds.length n3)) (by simp [results, Tryz.results76, go_sem, exV, k0, k1, k2', k3', k4', k5', k6']) rfl
        ⟨TreeRet.of ((X2.out.mono (fun k hk => hk.1) : ExIn (From (w.heap.size + 1)) _ _ _ _ _).laid (Nat.lt_succ_self _) _ (Nat.le_succ _) _ _ _ _ _ _ _), R2.out.set7 hR E2.out (by decide), F2.out.set7 hR (Nat.le_refl _)⟩
end Go.Proofs.YtdooeghicdaakaaGreatDoor
