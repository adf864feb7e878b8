/- What stands by itself: brackets, depth, an atom. -/
import Derived.Test.YtdooeghicdaakaaGreatDoorParMake
namespace Go.Proofs.YtdooeghicdaakaaGreatDoor
open Go.RowKit
attribute [local go_sem] Oper.semAt_some field_tok0 field_tok1 field_tok2

/-- A reading method over trees, at a state. -/
def TreeOK (c : Cx) (q : Er) (R F : Nat) (s : St) (r : E × St) : Prop := ∀ w : World, Rd c q R s w →
  Calls Tryz.prog F #[.pointer (some ⟨R, 0, none⟩)] w fun e w' => TreeRet (From w.heap.size) r.1 e w' ∧ Rd c q R r.2 w' ∧ Fr R w w'
/-- The same of one that is handed another. -/
def TreeOK2 (c : Cx) (q : Er) (R F G : Nat) (s : St) (r : E × St) : Prop := ∀ w : World, Rd c q R s w →
  Calls Tryz.prog F #[.pointer (some ⟨R, 0, none⟩), .func (.func G) #[] #[]] w fun e w' => TreeRet (From w.heap.size) r.1 e w' ∧ Rd c q R r.2 w' ∧ Fr R w w'

theorem zero7 (w : World) : (w.alloc (.cells #[.int .i64 0, .int .i64 0, .string ⟨#[]⟩, .int .i64 0, .slice none 0 0, .slice none 0 0, .slice none 0 0] 28)).heap[w.heap.size]? = some (.cells #[.int .i64 0, .int .i64 0, .string ⟨#[]⟩, .int .i64 0, .slice none 0 0, .slice none 0 0, .slice none 0 0] 28 (0, 0)) := World.alloc_heap_new w _
theorem block_set7 {w : World} {B : Nat} {z0 z1 z2 z3 z4 z5 z6 : Value} {T : TypeId} {m : Nat × Nat} (h : w.heap[B]? = some (.cells #[z0, z1, z2, z3, z4, z5, z6] T m)) (v0 v1 v2 v3 v4 v5 v6 : Value) : (((((((w.setCell ⟨B, 0, none⟩ v0).setCell ⟨B, 1, none⟩ v1).setCell ⟨B, 2, none⟩ v2).setCell ⟨B, 3, none⟩ v3).setCell ⟨B, 4, none⟩ v4).setCell ⟨B, 5, none⟩ v5).setCell ⟨B, 6, none⟩ v6).heap[B]? = some (.cells #[v0, v1, v2, v3, v4, v5, v6] T m) := by
  have h0 : (w.setCell ⟨B, 0, none⟩ v0).heap[B]? = some (.cells #[v0, z1, z2, z3, z4, z5, z6] T m) := block_set h v0
  have h1 : ((w.setCell ⟨B, 0, none⟩ v0).setCell ⟨B, 1, none⟩ v1).heap[B]? = some (.cells #[v0, v1, z2, z3, z4, z5, z6] T m) := block_set h0 v1
  have h2 : (((w.setCell ⟨B, 0, none⟩ v0).setCell ⟨B, 1, none⟩ v1).setCell ⟨B, 2, none⟩ v2).heap[B]? = some (.cells #[v0, v1, v2, z3, z4, z5, z6] T m) := block_set h1 v2
  have h3 : ((((w.setCell ⟨B, 0, none⟩ v0).setCell ⟨B, 1, none⟩ v1).setCell ⟨B, 2, none⟩ v2).setCell ⟨B, 3, none⟩ v3).heap[B]? = some (.cells #[v0, v1, v2, v3, z4, z5, z6] T m) := block_set h2 v3
  have h4 : (((((w.setCell ⟨B, 0, none⟩ v0).setCell ⟨B, 1, none⟩ v1).setCell ⟨B, 2, none⟩ v2).setCell ⟨B, 3, none⟩ v3).setCell ⟨B, 4, none⟩ v4).heap[B]? = some (.cells #[v0, v1, v2, v3, v4, z5, z6] T m) := block_set h3 v4
  have h5 : ((((((w.setCell ⟨B, 0, none⟩ v0).setCell ⟨B, 1, none⟩ v1).setCell ⟨B, 2, none⟩ v2).setCell ⟨B, 3, none⟩ v3).setCell ⟨B, 4, none⟩ v4).setCell ⟨B, 5, none⟩ v5).heap[B]? = some (.cells #[v0, v1, v2, v3, v4, v5, z6] T m) := block_set h4 v5
  exact block_set h5 v6
/-- A tree that is made by a later call, laid into an older block. -/
theorem ExIn.laid {n B : Nat} {w : World} {e : E} {l a b : Value} (h : ExIn (From n) w e l a b) (hB : B < n) (m : Nat) (hm : m ≤ n) (v0 v1 v2 v3 v4 v5 v6 : Value) :
    ExIn (From m) (((((((w.setCell ⟨B, 0, none⟩ v0).setCell ⟨B, 1, none⟩ v1).setCell ⟨B, 2, none⟩ v2).setCell ⟨B, 3, none⟩ v3).setCell ⟨B, 4, none⟩ v4).setCell ⟨B, 5, none⟩ v5).setCell ⟨B, 6, none⟩ v6) e l a b :=
  (h.keep (fun k o hk ho => keep_set7 _ _ _ _ _ _ _ (by have : n ≤ k := hk; omega) ho)).mono (fun k hk => Nat.le_trans hm hk)

set_option maxRecDepth 100000 in
set_option maxHeartbeats 4000000 in
theorem inBr_any (c : Cx) (q : Er) (R : Nat) (G : Nat) (hG : G = 8) (rd : St → E × St) (s : St) (h : TreeOK c q R 8 (needS c s [40]) (rd (needS c s [40]))) : TreeOK2 c q R 108 G s (inBr c rd s) := by
  subst hG
  intro w hrd
  have hR := hrd.lt
  have H := Lib.hid hrd; clear hrd
  have HB := Lib.hid (fun o : Obj => (Below.refl w.heap.size w).alloc (Nat.le_refl _) o)
  have HN1 := Lib.hid (fun W (h : Rd c q R s W) => need_any c q R s ⟨#[40]⟩ W h)
  rw [show (⟨#[40]⟩ : ByteArray).data.toList = [40] from rfl] at HN1
  unfold inBr
  obtain ⟨s1, hs1⟩ : ∃ s1, needS c s [40] = s1 := ⟨_, rfl⟩
  rw [hs1] at h HN1 ⊢; clear hs1
  obtain ⟨x, hx⟩ : ∃ x, rd s1 = x := ⟨_, rfl⟩
  simp only [hx] at h ⊢; clear hx
  obtain ⟨y, s2⟩ := x
  have HT := Lib.hid h; clear h
  simp only at HT ⊢
  have HN2 := Lib.hid (fun W (h : Rd c q R s2 W) => need_any c q R s2 ⟨#[41]⟩ W h)
  rw [show (⟨#[41]⟩ : ByteArray).data.toList = [41] from rfl] at HN2
  go_enter Tryz.func108, Tryz.ntmps108
  go_wp2_with (go_at_call 29; refine (HN1.out _ (H.out.below (HB.out _))).mono ?_)
  rintro e w2 ⟨rfl, h2, f2⟩
  have H2 := Lib.hid h2
  have F2 := Lib.hid ((Fr.of_below (HB.out _) (Nat.le_of_lt hR)).trans f2)
  have k2 := f2.2 w.heap.size _ (World.alloc_heap_new w _) (by omega)
  have hB2 := (Array.getElem?_eq_some_iff.1 k2).1
  have K2 := Lib.hid k2
  clear h2 f2 k2
  go_wp2_with (go_at_call 8; refine (HT.out _ H2.out).mono ?_)
  rintro e w3 ⟨p1, c1, p2, c2, p3, c3, rfl, hx⟩ h3 f3
  have X3 := Lib.hid hx
  have H3 := Lib.hid h3
  have F3 := Lib.hid (F2.out.trans f3)
  have k3 := f3.2 w.heap.size _ K2.out (by omega)
  have hB3 : w.heap.size < w3.heap.size := (Array.getElem?_eq_some_iff.1 k3).1
  have hR3 : R < w3.heap.size := h3.lt
  have hz3 := f3.size
  have K3 := Lib.hid k3
  clear h3 f3 k3 hx
  unfold exV
  go_wp2_with (go_at_call 29; refine (HN2.out _ (H3.out.alloc _)).mono ?_)
  rintro e w4 ⟨rfl, h4, f4⟩
  have H4 := Lib.hid h4
  have F4 := Lib.hid ((F3.out.alloc hR _).trans f4)
  have X4 := Lib.hid ((X3.out.keep (keep_of_below ((Below.refl _ w3).alloc (Nat.le_refl _) _))).keep (keep_of_fr f4 (by omega)))
  have k4 := f4.2 w.heap.size _ ((Below.heap_alloc w3 _ _ hB3).trans K3.out) (by omega)
  have n4 := f4.2 w3.heap.size _ (World.alloc_heap_new w3 _) (by omega)
  obtain ⟨k0, k1, k2, k3, k4', k5, k6⟩ := cells7 k4
  obtain ⟨n0, n1, n2, n3, n4', n5, n6⟩ := cells7 n4
  have kf := fun i => Lib.frozen_of_heap k4 i
  have K4 := Lib.hid k4
  clear h4 f4 k4 n4
  go_wp2
  exact bodyPost_ret (v := exV y (.slice p1 y.kids.length c1) (.slice p2 y.alts.length c2) (.slice p3 y.binds.length c3)) (by simp [results, Tryz.results108, go_sem, exV, k0, k1, k2, k3, k4', k5, k6]) rfl
    ⟨TreeRet.of (X4.out.laid hB2 _ (Nat.le_of_lt hB2) _ _ _ _ _ _ _), H4.out.set7 hR K4.out (by decide), F4.out.set7 hR (Nat.le_refl _)⟩

set_option maxRecDepth 100000 in
set_option maxHeartbeats 4000000 in
theorem brExpr_any (c : Cx) (q : Er) (R : Nat) (rd : St → E × St) (s : St) (h : TreeOK c q R 8 (needS c s [40]) (rd (needS c s [40]))) : TreeOK c q R 106 s (inBr c rd s) := by
  intro w hrd
  have hR := hrd.lt
  have H := Lib.hid hrd; clear hrd
  have HB := Lib.hid (fun o : Obj => (Below.refl w.heap.size w).alloc (Nat.le_refl _) o)
  have HT := Lib.hid (inBr_any c q R _ rfl rd s h); clear h
  obtain ⟨x, hx⟩ : ∃ x, inBr c rd s = x := ⟨_, rfl⟩
  rw [hx] at HT ⊢; clear hx
  obtain ⟨y, s2⟩ := x
  simp only at HT ⊢
  go_enter Tryz.func106, Tryz.ntmps106
  go_wp2_with (go_at_call 108; refine (HT.out _ (H.out.below (HB.out _))).mono ?_)
  rintro e w3 ⟨p1, c1, p2, c2, p3, c3, rfl, hx⟩ h3 f3
  have X3 := Lib.hid hx
  have H3 := Lib.hid h3
  have F3 := Lib.hid ((Fr.of_below (HB.out _) (Nat.le_of_lt hR)).trans f3)
  have kk := f3.2 w.heap.size _ (World.alloc_heap_new w _) (by omega)
  obtain ⟨k0, k1, k2, k3, k4, k5, k6⟩ := cells7 kk
  have kf := fun i => Lib.frozen_of_heap kk i
  have KK := Lib.hid kk
  clear h3 f3 kk hx
  unfold exV
  go_wp2
  exact bodyPost_ret (v := exV y (.slice p1 y.kids.length c1) (.slice p2 y.alts.length c2) (.slice p3 y.binds.length c3)) (by simp [results, Tryz.results106, go_sem, exV, k0, k1, k2, k3, k4, k5, k6]) rfl
    ⟨TreeRet.of (X3.out.laid (by simp) _ (by simp) _ _ _ _ _ _ _), H3.out.set7 hR KK.out (by decide), F3.out.set7 hR (Nat.le_refl _)⟩

end Go.Proofs.YtdooeghicdaakaaGreatDoor
