/- parser.Expr. -/
import Derived.Test.YtdooeghicdaakaaGreatDoorParWhole
namespace Go.Proofs.YtdooeghicdaakaaGreatDoor
open Go.RowKit
attribute [local go_sem] Oper.semAt_some field_tok0 field_tok1 field_tok2

set_option maxRecDepth 100000 in
set_option maxHeartbeats 8000000 in
theorem exprTop_any (v : Value) (s : ByteArray) (hs : s.size ≤ 20000) (aX : Addr) (q : Er) (ts : List Tok) (er : Option Nat) (hr : Runs s.data.toList (skipTo s.data.toList 0) ts er) (rd : St → E × St)
    (h : ∀ R, TreeOK (cxOf s ts) q R 8 ⟨0, 0, none⟩ (rd ⟨0, 0, none⟩)) (w : World) (hv : BytesAt w v s) (hX : w.cell? ⟨2, 0, none⟩ = some (errL aX)) (hT : TwoErrs w q.aP q.aL) :
    Calls Tryz.prog 5 #[v] w (WholePost aX q er (wholeP (cxOf s ts) rd) w) := by
  have HB := Lib.hid (fun o : Obj => (Below.refl w.heap.size w).alloc (Nat.le_refl _) o)
  obtain ⟨va, vc, rfl, _⟩ := id hv
  obtain ⟨r, hrr⟩ : ∃ r, wholeP (cxOf s ts) rd = r := ⟨_, rfl⟩
  have HW := Lib.hid (fun (W : World) (hb : Below w.heap.size w W) => whole_any _ s hs aX q ts er hr rd h W (hv.later hb) ((hb.cell (p := ⟨2, 0, none⟩) (World.block_lt_of_cell? _ _ hX)).trans hX)
    ⟨(hb.cell (p := ⟨0, 0, none⟩) (World.block_lt_of_cell? _ _ hT.1)).trans hT.1, (hb.cell (p := ⟨1, 0, none⟩) (World.block_lt_of_cell? _ _ hT.2)).trans hT.2⟩)
  rw [hrr] at HW ⊢
  clear hrr h hr hv hX hT
  go_enter Tryz.func5, Tryz.ntmps5
  go_wp2_with fail
  refine (HW.out _ (HB.out _)).mono ?_
  rintro e W ⟨hb, h⟩
  have hk := (hb.block w.heap.size (by simp)).trans (World.alloc_heap_new w _)
  obtain ⟨k0, k1, k2', k3', k4', k5', k6'⟩ := cells7 hk
  have kf := fun i => Lib.frozen_of_heap hk i
  have K := Lib.hid hk
  have B1 := Lib.hid ((HB.out _).trans (hb.mono (by simp)))
  have hzk := fun v0 v1 v2 v3 v4 v5 v6 => block_set7 hk v0 v1 v2 v3 v4 v5 v6
  have HZ := Lib.hid hzk
  clear hb hk hzk
  rcases h with ⟨p, b, rfl, rfl, hat⟩ | ⟨rfl, hr, p1, n1, p2, n2, p3, n3, rfl, hx⟩ | ⟨p, lim, b, rfl, hr, rfl, hat⟩
  · have HA := Lib.hid hat; clear hat
    unfold errVal
    go_wp2
    exact bodyPost_ret (v := .tuple #[zeroV, errVal b]) (by simp [results, Tryz.results5, go_sem, errVal, k0, k1, k2', k3', k4', k5', k6']) rfl
      ⟨below_set7 B1.out (Nat.le_refl _), .inl ⟨p, b, rfl, rfl, keep_set7 _ _ _ _ _ _ _ (blk_ne K.out HA.out (by decide)) HA.out⟩⟩
  · have HX := Lib.hid hx; have HR := Lib.hid hr; clear hx hr
    obtain ⟨y, f⟩ := r
    simp only at HX HR ⊢
    unfold exV
    go_wp2
    exact bodyPost_ret (v := .tuple #[exV y (.slice p1 y.kids.length n1) (.slice p2 y.alts.length n2) (.slice p3 y.binds.length n3), .nilIface]) (by simp [results, Tryz.results5, go_sem, exV, k0, k1, k2', k3', k4', k5', k6']) rfl
      ⟨below_set7 B1.out (Nat.le_refl _), .inr (.inl ⟨rfl, HR.out, p1, n1, p2, n2, p3, n3, rfl, HX.out.laid (by simp) _ (by simp) _ _ _ _ _ _ _⟩)⟩
  · have HA := Lib.hid hat; have HR := Lib.hid hr; clear hat hr
    unfold errVal
    go_wp2
    exact bodyPost_ret (v := .tuple #[zeroV, errVal b]) (by simp [results, Tryz.results5, go_sem, errVal, k0, k1, k2', k3', k4', k5', k6']) rfl
      ⟨below_set7 B1.out (Nat.le_refl _), .inr (.inr ⟨p, lim, b, rfl, HR.out, rfl, keep_set7 _ _ _ _ _ _ _ (blk_ne K.out HA.out (by decide)) HA.out⟩)⟩
end Go.Proofs.YtdooeghicdaakaaGreatDoor
