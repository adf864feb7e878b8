/- One deeper. -/
import Derived.Test.YtdooeghicdaakaaGreatDoorParBr
namespace Go.Proofs.YtdooeghicdaakaaGreatDoor
open Go.RowKit
attribute [local go_sem] Oper.semAt_some field_tok0 field_tok1 field_tok2

set_option maxRecDepth 100000 in
set_option maxHeartbeats 4000000 in
theorem within_any (c : Cx) (q : Er) (R G : Nat) (hG : G = 18 ∨ G = 106 ∨ G = 21 ∨ G = 19 ∨ G = 20) (rd : St → E × St) (s : St) (hm : (rd { s with deep := s.deep + 1 }).2.deep = s.deep + 1) (h : s.deep < 200 → TreeOK c q R G { s with deep := s.deep + 1 } (rd { s with deep := s.deep + 1 })) : TreeOK2 c q R 17 G s (within c E.zero rd s) := by
  intro w hrd
  have hR := hrd.lt
  have hd := hrd.2.2.2.2.1
  have H := Lib.hid hrd
  have HB := Lib.hid (fun o : Obj => (Below.refl w.heap.size w).alloc (Nat.le_refl _) o)
  obtain ⟨a, cap, fv, ⟨_, c1, _, c3, _⟩, hf, _⟩ := hrd.open
  have f3 := hf 3
  clear hf hrd c1
  unfold within
  by_cases hdeep : s.deep = 200
  · rw [if_pos hdeep]
    have hd1 : ((s.deep : Int) == 200) = true := by simp; omega
    obtain ⟨x, hx⟩ : ∃ x, word c s = x := ⟨_, rfl⟩
    have HX := Lib.hid hx
    rw [hx]
    have e1 := H.out.errs.2
    have HFail := Lib.hid (fun W (h : Rd c q R s W) => fail_any c q R s x.pos true W h)
    unfold errOf errL at HFail
    simp only [if_true] at HFail
    have hg := World.block_lt_of_cell? _ _ e1
    simp only at hg
    clear hm h hdeep hx hd hG
    go_enter Tryz.func17, Tryz.ntmps17
    go_wp2
    have hw0 := World.alloc_heap_new w (.cells #[.int .i64 0, .int .i64 0, .string ⟨#[]⟩, .int .i64 0, .slice none 0 0, .slice none 0 0, .slice none 0 0] 28)
    have H1 := Lib.hid (H.out.alloc (.cells #[.int .i64 0, .int .i64 0, .string ⟨#[]⟩, .int .i64 0, .slice none 0 0, .slice none 0 0, .slice none 0 0] 28))
    have F1 := Lib.hid ((Fr.refl R w).alloc hR (.cells #[.int .i64 0, .int .i64 0, .string ⟨#[]⟩, .int .i64 0, .slice none 0 0, .slice none 0 0, .slice none 0 0] 28))
    have e2 := H1.out.errs.2
    have K1 := Lib.hid hw0
    clear e1 c3 f3 hw0
    obtain ⟨V, hV⟩ : ∃ V, w.alloc (.cells #[.int .i64 0, .int .i64 0, .string ⟨#[]⟩, .int .i64 0, .slice none 0 0, .slice none 0 0, .slice none 0 0] 28) = V := ⟨_, rfl⟩
    rw [hV] at H1 F1 e2 K1 ⊢
    clear hV
    go_region_with (first
      | (go_at_call 16; refine (rword_any c q R s _ H1.out.drew).mono ?_; rintro e w2 ⟨rfl, hb⟩; rw [HX.out, wdV_eq]; have H2 := Lib.hid (H1.out.drew.below hb); have e3 := (H1.out.drew.below hb).errs.2; have F2 := Lib.hid (Fr.of_below hb (Nat.le_of_lt H1.out.lt)).fromDrew; clear hb)
      | (go_at_call 27; refine (HFail.out _ H2.out).mono ?_; rintro e w3 ⟨rfl, h3, f3⟩; have H3 := Lib.hid h3; have F3 := Lib.hid (F2.out.trans f3); clear h3 f3))
    all_goals
      have k3 := F3.out.2 w.heap.size _ K1.out (by omega)
      obtain ⟨k0, k1, k2, k3', k4, k5, k6⟩ := cells7 k3
      have kf := fun i => Lib.frozen_of_heap k3 i
      have K3 := Lib.hid k3
      clear k3
      go_wp2
      exact bodyPost_ret (v := exV E.zero (.slice none 0 0) (.slice none 0 0) (.slice none 0 0)) (by simp [results, Tryz.results17, go_sem, exV, E.zero, E.kind, E.pos, E.name, E.num, k0, k1, k2, k3', k4, k5, k6]) rfl
        ⟨TreeRet.of (ExIn.leaf _ _ _ _ _ _), H3.out.set7 hR K3.out (by decide), (F1.out.trans F3.out).set7 hR (Nat.le_refl _)⟩
  · rw [if_neg hdeep]
    have hd1 : ((s.deep : Int) == 200) = false := by simp; omega
    have HT := Lib.hid (h (by omega)); clear h
    obtain ⟨x, hx⟩ : ∃ x, rd { s with deep := s.deep + 1 } = x := ⟨_, rfl⟩
    rw [hx] at HT hm ⊢; clear hx
    obtain ⟨y, s2⟩ := x
    simp only at HT hm ⊢
    have hdd : (s.deep : Int) < 200 := by omega
    have H1 := Lib.hid (H.out.setDeep (s.deep + 1) (by omega) (v := .int .i64 ((s.deep : Int) + 1)) (by go_num))
    have F1 := Lib.hid (Fr.set (R := R) w 3 (.int .i64 ((s.deep : Int) + 1)))
    have hsz : (w.setCell ⟨R, 3, none⟩ (.int .i64 ((s.deep : Int) + 1))).heap.size = w.heap.size := World.size_setCell _ _ _
    clear hdeep
    rcases hG with rfl | rfl | rfl | rfl | rfl
    all_goals
      go_enter Tryz.func17, Tryz.ntmps17
      go_wp2_with (first | (go_at_call 18; refine (HT.out _ (H1.out.alloc _)).mono ?_) | (go_at_call 106; refine (HT.out _ (H1.out.alloc _)).mono ?_) | (go_at_call 21; refine (HT.out _ (H1.out.alloc _)).mono ?_) | (go_at_call 19; refine (HT.out _ (H1.out.alloc _)).mono ?_) | (go_at_call 20; refine (HT.out _ (H1.out.alloc _)).mono ?_))
      rintro e w3 ⟨p1, n1, p2, n2, p3, n3, rfl, hx⟩ h3 g3
      have X3 := Lib.hid hx
      have H3 := Lib.hid h3
      have F3 := Lib.hid ((F1.out.alloc hR _).trans g3)
      have k3 := g3.2 w.heap.size _ (by rw [← hsz]; exact World.alloc_heap_new _ _) (by omega)
      obtain ⟨k0, k1, k2, k3', k4, k5, k6⟩ := cells7 k3
      have kf := fun i => Lib.frozen_of_heap k3 i
      have K3 := Lib.hid k3
      obtain ⟨a', cap', fv', ⟨_, _, _, d3, _⟩, hf', _⟩ := h3.open
      have f3' := hf' 3
      rw [hm] at d3
      simp only [Int.natCast_add, Int.natCast_one] at d3
      clear hf' h3 g3 k3 hx c3 f3
      unfold exV
      go_wp2
      have hb2 := block_set7 K3.out (.int .i64 y.kind) (.int .i64 y.pos) (.string y.name) (.int .i64 y.num) (.slice p1 y.kids.length n1) (.slice p2 y.alts.length n2) (.slice p3 y.binds.length n3)
      have hmid := (Below.heap_setCell _ ⟨R, 3, none⟩ (.int .i64 (s.deep : Int)) w.heap.size (by show w.heap.size ≠ R; omega)).trans hb2
      obtain ⟨m0, m1, m2, m3, m4, m5, m6⟩ := cells7 hmid
      have e2 : s2.deep - 1 = s.deep := by omega
      refine bodyPost_ret (v := exV y (.slice p1 y.kids.length n1) (.slice p2 y.alts.length n2) (.slice p3 y.binds.length n3)) (by simp [results, Tryz.results17, go_sem, exV, m0, m1, m2, m3, m4, m5, m6]) rfl
        ⟨TreeRet.of (((X3.out.laid (by simp) (w.heap.size + 1) (by simp) _ _ _ _ _ _ _).keep (fun k o hk ho => (Below.heap_setCell _ ⟨R, 3, none⟩ _ k (by have : w.heap.size + 1 ≤ k := hk; show k ≠ R; omega)).trans ho)).laid (by simp) _ (by simp) _ _ _ _ _ _ _), ?_, ((F3.out.set7 hR (Nat.le_refl _)).trans (Fr.set _ 3 _)).set7 hR (Nat.le_refl _)⟩
      rw [e2]
      exact ((H3.out.set7 hR K3.out (by decide)).setDeep s.deep (by omega) rfl).set7 hR hmid (by decide)
end Go.Proofs.YtdooeghicdaakaaGreatDoor
