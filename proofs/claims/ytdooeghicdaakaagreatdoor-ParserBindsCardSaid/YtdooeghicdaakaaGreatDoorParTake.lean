/- A word of a kind is taken. -/
import Derived.Test.YtdooeghicdaakaaGreatDoorParRead
namespace Go.Proofs.YtdooeghicdaakaaGreatDoor
open Go.RowKit
attribute [local go_sem] Oper.semAt_some field_tok0 field_tok1 field_tok2

theorem kind_lt {c : Cx} {s : St} {k : Int} (hk : k ≠ 0) (h : (word c s).kind = k) : s.next < c.ws.length := by
  by_cases hl : s.next < c.ws.length
  · exact hl
  · rw [word_eq, ahead_ge c s 0 (by omega)] at h
    exact absurd h.symm hk

set_option maxRecDepth 100000 in
set_option maxHeartbeats 2000000 in
theorem take_any (c : Cx) (q : Er) (R : Nat) (s : St) (k : Int) (hk : k ≠ 0) (w : World) (h : Rd c q R s w) :
    Calls Tryz.prog 39 #[.pointer (some ⟨R, 0, none⟩), .int .i64 k] w fun e w' => e = .returned (wdV (takeP c s k).1) ∧ Rd c q R (takeP c s k).2 w' ∧ Fr R w w' := by
  have hR := h.lt
  have hn := h.2.2.2.1
  have hn3 := h.2.2.2.2.2
  have H := Lib.hid h; clear h
  have HB := Lib.hid (fun o : Obj => (Below.refl w.heap.size w).alloc (Nat.le_refl _) o)
  unfold takeP
  have hlt : (word c s).kind = k → s.next < c.ws.length := kind_lt hk
  obtain ⟨x, hx⟩ : ∃ x, word c s = x := ⟨_, rfl⟩
  have HX := Lib.hid hx
  rw [hx] at hlt ⊢; clear hx
  by_cases hkk : x.kind = k
  · have hl := hlt hkk
    rw [if_pos hkk]
    have hb : (x.kind != k) = false := by simpa using hkk
    clear hkk hlt hk
    go_enter Tryz.func39, Tryz.ntmps39
    go_wp2_with (go_at_call 16; refine (rword_any c q R s _ (H.out.below (HB.out _))).mono ?_)
    rintro e w2 ⟨rfl, hb2⟩
    rw [HX.out, wdV_eq]
    have H2 := Lib.hid ((H.out.below (HB.out _)).below hb2)
    have F2 := Lib.hid ((Fr.of_below (HB.out _) (Nat.le_of_lt hR)).trans (Fr.of_below hb2 (by simp; omega)))
    have kk := (hb2.block w.heap.size (by simp)).trans (World.alloc_heap_new w _)
    have hR2 : R < w2.heap.size := (H2.out).lt
    have hB2 : w.heap.size < w2.heap.size := (Array.getElem?_eq_some_iff.1 kk).1
    obtain ⟨k0, k1, k2, k3⟩ := cells4 kk
    have kf := fun i => Lib.frozen_of_heap kk i
    have KK := Lib.hid kk
    obtain ⟨a, cap, fv, ⟨_, c1, _, _, _⟩, hf, _⟩ := H2.out.open
    have f1 := hf 1
    clear hf hb2 kk
    go_wp2
    exact bodyPost_ret (v := wdV x) (by simp [results, Tryz.results39, go_sem, wdV, k0, k1, k2, k3, hB2]) rfl ⟨rfl, ((H2.out.setNext (s.next + 1) hl (by go_num)).set4 hR ((Below.heap_setCell w2 ⟨R, 1, none⟩ _ w.heap.size (by show w.heap.size ≠ R; omega)).trans KK.out) (by decide)).alloc _,
      ((F2.out.trans (Fr.set _ 1 _)).set4 hR (Nat.le_refl _)).alloc hR _⟩
  · rw [if_neg hkk]
    have hb : (x.kind != k) = true := by simpa using hkk
    clear hkk hlt hk
    go_enter Tryz.func39, Tryz.ntmps39
    go_wp2_with (go_at_call 16; refine (rword_any c q R s _ (H.out.below (HB.out _))).mono ?_)
    rintro e w2 ⟨rfl, hb2⟩
    rw [HX.out, wdV_eq]
    have H2 := Lib.hid ((H.out.below (HB.out _)).below hb2)
    have F2 := Lib.hid ((Fr.of_below (HB.out _) (Nat.le_of_lt hR)).trans (Fr.of_below hb2 (by simp; omega)))
    have kk := (hb2.block w.heap.size (by simp)).trans (World.alloc_heap_new w _)
    have hR2 : R < w2.heap.size := (H2.out).lt
    have hB2 : w.heap.size < w2.heap.size := (Array.getElem?_eq_some_iff.1 kk).1
    have KK := Lib.hid kk
    clear hb2 kk
    go_wp2_with (go_at_call 15; refine (wrong_any c q R s _ (H2.out.alloc _)).mono ?_)
    rintro e w3 ⟨rfl, h3, f3⟩
    have H3 := Lib.hid h3
    have F3 := Lib.hid ((F2.out.alloc hR _).trans f3)
    have kk := f3.2 w.heap.size _ ((Below.heap_alloc w2 _ _ hB2).trans KK.out) (by omega)
    obtain ⟨k0, k1, k2, k3⟩ := cells4 kk
    have kf := fun i => Lib.frozen_of_heap kk i
    have K3 := Lib.hid kk
    clear kk h3 f3
    go_wp2
    exact bodyPost_ret (v := wdV Wd.zero) (by simp [results, Tryz.results39, go_sem, wdV, Wd.zero, k0, k1, k2, k3]) rfl ⟨rfl, H3.out.set4 hR K3.out (by decide), F3.out.set4 hR (Nat.le_refl _)⟩
end Go.Proofs.YtdooeghicdaakaaGreatDoor
