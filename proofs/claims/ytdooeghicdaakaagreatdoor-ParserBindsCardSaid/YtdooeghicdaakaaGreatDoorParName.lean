/- A name: a small word, or an operator in brackets. -/
import Derived.Test.YtdooeghicdaakaaGreatDoorParTake
namespace Go.Proofs.YtdooeghicdaakaaGreatDoor
open Go.RowKit
attribute [local go_sem] Oper.semAt_some field_tok0 field_tok1 field_tok2

set_option maxRecDepth 100000 in
set_option maxHeartbeats 2000000 in
theorem begVar_any (c : Cx) (q : Er) (R : Nat) (s : St) (w : World) (h : Rd c q R s w) :
    Calls Tryz.prog 47 #[.pointer (some ⟨R, 0, none⟩)] w fun e w' => e = .returned (.bool (begVar c s)) ∧ Below w.heap.size w w' := by
  have H := Lib.hid h; clear h
  have HI := Lib.hid (fun W (h : Rd c q R s W) => is_any c q R s ⟨#[40]⟩ W h)
  rw [show (⟨#[40]⟩ : ByteArray).data.toList = [40] from rfl] at HI
  unfold begVar
  obtain ⟨x, hx⟩ : ∃ x, word c s = x := ⟨_, rfl⟩
  have HX := Lib.hid hx
  rw [hx]; clear hx
  obtain ⟨y, hy⟩ : ∃ y, ahead c s 1 = y := ⟨_, rfl⟩
  have HY := Lib.hid hy
  rw [hy]; clear hy
  by_cases h1 : x.kind = 1
  · rw [decide_eq_true h1, Bool.true_or]
    have hb : (x.kind == 1) = true := by simpa using h1
    clear h1
    go_enter Tryz.func47, Tryz.ntmps47
    go_wp2_with (first
      | (go_at_call 16; refine (rword_any c q R s _ H.out).mono ?_; rintro e w2 ⟨rfl, hb2⟩; rw [HX.out, wdV_eq]; have H2 := Lib.hid (H.out.below hb2); have B2 := Lib.hid hb2; clear hb2))
    go_ret
    exact ⟨rfl, B2.out⟩
  · rw [decide_eq_false h1, Bool.false_or]
    have hb : (x.kind == 1) = false := by simpa using h1
    clear h1
    cases hi : isT c s [40] with
    | false =>
      rw [hi] at HI; clear hi
      go_enter Tryz.func47, Tryz.ntmps47
      go_wp2_with (first
        | (go_at_call 16; refine (rword_any c q R s _ H.out).mono ?_; rintro e w2 ⟨rfl, hb2⟩; rw [HX.out, wdV_eq]; have H2 := Lib.hid (H.out.below hb2); have B2 := Lib.hid hb2; clear hb2)
        | (go_at_call 55; refine (HI.out _ H2.out).mono ?_; rintro e w3 ⟨rfl, hb3⟩; have B3 := Lib.hid (B2.out.trans (hb3.mono B2.out.size)); clear hb3))
      go_ret
      exact ⟨rfl, B3.out⟩
    | true =>
      rw [hi] at HI; clear hi
      rw [Bool.true_and]
      obtain ⟨z, hz⟩ : ∃ z, decide (y.kind = 5) = z := ⟨_, rfl⟩
      rw [hz]
      have hz' : (y.kind == 5) = z := by rw [← hz]; rw [Bool.eq_iff_iff]; simp
      clear hz
      go_enter Tryz.func47, Tryz.ntmps47
      go_wp2_with (first
        | (go_at_call 16; refine (rword_any c q R s _ H.out).mono ?_; rintro e w2 ⟨rfl, hb2⟩; rw [HX.out, wdV_eq]; have H2 := Lib.hid (H.out.below hb2); have B2 := Lib.hid hb2; clear hb2)
        | (go_at_call 55; refine (HI.out _ H2.out).mono ?_; rintro e w3 ⟨rfl, hb3⟩; have H3 := Lib.hid (H2.out.below hb3); have B3 := Lib.hid (B2.out.trans (hb3.mono B2.out.size)); clear hb3)
        | (go_at_call 28; refine (ahead_any c q R s 1 (by omega) _ H3.out).mono ?_; rintro e w4 ⟨rfl, hb4⟩; rw [HY.out, wdV_eq]; have B4 := Lib.hid (B3.out.trans (hb4.mono B3.out.size)); clear hb4))
      go_ret
      exact ⟨rfl, B4.out⟩

set_option maxRecDepth 100000 in
set_option maxHeartbeats 2000000 in
theorem begAtom_any (c : Cx) (q : Er) (R : Nat) (s : St) (w : World) (h : Rd c q R s w) :
    Calls Tryz.prog 97 #[.pointer (some ⟨R, 0, none⟩)] w fun e w' => e = .returned (.bool (begAtom c s)) ∧ Below w.heap.size w w' := by
  have H := Lib.hid h; clear h
  have HI := Lib.hid (fun W (h : Rd c q R s W) => is_any c q R s ⟨#[40]⟩ W h)
  rw [show (⟨#[40]⟩ : ByteArray).data.toList = [40] from rfl] at HI
  obtain ⟨res, hres⟩ : ∃ res, begAtom c s = res := ⟨_, rfl⟩
  have HRes := Lib.hid hres
  rw [hres]; clear hres
  unfold begAtom at HRes
  obtain ⟨x, hx⟩ : ∃ x, word c s = x := ⟨_, rfl⟩
  have HX := Lib.hid hx
  rw [hx] at HRes; clear hx
  obtain ⟨z, hz⟩ : ∃ z, isT c s [40] = z := ⟨_, rfl⟩
  rw [hz] at HI HRes; clear hz
  go_enter Tryz.func97, Tryz.ntmps97
  go_wp2_with (first
    | (go_at_call 16; refine (rword_any c q R s _ H.out).mono ?_; rintro e w2 ⟨rfl, hb2⟩; rw [HX.out, wdV_eq]; have H2 := Lib.hid (H.out.below hb2); have B2 := Lib.hid hb2; clear hb2)
    | (go_at_call 55; refine (HI.out _ H2.out).mono ?_; rintro e w3 ⟨rfl, hb3⟩; have B3 := Lib.hid (B2.out.trans (hb3.mono B2.out.size)); clear hb3))
  all_goals go_ret
  all_goals refine ⟨ret_bool ?_, by first | exact B3.out | exact B2.out⟩
  all_goals (rw [← HRes.out]; simp_all)

/-- What a reading function does, over words. -/
def TokOK (c : Cx) (q : Er) (R : Nat) (F : Nat) (rd : St → Wd × St) : Prop := ∀ (s : St) (w : World), Rd c q R s w →
  Calls Tryz.prog F #[.pointer (some ⟨R, 0, none⟩)] w fun e w' => e = .returned (wdV (rd s).1) ∧ Rd c q R (rd s).2 w' ∧ Fr R w w'

set_option maxRecDepth 100000 in
set_option maxHeartbeats 2000000 in
theorem name1_any (c : Cx) (q : Er) (R : Nat) : TokOK c q R 70 (fun s => takeP c s 5) := by
  intro s w h
  have hR := h.lt
  have H := Lib.hid h; clear h
  have HB := Lib.hid (fun o : Obj => (Below.refl w.heap.size w).alloc (Nat.le_refl _) o)
  obtain ⟨x, hx⟩ : ∃ x, takeP c s 5 = x := ⟨_, rfl⟩
  have HT := Lib.hid (fun W (h : Rd c q R s W) => take_any c q R s 5 (by decide) W h)
  simp only [hx] at HT ⊢; clear hx
  obtain ⟨y, s1⟩ := x
  simp only at HT ⊢
  go_enter Tryz.func70, Tryz.ntmps70
  go_wp2_with (go_at_call 39; refine (HT.out _ (H.out.below (HB.out _))).mono ?_)
  rintro e w2 ⟨rfl, h2, f2⟩
  rw [wdV_eq]
  have H2 := Lib.hid h2
  have F2 := Lib.hid ((Fr.of_below (HB.out _) (Nat.le_of_lt hR)).trans f2)
  have kk := f2.2 w.heap.size _ (World.alloc_heap_new w _) (by omega)
  obtain ⟨k0, k1, k2, k3⟩ := cells4 kk
  have kf := fun i => Lib.frozen_of_heap kk i
  have KK := Lib.hid kk
  clear kk h2 f2
  go_wp2
  exact bodyPost_ret (v := wdV y) (by simp [results, Tryz.results70, go_sem, wdV, k0, k1, k2, k3]) rfl ⟨rfl, H2.out.set4 hR KK.out (by decide), F2.out.set4 hR (Nat.le_refl _)⟩

set_option maxRecDepth 100000 in
set_option maxHeartbeats 2000000 in
theorem inBrTok_any (c : Cx) (q : Er) (R : Nat) (s : St) (w : World) (h : Rd c q R s w) :
    Calls Tryz.prog 69 #[.pointer (some ⟨R, 0, none⟩), .func (.func 70) #[] #[]] w fun e w' => e = .returned (wdV (inBr c (fun s => takeP c s 5) s).1) ∧ Rd c q R (inBr c (fun s => takeP c s 5) s).2 w' ∧ Fr R w w' := by
  have hR := h.lt
  have H := Lib.hid h; clear h
  have HB := Lib.hid (fun o : Obj => (Below.refl w.heap.size w).alloc (Nat.le_refl _) o)
  have HN1 := Lib.hid (fun W (h : Rd c q R s W) => need_any c q R s ⟨#[40]⟩ W h)
  have HF := Lib.hid (name1_any c q R)
  unfold inBr
  rw [show (⟨#[40]⟩ : ByteArray).data.toList = [40] from rfl] at HN1
  obtain ⟨s1, hs1⟩ : ∃ s1, needS c s [40] = s1 := ⟨_, rfl⟩
  rw [hs1] at HN1 ⊢; clear hs1
  have HT := Lib.hid (HF.out s1)
  clear HF
  obtain ⟨x, hx⟩ : ∃ x, takeP c s1 5 = x := ⟨_, rfl⟩
  simp only [hx] at HT ⊢; clear hx
  obtain ⟨y, s2⟩ := x
  simp only at HT ⊢
  have HN2 := Lib.hid (fun W (h : Rd c q R s2 W) => need_any c q R s2 ⟨#[41]⟩ W h)
  rw [show (⟨#[41]⟩ : ByteArray).data.toList = [41] from rfl] at HN2
  go_enter Tryz.func69, Tryz.ntmps69
  go_wp2_with (go_at_call 29; refine (HN1.out _ (H.out.below (HB.out _))).mono ?_)
  rintro e w2 ⟨rfl, h2, f2⟩
  have H2 := Lib.hid h2
  have F2 := Lib.hid ((Fr.of_below (HB.out _) (Nat.le_of_lt hR)).trans f2)
  have K2 := Lib.hid (f2.2 w.heap.size _ (World.alloc_heap_new w _) (by omega))
  clear h2 f2
  go_wp2_with (go_at_call 70; refine (HT.out _ H2.out).mono ?_)
  rintro e w3 ⟨rfl, h3, f3⟩
  rw [wdV_eq]
  have H3 := Lib.hid h3
  have F3 := Lib.hid (F2.out.trans f3)
  have k3 := f3.2 w.heap.size _ K2.out (by omega)
  have hB3 : w.heap.size < w3.heap.size := (Array.getElem?_eq_some_iff.1 k3).1
  have hR3 : R < w3.heap.size := h3.lt
  have K3 := Lib.hid k3
  clear h3 f3 k3
  go_wp2_with (go_at_call 29; refine (HN2.out _ (H3.out.alloc _)).mono ?_)
  rintro e w4 ⟨rfl, h4, f4⟩
  have H4 := Lib.hid h4
  have F4 := Lib.hid ((F3.out.alloc hR _).trans f4)
  have k4 := f4.2 w.heap.size _ ((Below.heap_alloc w3 _ _ hB3).trans K3.out) (by omega)
  have n4 := f4.2 w3.heap.size _ (World.alloc_heap_new w3 _) (by omega)
  obtain ⟨k0, k1, k2, k3⟩ := cells4 k4
  obtain ⟨n0, n1, n2, n3⟩ := cells4 n4
  have kf := fun i => Lib.frozen_of_heap k4 i
  have K4 := Lib.hid k4
  clear h4 f4 k4 n4
  go_wp2
  exact bodyPost_ret (v := wdV y) (by simp [results, Tryz.results69, go_sem, wdV, k0, k1, k2, k3]) rfl ⟨rfl, H4.out.set4 hR K4.out (by decide), F4.out.set4 hR (Nat.le_refl _)⟩

set_option maxRecDepth 100000 in
set_option maxHeartbeats 2000000 in
theorem name_any' (c : Cx) (q : Er) (R : Nat) (s : St) (w : World) (h : Rd c q R s w) :
    Calls Tryz.prog 48 #[.pointer (some ⟨R, 0, none⟩)] w fun e w' => e = .returned (wdV (nameP c s).1) ∧ Rd c q R (nameP c s).2 w' ∧ Fr R w w' := by
  have hR := h.lt
  have H := Lib.hid h; clear h
  have HB := Lib.hid (fun o : Obj => (Below.refl w.heap.size w).alloc (Nat.le_refl _) o)
  have HI := Lib.hid (fun W (h : Rd c q R s W) => is_any c q R s ⟨#[40]⟩ W h)
  rw [show (⟨#[40]⟩ : ByteArray).data.toList = [40] from rfl] at HI
  unfold nameP
  cases hi : isT c s [40] with
  | false =>
    rw [hi] at HI; clear hi
    simp only [Bool.false_eq_true, if_false]
    have HT := Lib.hid (fun W (h : Rd c q R s W) => take_any c q R s 1 (by decide) W h)
    obtain ⟨x, hx⟩ : ∃ x, takeP c s 1 = x := ⟨_, rfl⟩
    rw [hx] at HT ⊢; clear hx
    obtain ⟨y, s2⟩ := x
    simp only at HT ⊢
    go_enter Tryz.func48, Tryz.ntmps48
    go_wp2_with (go_at_call 55; refine (HI.out _ (H.out.below (HB.out _))).mono ?_; rintro e w2 ⟨rfl, hb2⟩; have H2 := Lib.hid ((H.out.below (HB.out _)).below hb2); have B2 := Lib.hid ((HB.out _).trans (hb2.mono (by simp))); have K2 := Lib.hid ((hb2.block w.heap.size (by simp)).trans (World.alloc_heap_new w _)); clear hb2)
    go_wp2_with (go_at_call 39; refine (HT.out _ H2.out).mono ?_)
    rintro e w3 ⟨rfl, h3, f3⟩
    rw [wdV_eq]
    have H3 := Lib.hid h3
    have F3 := Lib.hid ((Fr.of_below B2.out (Nat.le_of_lt hR)).trans f3)
    have kk := f3.2 w.heap.size _ K2.out (by omega)
    obtain ⟨k0, k1, k2, k3⟩ := cells4 kk
    have kf := fun i => Lib.frozen_of_heap kk i
    have KK := Lib.hid kk
    clear kk h3 f3
    go_wp2
    exact bodyPost_ret (v := wdV y) (by simp [results, Tryz.results48, go_sem, wdV, k0, k1, k2, k3]) rfl ⟨rfl, H3.out.set4 hR KK.out (by decide), F3.out.set4 hR (Nat.le_refl _)⟩
  | true =>
    rw [hi] at HI; clear hi
    simp only [if_true]
    have HT := Lib.hid (fun W (h : Rd c q R s W) => inBrTok_any c q R s W h)
    obtain ⟨x, hx⟩ : ∃ x, inBr c (fun s => takeP c s 5) s = x := ⟨_, rfl⟩
    rw [hx] at HT ⊢; clear hx
    obtain ⟨y, s2⟩ := x
    simp only at HT ⊢
    go_enter Tryz.func48, Tryz.ntmps48
    go_wp2_with (go_at_call 55; refine (HI.out _ (H.out.below (HB.out _))).mono ?_; rintro e w2 ⟨rfl, hb2⟩; have H2 := Lib.hid ((H.out.below (HB.out _)).below hb2); have B2 := Lib.hid ((HB.out _).trans (hb2.mono (by simp))); have K2 := Lib.hid ((hb2.block w.heap.size (by simp)).trans (World.alloc_heap_new w _)); clear hb2)
    go_wp2_with (go_at_call 69; refine (HT.out _ H2.out).mono ?_)
    rintro e w3 ⟨rfl, h3, f3⟩
    rw [wdV_eq]
    have H3 := Lib.hid h3
    have F3 := Lib.hid ((Fr.of_below B2.out (Nat.le_of_lt hR)).trans f3)
    have kk := f3.2 w.heap.size _ K2.out (by omega)
    obtain ⟨k0, k1, k2, k3⟩ := cells4 kk
    have kf := fun i => Lib.frozen_of_heap kk i
    have KK := Lib.hid kk
    clear kk h3 f3
    go_wp2
    exact bodyPost_ret (v := wdV y) (by simp [results, Tryz.results48, go_sem, wdV, k0, k1, k2, k3]) rfl ⟨rfl, H3.out.set4 hR KK.out (by decide), F3.out.set4 hR (Nat.le_refl _)⟩
end Go.Proofs.YtdooeghicdaakaaGreatDoor
