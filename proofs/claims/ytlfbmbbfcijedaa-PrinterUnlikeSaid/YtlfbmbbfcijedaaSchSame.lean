/- Whether two predicates, two contexts, two schemes are the same. -/
import Derived.Test.YtlfbmbbfcijedaaSchPlain
namespace Go.Proofs.Ytlfbmbbfcijedaa
open Go.RowKit
attribute [local go_sem] Oper.semAt_some

set_option maxHeartbeats 1000000 in
theorem samePred_any (q q' : Pr) (hf : Fits q.2) (a b : Option Addr) (c d : Nat) (w : World) (h : TysAt w (.slice a q.2.kids.length c) q.2.kids) (h' : TysAt w (.slice b q'.2.kids.length d) q'.2.kids) :
    Calls Try.prog 33 #[prV q (.slice a q.2.kids.length c), prV q' (.slice b q'.2.kids.length d)] w fun e w' => e = .returned (.bool (eqB q q')) ∧ Below w.heap.size w w' := by
  have HC := Lib.hid (fun (W : World) (k : KeepT w W) => sameType_any hf (h.keep k) (h'.keep k))
  have HZ := Lib.hid (fun o1 o2 : Obj => (keepT_alloc w o1).trans (keepT_alloc (w.alloc o1) o2))
  have HB := Lib.hid (fun o1 o2 : Obj => ((Below.refl _ w).alloc (Nat.le_refl _) o1).alloc (show w.heap.size ≤ (w.alloc o1).heap.size by simp) o2)
  obtain ⟨n, t⟩ := q
  obtain ⟨n', t'⟩ := q'
  have e1 := bytes_beq n n'
  clear hf h h'
  obtain ⟨res, hres⟩ : ∃ r, eqB (n, t) (n', t') = r := ⟨_, rfl⟩
  have HR := Lib.hid hres
  rw [hres]; clear hres
  simp only [tyV, prV] at HC ⊢
  by_cases hm : n = n'
  · rw [eqB_true hm] at e1
    have HM := Lib.hid hm; clear hm
    go_enter Try.func33, Try.ntmps33
    go_wp2_with (go_at_call 9; refine (HC.out _ (HZ.out _ _)).mono ?_)
    rintro e w2 ⟨rfl, hb2⟩
    have HB2 := Lib.hid hb2; clear hb2
    go_wp2
    go_ret
    refine ⟨?_, (HB.out _ _).trans (HB2.out.mono (by simp; omega))⟩
    rw [← HR.out]
    by_cases hq : t = t'
    · rw [eqB_true hq, eqB_true (show (n, t) = (n', t') by rw [HM.out, hq])]
      rfl
    · rw [eqB_false hq, eqB_false (fun e => hq (Prod.mk.inj e).2)]
      rfl
  · rw [eqB_false hm] at e1
    have hr : res = false := by rw [← HR.out]; exact eqB_false (fun e => hm (Prod.mk.inj e).1)
    subst hr
    clear HR hm
    go_enter Try.func33, Try.ntmps33
    go_wp2_with (first | fail)
    go_ret
    exact ⟨rfl, HB.out _ _⟩

set_option maxHeartbeats 600000 in
theorem samePreds_of (l l' : List Pr) (H : ∀ q ∈ l, Fits q.2) (a b : Option Addr) (c d : Nat) (w : World) (h : PrsAt w (.slice a l.length c) l) (h' : PrsAt w (.slice b l'.length d) l') (hn : l.length < 1152921504606846976) :
    Calls Try.prog 23 #[.slice a l.length c, .slice b l'.length d] w fun e w' => e = .returned (.bool (eqB l l')) ∧ Below w.heap.size w w' := by
  by_cases hl : l.length = l'.length
  · by_cases h0 : l = []
    · subst h0
      obtain rfl : l' = [] := List.length_eq_zero_iff.1 hl.symm
      rw [eqB_true rfl]
      clear h h' H
      go_enter Try.func23, Try.ntmps23
      go_wp2
      go_loopw [5] (fun vi wr => vi = .int .i64 0 ∧ Hid (Below w.heap.size w wr)) (fun _ _ => 0)
      case atStart => exact ⟨rfl, Lib.hid (Below.refl _ _)⟩
      case round =>
        obtain ⟨rfl, hB⟩ := hrel
        go_wp2
        go_ret
        exact ⟨rfl, hB.out⟩
    · have h0' : l' ≠ [] := by intro e; rw [e] at hl; exact h0 (List.length_eq_zero_iff.1 hl)
      obtain ⟨g1, c1, e1, hg1, hc1, r1⟩ := h.row h0
      obtain ⟨g2, c2, e2, hg2, hc2, r2⟩ := h'.row h0'
      cases e1; cases e2
      have HR1 := Lib.hid r1; clear r1
      have HR2 := Lib.hid r2; clear r2
      have HS := Lib.hid H; clear H
      obtain ⟨res, hres⟩ : ∃ r, eqB l l' = r := ⟨_, rfl⟩
      have HRes := Lib.hid hres
      rw [hres]; clear hres h h'
      rw [← hl] at hc2 ⊢
      have HL := Lib.hid hl; clear hl
      have hm : ((l.length : Int) != (l.length : Int)) = false := by simp
      go_enter Try.func23, Try.ntmps23
      go_wp2
      go_loopw [5] (fun vi wr => ∃ i : Nat, i ≤ l.length ∧ vi = .int .i64 i ∧ Hid (Below w.heap.size w wr) ∧ Hid (∀ j (h1 : j < l.length) (h2 : j < l'.length), j < i → l[j] = l'[j])) (fun vi _ => l.length - (intOf vi).toNat)
      case atStart => exact ⟨0, Nat.zero_le _, rfl, Lib.hid (Below.refl _ _), Lib.hid (fun j _ _ h => absurd h (by omega))⟩
      case round =>
        obtain ⟨i, hi, rfl, hB, hS⟩ := hrel
        by_cases hlt : i < l.length
        · have hlt' : i < l'.length := HL.out ▸ hlt
          obtain ⟨pa, ca, x0, x1, x2, x3, xk⟩ := HR1.out i hlt
          obtain ⟨pb, cb, y0, y1, y2, y3, yk⟩ := HR2.out i hlt'
          have f1 := fun o => hB.out.cell (p := ⟨g1, o, none⟩) hg1
          have f2 := fun o => hB.out.cell (p := ⟨g2, o, none⟩) hg2
          rw [← f1] at x0 x1 x2 x3; rw [← f2] at y0 y1 y2 y3
          have hcall := samePred_any l[i] l'[i] (HS.out l[i] (List.getElem_mem hlt)) pa pb ca cb
          have XK := Lib.hid xk; have YK := Lib.hid yk
          clear xk yk f1 f2
          have HE := Lib.hid (show l[i] = l[i] ∧ l'[i] = l'[i] from ⟨rfl, rfl⟩)
          obtain ⟨t, ht⟩ : ∃ t, l[i] = t := ⟨_, rfl⟩
          obtain ⟨u, hu⟩ : ∃ u, l'[i] = u := ⟨_, rfl⟩
          have HT := Lib.hid ht; have HU := Lib.hid hu
          rw [ht] at x0 x1 x2 x3 hcall XK
          rw [hu] at y0 y1 y2 y3 hcall YK
          simp only [prV] at hcall
          clear ht hu HE
          have HC := Lib.hid (fun W (k : KeepT w W) => hcall W (XK.out.keep k) (YK.out.keep k)); clear hcall
          have HK : Hid (KeepT w wr.drew) := Lib.hid (fun k cs fz h => KeepT.of_below hB.out k cs fz h)
          go_wp2
          by_cases hq : t = u
          · rw [eqB_true hq] at HC
            have HQ := Lib.hid hq; clear hq
            go_region_with (first
              | (go_at_call 33; refine (HC.out _ ?kk).mono ?_; (case kk => exact HK.out); rintro e w2 ⟨rfl, hb2⟩; have HB2 := Lib.hid hb2; clear hb2))
            all_goals go_wp2
            all_goals
              go_roundw
              case rel => exact ⟨i + 1, by omega, by go_num, Lib.hid (hB.out.drew.trans (HB2.out.mono hB.out.size)), Lib.hid (fun j h1 h2 hj => by
                by_cases hji : j = i
                · subst hji; rw [HT.out, HU.out]; exact HQ.out
                · exact hS.out j h1 h2 (by omega))⟩
              case measure => simp [intOf]; omega
          · rw [eqB_false hq] at HC
            have hres : res = false := by
              rw [← HRes.out]
              refine eqB_false fun e => hq ?_
              rw [← HT.out, ← HU.out]
              exact List.getElem_of_eq e hlt
            clear HT HU HRes hq
            subst hres
            go_region_with (first
              | (go_at_call 33; refine (HC.out _ ?kk).mono ?_; (case kk => exact HK.out); rintro e w2 ⟨rfl, hb2⟩; have HB2 := Lib.hid hb2; clear hb2))
            all_goals go_wp2
            all_goals go_ret
            all_goals exact ⟨rfl, hB.out.drew.trans (HB2.out.mono hB.out.size)⟩
        · obtain rfl : i = l.length := by omega
          have hres : res = true := by
            rw [← HRes.out]
            exact eqB_true (List.ext_getElem HL.out (fun j h1 h2 => hS.out j h1 h2 h1))
          clear HRes
          subst hres
          go_wp2
          go_ret
          exact ⟨rfl, hB.out⟩
  · have hm : ((l.length : Int) != (l'.length : Int)) = true := by simp; omega
    rw [eqB_false (fun e => hl (by rw [e]))]
    clear h h' H
    go_enter Try.func23, Try.ntmps23
    go_wp2
    go_ret
    exact ⟨rfl, Below.refl _ _⟩

theorem alloc_second (w : World) (o1 o2 : Obj) : ((w.alloc o1).alloc o2).heap[w.heap.size + 1]? = some o2 := by
  have := alloc_new (w.alloc o1) o2
  simpa only [World.size_alloc] using this

set_option maxHeartbeats 1000000 in
theorem sameTexts_nil (a b : Option Addr) (c d : Nat) (w : World) : Calls Try.prog 22 #[.slice a 0 c, .slice b 0 d] w fun e w' => e = .returned (.bool true) ∧ Below w.heap.size w w' := by
  go_enter Try.func22, Try.ntmps22
  go_wp2
  go_loopw [5] (fun vi wr => vi = .int .i64 0 ∧ Hid (Below w.heap.size w wr)) (fun _ _ => 0)
  case atStart => exact ⟨rfl, Lib.hid (Below.refl _ _)⟩
  case round =>
    obtain ⟨rfl, hB⟩ := hrel
    go_wp2
    go_ret
    exact ⟨rfl, hB.out⟩

set_option maxHeartbeats 2000000 in
theorem sameScheme_any (l l' : List Pr) (t t' : T) (hl : ∀ q ∈ l, Fits q.2) (ht : Fits t) (hn : l.length < 1152921504606846976) (a0 b0 : Option Addr) (c0 d0 : Nat) (cv cv' v v' : Value) (w : World) (h : PrsAt w cv l) (h' : PrsAt w cv' l') (k : TysAt w v t.kids) (k' : TysAt w v' t'.kids) :
    Calls Try.prog 11 #[schV (.slice a0 0 c0) cv t v, schV (.slice b0 0 d0) cv' t' v'] w fun e w' => e = .returned (.bool (eqB (l, t) (l', t'))) ∧ Below w.heap.size w w' := by
  obtain ⟨a1, c1, rfl⟩ := h.shape
  obtain ⟨b1, d1, rfl⟩ := h'.shape
  obtain ⟨a2, c2, rfl⟩ := k.shape
  obtain ⟨b2, d2, rfl⟩ := k'.shape
  have HP := Lib.hid (fun (W : World) (kk : Below w.heap.size w W) => samePreds_of l l' hl a1 b1 c1 d1 W (h.keep (KeepT.of_below kk) (KeepP.of_below kk)) (h'.keep (KeepT.of_below kk) (KeepP.of_below kk)) hn)
  have HC := Lib.hid (fun (W : World) (kk : Below w.heap.size w W) => sameType_any ht (k.keep (KeepT.of_below kk)) (k'.keep (KeepT.of_below kk)))
  have HB := Lib.hid (fun o1 o2 : Obj => ((Below.refl _ w).alloc (Nat.le_refl _) o1).alloc (show w.heap.size ≤ (w.alloc o1).heap.size by simp) o2)
  clear hl ht hn h h' k k'
  obtain ⟨res, hres⟩ : ∃ r, eqB (l, t) (l', t') = r := ⟨_, rfl⟩
  have HR := Lib.hid hres
  rw [hres]; clear hres
  simp only [tyV, schV] at HC ⊢
  go_enter Try.func11, Try.ntmps11
  go_wp2_with (go_at_call 22; refine (sameTexts_nil _ _ _ _ _).mono ?_)
  rintro e w2 ⟨rfl, hb2⟩
  have HB2 := Lib.hid ((HB.out _ _).trans (hb2.mono (by simp; omega)))
  obtain ⟨x0, x1, x2, x3, x4⟩ := five_cells ((hb2.block w.heap.size (by simp; omega)).trans ((Below.heap_alloc _ _ _ (by simp)).trans (alloc_new w _)))
  have hy := (hb2.block (w.heap.size + 1) (by simp)).trans (alloc_second w _ _)
  obtain ⟨y0, y1, y2, y3, y4⟩ := five_cells hy
  have HX := Lib.hid ((hb2.block w.heap.size (by simp; omega)).trans ((Below.heap_alloc _ _ _ (by simp)).trans (alloc_new w _)))
  have HY := Lib.hid hy
  have hl2 : w.heap.size + 1 < w2.heap.size := (Array.getElem?_eq_some_iff.1 hy).1
  clear hb2 hy
  go_wp2_with (go_at_call 23; refine (HP.out _ HB2.out).mono ?_)
  rintro e w3 ⟨rfl, hb3⟩
  have HB3 := Lib.hid (HB2.out.trans (hb3.mono HB2.out.size))
  obtain ⟨p0, p1, p2, p3, p4⟩ := five_cells ((hb3.block w.heap.size (by omega)).trans HX.out)
  obtain ⟨q0, q1, q2, q3, q4⟩ := five_cells ((hb3.block (w.heap.size + 1) (by omega)).trans HY.out)
  clear hb3
  by_cases hq : l = l'
  · rw [eqB_true hq]
    have HQ := Lib.hid hq; clear hq
    go_wp2_with (go_at_call 9; refine (HC.out _ HB3.out).mono ?_)
    rintro e w4 ⟨rfl, hb4⟩
    have HB4 := Lib.hid (HB3.out.trans (hb4.mono HB3.out.size))
    clear hb4
    go_wp2
    go_ret
    refine ⟨?_, HB4.out⟩
    rw [← HR.out]
    by_cases hq : t = t'
    · rw [eqB_true hq, eqB_true (show (l, t) = (l', t') by rw [HQ.out, hq])]
      rfl
    · rw [eqB_false hq, eqB_false (fun e => hq (Prod.mk.inj e).2)]
      rfl
  · rw [eqB_false hq]
    have hr : res = false := by rw [← HR.out]; exact eqB_false (fun e => hq (Prod.mk.inj e).1)
    subst hr
    clear HR hq
    go_wp2_with (first | fail)
    go_ret
    exact ⟨rfl, HB3.out⟩
end Go.Proofs.Ytlfbmbbfcijedaa
