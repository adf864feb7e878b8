/- SubstThen, walked. -/
import Derived.Test.YtmbaolcdjgilpaaSbThenB
import Derived.Test.YtmbaolcdjgilpaaSbThenR1
import Derived.Test.YtmbaolcdjgilpaaSbThenR2
import Derived.Test.YtmbaolcdjgilpaaSbThenR3
namespace Go.Proofs.Ytmbaolcdjgilpaa
open Go.RowKit Go.Sort Go.Lib
attribute [local go_sem] Oper.semAt_some

set_option maxRecDepth 100000 in
set_option maxHeartbeats 8000000 in
theorem then_law (a1 : Option Addr) (n1 c1 : Nat) (w : World) (hl1 : IntsAt w.heap.size a1 n1 w) :
    Calls Try.prog 5 #[.slice a1 n1 c1] w fun e w' => e = .returned (.bool true) ∧ Below w.heap.size w w' := by
  have HL1 := Lib.hid hl1
  clear hl1
  by_cases hb1 : n1 ≤ 150
  · have hn1 : n1 < 1152921504606846976 := by omega
    have hb1I : ¬ ((150 : Int) < (n1 : Int)) := by omega
    go_enter Try.func5, Try.ntmps5
    go_wp2_with (go_at_call 7; refine (first_any _).mono ?_)
    rintro e w1 rfl hw1
    have HB1 := Lib.hid hw1; clear hw1
    go_wp2_with (go_at_call 8; refine (pairs_gp _ _ _ _ _ _ _ (seq_new HB1.out HL1.out) (by decide) hn1).mono ?_)
    rintro e w2 ⟨⟨vA, uA, dA, rfl, hA⟩, ⟨k1, hk1, hs1⟩, hf1⟩
    have HB2 := Lib.hid ((HB1.out.alloc HB1.out.size _).trans hf1.1)
    have HA := Lib.hid hA; have HS1 := Lib.hid hs1
    clear hA hs1 hf1 HB1 HL1
    go_wp2_with (go_at_call 8; refine (pairs_gp _ _ _ _ _ _ _ HS1.out (by omega) hn1).mono ?_)
    rintro e w3 ⟨⟨vB, uB, dB, rfl, hB⟩, ⟨k2, hk2, hs2⟩, hf2⟩
    have HA3 := Lib.hid (HA.out.mk hf2 HS1.out); have HB := Lib.hid hB; have HS2 := Lib.hid hs2; have HB3 := Lib.hid (HB2.out.trans hf2.1)
    clear hB hs2 hf2 HA HS1 HB2
    go_wp2_with (go_at_call 8; refine (pairs_gp _ _ _ _ _ _ _ HS2.out (by omega) hn1).mono ?_)
    rintro e w4 ⟨⟨vC, uC, dC, rfl, hC⟩, ⟨k3, hk3, hs3⟩, hf3⟩
    have HA4 := Lib.hid (HA3.out.mk hf3 HS2.out); have HP4 := Lib.hid (HB.out.mk hf3 HS2.out); have HC := Lib.hid hC; have HS3 := Lib.hid hs3; have HB4 := Lib.hid (HB3.out.trans hf3.1)
    clear hC hs3 hf3 HA3 HB HS2 HB3
    go_wp2_with (go_at_call 9; refine (make_type3 _ _ _ _ _ _ _ HS3.out (by omega) hn1).mono ?_)
    rintro e w5 ⟨⟨t, u, rfl, hg, hu⟩, _, hf4⟩
    obtain ⟨pa, ca, rfl⟩ := hu.shape
    have HA5 := Lib.hid (HA4.out.mk hf4 HS3.out); have HP5 := Lib.hid (HP4.out.mk hf4 HS3.out); have HC5 := Lib.hid (HC.out.mk hf4 HS3.out); have HB5 := Lib.hid (HB4.out.trans hf4.1)
    have HT := Lib.hid hu
    have hts : tsize t ≤ 112 := by have := size_text t hg.1; have := hg.2.2; omega
    clear hu hf4 hg HA4 HP4 HC HB4 HS3
    simp only [tyV]
    go_wp2_with (go_at_call 11; refine (thl_one w w5 t pa ca vA vB vC dA dB dC HB5.out HT.out HA5.out HP5.out HC5.out).mono ?_)
    rintro e w6 ⟨⟨sx, lx, rfl, hsx, hbx⟩, h1, ⟨h2, h3⟩, h4⟩
    obtain ⟨xa, xc, rfl⟩ := hsx.shape
    have HX := Lib.hid hsx; have HBX := Lib.hid hbx; have H1 := Lib.hid h1; have HP6 := Lib.hid h2; have HC6 := Lib.hid h3; have HB6 := Lib.hid h4
    clear hsx hbx h1 h2 h3 h4 HA5 HP5 HC5 HB5 HT
    generalize w5.heap.size = b11 at *
    go_wp2_with (go_at_call 11; refine (thl_two w w6 b11 t pa ca _ lx vB vC dB dC HB6.out H1.out HX.out HP6.out HC6.out).mono ?_)
    rintro e w7 ⟨⟨sy, ly, rfl, hsy, hby⟩, ⟨h1, h2⟩, h3, h4⟩
    obtain ⟨ya, yc, rfl⟩ := hsy.shape
    have HY := Lib.hid hsy; have HBY := Lib.hid hby; have H17 := Lib.hid h1; have H27 := Lib.hid h2; have HC7 := Lib.hid h3; have HB7 := Lib.hid h4
    clear hsy hby h1 h2 h3 h4 HP6 HC6 HB6 HX H1
    generalize w6.heap.size = b12 at *
    go_wp2_with (go_at_call 11; refine (thl_three w w7 b11 b12 t pa ca _ _ lx ly vC dC HB7.out H17.out H27.out HY.out HC7.out).mono ?_)
    rintro e w8 ⟨⟨sz, lz, rfl, hsz, hbz⟩, ⟨h1, h2, h3⟩, h4⟩
    obtain ⟨za, zc, rfl⟩ := hsz.shape
    have HZ := Lib.hid hsz; have HBZ := Lib.hid hbz; have H18 := Lib.hid h1; have H28 := Lib.hid h2; have H38 := Lib.hid h3; have HB8 := Lib.hid h4
    clear hsz hbz h1 h2 h3 h4 HC7 HB7 HY H17 H27
    generalize w7.heap.size = b13 at *
    go_wp2_with fail
    have e1 := size_le lx 56 (by decide) HBX.out.2.1 t
    have e2 := size_le ly 56 (by decide) HBY.out.2.1 (app lx t)
    have e3 := size_le lz 56 (by decide) HBZ.out.2.1 (app ly (app lx t))
    have s1 : tsize (app lx t) ≤ 1000000000 := by omega
    have s2 : tsize (app ly (app lx t)) ≤ 1000000000 := by omega
    have s3 : tsize (app lz (app ly (app lx t))) ≤ 1000000000 := by omega
    have s0 : tsize t ≤ 1000000000 := by omega
    have HS := Lib.hid (thl_start w w8 b11 b12 b13 t pa ca (.slice xa lx.length xc) (.slice ya ly.length yc) (.slice za lz.length zc) lx ly lz HB8.out H18.out H28.out H38.out HZ.out)
    clear H18 H28 H38 HB8 HZ
    refine tha_here (w := w) (b11 := b11) (b12 := b12) (b13 := b13) (b14 := w8.heap.size) (b15 := w8.heap.size + 1) (t := t) (pa := pa) (ca := ca) (sx := .slice xa lx.length xc) (sy := .slice ya ly.length yc) (sz := .slice za lz.length zc) (lx := lx) (ly := ly) (lz := lz)
      (fun V h => then_ret (M1 := 56) (M2 := 56) h.2.1.1.1.2 h.2.1.1.2.2 HBX.out HBY.out (by decide) (by decide) (by decide) (by decide) (by decide) (by decide))
      (fun V h _ _ k => then_ret (M1 := 3136) (M2 := 56) k.1 h.2.1.2.1.2 k.2 HBZ.out (by decide) (by decide) (by decide) (by decide) (by decide) (by decide))
      (fun V h _ _ k => app_ret k.1 k.2 (by decide) (by decide) s0 rfl h.1.2)
      _ (by kernel_rfl) (by kernel_rfl) (by kernel_rfl) (by kernel_rfl) (by kernel_rfl) (by kernel_rfl) HS.out ?_
    intro x V b16 p1 c1 hx hV hp
    have HS16 := Lib.hid (And.intro hV hp)
    clear HS hV hp
    simp only [thaFr, hx]
    simp only [Array.getD_eq_getD_getElem?, List.getElem?_toArray, List.getElem?_cons_succ, List.getElem?_cons_zero, Option.getD_some]
    go_wp2_with fail
    refine thb_here (w := w) (b11 := b11) (b12 := b12) (b13 := b13) (b14 := w8.heap.size) (b15 := w8.heap.size + 1) (t := t) (pa := pa) (ca := ca) (sx := .slice xa lx.length xc) (sy := .slice ya ly.length yc) (sz := .slice za lz.length zc) (lx := lx) (ly := ly) (lz := lz) (b16 := b16) (p1 := p1) (c1 := c1)
      (fun V h => then_ret (M1 := 56) (M2 := 56) h.1.2.1.1.2.2 h.1.2.1.2.1.2 HBY.out HBZ.out (by decide) (by decide) (by decide) (by decide) (by decide) (by decide))
      (fun V h _ _ k => then_ret (M1 := 56) (M2 := 3136) h.1.2.1.1.1.2 k.1 HBX.out k.2 (by decide) (by decide) (by decide) (by decide) (by decide) (by decide))
      (fun V h _ _ k => app_ret k.1 k.2 (by decide) (by decide) s0 rfl h.1.1.2)
      _ (by kernel_rfl) (by kernel_rfl) (by kernel_rfl) (by kernel_rfl) (by kernel_rfl) (by kernel_rfl) ⟨HS16.out.1.below (below_d _), HS16.out.2.below (below_d _)⟩ ?_
    intro x V b17 p2 c2 hx hV hp
    have HS17 := Lib.hid (show _ ∧ _ ∧ _ from ⟨hV.1, hV.2, hp⟩)
    clear HS16 hV hp
    simp only [thbFr, hx]
    simp only [Array.getD_eq_getD_getElem?, List.getElem?_toArray, List.getElem?_cons_succ, List.getElem?_cons_zero, Option.getD_some]
    go_wp2_with fail
    refine thc_here (w := w) (b11 := b11) (b12 := b12) (b13 := b13) (b14 := w8.heap.size) (b15 := w8.heap.size + 1) (t := t) (pa := pa) (ca := ca) (sx := .slice xa lx.length xc) (sy := .slice ya ly.length yc) (sz := .slice za lz.length zc) (lx := lx) (ly := ly) (lz := lz) (b16 := b16) (p1 := p1) (c1 := c1) (b17 := b17) (p2 := p2) (c2 := c2)
      (fun V h => same_ret s3 h.2.1.2 h.2.2.2)
      (fun V h => app_ret h.1.2.1.1.1.2 HBX.out (by decide) (by decide) s0 rfl h.1.1.2)
      (fun V h _ _ k => app_ret h.1.2.1.1.2.2 HBY.out (by decide) (by decide) s1 rfl k)
      (fun V h _ _ k => app_ret h.1.2.1.2.1.2 HBZ.out (by decide) (by decide) s2 rfl k)
      (fun V h _ _ k => same_ret s3 h.2.1.2 k)
      (fun V h => then_ret (M1 := 56) (M2 := 1) h.1.2.1.1.1.2 h.1.2.1.2.2.2 HBX.out sb_nil (by decide) (by decide) (by decide) (by decide) (by decide) (by decide))
      (fun V h _ _ k => app_ret k.1 k.2 (by decide) (by decide) s0 rfl h.1.1.2)
      (fun V h => app_ret h.1.2.1.1.1.2 HBX.out (by decide) (by decide) s0 rfl h.1.1.2)
      (fun V h _ _ k _ _ k' => same_ret s1 k k')
      (fun V h => then_ret (M1 := 1) (M2 := 56) h.1.2.1.2.2.2 h.1.2.1.1.1.2 sb_nil HBX.out (by decide) (by decide) (by decide) (by decide) (by decide) (by decide))
      (fun V h _ _ k => app_ret k.1 k.2 (by decide) (by decide) s0 rfl h.1.1.2)
      (fun V h => app_ret h.1.2.1.1.1.2 HBX.out (by decide) (by decide) s0 rfl h.1.1.2)
      (fun V h _ _ k _ _ k' => same_ret s1 k k')
      _ (by kernel_rfl) (by kernel_rfl) (by kernel_rfl) (by kernel_rfl) (by kernel_rfl) (by kernel_rfl) (by kernel_rfl) (by kernel_rfl) (by kernel_rfl) (by kernel_rfl) ⟨HS17.out.1.below (below_d _), HS17.out.2.1.below (below_d _), HS17.out.2.2.below (below_d _)⟩ ?_
    intro x V hV hx
    simp only [thcFr, hx]
    simp only [Array.getD_eq_getD_getElem?, List.getElem?_toArray, List.getElem?_cons_succ, List.getElem?_cons_zero, Option.getD_some]
    go_wp2
    go_ret
    exact ⟨rfl, hV.1.2.2⟩
  · have hb1I : ((150 : Int) < (n1 : Int)) := by omega
    go_enter Try.func5, Try.ntmps5
    go_wp2_with (go_at_call 7; refine (first_any _).mono ?_)
    rintro e w1 ⟨rfl, hw1⟩
    have HB1 := Lib.hid hw1; clear hw1
    go_wp2
    all_goals go_ret
    all_goals exact ⟨rfl, HB1.out⟩
end Go.Proofs.Ytmbaolcdjgilpaa
