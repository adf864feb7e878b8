/- Merged: UfMostL. -/
import Derived.Test.YthpphjkoiipkkaaDoorUn1
import Derived.Test.YthpphjkoiipkkaaDoorUm21
import Derived.Test.YthpphjkoiipkkaaDoorUn2
import Derived.Test.YthpphjkoiipkkaaDoorUm20
/- UnifyMost, walked. -/
namespace Go.Proofs.YthpphjkoiipkkaaDoor
open Go.RowKit Go.Sort Go.Lib
attribute [local go_sem] Oper.semAt_some

/-- What the law has made so far. -/
structure MSt (B b8 q9 q10 : Nat) (t : T) (pa : Option Addr) (ca : Nat) (a2 : Option Addr) (n2 c2 k2 : Nat) (a3 : Option Addr) (n3 c3 k3 : Nat) (w V : World) : Prop where
  x8 : BoxT b8 t pa ca V
  s9 : SeqAt B q9 a2 n2 c2 k2 V
  s10 : SeqAt B q10 a3 n3 c3 k3 V
  low : Below B w V
  ne : b8 ≠ q9 ∧ b8 ≠ q10 ∧ q9 ≠ q10
section
variable {B b8 q9 q10 : Nat} {t : T} {pa : Option Addr} {ca : Nat} {a2 : Option Addr} {n2 c2 k2 k2' : Nat} {a3 : Option Addr} {n3 c3 k3 k3' : Nat} {w V W : World}
theorem SeqAt.byMk {p : Nat} {a : Option Addr} {n c k : Nat} (h : SeqAt B q9 a n c k V) (hf : MkFr B p V W) (hne : q9 ≠ p) : SeqAt B q9 a n c k W := ⟨⟨h.1.1, hf.2 _ _ h.1.2 hne⟩, h.2.keep hf.1⟩
theorem MSt.mk9 (h : MSt B b8 q9 q10 t pa ca a2 n2 c2 k2 a3 n3 c3 k3 w V) (hf : MkFr B q9 V W) (hs : SeqAt B q9 a2 n2 c2 k2' W) : MSt B b8 q9 q10 t pa ca a2 n2 c2 k2' a3 n3 c3 k3 w W :=
  ⟨h.x8.byMk hf h.s9 h.ne.1, hs, h.s10.byMk hf (Ne.symm h.ne.2.2), h.low.trans hf.1, h.ne⟩
theorem MSt.mk10 (h : MSt B b8 q9 q10 t pa ca a2 n2 c2 k2 a3 n3 c3 k3 w V) (hf : MkFr B q10 V W) (hs : SeqAt B q10 a3 n3 c3 k3' W) : MSt B b8 q9 q10 t pa ca a2 n2 c2 k2 a3 n3 c3 k3' w W :=
  ⟨h.x8.byMk hf h.s10 h.ne.2.1, h.s9.byMk hf h.ne.2.2, hs, h.low.trans hf.1, h.ne⟩
theorem MSt.below (h : MSt B b8 q9 q10 t pa ca a2 n2 c2 k2 a3 n3 c3 k3 w V) (hb : Below V.heap.size V W) : MSt B b8 q9 q10 t pa ca a2 n2 c2 k2 a3 n3 c3 k3 w W :=
  ⟨h.x8.below hb, h.s9.below hb, h.s10.below hb, h.low.trans (hb.mono (by have := h.s9.1.1; have := h.s9.lt; omega)), h.ne⟩
theorem MSt.b8lt (h : MSt B b8 q9 q10 t pa ca a2 n2 c2 k2 a3 n3 c3 k3 w V) : b8 < V.heap.size := h.x8.lt
end
/-- The variables of the law. -/
def V4 : List ByteArray := [nA, nB, nC, nH]
theorem v3_v4 {x : ByteArray} (h : x ∈ V3) : x ∈ V4 ∧ x ≠ nH := by
  simp only [V3, List.mem_cons, List.not_mem_nil, or_false] at h
  rcases h with rfl | rfl | rfl
  · exact ⟨by simp [V4, nA], by decide⟩
  · exact ⟨by simp [V4, nB], by decide⟩
  · exact ⟨by simp [V4, nC], by decide⟩
/-- What makes both one. -/
theorem most_pure {t u v : T} {d : List PR} (hg : T.Good t) (ht : tsize t ≤ 60) (hd : ∀ n ∈ V3, tsize (ty n d) ≤ 23) (hu : app d t = u) (hh : Holed u v) (hus : tsize u ≤ 2000) :
    ∃ θ : Sg, ∃ hz : ∀ x ∈ V4, tsize (θ x) ≤ 900000000, ∃ hn : ∀ x ∈ V4, x.size ≤ 1000, (usetG V4 θ hz hn).O t ∧ (usetG V4 θ hz hn).O v ∧ (usetG V4 θ hz hn).P t v ∧ sub θ t = u := by
  obtain ⟨s, h1, h2, h3, h4, h5, h6⟩ := hh
  have e1 : sub (fun n => if n = nH then s else ty n d) t = u := by
    rw [← hu, app_sub]
    refine sub_ext t fun n hn => ?_
    exact if_neg (v3_v4 (good_in t hg n hn)).2
  have e2 : sub (fun n => if n = nH then s else ty n d) v = u := by
    rw [← h1]
    refine sub_ext v fun n hn => ?_
    rw [h2 n hn, one_at]; exact if_pos rfl
  refine ⟨_, fun x hx => ?_, ?_, ⟨fun n hn => (v3_v4 (good_in t hg n hn)).1, good_plain t hg, ?_, ?_⟩, ⟨fun n hn => ?_, h6, ?_, ?_⟩, e1.trans e2.symm, e1⟩
  · by_cases e : x = nH
    · simp only [if_pos e]; omega
    · simp only [if_neg e]
      have : x ∈ V3 := by
        simp only [V4, List.mem_cons, List.not_mem_nil, or_false] at hx
        rcases hx with rfl | rfl | rfl | rfl
        · simp [V3, nA]
        · simp [V3, nB]
        · simp [V3, nC]
        · exact absurd rfl e
      have := hd x this; omega
  · decide
  · rw [e1]; omega
  · omega
  · rw [h2 n hn]; simp [V4]
  · rw [e2]; omega
  · have := size_sub_ge (σ := one nH s) v
    rw [h1] at this; omega
set_option maxRecDepth 100000 in
set_option maxHeartbeats 8000000 in
theorem most_law (aT aO : Addr) (a1 a2 a3 : Option Addr) (n1 n2 n3 c1 c2 c3 : Nat) (w : World) (hE : TwoE aT aO w) (hl1 : IntsAt w.heap.size a1 n1 w) (hl2 : IntsAt w.heap.size a2 n2 w) (hl3 : IntsAt w.heap.size a3 n3 w) :
    Calls Tryd.prog 5 #[.slice a1 n1 c1, .slice a2 n2 c2, .slice a3 n3 c3] w fun e w' => e = .returned (.bool true) ∧ Below w.heap.size w w' := by
  have HL1 := Lib.hid hl1; have HL2 := Lib.hid hl2; have HL3 := Lib.hid hl3; have HE := Lib.hid hE
  have HF := Lib.hid (first_uni puni_ok aT aO w hE)
  clear hl1 hl2 hl3 hE
  by_cases hb1 : n1 ≤ 60
  · have hb1I : ¬ ((60 : Int) < (n1 : Int)) := by omega
    by_cases hb2 : n2 ≤ 60
    · have hb2I : ¬ ((60 : Int) < (n2 : Int)) := by omega
      by_cases hb3 : n3 ≤ 60
      · have hb3I : ¬ ((60 : Int) < (n3 : Int)) := by omega
        have hn1 : n1 < 1152921504606846976 := by omega
        go_enter Tryd.func5, Tryd.ntmps5
        go_wp2_with (go_at_call 8; refine HF.out.mono ?_; rintro e w1 ⟨rfl, h1⟩; have HB1 := Lib.hid h1; clear h1 HF)
        refine (make_n3 _ _ _ _ _ _ _ (seq_new HB1.out HL1.out) (by decide) hn1).mono ?_
        rintro e W1 ⟨⟨t, u, rfl, hg, hu⟩, _, hf⟩
        obtain ⟨pa, ca, rfl⟩ := hu.shape
        have HB2 := Lib.hid ((HB1.out.alloc HB1.out.size _).trans hf.1)
        have HT := Lib.hid hu.tys; have HG := Lib.hid hg
        clear hu hf hg HB1 HL1
        simp only [tyV]
        have hM2 : MSt w.heap.size W1.heap.size (W1.heap.size + 1) (W1.heap.size + 1 + 1) t pa ca a2 n2 c2 0 a3 n3 c3 0 w (((W1.alloc (.cells #[.int .i64 t.kind, .string t.name, .slice pa t.kids.length ca] 29)).alloc (.cells #[.slice a2 n2 c2, .int .i64 0] 26)).alloc (.cells #[.slice a3 n3 c3, .int .i64 0] 26)) := by
          have h1 := (HB2.out.alloc HB2.out.size (.cells #[.int .i64 t.kind, .string t.name, .slice pa t.kids.length ca] 29))
          have h2 := h1.alloc h1.size (.cells #[.slice a2 n2 c2, .int .i64 0] 26)
          have q1 := seq_new (c := c2) h1 HL2.out
          have q2 := seq_new (c := c3) h2 HL3.out
          simp only [World.size_alloc] at q1 q2
          exact ⟨((BoxT.new HT.out).alloc _).alloc _, q1.below ((Below.refl _ _).alloc (Nat.le_refl _) _), q2, h2.alloc h2.size _, by omega, by omega, by omega⟩
        have HM2 := Lib.hid hM2
        clear hM2 HB2 HT HL2 HL3
        go_wp2_with (go_at_call 18; refine (closed_any _ _ _ _ _ _ _ HM2.out.s9 (by omega) (by omega)).mono ?_; rintro e X3 ⟨⟨x, xa, xc, rfl, hx, hxt⟩, ⟨k1, hk1, hs1⟩, hf1⟩; have HM3 := Lib.hid (HM2.out.mk9 hf1 hs1); have HX := Lib.hid hx; have HXt := Lib.hid hxt; clear hf1 hs1 hx hxt HM2)
        generalize W1.heap.size = bt at *
        generalize w1.heap.size = q1 at *
        refine (closed_any _ _ _ _ _ _ _ HM3.out.s9 (by omega) (by omega)).mono ?_
        rintro e V5 ⟨⟨y, ya, yc, rfl, hy, hyt⟩, ⟨k2, hk2, hs2⟩, hf2⟩
        have HM4 := Lib.hid (HM3.out.mk9 hf2 hs2); have HY := Lib.hid hy; have HYt := Lib.hid hyt; have HXt4 := Lib.hid (HXt.out.keep (KeepT.of_mk hf2 HM3.out.s9))
        clear hf2 hs2 hy hyt HM3 HXt
        go_wp2_with (go_at_call 18; refine (closed_any _ _ _ _ _ _ _ HM4.out.s9 (by omega) (by omega)).mono ?_; rintro e V6 ⟨⟨z, za, zc, rfl, hz, hzt⟩, ⟨k3, hk3, hs3⟩, hf3⟩; have HM5 := Lib.hid (HM4.out.mk9 hf3 hs3); have HZ := Lib.hid hz; have HZt := Lib.hid hzt; have HXt5 := Lib.hid (HXt4.out.keep (KeepT.of_mk hf3 HM4.out.s9)); have HYt5 := Lib.hid (HYt.out.keep (KeepT.of_mk hf3 HM4.out.s9)); clear hf3 hs3 hz hzt HM4 HXt4 HYt; obtain ⟨e0, e1, e2⟩ := HM5.out.x8.cells; have l8 := HM5.out.b8lt)
        have hM7 := HM5.out.below (below_a V6 (.cells #[.string ⟨#[97]⟩, .int .i64 x.kind, .string x.name, .slice xa x.kids.length xc, .string ⟨#[98]⟩, .int .i64 y.kind, .string y.name, .slice ya y.kids.length yc, .string ⟨#[99]⟩, .int .i64 z.kind, .string z.name, .slice za z.kids.length zc] 53))
        have hg3 : GivenG 53 (.slice (some ⟨V6.heap.size, 0, none⟩) 3 3) (three x y z xa ya za xc yc zc) _ := givenG_three ⟨nA, x, xa, xc⟩ ⟨nB, y, ya, yc⟩ ⟨nC, z, za, zc⟩ (alloc_new V6 _)
        have hk7 := KeepT.of_below (below_a V6 (.cells #[.string ⟨#[97]⟩, .int .i64 x.kind, .string x.name, .slice xa x.kids.length xc, .string ⟨#[98]⟩, .int .i64 y.kind, .string y.name, .slice ya y.kids.length yc, .string ⟨#[99]⟩, .int .i64 z.kind, .string z.name, .slice za z.kids.length zc] 53))
        have ht3 : Typ (three x y z xa ya za xc yc zc) _ := fun p hp => by
          simp only [three, List.mem_cons, List.not_mem_nil, or_false] at hp
          rcases hp with rfl | rfl | rfl
          · exact HXt5.out.keep hk7
          · exact HYt5.out.keep hk7
          · exact HZt.out.keep hk7
        have htz : tsize t ≤ 51 := by have := tsize2_text t HG.out.1; have := HG.out.2.2; omega
        have hgd := HG.out.1
        refine (rapp_big (by simp [three]) hg3 ht3 hM7.x8.2 (by omega)).mono ?_
        rintro e W8 ⟨⟨ua, uc, rfl, hut⟩, hb8⟩
        have hM8 := hM7.below hb8
        have hus := three_shut (ax := xa) (ay := ya) (az := za) (cx := xc) (cy := yc) (cz := zc) HX.out.1 HY.out.1 HZ.out.1 hgd
        have hup := three_plain (ax := xa) (ay := ya) (az := za) (cx := xc) (cy := yc) (cz := zc) HX.out.2.1 HY.out.2.1 HZ.out.2.1 hgd
        have huz := three_size (ax := xa) (ay := ya) (az := za) (cx := xc) (cy := yc) (cz := zc) (M := 23) (by decide) HX.out.2.2 HY.out.2.2 HZ.out.2.2 hgd
        have hdz : ∀ n ∈ V3, tsize (ty n (three x y z xa ya za xc yc zc)) ≤ 23 := fun n hn => by
          simp only [V3, List.mem_cons, List.not_mem_nil, or_false] at hn
          rcases hn with rfl | rfl | rfl
          · exact Nat.le_trans (Nat.le_of_eq (congrArg tsize (three_a x y z xa ya za xc yc zc))) HX.out.2.2
          · exact Nat.le_trans (Nat.le_of_eq (congrArg tsize (three_b x y z xa ya za xc yc zc))) HY.out.2.2
          · exact Nat.le_trans (Nat.le_of_eq (congrArg tsize (three_c x y z xa ya za xc yc zc))) HZ.out.2.2
        have HDz := Lib.hid hdz
        clear hdz hg3 ht3 hk7 hM7 HXt5 HYt5 HZt HX HY HZ
        obtain ⟨d, hd⟩ : ∃ d, three x y z xa ya za xc yc zc = d := ⟨_, rfl⟩
        rw [hd] at hut hus hup huz HDz ⊢
        clear hd
        obtain ⟨u, hu⟩ : ∃ u, app d t = u := ⟨_, rfl⟩
        rw [hu] at hut hus hup huz ⊢
        have huz2 : tsize u ≤ 2000 := by omega
        have hX12 := BoxT.new hut
        have hM9 := hM8.below (below_a W8 (.cells #[.int .i64 u.kind, .string u.name, .slice ua u.kids.length uc] 29))
        have hq10 := hM8.s10.lt
        have HH := Lib.hid (hole_ok u hus hup huz2 _ _ a3 n3 c3 0 _ ua uc (fun j => j < (W8.alloc (.cells #[.int .i64 u.kind, .string u.name, .slice ua u.kids.length uc] 29)).heap.size) hM9.s10 (by omega) (by omega) (fun j h => h) (hX12.2.inside (fun k _ _ hk => (Array.getElem?_eq_some_iff.1 hk).1)))
        have HX12 := Lib.hid hX12; have HM9 := Lib.hid hM9; have HU := Lib.hid hu
        clear hM8 hb8 hut hX12 hM9 hus hup huz hu e0 e1 e2 l8 HM5
        go_wp2_with (go_at_call 19; refine HH.out.mono ?_; rintro e W10 ⟨⟨v, va, vc, rfl, hh, hvt⟩, ⟨k9, hk9, hs9⟩, hf9⟩; have HM10 := Lib.hid (HM9.out.mk10 hf9 hs9); have HX12b := Lib.hid (HX12.out.byMk hf9 HM9.out.s10 (by omega)); have HHh := Lib.hid hh; have HVt := Lib.hid hvt.tys; clear hh hvt hs9 hf9 HM9 HX12 HH; obtain ⟨e0, e1, e2⟩ := HM10.out.x8.cells; have l8 := HM10.out.b8lt)
        have hvs : tsize v ≤ 2000 := by
          obtain ⟨s, h1, _⟩ := HHh.out
          have := size_sub_ge (σ := one nH s) v
          rw [h1] at this; omega
        obtain ⟨θ, hzz, hnn, ot, ov, hP, hθ⟩ := most_pure hgd (by omega) HDz.out HU.out HHh.out huz2
        obtain ⟨S, hS⟩ : ∃ S, usetG V4 θ hzz hnn = S := ⟨_, rfl⟩
        have hSV : S.V.length < 10 := by rw [← hS]; show V4.length < 10; decide
        have hGo : ∀ τ, UInv S τ → Goes θ τ := fun τ h => by subst hS; exact h.good
        have hPP : sub θ t = sub θ v := hP
        rw [hS] at ot ov hP
        obtain ⟨r, hr, hri⟩ := uni_start S ot ov hP
        obtain ⟨τ, rfl, _⟩ := uni_found hr θ hPP
        obtain ⟨hi, _⟩ := hri τ rfl
        have hb11 := below_a W10 (.cells #[.int .i64 v.kind, .string v.name, .slice va v.kids.length vc] 29)
        have hM11 := HM10.out.below hb11
        refine (puni_ok S hSV t v (.ok τ) pa va ca vc _ aT aO hr ot ov hP (HE.out.below hM11.low) hM11.x8.2 (HVt.out.keep (KeepT.of_below hb11))).mono ?_
        rintro E W12 ⟨⟨sv, l, rfl, g1, g2⟩, hb12⟩
        obtain ⟨sa, sc, rfl⟩ := g1.shape
        have hM12 := hM11.below hb12
        have hX12 := (HX12b.out.below hb11).below hb12
        have hgo := hGo τ hi
        obtain ⟨wt, hwt⟩ : ∃ wt, sub τ t = wt := ⟨_, rfl⟩
        have huw : sub θ wt = u := by rw [← hwt, hgo.sub, hθ]
        have hws : tsize wt ≤ 2000 := by have := size_sub_ge (σ := θ) wt; rw [huw] at this; omega
        have HG1 := Lib.hid g1; have HG2 := Lib.hid g2; have HI := Lib.hid hi; have HM12 := Lib.hid hM12; have HX12c := Lib.hid hX12; have HWT := Lib.hid hwt; have HUW := Lib.hid huw
        clear hri hr ot ov hP hPP hb11 hM11 hb12 hM12 hX12 g1 g2 hi hgo hGo hS hθ hzz hnn HDz HHh HU HM10 HX12b HVt hwt huw e0 e1 e2
        obtain ⟨e0, e1, e2⟩ := HM12.out.x8.cells
        have l8b := HM12.out.b8lt
        go_wp2_with (go_at_call 14; have hM13 := HM12.out.below (below_a W12 (.cells #[.slice sa l.length sc] 33)); have hX13 := HX12c.out.below (below_a W12 (.cells #[.slice sa l.length sc] 33)); refine (pap_ret (HG1.out.below (below_a W12 _)) HG2.out HI.out hSV (by omega) HWT.out hM13.x8.2).mono ?_; rintro E W14 ⟨⟨wa, wc, rfl, hwt4⟩, hb14⟩; have HM14 := Lib.hid (hM13.below hb14); have hX14 := hX13.below hb14; have HX14 := Lib.hid hX14; have HWt := Lib.hid hwt4; obtain ⟨f0, f1, f2⟩ := hX14.cells; have l12 := hX14.lt; clear hX14 hM13 hX13 hb14 hwt4 HM12 HX12c e0 e1 e2 l8b)
        obtain ⟨s', hs', _⟩ := mt_hit θ (tsize wt) [] wt (Nat.le_refl _) (fun p hp => nomatch hp)
        have hb15 := below_a W14 (.cells #[.int .i64 wt.kind, .string wt.name, .slice wa wt.kids.length wc] 29)
        have hMt := rmatch_any (a := wt) (b := u) (by omega) (fits_le (by omega)) (HWt.out.keep (KeepT.of_below hb15)) (HX14.out.below hb15).2
        rw [show mt (tsize wt) [] wt u = some s' by rw [← HUW.out]; exact hs'] at hMt
        have HMt := Lib.hid hMt
        clear hMt
        refine HMt.out.mono ?_
        rintro E W16 ⟨⟨mv, rfl, _⟩, hb16⟩
        have HLw := Lib.hid ((HM14.out.below hb15).below hb16).low
        clear HMt hb15 hb16 HM14 HX14 HWt f0 f1 f2 l12
        simp only [Option.isSome_some]
        go_wp2
        go_ret
        exact ⟨rfl, HLw.out⟩
      · have hb3I : ((60 : Int) < (n3 : Int)) := by omega
        go_enter Tryd.func5, Tryd.ntmps5
        go_wp2_with (go_at_call 8; refine HF.out.mono ?_; rintro e w1 ⟨rfl, h1⟩; have HB1 := Lib.hid h1; clear h1 HF)
        go_ret
        exact ⟨rfl, HB1.out⟩
    · have hb2I : ((60 : Int) < (n2 : Int)) := by omega
      go_enter Tryd.func5, Tryd.ntmps5
      go_wp2_with (go_at_call 8; refine HF.out.mono ?_; rintro e w1 ⟨rfl, h1⟩; have HB1 := Lib.hid h1; clear h1 HF)
      go_ret
      exact ⟨rfl, HB1.out⟩
  · have hb1I : ((60 : Int) < (n1 : Int)) := by omega
    go_enter Tryd.func5, Tryd.ntmps5
    go_wp2_with (go_at_call 8; refine HF.out.mono ?_; rintro e w1 ⟨rfl, h1⟩; have HB1 := Lib.hid h1; clear h1 HF)
    go_ret
    exact ⟨rfl, HB1.out⟩
end Go.Proofs.YthpphjkoiipkkaaDoor
