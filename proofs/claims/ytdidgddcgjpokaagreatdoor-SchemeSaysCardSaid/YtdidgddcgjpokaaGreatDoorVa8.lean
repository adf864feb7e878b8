/- Merged: GvCan, GvSame, NmS, NzSame, NyCloR, NyClo, NzSet, NzSplit, NzClo, NzHas, NzClose, NzMk, GvFreR, GvFree, NzT. -/
import Derived.Test.YtdidgddcgjpokaaGreatDoorVa7
import Derived.Test.YtdidgddcgjpokaaGreatDoorVa5
import Derived.Test.YtdidgddcgjpokaaGreatDoorVa3
import Derived.Test.YtdidgddcgjpokaaGreatDoorVa4
import Derived.Test.YtdidgddcgjpokaaGreatDoorVa2
import Derived.Test.YtdidgddcgjpokaaGreatDoorVa6
import Derived.Deep.RegionLaw
import Derived.Deep.CutRange
/- scheme.Canon of a scheme with a context. -/
namespace Go.Proofs.YtdidgddcgjpokaaGreatDoor
open Go.RowKit Go.Sort Go.Lib
attribute [local go_sem] Oper.semAt_some

/-- A scheme in its block, its context, and a block that is to hold one. -/
def SDg (w : World) (b1 b2 : Nat) (xv : Value) (ca : Option Addr) (cn cc : Nat) (lc : List Pr) (u : T) (zt : Option Addr) (zu : Nat) (ls : List ByteArray) (V : World) : Prop := SD w b1 b2 xv (.slice ca cn cc) u zt zu ls V ∧ PrsAt V (.slice ca cn cc) lc
set_option maxRecDepth 100000 in
set_option maxHeartbeats 8000000 in
theorem canonG_any (V0 : List ByteArray) (t : T) (lc : List Pr) (xs : List ByteArray) (hok : SOK V0 t lc) (hxs : ∀ n ∈ xs, n.size ≤ 1000000) (hxl : xs.length ≤ 1000000) (xa ca ta : Option Addr) (xc cc tc : Nat) (w : World) (ht : TysAt w (.slice ta t.kids.length tc) t.kids) (hx : TextsAt w (.slice xa xs.length xc) xs) (hP : PrsAt w (.slice ca lc.length cc) lc) :
    Calls Tryz.prog 12 #[.agg #[.slice xa xs.length xc, .slice ca lc.length cc, .int .i64 t.kind, .string t.name, .slice ta t.kids.length tc]] w fun e w' =>
      (∃ (zn : List ByteArray) (u : T) (l2 : List Pr) (za : Option Addr) (zc : Nat) (zp : Option Addr) (zq : Nat) (zt : Option Addr) (zu : Nat), e = .returned (.agg #[.slice za zn.length zc, .slice zp l2.length zq, .int .i64 u.kind, .string u.name, .slice zt u.kids.length zu]) ∧ (TextsAt w' (.slice za zn.length zc) zn ∧ PrsAt w' (.slice zp l2.length zq) l2 ∧ TysAt w' (.slice zt u.kids.length zu) u.kids) ∧ CanP t lc xs zn u l2) ∧ Below w.heap.size w w' := by
  have hb0 := below_two w (.cells #[.slice xa xs.length xc, .slice ca lc.length cc, .int .i64 t.kind, .string t.name, .slice ta t.kids.length tc] 33) (.cells #[.slice none 0 0, .slice none 0 0, .int .i64 0, .string ⟨#[]⟩, .slice none 0 0] 33)
  have hB0 := (SchB.new (xv := .slice xa xs.length xc) (cv := .slice ca lc.length cc) ht).below ((Below.refl _ _).alloc (Nat.le_refl _) (.cells #[.slice none 0 0, .slice none 0 0, .int .i64 0, .string ⟨#[]⟩, .slice none 0 0] 33))
  have hZ0 := new_two w (.cells #[.slice xa xs.length xc, .slice ca lc.length cc, .int .i64 t.kind, .string t.name, .slice ta t.kids.length tc] 33) (.cells #[.slice none 0 0, .slice none 0 0, .int .i64 0, .string ⟨#[]⟩, .slice none 0 0] 33)
  have H0 := Lib.hid (And.intro hB0 (And.intro (show Sch0 (w.heap.size + 1) _ from hZ0) (And.intro (hx.below hb0) hb0)))
  have HP0 := Lib.hid (hP.belowG hb0)
  have hcell := (cells5 hB0.1).2.1
  have HOk := Lib.hid hok; have HXS := Lib.hid hxs
  have hz0 : w.heap.size < w.heap.size + 1 := by omega
  clear hb0 hB0 hZ0 ht hx hok hxs hP
  go_enter Tryz.func12, Tryz.ntmps12
  go_wp2_with (go_at_call 19; fail)
  refine (sortPreds_any lc _ _ HP0.out (fun q hq => by have := (HOk.out.2.2 q.2 (List.mem_cons_of_mem _ (List.mem_map.2 ⟨q, hq, rfl⟩))).2.2.1; omega) (fun q hq => fits_small (by have := (HOk.out.2.2 q.2 (List.mem_cons_of_mem _ (List.mem_map.2 ⟨q, hq, rfl⟩))).2.2.1; omega)) HOk.out.2.1).mono ?_
  rintro e w1 ⟨⟨ks, ra, rc, rfl, hp1, hs1, hm1⟩, hb1⟩
  have hsr := srtP_of hs1
  have hkl : (ks.map prOf).length = ks.length := List.length_map ..
  rw [← hkl] at hp1 ⊢
  generalize ks.map prOf = l1 at hp1 hm1 hsr
  have hl1 : l1.length ≤ 12 := Nat.le_trans (srtP_len hsr fun q h => (hm1 q).1 h) HOk.out.2.1
  have HOk1 := Lib.hid (HOk.out.same (fun q h => (hm1 q).1 h) hl1)
  have HC1 := Lib.hid (And.intro hsr hm1)
  have H1 := Lib.hid (And.intro (H0.out.1.below hb1) (And.intro (H0.out.2.1.below hb1) (And.intro (H0.out.2.2.1.below hb1) (H0.out.2.2.2.trans (hb1.mono H0.out.2.2.2.size)))))
  have HP1 := Lib.hid hp1
  have hc1 := cells5 H1.out.1.1
  clear hb1 H0 hcell hp1 hs1 hm1 hsr HP0 HOk hkl
  obtain ⟨v0, v1, v2, v3, v4⟩ := hc1
  have f1 := Lib.frozen_of_heap H1.out.1.1 1
  go_wp2_with (fail)
  have H2 := Lib.hid (And.intro (H1.out.1.set1 (cv' := .slice ra l1.length rc)) (And.intro (show Sch0 (w.heap.size + 1) (w1.setCell ⟨w.heap.size, 1, none⟩ (.slice ra l1.length rc)) from (Below.heap_setCell _ ⟨w.heap.size, 1, none⟩ _ _ (show w.heap.size + 1 ≠ w.heap.size by omega)).trans H1.out.2.1) (And.intro (texts_set (o := 1) (v := .slice ra l1.length rc) H1.out.1 H1.out.2.2.1) (And.intro (prs_set (o := 1) (v := .slice ra l1.length rc) H1.out.1 HP1.out) (H1.out.2.2.2.setCell (p := ⟨w.heap.size, 1, none⟩) (Nat.le_refl _) (.slice ra l1.length rc))))))
  clear H1 v0 v1 v2 v3 v4 f1 HP1
  generalize w1.setCell ⟨w.heap.size, 1, none⟩ (.slice ra l1.length rc) = W2 at *
  obtain ⟨L, hL⟩ : ∃ L, fvs [] [] (t :: l1.map (·.2)) = L := ⟨_, rfl⟩
  have HAll := Lib.hid HOk1.out.all
  have HL := Lib.hid hL
  rw [hL] at HAll
  clear hL
  refine gcn_here (w := W2) (b1 := w.heap.size) (xa := xa) (ca := ra) (ta := ta) (xc := xc) (cc := rc) (tc := tc) (xs := xs) (lc := l1) (t := t) (L := L)
    (fun V h => by
      have := varsG_any t l1 (fun u hu => (HOk1.out.2.2 u hu).2.1) (by have := HOk1.out.all.2.2.2; omega) (by omega) _ _ _ _ V h.1.2 h.2.2.1
      rw [HL.out] at this
      refine this.mono fun e Y hq => ?_
      obtain ⟨⟨v, rfl, hv⟩, hb⟩ := hq
      obtain ⟨a', c', rfl⟩ := hv.shape
      exact ⟨⟨a', c', rfl, hv⟩, hb⟩)
    (fun V h _ _ k => (split_any _ _ (by have := HAll.out.2.1; omega) hxl (fun n hn => by have := HAll.out.2.2.1 n hn; omega) HXS.out _ _ _ _ V k h.2.1).mono fun e Y hq => by
      obtain ⟨⟨vi, vo, rfl, hvi, hvo⟩, hb⟩ := hq
      obtain ⟨ia, ic, rfl⟩ := hvi.shape
      obtain ⟨oa, oc, rfl⟩ := hvo.shape
      exact ⟨⟨ia, ic, oa, oc, rfl, hvi, hvo⟩, hb⟩)
    _ (by kernel_rfl) (by kernel_rfl) (by kernel_rfl) ⟨H2.out.1.below (below_d _), H2.out.2.2.1.below (below_d _), H2.out.2.2.2.1.belowG (below_d _), below_d _⟩ ?_
  intro x V zi zp zo zq hV e11 e12 k1 k2
  have hbo : (L.filter (inB xs)).length + (L.filter fun n => !inB xs n).length ≤ 4 := by
    have h3 : ∀ l : List ByteArray, (l.filter (inB xs)).length + (l.filter fun x => !inB xs x).length = l.length := by
      intro l
      induction l with
      | nil => rfl
      | cons a l ih => cases h : inB xs a <;> simp [h] <;> omega
    rw [h3]; exact HAll.out.2.1
  have HSz : Hid ((∀ n ∈ L.filter (inB xs), n.size ≤ 1000000) ∧ ∀ n ∈ L.filter (fun n => !inB xs n), n.size ≤ 1000000) := Lib.hid ⟨fun n h => by have := HAll.out.2.2.1 n (List.mem_filter.1 h).1; omega, fun n h => by have := HAll.out.2.2.1 n (List.mem_filter.1 h).1; omega⟩
  obtain ⟨bs, hbs⟩ : ∃ l, L.filter (inB xs) = l := ⟨_, rfl⟩
  obtain ⟨os, hos⟩ : ∃ l, (L.filter fun n => !inB xs n) = l := ⟨_, rfl⟩
  rw [hbs] at e11 k1 hbo HSz
  rw [hos] at e12 k2 hbo HSz
  have HB := Lib.hid (show bsOf t l1 xs = bs by unfold bsOf; rw [HL.out]; exact hbs)
  have HO := Lib.hid (show osOf t l1 xs = os by unfold osOf; rw [HL.out]; exact hos)
  have H3 := Lib.hid (show SNg w w.heap.size (w.heap.size + 1) xa xs.length xc ra rc l1 t ta tc zi zp zo zq bs os V from ⟨hV.1, H2.out.2.1.below hV.2.2.2, ⟨k1, k2⟩, hV.2.2.1, H2.out.2.2.2.2.trans (hV.2.2.2.mono H2.out.2.2.2.2.size)⟩)
  clear hbs hos k1 k2 hV H2 HXS HAll HL
  simp only [gcnFr, e11, e12]
  simp only [Array.getD_eq_getD_getElem?, List.getElem?_toArray, List.getElem?_cons_succ, List.getElem?_cons_zero, Option.getD_some]
  go_wp2_with (fail)
  refine gch_here (w := w) (b1 := w.heap.size) (b2 := w.heap.size + 1) (xa := xa) (xn := xs.length) (xc := xc) (ca := ra) (cc := rc) (lc := l1) (t := t) (ta := ta) (tc := tc) (ba := zi) (bc := zp) (oa := zo) (oc := zq) (bs := bs) (os := os)
    (fun V h => (newNamesX_any bs.length os (by omega) HSz.out.2 _ _ V h.2.2.1.2).mono fun e Y hq => by
      obtain ⟨⟨v, zn, rfl, hv, hn⟩, hb⟩ := hq
      obtain ⟨a', c', rfl⟩ := hv.shape
      exact ⟨⟨zn, a', c', rfl, hv, hn⟩, hb⟩)
    (fun V h zn5 za5 zc5 k => (fren_any t bs zn5 k.2.1.1.symm (by omega) (by have := (HOk1.out.2.2 t (List.mem_cons_self ..)).2.2.1; omega) l1 (fun q hq => by have := (HOk1.out.2.2 q.2 (List.mem_cons_of_mem _ (List.mem_map.2 ⟨q, hq, rfl⟩))).2.2.1; omega) (by omega) _ _ _ _ _ _ _ _ _ V h.1.2 h.2.2.1.1.strs k.1.strs h.2.2.2.1).mono fun e Y hq => by
      obtain ⟨⟨pa, pc, za, zc, rfl, hPc, hT⟩, hb⟩ := hq
      exact ⟨⟨zn5, za5, zc5, pa, pc, za, zc, rfl, ⟨k.1.below hb, k.2⟩, hPc, hT⟩, hb⟩)
    _ (by kernel_rfl) (by kernel_rfl) (by kernel_rfl) (by kernel_rfl) (by kernel_rfl) (H3.out.below (below_d _)) ?_
  intro y W zn za zc zp zq zt zu hW hT
  have hlq : (appP (prs bs zn) l1).length = l1.length := by simp [appP]
  have H4 := Lib.hid (show SDg w w.heap.size (w.heap.size + 1) (.slice za zn.length zc) zp l1.length zq (appP (prs bs zn) l1) (app (prs bs zn) t) zt zu zn (set5 W w.heap.size (.slice za zn.length zc) (.slice zp l1.length zq) (.int .i64 (app (prs bs zn) t).kind) (.string (app (prs bs zn) t).name) (.slice zt (app (prs bs zn) t).kids.length zu)) from
    ⟨SD.of5 (cv := .slice zp l1.length zq) hW.1 hW.2.1 hT.1.1 hT.2.2 hW.2.2.2.2 (show w.heap.size + 1 ≠ w.heap.size by omega) (Nat.le_refl _), prs_set5 hW.1 hT.2.1 _ _ _ _ _⟩)
  have HNew := Lib.hid hT.1.2
  have HSiz := Lib.hid (show ∀ q ∈ appP (prs bs zn) l1, tsize q.2 ≤ 200 from fun q hq => by
    obtain ⟨q0, h0, rfl⟩ := List.mem_map.1 hq
    show tsize (app (prs bs zn) q0.2) ≤ 200
    have hk := (HOk1.out.2.2 q0.2 (List.mem_cons_of_mem _ (List.mem_map.2 ⟨q0, h0, rfl⟩))).2.2.1
    rw [app_sub, size_subV q0.2 fun y hy => ?_]
    · exact hk
    · by_cases hyb : y ∈ bs
      · obtain ⟨z, _, e⟩ := ty_prs_in bs zn y HNew.out.1.1.symm hyb; exact ⟨z, e⟩
      · exact ⟨y, ty_prs_out bs zn y hyb⟩)
  generalize set5 W w.heap.size (.slice za zn.length zc) (.slice zp l1.length zq) (.int .i64 (app (prs bs zn) t).kind) (.string (app (prs bs zn) t).name) (.slice zt (app (prs bs zn) t).kids.length zu) = W4 at *
  clear hW hT H3 HSz
  obtain ⟨u, hu⟩ : ∃ u, app (prs bs zn) t = u := ⟨_, rfl⟩
  obtain ⟨lm, hlm⟩ : ∃ l, appP (prs bs zn) l1 = l := ⟨_, rfl⟩
  have HU := Lib.hid hu
  have HM := Lib.hid hlm
  rw [hu, hlm] at H4
  rw [hlm] at HSiz hlq
  rw [← hlq] at H4
  clear hu hlm
  have hlm12 : lm.length ≤ 12 := by omega
  obtain ⟨v0, v1, v2, v3, v4⟩ := cells5 H4.out.1.1.1
  rw [hlq] at v1
  simp only [gchFr]
  simp only [Array.getD_eq_getD_getElem?, List.getElem?_toArray, List.getElem?_cons_succ, List.getElem?_cons_zero, Option.getD_some]
  have HSP := Lib.hid (sortPreds_any lm _ W4 H4.out.2 (fun q hq => by have := HSiz.out q hq; omega) (fun q hq => fits_small (by have := HSiz.out q hq; omega)) hlm12)
  rw [hlq] at HSP
  have Hlq := Lib.hid hlq
  clear hlq
  go_wp2_with (go_at_call 19; fail)
  refine HSP.out.mono ?_
  rintro e w5 ⟨⟨ks2, sa, sc, rfl, hp5, hs5, hm5⟩, hb5⟩
  have hsr5 := srtP_of hs5
  have hkl5 : (ks2.map prOf).length = ks2.length := List.length_map ..
  rw [← hkl5] at hp5 ⊢
  generalize ks2.map prOf = l2 at hp5 hm5 hsr5
  have HC2 := Lib.hid (And.intro hsr5 hm5)
  have HP5 := Lib.hid hp5
  have H5 := Lib.hid (H4.out.1.below hb5)
  have f1 := Lib.frozen_of_heap H5.out.1.1 1
  have H6 := Lib.hid (H5.out.set1 (cv' := .slice sa l2.length sc) (show w.heap.size + 1 ≠ w.heap.size by omega) (Nat.le_refl _))
  have HP6 := Lib.hid (prs_set (o := 1) (v := .slice sa l2.length sc) H5.out.1 HP5.out)
  clear v0 v1 v2 v3 v4 hp5 hs5 hm5 hsr5 hkl5
  obtain ⟨v0, v1, v2, v3, v4⟩ := cells5 H5.out.1.1
  rw [Hlq.out] at v1
  obtain ⟨u0, u1, u2, u3, u4⟩ := cells5 H6.out.1.1
  obtain ⟨t0, t1, t2, t3, t4⟩ := cells5 H6.out.2.1
  have g0 := Lib.frozen_of_heap H6.out.2.1 0; have g1 := Lib.frozen_of_heap H6.out.2.1 1; have g2 := Lib.frozen_of_heap H6.out.2.1 2; have g3 := Lib.frozen_of_heap H6.out.2.1 3; have g4 := Lib.frozen_of_heap H6.out.2.1 4
  have HL := Lib.hid (cells5 (set5_block H6.out.2.1 (.slice za zn.length zc) (.slice sa l2.length sc) (.int .i64 u.kind) (.string u.name) (.slice zt u.kids.length zu)))
  have HE := Lib.hid (H6.out.copy (show w.heap.size ≤ w.heap.size + 1 by omega))
  have HEP := Lib.hid (prs_set50 H6.out.2.1 HP6.out (.slice za zn.length zc) (.slice sa l2.length sc) (.int .i64 u.kind) (.string u.name) (.slice zt u.kids.length zu))
  clear hb5 H4 H5 H6 HSP HP5 HP6
  go_wp2_with (fail)
  have hc := HL.out
  unfold set5 at hc
  refine bodyPost_ret (v := .agg #[.slice za zn.length zc, .slice sa l2.length sc, .int .i64 u.kind, .string u.name, .slice zt u.kids.length zu]) (by simp [results, Tryz.results12, go_sem, hc.1, hc.2.1, hc.2.2.1, hc.2.2.2.1, hc.2.2.2.2]) rfl ⟨⟨zn, u, l2, za, zc, sa, sc, zt, zu, rfl, ⟨HE.out.1, HEP.out, HE.out.2.1⟩, l1, HC1.out.1, HC1.out.2, ?_, ?_, HC2.out.1, ?_⟩, HE.out.2.2⟩
  · rw [HB.out, HO.out]; exact HNew.out
  · rw [HB.out]; exact HU.out.symm
  · rw [HB.out, HM.out]; exact HC2.out.2
end Go.Proofs.YtdidgddcgjpokaaGreatDoor
/- scheme.Same. -/
namespace Go.Proofs.YtdidgddcgjpokaaGreatDoor
open Go.RowKit Go.Sort Go.Lib
attribute [local go_sem] Oper.semAt_some

theorem equalP_any (l m : List Pr) (H : ∀ q ∈ l, Fits q.2) (a b : Option Addr) (c d : Nat) (w : World) (h : PrsAt w (.slice a l.length c) l) (h' : PrsAt w (.slice b m.length d) m) (hn : l.length ≤ 1000000) :
    Calls Tryz.prog 51 #[.slice a l.length c, .slice b m.length d, .func (.func 46) #[] #[]] w fun e w' => e = .returned (.bool (eqB l m)) ∧ Below w.heap.size w w' := by
  obtain ⟨ls, e1, h1⟩ := PV.of_prs h
  obtain ⟨ms, e2, h2⟩ := PV.of_prs h'
  have l1 : ls.length = l.length := by rw [← e1]; simp
  have l2 : ms.length = m.length := by rw [← e2]; simp
  rw [← l1] at h1 ⊢
  rw [← l2] at h2 ⊢
  rw [← e1, ← e2]
  exact equalF_any ls ms (fun x hx => H (prOf x) (by rw [← e1]; exact List.mem_map.2 ⟨x, hx, rfl⟩)) a b c d w h1 h2 (by omega)
/-- What is handed to Canon. -/
def SmD (t : T) (lc : List Pr) (xs : List ByteArray) (ta ca xa : Option Addr) (tc cc xc : Nat) (V : World) : Prop := TextsAt V (.slice xa xs.length xc) xs ∧ PrsAt V (.slice ca lc.length cc) lc ∧ TysAt V (.slice ta t.kids.length tc) t.kids
theorem SmD.keepO {t : T} {lc : List Pr} {xs : List ByteArray} {ta ca xa : Option Addr} {tc cc xc : Nat} {V Y : World} (h : SmD t lc xs ta ca xa tc cc xc V) (hk : KeepO V Y) : SmD t lc xs ta ca xa tc cc xc Y :=
  ⟨h.1.keep fun k cs fz hh => hk k cs _ fz (by decide) hh, h.2.1.keep (fun k cs fz hh => hk k cs _ fz (by decide) hh) (fun k cs fz hh => hk k cs _ fz (by decide) hh), h.2.2.keep fun k cs fz hh => hk k cs _ fz (by decide) hh⟩
/-- What Canon hands back. -/
def SmP (t : T) (lc : List Pr) (xs : List ByteArray) (za : Option Addr) (zn zc : Nat) (zp : Option Addr) (zm zq : Nat) (zk : Int) (zs : ByteArray) (zt : Option Addr) (zj zu : Nat) (V : World) : Prop :=
  ∃ (zl : List ByteArray) (u : T) (l2 : List Pr), (zn = zl.length ∧ zm = l2.length ∧ zk = u.kind ∧ zs = u.name ∧ zj = u.kids.length) ∧ SmD u l2 zl zt zp za zu zq zc V ∧ CanP t lc xs zl u l2
theorem SmP.keepO {t : T} {lc : List Pr} {xs : List ByteArray} {za : Option Addr} {zn zc : Nat} {zp : Option Addr} {zm zq : Nat} {zk : Int} {zs : ByteArray} {zt : Option Addr} {zj zu : Nat} {V Y : World} (h : SmP t lc xs za zn zc zp zm zq zk zs zt zj zu V) (hk : KeepO V Y) : SmP t lc xs za zn zc zp zm zq zk zs zt zj zu Y := by
  obtain ⟨zl, u, l2, h1, h2, h3⟩ := h; exact ⟨zl, u, l2, h1, h2.keepO hk, h3⟩
theorem canonS_any (V0 : List ByteArray) (t : T) (lc : List Pr) (xs : List ByteArray) (hok : SOK V0 t lc) (hxs : ∀ n ∈ xs, n.size ≤ 1000000) (hxl : xs.length ≤ 1000000) (ta ca xa : Option Addr) (tc cc xc : Nat) (w : World) (h : SmD t lc xs ta ca xa tc cc xc w) :
    Calls Tryz.prog 12 #[.agg #[.slice xa xs.length xc, .slice ca lc.length cc, .int .i64 t.kind, .string t.name, .slice ta t.kids.length tc]] w fun e w' =>
      (∃ (za : Option Addr) (zn zc : Nat) (zp : Option Addr) (zm zq : Nat) (zk : Int) (zs : ByteArray) (zt : Option Addr) (zj zu : Nat), e = .returned (.agg #[.slice za zn zc, .slice zp zm zq, .int .i64 zk, .string zs, .slice zt zj zu]) ∧ SmP t lc xs za zn zc zp zm zq zk zs zt zj zu w') ∧ Below w.heap.size w w' := by
  refine (canonG_any V0 t lc xs hok hxs hxl xa ca ta xc cc tc w h.2.2 h.1 h.2.1).mono ?_
  rintro e w' ⟨⟨zn, u, l2, za, zc, zp, zq, zt, zu, rfl, ⟨h1, h2, h3⟩, hc⟩, hb⟩
  exact ⟨⟨za, zn.length, zc, zp, l2.length, zq, u.kind, u.name, zt, u.kids.length, zu, rfl, zn, u, l2, ⟨rfl, rfl, rfl, rfl, rfl⟩, ⟨h1, h2, h3⟩, hc⟩, hb⟩
set_option maxRecDepth 100000 in
set_option maxHeartbeats 8000000 in
theorem sameG_any (V1 V2 : List ByteArray) (t s : T) (lc ld : List Pr) (xs ys : List ByteArray) (hok1 : SOK V1 t lc) (hok2 : SOK V2 s ld) (hxs : ∀ n ∈ xs, n.size ≤ 1000000) (hxl : xs.length ≤ 1000000) (hys : ∀ n ∈ ys, n.size ≤ 1000000) (hyl : ys.length ≤ 1000000) (ta ca xa sa da ya : Option Addr) (tc cc xc sc dc yc : Nat) (w : World) (h1 : SmD t lc xs ta ca xa tc cc xc w) (h2 : SmD s ld ys sa da ya sc dc yc w) :
    Calls Tryz.prog 23 #[.agg #[.slice xa xs.length xc, .slice ca lc.length cc, .int .i64 t.kind, .string t.name, .slice ta t.kids.length tc], .agg #[.slice ya ys.length yc, .slice da ld.length dc, .int .i64 s.kind, .string s.name, .slice sa s.kids.length sc]] w fun e w' =>
      (∃ (zl yl : List ByteArray) (u v : T) (l2 m2 : List Pr), e = .returned (.bool (eqB zl yl && (eqB l2 m2 && cmpT u v == 0))) ∧ CanP t lc xs zl u l2 ∧ CanP s ld ys yl v m2) ∧ Below w.heap.size w w' := by
  have hb0 := below_two w (.cells #[.slice xa xs.length xc, .slice ca lc.length cc, .int .i64 t.kind, .string t.name, .slice ta t.kids.length tc] 33) (.cells #[.slice ya ys.length yc, .slice da ld.length dc, .int .i64 s.kind, .string s.name, .slice sa s.kids.length sc] 33)
  have n1 := (Below.heap_alloc (w.alloc (.cells #[.slice xa xs.length xc, .slice ca lc.length cc, .int .i64 t.kind, .string t.name, .slice ta t.kids.length tc] 33)) (.cells #[.slice ya ys.length yc, .slice da ld.length dc, .int .i64 s.kind, .string s.name, .slice sa s.kids.length sc] 33) w.heap.size (by simp)).trans (alloc_new w _)
  have n2 := new_two w (.cells #[.slice xa xs.length xc, .slice ca lc.length cc, .int .i64 t.kind, .string t.name, .slice ta t.kids.length tc] 33) (.cells #[.slice ya ys.length yc, .slice da ld.length dc, .int .i64 s.kind, .string s.name, .slice sa s.kids.length sc] 33)
  have hk0 := KeepO.of_below hb0
  have H0 := Lib.hid (And.intro (And.intro (h1.keepO hk0) (h2.keepO hk0)) (And.intro hb0 (And.intro n1 n2)))
  have HO1 := Lib.hid hok1; have HO2 := Lib.hid hok2; have HX := Lib.hid hxs; have HY := Lib.hid hys
  clear h1 h2 hb0 n1 n2 hk0 hok1 hok2 hxs hys
  go_enter Tryz.func23, Tryz.ntmps23
  go_wp2_with fail
  refine sme_here (w := w) (b2 := w.heap.size) (b3 := w.heap.size + 1) (D := fun V => SmD t lc xs ta ca xa tc cc xc V ∧ SmD s ld ys sa da ya sc dc yc V) (PA := SmP t lc xs) (PB := SmP s ld ys)
    (fun V Y hk h => ⟨h.1.keepO hk, h.2.keepO hk⟩) (fun _ _ _ _ _ _ _ _ _ _ _ V Y hk h => h.keepO hk) (fun _ _ _ _ _ _ _ _ _ _ _ V Y hk h => h.keepO hk) (Nat.le_refl _) (by omega) (by omega)
    (fun V h => canonS_any V1 t lc xs HO1.out HX.out hxl ta ca xa tc cc xc V h.1) (fun V h => canonS_any V2 s ld ys HO2.out HY.out hyl sa da ya sc dc yc V h.2)
    _ (by kernel_rfl) (by kernel_rfl) (by kernel_rfl) (by kernel_rfl) ⟨⟨H0.out.1.1.keepO (KeepO.of_below (below_d _)), H0.out.1.2.keepO (KeepO.of_below (below_d _))⟩, ⟨_, H0.out.2.2.1⟩, ⟨_, H0.out.2.2.2⟩, H0.out.2.1.drew⟩ H0.out.2.2.1 H0.out.2.2.2 ?_
  intro x V za zn zc zp zm zq zk zs zt zj zu ya' yn yc' yp ym yq yk ys' yt yj yu hS hA hB hb2 hb3
  obtain ⟨zl, u, l2, ⟨rfl, rfl, rfl, rfl, rfl⟩, hdA, hcA⟩ := hA
  obtain ⟨yl, v, m2, ⟨rfl, rfl, rfl, rfl, rfl⟩, hdB, hcB⟩ := hB
  have hA := canP_ok HO1.out hcA
  have hB := canP_ok HO2.out hcB
  have hl2 : l2.length ≤ 1000000 := by omega
  have hzl : zl.length ≤ 1000000000 := by omega
  have HA := Lib.hid hA
  have HCan := Lib.hid (And.intro hcA hcB)
  have HD := Lib.hid (And.intro hdA (And.intro hdB hS.2.2.2))
  have HBk := Lib.hid (And.intro hb2 hb3)
  obtain ⟨c0, c1, c2, c3, c4⟩ := cells5 hb2
  obtain ⟨d0, d1, d2, d3, d4⟩ := cells5 hb3
  have HEq1 := Lib.hid (equalT_any zl yl hzl za ya' zc yc' V hdA.1 hdB.1)
  clear hcA hcB hdA hdB hS hA hB H0 HO1 HO2 HX HY hb2 hb3
  simp only [smeFr]
  simp only [Array.getD_eq_getD_getElem?, List.getElem?_toArray, List.getElem?_cons_succ, List.getElem?_cons_zero, Option.getD_some]
  go_wp2_with (go_at_call 50; fail)
  refine HEq1.out.mono ?_
  rintro e w1 ⟨rfl, hb1⟩
  have HB1 := Lib.hid hb1
  have hE2 := equalP_any l2 m2 (fun q hq => fits_small (by have := HA.out.2.1 q hq; omega)) zp yp zq yq w1 (HD.out.1.2.1.belowG hb1) (HD.out.2.1.2.1.belowG hb1) hl2
  have HEq2 := Lib.hid hE2
  have k2 := (hb1.block _ (Array.getElem?_eq_some_iff.1 HBk.out.1).1).trans HBk.out.1
  have k3 := (hb1.block _ (Array.getElem?_eq_some_iff.1 HBk.out.2).1).trans HBk.out.2
  have HBk1 := Lib.hid (And.intro k2 k3)
  clear c0 c1 c2 c3 c4 d0 d1 d2 d3 d4 hE2 hb1
  obtain ⟨c0, c1, c2, c3, c4⟩ := cells5 k2
  obtain ⟨d0, d1, d2, d3, d4⟩ := cells5 k3
  clear k2 k3 HEq1
  cases q1 : eqB zl yl with
  | false =>
    have hr : (eqB zl yl && (eqB l2 m2 && cmpT u v == 0)) = false := by rw [q1]; rfl
    have HE := Lib.hid (HD.out.2.2.trans (HB1.out.mono HD.out.2.2.size))
    have HR := Lib.hid hr
    clear hr q1 HEq2
    go_wp2_with fail
    go_ret
    exact ⟨⟨zl, yl, u, v, l2, m2, by rw [HR.out]; rfl, HCan.out.1, HCan.out.2⟩, HE.out⟩
  | true =>
    have HQ1 := Lib.hid q1
    clear q1
    go_wp2_with (go_at_call 51; fail)
    refine HEq2.out.mono ?_
    rintro e w2 ⟨rfl, hb2⟩
    have hb12 := HB1.out.trans (hb2.mono HB1.out.size)
    have HB2 := Lib.hid hb12
    have hE3 := same_any (t := u) (t' := v) (v := .slice zt u.kids.length zu) (v' := .slice yt v.kids.length yu) (w := w2) (fits_small (by have := HA.out.1; omega)) (HD.out.1.2.2.keep (KeepT.of_below hb12)) (HD.out.2.1.2.2.keep (KeepT.of_below hb12))
    have HEq3 := Lib.hid hE3
    have k2 := (hb2.block _ (Array.getElem?_eq_some_iff.1 HBk1.out.1).1).trans HBk1.out.1
    have k3 := (hb2.block _ (Array.getElem?_eq_some_iff.1 HBk1.out.2).1).trans HBk1.out.2
    clear c0 c1 c2 c3 c4 d0 d1 d2 d3 d4 hE3 hb2 hb12 HEq2
    obtain ⟨c0, c1, c2, c3, c4⟩ := cells5 k2
    obtain ⟨d0, d1, d2, d3, d4⟩ := cells5 k3
    clear k2 k3
    cases q2 : eqB l2 m2 with
    | false =>
      have hr : (eqB zl yl && (eqB l2 m2 && cmpT u v == 0)) = false := by rw [HQ1.out, q2]; rfl
      have HE := Lib.hid (HD.out.2.2.trans (HB2.out.mono HD.out.2.2.size))
      have HR := Lib.hid hr
      clear hr q2 HEq3
      go_wp2_with fail
      go_ret
      exact ⟨⟨zl, yl, u, v, l2, m2, by rw [HR.out]; rfl, HCan.out.1, HCan.out.2⟩, HE.out⟩
    | true =>
      have hr : (eqB zl yl && (eqB l2 m2 && cmpT u v == 0)) = (cmpT u v == 0) := by rw [HQ1.out, q2]; rfl
      simp only [tyV] at HEq3
      obtain ⟨r, hr2⟩ : ∃ r, (cmpT u v == 0) = r := ⟨_, rfl⟩
      rw [hr2] at HEq3
      have HR := Lib.hid (hr.trans hr2)
      clear hr hr2 q2
      go_wp2_with (go_at_call 52; fail)
      refine HEq3.out.mono ?_
      rintro e w3 ⟨rfl, hb3⟩
      have HE := Lib.hid (HD.out.2.2.trans ((HB2.out.trans (hb3.mono HB2.out.size)).mono HD.out.2.2.size))
      clear hb3 HEq3 c0 c1 c2 c3 c4 d0 d1 d2 d3 d4
      go_wp2_with fail
      go_ret
      exact ⟨⟨zl, yl, u, v, l2, m2, by rw [HR.out]; rfl, HCan.out.1, HCan.out.2⟩, HE.out⟩
end Go.Proofs.YtdidgddcgjpokaaGreatDoor
/- paideiaref.SameScheme of two that are the same. -/
namespace Go.Proofs.YtdidgddcgjpokaaGreatDoor
open Go.RowKit Go.Sort Go.Lib
attribute [local go_sem] Oper.semAt_some

end Go.Proofs.YtdidgddcgjpokaaGreatDoor
/- paideiaref.SameScheme of any two. -/
namespace Go.Proofs.YtdidgddcgjpokaaGreatDoor
open Go.RowKit Go.Sort Go.Lib
attribute [local go_sem] Oper.semAt_some

set_option maxRecDepth 100000 in
set_option maxHeartbeats 4000000 in
theorem refSameG_any (t s : T) (lc ld : List Pr) (xs ys : List ByteArray) (hft : Fits t) (hfc : ∀ q ∈ lc, Fits q.2) (hn : lc.length ≤ 1000000) (hx : xs.length ≤ 1000000) (ta ca xa sa da ya : Option Addr) (tc cc xc sc dc yc : Nat) (w : World) (h1 : SmD t lc xs ta ca xa tc cc xc w) (h2 : SmD s ld ys sa da ya sc dc yc w) :
    Calls Tryz.prog 10 #[.agg #[.slice xa xs.length xc, .slice ca lc.length cc, .int .i64 t.kind, .string t.name, .slice ta t.kids.length tc], .agg #[.slice ya ys.length yc, .slice da ld.length dc, .int .i64 s.kind, .string s.name, .slice sa s.kids.length sc]] w fun e w' => e = .returned (.bool (eqB xs ys && (eqB lc ld && eqB t s))) ∧ Below w.heap.size w w' := by
  have hb0 := below_two w (.cells #[.slice xa xs.length xc, .slice ca lc.length cc, .int .i64 t.kind, .string t.name, .slice ta t.kids.length tc] 33) (.cells #[.slice ya ys.length yc, .slice da ld.length dc, .int .i64 s.kind, .string s.name, .slice sa s.kids.length sc] 33)
  have n1 := (Below.heap_alloc (w.alloc (.cells #[.slice xa xs.length xc, .slice ca lc.length cc, .int .i64 t.kind, .string t.name, .slice ta t.kids.length tc] 33)) (.cells #[.slice ya ys.length yc, .slice da ld.length dc, .int .i64 s.kind, .string s.name, .slice sa s.kids.length sc] 33) w.heap.size (by simp)).trans (alloc_new w _)
  have n2 := new_two w (.cells #[.slice xa xs.length xc, .slice ca lc.length cc, .int .i64 t.kind, .string t.name, .slice ta t.kids.length tc] 33) (.cells #[.slice ya ys.length yc, .slice da ld.length dc, .int .i64 s.kind, .string s.name, .slice sa s.kids.length sc] 33)
  have hk0 := KeepO.of_below hb0
  have H0 := Lib.hid (And.intro (h1.keepO hk0) (And.intro (h2.keepO hk0) hb0))
  obtain ⟨r1, hr1⟩ : ∃ r, eqB xs ys = r := ⟨_, rfl⟩
  obtain ⟨r2, hr2⟩ : ∃ r, eqB lc ld = r := ⟨_, rfl⟩
  obtain ⟨r3, hr3⟩ : ∃ r, eqB t s = r := ⟨_, rfl⟩
  have HT := Lib.hid (fun V (h1 : TextsAt V (.slice xa xs.length xc) xs) (h2 : TextsAt V (.slice ya ys.length yc) ys) => (by have := sameTexts_any xs ys (by omega) xa ya xc yc V h1 h2; rwa [hr1] at this : Calls Tryz.prog 13 #[.slice xa xs.length xc, .slice ya ys.length yc] V fun e w' => e = .returned (.bool r1) ∧ Below V.heap.size V w'))
  have HP := Lib.hid (fun V (h1 : PrsAt V (.slice ca lc.length cc) lc) (h2 : PrsAt V (.slice da ld.length dc) ld) => (by have := samePreds_of lc ld hfc ca da cc dc V h1 h2 (by omega); rwa [hr2] at this : Calls Tryz.prog 18 #[.slice ca lc.length cc, .slice da ld.length dc] V fun e w' => e = .returned (.bool r2) ∧ Below V.heap.size V w'))
  have HY := Lib.hid (fun V (h1 : TysAt V (.slice ta t.kids.length tc) t.kids) (h2 : TysAt V (.slice sa s.kids.length sc) s.kids) => (by have := sameType_any hft h1 h2; rw [hr3] at this; exact this : Calls Tryz.prog 35 #[.agg #[.int .i64 t.kind, .string t.name, .slice ta t.kids.length tc], .agg #[.int .i64 s.kind, .string s.name, .slice sa s.kids.length sc]] V fun e w' => e = .returned (.bool r3) ∧ Below V.heap.size V w'))
  have HBk := Lib.hid (And.intro n1 n2)
  rw [hr1, hr2, hr3]
  clear h1 h2 hb0 n1 n2 hk0 hft hfc hr1 hr2 hr3
  go_enter Tryz.func10, Tryz.ntmps10
  go_wp2_with (go_at_call 13; fail)
  refine (HT.out _ H0.out.1.1 H0.out.2.1.1).mono ?_
  rintro e w1 ⟨rfl, hb1⟩
  have k1 := (hb1.block _ (Array.getElem?_eq_some_iff.1 HBk.out.1).1).trans HBk.out.1
  have k2 := (hb1.block _ (Array.getElem?_eq_some_iff.1 HBk.out.2).1).trans HBk.out.2
  have H1 := Lib.hid (And.intro (H0.out.1.keepO (KeepO.of_below hb1)) (And.intro (H0.out.2.1.keepO (KeepO.of_below hb1)) (H0.out.2.2.trans (hb1.mono H0.out.2.2.size))))
  have HBk1 := Lib.hid (And.intro k1 k2)
  obtain ⟨c0, c1, c2, c3, c4⟩ := cells5 k1
  obtain ⟨d0, d1, d2, d3, d4⟩ := cells5 k2
  clear k1 k2 hb1 HT H0 HBk
  cases r1 with
  | false =>
    have HE := Lib.hid H1.out.2.2
    clear H1 c0 c1 c2 c3 c4 d0 d1 d2 d3 d4 HBk1 HP HY
    go_wp2_with fail
    go_ret
    exact ⟨rfl, HE.out⟩
  | true =>
  go_wp2_with (go_at_call 18; fail)
  refine (HP.out _ H1.out.1.2.1 H1.out.2.1.2.1).mono ?_
  rintro e w2 ⟨rfl, hb1⟩
  have k1 := (hb1.block _ (Array.getElem?_eq_some_iff.1 HBk1.out.1).1).trans HBk1.out.1
  have k2 := (hb1.block _ (Array.getElem?_eq_some_iff.1 HBk1.out.2).1).trans HBk1.out.2
  have H2 := Lib.hid (And.intro (H1.out.1.keepO (KeepO.of_below hb1)) (And.intro (H1.out.2.1.keepO (KeepO.of_below hb1)) (H1.out.2.2.trans (hb1.mono H1.out.2.2.size))))
  clear c0 c1 c2 c3 c4 d0 d1 d2 d3 d4
  obtain ⟨c0, c1, c2, c3, c4⟩ := cells5 k1
  obtain ⟨d0, d1, d2, d3, d4⟩ := cells5 k2
  clear k1 k2 hb1 HP H1 HBk1
  cases r2 with
  | false =>
    have HE := Lib.hid H2.out.2.2
    clear H2 c0 c1 c2 c3 c4 d0 d1 d2 d3 d4 HY
    go_wp2_with fail
    go_ret
    exact ⟨rfl, HE.out⟩
  | true =>
  go_wp2_with (go_at_call 35; fail)
  refine (HY.out _ H2.out.1.2.2 H2.out.2.1.2.2).mono ?_
  rintro e w3 ⟨rfl, hb1⟩
  have HE := Lib.hid (H2.out.2.2.trans (hb1.mono H2.out.2.2.size))
  clear hb1 HY H2 c0 c1 c2 c3 c4 d0 d1 d2 d3 d4
  go_wp2_with fail
  go_ret
  exact ⟨by simp, HE.out⟩
end Go.Proofs.YtdidgddcgjpokaaGreatDoor
/- scheme: its last statement, a region of 9 operations that draws its order, by an invariant. (Made by a program.) -/
namespace Go.Proofs.YtdidgddcgjpokaaGreatDoor
open Go.RowKit Go.Sort Go.Lib
attribute [local go_sem] Oper.semAt_some

noncomputable def nclOps : Array Oper := regionIn 3 (Tryz.f16.body.getD .skip)
def nclFr (b : Nat → Value) (d : List Deferred) (x : Nat → Value) : Act := { tmps := #[b 0, b 1, b 2, b 3, b 4, b 5, b 6, b 7, b 8, b 9, b 10, b 11, b 12, b 13, b 14, b 15, b 16, b 17, b 18, x 0, x 1, x 2, x 3, x 4, x 5, x 6, x 7], defers := d }

def nclVals (xa ta : Option Addr) (xc tc : Nat) (t : T) (lc : List Pr) (ga : Option Addr) (gn gc : Nat) (i : Nat) (v : Value) (V : World) : Prop :=
  match i with
  | 0 => v = .slice ga gn gc
  | 1 => v = .agg #[.slice none 0 0]
  | 2 => v = .slice xa lc.length xc
  | 3 => ∃ zp zq, v = .slice zp lc.length zq ∧ PrsAt V (.slice zp lc.length zq) lc
  | 4 => v = .agg #[.slice none 0 0]
  | 5 => v = .agg #[.int .i64 (t).kind, .string (t).name, .slice ta (t).kids.length tc]
  | 6 => ∃ za zc, v = .agg #[.int .i64 (t).kind, .string (t).name, .slice za (t).kids.length zc] ∧ TysAt V (.slice za t.kids.length zc) t.kids
  | 7 => ∃ zp zq za zc, v = .agg #[.slice ga gn gc, .slice zp lc.length zq, .int .i64 t.kind, .string t.name, .slice za t.kids.length zc] ∧ (PrsAt V (.slice zp lc.length zq) lc ∧ TysAt V (.slice za t.kids.length zc) t.kids)
  | _ => True

theorem nclVals_keep {xa ta : Option Addr} {xc tc : Nat} {t : T} {lc : List Pr} {ga : Option Addr} {gn gc : Nat} (i : Nat) (v : Value) (V Y : World) (h : nclVals xa ta xc tc t lc ga gn gc i v V) (hb : Below V.heap.size V Y) : nclVals xa ta xc tc t lc ga gn gc i v Y := by
  unfold nclVals at *
  split at h <;> first
    | exact h
    | (obtain ⟨zp, zq, e, h⟩ := h; exact ⟨zp, zq, e, h.belowG hb⟩)
    | (obtain ⟨za, zc, e, h⟩ := h; exact ⟨za, zc, e, h.keep (KeepT.of_below hb)⟩)
    | (obtain ⟨zp, zq, za, zc, e, h⟩ := h; exact ⟨zp, zq, za, zc, e, ⟨h.1.belowG hb, h.2.keep (KeepT.of_below hb)⟩⟩)

theorem ncl_size : nclOps.size = 9 := by kernel_rfl
theorem ncl_cov : covered nclOps 8 = true := by kernel_rfl
set_option linter.unusedSimpArgs false in
set_option maxRecDepth 100000 in
set_option maxHeartbeats 8000000 in
theorem ncl_region {w : World} {b4 b6 b9 : Nat} {xa ta ga : Option Addr} {xc tc gn gc : Nat} {t : T} {lc : List Pr} {gxs : List ByteArray} {b : Nat → Value} {d : List Deferred}
    (h0 : b 0 = .slice xa lc.length xc) (h4 : b 4 = .pointer (some ⟨b4, 0, none⟩)) (h6 : b 6 = .pointer (some ⟨b6, 0, none⟩)) (h8 : b 8 = .slice ga gn gc) (h9 : b 9 = .pointer (some ⟨b9, 0, none⟩))
    (HC3 : ∀ V, (SC w b4 b6 b9 t ta tc V ∧ TextsAt V (.slice ga gn gc) gxs ∧ PrsAt V (.slice xa lc.length xc) lc) → Calls Tryz.prog 40 #[.agg #[.slice none 0 0], .slice xa lc.length xc] V fun e Y => (∃ zp zq, e = .returned (.slice zp lc.length zq) ∧ PrsAt Y (.slice zp lc.length zq) lc) ∧ Below V.heap.size V Y)
    (HC6 : ∀ V, (SC w b4 b6 b9 t ta tc V ∧ TextsAt V (.slice ga gn gc) gxs ∧ PrsAt V (.slice xa lc.length xc) lc) → Calls Tryz.prog 41 #[.agg #[.slice none 0 0], .agg #[.int .i64 (t).kind, .string (t).name, .slice ta (t).kids.length tc]] V fun e Y => (∃ za zc, e = .returned (.agg #[.int .i64 (t).kind, .string (t).name, .slice za (t).kids.length zc]) ∧ TysAt Y (.slice za t.kids.length zc) t.kids) ∧ Below V.heap.size V Y)
    {Q : Exit → Act → World → Prop} {ops : Array Oper} (hops : ops = nclOps) (x0 : Nat → Value) (X : World) (hS : (SC w b4 b6 b9 t ta tc X.drew ∧ TextsAt X.drew (.slice ga gn gc) gxs ∧ PrsAt X.drew (.slice xa lc.length xc) lc))
    (hfin : ∀ (x : Nat → Value) V zp zq za zc, (SC w b4 b6 b9 t ta tc V ∧ TextsAt V (.slice ga gn gc) gxs ∧ PrsAt V (.slice xa lc.length xc) lc) → (PrsAt V (.slice zp lc.length zq) lc ∧ TysAt V (.slice za t.kids.length zc) t.kids) → Q .normal (nclFr b d x) (set5 V b6 (.slice ga gn gc) (.slice zp lc.length zq) (.int .i64 t.kind) (.string t.name) (.slice za t.kids.length zc))) : (Code.region 3 ops true).wp Tryz.prog Q (nclFr b d x0) X := by
  have HC := Lib.hid (And.intro HC3 HC6)
  clear HC3 HC6
  have hszo : ops.size = 8 + 1 := by rw [hops]; exact ncl_size
  have hcovo : covered ops 8 = true := by rw [hops]; exact ncl_cov
  refine region_last (nclFr b d) (fun V => (SC w b4 b6 b9 t ta tc V ∧ TextsAt V (.slice ga gn gc) gxs ∧ PrsAt V (.slice xa lc.length xc) lc)) (fun V Y => Below V.heap.size V Y) (nclVals xa ta xc tc t lc ga gn gc) x0 8 (by kernel_rfl) rfl hS hszo hcovo (fun V Y h hb => ⟨h.1.below hb, h.2.1.below hb, h.2.2.belowG hb⟩) (fun i v V Y _ h hb => nclVals_keep i v V Y h hb) ?_
  have HFIN := Lib.hid hfin
  clear hfin hS hszo hcovo
  obtain ⟨gl, hgl⟩ : ∃ qq, LastAt Tryz.prog (nclFr b d) (fun V => (SC w b4 b6 b9 t ta tc V ∧ TextsAt V (.slice ga gn gc) gxs ∧ PrsAt V (.slice xa lc.length xc) lc)) (nclVals xa ta xc tc t lc ga gn gc) ops Q 8 = qq := ⟨_, rfl⟩
  rw [hgl]
  obtain ⟨f, hf⟩ : ∃ qq, StepAt Tryz.prog (nclFr b d) (fun V => (SC w b4 b6 b9 t ta tc V ∧ TextsAt V (.slice ga gn gc) gxs ∧ PrsAt V (.slice xa lc.length xc) lc)) (fun V Y => Below V.heap.size V Y) (nclVals xa ta xc tc t lc ga gn gc) ops Q = qq := ⟨_, rfl⟩
  rw [hf, hops]
  simp only [nclOps, Tryz.f16, regionIn, Option.getD_some, Nat.reduceBEq, Bool.false_eq_true, if_false, if_true, beq_self_eq_true, Array.append_empty, Array.empty_append, List.append_eq, List.cons_append, List.nil_append, AllBut, Nat.reduceAdd, Nat.zero_add]
  -- 0: slot 19 := Op.move t8
  refine And.intro ?_ ?_
  · clear HFIN hgl
    rw [← hf]; clear hf
    refine ⟨by decide +kernel, fun x v => by kernel_rfl, fun x V hV hdep K hK => ?_⟩
    clear hdep
    refine run_bare (by kernel_rfl) ?_
    unfold nclFr
    go_simp
    refine kfit (hK _ _ (Below.refl _ V) rfl) ?_
    first | (simp only [nclFr, Act.put, List.setIfInBounds_toArray, List.set_cons_zero, List.set_cons_succ, h0, h4, h6, h8, h9]; done) | (simp only [nclFr, Act.put, List.setIfInBounds_toArray, List.set_cons_zero, List.set_cons_succ, h0, h4, h6, h8, h9]; rfl)
  -- 1: slot 20 := Op.load 73 t9
  refine And.intro ?_ ?_
  · clear HFIN hgl
    rw [← hf]; clear hf
    refine ⟨by decide +kernel, fun x v => by kernel_rfl, fun x V hV hdep K hK => ?_⟩
    clear hdep
    refine run_bare (by kernel_rfl) ?_
    unfold nclFr
    obtain ⟨y0, y1, y2⟩ := hV.1.1.cells; have y5 := hV.1.2.2.1.cell
    go_simp
    refine kfit (hK _ _ (Below.refl _ V) rfl) ?_
    first | (simp only [nclFr, Act.put, List.setIfInBounds_toArray, List.set_cons_zero, List.set_cons_succ, h0, h4, h6, h8, h9]; done) | (simp only [nclFr, Act.put, List.setIfInBounds_toArray, List.set_cons_zero, List.set_cons_succ, h0, h4, h6, h8, h9]; rfl)
  -- 2: slot 21 := Op.move t0
  refine And.intro ?_ ?_
  · clear HFIN hgl
    rw [← hf]; clear hf
    refine ⟨by decide +kernel, fun x v => by kernel_rfl, fun x V hV hdep K hK => ?_⟩
    clear hdep
    refine run_bare (by kernel_rfl) ?_
    unfold nclFr
    go_simp
    refine kfit (hK _ _ (Below.refl _ V) rfl) ?_
    first | (simp only [nclFr, Act.put, List.setIfInBounds_toArray, List.set_cons_zero, List.set_cons_succ, h0, h4, h6, h8, h9]; done) | (simp only [nclFr, Act.put, List.setIfInBounds_toArray, List.set_cons_zero, List.set_cons_succ, h0, h4, h6, h8, h9]; rfl)
  -- 3: slot 22 := Op.call { value (Operand.func 40), args := #[t20, t21], argT
  refine And.intro ?_ ?_
  · clear HFIN hgl
    rw [← hf]; clear hf
    refine ⟨by decide +kernel, fun x v => by kernel_rfl, fun x V hV hdep K hK => ?_⟩
    have e1 : x 1 = .agg #[.slice none 0 0] := depOf hdep 1 (by decide +kernel)
    have e2 : x 2 = .slice xa lc.length xc := depOf hdep 2 (by decide +kernel)
    clear hdep
    refine run_bare (by kernel_rfl) ?_
    unfold nclFr
    obtain ⟨HC3, HC6⟩ := HC.out
    clear HC6
    have H := HC3 V hV
    replace H := Lib.hid H; clear HC3
    go_simp
    go_at_call 40
    refine H.out.mono ?_
    rintro e Y ⟨⟨zp, zq, rfl, hq⟩, hb⟩; refine kfit (hK _ _ hb ⟨zp, zq, rfl, hq⟩) ?_
    first | (simp only [nclFr, Act.put, List.setIfInBounds_toArray, List.set_cons_zero, List.set_cons_succ, h0, h4, h6, h8, h9, e1, e2]; done) | (simp only [nclFr, Act.put, List.setIfInBounds_toArray, List.set_cons_zero, List.set_cons_succ, h0, h4, h6, h8, h9, e1, e2]; rfl)
  -- 4: slot 23 := Op.load 73 t9
  refine And.intro ?_ ?_
  · clear HFIN hgl
    rw [← hf]; clear hf
    refine ⟨by decide +kernel, fun x v => by kernel_rfl, fun x V hV hdep K hK => ?_⟩
    clear hdep
    refine run_bare (by kernel_rfl) ?_
    unfold nclFr
    obtain ⟨y0, y1, y2⟩ := hV.1.1.cells; have y5 := hV.1.2.2.1.cell
    go_simp
    refine kfit (hK _ _ (Below.refl _ V) rfl) ?_
    first | (simp only [nclFr, Act.put, List.setIfInBounds_toArray, List.set_cons_zero, List.set_cons_succ, h0, h4, h6, h8, h9]; done) | (simp only [nclFr, Act.put, List.setIfInBounds_toArray, List.set_cons_zero, List.set_cons_succ, h0, h4, h6, h8, h9]; rfl)
  -- 5: slot 24 := Op.load 31 t4
  refine And.intro ?_ ?_
  · clear HFIN hgl
    rw [← hf]; clear hf
    refine ⟨by decide +kernel, fun x v => by kernel_rfl, fun x V hV hdep K hK => ?_⟩
    clear hdep
    refine run_bare (by kernel_rfl) ?_
    unfold nclFr
    obtain ⟨y0, y1, y2⟩ := hV.1.1.cells; have y5 := hV.1.2.2.1.cell
    go_simp
    refine kfit (hK _ _ (Below.refl _ V) rfl) ?_
    first | (simp only [nclFr, Act.put, List.setIfInBounds_toArray, List.set_cons_zero, List.set_cons_succ, h0, h4, h6, h8, h9]; done) | (simp only [nclFr, Act.put, List.setIfInBounds_toArray, List.set_cons_zero, List.set_cons_succ, h0, h4, h6, h8, h9]; rfl)
  -- 6: slot 25 := Op.call { value (Operand.func 41), args := #[t23, t24], argT
  refine And.intro ?_ ?_
  · clear HFIN hgl
    rw [← hf]; clear hf
    refine ⟨by decide +kernel, fun x v => by kernel_rfl, fun x V hV hdep K hK => ?_⟩
    have e4 : x 4 = .agg #[.slice none 0 0] := depOf hdep 4 (by decide +kernel)
    have e5 : x 5 = .agg #[.int .i64 (t).kind, .string (t).name, .slice ta (t).kids.length tc] := depOf hdep 5 (by decide +kernel)
    clear hdep
    refine run_bare (by kernel_rfl) ?_
    unfold nclFr
    obtain ⟨HC3, HC6⟩ := HC.out
    clear HC3
    have H := HC6 V hV
    replace H := Lib.hid H; clear HC6
    go_simp
    go_at_call 41
    refine H.out.mono ?_
    rintro e Y ⟨⟨za, zc, rfl, hq⟩, hb⟩; refine kfit (hK _ _ hb ⟨za, zc, rfl, hq⟩) ?_
    first | (simp only [nclFr, Act.put, List.setIfInBounds_toArray, List.set_cons_zero, List.set_cons_succ, h0, h4, h6, h8, h9, e4, e5]; done) | (simp only [nclFr, Act.put, List.setIfInBounds_toArray, List.set_cons_zero, List.set_cons_succ, h0, h4, h6, h8, h9, e4, e5]; rfl)
  -- 7: slot 26 := Op.build 33 #[(0, t19), (1, t22), (2, t25)]
  refine And.intro ?_ ?_
  · clear HFIN hgl
    rw [← hf]; clear hf
    refine ⟨by decide +kernel, fun x v => by kernel_rfl, fun x V hV hdep K hK => ?_⟩
    have e0 : x 0 = .slice ga gn gc := depOf hdep 0 (by decide +kernel)
    obtain ⟨zp3, zq3, e3, d3⟩ : ∃ zp3 zq3, x 3 = .slice zp3 lc.length zq3 ∧ PrsAt V (.slice zp3 lc.length zq3) lc := depOf hdep 3 (by decide +kernel)
    obtain ⟨za6, zc6, e6, d6⟩ : ∃ za6 zc6, x 6 = .agg #[.int .i64 (t).kind, .string (t).name, .slice za6 (t).kids.length zc6] ∧ TysAt V (.slice za6 t.kids.length zc6) t.kids := depOf hdep 6 (by decide +kernel)
    clear hdep
    refine run_bare (by kernel_rfl) ?_
    unfold nclFr
    go_simp
    refine kfit (hK _ _ (Below.refl _ V) ⟨zp3, zq3, za6, zc6, rfl, d3, d6⟩) ?_
    first | (simp only [nclFr, Act.put, List.setIfInBounds_toArray, List.set_cons_zero, List.set_cons_succ, h0, h4, h6, h8, h9, e0, e3, e6]; done) | (simp only [nclFr, Act.put, List.setIfInBounds_toArray, List.set_cons_zero, List.set_cons_succ, h0, h4, h6, h8, h9, e0, e3, e6]; rfl)
  -- 8: slot none := Op.store 33 t6 t26
  · clear HC
    rw [← hgl]; clear hgl
    refine ⟨by decide +kernel, fun x V hV hall K hK => ?_⟩
    obtain ⟨zp, zq, za, zc, e7, d7⟩ : ∃ (zp : Option Addr) (zq : Nat) (za : Option Addr) (zc : Nat), x 7 = .agg #[.slice ga gn gc, .slice zp lc.length zq, .int .i64 t.kind, .string t.name, .slice za t.kids.length zc] ∧ PrsAt V (.slice zp lc.length zq) lc ∧ TysAt V (.slice za t.kids.length zc) t.kids := hall 7 (by decide)
    clear hall
    refine run_bare (by kernel_rfl) ?_
    unfold nclFr
    obtain ⟨v0, v1, v2, v3, v4⟩ := cells5 hV.1.2.1
    have f0 := Lib.frozen_of_heap hV.1.2.1 0; have f1 := Lib.frozen_of_heap hV.1.2.1 1; have f2 := Lib.frozen_of_heap hV.1.2.1 2; have f3 := Lib.frozen_of_heap hV.1.2.1 3; have f4 := Lib.frozen_of_heap hV.1.2.1 4
    have H := Lib.hid (HFIN.out x V zp zq za zc hV d7)
    clear HFIN hV d7
    go_simp
    refine kfit (hK undef _ H.out) ?_
    first | (simp only [nclFr, Act.put, List.setIfInBounds_toArray, List.set_cons_zero, List.set_cons_succ, h0, h4, h6, h8, h9, e7]; done) | (simp only [nclFr, Act.put, List.setIfInBounds_toArray, List.set_cons_zero, List.set_cons_succ, h0, h4, h6, h8, h9, e7]; rfl)
theorem ncl_here {w : World} {b4 b6 b9 : Nat} {xa ta ga : Option Addr} {xc tc gn gc : Nat} {t : T} {lc : List Pr} {gxs : List ByteArray}
    (HC3 : ∀ V, (SC w b4 b6 b9 t ta tc V ∧ TextsAt V (.slice ga gn gc) gxs ∧ PrsAt V (.slice xa lc.length xc) lc) → Calls Tryz.prog 40 #[.agg #[.slice none 0 0], .slice xa lc.length xc] V fun e Y => (∃ zp zq, e = .returned (.slice zp lc.length zq) ∧ PrsAt Y (.slice zp lc.length zq) lc) ∧ Below V.heap.size V Y)
    (HC6 : ∀ V, (SC w b4 b6 b9 t ta tc V ∧ TextsAt V (.slice ga gn gc) gxs ∧ PrsAt V (.slice xa lc.length xc) lc) → Calls Tryz.prog 41 #[.agg #[.slice none 0 0], .agg #[.int .i64 (t).kind, .string (t).name, .slice ta (t).kids.length tc]] V fun e Y => (∃ za zc, e = .returned (.agg #[.int .i64 (t).kind, .string (t).name, .slice za (t).kids.length zc]) ∧ TysAt Y (.slice za t.kids.length zc) t.kids) ∧ Below V.heap.size V Y)
    {Q : Exit → Act → World → Prop} {ops : Array Oper} {a : Act} (X : World) (hops : ops = nclOps)
    (h0 : a.tmps.getD 0 undef = .slice xa lc.length xc) (h4 : a.tmps.getD 4 undef = .pointer (some ⟨b4, 0, none⟩)) (h6 : a.tmps.getD 6 undef = .pointer (some ⟨b6, 0, none⟩)) (h8 : a.tmps.getD 8 undef = .slice ga gn gc) (h9 : a.tmps.getD 9 undef = .pointer (some ⟨b9, 0, none⟩))
    (ha : a = nclFr (fun j => a.tmps.getD j undef) a.defers (fun i => a.tmps.getD (19 + i) undef)) (hS : (SC w b4 b6 b9 t ta tc X.drew ∧ TextsAt X.drew (.slice ga gn gc) gxs ∧ PrsAt X.drew (.slice xa lc.length xc) lc))
    (hfin : ∀ (x : Nat → Value) V zp zq za zc, (SC w b4 b6 b9 t ta tc V ∧ TextsAt V (.slice ga gn gc) gxs ∧ PrsAt V (.slice xa lc.length xc) lc) → (PrsAt V (.slice zp lc.length zq) lc ∧ TysAt V (.slice za t.kids.length zc) t.kids) → Q .normal (nclFr (fun j => a.tmps.getD j undef) a.defers x) (set5 V b6 (.slice ga gn gc) (.slice zp lc.length zq) (.int .i64 t.kind) (.string t.name) (.slice za t.kids.length zc))) : (Code.region 3 ops true).wp Tryz.prog Q a X :=
  cast (congrArg (fun z => (Code.region 3 ops true).wp Tryz.prog Q z X) ha.symm) (ncl_region (b := fun j => a.tmps.getD j undef) (d := a.defers) h0 h4 h6 h8 h9 HC3 HC6 hops _ X hS hfin)
end Go.Proofs.YtdidgddcgjpokaaGreatDoor
/- scheme.Close, of whatever context, with whatever is left out. -/
namespace Go.Proofs.YtdidgddcgjpokaaGreatDoor
open Go.RowKit Go.Sort Go.Lib
attribute [local go_sem] Oper.semAt_some

end Go.Proofs.YtdidgddcgjpokaaGreatDoor
/- scheme.setOf of a list of texts that came in. -/
namespace Go.Proofs.YtdidgddcgjpokaaGreatDoor
open Go.RowKit Go.Maps
attribute [local go_sem] Oper.semAt_some

set_option maxRecDepth 100000 in
set_option maxHeartbeats 2000000 in
theorem setOfS_any (l : List ByteArray) (hl : l.length ≤ 1000000) (hs : ∀ n ∈ l, n.size ≤ maxLen) (a : Option Addr) (c : Nat) (w : World) (h : StrsP (.slice a l.length c) l w) :
    Calls Tryz.prog 63 #[.slice a l.length c] w fun e w' => (∃ M, e = .returned (.map (some M)) ∧ SetV M l.length (inB l) w' ∧ w.heap.size ≤ M) ∧ Below w.heap.size w w' := by
  have HR := Lib.hid h
  have HS := Lib.hid hs
  have H0 := Lib.hid (SetV.start w)
  have hmm : ∀ n : Nat, (Instr.makeMap 93 (some (.int .i64 (n : Int)))).run Tryz.prog w = .ok (.map (some w.heap.size)) (w.alloc (.map #[] 0)) := fun n => by kernel_rfl
  have hb0 := Lib.hid ((Below.refl w.heap.size w).alloc (Nat.le_refl _) (.map #[] 0))
  clear h hs
  go_enter Tryz.func63, Tryz.ntmps63
  go_wp2
  go_loopw [11] (fun vi wr => ∃ i : Nat, i ≤ l.length ∧ vi = .int .i64 i ∧ Hid (SetV w.heap.size i (inB (l.take i)) wr ∧ Below w.heap.size w wr)) (fun vi _ => l.length - (intOf vi).toNat)
  case atStart => exact ⟨0, Nat.zero_le _, rfl, Lib.hid ⟨by have := H0.out; exact this, hb0.out⟩⟩
  case round =>
    obtain ⟨i, hi, rfl, hF⟩ := hrel
    by_cases hlt : i < l.length
    · have hltI : (i : Int) < (l.length : Int) := by omega
      obtain ⟨g, o, rfl, hg, hrd⟩ := HR.out.at (by omega)
      have hcell := (World.cell?_of_block (a := ⟨g, o + i, none⟩) (hF.out.2.block g hg)).trans (hrd i hlt)
      rw [show l.getD i ⟨#[]⟩ = l[i] by simp [List.getD, hlt]] at hcell
      obtain ⟨w6, hup, hM6, hg6⟩ := hF.out.1.upd (S' := inB (l.take (i + 1))) (by unfold maxLen; omega) l[i] (HS.out _ (List.getElem_mem hlt)) (fun k => inB_take hlt k)
      have H6 := Lib.hid (show SetV w.heap.size (i + 1) (inB (l.take (i + 1))) w6 ∧ Below w.heap.size w w6 from ⟨hM6, hF.out.2.grown hg6 hF.out.2.size (fun k e => by injection e with e; omega)⟩)
      have hgl : g < wr.heap.size := Nat.lt_of_lt_of_le hg hF.out.2.size
      clear hrd hM6 hg6 hF HR HS H0 hb0
      generalize l[i] = nm at *
      go_wp2
      go_roundw
      case rel => exact ⟨i + 1, by omega, by go_num, H6⟩
      case measure => simp [intOf]; omega
    · have hltI : ¬ ((i : Int) < (l.length : Int)) := by omega
      have hil : i = l.length := by omega
      rw [hil, List.take_length] at hF
      have HF := Lib.hid hF.out
      clear hF hil
      go_wp2
      go_ret
      exact ⟨⟨_, rfl, HF.out.1, Nat.le_refl _⟩, HF.out.2⟩
end Go.Proofs.YtdidgddcgjpokaaGreatDoor
/- scheme.split by a list of texts that came in. -/
namespace Go.Proofs.YtdidgddcgjpokaaGreatDoor
open Go.RowKit Go.Maps
attribute [local go_sem] Oper.semAt_some

set_option maxRecDepth 100000 in
set_option maxHeartbeats 4000000 in
theorem splitS_any (l1 l2 : List ByteArray) (hl1 : l1.length ≤ 1000000) (hl2 : l2.length ≤ 1000000) (hs1 : ∀ n ∈ l1, n.size ≤ 1000000) (hs2 : ∀ n ∈ l2, n.size ≤ maxLen) (a1 a2 : Option Addr) (c1 c2 : Nat) (w : World) (h1 : TextsAt w (.slice a1 l1.length c1) l1) (h2 : StrsP (.slice a2 l2.length c2) l2 w) :
    Calls Tryz.prog 37 #[.slice a1 l1.length c1, .slice a2 l2.length c2] w fun e w' =>
      (∃ vi vo, e = .returned (.tuple #[vi, vo]) ∧ TextsAt w' vi (l1.filter (inB l2)) ∧ TextsAt w' vo (l1.filter fun n => !inB l2 n)) ∧ Below w.heap.size w w' := by
  have HC := Lib.hid (setOfS_any l2 hl2 hs2 a2 c2 w h2)
  have H1 := Lib.hid h1
  have HS := Lib.hid hs1
  obtain ⟨i0, hi0, hz0, hz1, hz2⟩ := info_parts Tryz.infoStrS
  clear h1 h2 hs1 hs2
  go_enter Tryz.func37, Tryz.ntmps37
  go_wp2_with (go_at_call 63; fail)
  refine HC.out.mono ?_
  rintro e w1 ⟨⟨M, rfl, hM, hMb⟩, hb1⟩
  have H0 := Lib.hid (show SplI w M l2.length l1 l2 0 (.slice none 0 0) (.slice none 0 0) w1 from ⟨⟨OwnT.nil _ _, OwnT.nil _ _⟩, .inl rfl, hM, hb1⟩)
  have HMb := Lib.hid hMb
  clear hM hb1 HC hMb
  go_wp2_with (fail)
  go_loopw [4, 5, 15] (fun vi vo vk wr => ∃ i : Nat, i ≤ l1.length ∧ vk = .int .i64 i ∧ Hid (SplI w M l2.length l1 l2 i vi vo wr)) (fun _ _ vk _ => l1.length - (intOf vk).toNat)
  case atStart => exact ⟨0, Nat.zero_le _, rfl, H0⟩
  case round =>
    obtain ⟨i, hi, rfl, hF⟩ := hrel
    by_cases hlt : i < l1.length
    · have hltI : (i : Int) < (l1.length : Int) := by omega
      obtain ⟨⟨hvi, hvo⟩, hap, hM, hb⟩ := hF.out
      obtain ⟨g, rfl, hc, hg, hcell⟩ := H1.out.cell hb hlt
      have hlk := hM.look l1[i] (by have := HS.out _ (List.getElem_mem hlt); unfold maxLen; omega)
      have hwz := hb.size
      have hti := filter_take (p := inB l2) hlt
      have hto := filter_take (p := fun n => !inB l2 n) hlt
      have hlen1 : ((l1.take i).filter (inB l2)).length ≤ 1000000 := by have := List.length_filter_le (inB l2) (l1.take i); rw [List.length_take] at this; omega
      have hlen2 : ((l1.take i).filter fun n => !inB l2 n).length ≤ 1000000 := by have := List.length_filter_le (fun n => !inB l2 n) (l1.take i); rw [List.length_take] at this; omega
      have HVI := Lib.hid hvi; have HVO := Lib.hid hvo; have HAP := Lib.hid hap; have HM := Lib.hid hM; have HB := Lib.hid hb
      have HNX := Lib.hid (fun vi vo (wr' : World) (h : OwnT w.heap.size vi ((l1.take (i + 1)).filter (inB l2)) wr' ∧ OwnT w.heap.size vo ((l1.take (i + 1)).filter fun n => !inB l2 n) wr') (h2 : vi.ownBlock = none ∨ vi.ownBlock ≠ vo.ownBlock) (h3 : SetV M l2.length (inB l2) wr') (h4 : Below w.heap.size w wr') => (show SplI w M l2.length l1 l2 (i + 1) vi vo wr' from ⟨h, h2, h3, h4⟩))
      rw [hti, hto] at HNX
      clear hvi hvo hap hM hb hF hti hto H0
      obtain ⟨p, hp⟩ : ∃ p, (l1.take i).filter (inB l2) = p := ⟨_, rfl⟩
      obtain ⟨q, hq⟩ : ∃ q, ((l1.take i).filter fun n => !inB l2 n) = q := ⟨_, rfl⟩
      rw [hp] at HVI HNX hlen1
      rw [hq] at HVO HNX hlen2
      clear hp hq
      generalize l1[i] = nm at *
      cases hin : inB l2 nm with
      | true =>
        rw [hin] at hlk HNX
        simp only [if_true, Bool.not_true, Bool.false_eq_true, if_false] at HNX
        go_wp2_with (at_builtin; refine wpList_append_own_at _ rfl _ _ 23 rfl w.heap.size 9 i0 (.string ⟨#[]⟩) 1 16 Tryz.underlying23 hi0 hz0 hz1 hz2 rfl (by decide) _ _ _ rfl ((World.ownsRow.alloc HVI.out _).alloc _) ⟨wr.heap.size + 1, 0, none⟩ 1 1 [.string nm] rfl rfl (by have := cell_one_new (wr.alloc (.cells #[] 95)) (.string nm) 9; simpa using this) (by simp [Value.oneCell']) ?c3 ?c4 ?c5 ?_)
        case c3 => unfold maxLen; omega
        case c4 => omega
        case c5 => simp; omega
        intro v4 W4 hown4 hgr4 _ hat4
        obtain ⟨k1, k2, k3, k4, k5⟩ := grown_apart HVI.out HVO.out HAP.out HM.out HB.out (Nat.le_refl _) hown4 hgr4 hat4
        have HE := Lib.hid (HNX.out v4 u5 W4 ⟨k1, k2⟩ k3 k4 k5)
        clear hown4 hgr4 hat4 k1 k2 k3 k4 k5
        go_wp2
        go_roundw
        case rel => exact ⟨i + 1, by omega, by go_num, HE⟩
        case measure => simp [intOf]; omega
      | false =>
        rw [hin] at hlk HNX
        simp only [if_true, Bool.not_false, Bool.false_eq_true, if_false] at HNX
        go_wp2_with (at_builtin; refine wpList_append_own_at _ rfl _ _ 23 rfl w.heap.size 9 i0 (.string ⟨#[]⟩) 1 16 Tryz.underlying23 hi0 hz0 hz1 hz2 rfl (by decide) _ _ _ rfl ((World.ownsRow.alloc HVO.out _).alloc _) ⟨wr.heap.size + 1, 0, none⟩ 1 1 [.string nm] rfl rfl (by have := cell_one_new (wr.alloc (.cells #[] 95)) (.string nm) 9; simpa using this) (by simp [Value.oneCell']) ?c3 ?c4 ?c5 ?_)
        case c3 => unfold maxLen; omega
        case c4 => omega
        case c5 => simp; omega
        intro v4 W4 hown4 hgr4 _ hat4
        obtain ⟨k1, k2, k3, k4, k5⟩ := grown_apart HVO.out HVI.out (apart_symm HAP.out) HM.out HB.out (Nat.le_refl _) hown4 hgr4 hat4
        have HE := Lib.hid (HNX.out u4 v4 W4 ⟨k2, k1⟩ (apart_symm k3) k4 k5)
        clear hown4 hgr4 hat4 k1 k2 k3 k4 k5
        go_wp2
        go_roundw
        case rel => exact ⟨i + 1, by omega, by go_num, HE⟩
        case measure => simp [intOf]; omega
    · have hltI : ¬ ((i : Int) < (l1.length : Int)) := by omega
      have hil : i = l1.length := by omega
      have hF2 := hF.out
      rw [hil] at hF2
      unfold SplI at hF2
      rw [List.take_length] at hF2
      obtain ⟨⟨hvi, hvo⟩, _, _, hb⟩ := hF2
      have HI := Lib.hid hvi.texts; have HO := Lib.hid hvo.texts; have HB := Lib.hid hb
      obtain ⟨xa, xc, hxi⟩ := hvi.shape
      obtain ⟨ya, yc, hxo⟩ := hvo.shape
      generalize (l1.filter (inB l2)).length = z1 at hxi
      generalize (l1.filter fun n => !inB l2 n).length = z2 at hxo
      subst hxi hxo
      clear hvi hvo hb hF hil H0
      go_wp2
      exact bodyPost_ret (v := .tuple #[.slice xa z1 xc, .slice ya z2 yc]) (by simp [results, Tryz.results37, go_sem]) rfl ⟨⟨_, _, rfl, HI.out, HO.out⟩, HB.out⟩
end Go.Proofs.YtdidgddcgjpokaaGreatDoor
/- scheme.Close, what is left out came in. -/
namespace Go.Proofs.YtdidgddcgjpokaaGreatDoor
open Go.RowKit Go.Sort Go.Lib
attribute [local go_sem] Oper.semAt_some

set_option maxRecDepth 100000 in
set_option maxHeartbeats 4000000 in
theorem closeS_any (V0 : List ByteArray) (t : T) (lc : List Pr) (xs L : List ByteArray) (hok : SOK V0 t lc) (hL : fvs [] [] (t :: lc.map (·.2)) = L) (hxs : ∀ n ∈ xs, n.size ≤ maxLen) (hxl : xs.length ≤ 1000000) (xa ta na : Option Addr) (xc tc nc : Nat) (w : World) (ht : TysAt w (.slice ta t.kids.length tc) t.kids) (hN : StrsP (.slice na xs.length nc) xs w) (hP : PrsAt w (.slice xa lc.length xc) lc) :
    Calls Tryz.prog 16 #[.slice xa lc.length xc, .agg #[.int .i64 t.kind, .string t.name, .slice ta t.kids.length tc], .slice na xs.length nc] w fun e w' =>
      (∃ va vc zp zq za zc, e = .returned (.agg #[.slice va (lft xs L).length vc, .slice zp lc.length zq, .int .i64 t.kind, .string t.name, .slice za t.kids.length zc]) ∧ TextsAt w' (.slice va (lft xs L).length vc) (lft xs L) ∧ PrsAt w' (.slice zp lc.length zq) lc ∧ TysAt w' (.slice za t.kids.length zc) t.kids) ∧ Below w.heap.size w w' := by
  have hb0 := below_two w (.cells #[.int .i64 t.kind, .string t.name, .slice ta t.kids.length tc] 31) (.cells #[.slice none 0 0, .slice none 0 0, .int .i64 0, .string ⟨#[]⟩, .slice none 0 0] 33)
  have hB0 := (BoxT.new ht).alloc (.cells #[.slice none 0 0, .slice none 0 0, .int .i64 0, .string ⟨#[]⟩, .slice none 0 0] 33)
  have hZ0 := new_two w (.cells #[.int .i64 t.kind, .string t.name, .slice ta t.kids.length tc] 31) (.cells #[.slice none 0 0, .slice none 0 0, .int .i64 0, .string ⟨#[]⟩, .slice none 0 0] 33)
  have H0 := Lib.hid (And.intro hB0 (And.intro (show Sch0 (w.heap.size + 1) _ from hZ0) (And.intro (hN.below hb0) (And.intro (hP.belowG hb0) hb0))))
  have HOk := Lib.hid hok
  have HAll := Lib.hid hok.all
  have HL := Lib.hid hL
  have HXS := Lib.hid hxs
  clear hb0 hB0 hZ0 ht hN hP hok hxs hL
  go_enter Tryz.func16, Tryz.ntmps16
  go_wp2_with (go_at_call 38; fail)
  refine (varsG_any t lc (fun u hu => (HOk.out.2.2 u hu).2.1) (by have := HOk.out.all.2.2.2; omega) (by have := HOk.out.2.1; omega) _ _ _ _ _ H0.out.1.2 H0.out.2.2.2.1).mono ?_
  rintro e w1 ⟨⟨v, rfl, hv1⟩, hb1⟩
  rw [HL.out] at hv1
  obtain ⟨va, vc, rfl⟩ := hv1.shape
  have H1 := Lib.hid (And.intro (H0.out.1.below hb1) (And.intro (H0.out.2.1.below hb1) (And.intro (H0.out.2.2.1.below hb1) (And.intro (H0.out.2.2.2.1.belowG hb1) (And.intro (H0.out.2.2.2.2.trans (hb1.mono H0.out.2.2.2.2.size)) hv1)))))
  clear hb1 hv1 H0
  go_wp2_with (go_at_call 37; fail)
  refine (splitS_any _ _ (by have := HAll.out.2.1; rw [HL.out] at this; omega) hxl (fun n hn => by have := HAll.out.2.2.1 n (by rw [HL.out]; exact hn); omega) HXS.out _ _ _ _ _ H1.out.2.2.2.2.2 H1.out.2.2.1).mono ?_
  rintro e w2 ⟨⟨vi, vo, rfl, hvi, hvo⟩, hb2⟩
  obtain ⟨ia, ic, rfl⟩ := hvi.shape
  obtain ⟨oa, oc, rfl⟩ := hvo.shape
  have hb3 := hb2.alloc hb2.size (.cells #[.slice none 0 0] 73)
  have HS := Lib.hid (show SC w w.heap.size (w.heap.size + 1) w2.heap.size t ta tc (w2.alloc (.cells #[.slice none 0 0] 73)) ∧ PrsAt (w2.alloc (.cells #[.slice none 0 0] 73)) (.slice xa lc.length xc) lc from ⟨⟨H1.out.1.below hb3, H1.out.2.1.below hb3, BoxS.new (sub_nil w2 none 0 (fun _ => rfl)), H1.out.2.2.2.2.1.trans (hb3.mono H1.out.2.2.2.2.1.size)⟩, H1.out.2.2.2.1.belowG hb3⟩)
  have HO := Lib.hid (hvo.below ((Below.refl _ w2).alloc (Nat.le_refl _) (.cells #[.slice none 0 0] 73)))
  clear hvi hvo hb2 hb3 H1 HXS
  obtain ⟨L2, hL2⟩ : ∃ M, (L.filter fun n => !inB xs n) = M := ⟨_, rfl⟩
  rw [hL2] at HO
  go_wp2_with (fail)
  refine ncl_here (w := w) (b4 := w.heap.size) (b6 := w.heap.size + 1) (b9 := w2.heap.size) (xa := xa) (ta := ta) (ga := oa) (xc := xc) (tc := tc) (gn := L2.length) (gc := oc) (t := t) (lc := lc) (gxs := L2)
    (fun V h => (predsG_any (.slice none 0 0) (.slice xa lc.length xc) [] lc V (by decide) (fun _ h => nomatch h) h.1.2.2.1.2 h.2.2 (fun q hq => by have := (HOk.out.2.2 q.2 (List.mem_cons_of_mem _ (List.mem_map.2 ⟨q, hq, rfl⟩))).2.2.1; omega) (by have := HOk.out.2.1; omega)).mono fun e Y hq => by
      obtain ⟨⟨ls, hm, rfl, hr, hty⟩, hb⟩ := hq
      rw [appP_nil] at hm
      have hll : ls.length = lc.length := by rw [← hm]; simp
      have hp := prs_of_rowG (cap := lc.length) hr hty (by omega)
      rw [hm, hll] at hp
      exact ⟨⟨_, _, rfl, hp⟩, hb⟩)
    (fun V h => (apply_any (d := []) (t := t) (s := .slice none 0 0) (w := V) (by decide) (fun x hx => nomatch hx) (by have := (HOk.out.2.2 t (List.mem_cons_self ..)).2.2.1; omega) h.1.2.2.1.2 h.1.1.2).mono fun e Y hq => by
      obtain ⟨⟨za, zc, rfl, hin⟩, hb⟩ := hq
      rw [app_nil] at hin ⊢
      exact ⟨⟨za, zc, rfl, hin.tys⟩, hb⟩)
    _ (by kernel_rfl) (by kernel_rfl) (by kernel_rfl) (by kernel_rfl) (by kernel_rfl) (by kernel_rfl) (by kernel_rfl) ⟨HS.out.1.below (below_d _), HO.out.below (below_d _), HS.out.2.belowG (below_d _)⟩ ?_
  intro x V zp zq za zc hV hT
  have hc := cells5 (set5_block hV.1.2.1 (.slice oa L2.length oc) (.slice zp lc.length zq) (.int .i64 t.kind) (.string t.name) (.slice za t.kids.length zc))
  have hkt : KeepT V (set5 V (w.heap.size + 1) (.slice oa L2.length oc) (.slice zp lc.length zq) (.int .i64 t.kind) (.string t.name) (.slice za t.kids.length zc)) := fun k cs fz hk => (set5_other _ _ _ _ _ _ _ (fun e => by subst e; rw [hV.1.2.1] at hk; simp at hk)).trans hk
  have hks : TextsAt (set5 V (w.heap.size + 1) (.slice oa L2.length oc) (.slice zp lc.length zq) (.int .i64 t.kind) (.string t.name) (.slice za t.kids.length zc)) (.slice oa L2.length oc) L2 := hV.2.1.keep fun k cs fz hk => (set5_other _ _ _ _ _ _ _ (fun e => by subst e; rw [hV.1.2.1] at hk; simp at hk)).trans hk
  have hkp := prs_set50 hV.1.2.1 hT.1 (.slice oa L2.length oc) (.slice zp lc.length zq) (.int .i64 t.kind) (.string t.name) (.slice za t.kids.length zc)
  have HEnd := Lib.hid (And.intro hks (And.intro hkp (And.intro (hT.2.keep hkt) (below_set5 hV.1.2.2.2 (show w.heap.size ≤ w.heap.size + 1 by omega) (.slice oa L2.length oc) (.slice zp lc.length zq) (.int .i64 t.kind) (.string t.name) (.slice za t.kids.length zc)))))
  generalize set5 V (w.heap.size + 1) (.slice oa L2.length oc) (.slice zp lc.length zq) (.int .i64 t.kind) (.string t.name) (.slice za t.kids.length zc) = Z at *
  clear hkt hks hkp hV hT HO HS
  simp only [nclFr]
  simp only [Array.getD_eq_getD_getElem?, List.getElem?_toArray, List.getElem?_cons_succ, List.getElem?_cons_zero, Option.getD_some]
  go_wp2
  subst hL2
  exact bodyPost_ret (v := .agg #[.slice oa (lft xs L).length oc, .slice zp lc.length zq, .int .i64 t.kind, .string t.name, .slice za t.kids.length zc]) (by simp [results, Tryz.results16, go_sem, lft, hc.1, hc.2.1, hc.2.2.1, hc.2.2.2.1, hc.2.2.2.2]) rfl ⟨⟨_, _, _, _, _, _, rfl, HEnd.out.1, HEnd.out.2.1, HEnd.out.2.2.1⟩, HEnd.out.2.2.2⟩
end Go.Proofs.YtdidgddcgjpokaaGreatDoor
/- paideiaref.Has of a list of texts that came in. -/
namespace Go.Proofs.YtdidgddcgjpokaaGreatDoor
open Go.RowKit
attribute [local go_sem] Oper.semAt_some

set_option maxHeartbeats 2000000 in
theorem placeS_any (l : List ByteArray) (hl : l.length ≤ 1000000000) (s : ByteArray) (a : Option Addr) (c : Nat) (w : World) (h : StrsP (.slice a l.length c) l w) :
    Calls Tryz.prog 57 #[.slice a l.length c, .string s] w fun e w' => (∃ r : Int, e = .returned (.int .i64 r) ∧ decide (0 ≤ r) = inB l s) ∧ w = w' := by
  have HR := Lib.hid h
  clear h
  go_enter Tryz.func57, Tryz.ntmps57
  go_wp2
  go_loop [5] (fun vi => ∃ i : Nat, i ≤ l.length ∧ vi = .int .i64 i ∧ Hid (∀ j (hj : j < l.length), j < i → ¬ l[j] = s)) (fun vi => l.length - (intOf vi).toNat)
  case atStart => exact ⟨0, Nat.zero_le _, rfl, Lib.hid fun j _ h => absurd h (by omega)⟩
  case round =>
    obtain ⟨i, hi, rfl, hS⟩ := hrel
    by_cases hlt : i < l.length
    · obtain ⟨g, o, rfl, hg, hh⟩ := HR.out.at (by omega)
      have x0 := hh i hlt
      rw [show l.getD i ⟨#[]⟩ = l[i] by simp [List.getD, hlt]] at x0
      have hb : (l[i].toList == s.toList) = eqB l[i] s := bytes_beq _ _
      have HE := Lib.hid (show l[i] = l[i] from rfl)
      obtain ⟨u, hu⟩ : ∃ u, l[i] = u := ⟨_, rfl⟩
      have HU := Lib.hid hu
      rw [hu] at x0 hb
      clear hh hu HR HE
      have hlt1 : ((i : Int) < (l.length : Int)) := by omega
      by_cases hq : u = s
      · rw [eqB_true hq] at hb
        have HQ := Lib.hid hq
        clear hq
        go_wp2
        go_ret
        exact ⟨⟨(i : Int), rfl, by
          have : inB l s = true := inB_iff.2 (by rw [← HQ.out, ← HU.out]; exact List.getElem_mem hlt)
          rw [this]; simp⟩, rfl⟩
      · rw [eqB_false hq] at hb
        have HQ := Lib.hid hq
        clear hq
        go_wp2
        go_round
        case rel => exact ⟨i + 1, by omega, by go_num, Lib.hid fun j hj hji => by
          by_cases e : j = i
          · subst e; rw [HU.out]; exact HQ.out
          · exact hS.out j hj (by omega)⟩
        case measure => simp [intOf]; omega
    · obtain rfl : i = l.length := by omega
      clear HR
      go_wp2
      go_ret
      exact ⟨⟨-1, rfl, by rw [inB_false (fun j hj => hS.out j hj hj)]; rfl⟩, rfl⟩

set_option maxHeartbeats 2000000 in
theorem hasS_any (l : List ByteArray) (hl : l.length ≤ 1000000000) (s : ByteArray) (a : Option Addr) (c : Nat) (w : World) (h : StrsP (.slice a l.length c) l w) :
    Calls Tryz.prog 29 #[.slice a l.length c, .string s] w fun e w' => e = .returned (.bool (inB l s)) ∧ w = w' := by
  have HP := Lib.hid (placeS_any l hl s a c w h)
  clear h
  go_enter Tryz.func29, Tryz.ntmps29
  go_wp2_with (go_at_call 57; refine HP.out.mono ?_; rintro e w2 ⟨⟨r, rfl, hr⟩, rfl⟩)
  go_ret
  exact ⟨rfl, rfl⟩
end Go.Proofs.YtdidgddcgjpokaaGreatDoor
/- paideiaref4.Close, what is left out came in. -/
namespace Go.Proofs.YtdidgddcgjpokaaGreatDoor
open Go.RowKit Go.Sort Go.Lib
attribute [local go_sem] Oper.semAt_some

set_option maxRecDepth 100000 in
set_option maxHeartbeats 8000000 in
theorem rcloseS_any (nt : List ByteArray) (hnt : nt.length ≤ 1000000) (na : Option Addr) (nc : Nat) (t : T) (lc : List Pr) (L : List ByteArray) (hL : fvs [] [] (t :: lc.map (·.2)) = L) (hLn : L.length ≤ 1000000) (hs : tsizes (t :: lc.map (·.2)) ≤ 1000000000) (ta va : Option Addr) (tc vc : Nat) (w : World) (ht : TysAt w (.slice ta t.kids.length tc) t.kids) (hP : PrsAt w (.slice va lc.length vc) lc) (hn : lc.length ≤ 1000000) (hN : StrsP (.slice na nt.length nc) nt w) :
    Calls Tryz.prog 17 #[.slice va lc.length vc, .agg #[.int .i64 t.kind, .string t.name, .slice ta t.kids.length tc], .slice na nt.length nc] w fun e w' =>
      (∃ xa xc, e = .returned (.agg #[.slice xa (lft nt L).length xc, .slice va lc.length vc, .int .i64 t.kind, .string t.name, .slice ta t.kids.length tc]) ∧ TextsAt w' (.slice xa (lft nt L).length xc) (lft nt L)) ∧ Below w.heap.size w w' := by
  obtain ⟨i0, hi, hz0, hz1, hz2⟩ := info_parts Tryz.infoStrC
  have HB3 := Lib.hid (fun o1 o2 o3 => below_three w o1 o2 o3)
  have HN3 := Lib.hid (fun o1 o2 o3 => new_three w o1 o2 o3)
  have HNt := Lib.hid hN
  clear hN
  have HT := Lib.hid ht; have HP := Lib.hid hP; have HL := Lib.hid hL; have HS := Lib.hid hs
  clear ht hP hL hs
  go_enter Tryz.func17, Tryz.ntmps17
  go_wp2_with (go_at_call 36; fail)
  have hb0 := HB3.out (.cells #[.int .i64 t.kind, .string t.name, .slice ta t.kids.length tc] 31) (.cells #[.slice none 0 0, .slice none 0 0, .int .i64 0, .string ⟨#[]⟩, .slice none 0 0] 33) (.cells #[.slice none 0 0, .slice va lc.length vc, .int .i64 t.kind, .string t.name, .slice ta t.kids.length tc] 33)
  obtain ⟨n1, n2, n3⟩ := HN3.out (.cells #[.int .i64 t.kind, .string t.name, .slice ta t.kids.length tc] 31) (.cells #[.slice none 0 0, .slice none 0 0, .int .i64 0, .string ⟨#[]⟩, .slice none 0 0] 33) (.cells #[.slice none 0 0, .slice va lc.length vc, .int .i64 t.kind, .string t.name, .slice ta t.kids.length tc] 33)
  refine (rallc_any t lc ta va tc vc _ (HT.out.keep (KeepT.of_below hb0)) (HP.out.keep (KeepT.of_below hb0) (KeepP.of_below hb0)) hn).mono ?_
  rintro e w1 ⟨⟨aa, ac, rfl, ht1⟩, hb1⟩
  have HZ1 := Lib.hid (And.intro hb0 (And.intro hb1 (And.intro n2 n3)))
  have hT1 := rVars_any (t :: lc.map (·.2)) HS.out aa ac w1 (by simpa using ht1)
  simp only [List.length_cons, List.length_map] at hT1
  have HT1 := Lib.hid hT1
  clear hb0 hb1 n1 n2 n3 ht1 hT1
  go_wp2_with (go_at_call 28; fail)
  refine HT1.out.mono ?_
  rintro e W2 ⟨⟨v, rfl, hv⟩, hb2⟩
  rw [HL.out] at hv
  obtain ⟨la, ld, rfl⟩ := hv.shape
  have hq2 := HZ1.out.2.1.size
  have hq3 := hb2.size
  have hq1 : w.heap.size + 1 + 1 + 1 ≤ w1.heap.size := by simpa using hq2
  have hbx := (hb2.block _ (show w.heap.size + 1 + 1 < w1.heap.size by omega)).trans ((HZ1.out.2.1.block (w.heap.size + 1 + 1) (by simp)).trans HZ1.out.2.2.2)
  have hbz := (hb2.block _ (show w.heap.size + 1 < w1.heap.size by omega)).trans ((HZ1.out.2.1.block (w.heap.size + 1) (by simp)).trans HZ1.out.2.2.1)
  have HZ := Lib.hid hbz
  have HX := Lib.hid hv
  have HX2 := Lib.hid hv.strs
  have HI := Lib.hid (show CLJ (w.heap.size + 1 + 1) w W2 (.slice va lc.length vc) (.int .i64 t.kind) (.string t.name) (.slice ta t.kids.length tc) [] (.slice none 0 0) W2 from ⟨hbx, World.ownsRow_nil _ _ _ _, fun _ _ _ => rfl, HZ1.out.1.trans ((HZ1.out.2.1.trans (hb2.mono hq2)).mono (by simp; omega)), Nat.le_refl _⟩)
  have HXp := Lib.hid hbx
  have hp2 : w.heap.size + 1 + 1 < W2.heap.size := by omega
  clear hv hb2 hbx hbz HZ1 HT1 HB3 HN3 HT HP HS HL hq2 hq3 hq1
  go_wp2
  go_loopw [9] (fun vi wr => ∃ (i d m : Nat) (b : Option Addr) (M : List ByteArray), i ≤ L.length ∧ vi = .int .i64 i ∧ m ≤ i ∧ Hid (M = lft nt (L.take i) ∧ M.length = m) ∧ Hid (CLJ (w.heap.size + 1 + 1) w W2 (.slice va lc.length vc) (.int .i64 t.kind) (.string t.name) (.slice ta t.kids.length tc) M (.slice b m d) wr)) (fun vi _ => L.length - (intOf vi).toNat)
  case atStart => exact ⟨0, 0, 0, none, [], Nat.zero_le _, rfl, Nat.le_refl _, Lib.hid ⟨rfl, rfl⟩, HI⟩
  case round =>
    obtain ⟨i, d, m, b, M, hi', rfl, hmi, hM, hI⟩ := hrel
    clear HI
    by_cases hlt : i < L.length
    · obtain ⟨gL, oL, rfl, lL, cL⟩ := HX2.out.at (by omega)
      have hneL : gL ≠ w.heap.size + 1 + 1 := fun e => by
        obtain ⟨a', cap', e', hh⟩ := HX.out
        rcases hh with hh | ⟨g, eg, _, cs, fz, hg, _⟩
        · rw [hh] at hlt; exact absurd hlt (Nat.not_lt_zero _)
        · have : g = gL := by have := congrArg (fun v => match v with | Value.slice (some a) _ _ => a.block | _ => 0) e'; rw [eg] at this; exact this.symm
          subst this
          rw [e, HXp.out] at hg
          simp at hg
      have xL : wr.cell? ⟨gL, oL + i, none⟩ = some (.string (L.getD i ⟨#[]⟩)) := (World.cell?_of_block (a := ⟨gL, oL + i, none⟩) (hI.out.2.2.1 gL lL hneL)).trans (cL i hlt)
      have HSt := Lib.hid (fun (o : Obj) (W5 : World) (g cap : Nat) => hI.out.step (o := o) (W5 := W5) (g := g) (cap := cap) (x := L.getD i ⟨#[]⟩) hp2 (by omega) hM.out.2)
      have HSn := Lib.hid (lft_snoc nt L hlt)
      obtain ⟨x0, x1, x2, x3, x4⟩ := cells5 hI.out.1
      have hz := hI.out.2.2.2.2
      have hbl : gL < wr.heap.size := by omega
      have hpl : w.heap.size + 1 + 1 < wr.heap.size := by omega
      have HR := Lib.hid hI.out.2.1
      have HBx := Lib.hid hI.out.1
      have hlI : (i : Int) < (L.length : Int) := by omega
      have hHas := hasS_any nt (by omega) (L.getD i ⟨#[]⟩) na nc wr (HNt.out.below hI.out.2.2.2.1)
      clear cL
      obtain ⟨f, hf⟩ : ∃ f, L.getD i ⟨#[]⟩ = f := ⟨_, rfl⟩
      rw [hf] at xL HSt HSn hHas
      clear hf
      obtain ⟨r, hr⟩ : ∃ r, inB nt f = r := ⟨_, rfl⟩
      rw [hr] at hHas HSn
      have HHas := Lib.hid hHas
      clear hHas hr
      cases r with
      | true =>
        have hMn : M = lft nt (L.take (i + 1)) := by rw [HSn.out, if_pos rfl]; exact hM.out.1
        have HMn := Lib.hid (And.intro hMn hM.out.2)
        clear hMn hM
        go_wp2_with (go_at_call 29; refine HHas.out.mono ?_; rintro e w' ⟨rfl, rfl⟩)
        go_roundw
        case rel => exact ⟨i + 1, _, m, _, M, by omega, by go_num, by omega, HMn, hI⟩
        case measure => simp [intOf]; omega
      | false =>
      have hMn : M ++ [f] = lft nt (L.take (i + 1)) := by rw [HSn.out, if_neg (by simp)]; rw [hM.out.1]
      have HMn := Lib.hid (show M ++ [f] = lft nt (L.take (i + 1)) ∧ (M ++ [f]).length = m + 1 from ⟨hMn, by rw [List.length_append, hM.out.2]; rfl⟩)
      have hML := hM.out.2
      rw [hML] at HR
      clear hMn hM hML
      go_wp2_with (go_at_call 29; refine HHas.out.mono ?_; rintro e w' ⟨rfl, rfl⟩)
      go_region_law (refine step_append_lies _ (by rfl) _ _ _ (by rfl) W2.heap.size 9 i0 (.string ⟨#[]⟩) 1 16 Tryz.underlying23 hi hz0 hz1 hz2 rfl (by decide) _ _ _ (by rfl) (own_drew (HR.out.alloc _)) ⟨wr.heap.size, 0, none⟩ 1 1 [.string f] (by rfl) rfl (frz_one _ _ _) (by simp [Value.oneCell']) (by decide) (by unfold maxLen; omega) (by omega) (by simp; omega) _ rfl ?_; intro g cap W5 hown5 hgrow _ _; have HO5 := Lib.hid hown5; have HG5 := Lib.hid (show (wr.alloc _).grownBy W5 (Value.slice b m d).ownBlock from ⟨hgrow.os, hgrow.tape, hgrow.output, hgrow.size, hgrow.block⟩); have hx5 := (HG5.out.block (w.heap.size + 1 + 1) (by simp; omega) (fun e => by have := (HR.out.lt _ e.symm).1; omega)).trans ((Below.heap_alloc wr _ _ hpl).trans HBx.out); obtain ⟨y0, y1, y2, y3, y4⟩ := cells5 hx5; have fy := Lib.frozen_of_heap hx5 0; clear hown5 hgrow hx5)
      all_goals go_wp2
      all_goals
        go_roundw
        case rel => exact ⟨i + 1, _, m + 1, _, M ++ [f], by omega, by go_num, by omega, HMn, Lib.hid (HSt.out _ _ _ _ HG5.out HO5.out)⟩
        case measure => simp [intOf]; omega
    · obtain rfl : i = L.length := by omega
      obtain ⟨hM1, hM2⟩ := hM.out
      rw [List.take_length] at hM1
      subst hM2
      subst hM1
      have hz1' := (hI.out.2.2.1 (w.heap.size + 1) (by omega) (by omega)).trans HZ.out
      obtain ⟨x0, x1, x2, x3, x4⟩ := cells5 hI.out.1
      obtain ⟨u0, u1, u2, u3, u4⟩ := cells5 hz1'
      have f0 := Lib.frozen_of_heap hz1' 0
      have f1 := Lib.frozen_of_heap hz1' 1
      have f2 := Lib.frozen_of_heap hz1' 2
      have f3 := Lib.frozen_of_heap hz1' 3
      have f4 := Lib.frozen_of_heap hz1' 4
      have HZ4 := Lib.hid hz1'
      clear hz1'
      go_wp2
      have hc := cells5 (set5_block HZ4.out (.slice b (lft nt L).length d) (.slice va lc.length vc) (.int .i64 t.kind) (.string t.name) (.slice ta t.kids.length tc))
      unfold set5 at hc
      have hrow := hI.out.2.1
      have hT := (TextsAt.of_row hrow).keep (w' := set5 wr (w.heap.size + 1) (.slice b (lft nt L).length d) (.slice va lc.length vc) (.int .i64 t.kind) (.string t.name) (.slice ta t.kids.length tc)) fun k cs fz hk => (set5_other _ _ _ _ _ _ _ (fun e => by subst e; rw [HZ4.out] at hk; simp at hk)).trans hk
      have hB := below_set5 hI.out.2.2.2.1 (show w.heap.size ≤ w.heap.size + 1 by omega) (.slice b (lft nt L).length d) (.slice va lc.length vc) (.int .i64 t.kind) (.string t.name) (.slice ta t.kids.length tc)
      exact bodyPost_ret (v := .agg #[.slice b (lft nt L).length d, .slice va lc.length vc, .int .i64 t.kind, .string t.name, .slice ta t.kids.length tc]) (by simp [results, Tryz.results17, go_sem, hc.1, hc.2.1, hc.2.2.1, hc.2.2.2.1, hc.2.2.2.2]) rfl ⟨⟨_, _, rfl, hT⟩, hB⟩
end Go.Proofs.YtdidgddcgjpokaaGreatDoor
/- The schemes that are made of numbers, their variables told. (Made by a program out of MakeScheme.) -/
namespace Go.Proofs.YtdidgddcgjpokaaGreatDoor
open Go.RowKit Go.Lib
attribute [local go_sem] Oper.semAt_some
attribute [local go_sem ↓] Go.wp_at_zero Go.wp_at_succ

theorem keepPz_mk {B p : Nat} {a : Option Addr} {n c k : Nat} {w w' : World} (h : MkFr B p w w') (hs : SeqAt B p a n c k w) : KeepP w w' := by
  intro i cs fz hi
  refine h.2 i _ hi fun e => ?_
  subst e
  have := hi.symm.trans hs.1.2
  simp at this
theorem keepPz_grown {W W' : World} {base : Nat} {e : TypeId} {size : Nat} {v : Value} {n : Nat} {xs : List Value} (hg : W.grownBy W' v.ownBlock) (h : W.ownsRow base e size v n xs) (he : e ≠ 55) : KeepP W W' := by
  intro k cs fz hk
  refine (hg.block k (Array.getElem?_eq_some_iff.1 hk).1 fun ee => ?_).trans hk
  rcases h.2 with ⟨rfl, _⟩ | ⟨g, cap, cur, rfl, _, hgb, _⟩
  · cases ee
  · obtain rfl : k = g := by simpa [Value.ownBlock] using ee
    rw [hk] at hgb
    cases hgb
    exact he rfl
theorem keepPz_else {r : Nat} {w w' : World} {cs : Array Value} {T : TypeId} {fz : Nat × Nat} (h : Else r w w') (hr : w.heap[r]? = some (.cells cs T fz)) (hT : T ≠ 55) : KeepP w w' := by
  intro k cs' fz' hk
  refine (h.block k fun e => ?_).trans hk
  subst e
  rw [hr] at hk
  cases hk
  exact hT rfl
theorem cell_new1Z (w : World) (x : Value) (t : TypeId) : ∀ j v, [x][j]? = some v → (w.alloc (.cells #[x] t)).cell? ((⟨w.heap.size, 0, none⟩ : Addr).add j) = some v := by
  intro j v hv
  have hadd : (⟨w.heap.size, 0, none⟩ : Addr).add j = ⟨w.heap.size, j, none⟩ := by unfold Addr.add; split <;> simp_all
  rw [hadd]
  have := alloc_new w (.cells #[x] t)
  simp only [World.cell?, this]
  match j, hv with
  | 0, hv => simpa using hv
  | n + 1, hv => simp at hv
theorem Tryz.infoStringZ : (Tryz.prog.info? 9).map (fun i => (i.zero, i.size, i.bytes)) = some (some (.string ⟨#[]⟩), 1, 16) := by kernel_rfl

def MadeSZ (B p : Nat) (a : Option Addr) (n c k : Nat) (w : World) (e : Ending) (w' : World) : Prop :=
  (∃ (xs : List ByteArray) (l : List Pr) (t : T) (xa ca ta : Option Addr) (xc cc tc : Nat), e = .returned (.agg #[.slice xa xs.length xc, .slice ca l.length cc, .int .i64 t.kind, .string t.name, .slice ta t.kids.length tc]) ∧ ((xs.length ≤ 4 ∧ ∀ y ∈ xs, y.size ≤ 1000) ∧ (l.length ≤ 3 ∧ ∀ q ∈ l, (T.Good q.2 ∧ Fits q.2 ∧ (T.text q.2).length + 10 ≤ 14)) ∧ T.Good t ∧ Fits t ∧ (T.text t).length + 10 ≤ 112) ∧ SmD t l xs ta ca xa tc cc xc w') ∧ (∃ k', k' ≤ k + 100 ∧ SeqAt B p a n c k' w') ∧ MkFr B p w w'

/-- What the loop holds. -/
def SchInvZ (B p : Nat) (a : Option Addr) (n c k r4 bx bf base : Nat) (l : List Pr) (t : T) (cv v : Value) (w0 : World) (i : Nat) (w : World) : Prop :=
  (∃ (vs : Value) (ys : List ByteArray), w.heap[bx]? = some (.cells #[vs, cv, .int .i64 t.kind, .string t.name, v] 33 (0, 0)) ∧ w.ownsRow base 9 1 vs ys.length (ys.map Value.string) ∧ ys.length ≤ i ∧ ∀ y ∈ ys, y.size ≤ 1000) ∧
  w.heap[r4]? = some (.cells #[.slice none 0 0, .slice none 0 0, .int .i64 0, .string ⟨#[]⟩, .slice none 0 0] 33 (0, 0)) ∧
  w.heap[bf]? = some (.cells #[.string ⟨#[97]⟩, .string ⟨#[98]⟩, .string ⟨#[99]⟩, .string ⟨#[100]⟩] 9 (0, 0)) ∧
  (∃ k', k' ≤ k + i ∧ SeqAt B p a n c k' w) ∧ MkFr B p w0 w ∧ PrsAt w cv l ∧ TysAt w v t.kids

theorem SchInvZ.mk {B p : Nat} {a : Option Addr} {n c k r4 bx bf base k' i : Nat} {l : List Pr} {t : T} {cv v : Value} {w0 w w' : World} (h : SchInvZ B p a n c k r4 bx bf base l t cv v w0 i w) (hs : SeqAt B p a n c k' w) (hs' : SeqAt B p a n c (k' + 1) w') (hk : k' ≤ k + i) (hf : MkFr B p w w')
    (h1 : bx ≠ p) (h2 : r4 ≠ p) (h3 : bf ≠ p) (hb : p < base) : SchInvZ B p a n c k r4 bx bf base l t cv v w0 (i + 1) w' := by
  obtain ⟨⟨vs, ys, a1, a2, a3, a3'⟩, a4, a5, _, a7, a8, a9⟩ := h
  exact ⟨⟨vs, ys, hf.2 _ _ a1 h1, own_keep a2 hf.2 hb, by omega, a3'⟩, hf.2 _ _ a4 h2, hf.2 _ _ a5 h3, ⟨k' + 1, by omega, hs'⟩, a7.trans hf, a8.keep (KeepT.of_mk hf hs) (keepPz_mk hf hs), a9.keep (KeepT.of_mk hf hs)⟩

theorem grow_keepsZ {W4 W5 : World} {O : Obj} {base : Nat} {e : TypeId} {size m : Nat} {vs : Value} {xs : List Value} (own : W4.ownsRow base e size vs m xs) (hgrow : (W4.alloc O).grownBy W5 vs.ownBlock) : ∀ j o, W4.heap[j]? = some o → j < base → W5.heap[j]? = some o := by
  intro j o hj hlt
  have hjl := (Array.getElem?_eq_some_iff.1 hj).1
  refine (hgrow.block j (by simp; omega) fun e => ?_).trans ((Below.heap_alloc W4 O j hjl).trans hj)
  have := (own.lt j e.symm).1
  omega
theorem SchInvZ.store {B p : Nat} {a : Option Addr} {n c k r4 bx bf base i m g cap : Nat} {l : List Pr} {t : T} {cv v vs : Value} {xs ys : List ByteArray} {w0 W4 W5 : World} {O : Obj} (h : SchInvZ B p a n c k r4 bx bf base l t cv v w0 i W4)
    (hx : W4.heap[bx]? = some (.cells #[vs, cv, .int .i64 t.kind, .string t.name, v] 33 (0, 0))) (own : W4.ownsRow base 9 1 vs m (xs.map Value.string)) (hyl : ys.length = m + 1) (hys : ∀ y ∈ ys, y.size ≤ 1000) (hm : m + 1 ≤ i) (hgrow : (W4.alloc O).grownBy W5 vs.ownBlock)
    (hown : W5.ownsRow base 9 1 (.slice (some ⟨g, 0, none⟩) (m + 1) cap) (m + 1) (ys.map Value.string)) (_ : w0.heap.size ≤ r4) (h1 : bx < base) (h2 : r4 < base) (h3 : bf < base) (h4 : p < base) (n1 : bx ≠ p) (n2 : r4 ≠ bx) (n3 : bf ≠ bx) (hB : B ≤ p) (hBx : w0.heap.size ≤ bx) (hb4 : base ≤ W4.heap.size) (hpw : p < w0.heap.size) :
    SchInvZ B p a n c k r4 bx bf base l t cv v w0 i (W5.setCell ⟨bx, 0, none⟩ (.slice (some ⟨g, 0, none⟩) (m + 1) cap)) := by
  obtain ⟨_, a4, a5, ⟨k', hk', hs⟩, a7, a8, a9⟩ := h
  have gk := grow_keepsZ own hgrow
  have hx5 := gk _ _ hx h1
  have he := Else.set W5 bx 0 (.slice (some ⟨g, 0, none⟩) (m + 1) cap)
  have hbel : Below B W4 W5 := ((Below.refl B W4).alloc (by omega) O).grown hgrow (by simp; omega) (fun j hj => by have := (own.lt j hj).1; omega)
  have hbel' := hbel.trans (he.below B (by omega))
  have kt : KeepT W4 (W5.setCell ⟨bx, 0, none⟩ (.slice (some ⟨g, 0, none⟩) (m + 1) cap)) := ((keepT_alloc W4 O).trans (KeepT.grown hgrow (own.alloc O) (by decide))).trans (KeepT.else he hx5 (by decide))
  have kp : KeepP W4 (W5.setCell ⟨bx, 0, none⟩ (.slice (some ⟨g, 0, none⟩) (m + 1) cap)) := ((keepP_alloc W4 O).trans (keepPz_grown hgrow (own.alloc O) (by decide))).trans (keepPz_else he hx5 (by decide))
  refine ⟨⟨_, ys, block_set (o := 0) hx5 _, ?_, by omega, hys⟩, (he.block _ n2).trans (gk _ _ a4 h2), (he.block _ n3).trans (gk _ _ a5 h3), ⟨k', hk', ⟨hs.1.1, (he.block _ (Ne.symm n1)).trans (gk _ _ hs.1.2 h4)⟩, hs.2.keep hbel'⟩, ⟨a7.1.trans hbel', ?_⟩, a8.keep kt kp, a9.keep kt⟩
  · rw [hyl]
    refine ⟨hown.1, ?_⟩
    rcases hown.2 with h | ⟨g', cap', cur, e, hb, hg, r⟩
    · exact .inl h
    · exact .inr ⟨g', cap', cur, e, hb, (he.block _ (by omega)).trans hg, r⟩
  · intro j o hj hjp
    have hjl := (Array.getElem?_eq_some_iff.1 hj).1
    exact (he.block _ (by omega)).trans (gk _ _ (a7.2 j o hj hjp) (by omega))
theorem set5_cellsZ {W : World} {r : Nat} {x0 y0 z0 u0 v0 : Value} {T : TypeId} (h : W.heap[r]? = some (.cells #[x0, y0, z0, u0, v0] T (0, 0))) (x y z u v : Value) :
    (((((W.setCell ⟨r, 0, none⟩ x).setCell ⟨r, 1, none⟩ y).setCell ⟨r, 2, none⟩ z).setCell ⟨r, 3, none⟩ u).setCell ⟨r, 4, none⟩ v).cell? ⟨r, 0, none⟩ = some x ∧ (((((W.setCell ⟨r, 0, none⟩ x).setCell ⟨r, 1, none⟩ y).setCell ⟨r, 2, none⟩ z).setCell ⟨r, 3, none⟩ u).setCell ⟨r, 4, none⟩ v).cell? ⟨r, 1, none⟩ = some y ∧ (((((W.setCell ⟨r, 0, none⟩ x).setCell ⟨r, 1, none⟩ y).setCell ⟨r, 2, none⟩ z).setCell ⟨r, 3, none⟩ u).setCell ⟨r, 4, none⟩ v).cell? ⟨r, 2, none⟩ = some z ∧ (((((W.setCell ⟨r, 0, none⟩ x).setCell ⟨r, 1, none⟩ y).setCell ⟨r, 2, none⟩ z).setCell ⟨r, 3, none⟩ u).setCell ⟨r, 4, none⟩ v).cell? ⟨r, 3, none⟩ = some u ∧ (((((W.setCell ⟨r, 0, none⟩ x).setCell ⟨r, 1, none⟩ y).setCell ⟨r, 2, none⟩ z).setCell ⟨r, 3, none⟩ u).setCell ⟨r, 4, none⟩ v).cell? ⟨r, 4, none⟩ = some v :=
  cells5 (block_set (o := 4) (block_set (o := 3) (block_set (o := 2) (block_set (o := 1) (block_set (o := 0) h x) y) z) u) v)
theorem else_set5 (W : World) (r : Nat) (x y z u v : Value) : Else r W (((((W.setCell ⟨r, 0, none⟩ x).setCell ⟨r, 1, none⟩ y).setCell ⟨r, 2, none⟩ z).setCell ⟨r, 3, none⟩ u).setCell ⟨r, 4, none⟩ v) := ((((Else.set _ _ _ _).trans (Else.set _ _ _ _)).trans (Else.set _ _ _ _)).trans (Else.set _ _ _ _)).trans (Else.set _ _ _ _)
theorem with_worldZ {P : Program} {c : Code} {Q : Exit → Act → World → Prop} {a : Act} {w : World} (S : World → Prop) (h : S w) (k : ∀ W, S W → Code.wp P c Q a W) : Code.wp P c Q a w := k w h
theorem free_atZ {W : World} {bf : Nat} (h : W.heap[bf]? = some (.cells #[.string ⟨#[97]⟩, .string ⟨#[98]⟩, .string ⟨#[99]⟩, .string ⟨#[100]⟩] 9 (0, 0))) (i : Nat) (hi : i < 4) : ∃ s : ByteArray, W.cell? ⟨bf, i, none⟩ = some (.string s) ∧ s.size ≤ 1000 := by
  rw [Lib.cell_of_heap h]
  match i, hi with
  | 0, _ => exact ⟨_, rfl, by decide⟩
  | 1, _ => exact ⟨_, rfl, by decide⟩
  | 2, _ => exact ⟨_, rfl, by decide⟩
  | 3, _ => exact ⟨_, rfl, by decide⟩
  | n + 4, hi => omega

set_option maxRecDepth 100000 in
set_option maxHeartbeats 8000000 in
theorem make_schemeZ (B p : Nat) (a : Option Addr) (n c k : Nat) (w : World) (h : SeqAt B p a n c k w) (hk : k < 80000000000000000) (hn : n < 1152921504606846976) :
    Calls Tryz.prog 6 #[.pointer (some ⟨p, 0, none⟩)] w (MadeSZ B p a n c k w) := by
  have hp := h.lt
  obtain ⟨i0, hi, hz0, hz1, hz2⟩ := info_parts Tryz.infoStringZ
  have HB := Lib.hid h.1.1
  have HT' := Lib.hid (fun o => make_n3 B p a n c k (w.alloc o) (h.below ((Below.refl _ w).alloc (Nat.le_refl _) o)) (by omega) hn)
  have HNe := Lib.hid (show w.heap.size ≠ p by omega)
  clear h
  go_enter Tryz.func6, Tryz.ntmps6
  go_wp2_with (go_at_call 24; refine (HT'.out _).mono ?_)
  rintro e W1 ⟨⟨t, u, rfl, hg, hu⟩, ⟨k1, hk1, hs1⟩, hf1⟩
  obtain ⟨a1, n1, rfl⟩ := hu.shape
  have hz := hf1.2 _ _ (alloc_new w _) HNe.out
  have HZ := Lib.hid hz; have HU := Lib.hid hu.tys; have HS := Lib.hid hs1; have HF := Lib.hid hf1; have HG := Lib.hid hg
  have hzl := (Array.getElem?_eq_some_iff.1 hz).1
  have HPs := Lib.hid (fun o => make_predsG 3 0 2 14 (by decide) (by decide) B p a n c k1 (W1.alloc o) (hs1.below ((Below.refl _ W1).alloc (Nat.le_refl _) o)) (by omega) (fun k W hs hk => make_n0 B p a n c k W hs (by omega) hn) hn)
  clear hz hu hs1 hf1 hg
  simp only [tyV]
  go_wp2_with (go_at_call 7; refine (HPs.out _).mono ?_)
  rintro e W2 ⟨⟨l, cv, rfl, hgl, hpl⟩, ⟨k2, hk2, hs2⟩, hf2⟩
  obtain ⟨a2, n2, rfl⟩ := hpl.shape
  have HNe1 := Lib.hid (show W1.heap.size ≠ p by have := HS.out.lt; omega)
  have hx := hf2.2 _ _ (alloc_new W1 _) HNe1.out
  obtain ⟨x0, x1, x2, x3, x4⟩ := cells5 hx
  have fx1 := Lib.frozen_of_heap hx 1
  have hz2' := hf2.2 _ _ ((Below.heap_alloc W1 _ _ hzl).trans HZ.out) HNe.out
  have HX := Lib.hid hx; have HZ2 := Lib.hid hz2'; have HPl := Lib.hid hpl; have HS2 := Lib.hid hs2; have HF2 := Lib.hid hf2; have HGl := Lib.hid hgl
  have HUt := Lib.hid (HU.out.keep ((keepT_alloc W1 _).trans (KeepT.of_mk hf2 (HS.out.below ((Below.refl _ W1).alloc (Nat.le_refl _) _)))))
  clear hx hz2' hpl hs2 hf2 hgl
  go_wp2_with fail
  have hB := HB.out
  have hxl : W1.heap.size < W2.heap.size := (Array.getElem?_eq_some_iff.1 HX.out).1
  have hzl2 : w.heap.size < W2.heap.size := (Array.getElem?_eq_some_iff.1 HZ2.out).1
  have hpl := HS2.out.lt
  have hwx : w.heap.size < W1.heap.size := hzl
  refine with_worldZ (SchInvZ B p a n c k2 w.heap.size W1.heap.size W2.heap.size (W2.heap.size + 1) l t (.slice a2 l.length n2) (.slice a1 t.kids.length n1) w 0) ?_ ?_
  · have he := Else.set W2 W1.heap.size 1 (.slice a2 l.length n2)
    have hsz : (W2.setCell ⟨W1.heap.size, 1, none⟩ (.slice a2 l.length n2)).heap.size = W2.heap.size := by simp [World.setCell]
    have kt : KeepT W2 (W2.setCell ⟨W1.heap.size, 1, none⟩ (.slice a2 l.length n2)) := KeepT.else he HX.out (by decide)
    have kp : KeepP W2 (W2.setCell ⟨W1.heap.size, 1, none⟩ (.slice a2 l.length n2)) := keepPz_else he HX.out (by decide)
    have ha := fun (o : Obj) (j : Nat) (hj : j < W2.heap.size) => Below.heap_alloc (W2.setCell ⟨W1.heap.size, 1, none⟩ (.slice a2 l.length n2)) o j (by rw [hsz]; exact hj)
    have hb := (he.below B (by omega)).alloc (by rw [hsz]; omega) (.cells #[.string ⟨#[97]⟩, .string ⟨#[98]⟩, .string ⟨#[99]⟩, .string ⟨#[100]⟩] 9)
    refine ⟨⟨.slice none 0 0, [], (ha _ _ hxl).trans (block_set (o := 1) HX.out _), World.ownsRow_nil _ _ _ _, Nat.le_refl _, fun _ h => nomatch h⟩, (ha _ _ hzl2).trans ((he.block _ (by omega)).trans HZ2.out), ?_, ⟨k2, Nat.le_refl _, ⟨hB, (ha _ _ hpl).trans ((he.block _ (Ne.symm HNe1.out)).trans HS2.out.1.2)⟩, HS2.out.2.keep hb⟩, ⟨?_, ?_⟩, HPl.out.keep (kt.trans (keepT_alloc _ _)) (kp.trans (keepP_alloc _ _)), HUt.out.keep (kt.trans (keepT_alloc _ _))⟩
    · have := alloc_new (W2.setCell ⟨W1.heap.size, 1, none⟩ (.slice a2 l.length n2)) (.cells #[.string ⟨#[97]⟩, .string ⟨#[98]⟩, .string ⟨#[99]⟩, .string ⟨#[100]⟩] 9)
      rw [hsz] at this
      exact this
    · exact ((((Below.refl B w).alloc (by omega) _).trans HF.out.1).trans (((Below.refl B W1).alloc (by omega) _).trans HF2.out.1)).trans hb
    · intro j o hj hjp
      have hjl := (Array.getElem?_eq_some_iff.1 hj).1
      have h1 := HF.out.2 j o ((Below.heap_alloc w _ j hjl).trans hj) hjp
      have h2 := HF2.out.2 j o ((Below.heap_alloc W1 _ j (by omega)).trans h1) hjp
      exact (ha _ _ (by omega)).trans ((he.block _ (by omega)).trans h2)
  rintro W3 hI
  have HI := Lib.hid hI
  clear hI x0 x1 x2 x3 x4 fx1
  go_loopw [6] (fun vi wr => ∃ i : Nat, i ≤ 4 ∧ vi = .int .i64 i ∧ Hid (SchInvZ B p a n c k2 w.heap.size W1.heap.size W2.heap.size (W2.heap.size + 1) l t (.slice a2 l.length n2) (.slice a1 t.kids.length n1) w i wr)) (fun vi _ => 4 - (intOf vi).toNat)
  case atStart => exact ⟨0, by omega, rfl, HI⟩
  case round =>
    obtain ⟨i, hi4, rfl, hI⟩ := hrel
    by_cases hlt : i < 4
    · obtain ⟨k', hk', hs⟩ := hI.out.2.2.2.1
      have HSi := Lib.hid hs
      have HKi := Lib.hid hk'
      clear hs hk'
      go_wp2_with (go_at_call 30; refine (next_any B p a n c k' 3 _ HSi.out (by decide) (by decide) (by have := HKi.out; omega) hn).mono ?_)
      rintro e W4 ⟨⟨r, hr, rfl⟩, h1, h2⟩
      have HI4 := Lib.hid (hI.out.mk HSi.out h1 HKi.out h2 HNe1.out HNe.out (by omega) (by omega))
      obtain ⟨⟨vs, ys, b1, b2, b3, b4⟩, _⟩ := hI.out
      have HYs := Lib.hid b4
      obtain ⟨m, hym⟩ : ∃ m, ys.length = m := ⟨_, rfl⟩
      rw [hym] at b2 b3
      have HYm := Lib.hid hym
      clear hym b4
      have b1' := h2.2 _ _ b1 HNe1.out
      have b2' := own_keep b2 h2.2 (show p < W2.heap.size + 1 by omega)
      have hb4 : W2.heap.size + 1 ≤ W4.heap.size := by
        have := (Array.getElem?_eq_some_iff.1 HI4.out.2.2.1).1
        omega
      clear h1 h2 b1 b2
      by_cases hr0 : 0 < r
      · have hrI : (0 : Int) < (r : Int) := by omega
        obtain ⟨va, vc, rfl⟩ := row_val b2'
        obtain ⟨fs, hfs, hfz⟩ := free_atZ HI4.out.2.2.1 i hlt
        obtain ⟨x0, x1, x2, x3, x4⟩ := cells5 b1'
        have hbl : W2.heap.size < W4.heap.size := by omega
        have hbx : W1.heap.size < W4.heap.size := by omega
        have hlI : (i : Int) < 4 := by omega
        have HR := Lib.hid b2'
        have HFz := Lib.hid hfz
        clear hfz
        have HX4 := Lib.hid b1'
        have HGK := Lib.hid (fun W5 (O : Obj) (hg : (W4.alloc O).grownBy W5 (Value.slice va m vc).ownBlock) => grow_keepsZ HR.out hg)
        clear b1' b2'
        go_wp2_with fail
        go_region_law (refine step_append_lies _ (by rfl) _ _ _ (by rfl) (W2.heap.size + 1) 9 i0 (.string ⟨#[]⟩) 1 16 Tryz.underlying23 hi hz0 hz1 hz2 rfl (by decide) _ _ _ (by rfl) (own_drew (HR.out.alloc _)) ⟨W4.heap.size, 0, none⟩ 1 1 [.string fs] (by rfl) rfl (cell_new1Z _ _ _) (by simp [Value.oneCell']) (by decide) (by unfold maxLen; omega) (by omega) (by simp; omega) _ rfl ?_; intro g cap W5 hown5 hgrow _ _; have HO5 := Lib.hid hown5; have HG5 := Lib.hid (show (W4.alloc _).grownBy W5 (Value.slice va m vc).ownBlock from ⟨hgrow.os, hgrow.tape, hgrow.output, hgrow.size, hgrow.block⟩); have hx5 := HGK.out W5 _ HG5.out _ _ HX4.out (by omega); obtain ⟨y0, y1, y2, y3, y4⟩ := cells5 hx5; have fy := Lib.frozen_of_heap hx5 0; clear hown5 hgrow hx5)
        all_goals go_wp2
        all_goals
          go_roundw
          case rel => exact ⟨i + 1, by omega, by go_num, Lib.hid (SchInvZ.store (xs := ys) (ys := ys ++ [fs]) HI4.out HX4.out HR.out (by simp [HYm.out]) (fun y hy => by rcases List.mem_append.1 hy with hy | hy; exact HYs.out y hy; rw [List.mem_singleton.1 hy]; exact HFz.out) (by omega) HG5.out (by rw [List.map_append]; exact HO5.out) (Nat.le_refl _) (by omega) (by omega) (by omega) (by omega) HNe1.out (by omega) (by omega) hB (by omega) hb4 hp)⟩
          case measure => simp [intOf]; omega
      · obtain rfl : r = 0 := by omega
        go_wp2
        go_roundw
        case rel => exact ⟨i + 1, by omega, by go_num, HI4⟩
        case measure => simp [intOf]; omega
    · obtain rfl : i = 4 := by omega
      obtain ⟨⟨vs, ys, b1, b2, b3, b5⟩, b4, _⟩ := hI.out
      obtain ⟨va, vc, rfl⟩ := row_val b2
      have HTx := Lib.hid (TextsAt.of_row b2)
      have HYs := Lib.hid (And.intro b3 b5)
      obtain ⟨m, hym⟩ : ∃ m, ys.length = m := ⟨_, rfl⟩
      rw [hym] at b1
      have HYm := Lib.hid hym
      clear hym b3 b5
      obtain ⟨x0, x1, x2, x3, x4⟩ := cells5 b1
      obtain ⟨d0, d1, d2, d3, d4⟩ := cells5 b4
      have g0 := Lib.frozen_of_heap b4 0
      have g1 := Lib.frozen_of_heap b4 1
      have g2 := Lib.frozen_of_heap b4 2
      have g3 := Lib.frozen_of_heap b4 3
      have g4 := Lib.frozen_of_heap b4 4
      have HZ4 := Lib.hid b4
      clear b1 b2 b4
      go_wp2
      have he := else_set5 wr w.heap.size (.slice va m vc) (.slice a2 l.length n2) (.int .i64 t.kind) (.string t.name) (.slice a1 t.kids.length n1)
      obtain ⟨_, _, _, ⟨k', hk', hs⟩, hfr, hpr, hty⟩ := hI.out
      have kt := KeepT.else he HZ4.out (by decide)
      have kp := keepPz_else he HZ4.out (by decide)
      have hks := HTx.out.keep (w' := ((((wr.setCell ⟨w.heap.size, 0, none⟩ (.slice va m vc)).setCell ⟨w.heap.size, 1, none⟩ (.slice a2 l.length n2)).setCell ⟨w.heap.size, 2, none⟩ (.int .i64 t.kind)).setCell ⟨w.heap.size, 3, none⟩ (.string t.name)).setCell ⟨w.heap.size, 4, none⟩ (.slice a1 t.kids.length n1)) fun k cs fz hk => (he.block k fun e => by subst e; rw [HZ4.out] at hk; simp at hk).trans hk
      rw [HYm.out] at hks
      refine bodyPost_ret (v := .agg #[.slice va m vc, .slice a2 l.length n2, .int .i64 t.kind, .string t.name, .slice a1 t.kids.length n1]) (by have hc := set5_cellsZ HZ4.out (.slice va m vc) (.slice a2 l.length n2) (.int .i64 t.kind) (.string t.name) (.slice a1 t.kids.length n1); simp [results, Tryz.results6, go_sem, hc.1, hc.2.1, hc.2.2.1, hc.2.2.2.1, hc.2.2.2.2]) rfl ?_
      refine ⟨⟨ys, l, t, va, a2, a1, vc, n2, n1, by rw [HYm.out], ⟨⟨by have := HYs.out.1; omega, HYs.out.2⟩, HGl.out, HG.out⟩, ⟨by rw [HYm.out]; exact hks, hpr.keep kt kp, hty.keep kt⟩⟩, ⟨k', by omega, ⟨hB, (he.block p (by omega)).trans hs.1.2⟩, hs.2.keep (he.below B (by omega))⟩, hfr.1.trans (he.below B (by omega)), fun j o hj hjp => ?_⟩
      have hjl := (Array.getElem?_eq_some_iff.1 hj).1
      exact (he.block j (by omega)).trans (hfr.2 j o hj hjp)
end Go.Proofs.YtdidgddcgjpokaaGreatDoor
/- scheme: its last statement, a region of 13 operations that draws its order, by an invariant. (Made by a program.) -/
namespace Go.Proofs.YtdidgddcgjpokaaGreatDoor
open Go.RowKit Go.Sort Go.Lib
attribute [local go_sem] Oper.semAt_some

noncomputable def gfrOps : Array Oper := regionIn 1 (Tryz.f14.body.getD .skip)
def gfrFr (b : Nat → Value) (d : List Deferred) (x : Nat → Value) : Act := { tmps := #[b 0, b 1, b 2, x 11, x 12, x 8, x 0, x 1, x 2, x 3, x 4, x 5, x 6, x 7, x 9, x 10, b 16], defers := d }

def gfrVals (b1 : Nat) (xa ca ta : Option Addr) (xc cc tc : Nat) (xs L : List ByteArray) (lc : List Pr) (t : T) (i : Nat) (v : Value) (V : World) : Prop :=
  match i with
  | 0 => v = .pointer (some ⟨b1, 1, none⟩)
  | 1 => v = .slice ca lc.length cc
  | 2 => v = .pointer (some ⟨b1, 2, none⟩)
  | 3 => v = .agg #[.int .i64 (t).kind, .string (t).name, .slice ta (t).kids.length tc]
  | 4 => ∃ za zc, v = .slice za L.length zc ∧ TextsAt V (.slice za L.length zc) L
  | 5 => v = .pointer (some ⟨b1, 0, none⟩)
  | 6 => v = .slice xa xs.length xc
  | 7 => ∃ zi zp zo zq, v = .tuple #[.slice zi (L.filter (inB xs)).length zp, .slice zo (L.filter fun n => !inB xs n).length zq] ∧ (TextsAt V (.slice zi (L.filter (inB xs)).length zp) (L.filter (inB xs)) ∧ TextsAt V (.slice zo (L.filter fun n => !inB xs n).length zq) (L.filter fun n => !inB xs n))
  | 8 => ∃ zi zp zo zq, v = .tuple #[.slice zi (L.filter (inB xs)).length zp, .slice zo (L.filter fun n => !inB xs n).length zq] ∧ (TextsAt V (.slice zi (L.filter (inB xs)).length zp) (L.filter (inB xs)) ∧ TextsAt V (.slice zo (L.filter fun n => !inB xs n).length zq) (L.filter fun n => !inB xs n))
  | 9 => ∃ zi zp, v = .slice zi (L.filter (inB xs)).length zp ∧ TextsAt V (.slice zi (L.filter (inB xs)).length zp) (L.filter (inB xs))
  | 10 => ∃ zo zq, v = .slice zo (L.filter fun n => !inB xs n).length zq ∧ TextsAt V (.slice zo (L.filter fun n => !inB xs n).length zq) (L.filter fun n => !inB xs n)
  | 11 => ∃ zi zp, v = .slice zi (L.filter (inB xs)).length zp ∧ TextsAt V (.slice zi (L.filter (inB xs)).length zp) (L.filter (inB xs))
  | 12 => ∃ zo zq, v = .slice zo (L.filter fun n => !inB xs n).length zq ∧ TextsAt V (.slice zo (L.filter fun n => !inB xs n).length zq) (L.filter fun n => !inB xs n)
  | _ => True

theorem gfrVals_keep {b1 : Nat} {xa ca ta : Option Addr} {xc cc tc : Nat} {xs L : List ByteArray} {lc : List Pr} {t : T} (i : Nat) (v : Value) (V Y : World) (h : gfrVals b1 xa ca ta xc cc tc xs L lc t i v V) (hb : Below V.heap.size V Y) : gfrVals b1 xa ca ta xc cc tc xs L lc t i v Y := by
  unfold gfrVals at *
  split at h <;> first
    | exact h
    | (obtain ⟨za, zc, e, h⟩ := h; exact ⟨za, zc, e, h.below hb⟩)
    | (obtain ⟨zi, zp, zo, zq, e, h⟩ := h; exact ⟨zi, zp, zo, zq, e, ⟨h.1.below hb, h.2.below hb⟩⟩)
    | (obtain ⟨zi, zp, e, h⟩ := h; exact ⟨zi, zp, e, h.below hb⟩)
    | (obtain ⟨zo, zq, e, h⟩ := h; exact ⟨zo, zq, e, h.below hb⟩)

theorem gfr_size : gfrOps.size = 13 := by kernel_rfl
set_option linter.unusedSimpArgs false in
set_option maxRecDepth 100000 in
set_option maxHeartbeats 8000000 in
theorem gfr_region {w : World} {b1 : Nat} {xa ca ta : Option Addr} {xc cc tc : Nat} {xs L : List ByteArray} {lc : List Pr} {t : T} {b : Nat → Value} {d : List Deferred}
    (h1 : b 1 = .pointer (some ⟨b1, 0, none⟩))
    (HC4 : ∀ V, SFg w b1 xa xc xs ca cc lc t ta tc V → Calls Tryz.prog 38 #[.slice ca lc.length cc, .agg #[.int .i64 (t).kind, .string (t).name, .slice ta (t).kids.length tc]] V fun e Y => (∃ za zc, e = .returned (.slice za L.length zc) ∧ TextsAt Y (.slice za L.length zc) L) ∧ Below V.heap.size V Y)
    (HC7 : ∀ V, SFg w b1 xa xc xs ca cc lc t ta tc V → ∀ za4, ∀ zc4, TextsAt V (.slice za4 L.length zc4) L → Calls Tryz.prog 37 #[.slice za4 L.length zc4, .slice xa xs.length xc] V fun e Y => (∃ zi zp zo zq, e = .returned (.tuple #[.slice zi (L.filter (inB xs)).length zp, .slice zo (L.filter fun n => !inB xs n).length zq]) ∧ (TextsAt Y (.slice zi (L.filter (inB xs)).length zp) (L.filter (inB xs)) ∧ TextsAt Y (.slice zo (L.filter fun n => !inB xs n).length zq) (L.filter fun n => !inB xs n))) ∧ Below V.heap.size V Y)
    {Q : Exit → Act → World → Prop} {ops : Array Oper} (hops : ops = gfrOps) (x0 : Nat → Value) (X : World) (hS : SFg w b1 xa xc xs ca cc lc t ta tc X.drew)
    (hfin : ∀ (x : Nat → Value) V zi zp zo zq, SFg w b1 xa xc xs ca cc lc t ta tc V → x 11 = .slice zi (L.filter (inB xs)).length zp → x 12 = .slice zo (L.filter fun n => !inB xs n).length zq → TextsAt V (.slice zi (L.filter (inB xs)).length zp) (L.filter (inB xs)) → TextsAt V (.slice zo (L.filter fun n => !inB xs n).length zq) (L.filter fun n => !inB xs n) → Q .normal (gfrFr b d x) V) : (Code.region 1 ops true).wp Tryz.prog Q (gfrFr b d x0) X := by
  have HC := Lib.hid (And.intro HC4 HC7)
  clear HC4 HC7
  refine region_inv (gfrFr b d) (fun V => SFg w b1 xa xc xs ca cc lc t ta tc V) (fun V Y => Below V.heap.size V Y) (gfrVals b1 xa ca ta xc cc tc xs L lc t) x0 (by kernel_rfl) rfl hS (fun V Y h hb => h.below hb) (fun i v V Y _ h hb => gfrVals_keep i v V Y h hb) ?_ (fun x V hV h => by obtain ⟨zi, zp, e1, k1⟩ := h 11 (by rw [hops, gfr_size]; decide); obtain ⟨zo, zq, e2, k2⟩ := h 12 (by rw [hops, gfr_size]; decide); exact hfin x V zi zp zo zq hV e1 e2 k1 k2)
  clear hfin hS
  obtain ⟨f, hf⟩ : ∃ qq, StepAt Tryz.prog (gfrFr b d) (fun V => SFg w b1 xa xc xs ca cc lc t ta tc V) (fun V Y => Below V.heap.size V Y) (gfrVals b1 xa ca ta xc cc tc xs L lc t) ops Q = qq := ⟨_, rfl⟩
  rw [hf, hops]
  simp only [gfrOps, Tryz.f14, regionIn, Option.getD_some, Nat.reduceBEq, Bool.false_eq_true, if_false, if_true, beq_self_eq_true, Array.append_empty, Array.empty_append, List.append_eq, List.cons_append, List.nil_append, AllAt, Nat.reduceAdd, Nat.zero_add]
  -- 0: slot 6 := Op.fieldAddr 33 t1 1
  refine And.intro ?_ ?_
  · rw [← hf]; clear hf
    refine ⟨by decide +kernel, fun x v => by kernel_rfl, fun x V hV hdep K hK => ?_⟩
    clear hdep
    refine run_bare (by kernel_rfl) ?_
    unfold gfrFr
    go_simp
    refine kfit (hK _ _ (Below.refl _ V) rfl) ?_
    first | (simp only [gfrFr, Act.put, List.setIfInBounds_toArray, List.set_cons_zero, List.set_cons_succ, h1]; done) | (simp only [gfrFr, Act.put, List.setIfInBounds_toArray, List.set_cons_zero, List.set_cons_succ, h1]; rfl)
  -- 1: slot 7 := Op.load 28 t6
  refine And.intro ?_ ?_
  · rw [← hf]; clear hf
    refine ⟨by decide +kernel, fun x v => by kernel_rfl, fun x V hV hdep K hK => ?_⟩
    have e0 : x 0 = .pointer (some ⟨b1, 1, none⟩) := depOf hdep 0 (by decide +kernel)
    clear hdep
    refine run_bare (by kernel_rfl) ?_
    unfold gfrFr
    obtain ⟨y0, y1, y2, y3, y4⟩ := cells5 hV.1.1
    go_simp
    refine kfit (hK _ _ (Below.refl _ V) rfl) ?_
    first | (simp only [gfrFr, Act.put, List.setIfInBounds_toArray, List.set_cons_zero, List.set_cons_succ, h1, e0]; done) | (simp only [gfrFr, Act.put, List.setIfInBounds_toArray, List.set_cons_zero, List.set_cons_succ, h1, e0]; rfl)
  -- 2: slot 8 := Op.fieldAddr 33 t1 2
  refine And.intro ?_ ?_
  · rw [← hf]; clear hf
    refine ⟨by decide +kernel, fun x v => by kernel_rfl, fun x V hV hdep K hK => ?_⟩
    clear hdep
    refine run_bare (by kernel_rfl) ?_
    unfold gfrFr
    go_simp
    refine kfit (hK _ _ (Below.refl _ V) rfl) ?_
    first | (simp only [gfrFr, Act.put, List.setIfInBounds_toArray, List.set_cons_zero, List.set_cons_succ, h1]; done) | (simp only [gfrFr, Act.put, List.setIfInBounds_toArray, List.set_cons_zero, List.set_cons_succ, h1]; rfl)
  -- 3: slot 9 := Op.load 31 t8
  refine And.intro ?_ ?_
  · rw [← hf]; clear hf
    refine ⟨by decide +kernel, fun x v => by kernel_rfl, fun x V hV hdep K hK => ?_⟩
    have e2 : x 2 = .pointer (some ⟨b1, 2, none⟩) := depOf hdep 2 (by decide +kernel)
    clear hdep
    refine run_bare (by kernel_rfl) ?_
    unfold gfrFr
    obtain ⟨y0, y1, y2, y3, y4⟩ := cells5 hV.1.1
    go_simp
    refine kfit (hK _ _ (Below.refl _ V) rfl) ?_
    first | (simp only [gfrFr, Act.put, List.setIfInBounds_toArray, List.set_cons_zero, List.set_cons_succ, h1, e2]; done) | (simp only [gfrFr, Act.put, List.setIfInBounds_toArray, List.set_cons_zero, List.set_cons_succ, h1, e2]; rfl)
  -- 4: slot 10 := Op.call { value (Operand.func 38), args := #[t7, t9], argTyp
  refine And.intro ?_ ?_
  · rw [← hf]; clear hf
    refine ⟨by decide +kernel, fun x v => by kernel_rfl, fun x V hV hdep K hK => ?_⟩
    have e1 : x 1 = .slice ca lc.length cc := depOf hdep 1 (by decide +kernel)
    have e3 : x 3 = .agg #[.int .i64 (t).kind, .string (t).name, .slice ta (t).kids.length tc] := depOf hdep 3 (by decide +kernel)
    clear hdep
    refine run_bare (by kernel_rfl) ?_
    unfold gfrFr
    obtain ⟨HC4, HC7⟩ := HC.out
    clear HC7
    have H := HC4 V hV
    replace H := Lib.hid H; clear HC4
    go_simp
    go_at_call 38
    refine H.out.mono ?_
    rintro e Y ⟨⟨za, zc, rfl, hq⟩, hb⟩; refine kfit (hK _ _ hb ⟨za, zc, rfl, hq⟩) ?_
    first | (simp only [gfrFr, Act.put, List.setIfInBounds_toArray, List.set_cons_zero, List.set_cons_succ, h1, e1, e3]; done) | (simp only [gfrFr, Act.put, List.setIfInBounds_toArray, List.set_cons_zero, List.set_cons_succ, h1, e1, e3]; rfl)
  -- 5: slot 11 := Op.fieldAddr 33 t1 0
  refine And.intro ?_ ?_
  · rw [← hf]; clear hf
    refine ⟨by decide +kernel, fun x v => by kernel_rfl, fun x V hV hdep K hK => ?_⟩
    clear hdep
    refine run_bare (by kernel_rfl) ?_
    unfold gfrFr
    go_simp
    refine kfit (hK _ _ (Below.refl _ V) rfl) ?_
    first | (simp only [gfrFr, Act.put, List.setIfInBounds_toArray, List.set_cons_zero, List.set_cons_succ, h1]; done) | (simp only [gfrFr, Act.put, List.setIfInBounds_toArray, List.set_cons_zero, List.set_cons_succ, h1]; rfl)
  -- 6: slot 12 := Op.load 23 t11
  refine And.intro ?_ ?_
  · rw [← hf]; clear hf
    refine ⟨by decide +kernel, fun x v => by kernel_rfl, fun x V hV hdep K hK => ?_⟩
    have e5 : x 5 = .pointer (some ⟨b1, 0, none⟩) := depOf hdep 5 (by decide +kernel)
    clear hdep
    refine run_bare (by kernel_rfl) ?_
    unfold gfrFr
    obtain ⟨y0, y1, y2, y3, y4⟩ := cells5 hV.1.1
    go_simp
    refine kfit (hK _ _ (Below.refl _ V) rfl) ?_
    first | (simp only [gfrFr, Act.put, List.setIfInBounds_toArray, List.set_cons_zero, List.set_cons_succ, h1, e5]; done) | (simp only [gfrFr, Act.put, List.setIfInBounds_toArray, List.set_cons_zero, List.set_cons_succ, h1, e5]; rfl)
  -- 7: slot 13 := Op.call { value (Operand.func 37), args := #[t10, t12], argT
  refine And.intro ?_ ?_
  · rw [← hf]; clear hf
    refine ⟨by decide +kernel, fun x v => by kernel_rfl, fun x V hV hdep K hK => ?_⟩
    obtain ⟨za4, zc4, e4, d4⟩ : ∃ za4 zc4, x 4 = .slice za4 L.length zc4 ∧ TextsAt V (.slice za4 L.length zc4) L := depOf hdep 4 (by decide +kernel)
    have e6 : x 6 = .slice xa xs.length xc := depOf hdep 6 (by decide +kernel)
    clear hdep
    refine run_bare (by kernel_rfl) ?_
    unfold gfrFr
    obtain ⟨HC4, HC7⟩ := HC.out
    clear HC4
    have H := HC7 V hV _ _ d4
    replace H := Lib.hid H; clear HC7
    go_simp
    go_at_call 37
    refine H.out.mono ?_
    rintro e Y ⟨⟨zi, zp, zo, zq, rfl, hq⟩, hb⟩; refine kfit (hK _ _ hb ⟨zi, zp, zo, zq, rfl, hq⟩) ?_
    first | (simp only [gfrFr, Act.put, List.setIfInBounds_toArray, List.set_cons_zero, List.set_cons_succ, h1, e4, e6]; done) | (simp only [gfrFr, Act.put, List.setIfInBounds_toArray, List.set_cons_zero, List.set_cons_succ, h1, e4, e6]; rfl)
  -- 8: slot 5 := Op.move t13
  refine And.intro ?_ ?_
  · rw [← hf]; clear hf
    refine ⟨by decide +kernel, fun x v => by kernel_rfl, fun x V hV hdep K hK => ?_⟩
    obtain ⟨zi7, zp7, zo7, zq7, e7, d7⟩ : ∃ zi7 zp7 zo7 zq7, x 7 = .tuple #[.slice zi7 (L.filter (inB xs)).length zp7, .slice zo7 (L.filter fun n => !inB xs n).length zq7] ∧ (TextsAt V (.slice zi7 (L.filter (inB xs)).length zp7) (L.filter (inB xs)) ∧ TextsAt V (.slice zo7 (L.filter fun n => !inB xs n).length zq7) (L.filter fun n => !inB xs n)) := depOf hdep 7 (by decide +kernel)
    clear hdep
    refine run_bare (by kernel_rfl) ?_
    unfold gfrFr
    go_simp
    refine kfit (hK _ _ (Below.refl _ V) ⟨_, _, _, _, rfl, d7⟩) ?_
    first | (simp only [gfrFr, Act.put, List.setIfInBounds_toArray, List.set_cons_zero, List.set_cons_succ, h1, e7]; done) | (simp only [gfrFr, Act.put, List.setIfInBounds_toArray, List.set_cons_zero, List.set_cons_succ, h1, e7]; rfl)
  -- 9: slot 14 := Op.extract t5 0
  refine And.intro ?_ ?_
  · rw [← hf]; clear hf
    refine ⟨by decide +kernel, fun x v => by kernel_rfl, fun x V hV hdep K hK => ?_⟩
    obtain ⟨zi8, zp8, zo8, zq8, e8, d8⟩ : ∃ zi8 zp8 zo8 zq8, x 8 = .tuple #[.slice zi8 (L.filter (inB xs)).length zp8, .slice zo8 (L.filter fun n => !inB xs n).length zq8] ∧ (TextsAt V (.slice zi8 (L.filter (inB xs)).length zp8) (L.filter (inB xs)) ∧ TextsAt V (.slice zo8 (L.filter fun n => !inB xs n).length zq8) (L.filter fun n => !inB xs n)) := depOf hdep 8 (by decide +kernel)
    clear hdep
    refine run_bare (by kernel_rfl) ?_
    unfold gfrFr
    go_simp
    refine kfit (hK _ _ (Below.refl _ V) ⟨_, _, rfl, d8.1⟩) ?_
    first | (simp only [gfrFr, Act.put, List.setIfInBounds_toArray, List.set_cons_zero, List.set_cons_succ, h1, e8]; done) | (simp only [gfrFr, Act.put, List.setIfInBounds_toArray, List.set_cons_zero, List.set_cons_succ, h1, e8]; rfl)
  -- 10: slot 15 := Op.extract t5 1
  refine And.intro ?_ ?_
  · rw [← hf]; clear hf
    refine ⟨by decide +kernel, fun x v => by kernel_rfl, fun x V hV hdep K hK => ?_⟩
    obtain ⟨zi8, zp8, zo8, zq8, e8, d8⟩ : ∃ zi8 zp8 zo8 zq8, x 8 = .tuple #[.slice zi8 (L.filter (inB xs)).length zp8, .slice zo8 (L.filter fun n => !inB xs n).length zq8] ∧ (TextsAt V (.slice zi8 (L.filter (inB xs)).length zp8) (L.filter (inB xs)) ∧ TextsAt V (.slice zo8 (L.filter fun n => !inB xs n).length zq8) (L.filter fun n => !inB xs n)) := depOf hdep 8 (by decide +kernel)
    clear hdep
    refine run_bare (by kernel_rfl) ?_
    unfold gfrFr
    go_simp
    refine kfit (hK _ _ (Below.refl _ V) ⟨_, _, rfl, d8.2⟩) ?_
    first | (simp only [gfrFr, Act.put, List.setIfInBounds_toArray, List.set_cons_zero, List.set_cons_succ, h1, e8]; done) | (simp only [gfrFr, Act.put, List.setIfInBounds_toArray, List.set_cons_zero, List.set_cons_succ, h1, e8]; rfl)
  -- 11: slot 3 := Op.assign t14
  refine And.intro ?_ ?_
  · rw [← hf]; clear hf
    refine ⟨by decide +kernel, fun x v => by kernel_rfl, fun x V hV hdep K hK => ?_⟩
    obtain ⟨zi9, zp9, e9, d9⟩ : ∃ zi9 zp9, x 9 = .slice zi9 (L.filter (inB xs)).length zp9 ∧ TextsAt V (.slice zi9 (L.filter (inB xs)).length zp9) (L.filter (inB xs)) := depOf hdep 9 (by decide +kernel)
    clear hdep
    refine run_bare (by kernel_rfl) ?_
    unfold gfrFr
    go_simp
    refine kfit (hK _ _ (Below.refl _ V) ⟨_, _, rfl, d9⟩) ?_
    first | (simp only [gfrFr, Act.put, List.setIfInBounds_toArray, List.set_cons_zero, List.set_cons_succ, h1, e9]; done) | (simp only [gfrFr, Act.put, List.setIfInBounds_toArray, List.set_cons_zero, List.set_cons_succ, h1, e9]; rfl)
  -- 12: slot 4 := Op.assign t15
  refine And.intro ?_ ?_
  · rw [← hf]; clear hf
    refine ⟨by decide +kernel, fun x v => by kernel_rfl, fun x V hV hdep K hK => ?_⟩
    obtain ⟨zo10, zq10, e10, d10⟩ : ∃ zo10 zq10, x 10 = .slice zo10 (L.filter fun n => !inB xs n).length zq10 ∧ TextsAt V (.slice zo10 (L.filter fun n => !inB xs n).length zq10) (L.filter fun n => !inB xs n) := depOf hdep 10 (by decide +kernel)
    clear hdep
    refine run_bare (by kernel_rfl) ?_
    unfold gfrFr
    go_simp
    refine kfit (hK _ _ (Below.refl _ V) ⟨_, _, rfl, d10⟩) ?_
    first | (simp only [gfrFr, Act.put, List.setIfInBounds_toArray, List.set_cons_zero, List.set_cons_succ, h1, e10]; done) | (simp only [gfrFr, Act.put, List.setIfInBounds_toArray, List.set_cons_zero, List.set_cons_succ, h1, e10]; rfl)
  exact trivial
theorem gfr_here {w : World} {b1 : Nat} {xa ca ta : Option Addr} {xc cc tc : Nat} {xs L : List ByteArray} {lc : List Pr} {t : T}
    (HC4 : ∀ V, SFg w b1 xa xc xs ca cc lc t ta tc V → Calls Tryz.prog 38 #[.slice ca lc.length cc, .agg #[.int .i64 (t).kind, .string (t).name, .slice ta (t).kids.length tc]] V fun e Y => (∃ za zc, e = .returned (.slice za L.length zc) ∧ TextsAt Y (.slice za L.length zc) L) ∧ Below V.heap.size V Y)
    (HC7 : ∀ V, SFg w b1 xa xc xs ca cc lc t ta tc V → ∀ za4, ∀ zc4, TextsAt V (.slice za4 L.length zc4) L → Calls Tryz.prog 37 #[.slice za4 L.length zc4, .slice xa xs.length xc] V fun e Y => (∃ zi zp zo zq, e = .returned (.tuple #[.slice zi (L.filter (inB xs)).length zp, .slice zo (L.filter fun n => !inB xs n).length zq]) ∧ (TextsAt Y (.slice zi (L.filter (inB xs)).length zp) (L.filter (inB xs)) ∧ TextsAt Y (.slice zo (L.filter fun n => !inB xs n).length zq) (L.filter fun n => !inB xs n))) ∧ Below V.heap.size V Y)
    {Q : Exit → Act → World → Prop} {ops : Array Oper} {a : Act} (X : World) (hops : ops = gfrOps)
    (h1 : a.tmps.getD 1 undef = .pointer (some ⟨b1, 0, none⟩))
    (ha : a = gfrFr (fun j => a.tmps.getD j undef) a.defers (fun i => a.tmps.getD (if i = 8 then 5 else if i = 11 then 3 else if i = 12 then 4 else if i < 8 then 6 + i else 5 + i) undef)) (hS : SFg w b1 xa xc xs ca cc lc t ta tc X.drew)
    (hfin : ∀ (x : Nat → Value) V zi zp zo zq, SFg w b1 xa xc xs ca cc lc t ta tc V → x 11 = .slice zi (L.filter (inB xs)).length zp → x 12 = .slice zo (L.filter fun n => !inB xs n).length zq → TextsAt V (.slice zi (L.filter (inB xs)).length zp) (L.filter (inB xs)) → TextsAt V (.slice zo (L.filter fun n => !inB xs n).length zq) (L.filter fun n => !inB xs n) → Q .normal (gfrFr (fun j => a.tmps.getD j undef) a.defers x) V) : (Code.region 1 ops true).wp Tryz.prog Q a X :=
  cast (congrArg (fun z => (Code.region 1 ops true).wp Tryz.prog Q z X) ha.symm) (gfr_region (b := fun j => a.tmps.getD j undef) (d := a.defers) h1 HC4 HC7 hops _ X hS hfin)
end Go.Proofs.YtdidgddcgjpokaaGreatDoor
/- scheme.Free of a scheme with a context. -/
namespace Go.Proofs.YtdidgddcgjpokaaGreatDoor
open Go.RowKit Go.Sort Go.Lib
attribute [local go_sem] Oper.semAt_some

set_option maxRecDepth 100000 in
set_option maxHeartbeats 4000000 in
theorem freeG_any (V : List ByteArray) (t : T) (lc : List Pr) (xs : List ByteArray) (hok : SOK V t lc) (hxs : ∀ n ∈ xs, n.size ≤ 1000000) (hxl : xs.length ≤ 1000000) (xa ca ta : Option Addr) (xc cc tc : Nat) (w : World) (ht : TysAt w (.slice ta t.kids.length tc) t.kids) (hx : TextsAt w (.slice xa xs.length xc) xs) (hP : PrsAt w (.slice ca lc.length cc) lc) :
    Calls Tryz.prog 14 #[.agg #[.slice xa xs.length xc, .slice ca lc.length cc, .int .i64 t.kind, .string t.name, .slice ta t.kids.length tc]] w fun e w' =>
      (∃ va vc, e = .returned (.slice va (osOf t lc xs).length vc) ∧ TextsAt w' (.slice va (osOf t lc xs).length vc) (osOf t lc xs)) ∧ Below w.heap.size w w' := by
  have hb0 := (Below.refl w.heap.size w).alloc (Nat.le_refl _) (.cells #[.slice xa xs.length xc, .slice ca lc.length cc, .int .i64 t.kind, .string t.name, .slice ta t.kids.length tc] 33)
  have HS := Lib.hid (show SFg w w.heap.size xa xc xs ca cc lc t ta tc (w.alloc (.cells #[.slice xa xs.length xc, .slice ca lc.length cc, .int .i64 t.kind, .string t.name, .slice ta t.kids.length tc] 33)) from ⟨SchB.new ht, hx.below hb0, hP.belowG hb0, hb0⟩)
  have HOk := Lib.hid hok; have HXS := Lib.hid hxs
  clear hb0 ht hx hP hok hxs
  unfold osOf
  obtain ⟨L, hL⟩ : ∃ L, fvs [] [] (t :: lc.map (·.2)) = L := ⟨_, rfl⟩
  have HAll := Lib.hid HOk.out.all
  have HL := Lib.hid hL
  rw [hL] at HAll ⊢
  clear hL
  go_enter Tryz.func14, Tryz.ntmps14
  go_wp2_with (fail)
  refine gfr_here (w := w) (b1 := w.heap.size) (xa := xa) (ca := ca) (ta := ta) (xc := xc) (cc := cc) (tc := tc) (xs := xs) (lc := lc) (t := t) (L := L)
    (fun V h => by
      have := varsG_any t lc (fun u hu => (HOk.out.2.2 u hu).2.1) (by have := HOk.out.all.2.2.2; omega) (by have := HOk.out.2.1; omega) _ _ _ _ V h.1.2 h.2.2.1
      rw [HL.out] at this
      refine this.mono fun e Y hq => ?_
      obtain ⟨⟨v, rfl, hv⟩, hb⟩ := hq
      obtain ⟨a', c', rfl⟩ := hv.shape
      exact ⟨⟨a', c', rfl, hv⟩, hb⟩)
    (fun V h _ _ k => (split_any _ _ (by have := HAll.out.2.1; omega) hxl (fun n hn => by have := HAll.out.2.2.1 n hn; omega) HXS.out _ _ _ _ V k h.2.1).mono fun e Y hq => by
      obtain ⟨⟨vi, vo, rfl, hvi, hvo⟩, hb⟩ := hq
      obtain ⟨ia, ic, rfl⟩ := hvi.shape
      obtain ⟨oa, oc, rfl⟩ := hvo.shape
      exact ⟨⟨ia, ic, oa, oc, rfl, hvi, hvo⟩, hb⟩)
    _ (by kernel_rfl) (by kernel_rfl) (by kernel_rfl) (HS.out.below (below_d _)) ?_
  intro x V zi zp zo zq hV e11 e12 _ k2
  have HEnd := Lib.hid (And.intro k2 hV.2.2.2)
  clear k2 hV HXS HS HAll HOk HL
  simp only [gfrFr, e11, e12]
  simp only [Array.getD_eq_getD_getElem?, List.getElem?_toArray, List.getElem?_cons_succ, List.getElem?_cons_zero, Option.getD_some]
  generalize hL2 : (L.filter fun n => !inB xs n) = L2 at *
  go_wp2
  go_ret
  subst hL2
  exact ⟨⟨_, _, rfl, HEnd.out.1⟩, HEnd.out.2⟩
end Go.Proofs.YtdidgddcgjpokaaGreatDoor
/- SchemeSays: what its last statement keeps, and the contracts of what it calls. -/
namespace Go.Proofs.YtdidgddcgjpokaaGreatDoor
open Go.RowKit Go.Sort Go.Lib
attribute [local go_sem] Oper.semAt_some

/-- There is one canon. -/
theorem canP_one {t : T} {lc : List Pr} {xs zn zn' : List ByteArray} {u u' : T} {l2 l2' : List Pr} (h : CanP t lc xs zn u l2) (h' : CanP t lc xs zn' u' l2') : zn' = zn ∧ u' = u ∧ l2' = l2 := by
  obtain ⟨l1, hs1, hm1, hn, rfl, hs2, hm2⟩ := h
  obtain ⟨k1, ks1, km1, kn, rfl, ks2, km2⟩ := h'
  obtain rfl : k1 = l1 := srtP_one ks1 hs1 fun q => by rw [km1, hm1]
  obtain rfl : zn' = zn := newX_one (fun _ => Iff.rfl) kn hn
  exact ⟨rfl, rfl, srtP_one ks2 hs2 fun q => by rw [km2, hm2]⟩
theorem newX_ex (n : Nat) (tk : List ByteArray) (h : n + tk.length ≤ 90) : ∃ zn, NewX n tk zn := by
  have key : ∀ k, n ≤ (newsTo tk k).length → ∃ i, i ≤ k ∧ (newsTo tk i).length = n := by
    intro k
    induction k with
    | zero => intro h; exact ⟨0, Nat.le_refl _, by have : (newsTo tk 0).length = 0 := rfl; omega⟩
    | succ k ih =>
      intro h
      by_cases hk : n ≤ (newsTo tk k).length
      · obtain ⟨i, hi, e⟩ := ih hk; exact ⟨i, by omega, e⟩
      · have hs := newsTo_succ tk k
        refine ⟨k + 1, Nat.le_refl _, ?_⟩
        have : (newsTo tk (k + 1)).length ≤ (newsTo tk k).length + 1 := by
          rw [hs]; split
          · omega
          · simp
        omega
  obtain ⟨i, hi, e⟩ := key (n + tk.length) (by have := newsTo_len tk (n + tk.length) (by omega); omega)
  exact ⟨newsTo tk i, ⟨e, newsTo_nodup tk i (by omega), fun x hx => ⟨newsTo_free hx, newsTo_size hx⟩⟩, i, hi, rfl⟩
theorem canP_ex {V : List ByteArray} {t : T} {lc : List Pr} (hok : SOK V t lc) (xs : List ByteArray) : ∃ zn u l2, CanP t lc xs zn u l2 := by
  obtain ⟨l1, h1, h2⟩ := srt_is lc
  have hok1 := hok.same (fun q h => (h2 q).1 h) (Nat.le_trans (srtP_len h1 fun q h => (h2 q).1 h) hok.2.1)
  have hb : (bsOf t l1 xs).length ≤ 4 := Nat.le_trans (List.length_filter_le _ _) hok1.all.2.1
  have ho : (osOf t l1 xs).length ≤ 4 := Nat.le_trans (List.length_filter_le _ _) hok1.all.2.1
  obtain ⟨zn, hn⟩ := newX_ex (bsOf t l1 xs).length (osOf t l1 xs) (by omega)
  obtain ⟨l2, h3, h4⟩ := srt_is (appP (prs (bsOf t l1 xs) zn) l1)
  exact ⟨zn, _, l2, l1, h1, h2, hn, rfl, h3, h4⟩
/-- A scheme's value. -/
def SmV (t : T) (lc : List Pr) (xs : List ByteArray) (ta ca xa : Option Addr) (tc cc xc : Nat) : Value := .agg #[.slice xa xs.length xc, .slice ca lc.length cc, .int .i64 t.kind, .string t.name, .slice ta t.kids.length tc]
def SmR (t : T) (lc : List Pr) (xs : List ByteArray) (V : World) (e : Ending) (Y : World) : Prop := (∃ (ta ca xa : Option Addr) (tc cc xc : Nat), e = .returned (SmV t lc xs ta ca xa tc cc xc) ∧ SmD t lc xs ta ca xa tc cc xc Y) ∧ Below V.heap.size V Y
theorem pcanon_z {V0 : List ByteArray} {t : T} {lc : List Pr} {xs zn : List ByteArray} {u : T} {l2 : List Pr} (hok : SOK V0 t lc) (hxs : xs.length ≤ 4 ∧ ∀ n ∈ xs, n.size ≤ 1000) (hc : CanP t lc xs zn u l2) (ta ca xa : Option Addr) (tc cc xc : Nat) (w : World) (h : SmD t lc xs ta ca xa tc cc xc w) :
    Calls Tryz.prog 12 #[SmV t lc xs ta ca xa tc cc xc] w (SmR u l2 zn w) := by
  refine (canonG_any V0 t lc xs hok (fun n hn => by have := hxs.2 n hn; omega) (by omega) xa ca ta xc cc tc w h.2.2 h.1 h.2.1).mono ?_
  rintro e w' ⟨⟨zn', u', l2', za, zc, zp, zq, zt, zu, rfl, ⟨h1, h2, h3⟩, hc'⟩, hb⟩
  obtain ⟨rfl, rfl, rfl⟩ := canP_one hc hc'
  exact ⟨⟨zt, zp, za, zu, zq, zc, rfl, h1, h2, h3⟩, hb⟩
theorem rcanon_z {V0 : List ByteArray} {t : T} {lc : List Pr} {xs zn : List ByteArray} {u : T} {l2 : List Pr} (hok : SOK V0 t lc) (hxs : xs.length ≤ 4 ∧ ∀ n ∈ xs, n.size ≤ 1000) (hc : CanP t lc xs zn u l2) (ta ca xa : Option Addr) (tc cc xc : Nat) (w : World) (h : SmD t lc xs ta ca xa tc cc xc w) :
    Calls Tryz.prog 11 #[SmV t lc xs ta ca xa tc cc xc] w (SmR u l2 zn w) := by
  refine (rcanon_any V0 t lc xs hok (by omega) xa ca ta xc cc tc w h.2.2 h.1 h.2.1).mono ?_
  rintro e w' ⟨⟨zn', u', l2', za, zc, zp, zq, zt, zu, rfl, ⟨h1, h2, h3⟩, hc'⟩, hb⟩
  obtain ⟨rfl, rfl, rfl⟩ := canP_one hc hc'
  exact ⟨⟨zt, zp, za, zu, zq, zc, rfl, h1, h2, h3⟩, hb⟩
/-- The same: the names, the contexts, the types. -/
noncomputable def smB (zn yn : List ByteArray) (l m : List Pr) (u v : T) : Bool := eqB zn yn && (eqB l m && eqB u v)
theorem smB_self (zn : List ByteArray) (l : List Pr) (u : T) : smB zn zn l l u u = true := by unfold smB; rw [eqB_true rfl, eqB_true rfl, eqB_true rfl]; rfl
theorem eqB_cmp (t u : T) : (cmpT t u == 0) = eqB t u := by
  by_cases h : t = u
  · rw [eqB_true h]; rw [(cmp_zero t u).2 h]; rfl
  · rw [eqB_false h]
    have : cmpT t u ≠ 0 := fun e => h ((cmp_zero t u).1 e)
    simp [this]
theorem psame_z {V1 V2 : List ByteArray} {t s : T} {lc ld : List Pr} {xs ys zn yn : List ByteArray} {u v : T} {l2 m2 : List Pr} (hok1 : SOK V1 t lc) (hok2 : SOK V2 s ld) (hxs : xs.length ≤ 4 ∧ ∀ n ∈ xs, n.size ≤ 1000) (hys : ys.length ≤ 4 ∧ ∀ n ∈ ys, n.size ≤ 1000) (hc : CanP t lc xs zn u l2) (hd : CanP s ld ys yn v m2)
    (ta ca xa sa da ya : Option Addr) (tc cc xc sc dc yc : Nat) (w : World) (h1 : SmD t lc xs ta ca xa tc cc xc w) (h2 : SmD s ld ys sa da ya sc dc yc w) :
    Calls Tryz.prog 23 #[SmV t lc xs ta ca xa tc cc xc, SmV s ld ys sa da ya sc dc yc] w fun e w' => e = .returned (.bool (smB zn yn l2 m2 u v)) ∧ Below w.heap.size w w' := by
  refine (sameG_any V1 V2 t s lc ld xs ys hok1 hok2 (fun n hn => by have := hxs.2 n hn; omega) (by omega) (fun n hn => by have := hys.2 n hn; omega) (by omega) ta ca xa sa da ya tc cc xc sc dc yc w h1 h2).mono ?_
  rintro e w' ⟨⟨zl, yl, u', v', l', m', rfl, hc', hd'⟩, hb⟩
  obtain ⟨rfl, rfl, rfl⟩ := canP_one hc hc'
  obtain ⟨rfl, rfl, rfl⟩ := canP_one hd hd'
  exact ⟨by rw [eqB_cmp]; rfl, hb⟩
theorem rsame_z {t s : T} {lc ld : List Pr} {xs ys : List ByteArray} (hft : tsize t ≤ 1000000) (hfc : ∀ q ∈ lc, tsize q.2 ≤ 1000000) (hn : lc.length ≤ 1000000) (hx : xs.length ≤ 1000000) (ta ca xa sa da ya : Option Addr) (tc cc xc sc dc yc : Nat) (w : World) (h1 : SmD t lc xs ta ca xa tc cc xc w) (h2 : SmD s ld ys sa da ya sc dc yc w) :
    Calls Tryz.prog 10 #[SmV t lc xs ta ca xa tc cc xc, SmV s ld ys sa da ya sc dc yc] w fun e w' => e = .returned (.bool (smB xs ys lc ld t s)) ∧ Below w.heap.size w w' :=
  refSameG_any t s lc ld xs ys (fits_small (by omega)) (fun q hq => fits_small (by have := hfc q hq; omega)) hn hx ta ca xa sa da ya tc cc xc sc dc yc w h1 h2
/-- A scheme in its block. -/
def NzB (b : Nat) (t : T) (lc : List Pr) (xs : List ByteArray) (ta ca xa : Option Addr) (tc cc xc : Nat) (V : World) : Prop := V.heap[b]? = some (.cells #[.slice xa xs.length xc, .slice ca lc.length cc, .int .i64 t.kind, .string t.name, .slice ta t.kids.length tc] 33 (0, 0)) ∧ SmD t lc xs ta ca xa tc cc xc V
theorem NzB.below {b : Nat} {t : T} {lc : List Pr} {xs : List ByteArray} {ta ca xa : Option Addr} {tc cc xc : Nat} {V Y : World} (h : NzB b t lc xs ta ca xa tc cc xc V) (hb : Below V.heap.size V Y) : NzB b t lc xs ta ca xa tc cc xc Y := ⟨(hb.block b (Array.getElem?_eq_some_iff.1 h.1).1).trans h.1, h.2.keepO (KeepO.of_below hb)⟩
theorem NzB.new {t : T} {lc : List Pr} {xs : List ByteArray} {ta ca xa : Option Addr} {tc cc xc : Nat} {V : World} (h : SmD t lc xs ta ca xa tc cc xc V) : NzB V.heap.size t lc xs ta ca xa tc cc xc (V.alloc (.cells #[.slice xa xs.length xc, .slice ca lc.length cc, .int .i64 t.kind, .string t.name, .slice ta t.kids.length tc] 33)) := ⟨alloc_new V _, h.keepO (KeepO.of_below (below_a V _))⟩
theorem NzB.lt {b : Nat} {t : T} {lc : List Pr} {xs : List ByteArray} {ta ca xa : Option Addr} {tc cc xc : Nat} {V : World} (h : NzB b t lc xs ta ca xa tc cc xc V) : b < V.heap.size := (Array.getElem?_eq_some_iff.1 h.1).1
/-- All that the law has made. -/
structure SzS (w : World) (b1 b2 b3 b4 : Nat) (t s v : T) (lc ld lv lp : List Pr) (xs ys gs nt : List ByteArray) (ta ca xa sa da ya fa ea ga ha ia ja pa na : Option Addr) (tc cc xc sc dc yc fc ec gc hc ic jc pc nc : Nat) (V : World) : Prop where
  s1 : NzB b1 t lc xs ta ca xa tc cc xc V
  s2 : NzB b2 s ld ys sa da ya sc dc yc V
  s3 : NzB b3 v lv gs fa ea ga fc ec gc V
  s4 : NzB b4 v lv gs ha ia ja hc ic jc V
  sp : PrsAt V (.slice pa lp.length pc) lp
  sn : StrsP (.slice na nt.length nc) nt V
  st : Tab V
  sb : Below w.heap.size w V
theorem SzS.below {w : World} {b1 b2 b3 b4 : Nat} {t s v : T} {lc ld lv lp : List Pr} {xs ys gs nt : List ByteArray} {ta ca xa sa da ya fa ea ga ha ia ja pa na : Option Addr} {tc cc xc sc dc yc fc ec gc hc ic jc pc nc : Nat} {V Y : World} (h : SzS w b1 b2 b3 b4 t s v lc ld lv lp xs ys gs nt ta ca xa sa da ya fa ea ga ha ia ja pa na tc cc xc sc dc yc fc ec gc hc ic jc pc nc V) (hb : Below V.heap.size V Y) :
    SzS w b1 b2 b3 b4 t s v lc ld lv lp xs ys gs nt ta ca xa sa da ya fa ea ga ha ia ja pa na tc cc xc sc dc yc fc ec gc hc ic jc pc nc Y :=
  ⟨h.s1.below hb, h.s2.below hb, h.s3.below hb, h.s4.below hb, h.sp.belowG hb, h.sn.below hb, h.st.below hb, h.sb.trans (hb.mono h.sb.size)⟩
end Go.Proofs.YtdidgddcgjpokaaGreatDoor
