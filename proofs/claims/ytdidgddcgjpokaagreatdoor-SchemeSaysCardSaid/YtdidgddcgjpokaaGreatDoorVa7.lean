/- Merged: NzCan, NzRc, NzRd, NyRNum, NzFre, GvSmR, GvEq, GvCanR, GvCanS. -/
import Derived.Test.YtdidgddcgjpokaaGreatDoorVa6
import Derived.Test.YtdidgddcgjpokaaGreatDoorVa3
import Derived.Test.YtdidgddcgjpokaaGreatDoorVa4
import Derived.Test.YtdidgddcgjpokaaGreatDoorVa2
import Derived.Test.YtdidgddcgjpokaaGreatDoorVa5
/- paideiaref4.Canon, of whatever scheme. -/
namespace Go.Proofs.YtdidgddcgjpokaaGreatDoor
open Go.RowKit Go.Maps Go.Sort Go.Lib
attribute [local go_sem] Oper.semAt_some

theorem newsTo_same {tk tk' : List ByteArray} (hs : ∀ x, x ∈ tk ↔ x ∈ tk') (j : Nat) : newsTo tk j = newsTo tk' j := by
  unfold newsTo
  refine List.filter_congr fun x _ => ?_
  rw [Bool.eq_iff_iff, Bool.not_eq_true', Bool.not_eq_true', Bool.eq_false_iff, Bool.eq_false_iff, ne_eq, ne_eq, inB_iff, inB_iff, hs x]
theorem lft_mem {nt L : List ByteArray} {x : ByteArray} : x ∈ lft nt L ↔ x ∈ L ∧ x ∉ nt := by
  unfold lft
  rw [List.mem_filter, Bool.not_eq_true', Bool.eq_false_iff, ne_eq, inB_iff]
/-- What Canon's loop has made in the end. -/
theorem rcan_new {V0 : List ByteArray} {t : T} {lc l1 : List Pr} {xs zn : List ByteArray} {n : Nat} (hok : SOK V0 t lc) (hm : ∀ q, q ∈ l1 ↔ q ∈ lc) (hok1 : SOK V0 t l1)
    (hz : zn = newsTo (lft xs (fvs [] [] (t :: lc.map (·.2)))) n) (hl : zn.length = (bsOf t l1 xs).length) (hn : n ≤ zn.length + (lft xs (fvs [] [] (t :: lc.map (·.2)))).length) (hn1 : n ≤ 100) : NewX (bsOf t l1 xs).length (osOf t l1 xs) zn := by
  have hmem : ∀ x, x ∈ lft xs (fvs [] [] (t :: lc.map (·.2))) ↔ x ∈ osOf t l1 xs := fun x => by
    rw [show osOf t l1 xs = lft xs (fvs [] [] (t :: l1.map (·.2))) from rfl, lft_mem, lft_mem, hok.all.1, hok1.all.1]
    refine and_congr_left fun _ => ?_
    simp only [List.mem_cons, List.mem_map]
    constructor
    · rintro ⟨u, hu, hx⟩
      refine ⟨u, hu.imp id fun ⟨q, hq, e⟩ => ⟨q, (hm q).2 hq, e⟩, hx⟩
    · rintro ⟨u, hu, hx⟩
      refine ⟨u, hu.imp id fun ⟨q, hq, e⟩ => ⟨q, (hm q).1 hq, e⟩, hx⟩
  have hnd : ∀ l : List Pr, (lft xs (fvs [] [] (t :: l.map (·.2)))).Nodup := fun l => (fvs_nodups _ [] [] List.nodup_nil).filter _
  have hle : (lft xs (fvs [] [] (t :: lc.map (·.2)))).length ≤ (osOf t l1 xs).length := nodup_lenS (hnd lc) fun x hx => (hmem x).1 hx
  have e : zn = newsTo (osOf t l1 xs) n := by rw [hz]; exact newsTo_same hmem n
  refine ⟨⟨hl, ?_, fun x hx => ?_⟩, n, by omega, e⟩
  · rw [e]; exact newsTo_nodup _ n hn1
  · rw [e] at hx; exact ⟨newsTo_free hx, newsTo_size hx⟩
set_option maxRecDepth 100000 in
set_option maxHeartbeats 8000000 in
theorem rcanon_any (V0 : List ByteArray) (t : T) (lc : List Pr) (xs : List ByteArray) (hok : SOK V0 t lc) (hxl : xs.length ≤ 1000000) (xa ca ta : Option Addr) (xc cc tc : Nat) (w : World) (ht : TysAt w (.slice ta t.kids.length tc) t.kids) (hx : TextsAt w (.slice xa xs.length xc) xs) (hP : PrsAt w (.slice ca lc.length cc) lc) :
    Calls Tryz.prog 11 #[.agg #[.slice xa xs.length xc, .slice ca lc.length cc, .int .i64 t.kind, .string t.name, .slice ta t.kids.length tc]] w fun e w' =>
      (∃ (zn : List ByteArray) (u : T) (l2 : List Pr) (za : Option Addr) (zc : Nat) (zp : Option Addr) (zq : Nat) (zt : Option Addr) (zu : Nat), e = .returned (.agg #[.slice za zn.length zc, .slice zp l2.length zq, .int .i64 u.kind, .string u.name, .slice zt u.kids.length zu]) ∧ (TextsAt w' (.slice za zn.length zc) zn ∧ PrsAt w' (.slice zp l2.length zq) l2 ∧ TysAt w' (.slice zt u.kids.length zu) u.kids) ∧ CanP t lc xs zn u l2) ∧ Below w.heap.size w w' := by
  obtain ⟨i0, hi, hz0, hz1, hz2⟩ := info_parts Tryz.infoStrC
  have hb0 := below_two w (.cells #[.slice xa xs.length xc, .slice ca lc.length cc, .int .i64 t.kind, .string t.name, .slice ta t.kids.length tc] 33) (.cells #[.slice none 0 0, .slice none 0 0, .int .i64 0, .string ⟨#[]⟩, .slice none 0 0] 33)
  have hB0 := (SchB.new (xv := .slice xa xs.length xc) (cv := .slice ca lc.length cc) ht).below ((Below.refl _ _).alloc (Nat.le_refl _) (.cells #[.slice none 0 0, .slice none 0 0, .int .i64 0, .string ⟨#[]⟩, .slice none 0 0] 33))
  have hZ0 := new_two w (.cells #[.slice xa xs.length xc, .slice ca lc.length cc, .int .i64 t.kind, .string t.name, .slice ta t.kids.length tc] 33) (.cells #[.slice none 0 0, .slice none 0 0, .int .i64 0, .string ⟨#[]⟩, .slice none 0 0] 33)
  have H0 := Lib.hid (And.intro hB0 (And.intro (show Sch0 (w.heap.size + 1) _ from hZ0) (And.intro (hx.below hb0) (And.intro (hP.belowG hb0) hb0))))
  have hcell := (cells5 hB0.1)
  obtain ⟨v0, v1, v2, v3, v4⟩ := hcell
  have hz0' : w.heap.size < w.heap.size + 1 := by omega
  obtain ⟨l1, hs1, hm1⟩ := srt_is lc
  have hl1 : l1.length ≤ 12 := Nat.le_trans (srtP_len hs1 fun q h => (hm1 q).1 h) hok.2.1
  have hl0 : lc.length ≤ 12 := hok.2.1
  have hok1 := hok.same (fun q h => (hm1 q).1 h) hl1
  have HOk := Lib.hid hok; have HOk1 := Lib.hid hok1
  have HC1 := Lib.hid (And.intro hs1 hm1)
  obtain ⟨L0, hL0⟩ : ∃ l, fvs [] [] (t :: lc.map (·.2)) = l := ⟨_, rfl⟩
  obtain ⟨L, hL⟩ : ∃ l, fvs [] [] (t :: l1.map (·.2)) = l := ⟨_, rfl⟩
  have HA0 := Lib.hid hok.all; have HA1 := Lib.hid hok1.all
  rw [hL0] at HA0
  rw [hL] at HA1
  have HL0 := Lib.hid hL0; have HL := Lib.hid hL
  have hfl : (lft xs L0).length ≤ 4 := Nat.le_trans (List.length_filter_le _ _) HA0.out.2.1
  obtain ⟨fr, hfr⟩ : ∃ l, lft xs L0 = l := ⟨_, rfl⟩
  have HFr := Lib.hid hfr
  have hRF := rfree_any xs hxl xa xc t lc L0 hL0 (by have := HA0.out.2.1; omega) (by have := HA0.out.2.2.2; omega) ta ca tc cc _ H0.out.1.2 H0.out.2.2.2.1 (by omega) H0.out.2.2.1
  rw [hfr] at hRF hfl
  have HRF := Lib.hid hRF
  clear hb0 hB0 hZ0 ht hx hok hok1 hP hs1 hm1 hL0 hL hfr hRF
  go_enter Tryz.func11, Tryz.ntmps11
  go_wp2_with (go_at_call 15; fail)
  refine HRF.out.mono ?_
  rintro e w1 ⟨⟨oa, oc, rfl, hT1⟩, hb1⟩
  have H1 := Lib.hid (show SFg w1 w.heap.size xa xc xs ca cc lc t ta tc w1 from ⟨H0.out.1.below hb1, H0.out.2.2.1.below hb1, H0.out.2.2.2.1.belowG hb1, Below.refl _ _⟩)
  have HZ1 := Lib.hid (And.intro (H0.out.2.1.below hb1) (And.intro hT1 (H0.out.2.2.2.2.trans (hb1.mono H0.out.2.2.2.2.size))))
  clear hT1 hb1 H0 HRF v0 v1 v2 v3 v4
  go_wp2_with fail
  refine rca_here (w := w1) (b1 := w.heap.size) (xa := xa) (ca := ca) (ta := ta) (xc := xc) (cc := cc) (tc := tc) (xs := xs) (L := L) (lc := lc) (l1 := l1) (t := t)
    (fun V h => rsortP_any lc l1 HC1.out.1 HC1.out.2 (fun q hq => by have := (HOk.out.2.2 q.2 (List.mem_cons_of_mem _ (List.mem_map.2 ⟨q, hq, rfl⟩))).2.2.1; omega) (by omega) ca cc V h.2.2.1)
    (fun V h pa4 pc4 hp => rallc_any t l1 ta pa4 tc pc4 V h.1.2 hp (by omega))
    (fun V h aa5 ac5 hp => by
      have := rVars_any (t :: l1.map (·.2)) (by have := HA1.out.2.2.2; omega) aa5 ac5 V (by simpa using hp)
      simp only [List.length_cons, List.length_map] at this
      rw [HL.out] at this
      refine this.mono fun e Y hq => ?_
      obtain ⟨⟨v, rfl, hv⟩, hb⟩ := hq
      obtain ⟨a', c', rfl⟩ := hv.shape
      exact ⟨⟨a', c', rfl, hv⟩, hb⟩)
    _ (by kernel_rfl) (by kernel_rfl) (by kernel_rfl) (H1.out.below (below_d _)) ?_
  intro x V la ld hV e7 hX
  have hb3 := below_a V (.cells #[.slice none 0 0, .slice none 0 0, .int .i64 0, .string ⟨#[]⟩, .slice none 0 0] 33)
  have hn3 := alloc_new V (.cells #[.slice none 0 0, .slice none 0 0, .int .i64 0, .string ⟨#[]⟩, .slice none 0 0] 33)
  have hs3 : (V.alloc (.cells #[.slice none 0 0, .slice none 0 0, .int .i64 0, .string ⟨#[]⟩, .slice none 0 0] 33)).heap.size = V.heap.size + 1 := by simp
  have HV := Lib.hid (And.intro hV (And.intro (HZ1.out.1.below hV.2.2.2) (And.intro (HZ1.out.2.1.below hV.2.2.2) (And.intro hX (HZ1.out.2.2.trans (hV.2.2.2.mono HZ1.out.2.2.size))))))
  clear hV hX H1 HZ1
  simp only [rcaFr, e7]
  simp only [Array.getD_eq_getD_getElem?, List.getElem?_toArray, List.getElem?_cons_succ, List.getElem?_cons_zero, Option.getD_some]
  go_wp2_with fail
  have HI := Lib.hid (show RCI V.heap.size V (V.alloc (.cells #[.slice none 0 0, .slice none 0 0, .int .i64 0, .string ⟨#[]⟩, .slice none 0 0] 33)) [] (.slice none 0 0) [] (.slice none 0 0) (V.alloc (.cells #[.slice none 0 0, .slice none 0 0, .int .i64 0, .string ⟨#[]⟩, .slice none 0 0] 33)) from ⟨hn3, World.ownsRow_nil _ _ _ _, World.ownsRow_nil _ _ _ _, fun _ _ _ => rfl, hb3, Nat.le_refl _⟩)
  have HB3 := Lib.hid hb3
  clear hb3 hn3
  generalize V.alloc (.cells #[.slice none 0 0, .slice none 0 0, .int .i64 0, .string ⟨#[]⟩, .slice none 0 0] 33) = W3 at *
  have HZ3 := Lib.hid hs3
  have hL4 := HA1.out.2.1
  clear hs3
  go_loopw [5, 7, 8] (fun vby vn vi wr => ∃ (i n m d2 d : Nat) (b2 b : Option Addr) (ds : List PR) (M : List ByteArray), i ≤ L.length ∧ vi = .int .i64 i ∧ vn = .int .i64 n ∧ vby = .slice b2 m d2 ∧ m ≤ i ∧ n ≤ m + fr.length ∧ Hid (M = newsTo fr n ∧ M.length = m ∧ DsOf ds ((L.take i).filter (inB xs)) M ∧ (ds = [] → Value.slice b2 m d2 = .slice none 0 0)) ∧ Hid (RCI V.heap.size V W3 M (.slice b m d) ds (.slice b2 m d2) wr)) (fun _ _ vi _ => L.length - (intOf vi).toNat)
  case atStart => exact ⟨0, 0, 0, 0, 0, none, none, [], [], Nat.zero_le _, rfl, rfl, rfl, Nat.le_refl _, by omega, Lib.hid ⟨rfl, rfl, DsOf.nil, fun _ => rfl⟩, HI⟩
  case round =>
    obtain ⟨i, n, m, d2, d, b2, b, ds, M, hi', rfl, rfl, rfl, hmi, hnm, hM, hI⟩ := hrel
    clear HI
    have hVr := hI.out.2.2.2.2.1
    by_cases hlt : i < L.length
    · have hltI : (i : Int) < (L.length : Int) := by omega
      have hi0 : (0 : Int) ≤ (i : Int) := by omega
      obtain ⟨gL, rfl, hLc, hTR⟩ := TRow.of HV.out.2.2.2.1 (by omega)
      obtain ⟨f5, hf5⟩ : ∃ f, L.getD i ⟨#[]⟩ = f := ⟨_, rfl⟩
      have HF5 := Lib.hid hf5
      obtain ⟨r, hr⟩ : ∃ r, inB xs f5 = r := ⟨_, rfl⟩
      have HR := Lib.hid hr
      have hsn := bsf_snoc xs L hlt
      rw [hf5, hr] at hsn
      have HSn := Lib.hid hsn
      have HT9 := Lib.hid (show TRow gL L wr.drew ∧ SFg V w.heap.size xa xc xs ca cc lc t ta tc wr.drew ∧ RCI V.heap.size V W3 M (.slice b m d) ds (.slice b2 m d2) wr.drew from
        ⟨(hTR.below hVr).below (below_d _), ⟨HV.out.1.1.below (hVr.trans ((below_d wr).mono hVr.size)), HV.out.1.2.1.below (hVr.trans ((below_d wr).mono hVr.size)), HV.out.1.2.2.1.belowG (hVr.trans ((below_d wr).mono hVr.size)), hVr.trans ((below_d wr).mono hVr.size)⟩, hI.out.below (below_d _)⟩)
      have hds : ds.length ≤ 1000 := by have h1 := hM.out.2.2.1.1; have h2 := hM.out.2.2.1.2.1; have h3 := hM.out.2.1; omega
      have HTV := Lib.hid hTR
      clear hf5 hr hsn hTR hVr hI
      go_wp2_with fail
      refine rce_here (w := V) (W3 := W3) (b1 := w.heap.size) (p := V.heap.size) (gL := gL) (nL := L.length) (cL := ld) (ix := i) (xa := xa) (ca := ca) (ta := ta) (xc := xc) (cc := cc) (tc := tc) (xs := xs) (L := L) (M := M) (lc := lc) (t := t) (f5 := f5) (r := r) (ds := ds) (vv := .slice b m d) (lv := .slice b2 m d2) hlt HF5 hi0 hltI
        (fun V' h => by
          have := hasR_any xs (by omega) f5 xa xc V' h.2.1.2.1
          rw [HR.out] at this
          exact this.mono fun e Y hq => by obtain ⟨rfl, rfl⟩ := hq; exact ⟨rfl, Below.refl _ _⟩)
        _ (by kernel_rfl) (by kernel_rfl) (by kernel_rfl) (by kernel_rfl) (by kernel_rfl) HT9.out ?_
      intro x V9 hV9 e7
      have HV9 := Lib.hid hV9
      clear HT9 hV9
      simp only [rceFr, e7]
      simp only [Array.getD_eq_getD_getElem?, List.getElem?_toArray, List.getElem?_cons_succ, List.getElem?_cons_zero, Option.getD_some]
      cases r with
      | false =>
        have HMn := Lib.hid (show M = newsTo fr n ∧ M.length = m ∧ DsOf ds ((L.take (i + 1)).filter (inB xs)) M ∧ (ds = [] → Value.slice b2 m d2 = .slice none 0 0) from ⟨hM.out.1, hM.out.2.1, by rw [HSn.out]; exact hM.out.2.2.1, hM.out.2.2.2⟩)
        have HI9 := Lib.hid HV9.out.2.2
        clear HV9 hM HSn
        go_wp2_with fail
        go_roundw
        case rel => exact ⟨i + 1, n, m, d2, d, b2, b, ds, M, by omega, by go_num, rfl, rfl, by omega, hnm, HMn, HI9⟩
        case measure => simp [intOf]; omega
      | true =>
        have HTR := Lib.hid HV9.out.1
        have HSF := Lib.hid HV9.out.2.1
        have HI9 := Lib.hid HV9.out.2.2
        clear HV9
        go_wp2_with fail
        go_loopw [7] (fun vn W => ∃ n' : Nat, vn = .int .i64 n' ∧ n' ≤ m + fr.length ∧ Hid (M = newsTo fr n') ∧ Hid (RCI V.heap.size V W3 M (.slice b m d) ds (.slice b2 m d2) W) ∧ Hid (Below V9.heap.size V9 W)) (fun vn _ => m + fr.length + 1 - (intOf vn).toNat)
        case atStart => exact ⟨n, rfl, hnm, Lib.hid hM.out.1, HI9, Lib.hid (Below.refl _ _)⟩
        case round =>
          rename World => W5
          obtain ⟨n', rfl, hn', hMn, hI5, hB5⟩ := hrel
          clear HI9
          go_wp2_with (go_at_call 22; fail)
          refine (rname_low n' (by omega) _).mono ?_
          rintro e w6 ⟨rfl, hb6⟩
          have HI6 := Lib.hid (hI5.out.below hb6)
          have HB6 := Lib.hid (hB5.out.trans (hb6.mono hB5.out.size))
          clear hb6 hI5 hB5
          go_wp2_with (go_at_call 29; fail)
          refine (hasR_any fr (by omega) (nameAt n') oa oc w6 (HV.out.2.2.1.below HI6.out.2.2.2.2.1)).mono ?_
          rintro e w' ⟨rfl, rfl⟩
          obtain ⟨q, hq⟩ : ∃ q, inB fr (nameAt n') = q := ⟨_, rfl⟩
          have hsc := newsTo_succ fr n'
          rw [hq] at hsc ⊢
          have HSc := Lib.hid hsc
          clear hq hsc
          cases q with
          | true =>
            have HMn := Lib.hid (show M = newsTo fr (n' + 1) from by rw [HSc.out]; exact hMn.out)
            have hle : n' + 1 ≤ m + fr.length := by have := newsTo_len fr (n' + 1) (by omega); rw [← HMn.out, hM.out.2.1] at this; exact this
            clear HSc hMn
            go_wp2_with fail
            go_roundw
            case rel => exact ⟨n' + 1, by go_num, hle, HMn, HI6, HB6⟩
            case measure => simp [intOf]; omega
          | false =>
            have HMn := Lib.hid (show M ++ [nameAt n'] = newsTo fr (n' + 1) from by rw [HSc.out, hMn.out]; simp)
            have HN := Lib.hid (fun W => rname_low n' (by omega) W)
            have hle : n' + 1 ≤ m + 1 + fr.length := by omega
            have hpz : V.heap.size < W3.heap.size := by have := HZ3.out; omega
            have hpr : V.heap.size < w6.heap.size := by have := HI6.out.2.2.2.2.2; omega
            have hMl := hM.out.2.1
            have HMl := Lib.hid hMl
            obtain ⟨x0, x1, x2, x3, x4⟩ := cells5 HI6.out.1
            obtain ⟨y, hy⟩ : ∃ y, nameAt n' = y := ⟨_, rfl⟩
            rw [hy] at HN HMn
            clear hy HSc hMn hMl
            go_wp2_with fail
            go_region_law (first
              | (refine run_bare rfl ?_; go_simp; go_at_call 22; refine (HN.out _).mono ?_; rintro e w7 ⟨rfl, hb7⟩; have HI7 := Lib.hid ((HI6.out.below (below_d w6)).below hb7); have HB7 := Lib.hid (HB6.out.trans (((below_d w6).trans (hb7.mono (below_d w6).size)).mono HB6.out.size)); have hpr7 : V.heap.size < w7.heap.size := (by have := hb7.size; have := (below_d w6).size; omega); obtain ⟨x70, x71, x72, x73, x74⟩ := cells5 HI7.out.1; clear hb7)
              | (refine step_append_lies _ (by rfl) _ _ 23 (by rfl) W3.heap.size 9 i0 (.string ⟨#[]⟩) 1 16 Tryz.underlying23 hi hz0 hz1 hz2 rfl (by decide) _ _ _ (by rfl) (by have h := (HI7.out.below (below_a w7 (.cells #[.string y] 9))).2.1; rw [HMl.out] at h; exact h) ⟨w7.heap.size, 0, none⟩ 1 1 [.string y] (by rfl) rfl (frz_one _ _ _) (by simp [Value.oneCell']) (by decide) (by unfold maxLen; omega) (by omega) (by have := HI7.out.2.2.2.2.2; simp; omega) _ rfl ?_; intro g cap W8 hown8 hgrow8 _ _; have HG8 := Lib.hid (show (w7.alloc (.cells #[.string y] 9)).grownBy W8 (Value.slice b m d).ownBlock from ⟨hgrow8.os, hgrow8.tape, hgrow8.output, hgrow8.size, hgrow8.block⟩); have HI8 := Lib.hid (RCI.str (x := y) (HI7.out.below (below_a w7 (.cells #[.string y] 9))) hpz (Nat.le_refl _) HMl.out HG8.out hown8); have hx8 := RCI.blk (HI7.out.below (below_a w7 (.cells #[.string y] 9))) hpz HG8.out; obtain ⟨y0, y1, y2, y3, y4⟩ := cells5 hx8; have fy := Lib.frozen_of_heap hx8 0; clear hown8 hgrow8 hx8))
            all_goals
              have HTR8 := Lib.hid (HTV.out.below HI8.out.2.2.2.2.1)
              generalize W8.setCell ⟨V.heap.size, 0, none⟩ (.slice (some ⟨g, 0, none⟩) (m + 1) cap) = W9 at *
              clear y0 y1 y2 y3 y4 fy x70 x71 x72 x73 x74 x0 x1 x2 x3 x4 HG8 HI7 HB7 HI6 HB6 HTR HSF
              go_wp2_with fail
              refine rcb_here (w := V) (W3 := W3) (p := V.heap.size) (gL := gL) (nL := L.length) (cL := ld) (ix := i) (n := n') (L := L) (M := M ++ [y]) (y := y) (pr := (⟨f5, .var y, none, 0⟩ : PR)) (ds := ds) (vv := .slice (some ⟨g, 0, none⟩) (m + 1) cap) (lv := .slice b2 m d2) hlt HF5 hi0 hltI hds
                (fun V' h => HN.out V') (fun V' h => varX_any y V')
                _ (by kernel_rfl) (by kernel_rfl) (by kernel_rfl) (by kernel_rfl) (by kernel_rfl) (by kernel_rfl) ⟨HTR8.out.below (below_d _), HI8.out.below (below_d _)⟩ ?_
              intro x2 V2 g9 c9 w9 hV2 ho9 hg9
              have HI9 := Lib.hid (hV2.2.pair hpz (Nat.le_refl _) hg9 ho9)
              have HD9 := Lib.hid (show DsOf (ds ++ [(⟨f5, .var y, none, 0⟩ : PR)]) ((L.take (i + 1)).filter (inB xs)) (M ++ [y]) from by rw [HSn.out]; exact hM.out.2.2.1.snoc f5 y none 0)
              have hdl : ds.length = m := by have h1 := hM.out.2.2.1.1; have h2 := hM.out.2.2.1.2.1; have h3 := hM.out.2.1; omega
              have HMl9 := Lib.hid (show (M ++ [y]).length = m + 1 by rw [List.length_append, HMl.out]; rfl)
              rw [hdl] at HI9
              rw [hdl]
              clear hdl hV2 ho9 hg9 HTR8 HI8 hM HSn
              simp only [rcbFr, Act.put]
              simp only [Array.getD_eq_getD_getElem?, List.getElem?_toArray, List.getElem?_cons_zero, List.getElem?_cons_succ, Option.getD_some, List.setIfInBounds_toArray, List.set_cons_zero, List.set_cons_succ]
              go_wp2_with fail
              go_roundw
              case rel => exact ⟨i + 1, n' + 1, m + 1, c9, cap, some ⟨g9, 0, none⟩, some ⟨g, 0, none⟩, ds ++ [(⟨f5, .var y, none, 0⟩ : PR)], M ++ [y], by omega, by go_num, by go_num, rfl, by omega, hle, Lib.hid ⟨HMn.out, HMl9.out, HD9.out, fun e => by simp at e⟩, HI9⟩
              case measure => simp [intOf]; omega
    · obtain rfl : i = L.length := by omega
      have hbs : (L.take L.length).filter (inB xs) = bsOf t l1 xs := by unfold bsOf; rw [HL.out, List.take_length]
      have hM2 := hM.out
      rw [hbs] at hM2
      obtain ⟨h1, h2, h3, h4⟩ := hM2
      have hApp := h3.app wr
      have hGv := given_of_row hI.out.2.2.1 h4
      have hdl : ds.length ≤ 4 := by have h5 := h3.1; have h6 := h3.2.1; omega
      have HNew := Lib.hid (rcan_new HOk.out HC1.out.2 HOk1.out (zn := M) (n := n) (xs := xs) (by rw [HL0.out, HFr.out]; exact h1) h3.2.1 (by rw [HL0.out, HFr.out]; omega) (by omega))
      have HApp := Lib.hid hApp.2
      have hml : M.length = m := h2
      obtain ⟨l2, hs2, hm2⟩ := srt_is (appP ds lc)
      have HC2 := Lib.hid (And.intro hs2 hm2)
      have HD := Lib.hid (And.intro hGv hApp.1)
      have HVr := Lib.hid hI.out.2.2.2.2.1
      have hSB := HV.out.1.1.below hI.out.2.2.2.2.1
      obtain ⟨x0, x1, x2, x3, x4⟩ := cells5 hSB.1
      have HSB := Lib.hid hSB
      have HI := Lib.hid hI.out
      have hpw : w.heap.size + 1 < V.heap.size := (Array.getElem?_eq_some_iff.1 HV.out.2.1).1
      have hpw2 := HI.out.2.2.2.2.2
      have HMl := Lib.hid hml
      have htsz : tsize t ≤ 1000000000 := by have := (HOk.out.2.2 t (List.mem_cons_self ..)).2.2.1; omega
      have HH1 := Lib.hid h1
      clear hM hbs h1 h2 h3 h4 hApp hGv hs2 hm2 hSB hI hml
      go_wp2_with (go_at_call 27; fail)
      refine (rapp_big (d := ds) (by omega) HD.out.1 HD.out.2 HSB.out.2 htsz).mono ?_
      rintro e w4 ⟨⟨za, zc, rfl, hT4⟩, hb4⟩
      have HI4 := Lib.hid (HI.out.below hb4)
      have HK4 := Lib.hid (KeepO.of_below hb4)
      have HB4 := Lib.hid (And.intro (HSB.out.below hb4) (HVr.out.trans (hb4.mono HVr.out.size)))
      have HT4 := Lib.hid hT4
      obtain ⟨u, hu⟩ : ∃ u, app ds t = u := ⟨_, rfl⟩
      rw [hu] at HT4
      rw [hu]
      have HU := Lib.hid hu
      have hc4 := cells5 HI4.out.1
      obtain ⟨v0, v1, v2, v3, v4⟩ := hc4
      have f2 := Lib.frozen_of_heap HI4.out.1 2; have f3 := Lib.frozen_of_heap HI4.out.1 3; have f4 := Lib.frozen_of_heap HI4.out.1 4
      have h5p := set3z_block HI4.out.1 (.int .i64 u.kind) (.string u.name) (.slice za u.kids.length zc)
      have h5o := fun k (hk : k ≠ V.heap.size) => set3z_other w4 V.heap.size (.int .i64 u.kind) (.string u.name) (.slice za u.kids.length zc) hk
      have h5b := below_set3z HB4.out.2 (Nat.le_refl _) (.int .i64 u.kind) (.string u.name) (.slice za u.kids.length zc)
      have hk5 := keepO_other HI4.out.1 h5o
      have HM5 := Lib.hid ((TextsAt.of_row HI4.out.2.1).keep fun k cs fz hk => hk5 k cs _ fz (by decide) hk)
      have H5 := Lib.hid (And.intro h5p (And.intro h5b (And.intro ((h5o w.heap.size (by omega)).trans HB4.out.1.1) (And.intro ((HD.out.1.keepO HK4.out).keepO hk5) (And.intro (fun y hy => ((HD.out.2 y hy).keepOz HK4.out).keepOz hk5 : Typ ds _) (HT4.out.keepOz hk5))))))
      clear h5p h5o h5b hk5 hT4 hb4 hu x0 x1 x2 x3 x4 HK4 HT4 HI HSB HD
      unfold set3z at H5 HM5
      obtain ⟨z0, z1, z2, z3, z4⟩ := cells5 H5.out.2.2.1
      go_wp2_with (go_at_call 26; fail)
      have HPc := Lib.hid (HV.out.1.2.2.1.belowG H5.out.2.1)
      have HSz := Lib.hid (show ∀ q ∈ lc, tsize q.2 ≤ 200 from fun q hq => (HOk.out.2.2 q.2 (List.mem_cons_of_mem _ (List.mem_map.2 ⟨q, hq, rfl⟩))).2.2.1)
      generalize ((w4.setCell ⟨V.heap.size, 2, none⟩ (.int .i64 u.kind)).setCell ⟨V.heap.size, 3, none⟩ (.string u.name)).setCell ⟨V.heap.size, 4, none⟩ (.slice za u.kids.length zc) = W5 at *
      refine (rpreds_any (.slice b2 m d2) _ ds lc W5 (by omega) H5.out.2.2.2.1 H5.out.2.2.2.2.1 HPc.out (fun q hq => by have := HSz.out q hq; omega) (by omega)).mono ?_
      rintro e w6 ⟨⟨pa, pc, rfl, hp6⟩, hb6⟩
      have hal : (appP ds lc).length = lc.length := by simp [appP]
      have hAsz : ∀ q ∈ appP ds lc, tsize q.2 ≤ 1000000 := fun q hq => by
        obtain ⟨q0, h0, rfl⟩ := List.mem_map.1 hq
        show tsize (app ds q0.2) ≤ 1000000
        rw [HApp.out.1, app_sub, size_subV q0.2 fun y hy => ?_]
        · have := HSz.out q0 h0; omega
        · by_cases hyb : y ∈ bsOf t l1 xs
          · obtain ⟨z, _, e⟩ := ty_prs_in (bsOf t l1 xs) M y HNew.out.1.1.symm hyb; exact ⟨z, e⟩
          · exact ⟨y, ty_prs_out (bsOf t l1 xs) M y hyb⟩
      have hSP := rsortP_any (appP ds lc) l2 HC2.out.1 HC2.out.2 hAsz (by omega) pa pc w6 (by rw [hal]; exact hp6)
      rw [hal] at hSP
      have HSP := Lib.hid hSP
      have HM6 := Lib.hid (HM5.out.below hb6)
      have H6 := Lib.hid (And.intro ((hb6.block _ (Array.getElem?_eq_some_iff.1 H5.out.1).1).trans H5.out.1) (And.intro (H5.out.2.1.trans (hb6.mono H5.out.2.1.size)) (H5.out.2.2.2.2.2.keep (KeepT.of_below hb6))))
      clear hal hAsz hSP hp6 hb6 H5 HPc z0 z1 z2 z3 z4 v0 v1 v2 v3 v4 f2 f3 f4
      go_wp2_with (go_at_call 20; fail)
      refine HSP.out.mono ?_
      rintro e w7 ⟨⟨qa, qc, rfl, hp7⟩, hb7⟩
      have h7 := (hb7.block _ (Array.getElem?_eq_some_iff.1 H6.out.1).1).trans H6.out.1
      have H7 := Lib.hid (And.intro h7 (And.intro (H6.out.2.1.trans (hb7.mono H6.out.2.1.size)) (And.intro (H6.out.2.2.keep (KeepT.of_below hb7)) hp7)))
      obtain ⟨v0, v1, v2, v3, v4⟩ := cells5 h7
      have f1 := Lib.frozen_of_heap h7 1
      have h8 := blk_set (o := 1) h7 (.slice qa l2.length qc)
      have h8o := fun k (hk : k ≠ V.heap.size) => Below.heap_setCell w7 ⟨V.heap.size, 1, none⟩ (.slice qa l2.length qc) k hk
      have hk8 := keepO_other h7 h8o
      have hb8 := H7.out.2.1.setCell (p := ⟨V.heap.size, 1, none⟩) (Nat.le_refl _) (.slice qa l2.length qc)
      have H8 := Lib.hid (And.intro h8 (And.intro hb8 (And.intro (H7.out.2.2.1.keepOz hk8) (H7.out.2.2.2.keepOz hk8))))
      have HZ8 := Lib.hid (HV.out.2.1.below hb8)
      have HM8 := Lib.hid ((HM6.out.below hb7).keep fun k cs fz hk => hk8 k cs _ fz (by decide) hk)
      obtain ⟨y0, y1, y2, y3, y4⟩ := cells5 h8
      obtain ⟨g0, g1, g2, g3, g4⟩ := cells5 HZ8.out
      have q0 := Lib.frozen_of_heap HZ8.out 0; have q1 := Lib.frozen_of_heap HZ8.out 1; have q2 := Lib.frozen_of_heap HZ8.out 2; have q3 := Lib.frozen_of_heap HZ8.out 3; have q4 := Lib.frozen_of_heap HZ8.out 4
      have HL8 := Lib.hid (cells5 (set5_block HZ8.out (.slice b m d) (.slice qa l2.length qc) (.int .i64 u.kind) (.string u.name) (.slice za u.kids.length zc)))
      have hk9 := keepO_set5 HZ8.out (.slice b m d) (.slice qa l2.length qc) (.int .i64 u.kind) (.string u.name) (.slice za u.kids.length zc)
      have HE := Lib.hid (And.intro (HM8.out.keep fun k cs fz hk => hk9 k cs _ fz (by decide) hk) (And.intro (H8.out.2.2.2.keepOz hk9) (And.intro (H8.out.2.2.1.keepOz hk9) (below_set5 (HV.out.2.2.2.2.trans (H8.out.2.1.mono HV.out.2.2.2.2.size)) (show w.heap.size ≤ w.heap.size + 1 by omega) (.slice b m d) (.slice qa l2.length qc) (.int .i64 u.kind) (.string u.name) (.slice za u.kids.length zc)))))
      clear h7 h8 h8o hk8 hb8 hp7 hb7 H6 HSP hk9 H8 HZ8
      go_wp2_with fail
      have hc := HL8.out
      unfold set5 at hc
      refine bodyPost_ret (v := .agg #[.slice b m d, .slice qa l2.length qc, .int .i64 u.kind, .string u.name, .slice za u.kids.length zc]) (by simp [results, Tryz.results11, go_sem, hc.1, hc.2.1, hc.2.2.1, hc.2.2.2.1, hc.2.2.2.2]) rfl ⟨⟨M, u, l2, b, d, qa, qc, za, zc, by rw [HMl.out], ⟨by rw [HMl.out]; exact HE.out.1, HE.out.2.1, HE.out.2.2.1⟩, l1, HC1.out.1, HC1.out.2, HNew.out, ?_, HC2.out.1, ?_⟩, HE.out.2.2.2⟩
      · rw [← HU.out]; exact HApp.out.1 t
      · intro q
        rw [HC2.out.2, HApp.out.2]
        unfold appP
        simp only [List.mem_map]
        exact ⟨fun ⟨k, hk, e⟩ => ⟨k, (HC1.out.2 k).2 hk, e⟩, fun ⟨k, hk, e⟩ => ⟨k, (HC1.out.2 k).1 hk, e⟩⟩
end Go.Proofs.YtdidgddcgjpokaaGreatDoor
/- one pair more: its last statement, a region of 12 operations that draws its order, by an invariant. (Made by a program.) -/
namespace Go.Proofs.YtdidgddcgjpokaaGreatDoor
open Go.RowKit Go.Maps Go.Sort Go.Lib
attribute [local go_sem] Oper.semAt_some

noncomputable def rfcOps : Array Oper := regionIn 9 (Tryz.f9.body.getD .skip)
def rfcFr (b : Nat → Value) (d : List Deferred) (x : Nat → Value) : Act := { tmps := #[b 0, b 1, b 2, b 3, b 4, b 5, b 6, b 7, b 8, b 9, b 10, b 11, b 12, b 13, b 14, b 15, b 16, b 17, b 18, b 19, b 20, b 21, b 22, b 23, b 24, b 25, x 0, x 1, x 2, x 3, x 4, x 5, x 6, x 7, x 8, x 9, x 10, b 37, b 38, b 39, b 40, b 41, b 42, b 43, b 44, b 45, b 46, b 47], defers := d }

def rfcVals (b2 gL nL cL ix : Nat) (y : ByteArray) (pr : PR) (lv : Value) (i : Nat) (v : Value) (V : World) : Prop :=
  match i with
  | 0 => v = lv
  | 1 => v = .pointer (some ⟨b2, 0, none⟩)
  | 2 => v = .slice (some ⟨gL, 0, none⟩) nL cL
  | 3 => v = .int .i64 (ix : Int)
  | 4 => v = .pointer (some ⟨gL, ix, none⟩)
  | 5 => v = .string pr.n
  | 6 => v = .string y
  | 7 => v = .agg #[.int .i64 pr.t.kind, .string pr.t.name, .slice pr.a pr.t.kids.length pr.c]
  | 8 => v = .agg #[.string pr.n, .int .i64 pr.t.kind, .string pr.t.name, .slice pr.a pr.t.kids.length pr.c]
  | 9 => ∃ zb, v = .slice (some ⟨zb, 0, none⟩) 1 1 ∧ RowY pr zb V
  | _ => True

theorem rfcVals_keep {b2 gL nL cL ix : Nat} {y : ByteArray} {pr : PR} {lv : Value} (i : Nat) (v : Value) (V Y : World) (h : rfcVals b2 gL nL cL ix y pr lv i v V) (hb : Below V.heap.size V Y) : rfcVals b2 gL nL cL ix y pr lv i v Y := by
  unfold rfcVals at *
  split at h <;> first
    | exact h
    | (obtain ⟨zb, e, h⟩ := h; exact ⟨zb, e, h.below hb⟩)

theorem rfc_size : rfcOps.size = 12 := by kernel_rfl
theorem rfc_cov : covered rfcOps 10 = true := by kernel_rfl
set_option linter.unusedSimpArgs false in
set_option maxRecDepth 100000 in
set_option maxHeartbeats 8000000 in
theorem rfc_region {W1 : World} {b2 gL nL cL ix : Nat} {L M : List ByteArray} {y : ByteArray} {pr : PR} {ds : List PR} {vv lv cv : Value} {t : T} {ta : Option Addr} {tc : Nat} (hiN : ix < L.length) (hf : Hid (L.getD ix ⟨#[]⟩ = pr.n)) (hi0 : (0 : Int) ≤ (ix : Int)) (hi3 : (ix : Int) < (nL : Int)) (hds : ds.length ≤ 1000) {b : Nat → Value} {d : List Deferred}
    (h2 : b 2 = .pointer (some ⟨b2, 0, none⟩)) (h6 : b 6 = lv) (h8 : b 8 = .int .i64 (ix : Int)) (h9 : b 9 = .string y)
    (HC7 : ∀ V, (TRow gL L V ∧ SchB b2 (.slice (some ⟨gL, 0, none⟩) nL cL) cv t ta tc V ∧ RFI W1 M vv ds lv V) → Calls Tryz.prog 25 #[.string y] V fun e Y => e = .returned (.agg #[.int .i64 pr.t.kind, .string pr.t.name, .slice pr.a pr.t.kids.length pr.c]) ∧ Below V.heap.size V Y)
    {Q : Exit → Act → World → Prop} {ops : Array Oper} (hops : ops = rfcOps) (x0 : Nat → Value) (X : World) (hS : (TRow gL L X.drew ∧ SchB b2 (.slice (some ⟨gL, 0, none⟩) nL cL) cv t ta tc X.drew ∧ RFI W1 M vv ds lv X.drew))
    (hfin : ∀ (x : Nat → Value) V g9 c9 w9, (TRow gL L V ∧ SchB b2 (.slice (some ⟨gL, 0, none⟩) nL cL) cv t ta tc V ∧ RFI W1 M vv ds lv V) → w9.ownsRow W1.heap.size 53 4 (.slice (some ⟨g9, 0, none⟩) (ds.length + 1) c9) (ds.length + 1) (cellsP ds ++ encP pr) → V.grownBy w9 lv.ownBlock → Q .normal (((rfcFr b d x).put (some 36) (.slice (some ⟨g9, 0, none⟩) (ds.length + 1) c9)).put (some 6) (.slice (some ⟨g9, 0, none⟩) (ds.length + 1) c9)) w9) : (Code.region 9 ops true).wp Tryz.prog Q (rfcFr b d x0) X := by
  have HC := Lib.hid (HC7)
  clear HC7
  have hszo : ops.size = 10 + 2 := by rw [hops]; exact rfc_size
  have hcovo : covered ops 10 = true := by rw [hops]; exact rfc_cov
  refine region_tail (rfcFr b d) (fun V => (TRow gL L V ∧ SchB b2 (.slice (some ⟨gL, 0, none⟩) nL cL) cv t ta tc V ∧ RFI W1 M vv ds lv V)) (fun V Y => Below V.heap.size V Y) (rfcVals b2 gL nL cL ix y pr lv) x0 10 (by kernel_rfl) rfl hS hszo hcovo (fun V Y h hb => ⟨h.1.below hb, h.2.1.below hb, h.2.2.below hb⟩) (fun i v V Y _ h hb => rfcVals_keep i v V Y h hb) ?_
  have HFIN := Lib.hid hfin
  clear hfin hS hszo hcovo
  obtain ⟨gl, hgl⟩ : ∃ qq, TailAt Tryz.prog (rfcFr b d) (fun V => (TRow gL L V ∧ SchB b2 (.slice (some ⟨gL, 0, none⟩) nL cL) cv t ta tc V ∧ RFI W1 M vv ds lv V)) (rfcVals b2 gL nL cL ix y pr lv) ops Q 10 = qq := ⟨_, rfl⟩
  rw [hgl]
  obtain ⟨f, hf⟩ : ∃ qq, StepAt Tryz.prog (rfcFr b d) (fun V => (TRow gL L V ∧ SchB b2 (.slice (some ⟨gL, 0, none⟩) nL cL) cv t ta tc V ∧ RFI W1 M vv ds lv V)) (fun V Y => Below V.heap.size V Y) (rfcVals b2 gL nL cL ix y pr lv) ops Q = qq := ⟨_, rfl⟩
  rw [hf, hops]
  simp only [rfcOps, Tryz.f9, regionIn, Option.getD_some, Nat.reduceBEq, Bool.false_eq_true, if_false, if_true, beq_self_eq_true, Array.append_empty, Array.empty_append, List.append_eq, List.cons_append, List.nil_append, AllTail, Nat.reduceAdd, Nat.zero_add]
  -- 0: slot 26 := Op.move t6
  refine And.intro ?_ ?_
  · clear HFIN hgl
    rw [← hf]; clear hf
    refine ⟨by decide +kernel, fun x v => by kernel_rfl, fun x V hV hdep K hK => ?_⟩
    clear hdep
    refine run_bare (by kernel_rfl) ?_
    unfold rfcFr
    go_simp
    refine kfit (hK _ _ (Below.refl _ V) rfl) ?_
    first | (simp only [rfcFr, Act.put, List.setIfInBounds_toArray, List.set_cons_zero, List.set_cons_succ, h2, h6, h8, h9]; done) | (simp only [rfcFr, Act.put, List.setIfInBounds_toArray, List.set_cons_zero, List.set_cons_succ, h2, h6, h8, h9]; rfl)
  -- 1: slot 27 := Op.fieldAddr 33 t2 0
  refine And.intro ?_ ?_
  · clear HFIN hgl
    rw [← hf]; clear hf
    refine ⟨by decide +kernel, fun x v => by kernel_rfl, fun x V hV hdep K hK => ?_⟩
    clear hdep
    refine run_bare (by kernel_rfl) ?_
    unfold rfcFr
    go_simp
    refine kfit (hK _ _ (Below.refl _ V) rfl) ?_
    first | (simp only [rfcFr, Act.put, List.setIfInBounds_toArray, List.set_cons_zero, List.set_cons_succ, h2, h6, h8, h9]; done) | (simp only [rfcFr, Act.put, List.setIfInBounds_toArray, List.set_cons_zero, List.set_cons_succ, h2, h6, h8, h9]; rfl)
  -- 2: slot 28 := Op.load 23 t27
  refine And.intro ?_ ?_
  · clear HFIN hgl
    rw [← hf]; clear hf
    refine ⟨by decide +kernel, fun x v => by kernel_rfl, fun x V hV hdep K hK => ?_⟩
    have e1 : x 1 = .pointer (some ⟨b2, 0, none⟩) := depOf hdep 1 (by decide +kernel)
    clear hdep
    refine run_bare (by kernel_rfl) ?_
    unfold rfcFr
    have y6 := hV.1.cell hiN; rw [hf.out] at y6; obtain ⟨z0, z1, z2, z3, z4⟩ := cells5 hV.2.1.1
    go_simp
    refine kfit (hK _ _ (Below.refl _ V) rfl) ?_
    first | (simp only [rfcFr, Act.put, List.setIfInBounds_toArray, List.set_cons_zero, List.set_cons_succ, h2, h6, h8, h9, e1]; done) | (simp only [rfcFr, Act.put, List.setIfInBounds_toArray, List.set_cons_zero, List.set_cons_succ, h2, h6, h8, h9, e1]; rfl)
  -- 3: slot 29 := Op.move t8
  refine And.intro ?_ ?_
  · clear HFIN hgl
    rw [← hf]; clear hf
    refine ⟨by decide +kernel, fun x v => by kernel_rfl, fun x V hV hdep K hK => ?_⟩
    clear hdep
    refine run_bare (by kernel_rfl) ?_
    unfold rfcFr
    go_simp
    refine kfit (hK _ _ (Below.refl _ V) rfl) ?_
    first | (simp only [rfcFr, Act.put, List.setIfInBounds_toArray, List.set_cons_zero, List.set_cons_succ, h2, h6, h8, h9]; done) | (simp only [rfcFr, Act.put, List.setIfInBounds_toArray, List.set_cons_zero, List.set_cons_succ, h2, h6, h8, h9]; rfl)
  -- 4: slot 30 := Op.indexAddr 23 t28 t29
  refine And.intro ?_ ?_
  · clear HFIN hgl
    rw [← hf]; clear hf
    refine ⟨by decide +kernel, fun x v => by kernel_rfl, fun x V hV hdep K hK => ?_⟩
    have e2 : x 2 = .slice (some ⟨gL, 0, none⟩) nL cL := depOf hdep 2 (by decide +kernel)
    have e3 : x 3 = .int .i64 (ix : Int) := depOf hdep 3 (by decide +kernel)
    clear hdep
    refine run_bare (by kernel_rfl) ?_
    unfold rfcFr
    go_simp
    refine kfit (hK _ _ (Below.refl _ V) rfl) ?_
    first | (simp only [rfcFr, Act.put, List.setIfInBounds_toArray, List.set_cons_zero, List.set_cons_succ, h2, h6, h8, h9, e2, e3]; done) | (simp only [rfcFr, Act.put, List.setIfInBounds_toArray, List.set_cons_zero, List.set_cons_succ, h2, h6, h8, h9, e2, e3]; rfl)
  -- 5: slot 31 := Op.load 9 t30
  refine And.intro ?_ ?_
  · clear HFIN hgl
    rw [← hf]; clear hf
    refine ⟨by decide +kernel, fun x v => by kernel_rfl, fun x V hV hdep K hK => ?_⟩
    have e4 : x 4 = .pointer (some ⟨gL, ix, none⟩) := depOf hdep 4 (by decide +kernel)
    clear hdep
    refine run_bare (by kernel_rfl) ?_
    unfold rfcFr
    have y6 := hV.1.cell hiN; rw [hf.out] at y6; obtain ⟨z0, z1, z2, z3, z4⟩ := cells5 hV.2.1.1
    go_simp
    refine kfit (hK _ _ (Below.refl _ V) rfl) ?_
    first | (simp only [rfcFr, Act.put, List.setIfInBounds_toArray, List.set_cons_zero, List.set_cons_succ, h2, h6, h8, h9, e4]; done) | (simp only [rfcFr, Act.put, List.setIfInBounds_toArray, List.set_cons_zero, List.set_cons_succ, h2, h6, h8, h9, e4]; rfl)
  -- 6: slot 32 := Op.move t9
  refine And.intro ?_ ?_
  · clear HFIN hgl
    rw [← hf]; clear hf
    refine ⟨by decide +kernel, fun x v => by kernel_rfl, fun x V hV hdep K hK => ?_⟩
    clear hdep
    refine run_bare (by kernel_rfl) ?_
    unfold rfcFr
    go_simp
    refine kfit (hK _ _ (Below.refl _ V) rfl) ?_
    first | (simp only [rfcFr, Act.put, List.setIfInBounds_toArray, List.set_cons_zero, List.set_cons_succ, h2, h6, h8, h9]; done) | (simp only [rfcFr, Act.put, List.setIfInBounds_toArray, List.set_cons_zero, List.set_cons_succ, h2, h6, h8, h9]; rfl)
  -- 7: slot 33 := Op.call { value (Operand.func 25), args := #[t32], argTypes 
  refine And.intro ?_ ?_
  · clear HFIN hgl
    rw [← hf]; clear hf
    refine ⟨by decide +kernel, fun x v => by kernel_rfl, fun x V hV hdep K hK => ?_⟩
    have e6 : x 6 = .string y := depOf hdep 6 (by decide +kernel)
    clear hdep
    refine run_bare (by kernel_rfl) ?_
    unfold rfcFr
    have HC7 := HC.out
    have H := HC7 V hV
    replace H := Lib.hid H; clear HC7
    go_simp
    go_at_call 25
    refine H.out.mono ?_
    rintro e Y ⟨rfl, hb⟩; refine kfit (hK _ _ hb rfl) ?_
    first | (simp only [rfcFr, Act.put, List.setIfInBounds_toArray, List.set_cons_zero, List.set_cons_succ, h2, h6, h8, h9, e6]; done) | (simp only [rfcFr, Act.put, List.setIfInBounds_toArray, List.set_cons_zero, List.set_cons_succ, h2, h6, h8, h9, e6]; rfl)
  -- 8: slot 34 := Op.build 53 #[(0, t31), (1, t33)]
  refine And.intro ?_ ?_
  · clear HFIN hgl
    rw [← hf]; clear hf
    refine ⟨by decide +kernel, fun x v => by kernel_rfl, fun x V hV hdep K hK => ?_⟩
    have e5 : x 5 = .string pr.n := depOf hdep 5 (by decide +kernel)
    have e7 : x 7 = .agg #[.int .i64 pr.t.kind, .string pr.t.name, .slice pr.a pr.t.kids.length pr.c] := depOf hdep 7 (by decide +kernel)
    clear hdep
    refine run_bare (by kernel_rfl) ?_
    unfold rfcFr
    go_simp
    refine kfit (hK _ _ (Below.refl _ V) rfl) ?_
    first | (simp only [rfcFr, Act.put, List.setIfInBounds_toArray, List.set_cons_zero, List.set_cons_succ, h2, h6, h8, h9, e5, e7]; done) | (simp only [rfcFr, Act.put, List.setIfInBounds_toArray, List.set_cons_zero, List.set_cons_succ, h2, h6, h8, h9, e5, e7]; rfl)
  -- 9: slot 35 := Op.buildSlice 50 1 #[(0, t34)]
  refine And.intro ?_ ?_
  · clear HFIN hgl
    rw [← hf]; clear hf
    refine ⟨by decide +kernel, fun x v => by kernel_rfl, fun x V hV hdep K hK => ?_⟩
    have e8 : x 8 = .agg #[.string pr.n, .int .i64 pr.t.kind, .string pr.t.name, .slice pr.a pr.t.kids.length pr.c] := depOf hdep 8 (by decide +kernel)
    clear hdep
    refine run_bare (by kernel_rfl) ?_
    unfold rfcFr
    go_simp
    refine kfit (hK _ _ (below_a _ _) ⟨_, rfl, alloc_new V _⟩) ?_
    first | (simp only [rfcFr, Act.put, List.setIfInBounds_toArray, List.set_cons_zero, List.set_cons_succ, h2, h6, h8, h9, e8]; done) | (simp only [rfcFr, Act.put, List.setIfInBounds_toArray, List.set_cons_zero, List.set_cons_succ, h2, h6, h8, h9, e8]; rfl)
  -- 10: slot 36 := Op.call { builtin append, args := #[t26, t35], argTypes := #
  · clear HC
    rw [← hgl]; clear hgl
    refine ⟨by decide +kernel, by decide +kernel, ⟨_, Array.mem_of_getElem (i := 0) (h := by decide) rfl, by decide, rfl⟩, fun x V hV hall K hK => ?_⟩
    have e0 : x 0 = lv := hall 0 (by decide)
    obtain ⟨zb, e9, hz⟩ : ∃ zb, x 9 = .slice (some ⟨zb, 0, none⟩) 1 1 ∧ RowY pr zb V := hall 9 (by decide)
    clear hall
    have ho := hV.2.2.2.1
    have hsz := hV.2.2.2.2.size
    obtain ⟨i0, hi, hz0, hz1, hz2⟩ := info_parts Tryz.infoRefPair
    have HF := Lib.hid (fun g9 c9 w9 => HFIN.out x V g9 c9 w9 hV)
    clear HFIN
    unfold rfcFr at hK ⊢
    refine step_append_lies V (by kernel_rfl) (.tmp 26) (.tmp 35) 50 (by kernel_rfl) (W1.heap.size) 53 i0 (.agg zeroP) 4 64 Tryz.underlying50 hi hz0 hz1 hz2 rfl (by decide) lv ds.length (cellsP ds) e0 ho ⟨zb, 0, none⟩ 1 1 (encP pr) e9 rfl (World.news_of_block hz) (encP_one pr) (by decide) (by unfold maxLen; omega) (by omega) hsz V.heap.size rfl ?_
    intro g9 c9 w9 hown9 hgr9 _ _
    have H := Lib.hid (HF.out g9 c9 w9 hown9 hgr9)
    clear HF hown9 hgr9 hV ho hz
    unfold rfcFr at H
    refine hK _ _ fun K2 hK2 => run_bare (by kernel_rfl) ?_
    clear hK
    go_simp
    refine kfit (hK2 _ _ H.out) ?_
    first | (simp only [Act.put, List.setIfInBounds_toArray, List.set_cons_zero, List.set_cons_succ, h2, h6, h8, h9, e0, e9]; done) | (simp only [Act.put, List.setIfInBounds_toArray, List.set_cons_zero, List.set_cons_succ, h2, h6, h8, h9, e0, e9]; rfl)
  -- 11: slot 6 := Op.assign t36
theorem rfc_here {W1 : World} {b2 gL nL cL ix : Nat} {L M : List ByteArray} {y : ByteArray} {pr : PR} {ds : List PR} {vv lv cv : Value} {t : T} {ta : Option Addr} {tc : Nat} (hiN : ix < L.length) (hf : Hid (L.getD ix ⟨#[]⟩ = pr.n)) (hi0 : (0 : Int) ≤ (ix : Int)) (hi3 : (ix : Int) < (nL : Int)) (hds : ds.length ≤ 1000)
    (HC7 : ∀ V, (TRow gL L V ∧ SchB b2 (.slice (some ⟨gL, 0, none⟩) nL cL) cv t ta tc V ∧ RFI W1 M vv ds lv V) → Calls Tryz.prog 25 #[.string y] V fun e Y => e = .returned (.agg #[.int .i64 pr.t.kind, .string pr.t.name, .slice pr.a pr.t.kids.length pr.c]) ∧ Below V.heap.size V Y)
    {Q : Exit → Act → World → Prop} {ops : Array Oper} {a : Act} (X : World) (hops : ops = rfcOps)
    (h2 : a.tmps.getD 2 undef = .pointer (some ⟨b2, 0, none⟩)) (h6 : a.tmps.getD 6 undef = lv) (h8 : a.tmps.getD 8 undef = .int .i64 (ix : Int)) (h9 : a.tmps.getD 9 undef = .string y)
    (ha : a = rfcFr (fun j => a.tmps.getD j undef) a.defers (fun i => a.tmps.getD (26 + i) undef)) (hS : (TRow gL L X.drew ∧ SchB b2 (.slice (some ⟨gL, 0, none⟩) nL cL) cv t ta tc X.drew ∧ RFI W1 M vv ds lv X.drew))
    (hfin : ∀ (x : Nat → Value) V g9 c9 w9, (TRow gL L V ∧ SchB b2 (.slice (some ⟨gL, 0, none⟩) nL cL) cv t ta tc V ∧ RFI W1 M vv ds lv V) → w9.ownsRow W1.heap.size 53 4 (.slice (some ⟨g9, 0, none⟩) (ds.length + 1) c9) (ds.length + 1) (cellsP ds ++ encP pr) → V.grownBy w9 lv.ownBlock → Q .normal (((rfcFr (fun j => a.tmps.getD j undef) a.defers x).put (some 36) (.slice (some ⟨g9, 0, none⟩) (ds.length + 1) c9)).put (some 6) (.slice (some ⟨g9, 0, none⟩) (ds.length + 1) c9)) w9) : (Code.region 9 ops true).wp Tryz.prog Q a X :=
  cast (congrArg (fun z => (Code.region 9 ops true).wp Tryz.prog Q z X) ha.symm) (rfc_region hiN hf hi0 hi3 hds (b := fun j => a.tmps.getD j undef) (d := a.defers) h2 h6 h8 h9 HC7 hops _ X hS hfin)
end Go.Proofs.YtdidgddcgjpokaaGreatDoor
/- the scheme with new names: its last statement, a region of 13 operations that draws its order, by an invariant. (Made by a program.) -/
namespace Go.Proofs.YtdidgddcgjpokaaGreatDoor
open Go.RowKit Go.Maps Go.Sort Go.Lib
attribute [local go_sem] Oper.semAt_some

noncomputable def rfdOps : Array Oper := regionIn 10 (Tryz.f9.body.getD .skip)
def rfdFr (b : Nat → Value) (d : List Deferred) (x : Nat → Value) : Act := { tmps := #[b 0, b 1, b 2, b 3, b 4, x 12, b 6, b 7, b 8, b 9, b 10, b 11, b 12, b 13, b 14, b 15, b 16, b 17, b 18, b 19, b 20, b 21, b 22, b 23, b 24, b 25, b 26, b 27, b 28, b 29, b 30, b 31, b 32, b 33, b 34, b 35, b 36, x 0, x 1, x 2, x 3, x 4, x 5, x 6, x 7, x 8, x 9, x 10], defers := d }

def rfdVals (b2 : Nat) (lv : Value) (va ca ta : Option Addr) (nv vc cc tc : Nat) (lc : List Pr) (t : T) (ds : List PR) (zf : Int) (i : Nat) (v : Value) (V : World) : Prop :=
  match i with
  | 0 => v = .slice va nv vc
  | 1 => v = lv
  | 2 => v = .pointer (some ⟨b2, 1, none⟩)
  | 3 => v = .slice ca lc.length cc
  | 4 => ∃ pa pc, v = .slice pa lc.length pc ∧ PrsAt V (.slice pa lc.length pc) (appP ds lc)
  | 5 => v = lv
  | 6 => v = .pointer (some ⟨b2, 2, none⟩)
  | 7 => v = .agg #[.int .i64 (t).kind, .string (t).name, .slice ta (t).kids.length tc]
  | 8 => ∃ za zc, v = .agg #[.int .i64 (app ds t).kind, .string (app ds t).name, .slice za (app ds t).kids.length zc] ∧ TysAt V (.slice za (app ds t).kids.length zc) (app ds t).kids
  | 9 => ∃ pa pc za zc, v = .agg #[.slice va nv vc, .slice pa lc.length pc, .int .i64 (app ds t).kind, .string (app ds t).name, .slice za (app ds t).kids.length zc] ∧ (PrsAt V (.slice pa lc.length pc) (appP ds lc) ∧ TysAt V (.slice za (app ds t).kids.length zc) (app ds t).kids)
  | 10 => v = .int .i64 zf
  | 11 => ∃ zu, v = zu ∧ True
  | 12 => v = .int .i64 zf
  | _ => True

theorem rfdVals_keep {b2 : Nat} {lv : Value} {va ca ta : Option Addr} {nv vc cc tc : Nat} {lc : List Pr} {t : T} {ds : List PR} {zf : Int} (i : Nat) (v : Value) (V Y : World) (h : rfdVals b2 lv va ca ta nv vc cc tc lc t ds zf i v V) (hb : Below V.heap.size V Y) : rfdVals b2 lv va ca ta nv vc cc tc lc t ds zf i v Y := by
  unfold rfdVals at *
  split at h <;> first
    | exact h
    | (obtain ⟨pa, pc, e, h⟩ := h; exact ⟨pa, pc, e, h.belowG hb⟩)
    | (obtain ⟨za, zc, e, h⟩ := h; exact ⟨za, zc, e, h.keep (KeepT.of_below hb)⟩)
    | (obtain ⟨pa, pc, za, zc, e, h⟩ := h; exact ⟨pa, pc, za, zc, e, ⟨h.1.belowG hb, h.2.keep (KeepT.of_below hb)⟩⟩)
    | (obtain ⟨zu, e, h⟩ := h; exact ⟨zu, e, h⟩)

theorem rfdVals_keepO {b2 : Nat} {lv : Value} {va ca ta : Option Addr} {nv vc cc tc : Nat} {lc : List Pr} {t : T} {ds : List PR} {zf : Int} (i : Nat) (v : Value) (V Y : World) (h : rfdVals b2 lv va ca ta nv vc cc tc lc t ds zf i v V) (hk : KeepO V Y) : rfdVals b2 lv va ca ta nv vc cc tc lc t ds zf i v Y := by
  unfold rfdVals at *
  split at h <;> first
    | exact h
    | (obtain ⟨pa, pc, e, h⟩ := h; exact ⟨pa, pc, e, h.keepOz hk⟩)
    | (obtain ⟨pa, pc, za, zc, e, h⟩ := h; exact ⟨pa, pc, za, zc, e, h.1.keepOz hk, h.2.keepOz hk⟩)

theorem rfd_size : rfdOps.size = 13 := by kernel_rfl
set_option linter.unusedSimpArgs false in
set_option maxRecDepth 100000 in
set_option maxHeartbeats 8000000 in
theorem rfd_region {w : World} {b2 b4 nv : Nat} {xv lv : Value} {va ca ta : Option Addr} {vc cc tc : Nat} {lc : List Pr} {t : T} {ds : List PR} {gs : List ByteArray} {zf : Int} (h24 : b2 ≠ b4) (hw4 : w.heap.size ≤ b4) {b : Nat → Value} {d : List Deferred}
    (h1 : b 1 = .int .i64 zf) (h2 : b 2 = .pointer (some ⟨b2, 0, none⟩)) (h4 : b 4 = .pointer (some ⟨b4, 0, none⟩)) (h6 : b 6 = lv) (h7 : b 7 = .slice va nv vc)
    (HC4 : ∀ V, (SchB b2 xv (.slice ca lc.length cc) t ta tc V ∧ PrsAt V (.slice ca lc.length cc) lc ∧ GivenG 53 lv ds V ∧ Below w.heap.size w V ∧ TextsAt V (.slice va nv vc) gs) → Calls Tryz.prog 26 #[lv, .slice ca lc.length cc] V fun e Y => (∃ pa pc, e = .returned (.slice pa lc.length pc) ∧ PrsAt Y (.slice pa lc.length pc) (appP ds lc)) ∧ Below V.heap.size V Y)
    (HC8 : ∀ V, (SchB b2 xv (.slice ca lc.length cc) t ta tc V ∧ PrsAt V (.slice ca lc.length cc) lc ∧ GivenG 53 lv ds V ∧ Below w.heap.size w V ∧ TextsAt V (.slice va nv vc) gs) → Calls Tryz.prog 27 #[lv, .agg #[.int .i64 (t).kind, .string (t).name, .slice ta (t).kids.length tc]] V fun e Y => (∃ za zc, e = .returned (.agg #[.int .i64 (app ds t).kind, .string (app ds t).name, .slice za (app ds t).kids.length zc]) ∧ TysAt Y (.slice za (app ds t).kids.length zc) (app ds t).kids) ∧ Below V.heap.size V Y)
    {Q : Exit → Act → World → Prop} {ops : Array Oper} (hops : ops = rfdOps) (x0 : Nat → Value) (X : World) (hS : (SchB b2 xv (.slice ca lc.length cc) t ta tc X.drew ∧ PrsAt X.drew (.slice ca lc.length cc) lc ∧ GivenG 53 lv ds X.drew ∧ Below w.heap.size w X.drew ∧ TextsAt X.drew (.slice va nv vc) gs)) (hX : Sch0 b4 X.drew)
    (hfin : ∀ (x : Nat → Value) V pa pc za zc, V.heap[b4]? = some (.cells #[.slice va nv vc, .slice pa lc.length pc, .int .i64 (app ds t).kind, .string (app ds t).name, .slice za (app ds t).kids.length zc] 33 (0, 0)) → PrsAt V (.slice pa lc.length pc) (appP ds lc) → TysAt V (.slice za (app ds t).kids.length zc) (app ds t).kids → Below w.heap.size w V → TextsAt V (.slice va nv vc) gs → x 12 = .int .i64 zf → Q .normal (rfdFr b d x) V) : (Code.region 10 ops true).wp Tryz.prog Q (rfdFr b d x0) X := by
  have HC := Lib.hid (And.intro HC4 HC8)
  clear HC4 HC8
  refine region_mark (rfdFr b d) (fun V => (SchB b2 xv (.slice ca lc.length cc) t ta tc V ∧ PrsAt V (.slice ca lc.length cc) lc ∧ GivenG 53 lv ds V ∧ Below w.heap.size w V ∧ TextsAt V (.slice va nv vc) gs)) (fun V Y => Below V.heap.size V Y) (rfdVals b2 lv va ca ta nv vc cc tc lc t ds zf) (fun L _ V => MkZ b4 va nv vc lc.length (appP ds lc) (app ds t) L V) (fun i => i == 11) x0 (by kernel_rfl) rfl hS (⟨fun _ => hX, fun e => by cases e⟩) (fun V Y h hb => ⟨h.1.below hb, h.2.1.belowG hb, h.2.2.1.below hb, h.2.2.2.1.trans (hb.mono h.2.2.2.1.size), h.2.2.2.2.below hb⟩) (fun i v V Y _ h hb => rfdVals_keep  i v V Y h hb) (fun i L x v w' w'' hs _ hM hr => hM.keep hs hr) ?_ (fun L x V hS hall hM => by obtain ⟨pa, pc, za, zc, h1, h2, h3⟩ := hM.2 (hall 11 (by rw [hops, rfd_size]; decide)).1; exact hfin x V pa pc za zc h1 h2 h3 hS.2.2.2.1 hS.2.2.2.2 (hall 12 (by rw [hops, rfd_size]; decide)).2)
  clear hfin hS
  obtain ⟨f, hf⟩ : ∃ qq, (fun i o => ((fun i => i == 11) i = false → StepAt Tryz.prog (rfdFr b d) (fun V => (SchB b2 xv (.slice ca lc.length cc) t ta tc V ∧ PrsAt V (.slice ca lc.length cc) lc ∧ GivenG 53 lv ds V ∧ Below w.heap.size w V ∧ TextsAt V (.slice va nv vc) gs)) (fun V Y => Below V.heap.size V Y) (rfdVals b2 lv va ca ta nv vc cc tc lc t ds zf) ops Q i o) ∧ ((fun i => i == 11) i = true → MarkAt Tryz.prog (rfdFr b d) (fun V => (SchB b2 xv (.slice ca lc.length cc) t ta tc V ∧ PrsAt V (.slice ca lc.length cc) lc ∧ GivenG 53 lv ds V ∧ Below w.heap.size w V ∧ TextsAt V (.slice va nv vc) gs)) (rfdVals b2 lv va ca ta nv vc cc tc lc t ds zf) (fun L _ V => MkZ b4 va nv vc lc.length (appP ds lc) (app ds t) L V) ops Q i o)) = qq := ⟨_, rfl⟩
  rw [hf, hops]
  simp only [rfdOps, Tryz.f9, regionIn, Option.getD_some, Nat.reduceBEq, Bool.false_eq_true, if_false, if_true, beq_self_eq_true, Array.append_empty, Array.empty_append, List.append_eq, List.cons_append, List.nil_append, AllAt, Nat.reduceAdd, Nat.zero_add]
  -- 0: slot 37 := Op.move t7
  refine And.intro ?_ ?_
  · rw [← hf]; clear hf
    refine ⟨fun _ => ⟨by decide +kernel, fun x v => by kernel_rfl, fun x V hV hdep K hK => ?_⟩, fun h => absurd h (by decide)⟩
    clear hdep
    refine run_bare (by kernel_rfl) ?_
    unfold rfdFr
    go_simp
    refine kfit (hK _ _ (Below.refl _ V) rfl) ?_
    first | (simp only [rfdFr, Act.put, List.setIfInBounds_toArray, List.set_cons_zero, List.set_cons_succ, h1, h2, h4, h6, h7]; done) | (simp only [rfdFr, Act.put, List.setIfInBounds_toArray, List.set_cons_zero, List.set_cons_succ, h1, h2, h4, h6, h7]; rfl)
  -- 1: slot 38 := Op.move t6
  refine And.intro ?_ ?_
  · rw [← hf]; clear hf
    refine ⟨fun _ => ⟨by decide +kernel, fun x v => by kernel_rfl, fun x V hV hdep K hK => ?_⟩, fun h => absurd h (by decide)⟩
    clear hdep
    refine run_bare (by kernel_rfl) ?_
    unfold rfdFr
    go_simp
    refine kfit (hK _ _ (Below.refl _ V) rfl) ?_
    first | (simp only [rfdFr, Act.put, List.setIfInBounds_toArray, List.set_cons_zero, List.set_cons_succ, h1, h2, h4, h6, h7]; done) | (simp only [rfdFr, Act.put, List.setIfInBounds_toArray, List.set_cons_zero, List.set_cons_succ, h1, h2, h4, h6, h7]; rfl)
  -- 2: slot 39 := Op.fieldAddr 33 t2 1
  refine And.intro ?_ ?_
  · rw [← hf]; clear hf
    refine ⟨fun _ => ⟨by decide +kernel, fun x v => by kernel_rfl, fun x V hV hdep K hK => ?_⟩, fun h => absurd h (by decide)⟩
    clear hdep
    refine run_bare (by kernel_rfl) ?_
    unfold rfdFr
    go_simp
    refine kfit (hK _ _ (Below.refl _ V) rfl) ?_
    first | (simp only [rfdFr, Act.put, List.setIfInBounds_toArray, List.set_cons_zero, List.set_cons_succ, h1, h2, h4, h6, h7]; done) | (simp only [rfdFr, Act.put, List.setIfInBounds_toArray, List.set_cons_zero, List.set_cons_succ, h1, h2, h4, h6, h7]; rfl)
  -- 3: slot 40 := Op.load 28 t39
  refine And.intro ?_ ?_
  · rw [← hf]; clear hf
    refine ⟨fun _ => ⟨by decide +kernel, fun x v => by kernel_rfl, fun x V hV hdep K hK => ?_⟩, fun h => absurd h (by decide)⟩
    have e2 : x 2 = .pointer (some ⟨b2, 1, none⟩) := depOf hdep 2 (by decide +kernel)
    clear hdep
    refine run_bare (by kernel_rfl) ?_
    unfold rfdFr
    obtain ⟨y0, y1, y2, y3, y4⟩ := cells5 hV.1.1
    go_simp
    refine kfit (hK _ _ (Below.refl _ V) rfl) ?_
    first | (simp only [rfdFr, Act.put, List.setIfInBounds_toArray, List.set_cons_zero, List.set_cons_succ, h1, h2, h4, h6, h7, e2]; done) | (simp only [rfdFr, Act.put, List.setIfInBounds_toArray, List.set_cons_zero, List.set_cons_succ, h1, h2, h4, h6, h7, e2]; rfl)
  -- 4: slot 41 := Op.call { value (Operand.func 26), args := #[t38, t40], argT
  refine And.intro ?_ ?_
  · rw [← hf]; clear hf
    refine ⟨fun _ => ⟨by decide +kernel, fun x v => by kernel_rfl, fun x V hV hdep K hK => ?_⟩, fun h => absurd h (by decide)⟩
    have e1 : x 1 = lv := depOf hdep 1 (by decide +kernel)
    have e3 : x 3 = .slice ca lc.length cc := depOf hdep 3 (by decide +kernel)
    clear hdep
    refine run_bare (by kernel_rfl) ?_
    unfold rfdFr
    obtain ⟨HC4, HC8⟩ := HC.out
    clear HC8
    have H := HC4 V hV
    replace H := Lib.hid H; clear HC4
    go_simp
    go_at_call 26
    refine H.out.mono ?_
    rintro e Y ⟨⟨pa, pc, rfl, hq⟩, hb⟩; refine kfit (hK _ _ hb ⟨pa, pc, rfl, hq⟩) ?_
    first | (simp only [rfdFr, Act.put, List.setIfInBounds_toArray, List.set_cons_zero, List.set_cons_succ, h1, h2, h4, h6, h7, e1, e3]; done) | (simp only [rfdFr, Act.put, List.setIfInBounds_toArray, List.set_cons_zero, List.set_cons_succ, h1, h2, h4, h6, h7, e1, e3]; rfl)
  -- 5: slot 42 := Op.move t6
  refine And.intro ?_ ?_
  · rw [← hf]; clear hf
    refine ⟨fun _ => ⟨by decide +kernel, fun x v => by kernel_rfl, fun x V hV hdep K hK => ?_⟩, fun h => absurd h (by decide)⟩
    clear hdep
    refine run_bare (by kernel_rfl) ?_
    unfold rfdFr
    go_simp
    refine kfit (hK _ _ (Below.refl _ V) rfl) ?_
    first | (simp only [rfdFr, Act.put, List.setIfInBounds_toArray, List.set_cons_zero, List.set_cons_succ, h1, h2, h4, h6, h7]; done) | (simp only [rfdFr, Act.put, List.setIfInBounds_toArray, List.set_cons_zero, List.set_cons_succ, h1, h2, h4, h6, h7]; rfl)
  -- 6: slot 43 := Op.fieldAddr 33 t2 2
  refine And.intro ?_ ?_
  · rw [← hf]; clear hf
    refine ⟨fun _ => ⟨by decide +kernel, fun x v => by kernel_rfl, fun x V hV hdep K hK => ?_⟩, fun h => absurd h (by decide)⟩
    clear hdep
    refine run_bare (by kernel_rfl) ?_
    unfold rfdFr
    go_simp
    refine kfit (hK _ _ (Below.refl _ V) rfl) ?_
    first | (simp only [rfdFr, Act.put, List.setIfInBounds_toArray, List.set_cons_zero, List.set_cons_succ, h1, h2, h4, h6, h7]; done) | (simp only [rfdFr, Act.put, List.setIfInBounds_toArray, List.set_cons_zero, List.set_cons_succ, h1, h2, h4, h6, h7]; rfl)
  -- 7: slot 44 := Op.load 31 t43
  refine And.intro ?_ ?_
  · rw [← hf]; clear hf
    refine ⟨fun _ => ⟨by decide +kernel, fun x v => by kernel_rfl, fun x V hV hdep K hK => ?_⟩, fun h => absurd h (by decide)⟩
    have e6 : x 6 = .pointer (some ⟨b2, 2, none⟩) := depOf hdep 6 (by decide +kernel)
    clear hdep
    refine run_bare (by kernel_rfl) ?_
    unfold rfdFr
    obtain ⟨y0, y1, y2, y3, y4⟩ := cells5 hV.1.1
    go_simp
    refine kfit (hK _ _ (Below.refl _ V) rfl) ?_
    first | (simp only [rfdFr, Act.put, List.setIfInBounds_toArray, List.set_cons_zero, List.set_cons_succ, h1, h2, h4, h6, h7, e6]; done) | (simp only [rfdFr, Act.put, List.setIfInBounds_toArray, List.set_cons_zero, List.set_cons_succ, h1, h2, h4, h6, h7, e6]; rfl)
  -- 8: slot 45 := Op.call { value (Operand.func 27), args := #[t42, t44], argT
  refine And.intro ?_ ?_
  · rw [← hf]; clear hf
    refine ⟨fun _ => ⟨by decide +kernel, fun x v => by kernel_rfl, fun x V hV hdep K hK => ?_⟩, fun h => absurd h (by decide)⟩
    have e5 : x 5 = lv := depOf hdep 5 (by decide +kernel)
    have e7 : x 7 = .agg #[.int .i64 (t).kind, .string (t).name, .slice ta (t).kids.length tc] := depOf hdep 7 (by decide +kernel)
    clear hdep
    refine run_bare (by kernel_rfl) ?_
    unfold rfdFr
    obtain ⟨HC4, HC8⟩ := HC.out
    clear HC4
    have H := HC8 V hV
    replace H := Lib.hid H; clear HC8
    go_simp
    go_at_call 27
    refine H.out.mono ?_
    rintro e Y ⟨⟨za, zc, rfl, hq⟩, hb⟩; refine kfit (hK _ _ hb ⟨za, zc, rfl, hq⟩) ?_
    first | (simp only [rfdFr, Act.put, List.setIfInBounds_toArray, List.set_cons_zero, List.set_cons_succ, h1, h2, h4, h6, h7, e5, e7]; done) | (simp only [rfdFr, Act.put, List.setIfInBounds_toArray, List.set_cons_zero, List.set_cons_succ, h1, h2, h4, h6, h7, e5, e7]; rfl)
  -- 9: slot 46 := Op.build 33 #[(0, t37), (1, t41), (2, t45)]
  refine And.intro ?_ ?_
  · rw [← hf]; clear hf
    refine ⟨fun _ => ⟨by decide +kernel, fun x v => by kernel_rfl, fun x V hV hdep K hK => ?_⟩, fun h => absurd h (by decide)⟩
    have e0 : x 0 = .slice va nv vc := depOf hdep 0 (by decide +kernel)
    obtain ⟨pa4, pc4, e4, d4⟩ : ∃ pa4 pc4, x 4 = .slice pa4 lc.length pc4 ∧ PrsAt V (.slice pa4 lc.length pc4) (appP ds lc) := depOf hdep 4 (by decide +kernel)
    obtain ⟨za8, zc8, e8, d8⟩ : ∃ za8 zc8, x 8 = .agg #[.int .i64 (app ds t).kind, .string (app ds t).name, .slice za8 (app ds t).kids.length zc8] ∧ TysAt V (.slice za8 (app ds t).kids.length zc8) (app ds t).kids := depOf hdep 8 (by decide +kernel)
    clear hdep
    refine run_bare (by kernel_rfl) ?_
    unfold rfdFr
    go_simp
    refine kfit (hK _ _ (Below.refl _ V) ⟨_, _, _, _, rfl, d4, d8⟩) ?_
    first | (simp only [rfdFr, Act.put, List.setIfInBounds_toArray, List.set_cons_zero, List.set_cons_succ, h1, h2, h4, h6, h7, e0, e4, e8]; done) | (simp only [rfdFr, Act.put, List.setIfInBounds_toArray, List.set_cons_zero, List.set_cons_succ, h1, h2, h4, h6, h7, e0, e4, e8]; rfl)
  -- 10: slot 47 := Op.move t1
  refine And.intro ?_ ?_
  · rw [← hf]; clear hf
    refine ⟨fun _ => ⟨by decide +kernel, fun x v => by kernel_rfl, fun x V hV hdep K hK => ?_⟩, fun h => absurd h (by decide)⟩
    clear hdep
    refine run_bare (by kernel_rfl) ?_
    unfold rfdFr
    go_simp
    refine kfit (hK _ _ (Below.refl _ V) rfl) ?_
    first | (simp only [rfdFr, Act.put, List.setIfInBounds_toArray, List.set_cons_zero, List.set_cons_succ, h1, h2, h4, h6, h7]; done) | (simp only [rfdFr, Act.put, List.setIfInBounds_toArray, List.set_cons_zero, List.set_cons_succ, h1, h2, h4, h6, h7]; rfl)
  -- 11: slot none := Op.store 33 t4 t46
  refine And.intro ?_ ?_
  · rw [← hf]; clear hf
    refine ⟨fun h => absurd h (by decide), fun _ => ⟨by decide +kernel, fun x v => by kernel_rfl, fun L x V hV hVs hMk hLi hdep K hK => ?_⟩⟩
    obtain ⟨pa, pc, za, zc, e9, d9⟩ : ∃ (pa : Option Addr) (pc : Nat) (za : Option Addr) (zc : Nat), x 9 = .agg #[.slice va nv vc, .slice pa lc.length pc, .int .i64 (app ds t).kind, .string (app ds t).name, .slice za (app ds t).kids.length zc] ∧ (PrsAt V (.slice pa lc.length pc) (appP ds lc) ∧ TysAt V (.slice za (app ds t).kids.length zc) (app ds t).kids) := hVs 9 (depL hdep 9 (by decide +kernel))
    have hz := hMk.1 hLi
    obtain ⟨v0, v1, v2, v3, v4⟩ := cells5 hz
    have f0 := Lib.frozen_of_heap hz 0; have f1 := Lib.frozen_of_heap hz 1; have f2 := Lib.frozen_of_heap hz 2; have f3 := Lib.frozen_of_heap hz 3; have f4 := Lib.frozen_of_heap hz 4
    refine run_bare (by kernel_rfl) ?_
    have hk5 := keepO_set5 hz (.slice va nv vc) (.slice pa lc.length pc) (.int .i64 (app ds t).kind) (.string (app ds t).name) (.slice za (app ds t).kids.length zc)
    have H := Lib.hid (hK undef _ ⟨⟨(set5_other V b4 _ _ _ _ _ h24).trans hV.1.1, hV.1.2.keepOz hk5⟩, hV.2.1.keepOz hk5, hV.2.2.1.keepO hk5, below_set5 hV.2.2.2.1 hw4 _ _ _ _ _, hV.2.2.2.2.keep fun k cs fz hk => hk5 k cs _ fz (by decide) hk⟩ (fun j hj => rfdVals_keepO j _ V _ (hVs j hj) hk5) ⟨undef, rfl, trivial⟩ ⟨(fun e => by rw [updB_same] at e; cases e), fun _ => ⟨pa, pc, za, zc, set5_block hz _ _ _ _ _, d9.1.keepOz hk5, d9.2.keepOz hk5⟩⟩)
    clear hVs hMk hdep hK hV hk5 d9 hz
    unfold set5 at H
    unfold rfdFr at H ⊢
    go_simp
    refine kfit H.out ?_
    first | (simp only [rfdFr, Act.put, List.setIfInBounds_toArray, List.set_cons_zero, List.set_cons_succ, h1, h2, h4, h6, h7, e9]; done) | (simp only [rfdFr, Act.put, List.setIfInBounds_toArray, List.set_cons_zero, List.set_cons_succ, h1, h2, h4, h6, h7, e9]; rfl)
  -- 12: slot 5 := Op.assign t47
  refine And.intro ?_ ?_
  · rw [← hf]; clear hf
    refine ⟨fun _ => ⟨by decide +kernel, fun x v => by kernel_rfl, fun x V hV hdep K hK => ?_⟩, fun h => absurd h (by decide)⟩
    have e10 : x 10 = .int .i64 zf := depOf hdep 10 (by decide +kernel)
    clear hdep
    refine run_bare (by kernel_rfl) ?_
    unfold rfdFr
    go_simp
    refine kfit (hK _ _ (Below.refl _ V) rfl) ?_
    first | (simp only [rfdFr, Act.put, List.setIfInBounds_toArray, List.set_cons_zero, List.set_cons_succ, h1, h2, h4, h6, h7, e10]; done) | (simp only [rfdFr, Act.put, List.setIfInBounds_toArray, List.set_cons_zero, List.set_cons_succ, h1, h2, h4, h6, h7, e10]; rfl)
  exact trivial
theorem rfd_here {w : World} {b2 b4 nv : Nat} {xv lv : Value} {va ca ta : Option Addr} {vc cc tc : Nat} {lc : List Pr} {t : T} {ds : List PR} {gs : List ByteArray} {zf : Int} (h24 : b2 ≠ b4) (hw4 : w.heap.size ≤ b4)
    (HC4 : ∀ V, (SchB b2 xv (.slice ca lc.length cc) t ta tc V ∧ PrsAt V (.slice ca lc.length cc) lc ∧ GivenG 53 lv ds V ∧ Below w.heap.size w V ∧ TextsAt V (.slice va nv vc) gs) → Calls Tryz.prog 26 #[lv, .slice ca lc.length cc] V fun e Y => (∃ pa pc, e = .returned (.slice pa lc.length pc) ∧ PrsAt Y (.slice pa lc.length pc) (appP ds lc)) ∧ Below V.heap.size V Y)
    (HC8 : ∀ V, (SchB b2 xv (.slice ca lc.length cc) t ta tc V ∧ PrsAt V (.slice ca lc.length cc) lc ∧ GivenG 53 lv ds V ∧ Below w.heap.size w V ∧ TextsAt V (.slice va nv vc) gs) → Calls Tryz.prog 27 #[lv, .agg #[.int .i64 (t).kind, .string (t).name, .slice ta (t).kids.length tc]] V fun e Y => (∃ za zc, e = .returned (.agg #[.int .i64 (app ds t).kind, .string (app ds t).name, .slice za (app ds t).kids.length zc]) ∧ TysAt Y (.slice za (app ds t).kids.length zc) (app ds t).kids) ∧ Below V.heap.size V Y)
    {Q : Exit → Act → World → Prop} {ops : Array Oper} {a : Act} (X : World) (hops : ops = rfdOps)
    (h1 : a.tmps.getD 1 undef = .int .i64 zf) (h2 : a.tmps.getD 2 undef = .pointer (some ⟨b2, 0, none⟩)) (h4 : a.tmps.getD 4 undef = .pointer (some ⟨b4, 0, none⟩)) (h6 : a.tmps.getD 6 undef = lv) (h7 : a.tmps.getD 7 undef = .slice va nv vc)
    (ha : a = rfdFr (fun j => a.tmps.getD j undef) a.defers (fun i => a.tmps.getD (if i = 12 then 5 else 37 + i) undef)) (hS : (SchB b2 xv (.slice ca lc.length cc) t ta tc X.drew ∧ PrsAt X.drew (.slice ca lc.length cc) lc ∧ GivenG 53 lv ds X.drew ∧ Below w.heap.size w X.drew ∧ TextsAt X.drew (.slice va nv vc) gs)) (hX : Sch0 b4 X.drew)
    (hfin : ∀ (x : Nat → Value) V pa pc za zc, V.heap[b4]? = some (.cells #[.slice va nv vc, .slice pa lc.length pc, .int .i64 (app ds t).kind, .string (app ds t).name, .slice za (app ds t).kids.length zc] 33 (0, 0)) → PrsAt V (.slice pa lc.length pc) (appP ds lc) → TysAt V (.slice za (app ds t).kids.length zc) (app ds t).kids → Below w.heap.size w V → TextsAt V (.slice va nv vc) gs → x 12 = .int .i64 zf → Q .normal (rfdFr (fun j => a.tmps.getD j undef) a.defers x) V) : (Code.region 10 ops true).wp Tryz.prog Q a X :=
  cast (congrArg (fun z => (Code.region 10 ops true).wp Tryz.prog Q z X) ha.symm) (rfd_region h24 hw4 (b := fun j => a.tmps.getD j undef) (d := a.defers) h1 h2 h4 h6 h7 HC4 HC8 hops _ X hS hX hfin)
end Go.Proofs.YtdidgddcgjpokaaGreatDoor
/- paideiaref4.number. -/
namespace Go.Proofs.YtdidgddcgjpokaaGreatDoor
open Go.RowKit Go.Sort Go.Lib
attribute [local go_sem] Oper.semAt_some

theorem dec_dd (m : Nat) : Lib.decDigits m = dd (m / 10) ++ [UInt8.ofNat (48 + m % 10)] := by
  by_cases h : 0 < m
  · rw [← dd_step h]; unfold dd; rw [if_neg (by omega)]
  · obtain rfl : m = 0 := by omega
    rw [Lib.decDigits]; rfl
set_option maxRecDepth 100000 in
set_option maxHeartbeats 4000000 in
theorem rnum_any (n : Nat) (hn : n < 1000000000) (w : World) : Calls Tryz.prog 34 #[.int .i64 (n : Int)] w fun e w' => e = .returned (.string ⟨(Lib.decDigits n).toArray⟩) ∧ Below w.heap.size w w' := by
  go_enter Tryz.func34, Tryz.ntmps34
  go_wp2
  go_loopw [0, 3] (fun vn vd Y => ∃ (m : Nat) (s : List UInt8), m ≤ n ∧ s.length ≤ 20 ∧ vn = .int .i64 m ∧ vd = .string ⟨s.toArray⟩ ∧ Hid (Lib.decDigits m ++ s = Lib.decDigits n) ∧ Hid (Below w.heap.size w Y)) (fun vn _ _ => (intOf vn).toNat)
  case atStart => exact ⟨n, [], Nat.le_refl _, by decide, rfl, rfl, Lib.hid (by simp), Lib.hid (Below.refl _ _)⟩
  case round =>
    rename World => W2
    obtain ⟨m, s, hmq, hs20, rfl, rfl, hS, hB⟩ := hrel
    have hm0 : (0 : Int) ≤ (m : Int) := by omega
    have hmm : ((m : Int)).tmod 10 = ((m % 10 : Nat) : Int) := by rw [Int.tmod_eq_emod_of_nonneg hm0]; omega
    have hmd : ((m : Int)).tdiv 10 = ((m / 10 : Nat) : Int) := by rw [Int.tdiv_eq_ediv_of_nonneg hm0]; omega
    obtain ⟨g, hg⟩ : ∃ g, m % 10 = g := ⟨_, rfl⟩
    obtain ⟨k, hk⟩ : ∃ k, m / 10 = k := ⟨_, rfl⟩
    rw [hg] at hmm
    rw [hk] at hmd
    have hg10 : g < 10 := by omega
    have hkm : k ≤ m := by omega
    have hkp : k < m ∨ k = 0 := by omega
    obtain ⟨x, hx⟩ : ∃ x, 48 + g = x := ⟨_, rfl⟩
    have hw3 : 48 + (g : Int) = (x : Int) := by omega
    have hw4 : IntKind.u8.wrap (x : Int) = (x : Int) := by rw [IntKind.wrap_u8]; omega
    have hcv := conv_one x (by omega) W2
    have HSt := Lib.hid (show dd k ++ (UInt8.ofNat x :: s) = Lib.decDigits n by
      rw [← hS.out, dec_dd m, hk, hg, hx]; simp)
    have hsl : (dd k).length + (s.length + 1) ≤ 20 := by
      have h1 := congrArg List.length HSt.out
      simp only [List.length_append, List.length_cons] at h1
      have := dec_len n (by omega)
      omega
    have hcat : (⟨#[UInt8.ofNat x]⟩ : ByteArray) ++ ⟨s.toArray⟩ = ⟨(UInt8.ofNat x :: s).toArray⟩ := by
      apply ByteArray.ext; simp
    have hbn := hB.out.alloc hB.out.size (.cells #[.int .u8 (x : Int)] 5)
    have HBN := Lib.hid hbn
    clear hg hk hx hS hB hbn
    by_cases hk0 : k = 0
    · subst hk0
      have HF := Lib.hid (show UInt8.ofNat x :: s = Lib.decDigits n from by have := HSt.out; simpa [dd] using this)
      clear HSt hkp hkm
      rw [show ((0 : Nat) : Int) = 0 from rfl] at hmd
      go_wp2
      go_ret
      exact ⟨by rw [← HF.out]; rfl, HBN.out⟩
    · have hkI : ¬ (k : Int) = 0 := by omega
      have HSt2 := Lib.hid (show Lib.decDigits k ++ (UInt8.ofNat x :: s) = Lib.decDigits n from by have := HSt.out; unfold dd at this; rwa [if_neg hk0] at this)
      have hkl : k < m := by omega
      clear HSt
      go_wp2
      go_roundw
      case rel => exact ⟨k, UInt8.ofNat x :: s, by omega, by simp; omega, rfl, rfl, HSt2, HBN⟩
      case measure => simp [intOf]; omega
end Go.Proofs.YtdidgddcgjpokaaGreatDoor
/- paideiaref4.Fresh. -/
namespace Go.Proofs.YtdidgddcgjpokaaGreatDoor
open Go.RowKit Go.Maps Go.Sort Go.Lib
attribute [local go_sem] Oper.semAt_some

set_option maxRecDepth 100000 in
set_option maxHeartbeats 8000000 in
theorem rfresh_any (t : T) (F G : List ByteArray) (z : Nat) (hz : z < 100000) (hGl : G.length = F.length) (hG : ∀ j (hj : j < G.length), G[j] = qn (z + j)) (hl : F.length < 20) (hsz : tsize t ≤ 1000000000) (lc : List Pr) (hq : ∀ q ∈ lc, tsize q.2 ≤ 1000000) (hcn : lc.length ≤ 1000000) (xa ta fa : Option Addr) (xc tc fc : Nat) (w : World)
    (ht : TysAt w (.slice ta t.kids.length tc) t.kids) (hF : TextsAt w (.slice fa F.length fc) F) (hP : PrsAt w (.slice xa lc.length xc) lc) :
    Calls Tryz.prog 9 #[.agg #[.slice fa F.length fc, .slice xa lc.length xc, .int .i64 t.kind, .string t.name, .slice ta t.kids.length tc], .int .i64 (z : Int)] w fun e w' =>
      (∃ ga gc pa pc za zc, e = .returned (.tuple #[.agg #[.slice ga F.length gc, .slice pa lc.length pc, .int .i64 (app (prs F G) t).kind, .string (app (prs F G) t).name, .slice za (app (prs F G) t).kids.length zc], .int .i64 ((z : Int) + (F.length : Int))]) ∧ TextsAt w' (.slice ga F.length gc) G ∧ PrsAt w' (.slice pa lc.length pc) (appP (prs F G) lc) ∧ TysAt w' (.slice za (app (prs F G) t).kids.length zc) (app (prs F G) t).kids) ∧ Below w.heap.size w w' := by
  obtain ⟨i0, hi, hz0, hz1, hz2⟩ := info_parts Tryz.infoStrC
  have hb0 := below_two w (.cells #[.slice fa F.length fc, .slice xa lc.length xc, .int .i64 t.kind, .string t.name, .slice ta t.kids.length tc] 33) (.cells #[.slice none 0 0, .slice none 0 0, .int .i64 0, .string ⟨#[]⟩, .slice none 0 0] 33)
  have hB0 := (SchB.new (xv := .slice fa F.length fc) (cv := .slice xa lc.length xc) ht).below ((Below.refl _ _).alloc (Nat.le_refl _) (.cells #[.slice none 0 0, .slice none 0 0, .int .i64 0, .string ⟨#[]⟩, .slice none 0 0] 33))
  have hZ0 := new_two w (.cells #[.slice fa F.length fc, .slice xa lc.length xc, .int .i64 t.kind, .string t.name, .slice ta t.kids.length tc] 33) (.cells #[.slice none 0 0, .slice none 0 0, .int .i64 0, .string ⟨#[]⟩, .slice none 0 0] 33)
  have H0 := Lib.hid (And.intro hB0 (And.intro (show Sch0 (w.heap.size + 1) _ from hZ0) (And.intro (hF.below hb0) (And.intro (hP.belowG hb0) hb0))))
  have HG := Lib.hid hG; have HGl := Lib.hid hGl; have HQ := Lib.hid hq
  clear hb0 hB0 hZ0 ht hF hP hG hGl hq
  go_enter Tryz.func9, Tryz.ntmps9
  go_wp2_with fail
  have hsz1 : ((w.alloc (.cells #[.slice fa F.length fc, .slice xa lc.length xc, .int .i64 t.kind, .string t.name, .slice ta t.kids.length tc] 33)).alloc (.cells #[.slice none 0 0, .slice none 0 0, .int .i64 0, .string ⟨#[]⟩, .slice none 0 0] 33)).heap.size = w.heap.size + 1 + 1 := by simp
  generalize ((w.alloc (.cells #[.slice fa F.length fc, .slice xa lc.length xc, .int .i64 t.kind, .string t.name, .slice ta t.kids.length tc] 33)).alloc (.cells #[.slice none 0 0, .slice none 0 0, .int .i64 0, .string ⟨#[]⟩, .slice none 0 0] 33)) = W1 at *
  have HZ1 := Lib.hid hsz1
  clear hsz1
  go_loopw [1, 6, 7, 8] (fun vf vby vnm vi wr => ∃ (i k d2 d : Nat) (b2 b : Option Addr) (ds : List PR), i ≤ F.length ∧ vi = .int .i64 i ∧ vf = .int .i64 k ∧ vby = .slice b2 i d2 ∧ vnm = .slice b i d ∧ Hid (k = z + i ∧ DsOf ds (F.take i) (G.take i) ∧ (ds = [] → Value.slice b2 i d2 = .slice none 0 0)) ∧ Hid (RFI W1 (G.take i) (.slice b i d) ds (.slice b2 i d2) wr)) (fun _ _ _ vi _ => F.length - (intOf vi).toNat)
  case atStart => exact ⟨0, z, 0, 0, none, none, [], Nat.zero_le _, rfl, rfl, rfl, rfl, Lib.hid ⟨rfl, ⟨rfl, rfl, fun j hj => absurd hj (by simp)⟩, fun _ => rfl⟩, Lib.hid ⟨World.ownsRow_nil _ _ _ _, World.ownsRow_nil _ _ _ _, Below.refl _ _⟩⟩
  case round =>
    obtain ⟨i, k, d2, d, b2, b, ds, hi', rfl, rfl, rfl, rfl, hM, hI⟩ := hrel
    have hVr := hI.out.2.2
    have hSB := H0.out.1.below hVr
    obtain ⟨x0, x1, x2, x3, x4⟩ := cells5 hSB.1
    by_cases hlt : i < F.length
    · have hltI : (i : Int) < (F.length : Int) := by omega
      have hi0 : (0 : Int) ≤ (i : Int) := by omega
      obtain ⟨gF, rfl, hLc, hTR⟩ := TRow.of H0.out.2.2.1 (by omega)
      have hk := hM.out.1
      have hkz : k < 200000 := by omega
      have hds : ds.length ≤ 1000 := by have := hM.out.2.1.1; simp at this; omega
      have HK := Lib.hid hk
      have HTR := Lib.hid hTR
      have HI := Lib.hid hI.out
      have hdl : ¬ 9223372036854775807 < 1 + (Lib.decDigits k).length := by have := dec_len k (by omega); omega
      have hgt : (G.take i).length = i := by rw [List.length_take, HGl.out]; omega
      have HGt := Lib.hid hgt
      have HGs := Lib.hid (show G.take (i + 1) = G.take i ++ [qn k] by rw [List.take_succ_eq_append_getElem (by rw [HGl.out]; exact hlt), HG.out i (by rw [HGl.out]; exact hlt), hk])
      have HFs := Lib.hid (show F.take (i + 1) = F.take i ++ [F.getD i ⟨#[]⟩] by rw [List.take_succ_eq_append_getElem hlt]; simp [List.getD, hlt])
      clear hVr hSB hTR hk hI hgt
      go_wp2_with (go_at_call 34; fail)
      refine (rnum_any k (by omega) _).mono ?_
      rintro e w4 ⟨rfl, hb4⟩
      have HI4 := Lib.hid (HI.out.below hb4)
      have hw4 : W1.heap.size ≤ w4.heap.size := HI4.out.2.2.size
      clear hb4 HI x0 x1 x2 x3 x4
      go_wp2_with (at_builtin; refine wpList_append_lies _ rfl _ _ 23 rfl W1.heap.size 9 i0 (.string ⟨#[]⟩) 1 16 Tryz.underlying23 hi hz0 hz1 hz2 rfl (by decide) _ i ((G.take i).map Value.string) rfl (by have h := (HI4.out.below (below_a w4 (.cells #[.string (qn k)] 9))).1; rw [HGt.out] at h; exact h) ⟨w4.heap.size, 0, none⟩ 1 1 [.string (qn k)] rfl rfl (frz_one _ _ _) (by simp [Value.oneCell']) (by decide) ?p3 ?p4 ?p5 _ rfl ?_)
      case p3 => unfold maxLen; omega
      case p4 => omega
      case p5 => first | omega | (simp; omega)
      intro g3 cap3 W8 hown3 hgrow _ _
      have HG8 := Lib.hid (show (w4.alloc (.cells #[.string (qn k)] 9)).grownBy W8 (Value.slice b i d).ownBlock from ⟨hgrow.os, hgrow.tape, hgrow.output, hgrow.size, hgrow.block⟩)
      have HI8 := Lib.hid (RFI.str (x := qn k) (HI4.out.below (below_a w4 (.cells #[.string (qn k)] 9))) HGt.out HG8.out (by rw [List.map_take]; exact hown3))
      have HS8 := Lib.hid (H0.out.1.below HI8.out.2.2)
      have HT8 := Lib.hid (HTR.out.below HI8.out.2.2)
      clear hown3 hgrow HI4 HG8
      go_wp2_with fail
      refine rfc_here (W1 := W1) (b2 := w.heap.size) (gL := gF) (nL := F.length) (cL := fc) (ix := i) (L := F) (M := G.take i ++ [qn k]) (y := qn k) (pr := (⟨F.getD i ⟨#[]⟩, .var (qn k), none, 0⟩ : PR)) (ds := ds) (vv := .slice (some ⟨g3, 0, none⟩) (i + 1) cap3) (lv := .slice b2 i d2) (cv := .slice xa lc.length xc) (t := t) (ta := ta) (tc := tc) hlt (Lib.hid rfl) hi0 hltI hds
        (fun V' h => varX_any _ V')
        _ (by kernel_rfl) (by kernel_rfl) (by kernel_rfl) (by kernel_rfl) (by kernel_rfl) (by kernel_rfl) ⟨HT8.out.below (below_d _), HS8.out.below (below_d _), HI8.out.below (below_d _)⟩ ?_
      intro x2 V2 g9 c9 w9 hV2 ho9 hg9
      have HI9 := Lib.hid (hV2.2.2.pair hg9 ho9)
      have HD9 := Lib.hid (show DsOf (ds ++ [(⟨F.getD i ⟨#[]⟩, .var (qn k), none, 0⟩ : PR)]) (F.take (i + 1)) (G.take (i + 1)) from by rw [HGs.out, HFs.out]; exact hM.out.2.1.snoc _ _ none 0)
      have hdl2 : ds.length = i := by have h1 := hM.out.2.1.1; rw [List.length_take] at h1; omega
      rw [hdl2, ← HGs.out] at HI9
      rw [hdl2]
      clear hdl2 hV2 ho9 hg9 HT8 HS8 HI8 hM
      simp only [rfcFr, Act.put]
      simp only [Array.getD_eq_getD_getElem?, List.getElem?_toArray, List.getElem?_cons_zero, List.getElem?_cons_succ, Option.getD_some, List.setIfInBounds_toArray, List.set_cons_zero, List.set_cons_succ]
      go_wp2_with fail
      go_roundw
      case rel => exact ⟨i + 1, k + 1, c9, cap3, some ⟨g9, 0, none⟩, some ⟨g3, 0, none⟩, ds ++ [(⟨F.getD i ⟨#[]⟩, .var (qn k), none, 0⟩ : PR)], by omega, by go_num, by go_num, rfl, rfl, Lib.hid ⟨by have := HK.out; omega, HD9.out, fun e => by simp at e⟩, HI9⟩
      case measure => simp [intOf]; omega
    · obtain rfl : i = F.length := by omega
      have hGt : G.take F.length = G := by rw [← HGl.out, List.take_length]
      have hM2 := hM.out.2.1
      rw [List.take_length, hGt] at hM2
      have hI2 := hI.out
      rw [hGt] at hI2
      have hApp := hM2.app wr
      have HGv := Lib.hid (given_of_row hI2.2.1 hM.out.2.2)
      have HK := Lib.hid hM.out.1
      have hdl : ds.length < 1000000 := by have := hM2.1; omega
      have HSB := Lib.hid hSB
      have HTx := Lib.hid (show TextsAt wr (.slice b F.length d) G from TextsAt.of_row (by have := hI2.1; exact this))
      have HA := Lib.hid hApp
      have HD := Lib.hid hM2
      have HP := Lib.hid (H0.out.2.2.2.1.belowG hVr)
      have HZr := Lib.hid (H0.out.2.1.below hVr)
      have HB := Lib.hid (H0.out.2.2.2.2.trans (hVr.mono H0.out.2.2.2.2.size))
      clear hGt hM2 hI2 hApp hM hI hSB hVr
      go_wp2_with fail
      refine rfd_here (w := w) (b2 := w.heap.size) (b4 := w.heap.size + 1) (nv := F.length) (xv := .slice fa F.length fc) (lv := .slice b2 F.length d2) (va := b) (vc := d) (ca := xa) (ta := ta) (cc := xc) (tc := tc) (lc := lc) (t := t) (ds := ds) (gs := G) (zf := (k : Int)) (by omega) (by omega)
        (fun V h => rpreds_any (.slice b2 F.length d2) _ ds lc V hdl h.2.2.1 (HD.out.app V).1 h.2.1 HQ.out hcn)
        (fun V h => rapp_big (d := ds) hdl h.2.2.1 (HD.out.app V).1 h.1.2 hsz)
        _ (by kernel_rfl) (by kernel_rfl) (by kernel_rfl) (by kernel_rfl) (by kernel_rfl) (by kernel_rfl) (by kernel_rfl) ⟨HSB.out.below (below_d _), HP.out.belowG (below_d _), HGv.out.below (below_d _), HB.out.drew, HTx.out.below (below_d _)⟩ (HZr.out.below (below_d _)) ?_
      intro x V pa pc za zc hr hp8 ht8 hb8 hg8 e12
      have e1 := HA.out.2.1 t
      have e2 := HA.out.2.2 lc
      rw [e2] at hp8
      rw [e1] at ht8 hr
      have HE := Lib.hid (And.intro hg8 (And.intro hp8 (And.intro ht8 hb8)))
      have HR := Lib.hid hr
      obtain ⟨v0, v1, v2, v3, v4⟩ := cells5 hr
      clear hg8 hp8 ht8 hb8 e1 e2 hr HGv HSB HTx HA HD HP HZr HB x0 x1 x2 x3 x4
      simp only [rfdFr, e12]
      simp only [Array.getD_eq_getD_getElem?, List.getElem?_toArray, List.getElem?_cons_succ, List.getElem?_cons_zero, Option.getD_some]
      go_wp2_with fail
      have hc := cells5 HR.out
      refine bodyPost_ret (v := .tuple #[.agg #[.slice b F.length d, .slice pa lc.length pc, .int .i64 (app (prs F G) t).kind, .string (app (prs F G) t).name, .slice za (app (prs F G) t).kids.length zc], .int .i64 (k : Int)]) (by simp [results, Tryz.results9, go_sem, hc.1, hc.2.1, hc.2.2.1, hc.2.2.2.1, hc.2.2.2.2]) rfl ⟨⟨_, _, _, _, _, _, by rw [HK.out]; simp, HE.out.1, HE.out.2.1, HE.out.2.2.1⟩, HE.out.2.2.2⟩
end Go.Proofs.YtdidgddcgjpokaaGreatDoor
/- scheme.Same: both in their plain form: its last statement, a region of 6 operations that draws its order, by an invariant. (Made by a program.) -/
namespace Go.Proofs.YtdidgddcgjpokaaGreatDoor
open Go.RowKit Go.Sort Go.Lib
attribute [local go_sem] Oper.semAt_some

noncomputable def smeOps : Array Oper := regionIn 1 (Tryz.f23.body.getD .skip)
def smeFr (b : Nat → Value) (d : List Deferred) (x : Nat → Value) : Act := { tmps := #[b 0, b 1, b 2, b 3, b 4, x 0, x 1, x 2, x 3, b 9, b 10, b 11, b 12, b 13, b 14, b 15, b 16, b 17, b 18, b 19, b 20, b 21, b 22, b 23, b 24, b 25, b 26, b 27], defers := d }

def smeVals (aa0 aa1 aa2 aa3 aa4 bb0 bb1 bb2 bb3 bb4 : Value) (PA PB : Option Addr → Nat → Nat → Option Addr → Nat → Nat → Int → ByteArray → Option Addr → Nat → Nat → World → Prop) (i : Nat) (v : Value) (V : World) : Prop :=
  match i with
  | 0 => v = .agg #[aa0, aa1, aa2, aa3, aa4]
  | 1 => ∃ (za : Option Addr) (zn zc : Nat) (zp : Option Addr) (zm zq : Nat) (zk : Int) (zs : ByteArray) (zt : Option Addr) (zj zu : Nat), v = .agg #[.slice za zn zc, .slice zp zm zq, .int .i64 zk, .string zs, .slice zt zj zu] ∧ PA za zn zc zp zm zq zk zs zt zj zu V
  | 2 => v = .agg #[bb0, bb1, bb2, bb3, bb4]
  | 3 => ∃ (za : Option Addr) (zn zc : Nat) (zp : Option Addr) (zm zq : Nat) (zk : Int) (zs : ByteArray) (zt : Option Addr) (zj zu : Nat), v = .agg #[.slice za zn zc, .slice zp zm zq, .int .i64 zk, .string zs, .slice zt zj zu] ∧ PB za zn zc zp zm zq zk zs zt zj zu V
  | 4 => ∃ zu, v = zu ∧ True
  | 5 => ∃ zu, v = zu ∧ True
  | _ => True

theorem smeVals_keep {aa0 aa1 aa2 aa3 aa4 bb0 bb1 bb2 bb3 bb4 : Value} {PA PB : Option Addr → Nat → Nat → Option Addr → Nat → Nat → Int → ByteArray → Option Addr → Nat → Nat → World → Prop} (i : Nat) (v : Value) (V Y : World) (h : smeVals aa0 aa1 aa2 aa3 aa4 bb0 bb1 bb2 bb3 bb4 PA PB i v V) (hb : Y = V) : smeVals aa0 aa1 aa2 aa3 aa4 bb0 bb1 bb2 bb3 bb4 PA PB i v Y := by
  unfold smeVals at *
  split at h <;> first
    | exact h
    | (obtain ⟨za, zn, zc, zp, zm, zq, zk, zs, zt, zj, zu, e, h⟩ := h; exact ⟨za, zn, zc, zp, zm, zq, zk, zs, zt, zj, zu, e, (by subst hb; exact h)⟩)
    | (obtain ⟨zu, e, h⟩ := h; exact ⟨zu, e, h⟩)

theorem smeVals_keep2 {aa0 aa1 aa2 aa3 aa4 bb0 bb1 bb2 bb3 bb4 : Value} {PA PB : Option Addr → Nat → Nat → Option Addr → Nat → Nat → Int → ByteArray → Option Addr → Nat → Nat → World → Prop} (hPA : ∀ (za : Option Addr) (zn zc : Nat) (zp : Option Addr) (zm zq : Nat) (zk : Int) (zs : ByteArray) (zt : Option Addr) (zj zu : Nat) V Y, KeepO V Y → PA za zn zc zp zm zq zk zs zt zj zu V → PA za zn zc zp zm zq zk zs zt zj zu Y) (hPB : ∀ (za : Option Addr) (zn zc : Nat) (zp : Option Addr) (zm zq : Nat) (zk : Int) (zs : ByteArray) (zt : Option Addr) (zj zu : Nat) V Y, KeepO V Y → PB za zn zc zp zm zq zk zs zt zj zu V → PB za zn zc zp zm zq zk zs zt zj zu Y) (i : Nat) (v : Value) (V Y : World) (h : smeVals aa0 aa1 aa2 aa3 aa4 bb0 bb1 bb2 bb3 bb4 PA PB i v V) (hk : KeepO V Y) : smeVals aa0 aa1 aa2 aa3 aa4 bb0 bb1 bb2 bb3 bb4 PA PB i v Y := by
  unfold smeVals at *
  split at h <;> first
    | exact h
    | (obtain ⟨za, zn, zc, zp, zm, zq, zk, zs, zt, zj, zu, e, h⟩ := h; exact ⟨za, zn, zc, zp, zm, zq, zk, zs, zt, zj, zu, e, hPA _ _ _ _ _ _ _ _ _ _ _ V Y hk h⟩)
    | (obtain ⟨za, zn, zc, zp, zm, zq, zk, zs, zt, zj, zu, e, h⟩ := h; exact ⟨za, zn, zc, zp, zm, zq, zk, zs, zt, zj, zu, e, hPB _ _ _ _ _ _ _ _ _ _ _ V Y hk h⟩)
theorem SmS.below2 {w V Y : World} {b2 b3 : Nat} {D : World → Prop} (h : SmS w b2 b3 D V) (hD : ∀ V Y, KeepO V Y → D V → D Y) (hb : Below V.heap.size V Y) : SmS w b2 b3 D Y := ⟨hD V Y (KeepO.of_below hb) h.1, h.2.1.below hb, h.2.2.1.below hb, h.2.2.2.trans (hb.mono h.2.2.2.size)⟩
theorem SmS.set5a {w V : World} {b2 b3 : Nat} {D : World → Prop} (h : SmS w b2 b3 D V) (hD : ∀ V Y, KeepO V Y → D V → D Y) (hne : b2 ≠ b3) (hw : w.heap.size ≤ b2) (z0 z1 z2 z3 z4 : Value) : SmS w b2 b3 D (set5 V b2 z0 z1 z2 z3 z4) := by
  obtain ⟨h1, ⟨cs, h2⟩, h3, h4⟩ := h
  have hl := (Array.getElem?_eq_some_iff.1 h2).1
  exact ⟨hD V _ (KeepO.of_set5 ⟨cs, h2⟩ _ _ _ _ _) h1, ⟨_, blk_set (o := 4) (blk_set (o := 3) (blk_set (o := 2) (blk_set (o := 1) (blk_set (o := 0) h2 _) _) _) _) _⟩, h3.set5 (Ne.symm hne) _ _ _ _ _, below_set5 h4 hw _ _ _ _ _⟩
theorem SmS.set5b {w V : World} {b2 b3 : Nat} {D : World → Prop} (h : SmS w b2 b3 D V) (hD : ∀ V Y, KeepO V Y → D V → D Y) (hne : b2 ≠ b3) (hw : w.heap.size ≤ b3) (z0 z1 z2 z3 z4 : Value) : SmS w b2 b3 D (set5 V b3 z0 z1 z2 z3 z4) := by
  obtain ⟨h1, h2, ⟨cs, h3⟩, h4⟩ := h
  exact ⟨hD V _ (KeepO.of_set5 ⟨cs, h3⟩ _ _ _ _ _) h1, h2.set5 hne _ _ _ _ _, ⟨_, blk_set (o := 4) (blk_set (o := 3) (blk_set (o := 2) (blk_set (o := 1) (blk_set (o := 0) h3 _) _) _) _) _⟩, below_set5 h4 hw _ _ _ _ _⟩

theorem sme_size : smeOps.size = 6 := by kernel_rfl
set_option linter.unusedSimpArgs false in
set_option maxRecDepth 100000 in
set_option maxHeartbeats 8000000 in
theorem sme_region {w : World} {b2 b3 : Nat} {D : World → Prop} {aa0 aa1 aa2 aa3 aa4 bb0 bb1 bb2 bb3 bb4 : Value} {PA PB : Option Addr → Nat → Nat → Option Addr → Nat → Nat → Int → ByteArray → Option Addr → Nat → Nat → World → Prop} (hDK : ∀ V Y, KeepO V Y → D V → D Y) (hPA : ∀ (za : Option Addr) (zn zc : Nat) (zp : Option Addr) (zm zq : Nat) (zk : Int) (zs : ByteArray) (zt : Option Addr) (zj zu : Nat) V Y, KeepO V Y → PA za zn zc zp zm zq zk zs zt zj zu V → PA za zn zc zp zm zq zk zs zt zj zu Y) (hPB : ∀ (za : Option Addr) (zn zc : Nat) (zp : Option Addr) (zm zq : Nat) (zk : Int) (zs : ByteArray) (zt : Option Addr) (zj zu : Nat) V Y, KeepO V Y → PB za zn zc zp zm zq zk zs zt zj zu V → PB za zn zc zp zm zq zk zs zt zj zu Y) (hw2 : w.heap.size ≤ b2) (hw3 : w.heap.size ≤ b3) (hne : b2 ≠ b3) (HA : ∀ V, D V → Calls Tryz.prog 12 #[.agg #[aa0, aa1, aa2, aa3, aa4]] V fun e Y => (∃ (za : Option Addr) (zn zc : Nat) (zp : Option Addr) (zm zq : Nat) (zk : Int) (zs : ByteArray) (zt : Option Addr) (zj zu : Nat), e = .returned (.agg #[.slice za zn zc, .slice zp zm zq, .int .i64 zk, .string zs, .slice zt zj zu]) ∧ PA za zn zc zp zm zq zk zs zt zj zu Y) ∧ Below V.heap.size V Y) (HB : ∀ V, D V → Calls Tryz.prog 12 #[.agg #[bb0, bb1, bb2, bb3, bb4]] V fun e Y => (∃ (za : Option Addr) (zn zc : Nat) (zp : Option Addr) (zm zq : Nat) (zk : Int) (zs : ByteArray) (zt : Option Addr) (zj zu : Nat), e = .returned (.agg #[.slice za zn zc, .slice zp zm zq, .int .i64 zk, .string zs, .slice zt zj zu]) ∧ PB za zn zc zp zm zq zk zs zt zj zu Y) ∧ Below V.heap.size V Y) {b : Nat → Value} {d : List Deferred}
    (h2 : b 2 = .pointer (some ⟨b2, 0, none⟩)) (h3 : b 3 = .pointer (some ⟨b3, 0, none⟩))
    
    {Q : Exit → Act → World → Prop} {ops : Array Oper} (hops : ops = smeOps) (x0 : Nat → Value) (X : World) (hS : SmS w b2 b3 D X.drew) (hX2 : X.drew.heap[b2]? = some (.cells #[aa0, aa1, aa2, aa3, aa4] 33 (0, 0))) (hX3 : X.drew.heap[b3]? = some (.cells #[bb0, bb1, bb2, bb3, bb4] 33 (0, 0)))
    (hfin : ∀ (x : Nat → Value) V (za : Option Addr) (zn zc : Nat) (zp : Option Addr) (zm zq : Nat) (zk : Int) (zs : ByteArray) (zt : Option Addr) (zj zu : Nat) (ya : Option Addr) (yn yc : Nat) (yp : Option Addr) (ym yq : Nat) (yk : Int) (ys : ByteArray) (yt : Option Addr) (yj yu : Nat), SmS w b2 b3 D V → PA za zn zc zp zm zq zk zs zt zj zu V → PB ya yn yc yp ym yq yk ys yt yj yu V → V.heap[b2]? = some (.cells #[.slice za zn zc, .slice zp zm zq, .int .i64 zk, .string zs, .slice zt zj zu] 33 (0, 0)) → V.heap[b3]? = some (.cells #[.slice ya yn yc, .slice yp ym yq, .int .i64 yk, .string ys, .slice yt yj yu] 33 (0, 0)) → Q .normal (smeFr b d x) V) : (Code.region 1 ops true).wp Tryz.prog Q (smeFr b d x0) X := by
  refine region_mark (smeFr b d) (fun V => SmS w b2 b3 D V) (fun V Y => Y = V) (smeVals aa0 aa1 aa2 aa3 aa4 bb0 bb1 bb2 bb3 bb4 PA PB) (fun L x V => SmK b2 b3 #[aa0, aa1, aa2, aa3, aa4] #[bb0, bb1, bb2, bb3, bb4] L x V) (fun i => i == 0 || i == 1 || i == 2 || i == 3 || i == 4 || i == 5) x0 (by kernel_rfl) rfl hS (SmK.start hX2 hX3) (fun V Y h hb => by subst hb; exact h) (fun i v V Y _ h hb => smeVals_keep  i v V Y h hb) (fun i L x v w' w'' hs _ hM hr => by subst hr; exact hM.far (by simp only [Bool.or_eq_false_iff, beq_eq_false_iff_ne] at hs; omega) v) ?_ (fun L x V hS hall hM => by
    have q4 := (hall 4 (by rw [hops, sme_size]; decide)).1; have q5 := (hall 5 (by rw [hops, sme_size]; decide)).1
    obtain ⟨za, zn, zc, zp, zm, zq, zk, zs, zt, zj, zu, e1, h1⟩ := (hall 1 (by rw [hops, sme_size]; decide)).2
    obtain ⟨ya, yn, yc, yp, ym, yq, yk, ys, yt, yj, yu, e3, h3⟩ := (hall 3 (by rw [hops, sme_size]; decide)).2
    obtain ⟨cs, k1, k2⟩ := hM.m1 q4
    obtain ⟨ds, k3, k4⟩ := hM.n1 q5
    rw [e1] at k1; cases k1
    rw [e3] at k3; cases k3
    exact hfin x V _ _ _ _ _ _ _ _ _ _ _ _ _ _ _ _ _ _ _ _ _ _ hS h1 h3 k2 k4)
  clear hfin hS
  obtain ⟨f, hf⟩ : ∃ qq, (fun i o => ((fun i => i == 0 || i == 1 || i == 2 || i == 3 || i == 4 || i == 5) i = false → StepAt Tryz.prog (smeFr b d) (fun V => SmS w b2 b3 D V) (fun V Y => Y = V) (smeVals aa0 aa1 aa2 aa3 aa4 bb0 bb1 bb2 bb3 bb4 PA PB) ops Q i o) ∧ ((fun i => i == 0 || i == 1 || i == 2 || i == 3 || i == 4 || i == 5) i = true → MarkAt Tryz.prog (smeFr b d) (fun V => SmS w b2 b3 D V) (smeVals aa0 aa1 aa2 aa3 aa4 bb0 bb1 bb2 bb3 bb4 PA PB) (fun L x V => SmK b2 b3 #[aa0, aa1, aa2, aa3, aa4] #[bb0, bb1, bb2, bb3, bb4] L x V) ops Q i o)) = qq := ⟨_, rfl⟩
  rw [hf, hops]
  simp only [smeOps, Tryz.f23, regionIn, Option.getD_some, Nat.reduceBEq, Bool.false_eq_true, if_false, if_true, beq_self_eq_true, Array.append_empty, Array.empty_append, List.append_eq, List.cons_append, List.nil_append, AllAt, Nat.reduceAdd, Nat.zero_add]
  -- 0: slot 5 := Op.load 33 t2
  refine And.intro ?_ ?_
  · rw [← hf]; clear hf
    refine ⟨fun h => absurd h (by decide), fun _ => ⟨by decide +kernel, fun x v => by kernel_rfl, fun L x V hV hVs hMk hLi hdep K hK => ?_⟩⟩
    have hz := hMk.m0 (by cases q : L 4 with | false => rfl | true => exact absurd (hMk.c1 (hMk.c4 q)) (by rw [hLi]; decide))
    obtain ⟨c0, c1, c2, c3, c4⟩ := cells5 hz
    refine run_bare (by kernel_rfl) ?_
    have H := Lib.hid (fun v => hMk.step (i := 0) (by decide) (by decide) hLi (fun e => absurd e (by decide)) (fun e => absurd e (by decide)) (fun o ho => ho) (fun o ho => ho) v)
    have HVs := Lib.hid hVs
    have HS := Lib.hid hV
    clear hVs hMk hdep hz hV
    unfold smeFr at hK ⊢
    go_simp
    refine kfit (hK _ _ HS.out HVs.out rfl (H.out _)) ?_
    first | (simp only [Act.put, List.setIfInBounds_toArray, List.set_cons_zero, List.set_cons_succ, h2, h3]; done) | (simp only [Act.put, List.setIfInBounds_toArray, List.set_cons_zero, List.set_cons_succ, h2, h3]; rfl)
  -- 1: slot 6 := Op.call { value (Operand.func 12), args := #[t5], argTypes :
  refine And.intro ?_ ?_
  · rw [← hf]; clear hf
    refine ⟨fun h => absurd h (by decide), fun _ => ⟨by decide +kernel, fun x v => by kernel_rfl, fun L x V hV hVs hMk hLi hdep K hK => ?_⟩⟩
    have q := depL hdep 0 (by decide +kernel)
    have e0 : x 0 = .agg #[aa0, aa1, aa2, aa3, aa4] := hVs 0 q
    have HC := Lib.hid (HA V hV.1)
    refine run_bare (by kernel_rfl) ?_
    have H := Lib.hid (fun (Y : World) (hb : Below V.heap.size V Y) v => hMk.step (Y := Y) (i := 1) (by decide) (by decide) hLi (fun e => q) (fun e => absurd e (by decide)) (fun o ho => (hb.block _ (Array.getElem?_eq_some_iff.1 ho).1).trans ho) (fun o ho => (hb.block _ (Array.getElem?_eq_some_iff.1 ho).1).trans ho) v)
    have HVs := Lib.hid hVs
    have HS := Lib.hid hV
    clear hVs hMk hdep hV
    unfold smeFr at hK ⊢
    go_simp
    go_at_call 12
    refine HC.out.mono ?_
    rintro e Y ⟨⟨za, zn, zc, zp, zm, zq, zk, zs, zt, zj, zu, rfl, hq⟩, hb⟩
    refine kfit (hK _ _ (HS.out.below2 hDK hb) (fun j hj => smeVals_keep2 hPA hPB j _ V Y (HVs.out j hj) (KeepO.of_below hb)) ⟨za, zn, zc, zp, zm, zq, zk, zs, zt, zj, zu, rfl, hq⟩ (H.out Y hb _)) ?_
    first | (simp only [Act.put, List.setIfInBounds_toArray, List.set_cons_zero, List.set_cons_succ, h2, h3, e0]; done) | (simp only [Act.put, List.setIfInBounds_toArray, List.set_cons_zero, List.set_cons_succ, h2, h3, e0]; rfl)
  -- 2: slot 7 := Op.load 33 t3
  refine And.intro ?_ ?_
  · rw [← hf]; clear hf
    refine ⟨fun h => absurd h (by decide), fun _ => ⟨by decide +kernel, fun x v => by kernel_rfl, fun L x V hV hVs hMk hLi hdep K hK => ?_⟩⟩
    have hz := hMk.n0 (by cases q : L 5 with | false => rfl | true => exact absurd (hMk.c3 (hMk.c5 q)) (by rw [hLi]; decide))
    obtain ⟨c0, c1, c2, c3, c4⟩ := cells5 hz
    refine run_bare (by kernel_rfl) ?_
    have H := Lib.hid (fun v => hMk.step (i := 2) (by decide) (by decide) hLi (fun e => absurd e (by decide)) (fun e => absurd e (by decide)) (fun o ho => ho) (fun o ho => ho) v)
    have HVs := Lib.hid hVs
    have HS := Lib.hid hV
    clear hVs hMk hdep hz hV
    unfold smeFr at hK ⊢
    go_simp
    refine kfit (hK _ _ HS.out HVs.out rfl (H.out _)) ?_
    first | (simp only [Act.put, List.setIfInBounds_toArray, List.set_cons_zero, List.set_cons_succ, h2, h3]; done) | (simp only [Act.put, List.setIfInBounds_toArray, List.set_cons_zero, List.set_cons_succ, h2, h3]; rfl)
  -- 3: slot 8 := Op.call { value (Operand.func 12), args := #[t7], argTypes :
  refine And.intro ?_ ?_
  · rw [← hf]; clear hf
    refine ⟨fun h => absurd h (by decide), fun _ => ⟨by decide +kernel, fun x v => by kernel_rfl, fun L x V hV hVs hMk hLi hdep K hK => ?_⟩⟩
    have q := depL hdep 2 (by decide +kernel)
    have e2 : x 2 = .agg #[bb0, bb1, bb2, bb3, bb4] := hVs 2 q
    have HC := Lib.hid (HB V hV.1)
    refine run_bare (by kernel_rfl) ?_
    have H := Lib.hid (fun (Y : World) (hb : Below V.heap.size V Y) v => hMk.step (Y := Y) (i := 3) (by decide) (by decide) hLi (fun e => absurd e (by decide)) (fun e => q) (fun o ho => (hb.block _ (Array.getElem?_eq_some_iff.1 ho).1).trans ho) (fun o ho => (hb.block _ (Array.getElem?_eq_some_iff.1 ho).1).trans ho) v)
    have HVs := Lib.hid hVs
    have HS := Lib.hid hV
    clear hVs hMk hdep hV
    unfold smeFr at hK ⊢
    go_simp
    go_at_call 12
    refine HC.out.mono ?_
    rintro e Y ⟨⟨za, zn, zc, zp, zm, zq, zk, zs, zt, zj, zu, rfl, hq⟩, hb⟩
    refine kfit (hK _ _ (HS.out.below2 hDK hb) (fun j hj => smeVals_keep2 hPA hPB j _ V Y (HVs.out j hj) (KeepO.of_below hb)) ⟨za, zn, zc, zp, zm, zq, zk, zs, zt, zj, zu, rfl, hq⟩ (H.out Y hb _)) ?_
    first | (simp only [Act.put, List.setIfInBounds_toArray, List.set_cons_zero, List.set_cons_succ, h2, h3, e2]; done) | (simp only [Act.put, List.setIfInBounds_toArray, List.set_cons_zero, List.set_cons_succ, h2, h3, e2]; rfl)
  -- 4: slot none := Op.store 33 t2 t6
  refine And.intro ?_ ?_
  · rw [← hf]; clear hf
    refine ⟨fun h => absurd h (by decide), fun _ => ⟨by decide +kernel, fun x v => by kernel_rfl, fun L x V hV hVs hMk hLi hdep K hK => ?_⟩⟩
    have q := depL hdep 1 (by decide +kernel)
    obtain ⟨za, zn, zc, zp, zm, zq, zk, zs, zt, zj, zu, e1, hq⟩ : ∃ (za : Option Addr) (zn zc : Nat) (zp : Option Addr) (zm zq : Nat) (zk : Int) (zs : ByteArray) (zt : Option Addr) (zj zu : Nat), x 1 = .agg #[.slice za zn zc, .slice zp zm zq, .int .i64 zk, .string zs, .slice zt zj zu] ∧ PA za zn zc zp zm zq zk zs zt zj zu V := hVs 1 q
    have hz := hMk.m0 hLi
    obtain ⟨c0, c1, c2, c3, c4⟩ := cells5 hz
    have f0 := Lib.frozen_of_heap hz 0; have f1 := Lib.frozen_of_heap hz 1; have f2 := Lib.frozen_of_heap hz 2; have f3 := Lib.frozen_of_heap hz 3; have f4 := Lib.frozen_of_heap hz 4
    refine run_bare (by kernel_rfl) ?_
    have H := Lib.hid (fun v => hMk.st4 (Ne.symm hne) q hz e1 v)
    have HS2 := Lib.hid (hV.set5a hDK hne hw2 (.slice za zn zc) (.slice zp zm zq) (.int .i64 zk) (.string zs) (.slice zt zj zu))
    have HK := Lib.hid (KeepO.of_set5 (b := b2) ⟨_, hz⟩ (.slice za zn zc) (.slice zp zm zq) (.int .i64 zk) (.string zs) (.slice zt zj zu))
    have HVs := Lib.hid hVs
    clear hVs hMk hdep hz hq hV
    unfold smeFr at hK ⊢
    unfold set5 at H HS2 HK
    go_simp
    refine kfit (hK undef _ HS2.out (fun j hj => smeVals_keep2 hPA hPB j _ V _ (HVs.out j hj) HK.out) ⟨undef, rfl, trivial⟩ (H.out undef)) ?_
    first | (simp only [Act.put, List.setIfInBounds_toArray, List.set_cons_zero, List.set_cons_succ, h2, h3, e1]; done) | (simp only [Act.put, List.setIfInBounds_toArray, List.set_cons_zero, List.set_cons_succ, h2, h3, e1]; rfl)
  -- 5: slot none := Op.store 33 t3 t8
  refine And.intro ?_ ?_
  · rw [← hf]; clear hf
    refine ⟨fun h => absurd h (by decide), fun _ => ⟨by decide +kernel, fun x v => by kernel_rfl, fun L x V hV hVs hMk hLi hdep K hK => ?_⟩⟩
    have q := depL hdep 3 (by decide +kernel)
    obtain ⟨za, zn, zc, zp, zm, zq, zk, zs, zt, zj, zu, e3, hq⟩ : ∃ (za : Option Addr) (zn zc : Nat) (zp : Option Addr) (zm zq : Nat) (zk : Int) (zs : ByteArray) (zt : Option Addr) (zj zu : Nat), x 3 = .agg #[.slice za zn zc, .slice zp zm zq, .int .i64 zk, .string zs, .slice zt zj zu] ∧ PB za zn zc zp zm zq zk zs zt zj zu V := hVs 3 q
    have hz := hMk.n0 hLi
    obtain ⟨c0, c1, c2, c3, c4⟩ := cells5 hz
    have f0 := Lib.frozen_of_heap hz 0; have f1 := Lib.frozen_of_heap hz 1; have f2 := Lib.frozen_of_heap hz 2; have f3 := Lib.frozen_of_heap hz 3; have f4 := Lib.frozen_of_heap hz 4
    refine run_bare (by kernel_rfl) ?_
    have H := Lib.hid (fun v => hMk.st5 hne q hz e3 v)
    have HS2 := Lib.hid (hV.set5b hDK hne hw3 (.slice za zn zc) (.slice zp zm zq) (.int .i64 zk) (.string zs) (.slice zt zj zu))
    have HK := Lib.hid (KeepO.of_set5 (b := b3) ⟨_, hz⟩ (.slice za zn zc) (.slice zp zm zq) (.int .i64 zk) (.string zs) (.slice zt zj zu))
    have HVs := Lib.hid hVs
    clear hVs hMk hdep hz hq hV
    unfold smeFr at hK ⊢
    unfold set5 at H HS2 HK
    go_simp
    refine kfit (hK undef _ HS2.out (fun j hj => smeVals_keep2 hPA hPB j _ V _ (HVs.out j hj) HK.out) ⟨undef, rfl, trivial⟩ (H.out undef)) ?_
    first | (simp only [Act.put, List.setIfInBounds_toArray, List.set_cons_zero, List.set_cons_succ, h2, h3, e3]; done) | (simp only [Act.put, List.setIfInBounds_toArray, List.set_cons_zero, List.set_cons_succ, h2, h3, e3]; rfl)
  exact trivial
theorem sme_here {w : World} {b2 b3 : Nat} {D : World → Prop} {aa0 aa1 aa2 aa3 aa4 bb0 bb1 bb2 bb3 bb4 : Value} {PA PB : Option Addr → Nat → Nat → Option Addr → Nat → Nat → Int → ByteArray → Option Addr → Nat → Nat → World → Prop} (hDK : ∀ V Y, KeepO V Y → D V → D Y) (hPA : ∀ (za : Option Addr) (zn zc : Nat) (zp : Option Addr) (zm zq : Nat) (zk : Int) (zs : ByteArray) (zt : Option Addr) (zj zu : Nat) V Y, KeepO V Y → PA za zn zc zp zm zq zk zs zt zj zu V → PA za zn zc zp zm zq zk zs zt zj zu Y) (hPB : ∀ (za : Option Addr) (zn zc : Nat) (zp : Option Addr) (zm zq : Nat) (zk : Int) (zs : ByteArray) (zt : Option Addr) (zj zu : Nat) V Y, KeepO V Y → PB za zn zc zp zm zq zk zs zt zj zu V → PB za zn zc zp zm zq zk zs zt zj zu Y) (hw2 : w.heap.size ≤ b2) (hw3 : w.heap.size ≤ b3) (hne : b2 ≠ b3) (HA : ∀ V, D V → Calls Tryz.prog 12 #[.agg #[aa0, aa1, aa2, aa3, aa4]] V fun e Y => (∃ (za : Option Addr) (zn zc : Nat) (zp : Option Addr) (zm zq : Nat) (zk : Int) (zs : ByteArray) (zt : Option Addr) (zj zu : Nat), e = .returned (.agg #[.slice za zn zc, .slice zp zm zq, .int .i64 zk, .string zs, .slice zt zj zu]) ∧ PA za zn zc zp zm zq zk zs zt zj zu Y) ∧ Below V.heap.size V Y) (HB : ∀ V, D V → Calls Tryz.prog 12 #[.agg #[bb0, bb1, bb2, bb3, bb4]] V fun e Y => (∃ (za : Option Addr) (zn zc : Nat) (zp : Option Addr) (zm zq : Nat) (zk : Int) (zs : ByteArray) (zt : Option Addr) (zj zu : Nat), e = .returned (.agg #[.slice za zn zc, .slice zp zm zq, .int .i64 zk, .string zs, .slice zt zj zu]) ∧ PB za zn zc zp zm zq zk zs zt zj zu Y) ∧ Below V.heap.size V Y)
    
    {Q : Exit → Act → World → Prop} {ops : Array Oper} {a : Act} (X : World) (hops : ops = smeOps)
    (h2 : a.tmps.getD 2 undef = .pointer (some ⟨b2, 0, none⟩)) (h3 : a.tmps.getD 3 undef = .pointer (some ⟨b3, 0, none⟩))
    (ha : a = smeFr (fun j => a.tmps.getD j undef) a.defers (fun i => a.tmps.getD (5 + i) undef)) (hS : SmS w b2 b3 D X.drew) (hX2 : X.drew.heap[b2]? = some (.cells #[aa0, aa1, aa2, aa3, aa4] 33 (0, 0))) (hX3 : X.drew.heap[b3]? = some (.cells #[bb0, bb1, bb2, bb3, bb4] 33 (0, 0)))
    (hfin : ∀ (x : Nat → Value) V (za : Option Addr) (zn zc : Nat) (zp : Option Addr) (zm zq : Nat) (zk : Int) (zs : ByteArray) (zt : Option Addr) (zj zu : Nat) (ya : Option Addr) (yn yc : Nat) (yp : Option Addr) (ym yq : Nat) (yk : Int) (ys : ByteArray) (yt : Option Addr) (yj yu : Nat), SmS w b2 b3 D V → PA za zn zc zp zm zq zk zs zt zj zu V → PB ya yn yc yp ym yq yk ys yt yj yu V → V.heap[b2]? = some (.cells #[.slice za zn zc, .slice zp zm zq, .int .i64 zk, .string zs, .slice zt zj zu] 33 (0, 0)) → V.heap[b3]? = some (.cells #[.slice ya yn yc, .slice yp ym yq, .int .i64 yk, .string ys, .slice yt yj yu] 33 (0, 0)) → Q .normal (smeFr (fun j => a.tmps.getD j undef) a.defers x) V) : (Code.region 1 ops true).wp Tryz.prog Q a X :=
  cast (congrArg (fun z => (Code.region 1 ops true).wp Tryz.prog Q z X) ha.symm) (sme_region hDK hPA hPB hw2 hw3 hne HA HB (b := fun j => a.tmps.getD j undef) (d := a.defers) h2 h3  hops _ X hS  hX2 hX3 hfin)
end Go.Proofs.YtdidgddcgjpokaaGreatDoor
/- slices.Equal of texts; slices.EqualFunc of contexts. -/
namespace Go.Proofs.YtdidgddcgjpokaaGreatDoor
open Go.RowKit Go.Sort Go.Lib
attribute [local go_sem] Oper.semAt_some

set_option maxHeartbeats 2000000 in
theorem equalT_any (l l' : List ByteArray) (hl : l.length ≤ 1000000000) (a b : Option Addr) (c d : Nat) (w : World) (h : TextsAt w (.slice a l.length c) l) (h' : TextsAt w (.slice b l'.length d) l') :
    Calls Tryz.prog 50 #[.slice a l.length c, .slice b l'.length d] w fun e w' => e = .returned (.bool (eqB l l')) ∧ Below w.heap.size w w' := by
  by_cases hlen : l.length = l'.length
  · have hm : ((l.length : Int) != (l'.length : Int)) = false := by simp; omega
    have HR := Lib.hid (h.part.2)
    have HR' := Lib.hid (h'.part.2)
    have HL := Lib.hid hlen
    have hlen1 : l'.length ≤ l.length := by omega
    have hlen2 : l.length ≤ l'.length := by omega
    obtain ⟨res, hres⟩ : ∃ r, eqB l l' = r := ⟨_, rfl⟩
    have HRes := Lib.hid hres
    rw [hres]
    clear h h' hlen hres
    go_enter Tryz.func50, Tryz.ntmps50
    go_wp2
    go_loopw [13] (fun vi wr => ∃ i : Nat, i ≤ l.length ∧ vi = .int .i64 i ∧ Hid (Below w.heap.size w wr) ∧ Hid (∀ j (h1 : j < l.length) (h2 : j < l'.length), j < i → l[j] = l'[j])) (fun vi _ => l.length - (intOf vi).toNat)
    case atStart => exact ⟨0, Nat.zero_le _, rfl, Lib.hid (Below.refl _ _), Lib.hid (fun j _ _ h => absurd h (by omega))⟩
    case round =>
      obtain ⟨i, hi, rfl, hB, hS⟩ := hrel
      by_cases hlt : i < l.length
      · have hlt' : i < l'.length := by omega
        obtain ⟨g, rfl, hc, hg, hh⟩ := HR.out i hlt
        obtain ⟨g', rfl, hc', hg', hh'⟩ := HR'.out i hlt'
        have x0 := hh wr (fun k _ _ hk => (hB.out.block k (Array.getElem?_eq_some_iff.1 hk).1).trans hk)
        have y0 := hh' wr (fun k _ _ hk => (hB.out.block k (Array.getElem?_eq_some_iff.1 hk).1).trans hk)
        have hb : (l[i].toList == l'[i].toList) = eqB l[i] l'[i] := bytes_beq _ _
        obtain ⟨u, hu⟩ : ∃ u, l[i] = u := ⟨_, rfl⟩
        obtain ⟨u', hu'⟩ : ∃ u, l'[i] = u := ⟨_, rfl⟩
        have HU := Lib.hid hu; have HU' := Lib.hid hu'
        rw [hu] at x0 hb; rw [hu'] at y0 hb
        clear hh hh' hu hu' HR HR'
        have hlt1 : ((i : Int) < (l.length : Int)) := by omega
        have hlt2 : ((i : Int) < (l'.length : Int)) := by omega
        by_cases hq : u = u'
        · rw [eqB_true hq] at hb
          have HQ := Lib.hid hq
          clear hq
          go_wp2
          go_quiet (fail)
          go_wp2
          go_roundw
          case rel => exact ⟨i + 1, by omega, by go_num, Lib.hid (below_drewN hB.out _), Lib.hid fun j h1 h2 hji => by
            by_cases e : j = i
            · subst e; rw [HU.out, HU'.out]; exact HQ.out
            · exact hS.out j h1 h2 (by omega)⟩
          case measure => simp [intOf]; omega
        · rw [eqB_false hq] at hb
          have e : res = false := by
            rw [← HRes.out]
            refine eqB_false fun e => hq ?_
            rw [← HU.out, ← HU'.out]
            exact List.getElem_of_eq e hlt
          subst e
          clear hq HRes HU HU'
          go_wp2
          go_quiet (fail)
          go_wp2
          go_ret
          exact ⟨rfl, below_drewN hB.out _⟩
      · obtain rfl : i = l.length := by omega
        have e : res = true := by
          rw [← HRes.out]
          exact eqB_true (List.ext_getElem HL.out (fun j h1 h2 => hS.out j h1 h2 h1))
        subst e
        clear HRes HR HR'
        go_wp2
        go_ret
        exact ⟨rfl, hB.out⟩
  · have hm : ((l.length : Int) != (l'.length : Int)) = true := by simp; omega
    rw [eqB_false (fun e => hlen (by rw [e]))]
    clear h h'
    go_enter Tryz.func50, Tryz.ntmps50
    go_wp2
    go_ret
    exact ⟨rfl, Below.refl _ _⟩
set_option maxRecDepth 100000 in
set_option maxHeartbeats 4000000 in
theorem equalF_any (ls ms : List PR) (H : ∀ x ∈ ls, Fits x.t) (a b : Option Addr) (c d : Nat) (w : World) (h : PV ls (.slice a ls.length c) w) (h' : PV ms (.slice b ms.length d) w) (hn : ls.length ≤ 1000000) :
    Calls Tryz.prog 51 #[.slice a ls.length c, .slice b ms.length d, .func (.func 46) #[] #[]] w fun e w' => e = .returned (.bool (eqB (ls.map prOf) (ms.map prOf))) ∧ Below w.heap.size w w' := by
  by_cases hlen : ls.length = ms.length
  · have hm : ((ls.length : Int) != (ms.length : Int)) = false := by simp; omega
    have H1 := Lib.hid h; have H2 := Lib.hid h'; have HF := Lib.hid H
    have HL := Lib.hid hlen
    have hlen1 : ms.length ≤ ls.length := by omega
    have hlen2 : ls.length ≤ ms.length := by omega
    obtain ⟨res, hres⟩ : ∃ r, eqB (ls.map prOf) (ms.map prOf) = r := ⟨_, rfl⟩
    have HRes := Lib.hid hres
    rw [hres]
    clear h h' H hlen hres
    go_enter Tryz.func51, Tryz.ntmps51
    go_wp2
    go_loopw [17] (fun vi wr => ∃ i : Nat, i ≤ ls.length ∧ vi = .int .i64 i ∧ Hid (Below w.heap.size w wr) ∧ Hid (∀ j, j < i → prOf (ls.getD j noP) = prOf (ms.getD j noP))) (fun vi _ => ls.length - (intOf vi).toNat)
    case atStart => exact ⟨0, Nat.zero_le _, rfl, Lib.hid (Below.refl _ _), Lib.hid (fun j h => absurd h (Nat.not_lt_zero _))⟩
    case round =>
      obtain ⟨i, hi, rfl, hB, hS⟩ := hrel
      by_cases hlt : i < ls.length
      · have hlt' : i < ms.length := by omega
        obtain ⟨g1, rfl, hc1, hr1⟩ := H1.out.row (by omega)
        obtain ⟨g2, rfl, hc2, hr2⟩ := H2.out.row (by omega)
        obtain ⟨x0, x1, x2, x3⟩ := (hr1.below hB.out).cells hlt
        obtain ⟨y0, y1, y2, y3⟩ := (hr2.below hB.out).cells hlt'
        have lx := (hr1.below hB.out).lt
        have ly := (hr2.below hB.out).lt
        have HC := Lib.hid (fun (W : World) (hb : Below w.heap.size w W) => sameQ_any (ls.getD i noP) (ms.getD i noP) W (HF.out _ (getD_memR hlt)) ((H1.out.1 _ (getD_memR hlt)).keep (KeepT.of_below hb)) ((H2.out.1 _ (getD_memR hlt')).keep (KeepT.of_below hb)))
        have hz : cmpR (ls.getD i noP) (ms.getD i noP) = 0 ↔ prOf (ls.getD i noP) = prOf (ms.getD i noP) := (cmpR_zero _ _).trans ⟨fun e => Prod.ext e.1 e.2, fun e => ⟨congrArg Prod.fst e, congrArg Prod.snd e⟩⟩
        have HX := Lib.hid (show ∃ x, ls.getD i noP = x from ⟨_, rfl⟩)
        have HZ := Lib.hid hz
        have hltI : (i : Int) < (ls.length : Int) := by omega
        have hltI2 : (i : Int) < (ms.length : Int) := by omega
        have lx1 : g1 < wr.heap.size + 1 := by omega
        have ly1 : g2 < wr.heap.size + 1 := by omega
        have HBn := Lib.hid (fun (o1 o2 : Obj) => (hB.out.alloc hB.out.size o1).alloc (by simp; have := hB.out.size; omega) o2)
        clear hr1 hr2 hz HX
        obtain ⟨x, hx⟩ : ∃ x, ls.getD i noP = x := ⟨_, rfl⟩
        obtain ⟨y, hy⟩ : ∃ y, ms.getD i noP = y := ⟨_, rfl⟩
        have HXe := Lib.hid hx; have HYe := Lib.hid hy
        rw [hx] at x0 x1 x2 x3 HC HZ
        rw [hy] at y0 y1 y2 y3 HC HZ
        clear hx hy
        simp only [pairV] at HC
        by_cases hq : cmpR x y = 0
        · have hqB : (cmpR x y == 0) = true := by rw [hq]; rfl
          have HQ := Lib.hid (HZ.out.1 hq)
          rw [hqB] at HC
          clear hq hqB HZ
          go_wp2_with (go_at_fn 46; fail)
          refine (HC.out _ (HBn.out _ _)).mono ?_
          rintro e w5 ⟨rfl, hb5⟩
          have HB5 := Lib.hid ((HBn.out _ _).trans (hb5.mono (by simp; have := hB.out.size; omega)))
          clear hb5 HC HBn
          go_wp2_with fail
          go_roundw
          case rel => exact ⟨i + 1, by omega, by go_num, HB5, Lib.hid fun j hj => by
            by_cases e : j = i
            · subst e; rw [HXe.out, HYe.out]; exact HQ.out
            · exact hS.out j (by omega)⟩
          case measure => simp [intOf]; omega
        · have hqB : (cmpR x y == 0) = false := by simpa using hq
          have e : res = false := by
            rw [← HRes.out]
            refine eqB_false fun e => hq (HZ.out.2 ?_)
            have := congrArg (fun l : List Pr => l[i]?) e
            simp only [List.getElem?_map] at this
            rw [← HXe.out, ← HYe.out]
            simpa [List.getD, hlt, hlt'] using this
          subst e
          rw [hqB] at HC
          clear hq hqB HZ HRes
          go_wp2_with (go_at_fn 46; fail)
          refine (HC.out _ (HBn.out _ _)).mono ?_
          rintro e w5 ⟨rfl, hb5⟩
          have HB5 := Lib.hid ((HBn.out _ _).trans (hb5.mono (by simp; have := hB.out.size; omega)))
          clear hb5 HC HBn
          go_wp2_with fail
          go_ret
          exact ⟨rfl, HB5.out⟩
      · obtain rfl : i = ls.length := by omega
        have e : res = true := by
          rw [← HRes.out]
          refine eqB_true (List.ext_getElem (by simp [HL.out]) fun j h1 h2 => ?_)
          have h1' : j < ls.length := by simpa using h1
          have h2' : j < ms.length := by simpa using h2
          have := hS.out j h1'
          simpa [List.getD, h1', h2'] using this
        subst e
        clear HRes H1 H2 HF
        go_wp2_with fail
        go_ret
        exact ⟨rfl, hB.out⟩
  · have hm : ((ls.length : Int) != (ms.length : Int)) = true := by simp; omega
    rw [eqB_false (fun e => hlen (by have := congrArg List.length e; simpa using this))]
    clear h h' H
    go_enter Tryz.func51, Tryz.ntmps51
    go_wp2
    go_ret
    exact ⟨rfl, Below.refl _ _⟩
end Go.Proofs.YtdidgddcgjpokaaGreatDoor
/- scheme: its last statement, a region of 13 operations that draws its order, by an invariant. (Made by a program.) -/
namespace Go.Proofs.YtdidgddcgjpokaaGreatDoor
open Go.RowKit Go.Sort Go.Lib
attribute [local go_sem] Oper.semAt_some

noncomputable def gcnOps : Array Oper := regionIn 2 (Tryz.f12.body.getD .skip)
def gcnFr (b : Nat → Value) (d : List Deferred) (x : Nat → Value) : Act := { tmps := #[b 0, b 1, b 2, x 11, x 12, b 5, b 6, b 7, b 8, x 8, x 0, x 1, x 2, x 3, x 4, x 5, x 6, x 7, x 9, x 10, b 20, b 21, b 22, b 23, b 24, b 25, b 26, b 27, b 28, b 29, b 30, b 31], defers := d }

def gcnVals (b1 : Nat) (xa ca ta : Option Addr) (xc cc tc : Nat) (xs L : List ByteArray) (lc : List Pr) (t : T) (i : Nat) (v : Value) (V : World) : Prop :=
  match i with
  | 0 => v = .pointer (some ⟨b1, 1, none⟩)
  | 1 => v = .slice ca lc.length cc
  | 2 => v = .pointer (some ⟨b1, 2, none⟩)
  | 3 => v = .agg #[.int .i64 (t).kind, .string (t).name, .slice ta (t).kids.length tc]
  | 4 => ∃ za zc, v = .slice za L.length zc ∧ TextsAt V (.slice za L.length zc) L
  | 5 => v = .pointer (some ⟨b1, 0, none⟩)
  | 6 => v = .slice xa xs.length xc
  | 7 => ∃ zi zp zo zq, v = .tuple #[.slice zi (L.filter (inB xs)).length zp, .slice zo (L.filter fun n => !inB xs n).length zq] ∧ (TextsAt V (.slice zi (L.filter (inB xs)).length zp) (L.filter (inB xs)) ∧ TextsAt V (.slice zo (L.filter fun n => !inB xs n).length zq) (L.filter fun n => !inB xs n))
  | 8 => ∃ zi zp zo zq, v = .tuple #[.slice zi (L.filter (inB xs)).length zp, .slice zo (L.filter fun n => !inB xs n).length zq] ∧ (TextsAt V (.slice zi (L.filter (inB xs)).length zp) (L.filter (inB xs)) ∧ TextsAt V (.slice zo (L.filter fun n => !inB xs n).length zq) (L.filter fun n => !inB xs n))
  | 9 => ∃ zi zp, v = .slice zi (L.filter (inB xs)).length zp ∧ TextsAt V (.slice zi (L.filter (inB xs)).length zp) (L.filter (inB xs))
  | 10 => ∃ zo zq, v = .slice zo (L.filter fun n => !inB xs n).length zq ∧ TextsAt V (.slice zo (L.filter fun n => !inB xs n).length zq) (L.filter fun n => !inB xs n)
  | 11 => ∃ zi zp, v = .slice zi (L.filter (inB xs)).length zp ∧ TextsAt V (.slice zi (L.filter (inB xs)).length zp) (L.filter (inB xs))
  | 12 => ∃ zo zq, v = .slice zo (L.filter fun n => !inB xs n).length zq ∧ TextsAt V (.slice zo (L.filter fun n => !inB xs n).length zq) (L.filter fun n => !inB xs n)
  | _ => True

theorem gcnVals_keep {b1 : Nat} {xa ca ta : Option Addr} {xc cc tc : Nat} {xs L : List ByteArray} {lc : List Pr} {t : T} (i : Nat) (v : Value) (V Y : World) (h : gcnVals b1 xa ca ta xc cc tc xs L lc t i v V) (hb : Below V.heap.size V Y) : gcnVals b1 xa ca ta xc cc tc xs L lc t i v Y := by
  unfold gcnVals at *
  split at h <;> first
    | exact h
    | (obtain ⟨za, zc, e, h⟩ := h; exact ⟨za, zc, e, h.below hb⟩)
    | (obtain ⟨zi, zp, zo, zq, e, h⟩ := h; exact ⟨zi, zp, zo, zq, e, ⟨h.1.below hb, h.2.below hb⟩⟩)
    | (obtain ⟨zi, zp, e, h⟩ := h; exact ⟨zi, zp, e, h.below hb⟩)
    | (obtain ⟨zo, zq, e, h⟩ := h; exact ⟨zo, zq, e, h.below hb⟩)

theorem gcn_size : gcnOps.size = 13 := by kernel_rfl
set_option linter.unusedSimpArgs false in
set_option maxRecDepth 100000 in
set_option maxHeartbeats 8000000 in
theorem gcn_region {w : World} {b1 : Nat} {xa ca ta : Option Addr} {xc cc tc : Nat} {xs L : List ByteArray} {lc : List Pr} {t : T} {b : Nat → Value} {d : List Deferred}
    (h1 : b 1 = .pointer (some ⟨b1, 0, none⟩))
    (HC4 : ∀ V, SFg w b1 xa xc xs ca cc lc t ta tc V → Calls Tryz.prog 38 #[.slice ca lc.length cc, .agg #[.int .i64 (t).kind, .string (t).name, .slice ta (t).kids.length tc]] V fun e Y => (∃ za zc, e = .returned (.slice za L.length zc) ∧ TextsAt Y (.slice za L.length zc) L) ∧ Below V.heap.size V Y)
    (HC7 : ∀ V, SFg w b1 xa xc xs ca cc lc t ta tc V → ∀ za4, ∀ zc4, TextsAt V (.slice za4 L.length zc4) L → Calls Tryz.prog 37 #[.slice za4 L.length zc4, .slice xa xs.length xc] V fun e Y => (∃ zi zp zo zq, e = .returned (.tuple #[.slice zi (L.filter (inB xs)).length zp, .slice zo (L.filter fun n => !inB xs n).length zq]) ∧ (TextsAt Y (.slice zi (L.filter (inB xs)).length zp) (L.filter (inB xs)) ∧ TextsAt Y (.slice zo (L.filter fun n => !inB xs n).length zq) (L.filter fun n => !inB xs n))) ∧ Below V.heap.size V Y)
    {Q : Exit → Act → World → Prop} {ops : Array Oper} (hops : ops = gcnOps) (x0 : Nat → Value) (X : World) (hS : SFg w b1 xa xc xs ca cc lc t ta tc X.drew)
    (hfin : ∀ (x : Nat → Value) V zi zp zo zq, SFg w b1 xa xc xs ca cc lc t ta tc V → x 11 = .slice zi (L.filter (inB xs)).length zp → x 12 = .slice zo (L.filter fun n => !inB xs n).length zq → TextsAt V (.slice zi (L.filter (inB xs)).length zp) (L.filter (inB xs)) → TextsAt V (.slice zo (L.filter fun n => !inB xs n).length zq) (L.filter fun n => !inB xs n) → Q .normal (gcnFr b d x) V) : (Code.region 2 ops true).wp Tryz.prog Q (gcnFr b d x0) X := by
  have HC := Lib.hid (And.intro HC4 HC7)
  clear HC4 HC7
  refine region_inv (gcnFr b d) (fun V => SFg w b1 xa xc xs ca cc lc t ta tc V) (fun V Y => Below V.heap.size V Y) (gcnVals b1 xa ca ta xc cc tc xs L lc t) x0 (by kernel_rfl) rfl hS (fun V Y h hb => h.below hb) (fun i v V Y _ h hb => gcnVals_keep i v V Y h hb) ?_ (fun x V hV h => by obtain ⟨zi, zp, e1, k1⟩ := h 11 (by rw [hops, gcn_size]; decide); obtain ⟨zo, zq, e2, k2⟩ := h 12 (by rw [hops, gcn_size]; decide); exact hfin x V zi zp zo zq hV e1 e2 k1 k2)
  clear hfin hS
  obtain ⟨f, hf⟩ : ∃ qq, StepAt Tryz.prog (gcnFr b d) (fun V => SFg w b1 xa xc xs ca cc lc t ta tc V) (fun V Y => Below V.heap.size V Y) (gcnVals b1 xa ca ta xc cc tc xs L lc t) ops Q = qq := ⟨_, rfl⟩
  rw [hf, hops]
  simp only [gcnOps, Tryz.f12, regionIn, Option.getD_some, Nat.reduceBEq, Bool.false_eq_true, if_false, if_true, beq_self_eq_true, Array.append_empty, Array.empty_append, List.append_eq, List.cons_append, List.nil_append, AllAt, Nat.reduceAdd, Nat.zero_add]
  -- 0: slot 10 := Op.fieldAddr 33 t1 1
  refine And.intro ?_ ?_
  · rw [← hf]; clear hf
    refine ⟨by decide +kernel, fun x v => by kernel_rfl, fun x V hV hdep K hK => ?_⟩
    clear hdep
    refine run_bare (by kernel_rfl) ?_
    unfold gcnFr
    go_simp
    refine kfit (hK _ _ (Below.refl _ V) rfl) ?_
    first | (simp only [gcnFr, Act.put, List.setIfInBounds_toArray, List.set_cons_zero, List.set_cons_succ, h1]; done) | (simp only [gcnFr, Act.put, List.setIfInBounds_toArray, List.set_cons_zero, List.set_cons_succ, h1]; rfl)
  -- 1: slot 11 := Op.load 28 t10
  refine And.intro ?_ ?_
  · rw [← hf]; clear hf
    refine ⟨by decide +kernel, fun x v => by kernel_rfl, fun x V hV hdep K hK => ?_⟩
    have e0 : x 0 = .pointer (some ⟨b1, 1, none⟩) := depOf hdep 0 (by decide +kernel)
    clear hdep
    refine run_bare (by kernel_rfl) ?_
    unfold gcnFr
    obtain ⟨y0, y1, y2, y3, y4⟩ := cells5 hV.1.1
    go_simp
    refine kfit (hK _ _ (Below.refl _ V) rfl) ?_
    first | (simp only [gcnFr, Act.put, List.setIfInBounds_toArray, List.set_cons_zero, List.set_cons_succ, h1, e0]; done) | (simp only [gcnFr, Act.put, List.setIfInBounds_toArray, List.set_cons_zero, List.set_cons_succ, h1, e0]; rfl)
  -- 2: slot 12 := Op.fieldAddr 33 t1 2
  refine And.intro ?_ ?_
  · rw [← hf]; clear hf
    refine ⟨by decide +kernel, fun x v => by kernel_rfl, fun x V hV hdep K hK => ?_⟩
    clear hdep
    refine run_bare (by kernel_rfl) ?_
    unfold gcnFr
    go_simp
    refine kfit (hK _ _ (Below.refl _ V) rfl) ?_
    first | (simp only [gcnFr, Act.put, List.setIfInBounds_toArray, List.set_cons_zero, List.set_cons_succ, h1]; done) | (simp only [gcnFr, Act.put, List.setIfInBounds_toArray, List.set_cons_zero, List.set_cons_succ, h1]; rfl)
  -- 3: slot 13 := Op.load 31 t12
  refine And.intro ?_ ?_
  · rw [← hf]; clear hf
    refine ⟨by decide +kernel, fun x v => by kernel_rfl, fun x V hV hdep K hK => ?_⟩
    have e2 : x 2 = .pointer (some ⟨b1, 2, none⟩) := depOf hdep 2 (by decide +kernel)
    clear hdep
    refine run_bare (by kernel_rfl) ?_
    unfold gcnFr
    obtain ⟨y0, y1, y2, y3, y4⟩ := cells5 hV.1.1
    go_simp
    refine kfit (hK _ _ (Below.refl _ V) rfl) ?_
    first | (simp only [gcnFr, Act.put, List.setIfInBounds_toArray, List.set_cons_zero, List.set_cons_succ, h1, e2]; done) | (simp only [gcnFr, Act.put, List.setIfInBounds_toArray, List.set_cons_zero, List.set_cons_succ, h1, e2]; rfl)
  -- 4: slot 14 := Op.call { value (Operand.func 38), args := #[t11, t13], argT
  refine And.intro ?_ ?_
  · rw [← hf]; clear hf
    refine ⟨by decide +kernel, fun x v => by kernel_rfl, fun x V hV hdep K hK => ?_⟩
    have e1 : x 1 = .slice ca lc.length cc := depOf hdep 1 (by decide +kernel)
    have e3 : x 3 = .agg #[.int .i64 (t).kind, .string (t).name, .slice ta (t).kids.length tc] := depOf hdep 3 (by decide +kernel)
    clear hdep
    refine run_bare (by kernel_rfl) ?_
    unfold gcnFr
    obtain ⟨HC4, HC7⟩ := HC.out
    clear HC7
    have H := HC4 V hV
    replace H := Lib.hid H; clear HC4
    go_simp
    go_at_call 38
    refine H.out.mono ?_
    rintro e Y ⟨⟨za, zc, rfl, hq⟩, hb⟩; refine kfit (hK _ _ hb ⟨za, zc, rfl, hq⟩) ?_
    first | (simp only [gcnFr, Act.put, List.setIfInBounds_toArray, List.set_cons_zero, List.set_cons_succ, h1, e1, e3]; done) | (simp only [gcnFr, Act.put, List.setIfInBounds_toArray, List.set_cons_zero, List.set_cons_succ, h1, e1, e3]; rfl)
  -- 5: slot 15 := Op.fieldAddr 33 t1 0
  refine And.intro ?_ ?_
  · rw [← hf]; clear hf
    refine ⟨by decide +kernel, fun x v => by kernel_rfl, fun x V hV hdep K hK => ?_⟩
    clear hdep
    refine run_bare (by kernel_rfl) ?_
    unfold gcnFr
    go_simp
    refine kfit (hK _ _ (Below.refl _ V) rfl) ?_
    first | (simp only [gcnFr, Act.put, List.setIfInBounds_toArray, List.set_cons_zero, List.set_cons_succ, h1]; done) | (simp only [gcnFr, Act.put, List.setIfInBounds_toArray, List.set_cons_zero, List.set_cons_succ, h1]; rfl)
  -- 6: slot 16 := Op.load 23 t15
  refine And.intro ?_ ?_
  · rw [← hf]; clear hf
    refine ⟨by decide +kernel, fun x v => by kernel_rfl, fun x V hV hdep K hK => ?_⟩
    have e5 : x 5 = .pointer (some ⟨b1, 0, none⟩) := depOf hdep 5 (by decide +kernel)
    clear hdep
    refine run_bare (by kernel_rfl) ?_
    unfold gcnFr
    obtain ⟨y0, y1, y2, y3, y4⟩ := cells5 hV.1.1
    go_simp
    refine kfit (hK _ _ (Below.refl _ V) rfl) ?_
    first | (simp only [gcnFr, Act.put, List.setIfInBounds_toArray, List.set_cons_zero, List.set_cons_succ, h1, e5]; done) | (simp only [gcnFr, Act.put, List.setIfInBounds_toArray, List.set_cons_zero, List.set_cons_succ, h1, e5]; rfl)
  -- 7: slot 17 := Op.call { value (Operand.func 37), args := #[t14, t16], argT
  refine And.intro ?_ ?_
  · rw [← hf]; clear hf
    refine ⟨by decide +kernel, fun x v => by kernel_rfl, fun x V hV hdep K hK => ?_⟩
    obtain ⟨za4, zc4, e4, d4⟩ : ∃ za4 zc4, x 4 = .slice za4 L.length zc4 ∧ TextsAt V (.slice za4 L.length zc4) L := depOf hdep 4 (by decide +kernel)
    have e6 : x 6 = .slice xa xs.length xc := depOf hdep 6 (by decide +kernel)
    clear hdep
    refine run_bare (by kernel_rfl) ?_
    unfold gcnFr
    obtain ⟨HC4, HC7⟩ := HC.out
    clear HC4
    have H := HC7 V hV _ _ d4
    replace H := Lib.hid H; clear HC7
    go_simp
    go_at_call 37
    refine H.out.mono ?_
    rintro e Y ⟨⟨zi, zp, zo, zq, rfl, hq⟩, hb⟩; refine kfit (hK _ _ hb ⟨zi, zp, zo, zq, rfl, hq⟩) ?_
    first | (simp only [gcnFr, Act.put, List.setIfInBounds_toArray, List.set_cons_zero, List.set_cons_succ, h1, e4, e6]; done) | (simp only [gcnFr, Act.put, List.setIfInBounds_toArray, List.set_cons_zero, List.set_cons_succ, h1, e4, e6]; rfl)
  -- 8: slot 9 := Op.move t17
  refine And.intro ?_ ?_
  · rw [← hf]; clear hf
    refine ⟨by decide +kernel, fun x v => by kernel_rfl, fun x V hV hdep K hK => ?_⟩
    obtain ⟨zi7, zp7, zo7, zq7, e7, d7⟩ : ∃ zi7 zp7 zo7 zq7, x 7 = .tuple #[.slice zi7 (L.filter (inB xs)).length zp7, .slice zo7 (L.filter fun n => !inB xs n).length zq7] ∧ (TextsAt V (.slice zi7 (L.filter (inB xs)).length zp7) (L.filter (inB xs)) ∧ TextsAt V (.slice zo7 (L.filter fun n => !inB xs n).length zq7) (L.filter fun n => !inB xs n)) := depOf hdep 7 (by decide +kernel)
    clear hdep
    refine run_bare (by kernel_rfl) ?_
    unfold gcnFr
    go_simp
    refine kfit (hK _ _ (Below.refl _ V) ⟨_, _, _, _, rfl, d7⟩) ?_
    first | (simp only [gcnFr, Act.put, List.setIfInBounds_toArray, List.set_cons_zero, List.set_cons_succ, h1, e7]; done) | (simp only [gcnFr, Act.put, List.setIfInBounds_toArray, List.set_cons_zero, List.set_cons_succ, h1, e7]; rfl)
  -- 9: slot 18 := Op.extract t9 0
  refine And.intro ?_ ?_
  · rw [← hf]; clear hf
    refine ⟨by decide +kernel, fun x v => by kernel_rfl, fun x V hV hdep K hK => ?_⟩
    obtain ⟨zi8, zp8, zo8, zq8, e8, d8⟩ : ∃ zi8 zp8 zo8 zq8, x 8 = .tuple #[.slice zi8 (L.filter (inB xs)).length zp8, .slice zo8 (L.filter fun n => !inB xs n).length zq8] ∧ (TextsAt V (.slice zi8 (L.filter (inB xs)).length zp8) (L.filter (inB xs)) ∧ TextsAt V (.slice zo8 (L.filter fun n => !inB xs n).length zq8) (L.filter fun n => !inB xs n)) := depOf hdep 8 (by decide +kernel)
    clear hdep
    refine run_bare (by kernel_rfl) ?_
    unfold gcnFr
    go_simp
    refine kfit (hK _ _ (Below.refl _ V) ⟨_, _, rfl, d8.1⟩) ?_
    first | (simp only [gcnFr, Act.put, List.setIfInBounds_toArray, List.set_cons_zero, List.set_cons_succ, h1, e8]; done) | (simp only [gcnFr, Act.put, List.setIfInBounds_toArray, List.set_cons_zero, List.set_cons_succ, h1, e8]; rfl)
  -- 10: slot 19 := Op.extract t9 1
  refine And.intro ?_ ?_
  · rw [← hf]; clear hf
    refine ⟨by decide +kernel, fun x v => by kernel_rfl, fun x V hV hdep K hK => ?_⟩
    obtain ⟨zi8, zp8, zo8, zq8, e8, d8⟩ : ∃ zi8 zp8 zo8 zq8, x 8 = .tuple #[.slice zi8 (L.filter (inB xs)).length zp8, .slice zo8 (L.filter fun n => !inB xs n).length zq8] ∧ (TextsAt V (.slice zi8 (L.filter (inB xs)).length zp8) (L.filter (inB xs)) ∧ TextsAt V (.slice zo8 (L.filter fun n => !inB xs n).length zq8) (L.filter fun n => !inB xs n)) := depOf hdep 8 (by decide +kernel)
    clear hdep
    refine run_bare (by kernel_rfl) ?_
    unfold gcnFr
    go_simp
    refine kfit (hK _ _ (Below.refl _ V) ⟨_, _, rfl, d8.2⟩) ?_
    first | (simp only [gcnFr, Act.put, List.setIfInBounds_toArray, List.set_cons_zero, List.set_cons_succ, h1, e8]; done) | (simp only [gcnFr, Act.put, List.setIfInBounds_toArray, List.set_cons_zero, List.set_cons_succ, h1, e8]; rfl)
  -- 11: slot 3 := Op.assign t18
  refine And.intro ?_ ?_
  · rw [← hf]; clear hf
    refine ⟨by decide +kernel, fun x v => by kernel_rfl, fun x V hV hdep K hK => ?_⟩
    obtain ⟨zi9, zp9, e9, d9⟩ : ∃ zi9 zp9, x 9 = .slice zi9 (L.filter (inB xs)).length zp9 ∧ TextsAt V (.slice zi9 (L.filter (inB xs)).length zp9) (L.filter (inB xs)) := depOf hdep 9 (by decide +kernel)
    clear hdep
    refine run_bare (by kernel_rfl) ?_
    unfold gcnFr
    go_simp
    refine kfit (hK _ _ (Below.refl _ V) ⟨_, _, rfl, d9⟩) ?_
    first | (simp only [gcnFr, Act.put, List.setIfInBounds_toArray, List.set_cons_zero, List.set_cons_succ, h1, e9]; done) | (simp only [gcnFr, Act.put, List.setIfInBounds_toArray, List.set_cons_zero, List.set_cons_succ, h1, e9]; rfl)
  -- 12: slot 4 := Op.assign t19
  refine And.intro ?_ ?_
  · rw [← hf]; clear hf
    refine ⟨by decide +kernel, fun x v => by kernel_rfl, fun x V hV hdep K hK => ?_⟩
    obtain ⟨zo10, zq10, e10, d10⟩ : ∃ zo10 zq10, x 10 = .slice zo10 (L.filter fun n => !inB xs n).length zq10 ∧ TextsAt V (.slice zo10 (L.filter fun n => !inB xs n).length zq10) (L.filter fun n => !inB xs n) := depOf hdep 10 (by decide +kernel)
    clear hdep
    refine run_bare (by kernel_rfl) ?_
    unfold gcnFr
    go_simp
    refine kfit (hK _ _ (Below.refl _ V) ⟨_, _, rfl, d10⟩) ?_
    first | (simp only [gcnFr, Act.put, List.setIfInBounds_toArray, List.set_cons_zero, List.set_cons_succ, h1, e10]; done) | (simp only [gcnFr, Act.put, List.setIfInBounds_toArray, List.set_cons_zero, List.set_cons_succ, h1, e10]; rfl)
  exact trivial
theorem gcn_here {w : World} {b1 : Nat} {xa ca ta : Option Addr} {xc cc tc : Nat} {xs L : List ByteArray} {lc : List Pr} {t : T}
    (HC4 : ∀ V, SFg w b1 xa xc xs ca cc lc t ta tc V → Calls Tryz.prog 38 #[.slice ca lc.length cc, .agg #[.int .i64 (t).kind, .string (t).name, .slice ta (t).kids.length tc]] V fun e Y => (∃ za zc, e = .returned (.slice za L.length zc) ∧ TextsAt Y (.slice za L.length zc) L) ∧ Below V.heap.size V Y)
    (HC7 : ∀ V, SFg w b1 xa xc xs ca cc lc t ta tc V → ∀ za4, ∀ zc4, TextsAt V (.slice za4 L.length zc4) L → Calls Tryz.prog 37 #[.slice za4 L.length zc4, .slice xa xs.length xc] V fun e Y => (∃ zi zp zo zq, e = .returned (.tuple #[.slice zi (L.filter (inB xs)).length zp, .slice zo (L.filter fun n => !inB xs n).length zq]) ∧ (TextsAt Y (.slice zi (L.filter (inB xs)).length zp) (L.filter (inB xs)) ∧ TextsAt Y (.slice zo (L.filter fun n => !inB xs n).length zq) (L.filter fun n => !inB xs n))) ∧ Below V.heap.size V Y)
    {Q : Exit → Act → World → Prop} {ops : Array Oper} {a : Act} (X : World) (hops : ops = gcnOps)
    (h1 : a.tmps.getD 1 undef = .pointer (some ⟨b1, 0, none⟩))
    (ha : a = gcnFr (fun j => a.tmps.getD j undef) a.defers (fun i => a.tmps.getD (if i = 8 then 9 else if i = 11 then 3 else if i = 12 then 4 else if i < 8 then 10 + i else 9 + i) undef)) (hS : SFg w b1 xa xc xs ca cc lc t ta tc X.drew)
    (hfin : ∀ (x : Nat → Value) V zi zp zo zq, SFg w b1 xa xc xs ca cc lc t ta tc V → x 11 = .slice zi (L.filter (inB xs)).length zp → x 12 = .slice zo (L.filter fun n => !inB xs n).length zq → TextsAt V (.slice zi (L.filter (inB xs)).length zp) (L.filter (inB xs)) → TextsAt V (.slice zo (L.filter fun n => !inB xs n).length zq) (L.filter fun n => !inB xs n) → Q .normal (gcnFr (fun j => a.tmps.getD j undef) a.defers x) V) : (Code.region 2 ops true).wp Tryz.prog Q a X :=
  cast (congrArg (fun z => (Code.region 2 ops true).wp Tryz.prog Q z X) ha.symm) (gcn_region (b := fun j => a.tmps.getD j undef) (d := a.defers) h1 HC4 HC7 hops _ X hS hfin)
end Go.Proofs.YtdidgddcgjpokaaGreatDoor
/- scheme: its last statement, a region of 8 operations that draws its order, by an invariant. (Made by a program.) -/
namespace Go.Proofs.YtdidgddcgjpokaaGreatDoor
open Go.RowKit Go.Sort Go.Lib
attribute [local go_sem] Oper.semAt_some

noncomputable def gchOps : Array Oper := regionIn 3 (Tryz.f12.body.getD .skip)
def gchFr (b : Nat → Value) (d : List Deferred) (x : Nat → Value) : Act := { tmps := #[b 0, b 1, b 2, b 3, b 4, b 5, b 6, b 7, b 8, b 9, b 10, b 11, b 12, b 13, b 14, b 15, b 16, b 17, b 18, b 19, x 0, x 1, x 2, x 3, x 4, x 5, x 6, b 27, b 28, b 29, b 30, b 31], defers := d }

def gchVals (xa ca ta ba oa : Option Addr) (xn xc cc tc bc oc : Nat) (bs os : List ByteArray) (lc : List Pr) (t : T) (i : Nat) (v : Value) (V : World) : Prop :=
  match i with
  | 0 => v = .agg #[.slice xa xn xc, .slice ca lc.length cc, .int .i64 t.kind, .string t.name, .slice ta t.kids.length tc]
  | 1 => v = .slice ba bs.length bc
  | 2 => v = .slice ba bs.length bc
  | 3 => v = .int .i64 (bs.length : Int)
  | 4 => v = .slice oa os.length oc
  | 5 => ∃ (zn : List ByteArray) (za : Option Addr) (zc : Nat), v = .slice za zn.length zc ∧ (TextsAt V (.slice za zn.length zc) zn ∧ NewX bs.length os zn)
  | 6 => ∃ (zn : List ByteArray) (za : Option Addr) (zc : Nat) (zp : Option Addr) (zq : Nat) (zt : Option Addr) (zu : Nat), v = .agg #[.slice za zn.length zc, .slice zp lc.length zq, .int .i64 (app (prs bs zn) t).kind, .string (app (prs bs zn) t).name, .slice zt (app (prs bs zn) t).kids.length zu] ∧ ((TextsAt V (.slice za zn.length zc) zn ∧ NewX bs.length os zn) ∧ PrsAt V (.slice zp lc.length zq) (appP (prs bs zn) lc) ∧ TysAt V (.slice zt (app (prs bs zn) t).kids.length zu) (app (prs bs zn) t).kids)
  | _ => True

theorem gchVals_keep {xa ca ta ba oa : Option Addr} {xn xc cc tc bc oc : Nat} {bs os : List ByteArray} {lc : List Pr} {t : T} (i : Nat) (v : Value) (V Y : World) (h : gchVals xa ca ta ba oa xn xc cc tc bc oc bs os lc t i v V) (hb : Below V.heap.size V Y) : gchVals xa ca ta ba oa xn xc cc tc bc oc bs os lc t i v Y := by
  unfold gchVals at *
  split at h <;> first
    | exact h
    | (obtain ⟨zn, za, zc, e, h⟩ := h; exact ⟨zn, za, zc, e, ⟨h.1.below hb, h.2⟩⟩)
    | (obtain ⟨zn, za, zc, zp, zq, zt, zu, e, h⟩ := h; exact ⟨zn, za, zc, zp, zq, zt, zu, e, ⟨⟨h.1.1.below hb, h.1.2⟩, h.2.1.belowG hb, h.2.2.keep (KeepT.of_below hb)⟩⟩)

theorem gch_size : gchOps.size = 8 := by kernel_rfl
theorem gch_cov : covered gchOps 7 = true := by kernel_rfl
set_option linter.unusedSimpArgs false in
set_option maxRecDepth 100000 in
set_option maxHeartbeats 8000000 in
theorem gch_region {w : World} {b1 b2 : Nat} {xa ca ta ba oa : Option Addr} {xn xc cc tc bc oc : Nat} {bs os : List ByteArray} {lc : List Pr} {t : T} {b : Nat → Value} {d : List Deferred}
    (h1 : b 1 = .pointer (some ⟨b1, 0, none⟩)) (h3 : b 3 = .slice ba bs.length bc) (h4 : b 4 = .slice oa os.length oc)
    (HC5 : ∀ V, SNg w b1 b2 xa xn xc ca cc lc t ta tc ba bc oa oc bs os V → Calls Tryz.prog 39 #[.int .i64 (bs.length : Int), .slice oa os.length oc] V fun e Y => (∃ (zn : List ByteArray) (za : Option Addr) (zc : Nat), e = .returned (.slice za zn.length zc) ∧ (TextsAt Y (.slice za zn.length zc) zn ∧ NewX bs.length os zn)) ∧ Below V.heap.size V Y)
    (HC6 : ∀ V, SNg w b1 b2 xa xn xc ca cc lc t ta tc ba bc oa oc bs os V → ∀ (zn5 : List ByteArray), ∀ za5, ∀ zc5, (TextsAt V (.slice za5 zn5.length zc5) zn5 ∧ NewX bs.length os zn5) → Calls Tryz.prog 33 #[.agg #[.slice xa xn xc, .slice ca lc.length cc, .int .i64 t.kind, .string t.name, .slice ta t.kids.length tc], .slice ba bs.length bc, .slice za5 zn5.length zc5] V fun e Y => (∃ (zn : List ByteArray) (za : Option Addr) (zc : Nat) (zp : Option Addr) (zq : Nat) (zt : Option Addr) (zu : Nat), e = .returned (.agg #[.slice za zn.length zc, .slice zp lc.length zq, .int .i64 (app (prs bs zn) t).kind, .string (app (prs bs zn) t).name, .slice zt (app (prs bs zn) t).kids.length zu]) ∧ ((TextsAt Y (.slice za zn.length zc) zn ∧ NewX bs.length os zn) ∧ PrsAt Y (.slice zp lc.length zq) (appP (prs bs zn) lc) ∧ TysAt Y (.slice zt (app (prs bs zn) t).kids.length zu) (app (prs bs zn) t).kids)) ∧ Below V.heap.size V Y)
    {Q : Exit → Act → World → Prop} {ops : Array Oper} (hops : ops = gchOps) (x0 : Nat → Value) (X : World) (hS : SNg w b1 b2 xa xn xc ca cc lc t ta tc ba bc oa oc bs os X.drew)
    (hfin : ∀ (x : Nat → Value) V (zn : List ByteArray) za zc zp zq zt zu, SNg w b1 b2 xa xn xc ca cc lc t ta tc ba bc oa oc bs os V → ((TextsAt V (.slice za zn.length zc) zn ∧ NewX bs.length os zn) ∧ PrsAt V (.slice zp lc.length zq) (appP (prs bs zn) lc) ∧ TysAt V (.slice zt (app (prs bs zn) t).kids.length zu) (app (prs bs zn) t).kids) → Q .normal (gchFr b d x) (set5 V b1 (.slice za zn.length zc) (.slice zp lc.length zq) (.int .i64 (app (prs bs zn) t).kind) (.string (app (prs bs zn) t).name) (.slice zt (app (prs bs zn) t).kids.length zu))) : (Code.region 3 ops true).wp Tryz.prog Q (gchFr b d x0) X := by
  have HC := Lib.hid (And.intro HC5 HC6)
  clear HC5 HC6
  have hszo : ops.size = 7 + 1 := by rw [hops]; exact gch_size
  have hcovo : covered ops 7 = true := by rw [hops]; exact gch_cov
  refine region_last (gchFr b d) (fun V => SNg w b1 b2 xa xn xc ca cc lc t ta tc ba bc oa oc bs os V) (fun V Y => Below V.heap.size V Y) (gchVals xa ca ta ba oa xn xc cc tc bc oc bs os lc t) x0 7 (by kernel_rfl) rfl hS hszo hcovo (fun V Y h hb => h.below hb) (fun i v V Y _ h hb => gchVals_keep i v V Y h hb) ?_
  have HFIN := Lib.hid hfin
  clear hfin hS hszo hcovo
  obtain ⟨gl, hgl⟩ : ∃ qq, LastAt Tryz.prog (gchFr b d) (fun V => SNg w b1 b2 xa xn xc ca cc lc t ta tc ba bc oa oc bs os V) (gchVals xa ca ta ba oa xn xc cc tc bc oc bs os lc t) ops Q 7 = qq := ⟨_, rfl⟩
  rw [hgl]
  obtain ⟨f, hf⟩ : ∃ qq, StepAt Tryz.prog (gchFr b d) (fun V => SNg w b1 b2 xa xn xc ca cc lc t ta tc ba bc oa oc bs os V) (fun V Y => Below V.heap.size V Y) (gchVals xa ca ta ba oa xn xc cc tc bc oc bs os lc t) ops Q = qq := ⟨_, rfl⟩
  rw [hf, hops]
  simp only [gchOps, Tryz.f12, regionIn, Option.getD_some, Nat.reduceBEq, Bool.false_eq_true, if_false, if_true, beq_self_eq_true, Array.append_empty, Array.empty_append, List.append_eq, List.cons_append, List.nil_append, AllBut, Nat.reduceAdd, Nat.zero_add]
  -- 0: slot 20 := Op.load 33 t1
  refine And.intro ?_ ?_
  · clear HFIN hgl
    rw [← hf]; clear hf
    refine ⟨by decide +kernel, fun x v => by kernel_rfl, fun x V hV hdep K hK => ?_⟩
    clear hdep
    refine run_bare (by kernel_rfl) ?_
    unfold gchFr
    obtain ⟨y0, y1, y2, y3, y4⟩ := cells5 hV.1.1
    go_simp
    refine kfit (hK _ _ (Below.refl _ V) rfl) ?_
    first | (simp only [gchFr, Act.put, List.setIfInBounds_toArray, List.set_cons_zero, List.set_cons_succ, h1, h3, h4]; done) | (simp only [gchFr, Act.put, List.setIfInBounds_toArray, List.set_cons_zero, List.set_cons_succ, h1, h3, h4]; rfl)
  -- 1: slot 21 := Op.move t3
  refine And.intro ?_ ?_
  · clear HFIN hgl
    rw [← hf]; clear hf
    refine ⟨by decide +kernel, fun x v => by kernel_rfl, fun x V hV hdep K hK => ?_⟩
    clear hdep
    refine run_bare (by kernel_rfl) ?_
    unfold gchFr
    go_simp
    refine kfit (hK _ _ (Below.refl _ V) rfl) ?_
    first | (simp only [gchFr, Act.put, List.setIfInBounds_toArray, List.set_cons_zero, List.set_cons_succ, h1, h3, h4]; done) | (simp only [gchFr, Act.put, List.setIfInBounds_toArray, List.set_cons_zero, List.set_cons_succ, h1, h3, h4]; rfl)
  -- 2: slot 22 := Op.move t3
  refine And.intro ?_ ?_
  · clear HFIN hgl
    rw [← hf]; clear hf
    refine ⟨by decide +kernel, fun x v => by kernel_rfl, fun x V hV hdep K hK => ?_⟩
    clear hdep
    refine run_bare (by kernel_rfl) ?_
    unfold gchFr
    go_simp
    refine kfit (hK _ _ (Below.refl _ V) rfl) ?_
    first | (simp only [gchFr, Act.put, List.setIfInBounds_toArray, List.set_cons_zero, List.set_cons_succ, h1, h3, h4]; done) | (simp only [gchFr, Act.put, List.setIfInBounds_toArray, List.set_cons_zero, List.set_cons_succ, h1, h3, h4]; rfl)
  -- 3: slot 23 := Op.call { builtin len, args := #[t22], argTypes := #[23] }
  refine And.intro ?_ ?_
  · clear HFIN hgl
    rw [← hf]; clear hf
    refine ⟨by decide +kernel, fun x v => by kernel_rfl, fun x V hV hdep K hK => ?_⟩
    have e2 : x 2 = .slice ba bs.length bc := depOf hdep 2 (by decide +kernel)
    clear hdep
    refine run_bare (by kernel_rfl) ?_
    unfold gchFr
    go_simp
    refine kfit (hK _ _ (Below.refl _ V) rfl) ?_
    first | (simp only [gchFr, Act.put, List.setIfInBounds_toArray, List.set_cons_zero, List.set_cons_succ, h1, h3, h4, e2]; done) | (simp only [gchFr, Act.put, List.setIfInBounds_toArray, List.set_cons_zero, List.set_cons_succ, h1, h3, h4, e2]; rfl)
  -- 4: slot 24 := Op.move t4
  refine And.intro ?_ ?_
  · clear HFIN hgl
    rw [← hf]; clear hf
    refine ⟨by decide +kernel, fun x v => by kernel_rfl, fun x V hV hdep K hK => ?_⟩
    clear hdep
    refine run_bare (by kernel_rfl) ?_
    unfold gchFr
    go_simp
    refine kfit (hK _ _ (Below.refl _ V) rfl) ?_
    first | (simp only [gchFr, Act.put, List.setIfInBounds_toArray, List.set_cons_zero, List.set_cons_succ, h1, h3, h4]; done) | (simp only [gchFr, Act.put, List.setIfInBounds_toArray, List.set_cons_zero, List.set_cons_succ, h1, h3, h4]; rfl)
  -- 5: slot 25 := Op.call { value (Operand.func 39), args := #[t23, t24], argT
  refine And.intro ?_ ?_
  · clear HFIN hgl
    rw [← hf]; clear hf
    refine ⟨by decide +kernel, fun x v => by kernel_rfl, fun x V hV hdep K hK => ?_⟩
    have e3 : x 3 = .int .i64 (bs.length : Int) := depOf hdep 3 (by decide +kernel)
    have e4 : x 4 = .slice oa os.length oc := depOf hdep 4 (by decide +kernel)
    clear hdep
    refine run_bare (by kernel_rfl) ?_
    unfold gchFr
    obtain ⟨HC5, HC6⟩ := HC.out
    clear HC6
    have H := HC5 V hV
    replace H := Lib.hid H; clear HC5
    go_simp
    go_at_call 39
    refine H.out.mono ?_
    rintro e Y ⟨⟨zn, za, zc, rfl, hq⟩, hb⟩; refine kfit (hK _ _ hb ⟨zn, za, zc, rfl, hq⟩) ?_
    first | (simp only [gchFr, Act.put, List.setIfInBounds_toArray, List.set_cons_zero, List.set_cons_succ, h1, h3, h4, e3, e4]; done) | (simp only [gchFr, Act.put, List.setIfInBounds_toArray, List.set_cons_zero, List.set_cons_succ, h1, h3, h4, e3, e4]; rfl)
  -- 6: slot 26 := Op.call { value (Operand.func 33), args := #[t20, t21, t25],
  refine And.intro ?_ ?_
  · clear HFIN hgl
    rw [← hf]; clear hf
    refine ⟨by decide +kernel, fun x v => by kernel_rfl, fun x V hV hdep K hK => ?_⟩
    have e0 : x 0 = .agg #[.slice xa xn xc, .slice ca lc.length cc, .int .i64 t.kind, .string t.name, .slice ta t.kids.length tc] := depOf hdep 0 (by decide +kernel)
    have e1 : x 1 = .slice ba bs.length bc := depOf hdep 1 (by decide +kernel)
    obtain ⟨zn5, za5, zc5, e5, d5⟩ : ∃ (zn5 : List ByteArray) (za5 : Option Addr) (zc5 : Nat), x 5 = .slice za5 zn5.length zc5 ∧ (TextsAt V (.slice za5 zn5.length zc5) zn5 ∧ NewX bs.length os zn5) := depOf hdep 5 (by decide +kernel)
    clear hdep
    refine run_bare (by kernel_rfl) ?_
    unfold gchFr
    obtain ⟨HC5, HC6⟩ := HC.out
    clear HC5
    have H := HC6 V hV _ _ _ d5
    replace H := Lib.hid H; clear HC6
    go_simp
    go_at_call 33
    refine H.out.mono ?_
    rintro e Y ⟨⟨zn, za, zc, zp, zq, zt, zu, rfl, hq⟩, hb⟩; refine kfit (hK _ _ hb ⟨zn, za, zc, zp, zq, zt, zu, rfl, hq⟩) ?_
    first | (simp only [gchFr, Act.put, List.setIfInBounds_toArray, List.set_cons_zero, List.set_cons_succ, h1, h3, h4, e0, e1, e5]; done) | (simp only [gchFr, Act.put, List.setIfInBounds_toArray, List.set_cons_zero, List.set_cons_succ, h1, h3, h4, e0, e1, e5]; rfl)
  -- 7: slot none := Op.store 33 t1 t26
  · clear HC
    rw [← hgl]; clear hgl
    refine ⟨by decide +kernel, fun x V hV hall K hK => ?_⟩
    obtain ⟨zn, za, zc, zp, zq, zt, zu, e6, d6⟩ : ∃ (zn : List ByteArray) (za : Option Addr) (zc : Nat) (zp : Option Addr) (zq : Nat) (zt : Option Addr) (zu : Nat), x 6 = .agg #[.slice za zn.length zc, .slice zp lc.length zq, .int .i64 (app (prs bs zn) t).kind, .string (app (prs bs zn) t).name, .slice zt (app (prs bs zn) t).kids.length zu] ∧ ((TextsAt V (.slice za zn.length zc) zn ∧ NewX bs.length os zn) ∧ PrsAt V (.slice zp lc.length zq) (appP (prs bs zn) lc) ∧ TysAt V (.slice zt (app (prs bs zn) t).kids.length zu) (app (prs bs zn) t).kids) := hall 6 (by decide)
    clear hall
    refine run_bare (by kernel_rfl) ?_
    unfold gchFr
    obtain ⟨v0, v1, v2, v3, v4⟩ := cells5 hV.1.1
    have f0 := Lib.frozen_of_heap hV.1.1 0; have f1 := Lib.frozen_of_heap hV.1.1 1; have f2 := Lib.frozen_of_heap hV.1.1 2; have f3 := Lib.frozen_of_heap hV.1.1 3; have f4 := Lib.frozen_of_heap hV.1.1 4
    have H := Lib.hid (HFIN.out x V zn za zc zp zq zt zu hV d6)
    clear HFIN hV d6
    go_simp
    refine kfit (hK undef _ H.out) ?_
    first | (simp only [gchFr, Act.put, List.setIfInBounds_toArray, List.set_cons_zero, List.set_cons_succ, h1, h3, h4, e6]; done) | (simp only [gchFr, Act.put, List.setIfInBounds_toArray, List.set_cons_zero, List.set_cons_succ, h1, h3, h4, e6]; rfl)
theorem gch_here {w : World} {b1 b2 : Nat} {xa ca ta ba oa : Option Addr} {xn xc cc tc bc oc : Nat} {bs os : List ByteArray} {lc : List Pr} {t : T}
    (HC5 : ∀ V, SNg w b1 b2 xa xn xc ca cc lc t ta tc ba bc oa oc bs os V → Calls Tryz.prog 39 #[.int .i64 (bs.length : Int), .slice oa os.length oc] V fun e Y => (∃ (zn : List ByteArray) (za : Option Addr) (zc : Nat), e = .returned (.slice za zn.length zc) ∧ (TextsAt Y (.slice za zn.length zc) zn ∧ NewX bs.length os zn)) ∧ Below V.heap.size V Y)
    (HC6 : ∀ V, SNg w b1 b2 xa xn xc ca cc lc t ta tc ba bc oa oc bs os V → ∀ (zn5 : List ByteArray), ∀ za5, ∀ zc5, (TextsAt V (.slice za5 zn5.length zc5) zn5 ∧ NewX bs.length os zn5) → Calls Tryz.prog 33 #[.agg #[.slice xa xn xc, .slice ca lc.length cc, .int .i64 t.kind, .string t.name, .slice ta t.kids.length tc], .slice ba bs.length bc, .slice za5 zn5.length zc5] V fun e Y => (∃ (zn : List ByteArray) (za : Option Addr) (zc : Nat) (zp : Option Addr) (zq : Nat) (zt : Option Addr) (zu : Nat), e = .returned (.agg #[.slice za zn.length zc, .slice zp lc.length zq, .int .i64 (app (prs bs zn) t).kind, .string (app (prs bs zn) t).name, .slice zt (app (prs bs zn) t).kids.length zu]) ∧ ((TextsAt Y (.slice za zn.length zc) zn ∧ NewX bs.length os zn) ∧ PrsAt Y (.slice zp lc.length zq) (appP (prs bs zn) lc) ∧ TysAt Y (.slice zt (app (prs bs zn) t).kids.length zu) (app (prs bs zn) t).kids)) ∧ Below V.heap.size V Y)
    {Q : Exit → Act → World → Prop} {ops : Array Oper} {a : Act} (X : World) (hops : ops = gchOps)
    (h1 : a.tmps.getD 1 undef = .pointer (some ⟨b1, 0, none⟩)) (h3 : a.tmps.getD 3 undef = .slice ba bs.length bc) (h4 : a.tmps.getD 4 undef = .slice oa os.length oc)
    (ha : a = gchFr (fun j => a.tmps.getD j undef) a.defers (fun i => a.tmps.getD (20 + i) undef)) (hS : SNg w b1 b2 xa xn xc ca cc lc t ta tc ba bc oa oc bs os X.drew)
    (hfin : ∀ (x : Nat → Value) V (zn : List ByteArray) za zc zp zq zt zu, SNg w b1 b2 xa xn xc ca cc lc t ta tc ba bc oa oc bs os V → ((TextsAt V (.slice za zn.length zc) zn ∧ NewX bs.length os zn) ∧ PrsAt V (.slice zp lc.length zq) (appP (prs bs zn) lc) ∧ TysAt V (.slice zt (app (prs bs zn) t).kids.length zu) (app (prs bs zn) t).kids) → Q .normal (gchFr (fun j => a.tmps.getD j undef) a.defers x) (set5 V b1 (.slice za zn.length zc) (.slice zp lc.length zq) (.int .i64 (app (prs bs zn) t).kind) (.string (app (prs bs zn) t).name) (.slice zt (app (prs bs zn) t).kids.length zu))) : (Code.region 3 ops true).wp Tryz.prog Q a X :=
  cast (congrArg (fun z => (Code.region 3 ops true).wp Tryz.prog Q z X) ha.symm) (gch_region (b := fun j => a.tmps.getD j undef) (d := a.defers) h1 h3 h4 HC5 HC6 hops _ X hS hfin)
end Go.Proofs.YtdidgddcgjpokaaGreatDoor
