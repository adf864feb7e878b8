/- Merged: SsL, PlainRow, IntsRow. -/
import Derived.Test.YtjnlchhikdfifaaDoorVa5
import Derived.Test.YtjnlchhikdfifaaDoorRows
import Derived.ProofKit
import Derived.OpenShut
import Derived.Carry
import Derived.Test.YtjnlchhikdfifaaDoorVa2
/- SchemeSorts, walked. -/
namespace Go.Proofs.YtjnlchhikdfifaaDoor
open Go.RowKit Go.Sort Go.Lib
attribute [local go_sem] Oper.semAt_some

set_option maxRecDepth 100000 in
set_option maxHeartbeats 8000000 in
theorem ssort_law (a1 : Option Addr) (n1 c1 : Nat) (z : Int) (w : World) (hl1 : IntsAt w.heap.size a1 n1 w) :
    Calls Tryd.prog 3 #[.slice a1 n1 c1, .int .i64 z] w fun e w' => e = .returned (.bool true) ∧ Below w.heap.size w w' := by
  have HL1 := Lib.hid hl1
  clear hl1
  by_cases hb1 : n1 ≤ 60
  · have hn1 : n1 < 1152921504606846976 := by omega
    have hb1I : ¬ ((60 : Int) < (n1 : Int)) := by omega
    go_enter Tryd.func3, Tryd.ntmps3
    go_wp2_with (go_at_call 5; refine (first8_any _).mono ?_; rintro e w' ⟨rfl, rfl⟩)
    refine (make_predsG 6 1 4 28 (by decide) (by decide) w.heap.size w.heap.size a1 n1 c1 0 _ (seq_new (Below.refl _ _) HL1.out) (by decide) (fun k W hs hk => make_n1 w.heap.size w.heap.size a1 n1 c1 k W hs (by omega) hn1) hn1).mono ?_
    rintro e W1 hM
    obtain ⟨⟨l, v, rfl, ⟨hl6, hq⟩, hp⟩, _, hf⟩ := hM
    obtain ⟨ps, hps, hpv⟩ := PV.of_prs hp
    have hpl : ps.length = l.length := by rw [← hps]; simp
    obtain ⟨pa, pc, rfl⟩ := hpv.shape
    have hsz : ∀ q ∈ l, tsize q.2 ≤ 1000000000 := fun q hq' => by have h1 := hq q hq'; have := size_text q.2 h1.1; have := h1.2.2; omega
    have HSP := Lib.hid (sortPreds_any l _ W1 hp hsz (fun q h => (hq q h).2.1) (by omega))
    have HB1 := Lib.hid (((Below.refl w.heap.size w).alloc (Nat.le_refl _) _).trans hf.1)
    have HPV := Lib.hid hpv
    have HQ := Lib.hid (And.intro hps (And.intro hq (And.intro hl6 hpl)))
    have hp6 : ps.length ≤ 6 := by omega
    clear hp hf hpv hq hps hsz hpl hl6
    go_wp2_with (go_at_call 7; fail)
    refine HSP.out.mono ?_
    rintro e W2 hR
    obtain ⟨⟨ks, xa, xc, rfl, hx, hst, hmem⟩, hb⟩ := hR
    obtain ⟨xs, hxs, hxv⟩ := PV.of_prs hx
    have hxl : xs.length = ks.length := by have := congrArg List.length hxs; simpa using this
    rw [← hxl] at hxv ⊢
    have hst' := strict_congr hxs.symm hst
    have hm : ∀ q, q ∈ xs.map prOf ↔ q ∈ l := fun q => by rw [hxs]; exact hmem q
    have HI := Lib.hid (show SsI w ps xs pa xa pc xc W2 from ⟨HPV.out.below hb, hxv, HB1.out.trans (hb.mono HB1.out.size)⟩)
    have HX := Lib.hid (And.intro hst' hm)
    clear hx hst hmem hxs hxv hxl hst' hm hb HSP HB1 HPV HL1
    have hx6 : xs.length ≤ 6 := Nat.le_trans (strict_len HX.out.1 fun q h => (HX.out.2 q).1 h) HQ.out.2.2.1
    have HFit := Lib.hid (show (∀ x ∈ ps, Fits x.t) ∧ ∀ x ∈ xs, Fits x.t from ⟨fun x hx => (HQ.out.2.1 (prOf x) (by rw [← HQ.out.1]; exact List.mem_map.2 ⟨x, hx, rfl⟩)).2.1, fun x hx => (HQ.out.2.1 (prOf x) ((HX.out.2 _).1 (List.mem_map.2 ⟨x, hx, rfl⟩))).2.1⟩)
    have HSzP := Lib.hid (show ∀ x ∈ ps, tsize (prOf x).2 ≤ 1000000000 from fun x hx => by
      have h1 := HQ.out.2.1 (prOf x) (by rw [← HQ.out.1]; exact List.mem_map.2 ⟨x, hx, rfl⟩)
      have := size_text (prOf x).2 h1.1; have := h1.2.2
      omega)
    have HSz := Lib.hid (show ∀ x ∈ xs, tsize x.t ≤ 1000000000 from fun x hx => by
      have h1 := HQ.out.2.1 (prOf x) ((HX.out.2 _).1 (List.mem_map.2 ⟨x, hx, rfl⟩))
      have := size_text (prOf x).2 h1.1; have := h1.2.2
      show tsize (prOf x).2 ≤ _; omega)
    go_wp2_with fail
    go_loopw [8] (fun vi wr => ∃ i : Nat, i ≤ xs.length ∧ vi = .int .i64 i ∧ Hid (SsI w ps xs pa xa pc xc wr)) (fun vi _ => xs.length - (intOf vi).toNat)
    case atStart => exact ⟨0, Nat.zero_le _, rfl, HI⟩
    case round =>
      obtain ⟨i, hi, rfl, hS⟩ := hrel
      clear HI
      by_cases hlt : i < xs.length
      · have hltI : (i : Int) < (xs.length : Int) := by omega
        go_wp2_with fail
        go_loopw [9, 10] (fun vb vk wr => ∃ k : Nat, k ≤ ps.length ∧ vk = .int .i64 k ∧ vb = .bool (inK ps (prOf (xs.getD i noP)) k) ∧ Hid (SsI w ps xs pa xa pc xc wr)) (fun _ vk _ => ps.length - (intOf vk).toNat)
        case atStart => exact ⟨0, Nat.zero_le _, rfl, rfl, hS⟩
        case round =>
          obtain ⟨k, hk, rfl, rfl, hS⟩ := hrel
          by_cases hkl : k < ps.length
          · have hkI : (k : Int) < (ps.length : Int) := by omega
            obtain ⟨g1, rfl, hc1, hr1⟩ := hS.out.1.row (by omega)
            obtain ⟨g2, rfl, hc2, hr2⟩ := hS.out.2.1.row (by omega)
            obtain ⟨x0, x1, x2, x3⟩ := hr1.cells hkl
            obtain ⟨y0, y1, y2, y3⟩ := hr2.cells hlt
            have X0 := cell_regrown x0; have X1 := cell_regrown x1; have X2 := cell_regrown x2; have X3 := cell_regrown x3
            have Y0 := cell_regrown y0; have Y1 := cell_regrown y1; have Y2 := cell_regrown y2; have Y3 := cell_regrown y3
            have HC := Lib.hid (fun dd os => Calls.regrown_of (samePred_any (prOf (ps.getD k noP)) (prOf (xs.getD i noP)) (HFit.out.1 _ (getD_memR hkl)) _ _ _ _ _ ((hS.out.below (below_regrown wr dd os)).1.1 _ (getD_memR hkl)) ((hS.out.below (below_regrown wr dd os)).2.1.1 _ (getD_memR hlt))))
            have HIn := Lib.hid (inK_succ (q := prOf (xs.getD i noP)) hkl)
            have HS5 := Lib.hid (hS.out.below (below_d wr))
            have HS6 := Lib.hid (fun dd os => hS.out.below (below_regrown wr dd os))
            clear x0 x1 x2 x3 y0 y1 y2 y3 hr1 hr2
            cases hbb : inK ps (prOf (xs.getD i noP)) k with
            | true =>
              rw [hbb] at HIn
              clear X0 X1 X2 X3 Y0 Y1 Y2 Y3 HC HS6
              go_wp2_with fail
              go_region
              all_goals
                go_wp2_with fail
                go_roundw
              case rel => exact ⟨k + 1, by omega, by go_num, by rw [HIn.out]; rfl, HS5⟩
              case measure => simp [intOf]; omega
            | false =>
              rw [hbb] at HIn
              have HXE := Lib.hid (show ∃ x, ps.getD k noP = x from ⟨_, rfl⟩)
              generalize ps.getD k noP = x at *
              obtain ⟨y, hy⟩ : ∃ y, xs.getD i noP = y := ⟨_, rfl⟩
              have HY := Lib.hid hy
              rw [hy] at Y0 Y1 Y2 Y3 HC
              clear hy HXE
              simp only [prV, prOf] at HC
              have hH := HC.out
              go_wp2_with fail
              refine wp_region_quiet_below (by kernel_rfl) (by kernel_rfl) ?_
              repeat (quiet_step (first | exact hH _ _ | (go_at_call 8; exact hH _ _)))
              refine wpQuiet_nil ?_
              intro _ hw'
              obtain ⟨⟨dq, osq⟩, hw''⟩ := hw'
              subst hw''
              have HS7 := Lib.hid (HS6.out dq osq)
              clear X0 X1 X2 X3 Y0 Y1 Y2 Y3 hH HC HS5 HS6
              generalize grow (redrawn wr dq) osq = wr5 at *
              go_wp2_with fail
              go_roundw
              case rel => exact ⟨k + 1, by omega, by go_num, by rw [HIn.out, HY.out]; rfl, HS7⟩
              case measure => simp [intOf]; omega
          · obtain rfl : k = ps.length := by omega
            have hin : inK ps (prOf (xs.getD i noP)) ps.length = true := inK_all (by rw [HQ.out.1]; exact (HX.out.2 _).1 (List.mem_map.2 ⟨_, getD_memR hlt, rfl⟩))
            rw [hin]
            clear hin
            have HS5 := Lib.hid (hS.out.below (below_d wr))
            have HS6 := Lib.hid (fun dd os => hS.out.below (below_regrown wr dd os))
            by_cases hi0 : i = 0
            · have hi0I : decide ((i : Int) > 0) = false := decide_eq_false (by omega)
              go_wp2_with fail
              go_region
              all_goals
                go_wp2_with fail
                go_roundw
              case rel => exact ⟨i + 1, by omega, by go_num, HS5⟩
              case measure => simp [intOf]; omega
            · obtain ⟨j, rfl⟩ : ∃ j, i = j + 1 := ⟨i - 1, by omega⟩
              have hj0 : (0 : Int) < (j : Int) + 1 := by omega
              have jz : (j : Int) + 1 < (xs.length : Int) := by omega
              have jz1 : (j : Int) < (xs.length : Int) := by omega
              have p0 : (0 : Int) ≤ (j : Int) + 1 := by omega
              have e0 : ((j : Int) + 1).toNat = j + 1 := by omega
              have hwp : IntKind.i64.wrap (j : Int) = (j : Int) := by rw [IntKind.wrap_i64]; omega
              obtain ⟨g2, rfl, hc2, hr2⟩ := hS.out.2.1.row (by omega)
              obtain ⟨x0, x1, x2, x3⟩ := hr2.cells (i := j) (by omega)
              obtain ⟨y0, y1, y2, y3⟩ := hr2.cells hlt
              have X0 := cell_regrown x0; have X1 := cell_regrown x1; have X2 := cell_regrown x2; have X3 := cell_regrown x3
              have Y0 := cell_regrown y0; have Y1 := cell_regrown y1; have Y2 := cell_regrown y2; have Y3 := cell_regrown y3
              have HC := Lib.hid (fun dd os => Calls.regrown_of (rcmp_any (HSz.out _ (getD_memR (show j < xs.length by omega))) ((hS.out.below (below_regrown wr dd os)).2.1.1 _ (getD_memR (show j < xs.length by omega))) ((hS.out.below (below_regrown wr dd os)).2.1.1 _ (getD_memR hlt))))
              obtain ⟨hls, hcm⟩ := less_of (strict_at HX.out.1 hlt)
              clear hr2
              generalize xs.getD j noP = x at *
              generalize xs.getD (j + 1) noP = y at *
              obtain ⟨r, hr⟩ : ∃ r, cmpT x.t y.t = r := ⟨_, rfl⟩
              rw [hr] at HC hcm
              simp only [tyV] at HC
              clear hr
              have hH := HC.out
              cases heq : (y.n.toList == x.n.toList) with
              | true =>
                have hr0 : r < 0 := hcm heq
                clear hcm x0 x1 x2 x3 y0 y1 y2 y3
                go_wp2_with fail
                refine wp_region_quiet_below (by kernel_rfl) (by kernel_rfl) ?_
                repeat (quiet_step (first | exact hH _ _ | (go_at_call 9; exact hH _ _)))
                refine wpQuiet_nil ?_
                intro _ hw'
                obtain ⟨⟨dq, osq⟩, hw''⟩ := hw'
                subst hw''
                have HS7 := Lib.hid (HS6.out dq osq)
                clear X0 X1 X2 X3 Y0 Y1 Y2 Y3 hH HC HS5 HS6
                generalize grow (redrawn wr dq) osq = wr5 at *
                go_wp2_with fail
                go_roundw
                case rel => exact ⟨j + 1 + 1, by omega, by go_num, HS7⟩
                case measure => simp [intOf]; omega
              | false =>
                clear hcm X0 X1 X2 X3 Y0 Y1 Y2 Y3 hH HC HS6
                go_wp2_with fail
                go_region
                all_goals
                  go_wp2_with fail
                  go_roundw
                case rel => exact ⟨j + 1 + 1, by omega, by go_num, HS5⟩
                case measure => simp [intOf]; omega
      · obtain rfl : i = xs.length := by omega
        go_wp2_with fail
        go_loopw [11] (fun vi wr => ∃ i : Nat, i ≤ ps.length ∧ vi = .int .i64 i ∧ Hid (SsI w ps xs pa xa pc xc wr)) (fun vi _ => ps.length - (intOf vi).toNat)
        case atStart => exact ⟨0, Nat.zero_le _, rfl, hS⟩
        case round =>
          obtain ⟨i, hi, rfl, hS⟩ := hrel
          by_cases hlt : i < ps.length
          · have hltI : (i : Int) < (ps.length : Int) := by omega
            go_wp2_with fail
            go_loopw [12, 13] (fun vb vk wr => ∃ k : Nat, k ≤ xs.length ∧ vk = .int .i64 k ∧ vb = .bool (inK' xs (prOf (ps.getD i noP)) k) ∧ Hid (SsI w ps xs pa xa pc xc wr)) (fun _ vk _ => xs.length - (intOf vk).toNat)
            case atStart => exact ⟨0, Nat.zero_le _, rfl, rfl, hS⟩
            case round =>
              obtain ⟨k, hk, rfl, rfl, hS⟩ := hrel
              by_cases hkl : k < xs.length
              · have hkI : (k : Int) < (xs.length : Int) := by omega
                obtain ⟨g1, rfl, hc1, hr1⟩ := hS.out.1.row (by omega)
                obtain ⟨g2, rfl, hc2, hr2⟩ := hS.out.2.1.row (by omega)
                obtain ⟨x0, x1, x2, x3⟩ := hr1.cells hlt
                obtain ⟨y0, y1, y2, y3⟩ := hr2.cells hkl
                have X0 := cell_regrown x0; have X1 := cell_regrown x1; have X2 := cell_regrown x2; have X3 := cell_regrown x3
                have Y0 := cell_regrown y0; have Y1 := cell_regrown y1; have Y2 := cell_regrown y2; have Y3 := cell_regrown y3
                have HC := Lib.hid (fun dd os => Calls.regrown_of (samePred_any (prOf (ps.getD i noP)) (prOf (xs.getD k noP)) (HFit.out.1 _ (getD_memR hlt)) _ _ _ _ _ ((hS.out.below (below_regrown wr dd os)).1.1 _ (getD_memR hlt)) ((hS.out.below (below_regrown wr dd os)).2.1.1 _ (getD_memR hkl))))
                have HIn := Lib.hid (inK'_succ (q := prOf (ps.getD i noP)) hkl)
                have HS5 := Lib.hid (hS.out.below (below_d wr))
                have HS6 := Lib.hid (fun dd os => hS.out.below (below_regrown wr dd os))
                clear x0 x1 x2 x3 y0 y1 y2 y3 hr1 hr2
                cases hbb : inK' xs (prOf (ps.getD i noP)) k with
                | true =>
                  rw [hbb] at HIn
                  clear X0 X1 X2 X3 Y0 Y1 Y2 Y3 HC HS6
                  go_wp2_with fail
                  go_region
                  all_goals
                    go_wp2_with fail
                    go_roundw
                  case rel => exact ⟨k + 1, by omega, by go_num, by rw [HIn.out]; rfl, HS5⟩
                  case measure => simp [intOf]; omega
                | false =>
                  rw [hbb] at HIn
                  generalize xs.getD k noP = y at *
                  obtain ⟨x, hx⟩ : ∃ x, ps.getD i noP = x := ⟨_, rfl⟩
                  have HXe := Lib.hid hx
                  rw [hx] at X0 X1 X2 X3 HC
                  clear hx
                  simp only [prV, prOf] at HC
                  have hH := HC.out
                  go_wp2_with fail
                  refine wp_region_quiet_below (by kernel_rfl) (by kernel_rfl) ?_
                  repeat (quiet_step (first | exact hH _ _ | (go_at_call 8; exact hH _ _)))
                  refine wpQuiet_nil ?_
                  intro _ hw'
                  obtain ⟨⟨dq, osq⟩, hw''⟩ := hw'
                  subst hw''
                  have HS7 := Lib.hid (HS6.out dq osq)
                  clear X0 X1 X2 X3 Y0 Y1 Y2 Y3 hH HC HS5 HS6
                  generalize grow (redrawn wr dq) osq = wr5 at *
                  go_wp2_with fail
                  go_roundw
                  case rel => exact ⟨k + 1, by omega, by go_num, by rw [HIn.out, HXe.out]; rfl, HS7⟩
                  case measure => simp [intOf]; omega
              · obtain rfl : k = xs.length := by omega
                have hin : inK' xs (prOf (ps.getD i noP)) xs.length = true := inK'_all ((HX.out.2 _).2 (by rw [← HQ.out.1]; exact List.mem_map.2 ⟨_, getD_memR hlt, rfl⟩))
                rw [hin]
                clear hin
                go_wp2_with fail
                go_roundw
                case rel => exact ⟨i + 1, by omega, by go_num, hS⟩
                case measure => simp [intOf]; omega
          · obtain rfl : i = ps.length := by omega
            by_cases h0 : ps.length = 0
            · have h0I : ((ps.length : Nat) : Int) = 0 := by omega
              go_wp2_with fail
              go_ret
              exact ⟨rfl, hS.out.2.2⟩
            · have h0I : ¬ ((ps.length : Nat) : Int) = 0 := by omega
              obtain ⟨at', hat, hatz⟩ := modNS z ps.length (by omega) hp6
              obtain ⟨g1, rfl, hc1, hr1⟩ := hS.out.1.row (by omega)
              have HCp := Lib.hid (fun (W : World) (hb : Below wr.heap.size wr W) => (show Calls Tryd.prog 10 #[.slice (some ⟨g1, at' * 4, none⟩) (ps.length - at') (pc - at')] W fun e w' => (∃ va vc, e = .returned (.slice va (ps.length - at') vc) ∧ w'.ownsRow W.heap.size 35 4 (.slice va (ps.length - at') vc) (ps.length - at') (cellsP (ps.drop at'))) ∧ Below W.heap.size W w' from by
                have hr := hr1.below hb
                have := rPreds_any g1 (at' * 4) (pc - at') (ps.drop at') W (by simp; omega) hr.lt (fun i hi => by
                  have hi' : at' + i < ps.length := by simp at hi; omega
                  have hc := hr.cells hi'
                  have e1 : (ps.drop at').getD i noP = ps.getD (at' + i) noP := by simp [List.getD]
                  rw [e1, show at' * 4 + i * 4 = (at' + i) * 4 by omega]
                  exact hc)
                rw [List.length_drop] at this
                refine this.mono fun e w' hq => ?_
                obtain ⟨⟨v, rfl, ho⟩, hb2⟩ := hq
                obtain ⟨va, vc, rfl⟩ := row_val ho
                exact ⟨⟨va, vc, rfl, ho⟩, hb2⟩))
              have hatI : (at' : Int) ≤ (ps.length : Int) := by omega
              have hatI2 : (at' : Int) ≤ (pc : Int) := by omega
              have hat0 : (0 : Int) ≤ (at' : Int) := by omega
              have HR1 := Lib.hid hr1
              clear hr1
              go_wp2_with fail
              refine ssr_here (wr := wr) (g := g1) (n := ps.length) (k := at') (pc := pc) (ps := ps) (by omega) hat0 hatI hatI2 (by omega) hp6
                (fun V h => by
                  rw [if_neg (show ¬ pc = at' by omega)]
                  exact (HCp.out V h.2).mono fun e Y hq => ⟨by obtain ⟨va, vc, e1, ho⟩ := hq.1; exact ⟨va, vc, e1, own_lower ho h.2.size⟩, hq.2⟩)
                _ (by kernel_rfl) (by kernel_rfl) (by kernel_rfl) (by kernel_rfl) ⟨HR1.out.below (below_d wr), below_d wr⟩ ?_
              intro x v9 w9 hown hB9
              have hprs := turn_prs (by omega) hS.out.1.1 hB9 hown
              have hsp := sortPreds_any _ v9 w9 hprs (turn_all fun x hx => HSzP.out x hx) (turn_all fun x hx => HFit.out.1 x hx) (by rw [List.length_map, turn_len (by omega)]; omega)
              obtain ⟨a9, c9, rfl⟩ := row_val hown
              have HSP := Lib.hid hsp
              have HS9 := Lib.hid (hS.out.below hB9)
              clear hprs hsp hown hB9 HCp HR1
              simp only [ssrFr, Act.put]
              simp only [Array.getD_eq_getD_getElem?, List.getElem?_toArray, List.getElem?_cons_succ, List.getElem?_cons_zero, Option.getD_some, List.setIfInBounds_toArray, List.set_cons_zero, List.set_cons_succ]
              go_wp2_with (go_at_call 7; fail)
              refine HSP.out.mono ?_
              rintro e W5 ⟨⟨ks2, ya, yc, rfl, hy, hst2, hmem2⟩, hb2⟩
              have hxp := (HS9.out.2.1.below hb2).prs
              have hyl : (ks2.map prOf).length = ks2.length := List.length_map ..
              have hxl2 : (xs.map prOf).length = xs.length := List.length_map ..
              have he : ks2.map prOf = xs.map prOf := strict_unique ks2 xs hst2 HX.out.1 fun q => (hmem2 q).trans ((turn_same at' q).trans (by rw [HQ.out.1]; exact (HX.out.2 q).symm))
              have hfit2 : ∀ q ∈ ks2.map prOf, Fits q.2 := fun q hq => by
                rw [he] at hq
                obtain ⟨x, hx, rfl⟩ := List.mem_map.1 hq
                exact HFit.out.2 x hx
              have hsame := samePreds_of (ks2.map prOf) (xs.map prOf) hfit2 ya xa yc xc W5 (by rw [hyl]; exact hy) (by rw [hxl2]; exact hxp) (by have := congrArg List.length he; rw [hyl, hxl2] at this; omega)
              rw [hyl, hxl2, eqB_true he] at hsame
              have HSame := Lib.hid hsame
              have HBE := Lib.hid (HS9.out.2.2.trans (hb2.mono HS9.out.2.2.size))
              clear hsame hfit2 he hxl2 hyl hxp hy hst2 hmem2 hb2 HSP HS9
              go_wp2_with (go_at_call 11; fail)
              refine HSame.out.mono ?_
              rintro e W6 ⟨rfl, hb6⟩
              have HE := Lib.hid (HBE.out.trans (hb6.mono HBE.out.size))
              clear hb6 HSame HBE
              go_wp2_with fail
              go_ret
              exact ⟨rfl, HE.out⟩
  · have hb1I : (60 : Int) < (n1 : Int) := by omega
    go_enter Tryd.func3, Tryd.ntmps3
    go_wp2_with (go_at_call 5; refine (first8_any _).mono ?_; rintro e w' ⟨rfl, rfl⟩)
    go_ret
    exact ⟨rfl, Below.refl _ _⟩
end Go.Proofs.YtjnlchhikdfifaaDoor
/- What the plain rows of this seat share. -/
namespace Go.Proofs.YtjnlchhikdfifaaDoor
open Go.ChangeShapes Go.WideShapes Go.ChangeAt Go.RowKit

theorem own : ownKnob Tryd.prog.godebug = none := by kernel_rfl
theorem laidOut : laidOutB Tryd.prog = true := by kernel_rfl
theorem bounds_i64 {z : Int} (h : (Lit.int .i64 z).wf = true) : -9223372036854775808 ≤ z ∧ z ≤ 9223372036854775807 := by
  have h1 : IntKind.i64.min = -9223372036854775808 := rfl
  have h2 : IntKind.i64.max = 9223372036854775807 := rfl
  simp only [Lit.wf, Bool.and_eq_true, decide_eq_true_eq] at h
  omega
end Go.Proofs.YtjnlchhikdfifaaDoor
/- Slices of numbers that came in, for the plain rows. -/
namespace Go.Proofs.YtjnlchhikdfifaaDoor
open Go.ChangeShapes Go.WideShapes Go.ChangeAt Go.RowKit

/-- A slice of numbers that came in, nil or not, holds some numbers. -/
theorem opened_ints {H : Type} {enc : TypeId × Value → H} {W : World} {a0 : Option Addr} {len cap : Nat} {d0 : DataW H} {p : List MemPlace}
    (h0 : DataW.Trod enc Tryd.prog W 0 (fun _ => true) true 22 (.slice a0 len cap) d0 p) : IntsAt W.heap.size a0 len W := by
  obtain ⟨fuel, hf⟩ := h0
  rcases open_ints Tryd.underlying22 Tryd.underlying3 (by kernel_rfl) hf with ⟨hcs, _⟩ | ⟨x, l, c, zs, hcs, _, hl, hm, hz, _, hcell, hwz⟩
  · simp [Value.cells] at hcs
    obtain ⟨rfl, rfl, rfl⟩ := hcs
    exact .inl rfl
  · simp [Value.cells] at hcs
    obtain ⟨rfl, rfl, rfl⟩ := hcs
    simp only [if_true] at hz
    by_cases h0 : len = 0
    · exact .inl h0
    · obtain ⟨b, o, spot⟩ := x
      have hc0 := hcell 0 (by omega)
      have hspot : spot = none := by simpa [Addr.add] using World.cell?_spot hc0
      subst hspot
      have ea : ∀ j, (⟨b, o, none⟩ : Addr).add j = ⟨b, o + j, none⟩ := fun j => by unfold Addr.add; split <;> simp_all
      refine .inr ⟨b, o, rfl, World.block_lt_of_cell? _ _ hc0, fun j hj => ?_⟩
      have hc := hcell j (by omega)
      rw [ea] at hc
      have hjz : j < zs.length := by omega
      exact ⟨zs[j], by rw [hc]; simp [List.getD, List.getElem?_eq_getElem hjz], bounds_i64 (hwz _ (List.getElem_mem hjz))⟩

end Go.Proofs.YtjnlchhikdfifaaDoor
