/- PrinterTypes, walked. -/
import Derived.Test.YtlfbmbbfcijedaaTypesMem
import Derived.Deep.CutRange
import Derived.BigRegion
import Derived.Deep.RegionHeld3
import Derived.Deep.DrawnRows
namespace Go.Proofs.Ytlfbmbbfcijedaa
open Go.RowKit
attribute [local go_sem] Oper.semAt_some
attribute [local go_sem ↓] Go.wp_at_zero Go.wp_at_succ

theorem mod3 : ∀ k : Nat, k < 9 → (k : Int).tmod 3 = ((k % 3 : Nat) : Int) := by decide
theorem kept_two_drew (w : World) (o1 o2 : Obj) : KeepT w ((w.alloc o1).alloc o2).drew := kept_two w o1 o2
theorem prs_two {W : World} {g : Nat} {v : Value} (h : W.heap[g]? = some (.cells #[.string ⟨#[67]⟩, .int .i64 2, .string ⟨#[76, 105, 115, 116]⟩, v, .string ⟨#[68]⟩, .int .i64 1, .string ⟨#[97]⟩, .slice none 0 0] 42 (0, 0))) (hv : TysAt W v [vA]) (r : Nat) (hr : r < 3) :
    PrsAt W (.slice (some ⟨g, 0, none⟩) r 2) (predsL.take r) := by
  have hl : (predsL.take r).length = r := by simp [predsL]; omega
  refine .inr ⟨g, 2, _, (0, 0), fun i => if i = 0 then v else .slice none 0 0, by rw [hl], h, by rw [hl]; omega, ?_⟩
  intro i hi
  have hi' : i < r := by rw [← hl]; exact hi
  have e : (predsL.take r)[i] = predsL[i]'(by simp [predsL]; omega) := List.getElem_take
  rw [e]
  clear e
  have h2 : i = 0 ∨ i = 1 := by omega
  rcases h2 with rfl | rfl
  · exact ⟨⟨rfl, rfl, rfl, rfl⟩, hv⟩
  · exact ⟨⟨rfl, rfl, rfl, rfl⟩, TysAt.nil _ _ _⟩
theorem text_bytes (l : List Pr) (t : T) (h w : ByteArray) (e1 : (ctxText l).toArray = h.data) (e2 : (T.text t).toArray = w.data) : (⟨(schText l t).toArray⟩ : ByteArray) = h ++ w := by
  apply ByteArray.ext
  rw [ByteArray.data_append, ← e1, ← e2]
  simp [schText]
theorem with_world {P : Program} {c : Code} {Q : Exit → Act → World → Prop} {a : Act} {w : World} (S : World → Prop) (h : S w) (k : ∀ W, S W → Code.wp P c Q a W) : Code.wp P c Q a w := k w h

set_option maxHeartbeats 4000000 in
theorem types_any (z : Int) (w : World) (_ : -9223372036854775808 ≤ z) (_ : z < 9223372036854775808) :
    Calls Try.prog 4 #[.int .i64 z] w fun e w' => e = .returned (.bool true) ∧ Below w.heap.size w w' := by
  obtain ⟨k, hk, hkz⟩ : ∃ k : Nat, k < 9 ∧ (wrap64 (z.tmod 9 + 9)).tmod 9 = (k : Int) := by
    have k1 := Int.tmod_lt_of_pos z (show (0 : Int) < 9 by omega)
    have k2 := Int.lt_tmod_of_pos z (show (0 : Int) < 9 by omega)
    have e : wrap64 (z.tmod 9 + 9) = z.tmod 9 + 9 := by unfold wrap64; omega
    rw [e]
    have k3 := Int.tmod_lt_of_pos (z.tmod 9 + 9) (show (0 : Int) < 9 by omega)
    have k4 := Int.tmod_nonneg 9 (show 0 ≤ z.tmod 9 + 9 by omega)
    exact ⟨((z.tmod 9 + 9).tmod 9).toNat, by omega, by omega⟩
  go_enter Try.func4, Try.ntmps4
  go_wp2_with (go_at_call 5; refine (first_any _).mono ?_)
  rintro e w1 ⟨rfl, hb1⟩
  have HB1 := Lib.hid hb1; clear hb1
  go_upto_region 12 with fail
  refine with_world (fun W => Laid w1.heap.size W ∧ Below w1.heap.size w1 W) ⟨?_, ?_⟩ ?_
  · constructor
    all_goals (simp only [alloc_at, World.size_alloc]; first | (simp; done) | ((repeat rw [if_neg (by omega)]); simp))
  · repeat (first | exact Below.refl _ _ | refine Below.drew ?_ | refine Below.alloc ?_ (by simp; try omega) _)
  rintro W ⟨hL, hB⟩
  have HL := Lib.hid hL
  have HB := Lib.hid (HB1.out.trans (hB.mono HB1.out.size))
  clear hL hB HB1
  generalize w1.heap.size = n at HL ⊢
  obtain ⟨a4, a0⟩ := (⟨HL.out.b4, HL.out.b0⟩ : _ ∧ _)
  obtain ⟨l0, l1, l2⟩ := three_cells a4
  obtain ⟨v0, v1, v2⟩ := three_cells a0
  clear a4 a0
  obtain ⟨HTy, _⟩ := HL.out.types
  obtain ⟨g, cap, e1, hg, hcap, hrow⟩ := HTy.row (by simp [typesL])
  cases e1
  clear HTy
  obtain ⟨pa, pc, x0, x1, x2, xk⟩ := hrow k hk
  clear hrow
  have HF := Lib.hid (fits_types typesL[k] (List.getElem_mem hk))
  have HX := Lib.hid (types_text k hk)
  have HS := Lib.hid (types_small k hk)
  have HW := Lib.hid (HL.out.want k hk)
  have XK := Lib.hid xk
  obtain ⟨t, ht⟩ : ∃ t, typesL[k]'hk = t := ⟨_, rfl⟩
  obtain ⟨wt, hwt⟩ : ∃ s, wantL[k]'hk = s := ⟨_, rfl⟩
  rw [ht] at x0 x1 x2 XK HF HX HS
  rw [hwt] at HX HW
  clear ht hwt xk
  have hlen : typesL.length = 9 := rfl
  have hk0 : ((k : Int) < 9) := by omega
  have hk3 : (k : Int).tmod 3 = ((k % 3 : Nat) : Int) := mod3 k hk
  have hn0 : n < W.heap.size := (Array.getElem?_eq_some_iff.1 HL.out.b0).1
  have hn4 : n + 1 + 1 + 1 + 1 < W.heap.size := (Array.getElem?_eq_some_iff.1 HL.out.b4).1
  obtain ⟨r, hr, hr3⟩ : ∃ r, r < 3 ∧ k % 3 = r := ⟨k % 3, by omega, rfl⟩
  rw [hr3] at hk3
  clear hr3
  have hri : ((r : Int) ≤ 2) := by omega
  have hr0 : ((0 : Int) ≤ (r : Int)) := by omega
  have hgw : n + 1 + 1 + 1 + 1 + 1 + 1 + 1 + 1 + 1 + 1 + 1 + 1 + 1 + 1 + 1 + 1 < W.heap.size := (Array.getElem?_eq_some_iff.1 HL.out.b16).1
  generalize n + 1 + 1 + 1 + 1 + 1 + 1 + 1 + 1 + 1 + 1 + 1 + 1 + 1 + 1 + 1 + 1 = gw at HW hgw ⊢
  generalize n + 1 + 1 + 1 + 1 + 1 + 1 + 1 + 1 + 1 + 1 + 1 + 1 + 1 + 1 + 1 = g at x0 x1 x2 hg ⊢
  generalize n + 1 + 1 + 1 + 1 = g4 at l0 l1 l2 hn4 ⊢
  go_cut [12] from 70 (fun p W2 => ∃ q g2, p = .pointer (some ⟨q, 0, none⟩) ∧ Hid (W2.heap[q]? = some (.cells #[.slice none 0 0, .slice (some ⟨g2, 0, none⟩) r 2, .int .i64 t.kind, .string t.name, .slice pa t.kids.length pc] 34 (0, 0))) ∧ Hid (PrsAt W2 (.slice (some ⟨g2, 0, none⟩) r 2) (predsL.take r)) ∧ Hid (Below W.heap.size W W2))
  case first =>
    clear HX HS HW HF
    go_region
    all_goals (go_wp2_with fail)
    all_goals go_meet
    · refine ⟨_, W.heap.size, rfl, Lib.hid (by rw [heap_drew]; simp only [alloc_at, World.size_alloc]; simp), Lib.hid (prs_two (v := .slice (some ⟨n + 1 + 1 + 1, 0, none⟩) 1 1) (by rw [heap_drew]; simp only [alloc_at, World.size_alloc]; simp) (HL.out.types.2.keep (kept_two_drew W _ _)) r hr), Lib.hid ?_⟩
      repeat (first | exact Below.refl _ _ | refine Below.drew ?_ | refine Below.alloc ?_ (by simp; try omega) _)
    · refine ⟨_, W.heap.size + 1, rfl, Lib.hid (by rw [heap_drew]; simp only [alloc_at, World.size_alloc]; simp), Lib.hid (prs_two (v := .slice (some ⟨n + 1 + 1 + 1, 0, none⟩) 1 1) (by rw [heap_drew]; simp only [alloc_at, World.size_alloc]; simp) (HL.out.types.2.keep (kept_two_drew W _ _)) r hr), Lib.hid ?_⟩
      repeat (first | exact Below.refl _ _ | refine Below.drew ?_ | refine Below.alloc ?_ (by simp; try omega) _)
  case rest =>
    obtain ⟨q, g2, rfl, HQ, HP, HWc⟩ := hcut
    have hq := (Array.getElem?_eq_some_iff.1 HQ.out).1
    obtain ⟨s0, s1, s2, s3, s4⟩ := five_cells HQ.out
    have y0 := (HWc.out.cell (p := ⟨g, k * 3, none⟩) hg).trans x0
    have y1 := (HWc.out.cell (p := ⟨g, k * 3 + 1, none⟩) hg).trans x1
    have y2 := (HWc.out.cell (p := ⟨g, k * 3 + 2, none⟩) hg).trans x2
    have yw := (HWc.out.cell (p := ⟨gw, k, none⟩) hgw).trans HW.out
    have hg' : g < wc.heap.size := Nat.lt_of_lt_of_le hg HWc.out.size
    have hgw' : gw < wc.heap.size := Nat.lt_of_lt_of_le hgw HWc.out.size
    have XKc := Lib.hid (XK.out.keep (KeepT.of_below HWc.out))
    have HBc := Lib.hid (HB.out.trans (HWc.out.mono HB.out.size))
    have HH := Lib.hid (heads_text r hr)
    have HHs := Lib.hid (heads_small r hr)
    clear x0 x1 x2 l0 l1 l2 v0 v1 v2 HWc hn0 hn4 hg hgw
    have hcat := text_bytes (predsL.take r) t (headL[r]'hr) wt HH.out HX.out
    have hws : wt.size ≤ 100 := by
      have h1 := HS.out; have h2 := HX.out
      have h3 : wt.size = (T.text t).length := by show wt.data.size = _; rw [← h2]; simp
      omega
    have hone : (⟨(T.text t).toArray⟩ : ByteArray) = wt := by rw [HX.out]
    obtain ⟨hd, hhd⟩ : ∃ h, headL[r]'hr = h := ⟨_, rfl⟩
    rw [hhd] at hcat HH
    have HD := Lib.hid hhd
    have HTy := Lib.hid (fun V (kk : KeepT wc V) => type_any t HF.out _ V (XKc.out.keep kk) (by have := HS.out; unfold room; omega))
    have HSc := Lib.hid (fun V (kk : KeepT wc V) (kp : KeepP wc V) => scheme_any (predsL.take r) t (fun p hp => fits_preds p (List.mem_of_mem_take hp)) HF.out none 0 0 _ _ V (HP.out.keep kk kp) (XKc.out.keep kk) (by simp [predsL]; omega) (by have := HS.out; have := HHs.out; unfold room schText; simp only [List.length_append]; omega))
    rw [hcat] at HSc
    rw [hone] at HTy
    clear hcat hone hhd HX HF HH HHs HS HW HP HQ XK
    simp only [tyV, schV] at HTy HSc
    have h3 : r = 0 ∨ r = 1 ∨ r = 2 := by omega
    rcases h3 with rfl | rfl | rfl
    · have hd' := HD.out
      simp only [headL, List.getElem_cons_zero] at hd'
      subst hd'
      simp at hk3
      clear HD hri hr0 hr
      have hs1 : ¬ (9223372036854775807 < 0 + wt.size) := by omega
      have hs2 : 0 + wt.size ≤ 9223372036854775807 := by omega
      have hs3 : wt.size ≤ 9223372036854775807 := by omega
      have hadd : ∀ V : World, (Op.stringOp .add ⟨#[]⟩ wt).run Try.prog V = .ok (.string (⟨#[]⟩ ++ wt)) V := fun V => run_string_add_sum V _ _ (by have : (⟨#[]⟩ : ByteArray).size = 0 := rfl; rw [this]; omega)
      go_upto_region 14 with fail
      refine with_world (fun V => Below wc.heap.size wc V) ((Below.refl _ _).alloc (Nat.le_refl _) _) ?_
      rintro V hV
      have HVb := Lib.hid hV; clear hV
      have z0 := (HVb.out.cell (p := ⟨g, k * 3, none⟩) hg').trans y0
      have z1 := (HVb.out.cell (p := ⟨g, k * 3 + 1, none⟩) hg').trans y1
      have z2 := (HVb.out.cell (p := ⟨g, k * 3 + 2, none⟩) hg').trans y2
      have z3 := (HVb.out.cell (p := ⟨gw, k, none⟩) hgw').trans yw
      have z4 := (HVb.out.cell (p := ⟨q, 0, none⟩) hq).trans s0
      have z5 := (HVb.out.cell (p := ⟨q, 1, none⟩) hq).trans s1
      have z6 := (HVb.out.cell (p := ⟨q, 2, none⟩) hq).trans s2
      have z7 := (HVb.out.cell (p := ⟨q, 3, none⟩) hq).trans s3
      have z8 := (HVb.out.cell (p := ⟨q, 4, none⟩) hq).trans s4
      have lg : g < V.heap.size := Nat.lt_of_lt_of_le hg' HVb.out.size
      have lw : gw < V.heap.size := Nat.lt_of_lt_of_le hgw' HVb.out.size
      have lq : q < V.heap.size := Nat.lt_of_lt_of_le hq HVb.out.size
      clear y0 y1 y2 yw s0 s1 s2 s3 s4 hg' hgw' hq
      go_region_held3 (fun V' => V'.cell? ⟨g, k * 3, none⟩ = some (.int .i64 t.kind) ∧ V'.cell? ⟨g, k * 3 + 1, none⟩ = some (.string t.name) ∧ V'.cell? ⟨g, k * 3 + 2, none⟩ = some (.slice pa t.kids.length pc) ∧ V'.cell? ⟨gw, k, none⟩ = some (.string wt) ∧ V'.cell? ⟨q, 0, none⟩ = some (.slice none 0 0) ∧ V'.cell? ⟨q, 1, none⟩ = some (.slice (some ⟨g2, 0, none⟩) 0 2) ∧ V'.cell? ⟨q, 2, none⟩ = some (.int .i64 t.kind) ∧ V'.cell? ⟨q, 3, none⟩ = some (.string t.name) ∧ V'.cell? ⟨q, 4, none⟩ = some (.slice pa t.kids.length pc)) (first | exact ⟨z0, z1, z2, z3, z4, z5, z6, z7, z8⟩ | exact ⟨(hb2.cell (p := ⟨g, k * 3, none⟩) lg).trans z0, (hb2.cell (p := ⟨g, k * 3 + 1, none⟩) lg).trans z1, (hb2.cell (p := ⟨g, k * 3 + 2, none⟩) lg).trans z2, (hb2.cell (p := ⟨gw, k, none⟩) lw).trans z3, (hb2.cell (p := ⟨q, 0, none⟩) lq).trans z4, (hb2.cell (p := ⟨q, 1, none⟩) lq).trans z5, (hb2.cell (p := ⟨q, 2, none⟩) lq).trans z6, (hb2.cell (p := ⟨q, 3, none⟩) lq).trans z7, (hb2.cell (p := ⟨q, 4, none⟩) lq).trans z8⟩ | exact ⟨(hb3.cell (p := ⟨g, k * 3, none⟩) (Nat.lt_of_lt_of_le lg hb2.size)).trans ((hb2.cell (p := ⟨g, k * 3, none⟩) lg).trans z0), (hb3.cell (p := ⟨g, k * 3 + 1, none⟩) (Nat.lt_of_lt_of_le lg hb2.size)).trans ((hb2.cell (p := ⟨g, k * 3 + 1, none⟩) lg).trans z1), (hb3.cell (p := ⟨g, k * 3 + 2, none⟩) (Nat.lt_of_lt_of_le lg hb2.size)).trans ((hb2.cell (p := ⟨g, k * 3 + 2, none⟩) lg).trans z2), (hb3.cell (p := ⟨gw, k, none⟩) (Nat.lt_of_lt_of_le lw hb2.size)).trans ((hb2.cell (p := ⟨gw, k, none⟩) lw).trans z3), (hb3.cell (p := ⟨q, 0, none⟩) (Nat.lt_of_lt_of_le lq hb2.size)).trans ((hb2.cell (p := ⟨q, 0, none⟩) lq).trans z4), (hb3.cell (p := ⟨q, 1, none⟩) (Nat.lt_of_lt_of_le lq hb2.size)).trans ((hb2.cell (p := ⟨q, 1, none⟩) lq).trans z5), (hb3.cell (p := ⟨q, 2, none⟩) (Nat.lt_of_lt_of_le lq hb2.size)).trans ((hb2.cell (p := ⟨q, 2, none⟩) lq).trans z6), (hb3.cell (p := ⟨q, 3, none⟩) (Nat.lt_of_lt_of_le lq hb2.size)).trans ((hb2.cell (p := ⟨q, 3, none⟩) lq).trans z7), (hb3.cell (p := ⟨q, 4, none⟩) (Nat.lt_of_lt_of_le lq hb2.size)).trans ((hb2.cell (p := ⟨q, 4, none⟩) lq).trans z8)⟩)
        (first
          | (go_at_call 8; refine (HTy.out _ ?kk).mono ?_; (case kk => exact fun a b c h => KeepT.of_below HVb.out a b c h); rintro e w2 ⟨rfl, hb2⟩)
          | (go_at_call 10; refine (HSc.out _ ?kk ?kp).mono ?_; (case kk => exact fun a b c h => KeepT.of_below hb2 a b c (KeepT.of_below HVb.out a b c h)); (case kp => exact fun a b c h => KeepP.of_below hb2 a b c (KeepP.of_below HVb.out a b c h)); rintro e w3 ⟨rfl, hb3⟩))
      all_goals go_wp2
      all_goals go_ret
      all_goals exact ⟨rfl, ((HBc.out.trans (HVb.out.mono HBc.out.size)).drew.trans (hb2.mono (HBc.out.trans (HVb.out.mono HBc.out.size)).size)).trans (hb3.mono ((HBc.out.trans (HVb.out.mono HBc.out.size)).drew.trans (hb2.mono (HBc.out.trans (HVb.out.mono HBc.out.size)).size)).size)⟩
    · have hd' := HD.out
      simp only [headL, List.getElem_cons_zero, List.getElem_cons_succ] at hd'
      subst hd'
      simp at hk3
      clear HD hri hr0 hr
      have hs1 : ¬ (9223372036854775807 < 14 + wt.size) := by omega
      have hs2 : 14 + wt.size ≤ 9223372036854775807 := by omega
      have hs3 : wt.size ≤ 9223372036854775807 := by omega
      have hadd : ∀ V : World, (Op.stringOp .add ⟨#[67, 32, 40, 76, 105, 115, 116, 32, 97, 41, 32, 61, 62, 32]⟩ wt).run Try.prog V = .ok (.string (⟨#[67, 32, 40, 76, 105, 115, 116, 32, 97, 41, 32, 61, 62, 32]⟩ ++ wt)) V := fun V => run_string_add_sum V _ _ (by have : (⟨#[67, 32, 40, 76, 105, 115, 116, 32, 97, 41, 32, 61, 62, 32]⟩ : ByteArray).size = 14 := rfl; rw [this]; omega)
      go_upto_region 14 with fail
      refine with_world (fun V => Below wc.heap.size wc V) ((Below.refl _ _).alloc (Nat.le_refl _) _) ?_
      rintro V hV
      have HVb := Lib.hid hV; clear hV
      have z0 := (HVb.out.cell (p := ⟨g, k * 3, none⟩) hg').trans y0
      have z1 := (HVb.out.cell (p := ⟨g, k * 3 + 1, none⟩) hg').trans y1
      have z2 := (HVb.out.cell (p := ⟨g, k * 3 + 2, none⟩) hg').trans y2
      have z3 := (HVb.out.cell (p := ⟨gw, k, none⟩) hgw').trans yw
      have z4 := (HVb.out.cell (p := ⟨q, 0, none⟩) hq).trans s0
      have z5 := (HVb.out.cell (p := ⟨q, 1, none⟩) hq).trans s1
      have z6 := (HVb.out.cell (p := ⟨q, 2, none⟩) hq).trans s2
      have z7 := (HVb.out.cell (p := ⟨q, 3, none⟩) hq).trans s3
      have z8 := (HVb.out.cell (p := ⟨q, 4, none⟩) hq).trans s4
      have lg : g < V.heap.size := Nat.lt_of_lt_of_le hg' HVb.out.size
      have lw : gw < V.heap.size := Nat.lt_of_lt_of_le hgw' HVb.out.size
      have lq : q < V.heap.size := Nat.lt_of_lt_of_le hq HVb.out.size
      clear y0 y1 y2 yw s0 s1 s2 s3 s4 hg' hgw' hq
      go_region_held3 (fun V' => V'.cell? ⟨g, k * 3, none⟩ = some (.int .i64 t.kind) ∧ V'.cell? ⟨g, k * 3 + 1, none⟩ = some (.string t.name) ∧ V'.cell? ⟨g, k * 3 + 2, none⟩ = some (.slice pa t.kids.length pc) ∧ V'.cell? ⟨gw, k, none⟩ = some (.string wt) ∧ V'.cell? ⟨q, 0, none⟩ = some (.slice none 0 0) ∧ V'.cell? ⟨q, 1, none⟩ = some (.slice (some ⟨g2, 0, none⟩) 1 2) ∧ V'.cell? ⟨q, 2, none⟩ = some (.int .i64 t.kind) ∧ V'.cell? ⟨q, 3, none⟩ = some (.string t.name) ∧ V'.cell? ⟨q, 4, none⟩ = some (.slice pa t.kids.length pc)) (first | exact ⟨z0, z1, z2, z3, z4, z5, z6, z7, z8⟩ | exact ⟨(hb2.cell (p := ⟨g, k * 3, none⟩) lg).trans z0, (hb2.cell (p := ⟨g, k * 3 + 1, none⟩) lg).trans z1, (hb2.cell (p := ⟨g, k * 3 + 2, none⟩) lg).trans z2, (hb2.cell (p := ⟨gw, k, none⟩) lw).trans z3, (hb2.cell (p := ⟨q, 0, none⟩) lq).trans z4, (hb2.cell (p := ⟨q, 1, none⟩) lq).trans z5, (hb2.cell (p := ⟨q, 2, none⟩) lq).trans z6, (hb2.cell (p := ⟨q, 3, none⟩) lq).trans z7, (hb2.cell (p := ⟨q, 4, none⟩) lq).trans z8⟩ | exact ⟨(hb3.cell (p := ⟨g, k * 3, none⟩) (Nat.lt_of_lt_of_le lg hb2.size)).trans ((hb2.cell (p := ⟨g, k * 3, none⟩) lg).trans z0), (hb3.cell (p := ⟨g, k * 3 + 1, none⟩) (Nat.lt_of_lt_of_le lg hb2.size)).trans ((hb2.cell (p := ⟨g, k * 3 + 1, none⟩) lg).trans z1), (hb3.cell (p := ⟨g, k * 3 + 2, none⟩) (Nat.lt_of_lt_of_le lg hb2.size)).trans ((hb2.cell (p := ⟨g, k * 3 + 2, none⟩) lg).trans z2), (hb3.cell (p := ⟨gw, k, none⟩) (Nat.lt_of_lt_of_le lw hb2.size)).trans ((hb2.cell (p := ⟨gw, k, none⟩) lw).trans z3), (hb3.cell (p := ⟨q, 0, none⟩) (Nat.lt_of_lt_of_le lq hb2.size)).trans ((hb2.cell (p := ⟨q, 0, none⟩) lq).trans z4), (hb3.cell (p := ⟨q, 1, none⟩) (Nat.lt_of_lt_of_le lq hb2.size)).trans ((hb2.cell (p := ⟨q, 1, none⟩) lq).trans z5), (hb3.cell (p := ⟨q, 2, none⟩) (Nat.lt_of_lt_of_le lq hb2.size)).trans ((hb2.cell (p := ⟨q, 2, none⟩) lq).trans z6), (hb3.cell (p := ⟨q, 3, none⟩) (Nat.lt_of_lt_of_le lq hb2.size)).trans ((hb2.cell (p := ⟨q, 3, none⟩) lq).trans z7), (hb3.cell (p := ⟨q, 4, none⟩) (Nat.lt_of_lt_of_le lq hb2.size)).trans ((hb2.cell (p := ⟨q, 4, none⟩) lq).trans z8)⟩)
        (first
          | (go_at_call 8; refine (HTy.out _ ?kk).mono ?_; (case kk => exact fun a b c h => KeepT.of_below HVb.out a b c h); rintro e w2 ⟨rfl, hb2⟩)
          | (go_at_call 10; refine (HSc.out _ ?kk ?kp).mono ?_; (case kk => exact fun a b c h => KeepT.of_below hb2 a b c (KeepT.of_below HVb.out a b c h)); (case kp => exact fun a b c h => KeepP.of_below hb2 a b c (KeepP.of_below HVb.out a b c h)); rintro e w3 ⟨rfl, hb3⟩))
      all_goals go_wp2
      all_goals go_ret
      all_goals exact ⟨rfl, ((HBc.out.trans (HVb.out.mono HBc.out.size)).drew.trans (hb2.mono (HBc.out.trans (HVb.out.mono HBc.out.size)).size)).trans (hb3.mono ((HBc.out.trans (HVb.out.mono HBc.out.size)).drew.trans (hb2.mono (HBc.out.trans (HVb.out.mono HBc.out.size)).size)).size)⟩
    · have hd' := HD.out
      simp only [headL, List.getElem_cons_zero, List.getElem_cons_succ] at hd'
      subst hd'
      simp at hk3
      clear HD hri hr0 hr
      have hs1 : ¬ (9223372036854775807 < 21 + wt.size) := by omega
      have hs2 : 21 + wt.size ≤ 9223372036854775807 := by omega
      have hs3 : wt.size ≤ 9223372036854775807 := by omega
      have hadd : ∀ V : World, (Op.stringOp .add ⟨#[40, 67, 32, 40, 76, 105, 115, 116, 32, 97, 41, 44, 32, 68, 32, 97, 41, 32, 61, 62, 32]⟩ wt).run Try.prog V = .ok (.string (⟨#[40, 67, 32, 40, 76, 105, 115, 116, 32, 97, 41, 44, 32, 68, 32, 97, 41, 32, 61, 62, 32]⟩ ++ wt)) V := fun V => run_string_add_sum V _ _ (by have : (⟨#[40, 67, 32, 40, 76, 105, 115, 116, 32, 97, 41, 44, 32, 68, 32, 97, 41, 32, 61, 62, 32]⟩ : ByteArray).size = 21 := rfl; rw [this]; omega)
      go_upto_region 14 with fail
      refine with_world (fun V => Below wc.heap.size wc V) ((Below.refl _ _).alloc (Nat.le_refl _) _) ?_
      rintro V hV
      have HVb := Lib.hid hV; clear hV
      have z0 := (HVb.out.cell (p := ⟨g, k * 3, none⟩) hg').trans y0
      have z1 := (HVb.out.cell (p := ⟨g, k * 3 + 1, none⟩) hg').trans y1
      have z2 := (HVb.out.cell (p := ⟨g, k * 3 + 2, none⟩) hg').trans y2
      have z3 := (HVb.out.cell (p := ⟨gw, k, none⟩) hgw').trans yw
      have z4 := (HVb.out.cell (p := ⟨q, 0, none⟩) hq).trans s0
      have z5 := (HVb.out.cell (p := ⟨q, 1, none⟩) hq).trans s1
      have z6 := (HVb.out.cell (p := ⟨q, 2, none⟩) hq).trans s2
      have z7 := (HVb.out.cell (p := ⟨q, 3, none⟩) hq).trans s3
      have z8 := (HVb.out.cell (p := ⟨q, 4, none⟩) hq).trans s4
      have lg : g < V.heap.size := Nat.lt_of_lt_of_le hg' HVb.out.size
      have lw : gw < V.heap.size := Nat.lt_of_lt_of_le hgw' HVb.out.size
      have lq : q < V.heap.size := Nat.lt_of_lt_of_le hq HVb.out.size
      clear y0 y1 y2 yw s0 s1 s2 s3 s4 hg' hgw' hq
      go_region_held3 (fun V' => V'.cell? ⟨g, k * 3, none⟩ = some (.int .i64 t.kind) ∧ V'.cell? ⟨g, k * 3 + 1, none⟩ = some (.string t.name) ∧ V'.cell? ⟨g, k * 3 + 2, none⟩ = some (.slice pa t.kids.length pc) ∧ V'.cell? ⟨gw, k, none⟩ = some (.string wt) ∧ V'.cell? ⟨q, 0, none⟩ = some (.slice none 0 0) ∧ V'.cell? ⟨q, 1, none⟩ = some (.slice (some ⟨g2, 0, none⟩) 2 2) ∧ V'.cell? ⟨q, 2, none⟩ = some (.int .i64 t.kind) ∧ V'.cell? ⟨q, 3, none⟩ = some (.string t.name) ∧ V'.cell? ⟨q, 4, none⟩ = some (.slice pa t.kids.length pc)) (first | exact ⟨z0, z1, z2, z3, z4, z5, z6, z7, z8⟩ | exact ⟨(hb2.cell (p := ⟨g, k * 3, none⟩) lg).trans z0, (hb2.cell (p := ⟨g, k * 3 + 1, none⟩) lg).trans z1, (hb2.cell (p := ⟨g, k * 3 + 2, none⟩) lg).trans z2, (hb2.cell (p := ⟨gw, k, none⟩) lw).trans z3, (hb2.cell (p := ⟨q, 0, none⟩) lq).trans z4, (hb2.cell (p := ⟨q, 1, none⟩) lq).trans z5, (hb2.cell (p := ⟨q, 2, none⟩) lq).trans z6, (hb2.cell (p := ⟨q, 3, none⟩) lq).trans z7, (hb2.cell (p := ⟨q, 4, none⟩) lq).trans z8⟩ | exact ⟨(hb3.cell (p := ⟨g, k * 3, none⟩) (Nat.lt_of_lt_of_le lg hb2.size)).trans ((hb2.cell (p := ⟨g, k * 3, none⟩) lg).trans z0), (hb3.cell (p := ⟨g, k * 3 + 1, none⟩) (Nat.lt_of_lt_of_le lg hb2.size)).trans ((hb2.cell (p := ⟨g, k * 3 + 1, none⟩) lg).trans z1), (hb3.cell (p := ⟨g, k * 3 + 2, none⟩) (Nat.lt_of_lt_of_le lg hb2.size)).trans ((hb2.cell (p := ⟨g, k * 3 + 2, none⟩) lg).trans z2), (hb3.cell (p := ⟨gw, k, none⟩) (Nat.lt_of_lt_of_le lw hb2.size)).trans ((hb2.cell (p := ⟨gw, k, none⟩) lw).trans z3), (hb3.cell (p := ⟨q, 0, none⟩) (Nat.lt_of_lt_of_le lq hb2.size)).trans ((hb2.cell (p := ⟨q, 0, none⟩) lq).trans z4), (hb3.cell (p := ⟨q, 1, none⟩) (Nat.lt_of_lt_of_le lq hb2.size)).trans ((hb2.cell (p := ⟨q, 1, none⟩) lq).trans z5), (hb3.cell (p := ⟨q, 2, none⟩) (Nat.lt_of_lt_of_le lq hb2.size)).trans ((hb2.cell (p := ⟨q, 2, none⟩) lq).trans z6), (hb3.cell (p := ⟨q, 3, none⟩) (Nat.lt_of_lt_of_le lq hb2.size)).trans ((hb2.cell (p := ⟨q, 3, none⟩) lq).trans z7), (hb3.cell (p := ⟨q, 4, none⟩) (Nat.lt_of_lt_of_le lq hb2.size)).trans ((hb2.cell (p := ⟨q, 4, none⟩) lq).trans z8)⟩)
        (first
          | (go_at_call 8; refine (HTy.out _ ?kk).mono ?_; (case kk => exact fun a b c h => KeepT.of_below HVb.out a b c h); rintro e w2 ⟨rfl, hb2⟩)
          | (go_at_call 10; refine (HSc.out _ ?kk ?kp).mono ?_; (case kk => exact fun a b c h => KeepT.of_below hb2 a b c (KeepT.of_below HVb.out a b c h)); (case kp => exact fun a b c h => KeepP.of_below hb2 a b c (KeepP.of_below HVb.out a b c h)); rintro e w3 ⟨rfl, hb3⟩))
      all_goals go_wp2
      all_goals go_ret
      all_goals exact ⟨rfl, ((HBc.out.trans (HVb.out.mono HBc.out.size)).drew.trans (hb2.mono (HBc.out.trans (HVb.out.mono HBc.out.size)).size)).trans (hb3.mono ((HBc.out.trans (HVb.out.mono HBc.out.size)).drew.trans (hb2.mono (HBc.out.trans (HVb.out.mono HBc.out.size)).size)).size)⟩
end Go.Proofs.Ytlfbmbbfcijedaa
