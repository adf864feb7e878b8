/- Merged: ScRen, ScClo, ScCanR, ScCanS, ScCan, UfPure, UfMost, UfEnds, UfList, TyHas, UfGood, UfRThen, UfRBind, UfRUni, UfRAll, UfSee, UfLaws, SfA, FrP, FrS, SfB. -/
import Derived.Test.YtjnlchhikdfifaaDoorVb1
import Derived.Test.YtjnlchhikdfifaaDoorVa1
import Derived.Test.YtjnlchhikdfifaaDoorVa3
import Derived.Test.YtjnlchhikdfifaaDoorVa5
import Derived.Deep.RegionLaw
import Derived.Stop.RegionWithIn
import Derived.WalkKit
import Derived.LaidEql
import Derived.Deep.RegionWith
import Derived.Test.YtjnlchhikdfifaaDoorProg
import Derived.Lib.Hide
import Derived.Test.YtjnlchhikdfifaaDoorVa2
import Derived.Test.YtjnlchhikdfifaaDoorVa4
/- scheme.rename: names in variables' places, in a scheme without a context. -/
namespace Go.Proofs.YtjnlchhikdfifaaDoor
open Go.RowKit Go.Sort Go.Lib
attribute [local go_sem] Oper.semAt_some

set_option maxRecDepth 100000 in
set_option maxHeartbeats 8000000 in
theorem sren_any (t : T) (F G : List ByteArray) (hFG : F.length = G.length) (hl : F.length < 20) (hsz : tsize t ≤ 1000000000) (xv : Value) (xa ta fa ga : Option Addr) (xc tc fc gc : Nat) (w : World) (ht : TysAt w (.slice ta t.kids.length tc) t.kids) (hF : StrsP (.slice fa F.length fc) F w) (hG : StrsP (.slice ga G.length gc) G w) :
    Calls Tryd.prog 34 #[.agg #[xv, .slice xa 0 xc, .int .i64 t.kind, .string t.name, .slice ta t.kids.length tc], .slice fa F.length fc, .slice ga G.length gc] w fun e w' =>
      (∃ pa pc za zc, e = .returned (.agg #[.slice ga G.length gc, .slice pa 0 pc, .int .i64 (app (prs F G) t).kind, .string (app (prs F G) t).name, .slice za (app (prs F G) t).kids.length zc]) ∧ TysAt w' (.slice za (app (prs F G) t).kids.length zc) (app (prs F G) t).kids) ∧ Below w.heap.size w w' := by
  obtain ⟨k, hk⟩ : ∃ k, F.length = k := ⟨_, rfl⟩
  have hmk := make_row4 k (by omega)
  have HT := Lib.hid ht; have HF := Lib.hid hF; have HG := Lib.hid hG
  have hGk : G.length = k := by omega
  rw [hk] at HF
  rw [hGk] at HG
  have HK := Lib.hid (And.intro hk hGk)
  rw [hk, hGk]
  have hk20 : k < 20 := by omega
  clear ht hF hG hFG hk hGk
  go_enter Tryd.func34, Tryd.ntmps34
  go_wp2
  go_loopw [16] (fun vi wr => ∃ (i : Nat) (ls : List PR), i ≤ k ∧ vi = .int .i64 i ∧ Hid (ls.length = i ∧ ∀ j, j < i → (ls.getD j noP).n = F.getD j ⟨#[]⟩ ∧ (ls.getD j noP).t = .var (G.getD j ⟨#[]⟩)) ∧ Hid (RowK (w.heap.size + 1 + 1) k ls wr) ∧ Hid (Below w.heap.size w wr) ∧
    Hid (wr.heap[w.heap.size]? = some (.cells #[xv, .slice xa 0 xc, .int .i64 t.kind, .string t.name, .slice ta t.kids.length tc] 42 (0, 0)) ∧ wr.heap[w.heap.size + 1]? = some (.cells #[.slice none 0 0, .slice none 0 0, .int .i64 0, .string ⟨#[]⟩, .slice none 0 0] 42 (0, 0)))) (fun vi _ => k - (intOf vi).toNat)
  case atStart =>
    obtain ⟨n1, n2, n3⟩ := new_three w (.cells #[xv, .slice xa 0 xc, .int .i64 t.kind, .string t.name, .slice ta t.kids.length tc] 42) (.cells #[.slice none 0 0, .slice none 0 0, .int .i64 0, .string ⟨#[]⟩, .slice none 0 0] 42) (.cells (zeros4 k) 82)
    exact ⟨0, [], Nat.zero_le _, rfl, Lib.hid ⟨rfl, fun j hj => absurd hj (Nat.not_lt_zero _)⟩, Lib.hid (RowK.start _ _ _ n3), Lib.hid (below_three w _ _ _), Lib.hid ⟨n1, n2⟩⟩
  case round =>
    obtain ⟨i, ls, hi, rfl, hL, hRow, hB, hbx⟩ := hrel
    have lG := hRow.out.lt
    by_cases hlt : i < k
    · obtain ⟨gF, oF, rfl, lF, cF⟩ := HF.out.at (by have := HK.out.1; omega)
      obtain ⟨gG, oG, rfl, lG', cG⟩ := HG.out.at (by have := HK.out.2; omega)
      have xF := (hB.out.cell (p := ⟨gF, oF + i, none⟩) lF).trans (cF i (by have := HK.out.1; omega))
      have xG := (hB.out.cell (p := ⟨gG, oG + i, none⟩) lG').trans (cG i (by have := HK.out.2; omega))
      have HL := Lib.hid (fun (x : PR) (h1 : x.n = F.getD i ⟨#[]⟩) (h2 : x.t = .var (G.getD i ⟨#[]⟩)) => (show (ls ++ [x]).length = i + 1 ∧ ∀ j, j < i + 1 → ((ls ++ [x]).getD j noP).n = F.getD j ⟨#[]⟩ ∧ ((ls ++ [x]).getD j noP).t = .var (G.getD j ⟨#[]⟩) from
        ⟨by simp [hL.out.1], fun j hj => by
          by_cases e : j = i
          · subst e
            have e2 : (ls ++ [x]).getD j noP = x := by simp [List.getD, ← hL.out.1]
            rw [e2]; exact ⟨h1, h2⟩
          · have hj' : j < ls.length := by rw [hL.out.1]; omega
            have e2 : (ls ++ [x]).getD j noP = ls.getD j noP := by simp [List.getD, List.getElem?_append_left hj']
            rw [e2]; exact hL.out.2 j (by omega)⟩))
      generalize F.getD i ⟨#[]⟩ = f at xF HL
      generalize G.getD i ⟨#[]⟩ = q at xG HL
      have HV := Lib.hid (fun W => tvar_any q W)
      have hiz : (i : Int) < (k : Int) := by omega
      have hll := Lib.hid hL.out.1
      clear cF cG hmk
      simp only [tyV] at HV
      go_wp2_with (go_at_call 47; fail)
      refine (HV.out _).mono ?_
      rintro e w4 ⟨⟨u, rfl, hu⟩, hb4⟩
      obtain ⟨ua, uc, rfl⟩ := hu.shape
      have HB4 := Lib.hid hb4
      have hR4 := Lib.hid (hRow.out.below hb4)
      obtain ⟨o0, o1, o2, o3, c0, c1, c2, c3⟩ := hR4.out.cells hlt
      have f0 := hR4.out.row.free (i * 4); have f1 := hR4.out.row.free (i * 4 + 1); have f2 := hR4.out.row.free (i * 4 + 2); have f3 := hR4.out.row.free (i * 4 + 3)
      clear hb4 hu
      go_wp2
      have HP := hR4.out.push (by have := hll.out; omega) (⟨f, .var q, ua, uc⟩ : PR)
      rw [hll.out] at HP
      have HF4 := Lib.hid ((Fr.of_below (g := w.heap.size + 1 + 1) HB4.out).trans (Fr.set4 (w.heap.size + 1 + 1) i w4 (⟨f, .var q, ua, uc⟩ : PR)))
      go_roundw
      case rel => exact ⟨i + 1, ls ++ [⟨f, .var q, ua, uc⟩], by omega, by go_num, Lib.hid (HL.out _ rfl rfl), Lib.hid HP, Lib.hid (hB.out.trans (HF4.out.below (by omega) hB.out.size)), Lib.hid ⟨(HF4.out.2 _ (by omega) (by omega)).trans hbx.out.1, (HF4.out.2 _ (by omega) (by omega)).trans hbx.out.2⟩⟩
      case measure => simp [intOf]; omega
    · have hki : i = k := by omega
      subst hki
      have hll := hL.out.1
      have HCp : Hid (Copy ls (prs F G)) := Lib.hid ⟨by rw [hll, prs_len]; have h1 := HK.out.1; have h2 := HK.out.2; omega, fun j hj => by
        have hj' : j < i := by rw [← hll]; exact hj
        obtain ⟨e1, e2⟩ := prs_get F G j (by have h1 := HK.out.1; have h2 := HK.out.2; omega)
        rw [e1, e2]; exact hL.out.2 j hj'⟩
      have HV : Hid (∀ x ∈ ls, ∃ q, x.t = .var q) := Lib.hid fun x hx => by
        obtain ⟨j, hj, rfl⟩ := List.mem_iff_getElem.1 hx
        have := (hL.out.2 j (by rw [← hll]; exact hj)).2
        exact ⟨_, by simpa [List.getD, hj] using this⟩
      have HSz : Hid (SizedAll ls ∧ FitsAll ls) := Lib.hid ⟨fun x hx => by obtain ⟨q, e⟩ := HV.out x hx; rw [e]; exact (by decide : (1 : Nat) ≤ 1000000000), fun x hx => by obtain ⟨q, e⟩ := HV.out x hx; rw [e]; exact .mk _ (show (0 : Nat) < 1152921504606846976 by decide) (fun k hk => by cases hk)⟩
      have HTy : Hid (∀ W, Typ ls W) := Lib.hid fun W x hx => by obtain ⟨q, e⟩ := HV.out x hx; rw [e]; exact TysAt.nil _ _ _
      have hof := of_all (w.heap.size + 1 + 1) i ls wr hRow.out.row (HTy.out _) HSz.out.2 HSz.out.1 (by have h1 := HK.out.1; have h2 := HK.out.2; omega)
      rw [hll] at hof
      have HOf := Lib.hid hof
      have HTw := Lib.hid (HT.out.keep (KeepT.of_below hB.out))
      have HE := Lib.hid (fun (l : List PR) (hg : Made ls l) => app_congr (d := l) (d' := prs F G) (fun n => by rw [hg.same n]; unfold ty; rw [HCp.out.lk]) t)
      have HLen := Lib.hid hll
      clear hmk hL HV HF HG HT hof hll
      go_wp2_with (go_at_call 48; fail)
      refine HOf.out.mono ?_
      rintro e w4 ⟨⟨sv, l, rfl, hs, hm⟩, hb4⟩
      obtain ⟨sa, sc, rfl⟩ := hs.shape
      have hb5 := hb4.alloc hb4.size (.cells #[.slice sa l.length sc] 59)
      have hx0 := (hb5.block w.heap.size (by omega)).trans hbx.out.1
      have hx1 := (hb5.block (w.heap.size + 1) (by omega)).trans hbx.out.2
      have hS := (show SR w w.heap.size (w.heap.size + 1) w4.heap.size xv (.slice xa 0 xc) t ta tc sa sc l (w4.alloc (.cells #[.slice sa l.length sc] 59)) from ⟨⟨hx0, HTw.out.keep (KeepT.of_below hb5)⟩, hx1, BoxS.new hs, hB.out.trans (hb5.mono hB.out.size)⟩)
      have HS := Lib.hid hS; have HM := Lib.hid hm
      have hz5 : w.heap.size + 1 + 1 < w4.heap.size := Nat.lt_of_lt_of_le lG hb4.size
      clear hs hm hb4 hb5 hx0 hx1 hbx hRow HTw HTy HOf hB HCp hS
      go_wp2_with (fail)
      refine srn_here (w := w) (b3 := w.heap.size) (b6 := w.heap.size + 1) (b10 := w4.heap.size) (xv := xv) (xa := xa) (ta := ta) (sa := sa) (ga := ga) (xc := xc) (tc := tc) (sc := sc) (gn := i) (gc := gc) (t := t) (l := l)
        (fun V h => (preds0_any (.slice sa l.length sc) xa xc V).mono fun e Y hq => by
          obtain ⟨⟨a', rfl⟩, hb⟩ := hq
          exact ⟨⟨a', rfl, trivial⟩, hb⟩)
        (fun V h => (apply_any (d := l) (t := t) (s := .slice sa l.length sc) (w := V) (by have := HM.out.len; have h1 := HK.out.1; have := HLen.out; omega) (fun x hx => by obtain ⟨y, hy, _, e⟩ := HM.out.sub x hx; rw [e]; exact HSz.out.1 y hy) hsz h.2.2.1.2 h.1.2).mono fun e Y hq => by
          obtain ⟨⟨za, zc, rfl, hin⟩, hb⟩ := hq
          exact ⟨⟨za, zc, rfl, hin.tys⟩, hb⟩)
        _ (by kernel_rfl) (by kernel_rfl) (by kernel_rfl) (by kernel_rfl) (by kernel_rfl) (by kernel_rfl) (HS.out.below (below_d _)) ?_
      intro x V zp za zc hV hT
      have HE2 := HE.out l HM.out
      have hc := cells5 (set5_block hV.2.1 (.slice ga i gc) (.slice (some zp) 0 0) (.int .i64 (app l t).kind) (.string (app l t).name) (.slice za (app l t).kids.length zc))
      have hkt : KeepT V (set5 V (w.heap.size + 1) (.slice ga i gc) (.slice (some zp) 0 0) (.int .i64 (app l t).kind) (.string (app l t).name) (.slice za (app l t).kids.length zc)) := fun k cs fz hk => (set5_other _ _ _ _ _ _ _ (fun e => by subst e; rw [hV.2.1] at hk; simp at hk)).trans hk
      have HEnd := Lib.hid (And.intro (hT.keep hkt) (below_set5 hV.2.2.2 (show w.heap.size ≤ w.heap.size + 1 by omega) (.slice ga i gc) (.slice (some zp) 0 0) (.int .i64 (app l t).kind) (.string (app l t).name) (.slice za (app l t).kids.length zc)))
      generalize set5 V (w.heap.size + 1) (.slice ga i gc) (.slice (some zp) 0 0) (.int .i64 (app l t).kind) (.string (app l t).name) (.slice za (app l t).kids.length zc) = Z at *
      rw [HE2] at hc HEnd
      clear hkt hV hT
      simp only [srnFr]
      simp only [Array.getD_eq_getD_getElem?, List.getElem?_toArray, List.getElem?_cons_succ, List.getElem?_cons_zero, Option.getD_some]
      go_wp2
      exact bodyPost_ret (v := .agg #[.slice ga i gc, .slice (some zp) 0 0, .int .i64 (app (prs F G) t).kind, .string (app (prs F G) t).name, .slice za (app (prs F G) t).kids.length zc]) (by simp [results, Tryd.results34, go_sem, hc.1, hc.2.1, hc.2.2.1, hc.2.2.2.1, hc.2.2.2.2]) rfl ⟨⟨_, _, _, _, rfl, HEnd.out.1⟩, HEnd.out.2⟩
end Go.Proofs.YtjnlchhikdfifaaDoor
/- scheme.Close of a type without a context; scheme.Free. -/
namespace Go.Proofs.YtjnlchhikdfifaaDoor
open Go.RowKit Go.Sort Go.Lib
attribute [local go_sem] Oper.semAt_some

theorem filter_size {l : List ByteArray} {p : ByteArray → Bool} {N : Nat} (h : ∀ n ∈ l, n.size ≤ N) : ∀ n ∈ l.filter p, n.size ≤ N := fun n hn => h n (List.mem_filter.1 hn).1
end Go.Proofs.YtjnlchhikdfifaaDoor
/- scheme: its last statement, a region of 13 operations that draws its order, by an invariant. (Made by a program.) -/
namespace Go.Proofs.YtjnlchhikdfifaaDoor
open Go.RowKit Go.Sort Go.Lib
attribute [local go_sem] Oper.semAt_some

def scnFr (b : Nat → Value) (d : List Deferred) (x : Nat → Value) : Act := { tmps := #[b 0, b 1, b 2, x 11, x 12, b 5, b 6, b 7, b 8, x 8, x 0, x 1, x 2, x 3, x 4, x 5, x 6, x 7, x 9, x 10, b 20, b 21, b 22, b 23, b 24, b 25, b 26, b 27, b 28, b 29, b 30, b 31], defers := d }

def scnVals (b1 : Nat) (xa ca ta : Option Addr) (xc cc tc : Nat) (xs : List ByteArray) (t : T) (i : Nat) (v : Value) (V : World) : Prop :=
  match i with
  | 0 => v = .pointer (some ⟨b1, 1, none⟩)
  | 1 => v = .slice ca 0 cc
  | 2 => v = .pointer (some ⟨b1, 2, none⟩)
  | 3 => v = .agg #[.int .i64 (t).kind, .string (t).name, .slice ta (t).kids.length tc]
  | 4 => ∃ za zc, v = .slice za (fvs [] [] [t]).length zc ∧ TextsAt V (.slice za (fvs [] [] [t]).length zc) (fvs [] [] [t])
  | 5 => v = .pointer (some ⟨b1, 0, none⟩)
  | 6 => v = .slice xa xs.length xc
  | 7 => ∃ zi zp zo zq, v = .tuple #[.slice zi ((fvs [] [] [t]).filter (inB xs)).length zp, .slice zo ((fvs [] [] [t]).filter fun n => !inB xs n).length zq] ∧ (TextsAt V (.slice zi ((fvs [] [] [t]).filter (inB xs)).length zp) ((fvs [] [] [t]).filter (inB xs)) ∧ TextsAt V (.slice zo ((fvs [] [] [t]).filter fun n => !inB xs n).length zq) ((fvs [] [] [t]).filter fun n => !inB xs n))
  | 8 => ∃ zi zp zo zq, v = .tuple #[.slice zi ((fvs [] [] [t]).filter (inB xs)).length zp, .slice zo ((fvs [] [] [t]).filter fun n => !inB xs n).length zq] ∧ (TextsAt V (.slice zi ((fvs [] [] [t]).filter (inB xs)).length zp) ((fvs [] [] [t]).filter (inB xs)) ∧ TextsAt V (.slice zo ((fvs [] [] [t]).filter fun n => !inB xs n).length zq) ((fvs [] [] [t]).filter fun n => !inB xs n))
  | 9 => ∃ zi zp, v = .slice zi ((fvs [] [] [t]).filter (inB xs)).length zp ∧ TextsAt V (.slice zi ((fvs [] [] [t]).filter (inB xs)).length zp) ((fvs [] [] [t]).filter (inB xs))
  | 10 => ∃ zo zq, v = .slice zo ((fvs [] [] [t]).filter fun n => !inB xs n).length zq ∧ TextsAt V (.slice zo ((fvs [] [] [t]).filter fun n => !inB xs n).length zq) ((fvs [] [] [t]).filter fun n => !inB xs n)
  | 11 => ∃ zi zp, v = .slice zi ((fvs [] [] [t]).filter (inB xs)).length zp ∧ TextsAt V (.slice zi ((fvs [] [] [t]).filter (inB xs)).length zp) ((fvs [] [] [t]).filter (inB xs))
  | 12 => ∃ zo zq, v = .slice zo ((fvs [] [] [t]).filter fun n => !inB xs n).length zq ∧ TextsAt V (.slice zo ((fvs [] [] [t]).filter fun n => !inB xs n).length zq) ((fvs [] [] [t]).filter fun n => !inB xs n)
  | _ => True

theorem scnVals_keep {b1 : Nat} {xa ca ta : Option Addr} {xc cc tc : Nat} {xs : List ByteArray} {t : T} (i : Nat) (v : Value) (V Y : World) (h : scnVals b1 xa ca ta xc cc tc xs t i v V) (hb : Below V.heap.size V Y) : scnVals b1 xa ca ta xc cc tc xs t i v Y := by
  unfold scnVals at *
  split at h <;> first
    | exact h
    | (obtain ⟨za, zc, e, h⟩ := h; exact ⟨za, zc, e, h.below hb⟩)
    | (obtain ⟨zi, zp, zo, zq, e, h⟩ := h; exact ⟨zi, zp, zo, zq, e, ⟨h.1.below hb, h.2.below hb⟩⟩)
    | (obtain ⟨zi, zp, e, h⟩ := h; exact ⟨zi, zp, e, h.below hb⟩)
    | (obtain ⟨zo, zq, e, h⟩ := h; exact ⟨zo, zq, e, h.below hb⟩)

end Go.Proofs.YtjnlchhikdfifaaDoor
/- scheme: its last statement, a region of 8 operations that draws its order, by an invariant. (Made by a program.) -/
namespace Go.Proofs.YtjnlchhikdfifaaDoor
open Go.RowKit Go.Sort Go.Lib
attribute [local go_sem] Oper.semAt_some

def schFr (b : Nat → Value) (d : List Deferred) (x : Nat → Value) : Act := { tmps := #[b 0, b 1, b 2, b 3, b 4, b 5, b 6, b 7, b 8, b 9, b 10, b 11, b 12, b 13, b 14, b 15, b 16, b 17, b 18, b 19, x 0, x 1, x 2, x 3, x 4, x 5, x 6, b 27, b 28, b 29, b 30, b 31], defers := d }

def schVals (xa ca ta ba oa : Option Addr) (xn xc cc tc bc oc : Nat) (bs os : List ByteArray) (t : T) (i : Nat) (v : Value) (V : World) : Prop :=
  match i with
  | 0 => v = .agg #[.slice xa xn xc, .slice ca 0 cc, .int .i64 t.kind, .string t.name, .slice ta t.kids.length tc]
  | 1 => v = .slice ba bs.length bc
  | 2 => v = .slice ba bs.length bc
  | 3 => v = .int .i64 (bs.length : Int)
  | 4 => v = .slice oa os.length oc
  | 5 => ∃ (zn : List ByteArray) (za : Option Addr) (zc : Nat), v = .slice za zn.length zc ∧ (TextsAt V (.slice za zn.length zc) zn ∧ NewN bs.length os zn)
  | 6 => ∃ (zn : List ByteArray) (za : Option Addr) (zc : Nat) (zp : Option Addr) (zq : Nat) (zt : Option Addr) (zu : Nat), v = .agg #[.slice za zn.length zc, .slice zp 0 zq, .int .i64 (app (prs bs zn) t).kind, .string (app (prs bs zn) t).name, .slice zt (app (prs bs zn) t).kids.length zu] ∧ ((TextsAt V (.slice za zn.length zc) zn ∧ NewN bs.length os zn) ∧ TysAt V (.slice zt (app (prs bs zn) t).kids.length zu) (app (prs bs zn) t).kids)
  | _ => True

theorem schVals_keep {xa ca ta ba oa : Option Addr} {xn xc cc tc bc oc : Nat} {bs os : List ByteArray} {t : T} (i : Nat) (v : Value) (V Y : World) (h : schVals xa ca ta ba oa xn xc cc tc bc oc bs os t i v V) (hb : Below V.heap.size V Y) : schVals xa ca ta ba oa xn xc cc tc bc oc bs os t i v Y := by
  unfold schVals at *
  split at h <;> first
    | exact h
    | (obtain ⟨zn, za, zc, e, h⟩ := h; exact ⟨zn, za, zc, e, ⟨h.1.below hb, h.2⟩⟩)
    | (obtain ⟨zn, za, zc, zp, zq, zt, zu, e, h⟩ := h; exact ⟨zn, za, zc, zp, zq, zt, zu, e, ⟨⟨h.1.1.below hb, h.1.2⟩, h.2.keep (KeepT.of_below hb)⟩⟩)

end Go.Proofs.YtjnlchhikdfifaaDoor
/- scheme.Canon of a scheme without a context. -/
namespace Go.Proofs.YtjnlchhikdfifaaDoor
open Go.RowKit Go.Sort Go.Lib
attribute [local go_sem] Oper.semAt_some

theorem SchB.set1 {b : Nat} {xv cv cv' : Value} {t : T} {ta : Option Addr} {tc : Nat} {V : World} (h : SchB b xv cv t ta tc V) : SchB b xv cv' t ta tc (V.setCell ⟨b, 1, none⟩ cv') :=
  ⟨blk_set (o := 1) h.1 cv', h.2.keep fun k cs fz hk => (Below.heap_setCell _ ⟨b, 1, none⟩ _ k (fun e => by
    have e' : k = b := e
    subst e'; rw [h.1] at hk; simp at hk)).trans hk⟩
theorem texts_set {b : Nat} {xv cv v : Value} {t : T} {ta : Option Addr} {tc o : Nat} {V : World} {u : Value} {l : List ByteArray} (h : SchB b xv cv t ta tc V) (hu : TextsAt V u l) : TextsAt (V.setCell ⟨b, o, none⟩ v) u l :=
  hu.keep fun k cs fz hk => (Below.heap_setCell _ ⟨b, o, none⟩ _ k (fun e => by
    have e' : k = b := e
    subst e'; rw [h.1] at hk; simp at hk)).trans hk
/-- A scheme in its block, and a block that is to hold one. -/
def SD (w : World) (b1 b2 : Nat) (xv cv : Value) (u : T) (zt : Option Addr) (zu : Nat) (ls : List ByteArray) (V : World) : Prop := SchB b1 xv cv u zt zu V ∧ Sch0 b2 V ∧ TextsAt V xv ls ∧ Below w.heap.size w V
theorem SD.below {w : World} {b1 b2 : Nat} {xv cv : Value} {u : T} {zt : Option Addr} {zu : Nat} {ls : List ByteArray} {V Y : World} (h : SD w b1 b2 xv cv u zt zu ls V) (hb : Below V.heap.size V Y) : SD w b1 b2 xv cv u zt zu ls Y := ⟨h.1.below hb, h.2.1.below hb, h.2.2.1.below hb, h.2.2.2.trans (hb.mono h.2.2.2.size)⟩
theorem SD.of5 {w W : World} {b1 b2 : Nat} {xv0 cv0 xv cv : Value} {t u : T} {ta zt : Option Addr} {tc zu : Nat} {ls : List ByteArray} (h1 : SchB b1 xv0 cv0 t ta tc W) (h2 : Sch0 b2 W) (h3 : TextsAt W xv ls) (h4 : TysAt W (.slice zt u.kids.length zu) u.kids) (hb : Below w.heap.size w W) (h12 : b2 ≠ b1) (hB : w.heap.size ≤ b1) : SD w b1 b2 xv cv u zt zu ls (set5 W b1 xv cv (.int .i64 u.kind) (.string u.name) (.slice zt u.kids.length zu)) :=
  ⟨⟨set5_block h1.1 _ _ _ _ _, h4.keep fun k cs fz hk => (set5_other _ _ _ _ _ _ _ (fun e => by subst e; rw [h1.1] at hk; simp at hk)).trans hk⟩, (set5_other _ _ _ _ _ _ _ h12).trans h2, h3.keep fun k cs fz hk => (set5_other _ _ _ _ _ _ _ (fun e => by subst e; rw [h1.1] at hk; simp at hk)).trans hk, below_set5 hb hB _ _ _ _ _⟩
theorem SD.set1 {w W : World} {b1 b2 : Nat} {xv cv cv' : Value} {u : T} {zt : Option Addr} {zu : Nat} {ls : List ByteArray} (h : SD w b1 b2 xv cv u zt zu ls W) (h12 : b2 ≠ b1) (hB : w.heap.size ≤ b1) : SD w b1 b2 xv cv' u zt zu ls (W.setCell ⟨b1, 1, none⟩ cv') :=
  ⟨h.1.set1, (Below.heap_setCell _ ⟨b1, 1, none⟩ _ _ h12).trans h.2.1, texts_set h.1 h.2.2.1, h.2.2.2.setCell (p := ⟨b1, 1, none⟩) hB _⟩
theorem SD.copy {w W : World} {b1 b2 : Nat} {xv cv : Value} {u : T} {zt : Option Addr} {zu : Nat} {ls : List ByteArray} (h : SD w b1 b2 xv cv u zt zu ls W) (hB : w.heap.size ≤ b2) : TextsAt (set5 W b2 xv cv (.int .i64 u.kind) (.string u.name) (.slice zt u.kids.length zu)) xv ls ∧ TysAt (set5 W b2 xv cv (.int .i64 u.kind) (.string u.name) (.slice zt u.kids.length zu)) (.slice zt u.kids.length zu) u.kids ∧ Below w.heap.size w (set5 W b2 xv cv (.int .i64 u.kind) (.string u.name) (.slice zt u.kids.length zu)) :=
  ⟨h.2.2.1.keep fun k cs fz hk => (set5_other _ _ _ _ _ _ _ (fun e => by subst e; rw [h.2.1] at hk; simp at hk)).trans hk, h.1.2.keep fun k cs fz hk => (set5_other _ _ _ _ _ _ _ (fun e => by subst e; rw [h.2.1] at hk; simp at hk)).trans hk, below_set5 h.2.2.2 hB _ _ _ _ _⟩
end Go.Proofs.YtjnlchhikdfifaaDoor
/- Two types as one, as plain data: what the chapter's way finds, that it ends, that it is the most general. -/
namespace Go.Proofs.YtjnlchhikdfifaaDoor

theorem T.kidsInd {P : T → Prop} (H : ∀ t, (∀ k ∈ t.kids, P k) → P t) : ∀ t, P t := by
  have key : ∀ n, ∀ t : T, SizeOf.sizeOf t ≤ n → P t := by
    intro n
    induction n with
    | zero => intro t ht; exact H t fun k hk => by have := T.kid_size hk; omega
    | succ n ih => intro t ht; exact H t fun k hk => ih k (by have := T.kid_size hk; omega)
  exact fun t => key _ t (Nat.le_refl _)
/-- Types for variables. -/
abbrev Sg := ByteArray → T
mutual
def sub (σ : Sg) : T → T
  | .var n => σ n
  | .con n l => .con n (subs σ l)
  | .fn a b => .fn (sub σ a) (sub σ b)
  | .all n a => .all n (sub σ a)
def subs (σ : Sg) : List T → List T
  | [] => []
  | a :: l => sub σ a :: subs σ l
end
theorem subs_map (σ : Sg) : ∀ l, subs σ l = l.map (sub σ)
  | [] => rfl
  | a :: l => by rw [subs, subs_map σ l]; rfl
def T.isV : T → Bool
  | .var _ => true
  | _ => false
theorem isV_var {t : T} (h : t.isV = true) : t = .var t.name := by cases t <;> simp_all [T.isV, T.name]
theorem sub_parts (σ : Sg) (t : T) (h : t.isV = false) : (sub σ t).kind = t.kind ∧ (sub σ t).name = t.name ∧ (sub σ t).kids = t.kids.map (sub σ) ∧ (sub σ t).isV = false := by
  cases t with
  | var n => simp [T.isV] at h
  | con n l => rw [sub, subs_map]; exact ⟨rfl, rfl, rfl, rfl⟩
  | fn a b => rw [sub]; exact ⟨rfl, rfl, rfl, rfl⟩
  | all n a => rw [sub]; exact ⟨rfl, rfl, rfl, rfl⟩
/-- Two that are no variables are the same by their heads and their parts. -/
theorem sub_congr {σ τ : Sg} {t : T} (h : t.isV = false) (hk : ∀ k ∈ t.kids, sub σ k = sub τ k) : sub σ t = sub τ t := by
  obtain ⟨a1, a2, a3, _⟩ := sub_parts σ t h
  obtain ⟨b1, b2, b3, _⟩ := sub_parts τ t h
  refine T.ext3 (a1.trans b1.symm) (a2.trans b2.symm) ?_
  rw [a3, b3]
  exact List.map_congr_left hk
mutual
/-- The variables that stand in a type. -/
def vs : T → List ByteArray
  | .var n => [n]
  | .con _ l => vss l
  | .fn a b => vs a ++ vs b
  | .all _ a => vs a
def vss : List T → List ByteArray
  | [] => []
  | a :: l => vs a ++ vss l
end
theorem vss_mem {x : ByteArray} : ∀ {l : List T}, x ∈ vss l ↔ ∃ k ∈ l, x ∈ vs k
  | [] => by simp [vss]
  | a :: l => by rw [vss, List.mem_append, vss_mem (l := l)]; simp
theorem vs_kids {x : ByteArray} {t : T} (h : t.isV = false) : x ∈ vs t ↔ ∃ k ∈ t.kids, x ∈ vs k := by
  cases t with
  | var n => simp [T.isV] at h
  | con n l => rw [vs, vss_mem]; rfl
  | fn a b => simp [vs, T.kids]
  | all n a => simp [vs, T.kids]
theorem sub_ext {σ τ : Sg} : ∀ t, (∀ x ∈ vs t, σ x = τ x) → sub σ t = sub τ t := by
  refine T.kidsInd fun t ih h => ?_
  by_cases hv : t.isV = true
  · rw [isV_var hv]; exact h _ (by rw [isV_var hv]; simp [vs, T.name])
  · have hv' : t.isV = false := by simpa using hv
    exact sub_congr hv' fun k hk => ih k hk fun x hx => h x ((vs_kids hv').2 ⟨k, hk, hx⟩)
theorem sub_var : ∀ t, sub T.var t = t := by
  refine T.kidsInd fun t ih => ?_
  by_cases hv : t.isV = true
  · rw [isV_var hv]; rfl
  · obtain ⟨a1, a2, a3, _⟩ := sub_parts T.var t (by simpa using hv)
    refine T.ext3 a1 a2 ?_
    rw [a3]
    conv => rhs; rw [← List.map_id t.kids]
    exact List.map_congr_left fun k hk => ih k hk
theorem sub_id {σ : Sg} {t : T} (h : ∀ x ∈ vs t, σ x = .var x) : sub σ t = t := (sub_ext t h).trans (sub_var t)
theorem sub_sub (τ σ : Sg) : ∀ t, sub τ (sub σ t) = sub (fun n => sub τ (σ n)) t := by
  refine T.kidsInd fun t ih => ?_
  by_cases hv : t.isV = true
  · rw [isV_var hv]; rfl
  · have hv' : t.isV = false := by simpa using hv
    obtain ⟨a1, a2, a3, a4⟩ := sub_parts σ t hv'
    obtain ⟨b1, b2, b3, _⟩ := sub_parts τ (sub σ t) a4
    obtain ⟨c1, c2, c3, _⟩ := sub_parts (fun n => sub τ (σ n)) t hv'
    refine T.ext3 (b1.trans (a1.trans c1.symm)) (b2.trans (a2.trans c2.symm)) ?_
    rw [b3, a3, c3, List.map_map]
    exact List.map_congr_left fun k hk => ih k hk
theorem vs_sub {σ : Sg} {x : ByteArray} : ∀ t, x ∈ vs (sub σ t) ↔ ∃ y ∈ vs t, x ∈ vs (σ y) := by
  refine T.kidsInd fun t ih => ?_
  by_cases hv : t.isV = true
  · rw [isV_var hv]; simp [sub, vs]
  · have hv' : t.isV = false := by simpa using hv
    obtain ⟨_, _, a3, a4⟩ := sub_parts σ t hv'
    rw [vs_kids a4, a3]
    constructor
    · rintro ⟨k, hk, hx⟩
      obtain ⟨k0, hk0, rfl⟩ := List.mem_map.1 hk
      obtain ⟨y, hy, h⟩ := (ih k0 hk0).1 hx
      exact ⟨y, (vs_kids hv').2 ⟨k0, hk0, hy⟩, h⟩
    · rintro ⟨y, hy, h⟩
      obtain ⟨k0, hk0, hy⟩ := (vs_kids hv').1 hy
      exact ⟨_, List.mem_map.2 ⟨k0, hk0, rfl⟩, (ih k0 hk0).2 ⟨y, hy, h⟩⟩
theorem tsizes_mem {k : T} : ∀ {l : List T}, k ∈ l → tsize k ≤ tsizes l
  | [], h => by cases h
  | a :: l, h => by
    rw [tsizes]
    rcases List.mem_cons.1 h with rfl | h
    · omega
    · have := tsizes_mem h; omega
theorem tsize_pos (t : T) : 1 ≤ tsize t := by rw [tsize_eq]; omega
theorem tsize_kid {t k : T} (h : k ∈ t.kids) : tsize k < tsize t := by rw [tsize_eq t]; have := tsizes_mem h; omega
theorem size_sub {σ : Sg} {x : ByteArray} : ∀ t, x ∈ vs t → tsize (σ x) ≤ tsize (sub σ t) := by
  refine T.kidsInd fun t ih h => ?_
  by_cases hv : t.isV = true
  · rw [isV_var hv] at h ⊢
    simp [vs, T.name] at h
    subst h; exact Nat.le_refl _
  · have hv' : t.isV = false := by simpa using hv
    obtain ⟨k, hk, hx⟩ := (vs_kids hv').1 h
    obtain ⟨_, _, a3, _⟩ := sub_parts σ t hv'
    have := ih k hk hx
    have h2 : tsize (sub σ k) < tsize (sub σ t) := tsize_kid (by rw [a3]; exact List.mem_map.2 ⟨k, hk, rfl⟩)
    omega
/-- A variable within a type that is none: the type is greater. -/
theorem size_sub_lt {σ : Sg} {x : ByteArray} {t : T} (hv : t.isV = false) (h : x ∈ vs t) : tsize (σ x) < tsize (sub σ t) := by
  obtain ⟨k, hk, hx⟩ := (vs_kids hv).1 h
  obtain ⟨_, _, a3, _⟩ := sub_parts σ t hv
  have h1 := size_sub (σ := σ) k hx
  have h2 : tsize (sub σ k) < tsize (sub σ t) := tsize_kid (by rw [a3]; exact List.mem_map.2 ⟨k, hk, rfl⟩)
  omega

/-- What comes of two types: the variables' types, or why there are none (true: the variable stands in the type). -/
inductive UR where
  | ok (σ : Sg)
  | bad (e : Bool)
open Classical in
noncomputable def one (x : ByteArray) (u : T) : Sg := fun n => if n = x then u else .var n
open Classical in
noncomputable def bindU (σ : Sg) (x : ByteArray) (u : T) : UR := if x ∈ vs u then .bad true else .ok (fun n => sub (one x u) (σ n))
noncomputable def uniL (u : Sg → T → T → Option UR) : Sg → List T → List T → Option UR
  | σ, a :: l, b :: m => match u σ a b with
    | some (.ok τ) => uniL u τ l m
    | r => r
  | σ, _, _ => some (.ok σ)
open Classical in
noncomputable def stepU (u : Sg → T → T → Option UR) (σ : Sg) (a b : T) : Option UR :=
  if a.isV = true ∧ b.isV = true ∧ a.name = b.name then some (.ok σ)
  else if a.isV = true then some (bindU σ a.name b)
  else if b.isV = true then some (bindU σ b.name a)
  else if a.kind = b.kind ∧ a.name = b.name ∧ a.kids.length = b.kids.length then uniL u σ a.kids b.kids
  else some (.bad false)
noncomputable def uni : Nat → Sg → T → T → Option UR
  | 0, _, _, _ => none
  | f + 1, σ, a, b => stepU (uni f) σ (sub σ a) (sub σ b)

theorem one_at (x : ByteArray) (u : T) : one x u x = u := by simp [one]
theorem one_ne {x y : ByteArray} (u : T) (h : y ≠ x) : one x u y = .var y := by simp [one, h]
/-- What is found is at its end: no variable that has a type stands in any of the types. -/
def Idem (σ : Sg) : Prop := ∀ x, ∀ y ∈ vs (σ x), σ y = .var y
theorem idem_var : Idem T.var := fun _ _ _ => rfl
theorem Idem.on {σ : Sg} (h : Idem σ) {t : T} {y : ByteArray} (hy : y ∈ vs (sub σ t)) : σ y = .var y := by
  obtain ⟨x, _, hx⟩ := (vs_sub t).1 hy
  exact h x y hx
theorem Idem.twice {σ : Sg} (h : Idem σ) (t : T) : sub σ (sub σ t) = sub σ t := sub_id fun _ hx => h.on hx
/-- More was found. -/
def ExtU (σ τ : Sg) : Prop := ∃ δ : Sg, ∀ x, τ x = sub δ (σ x)
theorem ExtU.refl (σ : Sg) : ExtU σ σ := ⟨T.var, fun _ => (sub_var _).symm⟩
theorem ExtU.trans {σ τ ρ : Sg} (h : ExtU σ τ) (k : ExtU τ ρ) : ExtU σ ρ := by
  obtain ⟨d, h⟩ := h; obtain ⟨e, k⟩ := k
  exact ⟨fun n => sub e (d n), fun x => by rw [k x, h x, sub_sub]⟩
theorem ExtU.sub {σ τ : Sg} (h : ExtU σ τ) (hi : Idem σ) (t : T) : sub τ (Go.Proofs.YtjnlchhikdfifaaDoor.sub σ t) = Go.Proofs.YtjnlchhikdfifaaDoor.sub τ t := by
  obtain ⟨d, h⟩ := h
  have e : ∀ t, Go.Proofs.YtjnlchhikdfifaaDoor.sub τ t = Go.Proofs.YtjnlchhikdfifaaDoor.sub d (Go.Proofs.YtjnlchhikdfifaaDoor.sub σ t) := fun t => by rw [sub_sub]; exact sub_ext t fun x _ => h x
  rw [e, hi.twice, ← e]

/-- A variable that has no type yet gets one. -/
structure Binds (σ : Sg) (x : ByteArray) (u : T) (τ : Sg) : Prop where
  free : σ x = .var x
  out : x ∉ vs u
  fix : sub σ u = u
  new : τ = fun n => sub (one x u) (σ n)
theorem one_out {x : ByteArray} {u t : T} (h : x ∉ vs t) : sub (one x u) t = t := sub_id fun _ hy => one_ne u fun e => h (e ▸ hy)
theorem Binds.idem {σ τ : Sg} {x : ByteArray} {u : T} (h : Binds σ x u τ) (hi : Idem σ) : Idem τ := by
  intro z y hy
  rw [h.new] at hy ⊢
  obtain ⟨w, hw, hy⟩ := (vs_sub _).1 hy
  have key : σ y = .var y ∧ y ≠ x := by
    by_cases e : w = x
    · subst e
      rw [one_at] at hy
      refine ⟨?_, fun e => h.out (e ▸ hy)⟩
      have h9 : y ∈ vs (sub σ u) := by rw [h.fix]; exact hy
      exact hi.on h9
    · rw [one_ne u e] at hy
      simp [vs] at hy
      subst hy
      exact ⟨hi z y hw, e⟩
  show sub (one x u) (σ y) = .var y
  rw [key.1]
  exact one_ne u key.2
theorem Binds.ext {σ τ : Sg} {x : ByteArray} {u : T} (h : Binds σ x u τ) : ExtU σ τ := ⟨one x u, fun n => by rw [h.new]⟩
theorem Binds.sub {σ τ : Sg} {x : ByteArray} {u : T} (h : Binds σ x u τ) (t : T) : sub τ t = Go.Proofs.YtjnlchhikdfifaaDoor.sub (one x u) (Go.Proofs.YtjnlchhikdfifaaDoor.sub σ t) := by rw [sub_sub, h.new]
theorem Binds.same {σ τ : Sg} {x : ByteArray} {u a b : T} (h : Binds σ x u τ) (ha : Go.Proofs.YtjnlchhikdfifaaDoor.sub σ a = .var x) (hb : Go.Proofs.YtjnlchhikdfifaaDoor.sub σ b = u) : Go.Proofs.YtjnlchhikdfifaaDoor.sub τ a = Go.Proofs.YtjnlchhikdfifaaDoor.sub τ b := by
  rw [h.sub, h.sub, ha, hb, one_out h.out]
  exact one_at x u
/-- What one step comes to. -/
inductive StepU (u : Sg → T → T → Option UR) (σ : Sg) (a b : T) : Option UR → Prop where
  | same (x : ByteArray) : sub σ a = .var x → sub σ b = .var x → StepU u σ a b (some (.ok σ))
  | left (x : ByteArray) (τ : Sg) : sub σ a = .var x → Binds σ x (sub σ b) τ → StepU u σ a b (some (.ok τ))
  | leftIn (x : ByteArray) : sub σ a = .var x → x ∈ vs (sub σ b) → (sub σ b).isV = false → StepU u σ a b (some (.bad true))
  | right (x : ByteArray) (τ : Sg) : (sub σ a).isV = false → sub σ b = .var x → Binds σ x (sub σ a) τ → StepU u σ a b (some (.ok τ))
  | rightIn (x : ByteArray) : (sub σ a).isV = false → sub σ b = .var x → x ∈ vs (sub σ a) → StepU u σ a b (some (.bad true))
  | parts : (sub σ a).isV = false → (sub σ b).isV = false → (sub σ a).kind = (sub σ b).kind → (sub σ a).name = (sub σ b).name → (sub σ a).kids.length = (sub σ b).kids.length → StepU u σ a b (uniL u σ (sub σ a).kids (sub σ b).kids)
  | bad : (sub σ a).isV = false → (sub σ b).isV = false → ¬ ((sub σ a).kind = (sub σ b).kind ∧ (sub σ a).name = (sub σ b).name ∧ (sub σ a).kids.length = (sub σ b).kids.length) → StepU u σ a b (some (.bad false))
theorem stepU_is (u : Sg → T → T → Option UR) (σ : Sg) (a b : T) (hi : Idem σ) : StepU u σ a b (stepU u σ (sub σ a) (sub σ b)) := by
  unfold stepU
  by_cases ha : (sub σ a).isV = true
  · have ea := isV_var ha
    have hx : σ (sub σ a).name = .var (sub σ a).name := hi.on (t := a) (by rw [ea]; simp [vs, T.name])
    by_cases hs : (sub σ b).isV = true ∧ (sub σ a).name = (sub σ b).name
    · rw [if_pos ⟨ha, hs.1, hs.2⟩]
      exact .same _ ea ((isV_var hs.1).trans (by rw [hs.2]))
    · rw [if_neg (fun h => hs ⟨h.2.1, h.2.2⟩), if_pos ha]
      unfold bindU
      by_cases ho : (sub σ a).name ∈ vs (sub σ b)
      · rw [if_pos ho]
        refine .leftIn _ ea ho ?_
        cases hb : (sub σ b).isV with
        | false => rfl
        | true =>
          rw [isV_var hb] at ho
          simp [vs] at ho
          exact absurd ⟨hb, ho⟩ hs
      · rw [if_neg ho]
        exact .left _ _ ea ⟨hx, ho, hi.twice b, rfl⟩
  · have ha' : (sub σ a).isV = false := by simpa using ha
    rw [if_neg (fun h => ha h.1), if_neg ha]
    by_cases hb : (sub σ b).isV = true
    · have eb := isV_var hb
      have hx : σ (sub σ b).name = .var (sub σ b).name := hi.on (t := b) (by rw [eb]; simp [vs, T.name])
      rw [if_pos hb]
      unfold bindU
      by_cases ho : (sub σ b).name ∈ vs (sub σ a)
      · rw [if_pos ho]; exact .rightIn _ ha' eb ho
      · rw [if_neg ho]; exact .right _ _ ha' eb ⟨hx, ho, hi.twice a, rfl⟩
    · have hb' : (sub σ b).isV = false := by simpa using hb
      rw [if_neg hb]
      by_cases hh : (sub σ a).kind = (sub σ b).kind ∧ (sub σ a).name = (sub σ b).name ∧ (sub σ a).kids.length = (sub σ b).kids.length
      · rw [if_pos hh]; exact .parts ha' hb' hh.1 hh.2.1 hh.2.2
      · rw [if_neg hh]; exact .bad ha' hb' hh
end Go.Proofs.YtjnlchhikdfifaaDoor
/- Two types as one: what is found makes them one; whatever else does goes by it. -/
namespace Go.Proofs.YtjnlchhikdfifaaDoor

theorem kids_same {σ : Sg} {a b : T} (ha : a.isV = false) (hb : b.isV = false) (hk : a.kind = b.kind) (hn : a.name = b.name) (h : a.kids.map (sub σ) = b.kids.map (sub σ)) : sub σ a = sub σ b := by
  obtain ⟨a1, a2, a3, _⟩ := sub_parts σ a ha
  obtain ⟨b1, b2, b3, _⟩ := sub_parts σ b hb
  exact T.ext3 (a1.trans (hk.trans b1.symm)) (a2.trans (hn.trans b2.symm)) (by rw [a3, b3, h])
/-- What is found makes the two one. -/
def Sound (u : Sg → T → T → Option UR) : Prop := ∀ σ a b τ, u σ a b = some (.ok τ) → Idem σ → Idem τ ∧ ExtU σ τ ∧ sub τ a = sub τ b
theorem uniL_sound {u : Sg → T → T → Option UR} (H : Sound u) : ∀ (l m : List T) (σ τ : Sg), l.length = m.length → uniL u σ l m = some (.ok τ) → Idem σ → Idem τ ∧ ExtU σ τ ∧ l.map (sub τ) = m.map (sub τ)
  | [], [], σ, τ, _, h, hi => by
    simp only [uniL, Option.some.injEq, UR.ok.injEq] at h
    subst h; exact ⟨hi, .refl _, rfl⟩
  | [], b :: m, _, _, hl, _, _ => by simp at hl
  | a :: l, [], _, _, hl, _, _ => by simp at hl
  | a :: l, b :: m, σ, τ, hl, h, hi => by
    rw [uniL] at h
    cases e : u σ a b with
    | none => rw [e] at h; cases h
    | some r =>
      rw [e] at h
      cases r with
      | bad q => cases h
      | ok ρ =>
        obtain ⟨h1, h2, h3⟩ := H σ a b ρ e hi
        obtain ⟨k1, k2, k3⟩ := uniL_sound H l m ρ τ (by simpa using hl) h h1
        refine ⟨k1, h2.trans k2, ?_⟩
        have : sub τ a = sub τ b := by rw [← k2.sub h1 a, ← k2.sub h1 b, h3]
        rw [List.map_cons, List.map_cons, k3, this]
theorem uni_sound : ∀ f, Sound (uni f)
  | 0 => fun σ a b τ h _ => by cases h
  | f + 1 => fun σ a b τ h hi => by
    have ih := uni_sound f
    rw [uni] at h
    have hs := stepU_is (uni f) σ a b hi
    rw [h] at hs
    generalize hr : some (UR.ok τ) = r at hs
    cases hs with
    | same x e1 e2 =>
      simp only [Option.some.injEq, UR.ok.injEq] at hr
      subst hr
      exact ⟨hi, .refl _, e1.trans e2.symm⟩
    | left x ρ e1 hb =>
      simp only [Option.some.injEq, UR.ok.injEq] at hr
      subst hr
      exact ⟨hb.idem hi, hb.ext, hb.same e1 rfl⟩
    | leftIn => cases hr
    | right x ρ _ e2 hb =>
      simp only [Option.some.injEq, UR.ok.injEq] at hr
      subst hr
      exact ⟨hb.idem hi, hb.ext, (hb.same e2 rfl).symm⟩
    | rightIn => cases hr
    | parts h1 h2 h3 h4 h5 =>
      obtain ⟨k1, k2, k3⟩ := uniL_sound ih _ _ σ τ h5 hr.symm hi
      refine ⟨k1, k2, ?_⟩
      rw [← k2.sub hi a, ← k2.sub hi b]
      exact kids_same h1 h2 h3 h4 k3
    | bad => cases hr
/-- Types that go by what was found so far. -/
def Goes (θ σ : Sg) : Prop := ∀ x, sub θ (σ x) = θ x
theorem Goes.sub {θ σ : Sg} (h : Goes θ σ) (t : T) : Go.Proofs.YtjnlchhikdfifaaDoor.sub θ (Go.Proofs.YtjnlchhikdfifaaDoor.sub σ t) = Go.Proofs.YtjnlchhikdfifaaDoor.sub θ t := by
  rw [sub_sub]; exact sub_ext t fun x _ => h x
theorem goes_var (θ : Sg) : Goes θ T.var := fun _ => rfl
theorem Goes.binds {θ σ τ : Sg} {x : ByteArray} {u : T} (h : Goes θ σ) (hb : Binds σ x u τ) (e : θ x = Go.Proofs.YtjnlchhikdfifaaDoor.sub θ u) : Goes θ τ := by
  intro y
  rw [hb.new]
  show Go.Proofs.YtjnlchhikdfifaaDoor.sub θ (Go.Proofs.YtjnlchhikdfifaaDoor.sub (one x u) (σ y)) = θ y
  rw [sub_sub, ← h y]
  refine sub_ext _ fun z _ => ?_
  by_cases hz : z = x
  · subst hz; rw [one_at]; exact e.symm
  · rw [one_ne u hz]; rfl
/-- Whatever makes the two one goes by what is found, and it is found. -/
def Most (u : Sg → T → T → Option UR) : Prop := ∀ σ a b r θ, u σ a b = some r → Idem σ → Goes θ σ → sub θ a = sub θ b → ∃ τ, r = .ok τ ∧ Goes θ τ
theorem uniL_most {u : Sg → T → T → Option UR} (S : Sound u) (H : Most u) (θ : Sg) : ∀ (l m : List T) (σ : Sg) (r : UR), l.length = m.length → uniL u σ l m = some r → Idem σ → Goes θ σ → l.map (sub θ) = m.map (sub θ) → ∃ τ, r = .ok τ ∧ Goes θ τ
  | [], [], σ, r, _, h, _, hg, _ => by
    simp only [uniL, Option.some.injEq] at h
    exact ⟨σ, h.symm, hg⟩
  | [], b :: m, _, _, hl, _, _, _, _ => by simp at hl
  | a :: l, [], _, _, hl, _, _, _, _ => by simp at hl
  | a :: l, b :: m, σ, r, hl, h, hi, hg, he => by
    rw [List.map_cons, List.map_cons] at he
    injection he with he1 he2
    rw [uniL] at h
    cases e : u σ a b with
    | none => rw [e] at h; cases h
    | some q =>
      obtain ⟨ρ, rfl, hg2⟩ := H σ a b q θ e hi hg he1
      rw [e] at h
      exact uniL_most S H θ l m ρ r (by simpa using hl) h (S σ a b ρ e hi).1 hg2 he2
theorem occ_not {θ : Sg} {x : ByteArray} {u : T} (hv : u.isV = false) (h : x ∈ vs u) (e : θ x = sub θ u) : False := by
  have := size_sub_lt (σ := θ) hv h
  rw [e] at this; omega
theorem uni_most : ∀ f, Most (uni f)
  | 0 => fun σ a b r θ h _ _ _ => by cases h
  | f + 1 => fun σ a b r θ h hi hg he => by
    have ih := uni_most f
    have is := uni_sound f
    rw [uni] at h
    have hs := stepU_is (uni f) σ a b hi
    rw [h] at hs
    have ea := hg.sub a
    have eb := hg.sub b
    generalize hr : some r = q at hs
    cases hs with
    | same x e1 e2 => injection hr with hr; exact ⟨σ, hr, hg⟩
    | left x ρ e1 hb =>
      injection hr with hr
      refine ⟨ρ, hr, hg.binds hb ?_⟩
      rw [eb, ← he, ← ea, e1]; rfl
    | leftIn x e1 ho hv =>
      refine (occ_not (θ := θ) hv ho ?_).elim
      rw [eb, ← he, ← ea, e1]; rfl
    | right x ρ _ e2 hb =>
      injection hr with hr
      refine ⟨ρ, hr, hg.binds hb ?_⟩
      rw [ea, he, ← eb, e2]; rfl
    | rightIn x hv e2 ho =>
      refine (occ_not (θ := θ) hv ho ?_).elim
      rw [ea, he, ← eb, e2]; rfl
    | parts h1 h2 h3 h4 h5 =>
      refine uniL_most is ih θ _ _ σ r h5 hr.symm hi hg ?_
      have e9 : sub θ (sub σ a) = sub θ (sub σ b) := by rw [ea, eb, he]
      obtain ⟨_, _, a3, _⟩ := sub_parts θ _ h1
      obtain ⟨_, _, b3, _⟩ := sub_parts θ _ h2
      rw [← a3, ← b3, e9]
    | bad h1 h2 hn =>
      have e9 : sub θ (sub σ a) = sub θ (sub σ b) := by rw [ea, eb, he]
      obtain ⟨a1, a2, a3, _⟩ := sub_parts θ _ h1
      obtain ⟨b1, b2, b3, _⟩ := sub_parts θ _ h2
      refine (hn ⟨?_, ?_, ?_⟩).elim
      · rw [← a1, ← b1, e9]
      · rw [← a2, ← b2, e9]
      · have := congrArg (fun t => t.kids.length) e9
        simp only [a3, b3, List.length_map] at this
        exact this
/-- More fuel finds the same. -/
theorem uniL_more {u v : Sg → T → T → Option UR} (H : ∀ σ a b r, u σ a b = some r → v σ a b = some r) : ∀ (l m : List T) (σ : Sg) (r : UR), uniL u σ l m = some r → uniL v σ l m = some r
  | [], _, σ, r, h => by simpa [uniL] using h
  | _ :: _, [], σ, r, h => by simpa [uniL] using h
  | a :: l, b :: m, σ, r, h => by
    rw [uniL] at h ⊢
    cases e : u σ a b with
    | none => rw [e] at h; cases h
    | some q =>
      rw [e] at h
      rw [H σ a b q e]
      cases q with
      | bad => exact h
      | ok ρ => exact uniL_more H l m ρ r h
theorem uni_succ : ∀ f σ a b r, uni f σ a b = some r → uni (f + 1) σ a b = some r
  | 0, _, _, _, _, h => by cases h
  | f + 1, σ, a, b, r, h => by
    rw [uni] at h ⊢
    unfold stepU at h ⊢
    by_cases c1 : (sub σ a).isV = true ∧ (sub σ b).isV = true ∧ (sub σ a).name = (sub σ b).name
    · rwa [if_pos c1] at h ⊢
    · rw [if_neg c1] at h ⊢
      by_cases c2 : (sub σ a).isV = true
      · rwa [if_pos c2] at h ⊢
      · rw [if_neg c2] at h ⊢
        by_cases c3 : (sub σ b).isV = true
        · rwa [if_pos c3] at h ⊢
        · rw [if_neg c3] at h ⊢
          by_cases c4 : (sub σ a).kind = (sub σ b).kind ∧ (sub σ a).name = (sub σ b).name ∧ (sub σ a).kids.length = (sub σ b).kids.length
          · rw [if_pos c4] at h ⊢
            exact uniL_more (uni_succ f) _ _ _ _ h
          · rwa [if_neg c4] at h ⊢
theorem uni_le {f g : Nat} (hfg : f ≤ g) {σ : Sg} {a b : T} {r : UR} (h : uni f σ a b = some r) : uni g σ a b = some r := by
  obtain ⟨k, rfl⟩ : ∃ k, g = f + k := ⟨g - f, by omega⟩
  clear hfg
  induction k with
  | zero => exact h
  | succ k ih => exact uni_succ _ _ _ _ _ ih
/-- What two types come to, whatever the fuel. -/
def Uni (σ : Sg) (a b : T) (r : UR) : Prop := ∃ f, uni f σ a b = some r
theorem Uni.only {σ : Sg} {a b : T} {r q : UR} (h : Uni σ a b r) (k : Uni σ a b q) : r = q := by
  obtain ⟨f, h⟩ := h; obtain ⟨g, k⟩ := k
  have h1 := uni_le (Nat.le_max_left f g) h
  have k1 := uni_le (Nat.le_max_right f g) k
  rw [h1] at k1; injection k1
theorem Uni.sound {σ τ : Sg} {a b : T} (h : Uni σ a b (.ok τ)) (hi : Idem σ) : Idem τ ∧ ExtU σ τ ∧ sub τ a = sub τ b := by
  obtain ⟨f, h⟩ := h; exact uni_sound f σ a b τ h hi
theorem Uni.most {σ θ : Sg} {a b : T} {r : UR} (h : Uni σ a b r) (hi : Idem σ) (hg : Goes θ σ) (he : sub θ a = sub θ b) : ∃ τ, r = .ok τ ∧ Goes θ τ := by
  obtain ⟨f, h⟩ := h; exact uni_most f σ a b r θ h hi hg he
end Go.Proofs.YtjnlchhikdfifaaDoor
/- Two types as one: it ends; how great what is found can be. -/
namespace Go.Proofs.YtjnlchhikdfifaaDoor

theorem filter_lt {α : Type} {p q : α → Bool} : ∀ {l : List α}, (∀ y ∈ l, q y = true → p y = true) → (∃ x ∈ l, p x = true ∧ q x = false) → (l.filter q).length < (l.filter p).length
  | [], _, h => by obtain ⟨x, hx, _⟩ := h; cases hx
  | a :: l, h, he => by
    have hle : (l.filter q).length ≤ (l.filter p).length := by
      clear he
      induction l with
      | nil => simp
      | cons b l ih =>
        have h1 := ih fun y hy => h y (by rcases List.mem_cons.1 hy with rfl | hy <;> simp [*])
        have hb := h b (by simp)
        rw [List.filter_cons, List.filter_cons]
        cases eq : q b with
        | false => cases ep : p b <;> simp <;> omega
        | true => rw [hb eq]; simp; omega
    obtain ⟨x, hx, hp, hq⟩ := he
    rw [List.filter_cons, List.filter_cons]
    rcases List.mem_cons.1 hx with rfl | hx
    · rw [hp, hq]; simp; omega
    · have := filter_lt (fun y hy => h y (List.mem_cons_of_mem _ hy)) ⟨x, hx, hp, hq⟩
      have ha := h a (by simp)
      cases eq : q a with
      | false => cases ep : p a <;> simp <;> omega
      | true => rw [ha eq]; simp; omega
open Classical in
/-- How many of these variables have no type yet. -/
noncomputable def uns (V : List ByteArray) (σ : Sg) : Nat := (V.filter fun x => decide (σ x = .var x)).length
def VIn (V : List ByteArray) (σ : Sg) : Prop := ∀ x ∈ V, ∀ y ∈ vs (σ x), y ∈ V
def TIn (V : List ByteArray) (t : T) : Prop := ∀ x ∈ vs t, x ∈ V
theorem VIn.sub {V : List ByteArray} {σ : Sg} (h : VIn V σ) {t : T} (ht : TIn V t) : TIn V (Go.Proofs.YtjnlchhikdfifaaDoor.sub σ t) := by
  intro y hy
  obtain ⟨x, hx, hy⟩ := (vs_sub t).1 hy
  exact h x (ht x hx) y hy
theorem vin_var (V : List ByteArray) : VIn V T.var := fun x hx y hy => by simp [vs] at hy; exact hy ▸ hx
theorem TIn.kid {V : List ByteArray} {t k : T} (h : TIn V t) (hv : t.isV = false) (hk : k ∈ t.kids) : TIn V k := fun x hx => h x ((vs_kids hv).2 ⟨k, hk, hx⟩)
theorem Binds.still {σ τ : Sg} {x y : ByteArray} {u : T} (h : Binds σ x u τ) (e : τ y = .var y) : σ y = .var y := by
  rw [h.new] at e
  have e : Go.Proofs.YtjnlchhikdfifaaDoor.sub (one x u) (σ y) = .var y := e
  cases hv : (σ y).isV with
  | false =>
    have := (sub_parts (one x u) _ hv).2.2.2
    rw [e] at this; cases this
  | true =>
    have ez := isV_var hv
    rw [ez] at e
    have e : one x u (σ y).name = .var y := e
    by_cases hz : (σ y).name = x
    · rw [hz, one_at] at e
      have := h.fix
      rw [e] at this
      exact this
    · rw [one_ne u hz] at e
      rw [ez]; exact e
open Classical in
theorem Binds.fewer {V : List ByteArray} {σ τ : Sg} {x : ByteArray} {u : T} (h : Binds σ x u τ) (hx : x ∈ V) : uns V τ < uns V σ := by
  unfold uns
  refine filter_lt (fun y _ hy => decide_eq_true (h.still (of_decide_eq_true hy))) ⟨x, hx, decide_eq_true h.free, decide_eq_false fun e => ?_⟩
  rw [h.new] at e
  have e : Go.Proofs.YtjnlchhikdfifaaDoor.sub (one x u) (σ x) = .var x := e
  rw [h.free] at e
  have e : one x u x = .var x := e
  rw [one_at] at e
  exact h.out (by rw [e]; simp [vs])
theorem Binds.vin {V : List ByteArray} {σ τ : Sg} {x : ByteArray} {u : T} (h : Binds σ x u τ) (hi : VIn V σ) (hu : TIn V u) : VIn V τ := by
  intro z hz y hy
  rw [h.new] at hy
  obtain ⟨w, hw, hy⟩ := (vs_sub _).1 hy
  by_cases e : w = x
  · subst e; rw [one_at] at hy; exact hu y hy
  · rw [one_ne u e] at hy
    simp [vs] at hy
    exact hy ▸ hi z hz w hw
def AfterU (V : List ByteArray) (σ : Sg) (r : UR) : Prop := ∀ τ, r = .ok τ → VIn V τ ∧ (τ = σ ∨ uns V τ < uns V σ)
theorem ends_list (V : List ByteArray) (σ0 : Sg) (h0 : Idem σ0) (v0 : VIn V σ0) : ∀ (l m : List T)
    (_ : ∀ k ∈ l, ∀ k' ∈ m, ∃ r, Uni σ0 k k' r ∧ AfterU V σ0 r)
    (_ : ∀ σ, Idem σ → VIn V σ → uns V σ < uns V σ0 → ∀ k ∈ l, ∀ k' ∈ m, ∃ r, Uni σ k k' r ∧ AfterU V σ r)
    (σ : Sg) (_ : σ = σ0 ∨ Idem σ ∧ VIn V σ ∧ uns V σ < uns V σ0), ∃ f r, uniL (uni f) σ l m = some r ∧ AfterU V σ0 r
  | [], m, _, _, σ, hs => by
    refine ⟨0, .ok σ, by simp [uniL], fun τ e => ?_⟩
    injection e with e
    subst e
    rcases hs with rfl | hs
    · exact ⟨v0, .inl rfl⟩
    · exact ⟨hs.2.1, .inr hs.2.2⟩
  | a :: l, [], _, _, σ, hs => by
    refine ⟨0, .ok σ, by simp [uniL], fun τ e => ?_⟩
    injection e with e
    subst e
    rcases hs with rfl | hs
    · exact ⟨v0, .inl rfl⟩
    · exact ⟨hs.2.1, .inr hs.2.2⟩
  | a :: l, b :: m, H1, H2, σ, hs => by
    have hiv : Idem σ ∧ VIn V σ := by
      rcases hs with rfl | hs
      · exact ⟨h0, v0⟩
      · exact ⟨hs.1, hs.2.1⟩
    obtain ⟨r, ⟨f, hf⟩, hr⟩ : ∃ r, Uni σ a b r ∧ AfterU V σ r := by
      rcases hs with rfl | hs
      · exact H1 a (by simp) b (by simp)
      · exact H2 σ hs.1 hs.2.1 hs.2.2 a (by simp) b (by simp)
    cases r with
    | bad e =>
      refine ⟨f, .bad e, by rw [uniL, hf], fun τ e => by cases e⟩
    | ok ρ =>
      have hρ := hr ρ rfl
      have hs2 : ρ = σ0 ∨ Idem ρ ∧ VIn V ρ ∧ uns V ρ < uns V σ0 := by
        have i1 := (uni_sound f σ a b ρ hf hiv.1).1
        rcases hρ.2 with e | e
        · rw [e]; exact hs
        · refine .inr ⟨i1, hρ.1, ?_⟩
          rcases hs with rfl | hs
          · exact e
          · exact Nat.lt_trans e hs.2.2
      obtain ⟨g, q, hg, hq⟩ := ends_list V σ0 h0 v0 l m (fun k hk k' hk' => H1 k (List.mem_cons_of_mem _ hk) k' (List.mem_cons_of_mem _ hk')) (fun σ a b c k hk k' hk' => H2 σ a b c k (List.mem_cons_of_mem _ hk) k' (List.mem_cons_of_mem _ hk')) ρ hs2
      refine ⟨max f g, q, ?_, hq⟩
      rw [uniL, uni_le (Nat.le_max_left f g) hf]
      exact uniL_more (fun _ _ _ _ h => uni_le (Nat.le_max_right f g) h) l m ρ q hg
theorem uni_ends (V : List ByteArray) (n : Nat) : ∀ (m : Nat) (σ : Sg) (a b : T), Idem σ → VIn V σ → TIn V a → TIn V b → uns V σ ≤ n → tsize (sub σ a) ≤ m → ∃ r, Uni σ a b r ∧ AfterU V σ r := by
  induction n using Nat.strongRecOn with
  | ind n ihn =>
    intro m
    induction m with
    | zero => intro σ a b _ _ _ _ _ h; have := tsize_pos (sub σ a); omega
    | succ m ihm =>
      intro σ a b hi hv ha hb hn hm
      have ta := hv.sub ha
      have tb := hv.sub hb
      have hs : ∀ f, StepU (uni f) σ a b (uni (f + 1) σ a b) := fun f => by rw [uni]; exact stepU_is (uni f) σ a b hi
      have fin : ∀ r, uni 1 σ a b = some r → AfterU V σ r → ∃ r, Uni σ a b r ∧ AfterU V σ r := fun r h k => ⟨r, ⟨1, h⟩, k⟩
      have h1 := hs 0
      generalize hr : uni 1 σ a b = r1 at h1
      have hbd : ∀ {x : ByteArray} {u : T} {τ : Sg}, Binds σ x u τ → TIn V u → x ∈ V → AfterU V σ (.ok τ) := fun {x u τ} hb hu hx τ' e => by
        injection e with e
        subst e
        exact ⟨hb.vin hv hu, .inr (hb.fewer hx)⟩
      cases h1 with
      | same x e1 e2 => exact fin _ hr fun τ e => by injection e with e; exact ⟨e ▸ hv, .inl e.symm⟩
      | left x τ e1 h => exact fin _ hr (hbd h tb (ta x (by rw [e1]; simp [vs])))
      | leftIn => exact fin _ hr fun τ e => by cases e
      | right x τ _ e2 h => exact fin _ hr (hbd h ta (tb x (by rw [e2]; simp [vs])))
      | rightIn => exact fin _ hr fun τ e => by cases e
      | bad => exact fin _ hr fun τ e => by cases e
      | parts p1 p2 p3 p4 p5 =>
        clear hr fin hbd
        obtain ⟨f, r, hf, hA⟩ := ends_list V σ hi hv (sub σ a).kids (sub σ b).kids
          (fun k hk k' hk' => ihm σ k k' hi hv (ta.kid p1 hk) (tb.kid p2 hk') hn (by
            have e : sub σ k = k := sub_id fun y hy => hi.on (t := a) ((vs_kids p1).2 ⟨k, hk, hy⟩)
            rw [e]; have := tsize_kid hk; omega))
          (fun ρ i1 i2 i3 k hk k' hk' => ihn (uns V ρ) (by omega) (tsize (sub ρ k)) ρ k k' i1 i2 (ta.kid p1 hk) (tb.kid p2 hk') (Nat.le_refl _) (Nat.le_refl _))
          σ (.inl rfl)
        refine ⟨r, ⟨f + 1, ?_⟩, hA⟩
        have h2 := hs f
        generalize uni (f + 1) σ a b = q at h2
        cases h2 with
        | parts => exact hf
        | same x e1 e2 => rw [e1] at p1; cases p1
        | left x τ e1 => rw [e1] at p1; cases p1
        | leftIn x e1 => rw [e1] at p1; cases p1
        | right x τ _ e2 => rw [e2] at p2; cases p2
        | rightIn x _ e2 => rw [e2] at p2; cases p2
        | bad _ _ hn => exact (hn ⟨p3, p4, p5⟩).elim
theorem uni_total (V : List ByteArray) (σ : Sg) (a b : T) (hi : Idem σ) (hv : VIn V σ) (ha : TIn V a) (hb : TIn V b) : ∃ r, Uni σ a b r ∧ AfterU V σ r :=
  uni_ends V _ _ σ a b hi hv ha hb (Nat.le_refl _) (Nat.le_refl _)

/-- Each variable's type is made of a part that was there at the start. -/
def FromU (O : T → Prop) (σ : Sg) : Prop := ∀ x, (σ x).isV = true ∨ ∃ t, O t ∧ t.isV = false ∧ σ x = sub σ t
def InstU (O : T → Prop) (σ : Sg) (a : T) : Prop := ∃ o, O o ∧ sub σ a = sub σ o
theorem from_var (O : T → Prop) : FromU O T.var := fun _ => .inl rfl
theorem InstU.of {O : T → Prop} {σ : Sg} {a : T} (h : O a) : InstU O σ a := ⟨a, h, rfl⟩
theorem InstU.ext {O : T → Prop} {σ τ : Sg} {a : T} (h : InstU O σ a) (he : ExtU σ τ) (hi : Idem σ) : InstU O τ a := by
  obtain ⟨o, h, e⟩ := h
  exact ⟨o, h, by rw [← he.sub hi a, e, he.sub hi]⟩
/-- A type that is no variable is what a part at the start, none either, came to. -/
theorem InstU.solid {O : T → Prop} {σ : Sg} {a : T} (h : InstU O σ a) (hF : FromU O σ) (hv : (sub σ a).isV = false) : ∃ o, O o ∧ o.isV = false ∧ sub σ a = sub σ o := by
  obtain ⟨o, h, e⟩ := h
  cases ho : o.isV with
  | false => exact ⟨o, h, ho, e⟩
  | true =>
    have eo := isV_var ho
    rcases hF o.name with h1 | ⟨t, ht, hvt, et⟩
    · have h9 : (sub σ o).isV = true := by rw [eo]; exact h1
      rw [e, h9] at hv; cases hv
    · exact ⟨t, ht, hvt, e.trans (by rw [eo]; exact et)⟩
theorem InstU.kid {O : T → Prop} (hO : ∀ t, O t → ∀ k ∈ t.kids, O k) {σ : Sg} {a k : T} (h : InstU O σ a) (hF : FromU O σ) (hi : Idem σ) (hv : (sub σ a).isV = false) (hk : k ∈ (sub σ a).kids) : InstU O σ k := by
  obtain ⟨o, h, ho, e⟩ := h.solid hF hv
  rw [e, (sub_parts σ o ho).2.2.1] at hk
  obtain ⟨k0, hk0, rfl⟩ := List.mem_map.1 hk
  exact ⟨k0, hO o h k0 hk0, hi.twice k0⟩
theorem Binds.from {O : T → Prop} {σ τ : Sg} {x : ByteArray} {a : T} (h : Binds σ x (Go.Proofs.YtjnlchhikdfifaaDoor.sub σ a) τ) (hF : FromU O σ) (ha : InstU O σ a) : FromU O τ := by
  have hin : ∀ {t : T} {v : T}, t.isV = false → v = Go.Proofs.YtjnlchhikdfifaaDoor.sub σ t → v.isV = false := fun {t v} ht e => by rw [e]; exact (sub_parts σ t ht).2.2.2
  intro y
  have ey : τ y = Go.Proofs.YtjnlchhikdfifaaDoor.sub (one x (Go.Proofs.YtjnlchhikdfifaaDoor.sub σ a)) (σ y) := by rw [h.new]
  rcases hF y with hv | ⟨t, ht, hvt, et⟩
  · have ez := isV_var hv
    by_cases hz : (σ y).name = x
    · have e1 : τ y = Go.Proofs.YtjnlchhikdfifaaDoor.sub σ a := by rw [ey, ez, hz]; exact one_at _ _
      cases hu : (Go.Proofs.YtjnlchhikdfifaaDoor.sub σ a).isV with
      | true => exact .inl (by rw [e1]; exact hu)
      | false =>
        obtain ⟨o, ho, hvo, eo⟩ := ha.solid hF hu
        refine .inr ⟨o, ho, hvo, ?_⟩
        rw [e1, h.sub o, ← eo, one_out h.out]
    · refine .inl ?_
      rw [ey, ez]
      show (one x (Go.Proofs.YtjnlchhikdfifaaDoor.sub σ a) (σ y).name).isV = true
      rw [one_ne _ hz]; rfl
  · refine .inr ⟨t, ht, hvt, ?_⟩
    rw [ey, et, h.sub t]
def FromKeeps (O : T → Prop) (u : Sg → T → T → Option UR) : Prop := ∀ σ a b τ, u σ a b = some (.ok τ) → Idem σ → FromU O σ → InstU O σ a → InstU O σ b → FromU O τ
theorem uniL_from {O : T → Prop} {u : Sg → T → T → Option UR} (S : Sound u) (H : FromKeeps O u) : ∀ (l m : List T) (σ τ : Sg), uniL u σ l m = some (.ok τ) → Idem σ → FromU O σ → (∀ k ∈ l, InstU O σ k) → (∀ k ∈ m, InstU O σ k) → FromU O τ
  | [], m, σ, τ, h, _, hF, _, _ => by
    simp only [uniL, Option.some.injEq, UR.ok.injEq] at h
    subst h; exact hF
  | a :: l, [], σ, τ, h, _, hF, _, _ => by
    simp only [uniL, Option.some.injEq, UR.ok.injEq] at h
    subst h; exact hF
  | a :: l, b :: m, σ, τ, h, hi, hF, hl, hm => by
    rw [uniL] at h
    cases e : u σ a b with
    | none => rw [e] at h; cases h
    | some r =>
      rw [e] at h
      cases r with
      | bad q => cases h
      | ok ρ =>
        obtain ⟨h1, h2, _⟩ := S σ a b ρ e hi
        exact uniL_from S H l m ρ τ h h1 (H σ a b ρ e hi hF (hl a (by simp)) (hm b (by simp)))
          (fun k hk => (hl k (List.mem_cons_of_mem _ hk)).ext h2 hi) (fun k hk => (hm k (List.mem_cons_of_mem _ hk)).ext h2 hi)
theorem uni_from {O : T → Prop} (hO : ∀ t, O t → ∀ k ∈ t.kids, O k) : ∀ f, FromKeeps O (uni f)
  | 0 => fun σ a b τ h _ _ _ _ => by cases h
  | f + 1 => fun σ a b τ h hi hF ha hb => by
    have ih := uni_from hO f
    rw [uni] at h
    have hs := stepU_is (uni f) σ a b hi
    rw [h] at hs
    generalize hr : some (UR.ok τ) = r at hs
    cases hs with
    | same x e1 e2 =>
      simp only [Option.some.injEq, UR.ok.injEq] at hr
      subst hr
      exact hF
    | left x ρ e1 h =>
      simp only [Option.some.injEq, UR.ok.injEq] at hr
      subst hr
      exact h.from hF hb
    | leftIn => cases hr
    | right x ρ _ e2 h =>
      simp only [Option.some.injEq, UR.ok.injEq] at hr
      subst hr
      exact h.from hF ha
    | rightIn => cases hr
    | parts h1 h2 h3 h4 h5 => exact uniL_from (uni_sound f) ih _ _ σ τ hr.symm hi hF (fun k hk => ha.kid hO hF hi h1 hk) (fun k hk => hb.kid hO hF hi h2 hk)
    | bad => cases hr
theorem Uni.from {O : T → Prop} (hO : ∀ t, O t → ∀ k ∈ t.kids, O k) {σ τ : Sg} {a b : T} (h : Uni σ a b (.ok τ)) (hi : Idem σ) (hF : FromU O σ) (ha : InstU O σ a) (hb : InstU O σ b) : FromU O τ := by
  obtain ⟨f, h⟩ := h; exact uni_from hO f σ a b τ h hi hF ha hb
/-- A type's size with types for its variables. -/
theorem size_subs {σ : Sg} {M : Nat} (hM : 1 ≤ M) : ∀ t, (∀ y ∈ vs t, tsize (σ y) ≤ M) → tsize (sub σ t) ≤ tsize t * M := by
  refine T.kidsInd fun t ih h => ?_
  cases hv : t.isV with
  | true =>
    rw [isV_var hv] at h ⊢
    have := h t.name (by simp [vs])
    simpa [sub, tsize] using this
  | false =>
    obtain ⟨_, _, a3, _⟩ := sub_parts σ t hv
    rw [tsize_eq, a3, tsize_eq t]
    have key : ∀ l : List T, (∀ k ∈ l, tsize (sub σ k) ≤ tsize k * M) → tsizes (l.map (sub σ)) ≤ tsizes l * M := by
      intro l
      induction l with
      | nil => intro _; simp [tsizes]
      | cons a l ih2 =>
        intro hl
        have h1 := hl a (by simp)
        have h2 := ih2 fun k hk => hl k (List.mem_cons_of_mem _ hk)
        rw [List.map_cons, tsizes, tsizes, Nat.add_mul]; omega
    have := key t.kids fun k hk => ih k hk fun y hy => h y ((vs_kids hv).2 ⟨k, hk, hy⟩)
    rw [Nat.add_mul]; omega
noncomputable def rankU (V : List ByteArray) (σ : Sg) (x : ByteArray) : Nat := (V.filter fun y => decide (tsize (σ y) < tsize (σ x))).length
theorem rank_lt {V : List ByteArray} {σ : Sg} {x y : ByteArray} (hy : y ∈ V) (h : tsize (σ y) < tsize (σ x)) : rankU V σ y < rankU V σ x := by
  unfold rankU
  refine filter_lt (fun z _ hz => decide_eq_true (Nat.lt_trans (of_decide_eq_true hz) h)) ⟨y, hy, decide_eq_true h, decide_eq_false (Nat.lt_irrefl _)⟩
theorem rank_in {V : List ByteArray} {σ : Sg} {x : ByteArray} (hx : x ∈ V) : rankU V σ x < V.length := by
  have := filter_lt (l := V) (p := fun _ => true) (q := fun y => decide (tsize (σ y) < tsize (σ x))) (fun _ _ _ => rfl) ⟨x, hx, rfl, decide_eq_false (Nat.lt_irrefl _)⟩
  have e : V.filter (fun _ => true) = V := by simp
  rw [e] at this
  exact this
/-- How great a variable's type can be. -/
theorem from_size {O : T → Prop} {V : List ByteArray} {σ : Sg} {N : Nat} (hF : FromU O σ) (hV : ∀ t, O t → t.isV = false → TIn V t) (hN : ∀ t, O t → tsize t ≤ N) (h1 : 1 ≤ N) : ∀ n x, tsize (σ x) ≤ n → tsize (σ x) ≤ N ^ (rankU V σ x + 1) := by
  intro n
  induction n with
  | zero => intro x h; have := tsize_pos (σ x); omega
  | succ n ih =>
    intro x hx
    have hp : 1 ≤ N ^ (rankU V σ x + 1) := Nat.one_le_pow _ _ h1
    rcases hF x with hv | ⟨t, ht, hvt, et⟩
    · rw [isV_var hv]; simpa [tsize] using hp
    · have hp' : 1 ≤ N ^ rankU V σ x := Nat.one_le_pow _ _ h1
      have := size_subs (σ := σ) hp' t fun y hy => by
        have hlt : tsize (σ y) < tsize (σ x) := by rw [et]; exact size_sub_lt hvt hy
        have h2 := ih y (by omega)
        have h3 := rank_lt (hV t ht hvt y hy) hlt
        exact Nat.le_trans h2 (Nat.pow_le_pow_right h1 h3)
      rw [et] at hx ⊢
      rw [← et] at hx ⊢
      have h9 := Nat.mul_le_mul_right (N ^ rankU V σ x) (hN t ht)
      rw [Nat.pow_succ, Nat.mul_comm, et]
      exact Nat.le_trans this h9
theorem from_le {O : T → Prop} {V : List ByteArray} {σ : Sg} {N : Nat} (hF : FromU O σ) (hV : ∀ t, O t → t.isV = false → TIn V t) (hN : ∀ t, O t → tsize t ≤ N) (h1 : 1 ≤ N) {x : ByteArray} (hx : x ∈ V) : tsize (σ x) ≤ N ^ V.length :=
  Nat.le_trans (from_size hF hV hN h1 _ x (Nat.le_refl _)) (Nat.pow_le_pow_right h1 (rank_in hx))
theorem from_le' {O : T → Prop} {V : List ByteArray} {σ : Sg} {N : Nat} (hF : FromU O σ) (hV : ∀ t, O t → t.isV = false → TIn V t) (hN : ∀ t, O t → tsize t ≤ N) (h1 : 1 ≤ N) (x : ByteArray) : tsize (σ x) ≤ N ^ (V.length + 1) := by
  refine Nat.le_trans (from_size hF hV hN h1 _ x (Nat.le_refl _)) (Nat.pow_le_pow_right h1 ?_)
  have := List.length_filter_le (fun y => decide (tsize (σ y) < tsize (σ x))) V
  unfold rankU; omega
end Go.Proofs.YtjnlchhikdfifaaDoor
/- Two types as one: what is found as a list of pairs. -/
namespace Go.Proofs.YtjnlchhikdfifaaDoor

theorem app_sub (d : List PR) : ∀ t, app d t = sub (fun n => ty n d) t := by
  refine T.kidsInd fun t ih => ?_
  cases hv : t.isV with
  | true => rw [isV_var hv]; rfl
  | false =>
    have hn : ∀ n, t ≠ .var n := fun n e => by rw [e] at hv; cases hv
    obtain ⟨a1, a2, a3⟩ := app_parts d t hn
    obtain ⟨b1, b2, b3, _⟩ := sub_parts (fun n => ty n d) t hv
    refine T.ext3 (a1.trans b1.symm) (a2.trans b2.symm) ?_
    rw [a3, b3]
    exact List.map_congr_left ih
theorem ty_none {n : ByteArray} {d : List PR} (h : lk n d = none) : ty n d = .var n := by unfold ty; rw [h]; rfl
theorem ty_some {n : ByteArray} {d : List PR} {x : PR} (h : lk n d = some x) : ty n d = x.t := by unfold ty; rw [h]; rfl
theorem ty_one (n : ByteArray) (p : PR) : ty n [p] = one p.n p.t n := by
  by_cases h : n = p.n
  · subst h
    rw [one_at]
    exact ty_some (by rw [lk_cons, if_pos rfl])
  · rw [one_ne _ h]
    exact ty_none (by rw [lk_cons, if_neg (fun e => h e.symm)]; rfl)
/-- The document's Then. -/
noncomputable def thenR (s u : List PR) : List PR := (s.map fun x => { x with t := app u x.t }) ++ u.filter fun y => (lk y.n s).isNone
theorem lk_filter {n : ByteArray} {s : List PR} (h : lk n s = none) : ∀ u : List PR, lk n (u.filter fun y => (lk y.n s).isNone) = lk n u
  | [] => rfl
  | y :: u => by
    rw [List.filter_cons]
    by_cases e : y.n = n
    · rw [if_pos (by rw [e, h]; rfl), lk_cons, lk_cons, if_pos e, if_pos e]
    · rw [lk_cons n y u, if_neg e]
      split
      · rw [lk_cons, if_neg e]; exact lk_filter h u
      · exact lk_filter h u
theorem thenR_ty (s u : List PR) (n : ByteArray) : ty n (thenR s u) = app u (ty n s) := by
  unfold thenR
  rw [ty_append, lk_map (app u)]
  cases h : lk n s with
  | some x =>
    rw [if_pos (by rfl), ty_some h]
    exact ty_some (x := { x with t := app u x.t }) (by rw [lk_map (app u), h]; rfl)
  | none =>
    rw [if_neg (by simp), ty_none h]
    show ty n _ = ty n u
    unfold ty; rw [lk_filter h]
/-- Pairs that say what was found. -/
def IsSg (d : List PR) (σ : Sg) : Prop := ∀ n, ty n d = σ n
theorem IsSg.app {d : List PR} {σ : Sg} (h : IsSg d σ) (t : T) : app d t = sub σ t := by rw [app_sub]; exact sub_ext t fun n _ => h n
theorem isSg_nil : IsSg [] T.var := fun _ => rfl
theorem IsSg.bind {d e : List PR} {σ : Sg} {p : PR} (h : IsSg d σ) (he : ∀ n, ty n e = Go.Proofs.YtjnlchhikdfifaaDoor.app [p] (ty n d)) : IsSg e (fun n => sub (one p.n p.t) (σ n)) := by
  intro n
  rw [he, app_sub, h n]
  exact sub_ext _ fun m _ => ty_one m p
end Go.Proofs.YtjnlchhikdfifaaDoor
/- types.Has; the document's Size; texts in rows: Place, Has, SameTexts. -/
namespace Go.Proofs.YtjnlchhikdfifaaDoor
open Go.RowKit
attribute [local go_sem] Oper.semAt_some

/-- Whether a name is free in a type. -/
noncomputable def hasN (m : ByteArray) (t : T) (r : Bool) : Bool := (eqB t.kind 1 && eqB t.name m) || (!(eqB t.kind 4 && eqB t.name m) && r)
mutual
noncomputable def hasT (m : ByteArray) : T → Bool
  | .var n => eqB n m
  | .con _ l => hasTs m l
  | .fn a b => hasT m a || hasT m b
  | .all n a => !eqB n m && hasT m a
noncomputable def hasTs (m : ByteArray) : List T → Bool
  | [] => false
  | a :: l => hasT m a || hasTs m l
end
theorem hasT_eq (m : ByteArray) (t : T) : hasT m t = hasN m t (hasTs m t.kids) := by
  have e1 : ∀ (a b : Int), eqB a b = decide (a = b) := fun a b => by simp [eqB]
  cases t <;> simp [hasT, hasN, T.kind, T.name, T.kids, hasTs, e1]
theorem hasTs_take (m : ByteArray) (l : List T) (i : Nat) (h : i < l.length) : hasTs m (l.drop i) = (hasT m l[i] || hasTs m (l.drop (i + 1))) := by
  rw [List.drop_eq_getElem_cons h, hasTs]
open Classical in
mutual
theorem fv_mem (t : T) (bd out : List ByteArray) (n : ByteArray) : n ∈ fv bd out t ↔ n ∈ out ∨ (¬ n ∈ bd ∧ hasT n t = true) := by
  cases t with
  | var x =>
    rw [fv, hasT, eqB_iff]
    by_cases h : x ∈ bd ∨ x ∈ out
    · rw [if_pos h]
      constructor
      · exact .inl
      · rintro (h1 | ⟨h1, rfl⟩)
        · exact h1
        · exact h.resolve_left h1
    · rw [if_neg h]
      simp only [List.mem_append, List.mem_singleton]
      constructor
      · rintro (h1 | rfl)
        · exact .inl h1
        · exact .inr ⟨fun e => h (.inl e), rfl⟩
      · rintro (h1 | ⟨_, rfl⟩)
        · exact .inl h1
        · exact .inr rfl
  | con x l => rw [fv, hasT]; exact fvs_mem l bd out n
  | fn a b =>
    rw [fv, hasT, fv_mem b, fv_mem a, Bool.or_eq_true]
    constructor
    · rintro ((h | ⟨h1, h2⟩) | ⟨h1, h2⟩)
      · exact .inl h
      · exact .inr ⟨h1, .inl h2⟩
      · exact .inr ⟨h1, .inr h2⟩
    · rintro (h | ⟨h1, h2 | h2⟩)
      · exact .inl (.inl h)
      · exact .inl (.inr ⟨h1, h2⟩)
      · exact .inr ⟨h1, h2⟩
  | all x a =>
    rw [fv, hasT, fv_mem a, Bool.and_eq_true, Bool.not_eq_true']
    have : eqB x n = false ↔ ¬ n = x := by
      constructor
      · rintro h rfl; rw [eqB_true rfl] at h; cases h
      · intro h; exact eqB_false fun e => h e.symm
    rw [this, List.mem_cons]
    constructor
    · rintro (h | ⟨h1, h2⟩)
      · exact .inl h
      · exact .inr ⟨fun e => h1 (.inr e), fun e => h1 (.inl e), h2⟩
    · rintro (h | ⟨h1, h2, h3⟩)
      · exact .inl h
      · exact .inr ⟨fun e => e.elim h2 h1, h3⟩
theorem fvs_mem (l : List T) (bd out : List ByteArray) (n : ByteArray) : n ∈ fvs bd out l ↔ n ∈ out ∨ (¬ n ∈ bd ∧ hasTs n l = true) := by
  cases l with
  | nil => simp [fvs, hasTs]
  | cons a l =>
    rw [fvs, hasTs, fvs_mem l, fv_mem a, Bool.or_eq_true]
    constructor
    · rintro ((h | ⟨h1, h2⟩) | ⟨h1, h2⟩)
      · exact .inl h
      · exact .inr ⟨h1, .inl h2⟩
      · exact .inr ⟨h1, .inr h2⟩
    · rintro (h | ⟨h1, h2 | h2⟩)
      · exact .inl (.inl h)
      · exact .inl (.inr ⟨h1, h2⟩)
      · exact .inr ⟨h1, h2⟩
end
mutual
theorem has_good (t : T) (h : T.Good t) (n : ByteArray) (hn : ¬ n.data.toList ∈ T.vnames) : hasT n t = false := by
  cases t with
  | var x =>
    rw [hasT]
    exact eqB_false fun e => hn (by rw [T.Good] at h; rw [← e]; exact h)
  | con x l => rw [T.Good] at h; rw [hasT]; exact hass_good l h.2 n hn
  | fn a b => rw [T.Good] at h; rw [hasT, has_good a h.1 n hn, has_good b h.2 n hn]; rfl
  | all x a => rw [T.Good] at h; exact h.elim
theorem hass_good (l : List T) (h : T.Goods l) (n : ByteArray) (hn : ¬ n.data.toList ∈ T.vnames) : hasTs n l = false := by
  cases l with
  | nil => rw [hasTs]
  | cons a l => rw [T.Goods] at h; rw [hasTs, has_good a h.1 n hn, hass_good l h.2 n hn]; rfl
end

end Go.Proofs.YtjnlchhikdfifaaDoor
/- Two types as one: of the types that the statements make. -/
namespace Go.Proofs.YtjnlchhikdfifaaDoor

theorem br_ge2 (b : Bool) (s : List UInt8) : s.length ≤ (T.br b s).length := by
  unfold T.br; split <;> simp; omega
theorem vname_len {x : List UInt8} (h : x ∈ T.vnames) : 1 ≤ x.length := by
  simp [T.vnames] at h; rcases h with rfl | rfl | rfl <;> simp
theorem cname_len {x : List UInt8} (h : x ∈ T.cnames) : 1 ≤ x.length := by
  simp [T.cnames] at h; rcases h with rfl | rfl | rfl | rfl <;> simp
mutual
theorem tsize2_text (t : T) (h : T.Good t) : 2 * tsize t ≤ (T.text t).length + 1 := by
  cases t with
  | var n =>
    simp only [T.Good] at h
    have := vname_len h
    simp only [tsize, T.text]; omega
  | con n l =>
    simp only [T.Good] at h
    have h1 := cname_len h.1
    have h2 := tsizes2_texts l h.2
    simp only [tsize, T.text, List.length_append]; omega
  | fn a b =>
    simp only [T.Good] at h
    have h1 := tsize2_text a h.1
    have h2 := tsize2_text b h.2
    have h3 := br_ge2 a.arrow (T.text a)
    simp only [tsize, T.text, List.length_append, List.length_cons, List.length_nil]; omega
  | all n a => simp only [T.Good] at h
theorem tsizes2_texts (l : List T) (h : T.Goods l) : 2 * tsizes l ≤ (T.texts l).length := by
  cases l with
  | nil => simp [tsizes]
  | cons a r =>
    simp only [T.Goods] at h
    have h1 := tsize2_text a h.1
    have h2 := tsizes2_texts r h.2
    have h3 := br_ge2 a.wide (T.text a)
    simp only [tsizes, T.texts, List.length_append, List.length_cons, List.length_nil]; omega
end
theorem goods_mem {k : T} : ∀ {l : List T}, T.Goods l → k ∈ l → T.Good k
  | [], _, h => by cases h
  | a :: l, h, hk => by
    simp only [T.Goods] at h
    rcases List.mem_cons.1 hk with rfl | hk
    · exact h.1
    · exact goods_mem h.2 hk
theorem good_kid {t k : T} (h : T.Good t) (hk : k ∈ t.kids) : T.Good k := by
  cases t with
  | var n => cases hk
  | con n l => simp only [T.Good] at h; exact goods_mem h.2 hk
  | fn a b =>
    simp only [T.Good] at h
    simp [T.kids] at hk
    rcases hk with rfl | rfl
    · exact h.1
    · exact h.2
  | all n a => simp only [T.Good] at h
/-- The three variables of types that are made. -/
def V3 : List ByteArray := [⟨#[97]⟩, ⟨#[98]⟩, ⟨#[99]⟩]
theorem vname_in {n : ByteArray} (h : n.data.toList ∈ T.vnames) : n ∈ V3 := by
  have e : ∀ l : List UInt8, n.data.toList = l → n = ⟨l.toArray⟩ := fun l e => by
    cases n with | mk d => cases d; simp at e; rw [e]
  simp [T.vnames] at h
  rcases h with h | h | h
  · rw [e _ h]; simp [V3]
  · rw [e _ h]; simp [V3]
  · rw [e _ h]; simp [V3]
theorem good_in : ∀ t, T.Good t → TIn V3 t := by
  refine T.kidsInd fun t ih h x hx => ?_
  cases hv : t.isV with
  | true =>
    rw [isV_var hv] at h hx
    simp [vs] at hx
    subst hx
    exact vname_in (by simpa [T.Good] using h)
  | false =>
    obtain ⟨k, hk, hx⟩ := (vs_kids hv).1 hx
    exact ih k hk (good_kid h hk) x hx
/-- No variable is bound. -/
def NoAll (t : T) : Prop := ∀ x, hasT x t = true ↔ x ∈ vs t
theorem hasTs_any (x : ByteArray) : ∀ l : List T, hasTs x l = true ↔ ∃ k ∈ l, hasT x k = true
  | [] => by simp [hasTs]
  | a :: l => by rw [hasTs, Bool.or_eq_true, hasTs_any x l]; simp
theorem noAll_of {t : T} (h4 : t.kind ≠ 4) (hk : ∀ k ∈ t.kids, NoAll k) : NoAll t := by
  intro x
  cases t with
  | var n => rw [hasT, eqB_iff]; simp [vs, eq_comm]
  | con n l =>
    rw [hasT, hasTs_any, vs_kids rfl]
    exact ⟨fun ⟨k, h1, h2⟩ => ⟨k, h1, (hk k h1 x).1 h2⟩, fun ⟨k, h1, h2⟩ => ⟨k, h1, (hk k h1 x).2 h2⟩⟩
  | fn a b =>
    rw [hasT, Bool.or_eq_true, hk a (by simp [T.kids]) x, hk b (by simp [T.kids]) x]
    simp [vs]
  | all n a => exact absurd rfl h4
/-- No kind but the three, anywhere. -/
inductive Plain3 : T → Prop
  | mk (t : T) : t.kind ≠ 4 → (∀ k ∈ t.kids, Plain3 k) → Plain3 t
theorem Plain3.no {t : T} (h : Plain3 t) : NoAll t := by
  induction h with
  | mk t h _ ih => exact noAll_of h ih
theorem Plain3.kid {t k : T} (h : Plain3 t) (hk : k ∈ t.kids) : Plain3 k := by cases h with | mk _ _ h => exact h k hk
theorem Plain3.four {t : T} (h : Plain3 t) : t.kind ≠ 4 := by cases h; assumption
theorem good_plain : ∀ t, T.Good t → Plain3 t := by
  refine T.kidsInd fun t ih h => .mk t ?_ fun k hk => ih k hk (good_kid h hk)
  cases t with
  | all n a => simp only [T.Good] at h
  | _ => simp [T.kind]
theorem plain_sub {σ : Sg} : ∀ t, Plain3 t → (∀ y ∈ vs t, Plain3 (σ y)) → Plain3 (sub σ t) := by
  refine T.kidsInd fun t ih h hs => ?_
  cases hv : t.isV with
  | true =>
    rw [isV_var hv] at hs ⊢
    exact hs _ (by simp [vs])
  | false =>
    obtain ⟨a1, _, a3, _⟩ := sub_parts σ t hv
    refine .mk _ (by rw [a1]; exact h.four) fun k hk => ?_
    rw [a3] at hk
    obtain ⟨k0, hk0, rfl⟩ := List.mem_map.1 hk
    exact ih k0 hk0 (h.kid hk0) fun y hy => hs y ((vs_kids hv).2 ⟨k0, hk0, hy⟩)
theorem from_plain {O : T → Prop} {σ : Sg} (hF : FromU O σ) (hP : ∀ t, O t → Plain3 t) : ∀ n x, tsize (σ x) ≤ n → Plain3 (σ x) := by
  intro n
  induction n with
  | zero => intro x h; have := tsize_pos (σ x); omega
  | succ n ih =>
    intro x hx
    rcases hF x with hv | ⟨t, ht, hvt, et⟩
    · rw [isV_var hv]; exact .mk _ (by simp [T.kind]) fun k hk => by cases hk
    · rw [et]
      refine plain_sub t (hP t ht) fun y hy => ih y ?_
      have hlt : tsize (σ y) < tsize (σ x) := by rw [et]; exact size_sub_lt hvt hy
      omega
theorem size_sub_ge {σ : Sg} : ∀ t, tsize t ≤ tsize (sub σ t) := by
  refine T.kidsInd fun t ih => ?_
  cases hv : t.isV with
  | true => rw [isV_var hv]; exact tsize_pos _
  | false =>
    obtain ⟨_, _, a3, _⟩ := sub_parts σ t hv
    rw [tsize_eq t, tsize_eq (sub σ t), a3]
    have key : ∀ l : List T, (∀ k ∈ l, tsize k ≤ tsize (sub σ k)) → tsizes l ≤ tsizes (l.map (sub σ)) := by
      intro l
      induction l with
      | nil => intro _; simp [tsizes]
      | cons a l ih2 =>
        intro hl
        have h1 := hl a (by simp)
        have h2 := ih2 fun k hk => hl k (List.mem_cons_of_mem _ hk)
        rw [List.map_cons, tsizes, tsizes]; omega
    have := key t.kids ih
    omega
/-- Types that a statement starts with: closed under parts; of so many variables; never too great. -/
structure USet where
  V : List ByteArray
  O : T → Prop
  kid : ∀ t, O t → ∀ k ∈ t.kids, O k
  tin : ∀ t, O t → TIn V t
  var : ∀ x ∈ V, O (.var x)
  plain : ∀ t, O t → Plain3 t
  G : Sg → Prop
  P : T → T → Prop
  start : G T.var
  kids : ∀ a b, P a b → a.isV = false → b.isV = false → a.kids.length = b.kids.length → ∀ i (h1 : i < a.kids.length) (h2 : i < b.kids.length), P a.kids[i] b.kids[i]
  «at» : ∀ σ a b, G σ → P a b → P (sub σ a) (sub σ b)
  fin : ∀ f σ a b τ, Idem σ → G σ → P a b → uni f σ a b = some (.ok τ) → G τ
  le : ∀ σ, FromU O σ → G σ → ∀ t, O t → tsize (sub σ t) ≤ 900000000
  nm : ∀ x ∈ V, x.size ≤ 1000
  sz : ∀ t, O t → tsize t ≤ 400000
/-- Types of these variables, of at most so many parts. -/
def usetV (V : List ByteArray) (N : Nat) (h1 : 1 ≤ N) (h : N * N ^ V.length ≤ 900000000) (hn : ∀ x ∈ V, x.size ≤ 1000) (hN : N ≤ 400000) : USet where
  V := V
  O := fun t => TIn V t ∧ Plain3 t ∧ tsize t ≤ N
  kid := fun t ht k hk => ⟨fun x hx => by
      cases hv : t.isV with
      | true => rw [isV_var hv] at hk; cases hk
      | false => exact ht.1.kid hv hk x hx, ht.2.1.kid hk, by have := tsize_kid hk; have := ht.2.2; omega⟩
  tin := fun t ht => ht.1
  var := fun x hx => ⟨fun y hy => by simp [vs] at hy; exact hy ▸ hx, .mk _ (by simp [T.kind]) (fun k hk => by cases hk), by simpa [tsize] using h1⟩
  plain := fun t ht => ht.2.1
  G := fun _ => True
  P := fun _ _ => True
  start := trivial
  kids := fun _ _ _ _ _ _ _ _ _ => trivial
  «at» := fun _ _ _ _ _ => trivial
  fin := fun _ _ _ _ _ _ _ _ _ => trivial
  le := fun σ hF _ t ht => by
    have h0 : ∀ x ∈ V, tsize (σ x) ≤ N ^ V.length := fun x hx => from_le (V := V) (N := N) hF (fun t ht _ => ht.1) (fun t ht => ht.2.2) h1 hx
    have h2 := size_subs (σ := σ) (M := N ^ V.length) (Nat.one_le_pow _ _ h1) t fun y hy => h0 y (ht.1 y hy)
    have h3 := Nat.mul_le_mul_right (N ^ V.length) ht.2.2
    omega
  nm := hn
  sz := fun t ht => Nat.le_trans ht.2.2 hN
theorem v3_small : ∀ x ∈ V3, x.size ≤ 1000 := by
  intro x hx
  simp [V3] at hx
  rcases hx with rfl | rfl | rfl <;> decide
def uset3 : USet := usetV V3 107 (by decide) (by decide) v3_small (by decide)
theorem good_o3 {t : T} (h : T.Good t) (hs : tsize t ≤ 107) : uset3.O t := ⟨good_in t h, good_plain t h, hs⟩
/-- What was found so far, of types that a statement makes. -/
structure UInv (S : USet) (σ : Sg) : Prop where
  idem : Idem σ
  src : FromU S.O σ
  vin : VIn S.V σ
  good : S.G σ
theorem uinv_var (S : USet) : UInv S T.var := ⟨idem_var, from_var _, vin_var _, S.start⟩
/-- A type within what was made, with what was found so far in it. -/
def UArg (S : USet) (σ : Sg) (a : T) : Prop := InstU S.O σ a
theorem UInv.var_le {S : USet} {σ : Sg} (h : UInv S σ) {x : ByteArray} (hx : x ∈ S.V) : tsize (σ x) ≤ 900000000 := S.le σ h.src h.good (.var x) (S.var x hx)
theorem UInv.plain {S : USet} {σ : Sg} (h : UInv S σ) {t : T} (ht : S.O t) : Plain3 (sub σ t) :=
  plain_sub t (S.plain t ht) fun y _ => from_plain h.src S.plain _ y (Nat.le_refl _)
theorem UArg.le {S : USet} {σ : Sg} {a : T} (h : UArg S σ a) (hi : UInv S σ) : tsize (sub σ a) ≤ 900000000 ∧ tsize a ≤ 900000000 := by
  obtain ⟨o, ho, e⟩ := h
  have h1 := S.le σ hi.src hi.good o ho
  rw [← e] at h1
  exact ⟨h1, Nat.le_trans (size_sub_ge a) h1⟩
theorem UArg.plain {S : USet} {σ : Sg} {a : T} (h : UArg S σ a) (hi : UInv S σ) : Plain3 (sub σ a) := by
  obtain ⟨o, ho, e⟩ := h
  rw [e]; exact hi.plain ho
theorem UArg.tin {S : USet} {σ : Sg} {a : T} (h : UArg S σ a) (hi : UInv S σ) : TIn S.V (sub σ a) := by
  obtain ⟨o, ho, e⟩ := h
  rw [e]; exact hi.vin.sub (S.tin o ho)
theorem UArg.ext {S : USet} {σ τ : Sg} {a : T} (h : UArg S σ a) (hi : UInv S σ) (he : ExtU σ τ) : UArg S τ a := InstU.ext h he hi.idem
theorem UArg.kid {S : USet} {σ : Sg} {a k : T} (h : UArg S σ a) (hi : UInv S σ) (hv : (sub σ a).isV = false) (hk : k ∈ (sub σ a).kids) : UArg S σ k := InstU.kid S.kid h hi.src hi.idem hv hk
theorem UArg.of {S : USet} {σ : Sg} {a : T} (h : S.O a) : UArg S σ a := ⟨a, h, rfl⟩
/-- Pairs that say what was found, none twice, of these variables. -/
structure PInv (S : USet) (d : List PR) (σ : Sg) : Prop where
  is : IsSg d σ
  each : ∀ x ∈ d, x.n ∈ S.V ∧ x.t = σ x.n
  few : d.length + uns S.V σ ≤ S.V.length
theorem pinv_nil (S : USet) : PInv S [] T.var := ⟨isSg_nil, (fun _ h => nomatch h), by have := List.length_filter_le (fun x => @decide (T.var x = .var x) (Classical.propDecidable _)) S.V; simpa [uns] using this⟩
theorem PInv.len {S : USet} {d : List PR} {σ : Sg} (h : PInv S d σ) : d.length ≤ S.V.length := by have := h.few; omega
theorem PInv.sized {S : USet} {d : List PR} {σ : Sg} (h : PInv S d σ) (hi : UInv S σ) : ∀ x ∈ d, tsize x.t ≤ 900000000 := fun x hx => by
  rw [(h.each x hx).2]; exact hi.var_le (h.each x hx).1
/-- One more pair, as the document's Then and as the program's make it. -/
theorem PInv.bind {S : USet} {d q : List PR} {σ τ : Sg} {p : PR} (h : PInv S d σ) (hb : Binds σ p.n p.t τ) (hx : p.n ∈ S.V) (hq : ∀ y ∈ q, (∃ x ∈ d, y.n = x.n ∧ y.t = app [p] x.t) ∨ y.n = p.n ∧ y.t = p.t) (hl : q.length ≤ d.length + 1) (ht : ∀ n, ty n q = app [p] (ty n d)) : PInv S q τ := by
  have ha : ∀ t, app [p] t = sub (one p.n p.t) t := fun t => by rw [app_sub]; exact sub_ext t fun n _ => ty_one n p
  refine ⟨fun n => ?_, fun y hy => ?_, ?_⟩
  · rw [ht, h.is n, ha, hb.new]
  · rcases hq y hy with ⟨x, hx, e1, e2⟩ | ⟨e1, e2⟩
    · rw [e1, e2, (h.each x hx).2, ha, hb.new]
      exact ⟨(h.each x hx).1, rfl⟩
    · rw [e1, e2, hb.new]
      refine ⟨hx, ?_⟩
      show p.t = sub (one p.n p.t) (σ p.n)
      rw [hb.free]
      exact (one_at p.n p.t).symm
  · have h1 := hb.fewer (V := S.V) hx
    have h2 := h.few
    omega
end Go.Proofs.YtjnlchhikdfifaaDoor
/- The document's Then. -/
namespace Go.Proofs.YtjnlchhikdfifaaDoor
open Go.RowKit Go.Sort Go.Lib
attribute [local go_sem] Oper.semAt_some

theorem isV_kind {t : T} : t.isV = true ↔ t.kind = 1 := by cases t <;> simp [T.isV, T.kind]
theorem not_var {t : T} (h : t.isV = false) : ¬ t.kind = 1 := fun e => by rw [isV_kind.2 e] at h; cases h
/-- A pair without its place. -/
def nt (x : PR) : ByteArray × T := (x.n, x.t)
theorem ty_nt (n : ByteArray) : ∀ {l m : List PR}, l.map nt = m.map nt → ty n l = ty n m
  | [], [], _ => rfl
  | [], _ :: _, h => by cases h
  | _ :: _, [], h => by cases h
  | x :: l, y :: m, h => by
    rw [List.map_cons, List.map_cons] at h
    injection h with h1 h2
    have e := ty_nt n h2
    simp only [nt, Prod.mk.injEq] at h1
    unfold ty at e ⊢
    rw [lk_cons, lk_cons, h1.1]
    by_cases c : y.n = n
    · rw [if_pos c, if_pos c]; simp [h1.2]
    · rw [if_neg c, if_neg c]; exact e
theorem own_below4 {W W' : World} {base : Nat} {e : TypeId} {size : Nat} {v : Value} {n : Nat} {xs : List Value} (h : W.ownsRow base e size v n xs) (hb : Below W.heap.size W W') : W'.ownsRow base e size v n xs :=
  row_kept h fun k _ _ hk => (hb.block k (Array.getElem?_eq_some_iff.1 hk).1).trans hk
/-- The pairs that were made so far. -/
def TnI (w : World) (vo : Value) (ls : List PR) (want : List (ByteArray × T)) (X : World) : Prop :=
  ls.map nt = want ∧ (X.ownsRow w.heap.size 50 4 vo ls.length (cellsP ls) ∧ (ls = [] → vo = .slice none 0 0)) ∧ Typ ls X ∧ Below w.heap.size w X
theorem TnI.start (w : World) (o : World) (hb : Below w.heap.size w o) : TnI w (.slice none 0 0) [] [] o := ⟨rfl, ⟨World.ownsRow_nil _ _ _ _, fun _ => rfl⟩, (fun _ h => nomatch h), hb⟩
theorem TnI.below {w : World} {vo : Value} {ls : List PR} {want : List (ByteArray × T)} {X Y : World} (h : TnI w vo ls want X) (hb : Below X.heap.size X Y) : TnI w vo ls want Y :=
  ⟨h.1, ⟨own_below4 h.2.1.1 hb, h.2.1.2⟩, h.2.2.1.keep (KeepT.of_below hb), h.2.2.2.trans (hb.mono h.2.2.2.size)⟩
theorem TnI.next {w : World} {vo v' : Value} {ls : List PR} {want : List (ByteArray × T)} {x : PR} {X W : World} {o : Obj} (h : TnI w vo ls want X) (hx : TysAt X (.slice x.a x.t.kids.length x.c) x.t.kids) (ho : W.ownsRow w.heap.size 50 4 v' (ls.length + 1) (cellsP ls ++ encP x))
    (hg : (X.alloc o).grownBy W vo.ownBlock) : TnI w v' (ls ++ [x]) (want ++ [nt x]) W := by
  have hsz := h.2.2.2.size
  have hk : KeepT X W := (keepT_alloc X _).trans (KeepT.grown hg (h.2.1.1.alloc _) (by decide))
  refine ⟨by rw [List.map_append, h.1]; rfl, ⟨?_, fun e => by simp at e⟩, fun y hy => ?_, (h.2.2.2.alloc hsz _).grown hg (by simp; omega) fun j hj => (h.2.1.1.lt j hj).1⟩
  · rw [cellsP_snoc, List.length_append]; exact ho
  · rcases List.mem_append.1 hy with hy | hy
    · exact (h.2.2.1 y hy).keep hk
    · obtain rfl := List.mem_singleton.1 hy
      exact hx.keep hk
theorem take_none {d e : List PR} {i : Nat} (h : i < e.length) (hn : lk (e.getD i noP).n d = none) : ((e.take (i + 1)).filter fun y => (lk y.n d).isNone).map nt = ((e.take i).filter fun y => (lk y.n d).isNone).map nt ++ [nt (e.getD i noP)] := by
  have e1 : e.getD i noP = e[i] := by simp [List.getD, h]
  rw [e1] at hn ⊢
  rw [List.take_succ_eq_append_getElem h, List.filter_append, List.map_append]
  simp [hn]
theorem take_some {d e : List PR} {i : Nat} {x : PR} (h : i < e.length) (hn : lk (e.getD i noP).n d = some x) : ((e.take (i + 1)).filter fun y => (lk y.n d).isNone).map nt = ((e.take i).filter fun y => (lk y.n d).isNone).map nt := by
  have e1 : e.getD i noP = e[i] := by simp [List.getD, h]
  rw [e1] at hn
  rw [List.take_succ_eq_append_getElem h, List.filter_append, List.map_append]
  simp [hn]
theorem thenR_nt (d e : List PR) : (thenR d e).map nt = (d.map fun x => (x.n, app e x.t)) ++ (e.filter fun y => (lk y.n d).isNone).map nt := by
  unfold thenR
  rw [List.map_append, List.map_map]; rfl
end Go.Proofs.YtjnlchhikdfifaaDoor
/- The document's bind. -/
namespace Go.Proofs.YtjnlchhikdfifaaDoor
open Go.RowKit Go.Sort Go.Lib
attribute [local go_sem] Oper.semAt_some

theorem givenG_one {T : TypeId} {w : World} {b : Nat} (x : PR) (h : w.heap[b]? = some (.cells #[.string x.n, .int .i64 x.t.kind, .string x.t.name, .slice x.a x.t.kids.length x.c] T (0, 0))) : GivenG T (.slice (some ⟨b, 0, none⟩) 1 1) [x] w := by
  refine .inr ⟨by simp, b, 1, rfl, _, h, by simp, fun i hi => ?_⟩
  obtain rfl : i = 0 := by simpa using hi
  exact ⟨rfl, rfl, rfl, rfl⟩
theorem vars_in {t : T} (h : NoAll t) (n : ByteArray) : inB (fvs [] [] [t]) n = true ↔ n ∈ vs t := by
  rw [inB_iff, fvs_mem, ← h n]
  simp [hasTs]
theorem fv_lens : (∀ t : T, ∀ bd out : List ByteArray, (fv bd out t).length ≤ out.length + tsize t) ∧ ∀ l : List T, ∀ bd out : List ByteArray, (fvs bd out l).length ≤ out.length + tsizes l := by
  have key : ∀ t : T, ∀ bd out : List ByteArray, (fv bd out t).length ≤ out.length + tsize t := by
    refine T.kidsInd fun t ih bd out => ?_
    have hl : ∀ l : List T, (∀ k ∈ l, k ∈ t.kids) → ∀ bd out : List ByteArray, (fvs bd out l).length ≤ out.length + tsizes l := by
      intro l
      induction l with
      | nil => intro _ bd out; simp [fvs, tsizes]
      | cons a l ih2 =>
        intro hk bd out
        have h1 := ih a (hk a (by simp)) bd out
        have h2 := ih2 (fun k h => hk k (List.mem_cons_of_mem _ h)) bd (fv bd out a)
        rw [fvs, tsizes]; omega
    cases t with
    | var n => rw [fv]; split <;> simp [tsize]
    | con n l => rw [fv, tsize]; have := hl l (fun k h => h) bd out; omega
    | fn a b =>
      have h1 := ih a (by simp [T.kids]) bd out
      have h2 := ih b (by simp [T.kids]) bd (fv bd out a)
      rw [fv, tsize]; omega
    | all n a =>
      have h1 := ih a (by simp [T.kids]) (n :: bd) out
      rw [fv, tsize]; omega
  refine ⟨key, fun l => ?_⟩
  induction l with
  | nil => intro bd out; simp [fvs, tsizes]
  | cons a l ih =>
    intro bd out
    have h1 := key a bd out
    have h2 := ih bd (fv bd out a)
    rw [fvs, tsizes]; omega
end Go.Proofs.YtjnlchhikdfifaaDoor
/- The document's unify. -/
namespace Go.Proofs.YtjnlchhikdfifaaDoor
open Go.RowKit Go.Sort Go.Lib
attribute [local go_sem] Oper.semAt_some

/-- What the document's unify tells. -/
def RRes (S : USet) (r : UR) (E : Ending) (w' : World) : Prop :=
  match r with
  | .ok τ => ∃ v q, E = .returned (.tuple #[v, .int .i64 0]) ∧ GivenG 50 v q w' ∧ Typ q w' ∧ PInv S q τ
  | .bad e => E = .returned (.tuple #[.slice none 0 0, .int .i64 (if e then 107 else 106)])
/-- Apply, called where two boxes lie at the end. -/
theorem rapp_at {d : List PR} {t u : T} {sv : Value} {a : Option Addr} {c : Nat} {w : World} (hl : d.length < 1000000) (hd : GivenG 50 sv d w) (td : Typ d w) (ht : TysAt w (.slice a t.kids.length c) t.kids) (hz : tsize t ≤ 1000000000) (e : app d t = u) (V : World) (hb : Below w.heap.size w V) (hs : w.heap.size + 2 ≤ V.heap.size) :
    Calls Tryd.prog 18 #[sv, .agg #[.int .i64 t.kind, .string t.name, .slice a t.kids.length c]] V fun E w' => (∃ za zc, E = .returned (.agg #[.int .i64 u.kind, .string u.name, .slice za u.kids.length zc]) ∧ TyIn (fun k => k ≠ w.heap.size ∧ k ≠ w.heap.size + 1) w' u (.slice za u.kids.length zc)) ∧ Below V.heap.size V w' := by
  subst e
  have lt : ∀ (k : Nat) (cs : Array Value) (fz : Nat × Nat), w.heap[k]? = some (.cells cs 33 fz) → k < w.heap.size := fun k _ _ hk => (Array.getElem?_eq_some_iff.1 hk).1
  have kp : ∀ {t : T} {v : Value}, TyIn (fun k => k < w.heap.size) w t v → TyIn (fun k => k < w.heap.size) V t v := fun h => h.keep fun k _ _ hk hh => (hb.block k hk).trans hh
  refine (rapp_ok d hl t w.heap.size sv a c V ⟨hd.below hb, fun x hx => kp ((td x hx).inside lt), by omega⟩ (kp (ht.inside lt)) hz).mono ?_
  rintro E w' ⟨⟨za, zc, rfl, hin⟩, hb'⟩
  exact ⟨⟨za, zc, rfl, hin.mono fun k hk => by rcases hk with hk | hk <;> omega⟩, hb'⟩
theorem TyIn.far {B : Nat} {w W : World} {t : T} {v : Value} (h : TyIn (fun k => k ≠ B ∧ k ≠ B + 1) w t v) (hk : ∀ k, k ≠ B → k ≠ B + 1 → W.heap[k]? = w.heap[k]?) : TyIn (fun k => k ≠ B ∧ k ≠ B + 1) W t v := h.keep fun k _ _ hh hx => (hk k hh.1 hh.2).trans hx
/-- Both types applied, in their boxes. -/
def UBox (w : World) (u v : T) (ku kv : Int) (ua va : Option Addr) (uc vc : Nat) (W : World) : Prop :=
  (W.heap[w.heap.size]? = some (.cells #[.int .i64 ku, .string u.name, .slice ua u.kids.length uc] 33 (0, 0)) ∧ W.heap[w.heap.size + 1]? = some (.cells #[.int .i64 kv, .string v.name, .slice va v.kids.length vc] 33 (0, 0))) ∧
  (TysAt W (.slice ua u.kids.length uc) u.kids ∧ TysAt W (.slice va v.kids.length vc) v.kids) ∧ Below w.heap.size w W
theorem UBox.below {w : World} {u v : T} {ku kv : Int} {ua va : Option Addr} {uc vc : Nat} {W Y : World} (h : UBox w u v ku kv ua va uc vc W) (hb : Below W.heap.size W Y) : UBox w u v ku kv ua va uc vc Y := by
  obtain ⟨⟨h1, h2⟩, ⟨h3, h4⟩, h5⟩ := h
  have l1 := (Array.getElem?_eq_some_iff.1 h1).1
  have l2 := (Array.getElem?_eq_some_iff.1 h2).1
  exact ⟨⟨(hb.block _ l1).trans h1, (hb.block _ l2).trans h2⟩, ⟨h3.keep (KeepT.of_below hb), h4.keep (KeepT.of_below hb)⟩, h5.trans (hb.mono h5.size)⟩
theorem first_store {w w2 : World} {x y z : Value} {o : Obj} (hb : Below ((w.alloc (.cells #[x, y, z] 33)).alloc o).heap.size ((w.alloc (.cells #[x, y, z] 33)).alloc o) w2) :
    w2.heap[w.heap.size]? = some (.cells #[x, y, z] 33 (0, 0)) ∧ w2.heap[w.heap.size + 1]? = some o ∧ Below w.heap.size w w2 := by
  refine ⟨(hb.block _ (by simp; omega)).trans ((Below.heap_alloc _ _ _ (by simp)).trans (alloc_new w _)), (hb.block _ (by simp)).trans (new_two w _ _), (below_two w _ _).trans (hb.mono (by simp; omega))⟩
theorem ubox_of {w X w3 : World} {u v : T} {ku kv : Int} {ua va : Option Addr} {uc vc : Nat} {x y z : Value} (hA : X.heap[w.heap.size]? = some (.cells #[.int .i64 ku, .string u.name, .slice ua u.kids.length uc] 33 (0, 0))) (hB : X.heap[w.heap.size + 1]? = some (.cells #[x, y, z] 33 (0, 0)))
    (hu : TyIn (fun k => k ≠ w.heap.size ∧ k ≠ w.heap.size + 1) X u (.slice ua u.kids.length uc)) (hbX : Below w.heap.size w X) (hb : Below X.heap.size X w3) (hv : TyIn (fun k => k ≠ w.heap.size ∧ k ≠ w.heap.size + 1) w3 v (.slice va v.kids.length vc)) :
    UBox w u v ku kv ua va uc vc (((w3.setCell ⟨w.heap.size + 1, 0, none⟩ (.int .i64 kv)).setCell ⟨w.heap.size + 1, 1, none⟩ (.string v.name)).setCell ⟨w.heap.size + 1, 2, none⟩ (.slice va v.kids.length vc)) := by
  have lA := (Array.getElem?_eq_some_iff.1 hA).1
  have lB := (Array.getElem?_eq_some_iff.1 hB).1
  have hot : ∀ k, k ≠ w.heap.size + 1 → (((w3.setCell ⟨w.heap.size + 1, 0, none⟩ (.int .i64 kv)).setCell ⟨w.heap.size + 1, 1, none⟩ (.string v.name)).setCell ⟨w.heap.size + 1, 2, none⟩ (.slice va v.kids.length vc)).heap[k]? = w3.heap[k]? := fun k hk => set3_others _ _ _ hk
  refine ⟨⟨(hot _ (by omega)).trans ((hb.block _ lA).trans hA), set3_block ((hb.block _ lB).trans hB) _ _ _⟩, ⟨?_, ?_⟩, below_set3 (hbX.trans (hb.mono hbX.size)) (Nat.le_succ _) _ _ _⟩
  · exact ((hu.keep fun k _ _ _ hh => (hb.block k (Array.getElem?_eq_some_iff.1 hh).1).trans hh).far fun k _ h2 => hot k h2).tys
  · exact (hv.far fun k _ h2 => hot k h2).tys
/-- What one step is, by the two types' kinds and names. -/
inductive UCase (S : USet) (f : Nat) (σ : Sg) (a b u v : T) (r : UR) : Prop where
  | same : u.kind = 1 → v.kind = 1 → u.name = v.name → r = .ok σ → UCase S f σ a b u v r
  | left (τ : Sg) : u.kind = 1 → u.name ∉ vs v → (v.kind = 1 → u.name ≠ v.name) → Binds σ u.name v τ → u.name ∈ S.V → r = .ok τ → UCase S f σ a b u v r
  | leftIn : u.kind = 1 → u.name ∈ vs v → ¬ v.kind = 1 → r = .bad true → UCase S f σ a b u v r
  | right (τ : Sg) : ¬ u.kind = 1 → v.kind = 1 → v.name ∉ vs u → Binds σ v.name u τ → v.name ∈ S.V → r = .ok τ → UCase S f σ a b u v r
  | rightIn : ¬ u.kind = 1 → v.kind = 1 → v.name ∈ vs u → r = .bad true → UCase S f σ a b u v r
  | parts : ¬ u.kind = 1 → ¬ v.kind = 1 → u.kind = v.kind → u.name = v.name → u.kids.length = v.kids.length → uniL (uni f) σ u.kids v.kids = some r → (∀ k ∈ u.kids, UArg S σ k) → (∀ k ∈ v.kids, UArg S σ k) → (∀ i (h1 : i < u.kids.length) (h2 : i < v.kids.length), S.P u.kids[i] v.kids[i]) → UCase S f σ a b u v r
  | kinds : ¬ u.kind = 1 → ¬ v.kind = 1 → ¬ u.kind = v.kind → r = .bad false → UCase S f σ a b u v r
  | names : ¬ u.kind = 1 → ¬ v.kind = 1 → u.kind = v.kind → ¬ u.name = v.name → r = .bad false → UCase S f σ a b u v r
  | many : ¬ u.kind = 1 → ¬ v.kind = 1 → u.kind = v.kind → u.name = v.name → ¬ u.kids.length = v.kids.length → r = .bad false → UCase S f σ a b u v r
theorem ucase {S : USet} {f : Nat} {σ : Sg} {a b : T} {r : UR} (h : uni (f + 1) σ a b = some r) (hi : UInv S σ) (ha : UArg S σ a) (hb : UArg S σ b) (hP : S.P a b) : UCase S f σ a b (sub σ a) (sub σ b) r := by
  rw [uni] at h
  have hs := stepU_is (uni f) σ a b hi.idem
  rw [h] at hs
  have ta := ha.tin hi
  have tb := hb.tin hi
  generalize hr : some r = q at hs
  cases hs with
  | same x e1 e2 =>
    injection hr with hr
    rw [e1, e2]; exact .same rfl rfl rfl hr
  | left x τ e1 h1 =>
    injection hr with hr
    have hx : x ∈ S.V := ta x (by rw [e1]; simp [vs])
    have h2 := h1.out
    rw [e1]
    refine .left τ rfl h2 (fun hk e => h2 ?_) h1 hx hr
    rw [isV_var (isV_kind.2 hk), ← e]; simp [vs, T.name]
  | leftIn x e1 h1 h2 =>
    injection hr with hr
    rw [e1]; exact .leftIn rfl h1 (not_var h2) hr
  | right x τ h1 e2 h2 =>
    injection hr with hr
    have hx : x ∈ S.V := tb x (by rw [e2]; simp [vs])
    rw [e2]; exact .right τ (not_var h1) rfl h2.out h2 hx hr
  | rightIn x h1 e2 h2 =>
    injection hr with hr
    rw [e2]; exact .rightIn (not_var h1) rfl h2 hr
  | parts h1 h2 h3 h4 h5 => exact .parts (not_var h1) (not_var h2) h3 h4 h5 hr.symm (fun k hk => ha.kid hi h1 hk) (fun k hk => hb.kid hi h2 hk) (fun i k1 k2 => S.kids _ _ (S.at σ a b hi.good hP) h1 h2 h5 i k1 k2)
  | bad h1 h2 hn =>
    injection hr with hr
    by_cases c1 : (sub σ a).kind = (sub σ b).kind
    · by_cases c2 : (sub σ a).name = (sub σ b).name
      · exact .many (not_var h1) (not_var h2) c1 c2 (fun c3 => hn ⟨c1, c2, c3⟩) hr
      · exact .names (not_var h1) (not_var h2) c1 c2 hr
    · exact .kinds (not_var h1) (not_var h2) c1 hr
theorem pinv_then {S : USet} {d q : List PR} {σ τ : Sg} {p : PR} (h : PInv S d σ) (hb : Binds σ p.n p.t τ) (hx : p.n ∈ S.V) (g : q.map nt = (thenR d [p]).map nt) : PInv S q τ := by
  refine h.bind hb hx (fun y hy => ?_) ?_ fun n => (ty_nt n g).trans (thenR_ty d [p] n)
  · have h1 : nt y ∈ (thenR d [p]).map nt := by rw [← g]; exact List.mem_map.2 ⟨y, hy, rfl⟩
    obtain ⟨z, hz, e⟩ := List.mem_map.1 h1
    simp only [nt, Prod.mk.injEq] at e
    rcases List.mem_append.1 hz with hz | hz
    · obtain ⟨x, hx', rfl⟩ := List.mem_map.1 hz
      exact .inl ⟨x, hx', e.1.symm, e.2.symm⟩
    · obtain rfl := List.mem_singleton.1 (List.mem_filter.1 hz).1
      exact .inr ⟨e.1.symm, e.2.symm⟩
  · have h1 := congrArg List.length g
    simp only [List.length_map] at h1
    rw [h1, thenR, List.length_append, List.length_map]
    have := List.length_filter_le (fun y => (lk y.n d).isNone) [p]
    simp only [List.length_singleton] at this
    omega
theorem uinv_next {S : USet} {f : Nat} {ρ τ : Sg} {a b : T} (h : uni f ρ a b = some (.ok τ)) (hi : UInv S ρ) (ha : UArg S ρ a) (hb : UArg S ρ b) (hP : S.P a b) : UInv S τ ∧ ExtU ρ τ := by
  obtain ⟨h1, h2, _⟩ := uni_sound f ρ a b τ h hi.idem
  refine ⟨⟨h1, uni_from S.kid f ρ a b τ h hi.idem hi.src ha hb, ?_, S.fin f ρ a b τ hi.idem hi.good hP h⟩, h2⟩
  have e : uni f ρ (sub ρ a) (sub ρ b) = some (.ok τ) := by
    cases f with
    | zero => cases h
    | succ f => rw [uni, hi.idem.twice a, hi.idem.twice b]; rw [uni] at h; exact h
  obtain ⟨r, hr, hA⟩ := uni_total S.V ρ (sub ρ a) (sub ρ b) hi.idem hi.vin (ha.tin hi) (hb.tin hi)
  have := hr.only ⟨f, e⟩
  exact (hA τ this).1
/-- Where the loop over the parts stands. -/
def LpI (S : USet) (f : Nat) (σ : Sg) (u v : T) (r : UR) (i : Nat) (vs vb : Value) (X : World) : Prop :=
  (∃ ρ q, vb = .int .i64 0 ∧ (UInv S ρ ∧ ExtU σ ρ ∧ PInv S q ρ ∧ uniL (uni f) ρ (u.kids.drop i) (v.kids.drop i) = some r) ∧ GivenG 50 vs q X ∧ Typ q X) ∨ (∃ e : Bool, vb = .int .i64 (if e then 107 else 106) ∧ vs = .slice none 0 0 ∧ r = .bad e)
theorem lp_next {S : USet} {f : Nat} {σ ρ : Sg} {u v : T} {r r1 : UR} {i : Nat} (h1 : i < u.kids.length) (h2 : i < v.kids.length) (hl : uniL (uni f) ρ (u.kids.drop i) (v.kids.drop i) = some r) (e : uni f ρ u.kids[i] v.kids[i] = some r1) (hi : UInv S ρ) (he : ExtU σ ρ) (ha : UArg S ρ u.kids[i]) (hb : UArg S ρ v.kids[i]) (hP : S.P u.kids[i] v.kids[i]) (E : Ending) (X : World) (hr : RRes S r1 E X) :
    ∃ vs vb, E = .returned (.tuple #[vs, vb]) ∧ LpI S f σ u v r (i + 1) vs vb X := by
  rw [List.drop_eq_getElem_cons h1, List.drop_eq_getElem_cons h2, uniL, e] at hl
  cases r1 with
  | bad q =>
    simp only [Option.some.injEq] at hl
    exact ⟨_, _, hr, .inr ⟨q, rfl, rfl, hl.symm⟩⟩
  | ok τ =>
    obtain ⟨v4, q4, rfl, g1, g2, g3⟩ := hr
    obtain ⟨k1, k2⟩ := uinv_next e hi ha hb hP
    exact ⟨_, _, rfl, .inl ⟨τ, q4, rfl, ⟨k1, he.trans k2, g3, hl⟩, g1, g2⟩⟩
theorem lp_some {f : Nat} {ρ : Sg} {u v : T} {r : UR} {i : Nat} (h1 : i < u.kids.length) (h2 : i < v.kids.length) (hl : uniL (uni f) ρ (u.kids.drop i) (v.kids.drop i) = some r) : ∃ r1, uni f ρ u.kids[i] v.kids[i] = some r1 := by
  rw [List.drop_eq_getElem_cons h1, List.drop_eq_getElem_cons h2, uniL] at hl
  cases e : uni f ρ u.kids[i] v.kids[i] with
  | none => rw [e] at hl; cases hl
  | some r1 => exact ⟨r1, rfl⟩

end Go.Proofs.YtjnlchhikdfifaaDoor
/- The document's UnifyAll. -/
namespace Go.Proofs.YtjnlchhikdfifaaDoor
open Go.RowKit Go.Sort Go.Lib
attribute [local go_sem] Oper.semAt_some

/-- Pair by pair. -/
inductive UniAll : Sg → List (T × T) → UR → Prop
  | nil (σ : Sg) : UniAll σ [] (.ok σ)
  | cons (σ τ : Sg) (a b : T) (l : List (T × T)) (r : UR) : Uni σ a b (.ok τ) → UniAll τ l r → UniAll σ ((a, b) :: l) r
  | bad (σ : Sg) (a b : T) (l : List (T × T)) (e : Bool) : Uni σ a b (.bad e) → UniAll σ ((a, b) :: l) (.bad e)
theorem Uni.inv {S : USet} {ρ τ : Sg} {a b : T} (h : Uni ρ a b (.ok τ)) (hi : UInv S ρ) (ha : UArg S ρ a) (hb : UArg S ρ b) (hP : S.P a b) : UInv S τ ∧ ExtU ρ τ := by
  obtain ⟨f, h⟩ := h; exact uinv_next h hi ha hb hP
/-- Pairs of types lie in a row. -/
def P2At (v : Value) (l : List (Tl × Tl)) (w : World) : Prop := ∃ a c, v = .slice a l.length c ∧ l.length ≤ c ∧ ∀ i (hi : i < l.length), ∃ g, a = some ⟨g, 0, none⟩ ∧ g < w.heap.size ∧
  ((w.cell? ⟨g, i * 6, none⟩ = some (.int .i64 l[i].1.1.kind) ∧ w.cell? ⟨g, i * 6 + 1, none⟩ = some (.string l[i].1.1.name) ∧ w.cell? ⟨g, i * 6 + 2, none⟩ = some (.slice l[i].1.2.1 l[i].1.1.kids.length l[i].1.2.2)) ∧
    (w.cell? ⟨g, i * 6 + 3, none⟩ = some (.int .i64 l[i].2.1.kind) ∧ w.cell? ⟨g, i * 6 + 3 + 1, none⟩ = some (.string l[i].2.1.name) ∧ w.cell? ⟨g, i * 6 + 3 + 2, none⟩ = some (.slice l[i].2.2.1 l[i].2.1.kids.length l[i].2.2.2))) ∧
  TysAt w (.slice l[i].1.2.1 l[i].1.1.kids.length l[i].1.2.2) l[i].1.1.kids ∧ TysAt w (.slice l[i].2.2.1 l[i].2.1.kids.length l[i].2.2.2) l[i].2.1.kids
theorem P2At.below {v : Value} {l : List (Tl × Tl)} {w W : World} (h : P2At v l w) (hb : Below w.heap.size w W) : P2At v l W := by
  obtain ⟨a, c, rfl, hc, hr⟩ := h
  refine ⟨a, c, rfl, hc, fun i hi => ?_⟩
  obtain ⟨g, e, hg, ⟨⟨x0, x1, x2⟩, y0, y1, y2⟩, k1, k2⟩ := hr i hi
  have f1 := fun o => hb.cell (p := ⟨g, o, none⟩) hg
  refine ⟨g, e, Nat.lt_of_lt_of_le hg hb.size, ⟨⟨?_, ?_, ?_⟩, ?_, ?_, ?_⟩, k1.keep (KeepT.of_below hb), k2.keep (KeepT.of_below hb)⟩ <;> rw [f1] <;> assumption
def plainP (l : List (Tl × Tl)) : List (T × T) := l.map fun x => (x.1.1, x.2.1)
/-- Where the loop over the pairs stands. -/
def LaI (S : USet) (l : List (Tl × Tl)) (r : UR) (i : Nat) (vs vb : Value) (X : World) : Prop :=
  (∃ ρ q, vb = .int .i64 0 ∧ (UInv S ρ ∧ PInv S q ρ ∧ UniAll ρ (plainP (l.drop i)) r) ∧ GivenG 50 vs q X ∧ Typ q X) ∨ (∃ e : Bool, vb = .int .i64 (if e then 107 else 106) ∧ vs = .slice none 0 0 ∧ r = .bad e)
theorem la_next {S : USet} {ρ : Sg} {l : List (Tl × Tl)} {r : UR} {i : Nat} (h1 : i < l.length) (hl : UniAll ρ (plainP (l.drop i)) r) (hi : UInv S ρ) (ha : S.O l[i].1.1) (hb : S.O l[i].2.1) (hP : S.P l[i].1.1 l[i].2.1) :
    ∃ r1, Uni ρ l[i].1.1 l[i].2.1 r1 ∧ ∀ E X, RRes S r1 E X → ∃ vs vb, E = .returned (.tuple #[vs, vb]) ∧ LaI S l r (i + 1) vs vb X := by
  rw [List.drop_eq_getElem_cons h1] at hl
  generalize e : plainP (l[i] :: l.drop (i + 1)) = k at hl
  cases hl with
  | nil => cases e
  | cons _ τ a b l' _ hu hr =>
    simp only [plainP, List.map_cons, List.cons.injEq, Prod.mk.injEq] at e
    obtain ⟨⟨rfl, rfl⟩, rfl⟩ := e
    refine ⟨_, hu, fun E X h => ?_⟩
    obtain ⟨v4, q4, rfl, g1, g2, g3⟩ := h
    exact ⟨_, _, rfl, .inl ⟨τ, q4, rfl, ⟨(hu.inv hi (.of ha) (.of hb) hP).1, g3, hr⟩, g1, g2⟩⟩
  | bad _ a b l' e' hu =>
    simp only [plainP, List.map_cons, List.cons.injEq, Prod.mk.injEq] at e
    obtain ⟨⟨rfl, rfl⟩, rfl⟩ := e
    exact ⟨_, hu, fun E X h => ⟨_, _, h, .inr ⟨e', rfl, rfl, rfl⟩⟩⟩
end Go.Proofs.YtjnlchhikdfifaaDoor
/- An error without a place, seen av plain data: paideiasee.Is. -/
namespace Go.Proofs.YtjnlchhikdfifaaDoor
open Go.RowKit
attribute [local go_sem] Oper.semAt_some

def noA : Addr := ⟨0, 0, none⟩
def faultV (code : Int) (placed : Bool) (pos : Int) : Value := .agg #[.int .i64 code, .bool placed, .int .i64 pos]
theorem faultBox {w W : World} {o : Obj} (hb : Below (w.alloc o).heap.size (w.alloc o) W) : W.heap[w.heap.size]? = some o := (hb.block _ (by simp)).trans (by show (w.heap.push _)[_]? = _; simp)
end Go.Proofs.YtjnlchhikdfifaaDoor
/- What the program's Unify is to tell, and what the laws of unification share. -/
namespace Go.Proofs.YtjnlchhikdfifaaDoor
open Go.RowKit Go.Sort Go.Lib
attribute [local go_sem] Oper.semAt_some

/-- Apply of what was found. -/
theorem pap_ret {S : USet} {τ : Sg} {l : List PR} {t u : T} {sv : Value} {a : Option Addr} {c : Nat} {w : World} (hs : SubAt sv l w) (hp : PInv S l τ) (hi : UInv S τ) (hl : S.V.length < 10) (ht : tsize t ≤ 900000000) (e : sub τ t = u) (hT : TysAt w (.slice a t.kids.length c) t.kids) :
    Calls Tryd.prog 40 #[.agg #[sv], .agg #[.int .i64 t.kind, .string t.name, .slice a t.kids.length c]] w fun E Y => (∃ za zc, E = .returned (.agg #[.int .i64 u.kind, .string u.name, .slice za u.kids.length zc]) ∧ TysAt Y (.slice za u.kids.length zc) u.kids) ∧ Below w.heap.size w Y := by
  have e2 : app l t = u := (hp.is.app t).trans e
  subst e2
  have hlen := hp.len
  refine (apply_any (d := l) (t := t) (by omega) (fun x hx => by have := hp.sized hi x hx; omega) (by omega) hs hT).mono ?_
  rintro E Y ⟨⟨za, zc, rfl, hin⟩, hb⟩
  exact ⟨⟨za, zc, rfl, hin.tys⟩, hb⟩
theorem fits_le {t : T} (h : tsize t ≤ 900000000) : Fits t := by
  refine T.by_kids (P := fun t => tsize t ≤ 900000000 → Fits t) (fun t H h => ?_) t h
  refine .mk t ?_ fun k hk => H k hk (by have := tsize_kid hk; omega)
  have h1 := len_sizes' t.kids
  rw [tsize_eq] at h; omega
theorem sameU_ret {t : T} (ht : tsize t ≤ 900000000) {a b : Option Addr} {c d : Nat} {w : World} (h : TysAt w (.slice a t.kids.length c) t.kids) (h' : TysAt w (.slice b t.kids.length d) t.kids) :
    Calls Tryd.prog 17 #[.agg #[.int .i64 t.kind, .string t.name, .slice a t.kids.length c], .agg #[.int .i64 t.kind, .string t.name, .slice b t.kids.length d]] w fun e Y => e = .returned (.bool true) ∧ Below w.heap.size w Y := by
  have := sameType_any (t := t) (t' := t) (w := w) (fits_le ht) h h'
  rwa [eqB_true rfl] at this
/-- What two types come to, and that it goes on. -/
theorem uni_start (S : USet) {a b : T} (ha : S.O a) (hb : S.O b) (hP : S.P a b) : ∃ r, Uni T.var a b r ∧ ∀ τ, r = .ok τ → UInv S τ ∧ sub τ a = sub τ b := by
  obtain ⟨r, hr, _⟩ := uni_total S.V T.var a b idem_var (vin_var _) (S.tin a ha) (S.tin b hb)
  refine ⟨r, hr, fun τ e => ?_⟩
  subst e
  exact ⟨(hr.inv (uinv_var S) (.of ha) (.of hb) hP).1, (hr.sound idem_var).2.2⟩
theorem uni_found {a b : T} {r : UR} (h : Uni T.var a b r) (θ : Sg) (e : sub θ a = sub θ b) : ∃ τ, r = .ok τ ∧ Goes θ τ := h.most idem_var (goes_var θ) e
/-- The other way round it is found, too. -/
theorem uni_turn {a b : T} {r q : UR} (h : Uni T.var a b r) (k : Uni T.var b a q) : (∃ τ τ', r = .ok τ ∧ q = .ok τ') ∨ ∃ e e', r = .bad e ∧ q = .bad e' := by
  cases r with
  | ok τ =>
    obtain ⟨τ', e, _⟩ := uni_found k τ (h.sound idem_var).2.2.symm
    exact .inl ⟨τ, τ', rfl, e⟩
  | bad e =>
    cases q with
    | ok τ' =>
      obtain ⟨_, e', _⟩ := uni_found h τ' (k.sound idem_var).2.2.symm
      cases e'
    | bad e' => exact .inr ⟨e, e', rfl, rfl⟩
theorem made_small {t : T} {D : Nat} (h : T.Good t ∧ Fits t ∧ (T.text t).length + 10 ≤ D) (hD : D ≤ 224) : uset3.O t := good_o3 h.1 (by have := tsize2_text t h.1; have := h.2.2; omega)
/-- The example's two types. -/
def s1 : USet := usetV [⟨#[97]⟩] 1 (by decide) (by decide) (by intro x hx; simp at hx; subst hx; decide) (by decide)
theorem o1_a : s1.O (.var ⟨#[97]⟩) := s1.var _ (by simp [s1, usetV])
theorem o1_int : s1.O tInt := ⟨fun x hx => by simp [tInt, vs, vss] at hx, .mk _ (by simp [tInt, T.kind]) (fun k hk => by simp [tInt, T.kids] at hk), by simp [tInt, tsize, tsizes]⟩
theorem first_found : ∃ τ, Uni T.var (.var ⟨#[97]⟩) tInt (.ok τ) ∧ UInv s1 τ ∧ ∀ l, PInv s1 l τ → l.length = 1 := by
  obtain ⟨r, hr, hs⟩ := uni_start s1 o1_a o1_int trivial
  obtain ⟨τ, rfl, _⟩ := uni_found hr (one ⟨#[97]⟩ tInt) (by show one ⟨#[97]⟩ tInt ⟨#[97]⟩ = _; rw [one_at]; rfl)
  refine ⟨τ, hr, (hs τ rfl).1, fun l hl => ?_⟩
  have h1 : τ ⟨#[97]⟩ = tInt := (hs τ rfl).2
  have h2 := hl.len
  have h3 : l ≠ [] := by
    rintro rfl
    have := hl.is ⟨#[97]⟩
    rw [h1] at this; cases this
  have : l.length ≠ 0 := fun e => h3 (List.length_eq_zero_iff.1 e)
  simp only [s1, usetV, List.length_singleton] at h2
  omega
end Go.Proofs.YtjnlchhikdfifaaDoor
/- SchemeFree: what the names come to, as plain data. -/
namespace Go.Proofs.YtjnlchhikdfifaaDoor
open Go.RowKit Go.Sort Go.Lib
attribute [local go_sem] Oper.semAt_some

theorem fv_nodups : ∀ t : T, ∀ bd out : List ByteArray, out.Nodup → (fv bd out t).Nodup := by
  refine T.kidsInd fun t ih bd out ho => ?_
  have hl : ∀ l : List T, (∀ k ∈ l, k ∈ t.kids) → ∀ bd out : List ByteArray, out.Nodup → (fvs bd out l).Nodup := by
    intro l
    induction l with
    | nil => intro _ bd out h; simpa [fvs] using h
    | cons a l ih2 => intro hk bd out h; rw [fvs]; exact ih2 (fun k h => hk k (List.mem_cons_of_mem _ h)) bd _ (ih a (hk a (List.mem_cons_self ..)) bd out h)
  cases t with
  | var n =>
    rw [fv]
    split
    · exact ho
    · rename_i h
      rw [List.nodup_append]
      exact ⟨ho, by simp, fun a ha b hb e => by
        have hb' : b = n := by simpa using hb
        exact h (.inr (by rw [← hb', ← e]; exact ha))⟩
  | con n l => rw [fv]; exact hl l (fun k h => h) bd out ho
  | fn a b => rw [fv]; exact ih b (by simp [T.kids]) bd _ (ih a (by simp [T.kids]) bd out ho)
  | all n a => rw [fv]; exact ih a (by simp [T.kids]) _ out ho
theorem fvs1_nodup (t : T) : (fvs [] [] [t]).Nodup := by rw [show fvs [] [] [t] = fv [] [] t by simp [fvs]]; exact fv_nodups t [] [] List.nodup_nil
theorem fvs1_mem {t : T} (h : NoAll t) {n : ByteArray} : n ∈ fvs [] [] [t] ↔ n ∈ vs t := by rw [← inB_iff]; exact vars_in h n
theorem only_if {l : List ByteArray} {m : ByteArray} {c : Bool} (hn : l.Nodup) (h : ∀ x ∈ l, x = m) (hc : c = true ↔ m ∈ l) : l = if c = true then [m] else [] := by
  cases l with
  | nil => rw [if_neg (fun e => nomatch hc.1 e)]
  | cons a l =>
    have ha := h a (List.mem_cons_self ..)
    subst ha
    rw [if_pos (hc.2 (List.mem_cons_self ..))]
    cases l with
    | nil => rfl
    | cons b l =>
      have hb := h b (by simp)
      subst hb
      simp at hn
theorem nm_sub {σ : Sg} : ∀ t, Nm t → (∀ y ∈ vs t, Nm (σ y)) → Nm (sub σ t) := by
  refine T.kidsInd fun t ih h hs => ?_
  cases hv : t.isV with
  | true =>
    rw [isV_var hv] at hs ⊢
    exact hs _ (by simp [vs])
  | false =>
    obtain ⟨e1, e2, e3, _⟩ := sub_parts σ t hv
    refine .mk _ (by rw [e2]; exact h.name) fun k hk => ?_
    rw [e3] at hk
    obtain ⟨k0, h0, rfl⟩ := List.mem_map.1 hk
    exact ih k0 h0 (h.kid h0) fun y hy => hs y ((vs_kids hv).2 ⟨k0, h0, hy⟩)
theorem tsizes_map {f : T → T} : ∀ l : List T, (∀ k ∈ l, tsize (f k) = tsize k) → tsizes (l.map f) = tsizes l
  | [], _ => rfl
  | a :: l, h => by rw [List.map_cons, tsizes, tsizes, h a (List.mem_cons_self ..), tsizes_map l fun k hk => h k (List.mem_cons_of_mem _ hk)]
theorem size_subV {σ : Sg} : ∀ t, (∀ y ∈ vs t, ∃ z, σ y = .var z) → tsize (sub σ t) = tsize t := by
  refine T.kidsInd fun t ih hs => ?_
  cases hv : t.isV with
  | true =>
    rw [isV_var hv] at hs ⊢
    obtain ⟨z, hz⟩ := hs t.name (by simp [vs])
    rw [sub, hz, tsize, tsize]
  | false =>
    obtain ⟨e1, e2, e3, _⟩ := sub_parts σ t hv
    rw [tsize_eq, tsize_eq t, e3, tsizes_map _ fun k hk => ih k hk fun y hy => hs y ((vs_kids hv).2 ⟨k, hk, hy⟩)]
theorem ty_prs_in : ∀ (F G : List ByteArray) (y : ByteArray), F.length = G.length → y ∈ F → ∃ z ∈ G, ty y (prs F G) = .var z
  | f :: F, g :: G, y, hl, hy => by
    rw [prs, ty_cons]
    by_cases e : f = y
    · rw [if_pos e]; exact ⟨g, List.mem_cons_self .., rfl⟩
    · rw [if_neg e]
      obtain ⟨z, hz, h⟩ := ty_prs_in F G y (by simpa using hl) ((List.mem_cons.1 hy).resolve_left fun q => e q.symm)
      exact ⟨z, List.mem_cons_of_mem _ hz, h⟩
  | [], _, _, _, hy => nomatch hy
  | _ :: _, [], _, hl, _ => by simp at hl
theorem ty_prs_out : ∀ (F G : List ByteArray) (y : ByteArray), y ∉ F → ty y (prs F G) = .var y
  | f :: F, g :: G, y, hy => by
    rw [prs, ty_cons, if_neg fun e : f = y => hy (by rw [← e]; exact List.mem_cons_self ..)]
    exact ty_prs_out F G y fun h => hy (List.mem_cons_of_mem _ h)
  | [], _, y, _ => by rw [prs]; exact ty_nil y; simp
  | _ :: _, [], y, _ => by rw [prs]; exact ty_nil y; simp
/-- What is for all, what is free. -/
theorem sf_free {t : T} {nm : ByteArray} : (fvs [] [] [t]).filter (fun n => !inB ((fvs [] [] [t]).filter fun n => !inB [nm] n) n) = if inB (fvs [] [] [t]) nm = true then [nm] else [] := by
  have hm : ∀ n, n ∈ (fvs [] [] [t]).filter (fun n => !inB [nm] n) ↔ n ∈ fvs [] [] [t] ∧ ¬ n = nm := fun n => by
    rw [List.mem_filter, Bool.not_eq_true', Bool.eq_false_iff, ne_eq, inB_iff, List.mem_singleton]
  refine only_if ((fvs1_nodup t).filter _) (fun x hx => ?_) ?_
  · obtain ⟨h1, h2⟩ := List.mem_filter.1 hx
    rw [Bool.not_eq_true', Bool.eq_false_iff, ne_eq, inB_iff, hm] at h2
    exact Classical.byContradiction fun e => h2 ⟨h1, e⟩
  · rw [inB_iff, List.mem_filter, Bool.not_eq_true', Bool.eq_false_iff, ne_eq, inB_iff, hm]
    exact ⟨fun h => ⟨h, fun q => q.2 rfl⟩, fun h => h.1⟩
theorem sf_nm : ∀ t, T.Good t → Nm t := by
  refine T.kidsInd fun t ih h => .mk t ?_ fun k hk => ih k hk (good_kid h hk)
  cases t with
  | var n => rw [T.Good] at h; have := (vname_pos h).2; simp only [T.name]; omega
  | con n l => rw [T.Good] at h; have := (cname_pos h.1).2; simp only [T.name]; omega
  | fn a b => exact (by decide : (0 : Nat) ≤ 1000)
  | all n a => rw [T.Good] at h; exact h.elim
structure SfU (t U : T) (nm : ByteArray) (zn : List ByteArray) : Prop where
  nmU : Nm U
  size : tsize U = tsize t
  names : ∀ n ∈ fvs [] [] [U], n.size ≤ 1000000
  zsize : ∀ n ∈ zn, n.size ≤ 1000000
  zlen : zn.length ≤ (fvs [] [] [t]).length
  free : (fvs [] [] [U]).filter (fun n => !inB zn n) = if inB (fvs [] [] [t]) nm = true then [nm] else []
  apart : inB (fvs [] [] [t]) nm = true → ∀ x ∈ zn, x ≠ nm
theorem sf_u {t : T} {nm : ByteArray} {zn X : List ByteArray} (hG : T.Good t) (hX : ((fvs [] [] [t]).filter fun n => !inB [nm] n) = X)
    (hz : NewN ((fvs [] [] [t]).filter (inB X)).length ((fvs [] [] [t]).filter fun n => !inB X n) zn) : SfU t (app (prs ((fvs [] [] [t]).filter (inB X)) zn) t) nm zn := by
  have hP := good_plain t hG
  have hF := @fvs1_mem t hP.no
  have hos := @sf_free t nm
  rw [hX] at hos
  rw [hos] at hz
  obtain ⟨hzl, hzn, hza⟩ := hz
  have hxm : ∀ n, n ∈ X ↔ n ∈ fvs [] [] [t] ∧ ¬ n = nm := fun n => by
    rw [← hX, List.mem_filter, Bool.not_eq_true', Bool.eq_false_iff, ne_eq, inB_iff, List.mem_singleton]
  have hbm : ∀ n, n ∈ (fvs [] [] [t]).filter (inB X) ↔ n ∈ fvs [] [] [t] ∧ ¬ n = nm := fun n => by
    rw [List.mem_filter, inB_iff, hxm]; exact ⟨fun h => h.2, fun h => ⟨h.1, h⟩⟩
  have hbl := List.length_filter_le (inB X) (fvs [] [] [t])
  generalize (fvs [] [] [t]).filter (inB X) = bs at *
  have hsg : ∀ y ∈ vs t, (∃ z ∈ zn, ty y (prs bs zn) = .var z ∧ y ≠ nm) ∨ (y = nm ∧ ty y (prs bs zn) = .var y) := fun y hy => by
    by_cases e : y = nm
    · exact .inr ⟨e, ty_prs_out bs zn y fun h => ((hbm y).1 h).2 e⟩
    · obtain ⟨z, h1, h2⟩ := ty_prs_in bs zn y hzl.symm ((hbm y).2 ⟨hF.2 hy, e⟩)
      exact .inl ⟨z, h1, h2, e⟩
  have hv : ∀ y ∈ vs t, ∃ z, ty y (prs bs zn) = .var z ∧ z.size ≤ 1000 := fun y hy => by
    rcases hsg y hy with ⟨z, h1, h2, _⟩ | ⟨_, h2⟩
    · exact ⟨z, h2, by rw [(hza z h1).2]; decide⟩
    · exact ⟨y, h2, v3_small y (good_in t hG y hy)⟩
  have hap : inB (fvs [] [] [t]) nm = true → ∀ x ∈ zn, x ≠ nm := fun h x hx e => (hza x hx).1 (by rw [if_pos h, e]; exact List.mem_singleton_self _)
  have hU : app (prs bs zn) t = sub (fun n => ty n (prs bs zn)) t := app_sub _ t
  rw [hU]
  have hPU : Plain3 (sub (fun n => ty n (prs bs zn)) t) := plain_sub t hP fun y hy => by
    obtain ⟨z, h, _⟩ := hv y hy
    rw [h]; exact .mk _ (by simp [T.kind]) (fun k hk => by cases hk)
  have hFU := @fvs1_mem _ hPU.no
  have hvu : ∀ x, x ∈ vs (sub (fun n => ty n (prs bs zn)) t) ↔ ∃ y ∈ vs t, x ∈ vs (ty y (prs bs zn)) := fun x => vs_sub t
  refine ⟨nm_sub t (sf_nm t hG) fun y hy => ?_, size_subV t fun y hy => (hv y hy).imp fun _ h => h.1, fun n hn => ?_, fun n hn => by rw [(hza n hn).2]; decide, by rw [hzl]; exact hbl, ?_, hap⟩
  · obtain ⟨z, h, hs⟩ := hv y hy
    rw [h]; exact .mk _ hs fun k hk => by cases hk
  · obtain ⟨y, hy, hx⟩ := (hvu n).1 (hFU.1 hn)
    obtain ⟨z, h, hs⟩ := hv y hy
    rw [h] at hx
    have : n = z := by simpa [vs] using hx
    rw [this]; omega
  · refine only_if ((fvs1_nodup _).filter _) (fun x hx => ?_) ?_
    · obtain ⟨h1, h2⟩ := List.mem_filter.1 hx
      rw [Bool.not_eq_true', Bool.eq_false_iff, ne_eq, inB_iff] at h2
      obtain ⟨y, hy, hx⟩ := (hvu x).1 (hFU.1 h1)
      rcases hsg y hy with ⟨z, k1, k2, _⟩ | ⟨k1, k2⟩
      · rw [k2] at hx
        have : x = z := by simpa [vs] using hx
        exact absurd (this ▸ k1) h2
      · rw [k2] at hx
        have : x = y := by simpa [vs] using hx
        rw [this, k1]
    · rw [inB_iff, List.mem_filter, Bool.not_eq_true', Bool.eq_false_iff, ne_eq, inB_iff, hFU, hvu]
      refine ⟨fun h => ⟨⟨nm, hF.1 h, ?_⟩, fun q => hap (inB_iff.2 h) nm q rfl⟩, fun h => ?_⟩
      · rw [ty_prs_out bs zn nm fun q => ((hbm nm).1 q).2 rfl]; simp [vs]
      · obtain ⟨⟨y, hy, hx⟩, h2⟩ := h
        rcases hsg y hy with ⟨z, k1, k2, _⟩ | ⟨k1, k2⟩
        · rw [k2] at hx
          have : nm = z := by simpa [vs] using hx
          exact absurd (this ▸ k1) h2
        · rw [← k1]; exact hF.2 hy
theorem sf_small {t : T} (hG : T.Good t) : (∀ n ∈ fvs [] [] [t], n.size ≤ 1000000) ∧ (fvs [] [] [t]).length ≤ 3 := by
  have hF := @fvs1_mem t (good_plain t hG).no
  refine ⟨fun n hn => ?_, nodup_lenS (R := V3) (fvs1_nodup t) fun n hn => good_in t hG n (hF.1 hn)⟩
  have := v3_small n (good_in t hG n (hF.1 hn)); omega
end Go.Proofs.YtjnlchhikdfifaaDoor
/- SchemeFresh: plain facts: numbers' names, and names that are put back. -/
namespace Go.Proofs.YtjnlchhikdfifaaDoor
open Go.RowKit Go.Sort Go.Lib
attribute [local go_sem] Oper.semAt_some

def valD (l : List UInt8) : Nat := l.foldl (fun a d => a * 10 + (d.toNat - 48)) 0
theorem valD_dec (u : Nat) : valD (Lib.decDigits u) = u := by
  induction u using Nat.strongRecOn with
  | _ u ih =>
    rw [Lib.decDigits]
    split
    · rename_i h
      have : (48 + u) % 256 = 48 + u := Nat.mod_eq_of_lt (by omega)
      simp [valD, this]
    · rename_i h
      have h1 := ih (u / 10) (by omega)
      have h2 : (48 + u % 10) % 256 = 48 + u % 10 := Nat.mod_eq_of_lt (by omega)
      unfold valD at h1 ⊢
      rw [List.foldl_append, h1]
      simp [h2]
      omega
theorem qn_data (u : Nat) : (qn u).data.toList = 63 :: Lib.decDigits u := by unfold qn; simp
theorem qn_inj {u v : Nat} (h : qn u = qn v) : u = v := by
  have e : Lib.decDigits u = Lib.decDigits v := by
    have := congrArg (fun b : ByteArray => b.data.toList) h
    simp only [qn_data] at this
    exact (List.cons.inj this).2
  rw [← valD_dec u, e, valD_dec]
theorem dec_pos (u : Nat) : 1 ≤ (Lib.decDigits u).length := by
  unfold Lib.decDigits
  split
  · exact Nat.le_refl 1
  · rw [List.length_append]; exact Nat.le_add_left ..
theorem qn_size (u : Nat) : 2 ≤ (qn u).size := by
  have : (qn u).size = (qn u).data.toList.length := rfl
  rw [this, qn_data]
  have := dec_pos u
  simp; omega
/-- The names of so many numbers. -/
def qns (z n : Nat) : List ByteArray := (List.range n).map fun i => qn (z + i)
theorem qns_len (z n : Nat) : (qns z n).length = n := by simp [qns]
theorem qns_at (z n j : Nat) (hj : j < (qns z n).length) : (qns z n)[j] = qn (z + j) := by simp [qns]
theorem qns_getD {z n j : Nat} (hj : j < n) : (qns z n).getD j ⟨#[]⟩ = qn (z + j) := by
  have hj' : j < (qns z n).length := by rw [qns_len]; exact hj
  have h := qns_at z n j hj'
  rw [List.getD_eq_getElem?_getD, List.getElem?_eq_getElem hj']
  exact h
theorem qns_nodup (z n : Nat) : (qns z n).Nodup := by
  unfold qns List.Nodup
  rw [List.pairwise_map]
  exact List.nodup_range.imp fun {i j} hij e => hij (by have := qn_inj e; omega)
theorem qns_new {z n i : Nat} : inB ((qns z n).take i) (qn (z + i)) = false := by
  refine inB_false fun j hj e => ?_
  rw [List.getElem_take, qns_at] at e
  have := qn_inj e
  have hj' : j < i := by simp at hj; omega
  omega
/-- What is put in comes back. -/
theorem fr_ty : ∀ (F G : List ByteArray), G.length = F.length → G.Nodup → ∀ y, y ∈ F → ∃ g, g ∈ G ∧ ty y (prs F G) = .var g ∧ ty g (prs G F) = .var y
  | f :: F, g :: G, hl, hG, y, hy => by
    obtain ⟨hg0, hG'⟩ := List.nodup_cons.1 hG
    rw [prs, ty_cons]
    by_cases e : f = y
    · rw [if_pos e, prs]
      exact ⟨g, List.mem_cons_self .., rfl, by rw [ty_cons, if_pos rfl, e]⟩
    · rw [if_neg e]
      obtain ⟨g', h1, h2, h3⟩ := fr_ty F G (by simpa using hl) hG' y ((List.mem_cons.1 hy).resolve_left fun q => e q.symm)
      refine ⟨g', List.mem_cons_of_mem _ h1, h2, ?_⟩
      rw [prs, ty_cons]
      have hne : ¬ (g = g') := fun q => hg0 (q ▸ h1)
      rw [if_neg hne]; exact h3
  | [], _, _, _, _, hy => nomatch hy
  | _ :: _, [], hl, _, _, _ => by simp at hl
theorem fr_back {F G : List ByteArray} (hl : G.length = F.length) (hG : G.Nodup) {u : T} (hu : ∀ x ∈ vs u, x ∈ F) : app (prs G F) (app (prs F G) u) = u := by
  rw [app_sub, app_sub, sub_sub]
  refine sub_id fun x hx => ?_
  obtain ⟨g, _, e1, e2⟩ := fr_ty F G hl hG x (hu x hx)
  rw [e1, sub]; exact e2
theorem fr_size {F G : List ByteArray} (hl : G.length = F.length) {u : T} (hu : ∀ x ∈ vs u, x ∈ F) : tsize (app (prs F G) u) = tsize u := by
  rw [app_sub]
  refine size_subV u fun y hy => ?_
  obtain ⟨z, _, h⟩ := ty_prs_in F G y hl.symm (hu y hy)
  exact ⟨z, h⟩
/-- The variables of a type and of a context, made of numbers. -/
theorem fvs_nodups : ∀ (l : List T) (bd out : List ByteArray), out.Nodup → (fvs bd out l).Nodup
  | [], _, _, h => by simpa [fvs] using h
  | a :: l, bd, out, h => by rw [fvs]; exact fvs_nodups l bd _ (fv_nodups a bd out h)
theorem hasTs_in : ∀ (l : List T), (∀ u ∈ l, T.Good u) → ∀ n, hasTs n l = true ↔ ∃ u ∈ l, n ∈ vs u
  | [], _, n => by simp [hasTs]
  | u :: l, h, n => by
    rw [hasTs, Bool.or_eq_true, hasTs_in l (fun k hk => h k (List.mem_cons_of_mem _ hk)) n, (good_plain u (h u (List.mem_cons_self ..))).no n]
    simp only [List.mem_cons, exists_eq_or_imp]
theorem fvs_in (l : List T) (h : ∀ u ∈ l, T.Good u) (n : ByteArray) : n ∈ fvs [] [] l ↔ ∃ u ∈ l, n ∈ vs u := by
  rw [fvs_mem, hasTs_in l h n]; simp
theorem fvs_three (l : List T) (h : ∀ u ∈ l, T.Good u) : (fvs [] [] l).length ≤ 3 := nodup_lenS (R := V3) (fvs_nodups l [] [] List.nodup_nil) fun n hn => by
  obtain ⟨u, hu, hx⟩ := (fvs_in l h n).1 hn
  exact good_in u (h u hu) n hx
theorem tsizes_le : ∀ (l : List T) (m : Nat), (∀ u ∈ l, tsize u ≤ m) → tsizes l ≤ l.length * m
  | [], m, _ => by simp [tsizes]
  | u :: l, m, h => by
    rw [tsizes, List.length_cons, Nat.succ_mul]
    have h1 := h u (List.mem_cons_self ..)
    have h2 := tsizes_le l m fun k hk => h k (List.mem_cons_of_mem _ hk)
    omega
/-- The pairs that are put back. -/
theorem appP_back {F G : List ByteArray} (hl : G.length = F.length) (hG : G.Nodup) {l : List Pr} (h : ∀ q ∈ l, ∀ x ∈ vs q.2, x ∈ F) : appP (prs G F) (appP (prs F G) l) = l := by
  unfold appP
  rw [List.map_map]
  refine (List.map_congr_left fun q hq => ?_).trans (List.map_id l)
  show (q.1, app (prs G F) (app (prs F G) q.2)) = q
  rw [fr_back hl hG (h q hq)]
end Go.Proofs.YtjnlchhikdfifaaDoor
/- SchemeFresh: what its statements keep. -/
namespace Go.Proofs.YtjnlchhikdfifaaDoor
open Go.RowKit Go.Sort Go.Lib
attribute [local go_sem] Oper.semAt_some

/-- Block g holds the texts l. -/
def TRow (g : Nat) (l : List ByteArray) (V : World) : Prop := ∃ cs fz, V.heap[g]? = some (.cells cs 9 fz) ∧ ∀ i (h : i < l.length), cs[i]? = some (.string l[i])
theorem TRow.lt {g : Nat} {l : List ByteArray} {V : World} (h : TRow g l V) : g < V.heap.size := by obtain ⟨_, _, h, _⟩ := h; exact (Array.getElem?_eq_some_iff.1 h).1
theorem TRow.below {g : Nat} {l : List ByteArray} {V Y : World} (h : TRow g l V) (hb : Below V.heap.size V Y) : TRow g l Y := by
  have hl := h.lt
  obtain ⟨cs, fz, h1, h2⟩ := h; exact ⟨cs, fz, (hb.block g hl).trans h1, h2⟩
theorem TRow.cell {g : Nat} {l : List ByteArray} {V : World} (h : TRow g l V) {i : Nat} (hi : i < l.length) : V.cell? ⟨g, i, none⟩ = some (.string (l.getD i ⟨#[]⟩)) := by
  obtain ⟨cs, fz, h1, h2⟩ := h
  rw [Lib.cell_of_heap h1, show l.getD i ⟨#[]⟩ = l[i] by simp [List.getD, hi]]
  exact h2 i hi
theorem TRow.of {a : Option Addr} {n c : Nat} {l : List ByteArray} {V : World} (h : TextsAt V (.slice a n c) l) (h0 : 0 < n) : ∃ g, a = some ⟨g, 0, none⟩ ∧ n ≤ c ∧ TRow g l V := by
  obtain ⟨a', c', e, h⟩ := h
  cases e
  rcases h with h | ⟨g, rfl, hc, cs, fz, hg, hr⟩
  · rw [h] at h0; exact absurd h0 (Nat.lt_irrefl _)
  · exact ⟨g, rfl, hc, cs, fz, hg, hr⟩
theorem TRow.take {g : Nat} {l : List ByteArray} {V : World} (h : TRow g l V) {k c : Nat} (hk : k ≤ l.length) (hc : k ≤ c) : TextsAt V (.slice (some ⟨g, 0, none⟩) k c) (l.take k) := by
  obtain ⟨cs, fz, h1, h2⟩ := h
  have e : (l.take k).length = k := by rw [List.length_take, Nat.min_eq_left hk]
  refine ⟨_, _, by rw [e], .inr ⟨g, rfl, by rw [e]; exact hc, cs, fz, h1, fun i hi => ?_⟩⟩
  rw [List.getElem_take]
  exact h2 i (by omega)
/-- Both schemes, and what they hold. -/
def FrS (w : World) (b9 b10 n m : Nat) (F G : List ByteArray) (lc lu : List Pr) (t u : T) (fa xa ta ga pa za : Option Addr) (fc xc tc gc pc zc : Nat) (V : World) : Prop :=
  (SchB b9 (.slice fa n fc) (.slice xa m xc) t ta tc V ∧ TextsAt V (.slice fa n fc) F ∧ PrsAt V (.slice xa m xc) lc) ∧ (SchB b10 (.slice ga n gc) (.slice pa m pc) u za zc V ∧ TextsAt V (.slice ga n gc) G ∧ PrsAt V (.slice pa m pc) lu) ∧ Below w.heap.size w V
theorem FrS.below {w : World} {b9 b10 n m : Nat} {F G : List ByteArray} {lc lu : List Pr} {t u : T} {fa xa ta ga pa za : Option Addr} {fc xc tc gc pc zc : Nat} {V Y : World} (h : FrS w b9 b10 n m F G lc lu t u fa xa ta ga pa za fc xc tc gc pc zc V) (hb : Below V.heap.size V Y) : FrS w b9 b10 n m F G lc lu t u fa xa ta ga pa za fc xc tc gc pc zc Y :=
  ⟨⟨h.1.1.below hb, h.1.2.1.below hb, h.1.2.2.keep (KeepT.of_below hb) (KeepP.of_below hb)⟩, ⟨h.2.1.1.below hb, h.2.1.2.1.below hb, h.2.1.2.2.keep (KeepT.of_below hb) (KeepP.of_below hb)⟩, h.2.2.trans (hb.mono h.2.2.size)⟩
/-- The same, the names' rows laid open. -/
def FrQ (w : World) (b9 b10 n m : Nat) (F G : List ByteArray) (lc lu : List Pr) (t u : T) (gf gg : Nat) (xa ta pa za : Option Addr) (fc xc tc gc pc zc : Nat) (V : World) : Prop :=
  FrS w b9 b10 n m F G lc lu t u (some ⟨gf, 0, none⟩) xa ta (some ⟨gg, 0, none⟩) pa za fc xc tc gc pc zc V ∧ TRow gf F V ∧ TRow gg G V
theorem FrQ.below {w : World} {b9 b10 n m : Nat} {F G : List ByteArray} {lc lu : List Pr} {t u : T} {gf gg : Nat} {xa ta pa za : Option Addr} {fc xc tc gc pc zc : Nat} {V Y : World} (h : FrQ w b9 b10 n m F G lc lu t u gf gg xa ta pa za fc xc tc gc pc zc V) (hb : Below V.heap.size V Y) : FrQ w b9 b10 n m F G lc lu t u gf gg xa ta pa za fc xc tc gc pc zc Y :=
  ⟨h.1.below hb, h.2.1.below hb, h.2.2.below hb⟩
/-- The row of one pair that is to be appended. -/
def RowY (x : PR) (zb : Nat) (V : World) : Prop := V.heap[zb]? = some (.cells #[.string x.n, .int .i64 x.t.kind, .string x.t.name, .slice x.a x.t.kids.length x.c] 50 (0, 0))
theorem RowY.below {x : PR} {zb : Nat} {V Y : World} (h : RowY x zb V) (hb : Below V.heap.size V Y) : RowY x zb Y := (hb.block zb (Array.getElem?_eq_some_iff.1 h).1).trans h
theorem varX_any (n : ByteArray) (w : World) : Calls Tryd.prog 16 #[.string n] w fun e w' => e = .returned (.agg #[.int .i64 (T.var n).kind, .string (T.var n).name, .slice none (T.var n).kids.length 0]) ∧ Below w.heap.size w w' := by
  go_enter Tryd.func16, Tryd.ntmps16
  go_wp2
  refine bodyPost_ret (v := .agg #[.int .i64 (T.var n).kind, .string (T.var n).name, .slice none (T.var n).kids.length 0]) (by simp [results, Tryd.results16, go_sem, T.kind, T.name, T.kids]) rfl ⟨rfl, (Below.refl _ w).alloc (Nat.le_refl _) _⟩
/-- What is appended, and what lies beside it. -/
def FrO (w1 : World) (ds : List PR) (lv : Value) (V : World) : Prop := V.ownsRow w1.heap.size 50 4 lv ds.length (cellsP ds) ∧ Below w1.heap.size w1 V
theorem FrO.below {w1 : World} {ds : List PR} {lv : Value} {V Y : World} (h : FrO w1 ds lv V) (hb : Below V.heap.size V Y) : FrO w1 ds lv Y := ⟨own_below h.1 hb, h.2.trans (hb.mono h.2.size)⟩
/-- The pairs so far. -/
def FrN (w1 : World) (F G : List ByteArray) (i : Nat) (lv : Value) (wr : World) : Prop := ∃ ds : List PR, ds.length = i ∧ (∀ j, j < i → (ds.getD j noP).n = G.getD j ⟨#[]⟩ ∧ (ds.getD j noP).t = .var (F.getD j ⟨#[]⟩)) ∧ FrO w1 ds lv wr ∧ (i = 0 → lv = .slice none 0 0)
theorem frn_start (w1 : World) (F G : List ByteArray) : FrN w1 F G 0 (.slice none 0 0) w1 := ⟨[], rfl, fun j hj => absurd hj (Nat.not_lt_zero _), ⟨World.ownsRow_nil _ _ _ _, Below.refl _ _⟩, fun _ => rfl⟩
theorem frn_next {w1 V w9 : World} {F G : List ByteArray} {i : Nat} {ds : List PR} {pr : PR} {lv : Value} {g9 c9 : Nat} (h1 : ds.length = i) (h2 : ∀ j, j < i → (ds.getD j noP).n = G.getD j ⟨#[]⟩ ∧ (ds.getD j noP).t = .var (F.getD j ⟨#[]⟩)) (hp : G.getD i ⟨#[]⟩ = pr.n ∧ pr.t = .var (F.getD i ⟨#[]⟩)) (h3 : FrO w1 ds lv V)
    (ho : w9.ownsRow w1.heap.size 50 4 (.slice (some ⟨g9, 0, none⟩) (ds.length + 1) c9) (ds.length + 1) (cellsP ds ++ encP pr)) (hg : V.grownBy w9 lv.ownBlock) : FrN w1 F G (i + 1) (.slice (some ⟨g9, 0, none⟩) (ds.length + 1) c9) w9 := by
  refine ⟨ds ++ [pr], by simp [h1], fun j hj => ?_, ⟨?_, h3.2.grown hg h3.2.size (fun j hj => (h3.1.lt j hj).1)⟩, fun e => by omega⟩
  · by_cases e : j = i
    · subst e
      have e2 : (ds ++ [pr]).getD j noP = pr := by simp [List.getD, ← h1]
      rw [e2]; exact ⟨hp.1.symm, hp.2⟩
    · have hj' : j < ds.length := by omega
      have e2 : (ds ++ [pr]).getD j noP = ds.getD j noP := by simp [List.getD, List.getElem?_append_left hj']
      rw [e2]; exact h2 j (by omega)
  · rw [cellsP_snoc, List.length_append]; exact ho
/-- At the end: what the pairs do. -/
theorem frn_end {w1 wr : World} {F G : List ByteArray} {lv : Value} (hl : G.length = F.length) (h : FrN w1 F G F.length lv wr) : ∃ ds : List PR, GivenG 50 lv ds wr ∧ Typ ds wr ∧ ds.length = F.length ∧ ∀ u, app ds u = app (prs G F) u := by
  obtain ⟨ds, h1, h2, h3, h4⟩ := h
  have hv : ∀ x ∈ ds, ∃ q, x.t = .var q := fun x hx => by
    obtain ⟨j, hj, rfl⟩ := List.mem_iff_getElem.1 hx
    have := (h2 j (by omega)).2
    exact ⟨_, by simpa [List.getD, hj] using this⟩
  have hc : Copy ds (prs G F) := ⟨by rw [h1, prs_len]; omega, fun j hj => by
    obtain ⟨e1, e2⟩ := prs_get G F j (by omega)
    rw [e1, e2]; exact h2 j (by omega)⟩
  refine ⟨ds, given_of_row h3.1 (fun e => h4 (by rw [← h1, e]; rfl)), fun x hx => ?_, h1, fun u => app_congr (fun n => by unfold ty; rw [hc.lk]) u⟩
  obtain ⟨q, e⟩ := hv x hx
  rw [e]; exact TysAt.nil _ _ _
theorem qn_first (u : Nat) (h : 0 < (qn u).size) : (qn u)[0]'h = 63 := by
  have e := qn_data u
  have h2 : (qn u).data.toList[0]? = some 63 := by rw [e]; rfl
  rw [Array.getElem?_toList] at h2
  exact (Array.getElem?_eq_some_iff.1 h2).2
theorem qn_index (u : Nat) (W : World) : (Instr.index 9 (.string (qn u)) (.int .i64 0)).run Tryd.prog W = .ok (.int .u8 63) W := by
  have hs := qn_size u
  rw [run_index_string W 9 (qn u) .i64 0 Tryd.underlying9, dif_pos ⟨by omega, by omega⟩]
  have := qn_first u (by omega)
  simp only [show (0 : Int).toNat = 0 from rfl]
  rw [this]; rfl
end Go.Proofs.YtjnlchhikdfifaaDoor
/- SchemeFree: what its last statement keeps. -/
namespace Go.Proofs.YtjnlchhikdfifaaDoor
open Go.RowKit Go.Sort Go.Lib
attribute [local go_sem] Oper.semAt_some

theorem run_guardF {P : Program} {o : Oper} {ops : Array Oper} {a : Act} {w : World} {K : Act → World → Prop} {Q : Exit → Act → World → Prop} {C : Prop} (g k : Nat) (v : Value) (hg : o.guard = some (g, false))
    (hk : (ops[g]?).bind (·.dst) = some k) (hv : a.tmps[k]? = some v) (e : v = .bool false) (h : Oper.wp P o a w K Q) :
    if Region.wanted o (yielded ops a.tmps) = true then Oper.wp P o a w K Q else C := by
  rw [if_pos (by simp [Region.wanted, hg, yielded, hk, hv, e])]; exact h
theorem run_skipF {P : Program} {o : Oper} {ops : Array Oper} {a : Act} {w : World} {K : Act → World → Prop} {Q : Exit → Act → World → Prop} {C : Prop} (g k : Nat) (v : Value) (hg : o.guard = some (g, false))
    (hk : (ops[g]?).bind (·.dst) = some k) (hv : a.tmps[k]? = some v) (e : v = .bool true) (h : C) :
    if Region.wanted o (yielded ops a.tmps) = true then Oper.wp P o a w K Q else C := by
  rw [if_neg (by simp [Region.wanted, hg, yielded, hk, hv, e])]; exact h
theorem mod3S (z : Int) : ∃ nn : Nat, nn < 3 ∧ (wrap64 (z.tmod 3 + 3)).tmod 3 = (nn : Int) := by
  have k1 := Int.tmod_lt_of_pos z (show (0 : Int) < 3 by omega)
  have k2 := Int.lt_tmod_of_pos z (show (0 : Int) < 3 by omega)
  have e : wrap64 (z.tmod 3 + 3) = z.tmod 3 + 3 := by unfold wrap64; omega
  rw [e]
  have k3 := Int.tmod_lt_of_pos (z.tmod 3 + 3) (show (0 : Int) < 3 by omega)
  have k4 := Int.tmod_nonneg 3 (show 0 ≤ z.tmod 3 + 3 by omega)
  exact ⟨((z.tmod 3 + 3).tmod 3).toNat, by omega, by omega⟩
theorem nm3 : ∀ (nn : Nat) (h : nn < 3), ∃ nm : ByteArray, nm ∈ V3 ∧ ([Value.string ⟨#[97]⟩, .string ⟨#[98]⟩, .string ⟨#[99]⟩][nn]'h) = .string nm
  | 0, _ => ⟨⟨#[97]⟩, by simp [V3], rfl⟩
  | 1, _ => ⟨⟨#[98]⟩, by simp [V3], rfl⟩
  | 2, _ => ⟨⟨#[99]⟩, by simp [V3], rfl⟩
  | n + 3, h => by omega
/-- A row whose first text is told. -/
def FRow (g : Nat) (nm : ByteArray) (V : World) : Prop := ∃ cs T fz, V.heap[g]? = some (.cells cs T fz) ∧ cs[0]? = some (.string nm)
theorem FRow.below {g : Nat} {nm : ByteArray} {V Y : World} (h : FRow g nm V) (hb : Below V.heap.size V Y) : FRow g nm Y := by
  obtain ⟨cs, T, fz, h1, h2⟩ := h
  exact ⟨cs, T, fz, (hb.block _ (Array.getElem?_eq_some_iff.1 h1).1).trans h1, h2⟩
theorem FRow.cell {g : Nat} {nm : ByteArray} {V : World} (h : FRow g nm V) : V.cell? ⟨g, 0, none⟩ = some (.string nm) := by
  obtain ⟨cs, T, fz, h1, h2⟩ := h
  rw [Lib.cell_of_heap h1]; exact h2
theorem FRow.of {a : Option Addr} {c : Nat} {nm : ByteArray} {V : World} (h : TextsAt V (.slice a [nm].length c) [nm]) : ∃ g, a = some ⟨g, 0, none⟩ ∧ FRow g nm V := by
  obtain ⟨a', c', e, h⟩ := h
  cases e
  rcases h with h | ⟨g, rfl, hc, cs, fz, hg, hr⟩
  · cases h
  · exact ⟨g, rfl, cs, _, fz, hg, hr 0 (by simp)⟩
/-- A type, a scheme of it, its canon. -/
def SfZ (w : World) (b6 b8 b9 : Nat) (t u : T) (pa : Option Addr) (ca : Nat) (xa : Option Addr) (xc : Nat) (xs : List ByteArray) (xx : Option Addr) (xk : Nat) (ta : Option Addr) (tc : Nat) (za : Option Addr) (zc : Nat) (zn : List ByteArray) (zp : Option Addr) (zq : Nat) (ua : Option Addr) (uc : Nat) (V : World) : Prop :=
  BoxT b6 t pa ca V ∧ (SchB b8 (.slice xa xs.length xc) (.slice xx 0 xk) t ta tc V ∧ TextsAt V (.slice xa xs.length xc) xs) ∧ (SchB b9 (.slice za zn.length zc) (.slice zp 0 zq) u ua uc V ∧ TextsAt V (.slice za zn.length zc) zn) ∧ Below w.heap.size w V
section
variable {w X Y : World} {b6 b8 b9 : Nat} {t u : T} {pa : Option Addr} {ca : Nat} {xa : Option Addr} {xc : Nat} {xs : List ByteArray} {xx : Option Addr} {xk : Nat} {ta : Option Addr} {tc : Nat} {za : Option Addr} {zc : Nat} {zn : List ByteArray} {zp : Option Addr} {zq : Nat} {ua : Option Addr} {uc : Nat}
theorem SfZ.below (h : SfZ w b6 b8 b9 t u pa ca xa xc xs xx xk ta tc za zc zn zp zq ua uc X) (hb : Below X.heap.size X Y) : SfZ w b6 b8 b9 t u pa ca xa xc xs xx xk ta tc za zc zn zp zq ua uc Y :=
  ⟨h.1.below hb, ⟨h.2.1.1.below hb, h.2.1.2.below hb⟩, ⟨h.2.2.1.1.below hb, h.2.2.1.2.below hb⟩, h.2.2.2.trans (hb.mono h.2.2.2.size)⟩
end
end Go.Proofs.YtjnlchhikdfifaaDoor
