/- Merged: FrRen, ScCloR, ScFreR, ScRenR, ScRen, ScClo, ScCanR, ScCanS, ScCan, SpSP, GvSet, GvSmK, GvSmR. -/
import Derived.Test.YtjnlchhikdfifaaGreatDoorVa4
import Derived.Test.YtjnlchhikdfifaaGreatDoorVa3
/- scheme.rename: names in variables' places, in a scheme with a context. -/
namespace Go.Proofs.YtjnlchhikdfifaaGreatDoor
open Go.RowKit Go.Sort Go.Lib
attribute [local go_sem] Oper.semAt_some

set_option maxRecDepth 100000 in
set_option maxHeartbeats 8000000 in
theorem fren_any (t : T) (F G : List ByteArray) (hFG : F.length = G.length) (hl : F.length < 20) (hsz : tsize t ≤ 1000000000) (lc : List Pr) (hq : ∀ q ∈ lc, tsize q.2 ≤ 1000000000) (hcn : lc.length ≤ 1000000) (xv : Value) (xa ta fa ga : Option Addr) (xc tc fc gc : Nat) (w : World) (ht : TysAt w (.slice ta t.kids.length tc) t.kids) (hF : StrsP (.slice fa F.length fc) F w) (hG : StrsP (.slice ga G.length gc) G w) (hP : PrsAt w (.slice xa lc.length xc) lc) :
    Calls Tryz.prog 33 #[.agg #[xv, .slice xa lc.length xc, .int .i64 t.kind, .string t.name, .slice ta t.kids.length tc], .slice fa F.length fc, .slice ga G.length gc] w fun e w' =>
      (∃ pa pc za zc, e = .returned (.agg #[.slice ga G.length gc, .slice pa lc.length pc, .int .i64 (app (prs F G) t).kind, .string (app (prs F G) t).name, .slice za (app (prs F G) t).kids.length zc]) ∧ PrsAt w' (.slice pa lc.length pc) (appP (prs F G) lc) ∧ TysAt w' (.slice za (app (prs F G) t).kids.length zc) (app (prs F G) t).kids) ∧ Below w.heap.size w w' := by
  obtain ⟨k, hk⟩ : ∃ k, F.length = k := ⟨_, rfl⟩
  have hmk := make_row4 k (by omega)
  have HT := Lib.hid ht; have HF := Lib.hid hF; have HG := Lib.hid hG; have HPr := Lib.hid hP; have HQ := Lib.hid hq
  have hGk : G.length = k := by omega
  rw [hk] at HF
  rw [hGk] at HG
  have HK := Lib.hid (And.intro hk hGk)
  rw [hk, hGk]
  have hk20 : k < 20 := by omega
  clear ht hF hG hFG hk hGk hP hq
  go_enter Tryz.func33, Tryz.ntmps33
  go_wp2
  go_loopw [16] (fun vi wr => ∃ (i : Nat) (ls : List PR), i ≤ k ∧ vi = .int .i64 i ∧ Hid (ls.length = i ∧ ∀ j, j < i → (ls.getD j noP).n = F.getD j ⟨#[]⟩ ∧ (ls.getD j noP).t = .var (G.getD j ⟨#[]⟩)) ∧ Hid (RowK (w.heap.size + 1 + 1) k ls wr) ∧ Hid (Below w.heap.size w wr) ∧
    Hid (wr.heap[w.heap.size]? = some (.cells #[xv, .slice xa lc.length xc, .int .i64 t.kind, .string t.name, .slice ta t.kids.length tc] 33 (0, 0)) ∧ wr.heap[w.heap.size + 1]? = some (.cells #[.slice none 0 0, .slice none 0 0, .int .i64 0, .string ⟨#[]⟩, .slice none 0 0] 33 (0, 0)))) (fun vi _ => k - (intOf vi).toNat)
  case atStart =>
    obtain ⟨n1, n2, n3⟩ := new_three w (.cells #[xv, .slice xa lc.length xc, .int .i64 t.kind, .string t.name, .slice ta t.kids.length tc] 33) (.cells #[.slice none 0 0, .slice none 0 0, .int .i64 0, .string ⟨#[]⟩, .slice none 0 0] 33) (.cells (zeros4 k) 90)
    exact ⟨0, [], Nat.zero_le _, rfl, Lib.hid ⟨rfl, fun j hj => absurd hj (Nat.not_lt_zero _)⟩, Lib.hid (RowK.start _ _ _ n3), Lib.hid (below_three w _ _ _), Lib.hid ⟨n1, n2⟩⟩
  case round =>
    obtain ⟨i, ls, hi, rfl, hL, hRow, hB, hbx⟩ := hrel
    have lG := hRow.out.lt
    by_cases hlt : i < k
    · obtain ⟨gF, oF, rfl, lF, cF⟩ := HF.out.at (by have := HK.out.1; omega)
      obtain ⟨gG, oG, rfl, lG', cG⟩ := HG.out.at (by have := HK.out.2; omega)
      have xF := (hB.out.cell (p := ⟨gF, oF + i, none⟩) lF).trans (cF i (by have := HK.out.1; omega))
      have xG := (hB.out.cell (p := ⟨gG, oG + i, none⟩) lG').trans (cG i (by have := HK.out.2; omega))
      have HL := Lib.hid (fun (x : PR) (h1 : x.n = F.getD i ⟨#[]⟩) (h2 : x.t = .var (G.getD i ⟨#[]⟩)) => (show (ls ++ [x]).length = i + 1 ∧ ∀ j, j < i + 1 → ((ls ++ [x]).getD j noP).n = F.getD j ⟨#[]⟩ ∧ ((ls ++ [x]).getD j noP).t = .var (G.getD j ⟨#[]⟩) from
        ⟨by simp [hL.out.1], fun j hj => by
          by_cases e : j = i
          · subst e
            have e2 : (ls ++ [x]).getD j noP = x := by simp [List.getD, ← hL.out.1]
            rw [e2]; exact ⟨h1, h2⟩
          · have hj' : j < ls.length := by rw [hL.out.1]; omega
            have e2 : (ls ++ [x]).getD j noP = ls.getD j noP := by simp [List.getD, List.getElem?_append_left hj']
            rw [e2]; exact hL.out.2 j (by omega)⟩))
      generalize F.getD i ⟨#[]⟩ = f at xF HL
      generalize G.getD i ⟨#[]⟩ = q at xG HL
      have HV := Lib.hid (fun W => tvar_any q W)
      have hiz : (i : Int) < (k : Int) := by omega
      have hll := Lib.hid hL.out.1
      clear cF cG hmk
      simp only [tyV] at HV
      go_wp2_with (go_at_call 60; fail)
      refine (HV.out _).mono ?_
      rintro e w4 ⟨⟨u, rfl, hu⟩, hb4⟩
      obtain ⟨ua, uc, rfl⟩ := hu.shape
      have HB4 := Lib.hid hb4
      have hR4 := Lib.hid (hRow.out.below hb4)
      obtain ⟨o0, o1, o2, o3, c0, c1, c2, c3⟩ := hR4.out.cells hlt
      have f0 := hR4.out.row.free (i * 4); have f1 := hR4.out.row.free (i * 4 + 1); have f2 := hR4.out.row.free (i * 4 + 2); have f3 := hR4.out.row.free (i * 4 + 3)
      clear hb4 hu
      go_wp2
      have HP := hR4.out.push (by have := hll.out; omega) (⟨f, .var q, ua, uc⟩ : PR)
      rw [hll.out] at HP
      have HF4 := Lib.hid ((Fr.of_below (g := w.heap.size + 1 + 1) HB4.out).trans (Fr.set4 (w.heap.size + 1 + 1) i w4 (⟨f, .var q, ua, uc⟩ : PR)))
      go_roundw
      case rel => exact ⟨i + 1, ls ++ [⟨f, .var q, ua, uc⟩], by omega, by go_num, Lib.hid (HL.out _ rfl rfl), Lib.hid HP, Lib.hid (hB.out.trans (HF4.out.below (by omega) hB.out.size)), Lib.hid ⟨(HF4.out.2 _ (by omega) (by omega)).trans hbx.out.1, (HF4.out.2 _ (by omega) (by omega)).trans hbx.out.2⟩⟩
      case measure => simp [intOf]; omega
    · have hki : i = k := by omega
      subst hki
      have hll := hL.out.1
      have HCp : Hid (Copy ls (prs F G)) := Lib.hid ⟨by rw [hll, prs_len]; have h1 := HK.out.1; have h2 := HK.out.2; omega, fun j hj => by
        have hj' : j < i := by rw [← hll]; exact hj
        obtain ⟨e1, e2⟩ := prs_get F G j (by have h1 := HK.out.1; have h2 := HK.out.2; omega)
        rw [e1, e2]; exact hL.out.2 j hj'⟩
      have HV : Hid (∀ x ∈ ls, ∃ q, x.t = .var q) := Lib.hid fun x hx => by
        obtain ⟨j, hj, rfl⟩ := List.mem_iff_getElem.1 hx
        have := (hL.out.2 j (by rw [← hll]; exact hj)).2
        exact ⟨_, by simpa [List.getD, hj] using this⟩
      have HSz : Hid (SizedAll ls ∧ FitsAll ls) := Lib.hid ⟨fun x hx => by obtain ⟨q, e⟩ := HV.out x hx; rw [e]; exact (by decide : (1 : Nat) ≤ 1000000000), fun x hx => by obtain ⟨q, e⟩ := HV.out x hx; rw [e]; exact .mk _ (show (0 : Nat) < 1152921504606846976 by decide) (fun k hk => by cases hk)⟩
      have HTy : Hid (∀ W, Typ ls W) := Lib.hid fun W x hx => by obtain ⟨q, e⟩ := HV.out x hx; rw [e]; exact TysAt.nil _ _ _
      have hof := of_all (w.heap.size + 1 + 1) i ls wr hRow.out.row (HTy.out _) HSz.out.2 HSz.out.1 (by have h1 := HK.out.1; have h2 := HK.out.2; omega)
      rw [hll] at hof
      have HOf := Lib.hid hof
      have HTw := Lib.hid (HT.out.keep (KeepT.of_below hB.out))
      have HPw := Lib.hid (HPr.out.keep (KeepT.of_below hB.out) (KeepP.of_below hB.out))
      have HE := Lib.hid (fun (l : List PR) (hg : Made ls l) (t : T) => app_congr (d := l) (d' := prs F G) (fun n => by rw [hg.same n]; unfold ty; rw [HCp.out.lk]) t)
      have HLen := Lib.hid hll
      clear hmk hL HV HF HG HT hof hll
      go_wp2_with (go_at_call 61; fail)
      refine HOf.out.mono ?_
      rintro e w4 ⟨⟨sv, l, rfl, hs, hm⟩, hb4⟩
      obtain ⟨sa, sc, rfl⟩ := hs.shape
      have hb5 := hb4.alloc hb4.size (.cells #[.slice sa l.length sc] 73)
      have hx0 := (hb5.block w.heap.size (by omega)).trans hbx.out.1
      have hx1 := (hb5.block (w.heap.size + 1) (by omega)).trans hbx.out.2
      have hS := (show SRc w w.heap.size (w.heap.size + 1) w4.heap.size xv xa xc lc t ta tc sa sc l (w4.alloc (.cells #[.slice sa l.length sc] 73)) from ⟨⟨⟨hx0, HTw.out.keep (KeepT.of_below hb5)⟩, hx1, BoxS.new hs, hB.out.trans (hb5.mono hB.out.size)⟩, HPw.out.keep (KeepT.of_below hb5) (KeepP.of_below hb5)⟩)
      have HS := Lib.hid hS; have HM := Lib.hid hm
      have hz5 : w.heap.size + 1 + 1 < w4.heap.size := Nat.lt_of_lt_of_le lG hb4.size
      clear hs hm hb4 hb5 hx0 hx1 hbx hRow HTw HPw HTy HOf hB HCp hS
      go_wp2_with (fail)
      refine frn_here (w := w) (b3 := w.heap.size) (b6 := w.heap.size + 1) (b10 := w4.heap.size) (xv := xv) (xa := xa) (ta := ta) (sa := sa) (ga := ga) (xc := xc) (tc := tc) (sc := sc) (gn := i) (gc := gc) (lc := lc) (t := t) (l := l)
        (fun V h => (predsG_any (.slice sa l.length sc) _ l lc V (by have := HM.out.len; have h1 := HK.out.1; have := HLen.out; omega) (fun x hx => by obtain ⟨y, hy, _, e⟩ := HM.out.sub x hx; rw [e]; exact HSz.out.1 y hy) h.1.2.2.1.2 h.2 HQ.out hcn).mono fun e Y hq => by
          obtain ⟨⟨ls', hm', rfl, hr', ht'⟩, hb⟩ := hq
          have hl' : ls'.length = lc.length := by have := congrArg List.length hm'; simpa [appP] using this
          refine ⟨⟨_, _, rfl, ?_⟩, hb⟩
          have := prs_of_rowG (cap := lc.length) hr' ht' (by omega)
          rw [hl', hm'] at this
          exact this)
        (fun V h => (apply_any (d := l) (t := t) (s := .slice sa l.length sc) (w := V) (by have := HM.out.len; have h1 := HK.out.1; have := HLen.out; omega) (fun x hx => by obtain ⟨y, hy, _, e⟩ := HM.out.sub x hx; rw [e]; exact HSz.out.1 y hy) hsz h.1.2.2.1.2 h.1.1.2).mono fun e Y hq => by
          obtain ⟨⟨za, zc, rfl, hin⟩, hb⟩ := hq
          exact ⟨⟨za, zc, rfl, hin.tys⟩, hb⟩)
        _ (by kernel_rfl) (by kernel_rfl) (by kernel_rfl) (by kernel_rfl) (by kernel_rfl) (by kernel_rfl) (HS.out.below (below_d _)) ?_
      intro x V zp zd za zc hV hPd hT
      have HE2 := HE.out l HM.out t
      have HE3 : appP l lc = appP (prs F G) lc := by unfold appP; exact List.map_congr_left fun q _ => by rw [HE.out l HM.out q.2]
      have hc := cells5 (set5_block hV.1.2.1 (.slice ga i gc) (.slice zp lc.length zd) (.int .i64 (app l t).kind) (.string (app l t).name) (.slice za (app l t).kids.length zc))
      have hkt : KeepT V (set5 V (w.heap.size + 1) (.slice ga i gc) (.slice zp lc.length zd) (.int .i64 (app l t).kind) (.string (app l t).name) (.slice za (app l t).kids.length zc)) := fun k cs fz hk => (set5_other _ _ _ _ _ _ _ (fun e => by subst e; rw [hV.1.2.1] at hk; simp at hk)).trans hk
      have hkp : KeepP V (set5 V (w.heap.size + 1) (.slice ga i gc) (.slice zp lc.length zd) (.int .i64 (app l t).kind) (.string (app l t).name) (.slice za (app l t).kids.length zc)) := fun k cs fz hk => (set5_other _ _ _ _ _ _ _ (fun e => by subst e; rw [hV.1.2.1] at hk; simp at hk)).trans hk
      have HEnd := Lib.hid (And.intro (And.intro (hPd.keep hkt hkp) (hT.keep hkt)) (below_set5 hV.1.2.2.2 (show w.heap.size ≤ w.heap.size + 1 by omega) (.slice ga i gc) (.slice zp lc.length zd) (.int .i64 (app l t).kind) (.string (app l t).name) (.slice za (app l t).kids.length zc)))
      generalize set5 V (w.heap.size + 1) (.slice ga i gc) (.slice zp lc.length zd) (.int .i64 (app l t).kind) (.string (app l t).name) (.slice za (app l t).kids.length zc) = Z at *
      rw [HE2, HE3] at HEnd
      rw [HE2] at hc
      clear hkt hkp hV hT hPd
      simp only [frnFr]
      simp only [Array.getD_eq_getD_getElem?, List.getElem?_toArray, List.getElem?_cons_succ, List.getElem?_cons_zero, Option.getD_some]
      go_wp2
      exact bodyPost_ret (v := .agg #[.slice ga i gc, .slice zp lc.length zd, .int .i64 (app (prs F G) t).kind, .string (app (prs F G) t).name, .slice za (app (prs F G) t).kids.length zc]) (by simp [results, Tryz.results33, go_sem, hc.1, hc.2.1, hc.2.2.1, hc.2.2.2.1, hc.2.2.2.2]) rfl ⟨⟨_, _, _, _, rfl, HEnd.out.1.1, HEnd.out.1.2⟩, HEnd.out.2⟩
end Go.Proofs.YtjnlchhikdfifaaGreatDoor
/- scheme: its last statement, a region of 9 operations that draws its order, by an invariant. (Made by a program.) -/
namespace Go.Proofs.YtjnlchhikdfifaaGreatDoor
open Go.RowKit Go.Sort Go.Lib
attribute [local go_sem] Oper.semAt_some

noncomputable def sclOps : Array Oper := regionIn 3 (Tryz.f16.body.getD .skip)
def sclFr (b : Nat → Value) (d : List Deferred) (x : Nat → Value) : Act := { tmps := #[b 0, b 1, b 2, b 3, b 4, b 5, b 6, b 7, b 8, b 9, b 10, b 11, b 12, b 13, b 14, b 15, b 16, b 17, b 18, x 0, x 1, x 2, x 3, x 4, x 5, x 6, x 7], defers := d }

def sclVals (xa ta : Option Addr) (xc tc : Nat) (t : T) (ga : Option Addr) (gn gc : Nat) (i : Nat) (v : Value) (V : World) : Prop :=
  match i with
  | 0 => v = .slice ga gn gc
  | 1 => v = .agg #[.slice none 0 0]
  | 2 => v = .slice xa 0 xc
  | 3 => ∃ zp, v = .slice (some zp) 0 0 ∧ True
  | 4 => v = .agg #[.slice none 0 0]
  | 5 => v = .agg #[.int .i64 (t).kind, .string (t).name, .slice ta (t).kids.length tc]
  | 6 => ∃ za zc, v = .agg #[.int .i64 (t).kind, .string (t).name, .slice za (t).kids.length zc] ∧ TysAt V (.slice za t.kids.length zc) t.kids
  | 7 => ∃ zp za zc, v = .agg #[.slice ga gn gc, .slice (some zp) 0 0, .int .i64 t.kind, .string t.name, .slice za t.kids.length zc] ∧ TysAt V (.slice za t.kids.length zc) t.kids
  | _ => True

theorem sclVals_keep {xa ta : Option Addr} {xc tc : Nat} {t : T} {ga : Option Addr} {gn gc : Nat} (i : Nat) (v : Value) (V Y : World) (h : sclVals xa ta xc tc t ga gn gc i v V) (hb : Below V.heap.size V Y) : sclVals xa ta xc tc t ga gn gc i v Y := by
  unfold sclVals at *
  split at h <;> first
    | exact h
    | (obtain ⟨zp, e, h⟩ := h; exact ⟨zp, e, h⟩)
    | (obtain ⟨za, zc, e, h⟩ := h; exact ⟨za, zc, e, h.keep (KeepT.of_below hb)⟩)
    | (obtain ⟨zp, za, zc, e, h⟩ := h; exact ⟨zp, za, zc, e, h.keep (KeepT.of_below hb)⟩)

theorem scl_size : sclOps.size = 9 := by kernel_rfl
theorem scl_cov : covered sclOps 8 = true := by kernel_rfl
set_option linter.unusedSimpArgs false in
set_option maxRecDepth 100000 in
set_option maxHeartbeats 8000000 in
theorem scl_region {w : World} {b4 b6 b9 : Nat} {xa ta ga : Option Addr} {xc tc gn gc : Nat} {t : T} {gxs : List ByteArray} {b : Nat → Value} {d : List Deferred}
    (h0 : b 0 = .slice xa 0 xc) (h4 : b 4 = .pointer (some ⟨b4, 0, none⟩)) (h6 : b 6 = .pointer (some ⟨b6, 0, none⟩)) (h8 : b 8 = .slice ga gn gc) (h9 : b 9 = .pointer (some ⟨b9, 0, none⟩))
    (HC3 : ∀ V, (SC w b4 b6 b9 t ta tc V ∧ TextsAt V (.slice ga gn gc) gxs) → Calls Tryz.prog 40 #[.agg #[.slice none 0 0], .slice xa 0 xc] V fun e Y => (∃ zp, e = .returned (.slice (some zp) 0 0) ∧ True) ∧ Below V.heap.size V Y)
    (HC6 : ∀ V, (SC w b4 b6 b9 t ta tc V ∧ TextsAt V (.slice ga gn gc) gxs) → Calls Tryz.prog 41 #[.agg #[.slice none 0 0], .agg #[.int .i64 (t).kind, .string (t).name, .slice ta (t).kids.length tc]] V fun e Y => (∃ za zc, e = .returned (.agg #[.int .i64 (t).kind, .string (t).name, .slice za (t).kids.length zc]) ∧ TysAt Y (.slice za t.kids.length zc) t.kids) ∧ Below V.heap.size V Y)
    {Q : Exit → Act → World → Prop} {ops : Array Oper} (hops : ops = sclOps) (x0 : Nat → Value) (X : World) (hS : (SC w b4 b6 b9 t ta tc X.drew ∧ TextsAt X.drew (.slice ga gn gc) gxs))
    (hfin : ∀ (x : Nat → Value) V zp za zc, (SC w b4 b6 b9 t ta tc V ∧ TextsAt V (.slice ga gn gc) gxs) → TysAt V (.slice za t.kids.length zc) t.kids → Q .normal (sclFr b d x) (set5 V b6 (.slice ga gn gc) (.slice (some zp) 0 0) (.int .i64 t.kind) (.string t.name) (.slice za t.kids.length zc))) : (Code.region 3 ops true).wp Tryz.prog Q (sclFr b d x0) X := by
  have HC := Lib.hid (And.intro HC3 HC6)
  clear HC3 HC6
  have hszo : ops.size = 8 + 1 := by rw [hops]; exact scl_size
  have hcovo : covered ops 8 = true := by rw [hops]; exact scl_cov
  refine region_last (sclFr b d) (fun V => (SC w b4 b6 b9 t ta tc V ∧ TextsAt V (.slice ga gn gc) gxs)) (fun V Y => Below V.heap.size V Y) (sclVals xa ta xc tc t ga gn gc) x0 8 (by kernel_rfl) rfl hS hszo hcovo (fun V Y h hb => ⟨h.1.below hb, h.2.below hb⟩) (fun i v V Y _ h hb => sclVals_keep i v V Y h hb) ?_
  have HFIN := Lib.hid hfin
  clear hfin hS hszo hcovo
  obtain ⟨gl, hgl⟩ : ∃ qq, LastAt Tryz.prog (sclFr b d) (fun V => (SC w b4 b6 b9 t ta tc V ∧ TextsAt V (.slice ga gn gc) gxs)) (sclVals xa ta xc tc t ga gn gc) ops Q 8 = qq := ⟨_, rfl⟩
  rw [hgl]
  obtain ⟨f, hf⟩ : ∃ qq, StepAt Tryz.prog (sclFr b d) (fun V => (SC w b4 b6 b9 t ta tc V ∧ TextsAt V (.slice ga gn gc) gxs)) (fun V Y => Below V.heap.size V Y) (sclVals xa ta xc tc t ga gn gc) ops Q = qq := ⟨_, rfl⟩
  rw [hf, hops]
  simp only [sclOps, Tryz.f16, regionIn, Option.getD_some, Nat.reduceBEq, Bool.false_eq_true, if_false, if_true, beq_self_eq_true, Array.append_empty, Array.empty_append, List.append_eq, List.cons_append, List.nil_append, AllBut, Nat.reduceAdd, Nat.zero_add]
  -- 0: slot 19 := Op.move t8
  refine And.intro ?_ ?_
  · clear HFIN hgl
    rw [← hf]; clear hf
    refine ⟨by decide +kernel, fun x v => by kernel_rfl, fun x V hV hdep K hK => ?_⟩
    clear hdep
    refine run_bare (by kernel_rfl) ?_
    unfold sclFr
    go_simp
    refine kfit (hK _ _ (Below.refl _ V) rfl) ?_
    first | (simp only [sclFr, Act.put, List.setIfInBounds_toArray, List.set_cons_zero, List.set_cons_succ, h0, h4, h6, h8, h9]; done) | (simp only [sclFr, Act.put, List.setIfInBounds_toArray, List.set_cons_zero, List.set_cons_succ, h0, h4, h6, h8, h9]; rfl)
  -- 1: slot 20 := Op.load 33 t9
  refine And.intro ?_ ?_
  · clear HFIN hgl
    rw [← hf]; clear hf
    refine ⟨by decide +kernel, fun x v => by kernel_rfl, fun x V hV hdep K hK => ?_⟩
    clear hdep
    refine run_bare (by kernel_rfl) ?_
    unfold sclFr
    obtain ⟨y0, y1, y2⟩ := hV.1.1.cells; have y5 := hV.1.2.2.1.cell
    go_simp
    refine kfit (hK _ _ (Below.refl _ V) rfl) ?_
    first | (simp only [sclFr, Act.put, List.setIfInBounds_toArray, List.set_cons_zero, List.set_cons_succ, h0, h4, h6, h8, h9]; done) | (simp only [sclFr, Act.put, List.setIfInBounds_toArray, List.set_cons_zero, List.set_cons_succ, h0, h4, h6, h8, h9]; rfl)
  -- 2: slot 21 := Op.move t0
  refine And.intro ?_ ?_
  · clear HFIN hgl
    rw [← hf]; clear hf
    refine ⟨by decide +kernel, fun x v => by kernel_rfl, fun x V hV hdep K hK => ?_⟩
    clear hdep
    refine run_bare (by kernel_rfl) ?_
    unfold sclFr
    go_simp
    refine kfit (hK _ _ (Below.refl _ V) rfl) ?_
    first | (simp only [sclFr, Act.put, List.setIfInBounds_toArray, List.set_cons_zero, List.set_cons_succ, h0, h4, h6, h8, h9]; done) | (simp only [sclFr, Act.put, List.setIfInBounds_toArray, List.set_cons_zero, List.set_cons_succ, h0, h4, h6, h8, h9]; rfl)
  -- 3: slot 22 := Op.call { value (Operand.func 53), args := #[t20, t21], argT
  refine And.intro ?_ ?_
  · clear HFIN hgl
    rw [← hf]; clear hf
    refine ⟨by decide +kernel, fun x v => by kernel_rfl, fun x V hV hdep K hK => ?_⟩
    have e1 : x 1 = .agg #[.slice none 0 0] := depOf hdep 1 (by decide +kernel)
    have e2 : x 2 = .slice xa 0 xc := depOf hdep 2 (by decide +kernel)
    clear hdep
    refine run_bare (by kernel_rfl) ?_
    unfold sclFr
    obtain ⟨HC3, HC6⟩ := HC.out
    clear HC6
    have H := HC3 V hV
    replace H := Lib.hid H; clear HC3
    go_simp
    go_at_call 40
    refine H.out.mono ?_
    rintro e Y ⟨⟨zp, rfl, hq⟩, hb⟩; refine kfit (hK _ _ hb ⟨zp, rfl, hq⟩) ?_
    first | (simp only [sclFr, Act.put, List.setIfInBounds_toArray, List.set_cons_zero, List.set_cons_succ, h0, h4, h6, h8, h9, e1, e2]; done) | (simp only [sclFr, Act.put, List.setIfInBounds_toArray, List.set_cons_zero, List.set_cons_succ, h0, h4, h6, h8, h9, e1, e2]; rfl)
  -- 4: slot 23 := Op.load 33 t9
  refine And.intro ?_ ?_
  · clear HFIN hgl
    rw [← hf]; clear hf
    refine ⟨by decide +kernel, fun x v => by kernel_rfl, fun x V hV hdep K hK => ?_⟩
    clear hdep
    refine run_bare (by kernel_rfl) ?_
    unfold sclFr
    obtain ⟨y0, y1, y2⟩ := hV.1.1.cells; have y5 := hV.1.2.2.1.cell
    go_simp
    refine kfit (hK _ _ (Below.refl _ V) rfl) ?_
    first | (simp only [sclFr, Act.put, List.setIfInBounds_toArray, List.set_cons_zero, List.set_cons_succ, h0, h4, h6, h8, h9]; done) | (simp only [sclFr, Act.put, List.setIfInBounds_toArray, List.set_cons_zero, List.set_cons_succ, h0, h4, h6, h8, h9]; rfl)
  -- 5: slot 24 := Op.load 29 t4
  refine And.intro ?_ ?_
  · clear HFIN hgl
    rw [← hf]; clear hf
    refine ⟨by decide +kernel, fun x v => by kernel_rfl, fun x V hV hdep K hK => ?_⟩
    clear hdep
    refine run_bare (by kernel_rfl) ?_
    unfold sclFr
    obtain ⟨y0, y1, y2⟩ := hV.1.1.cells; have y5 := hV.1.2.2.1.cell
    go_simp
    refine kfit (hK _ _ (Below.refl _ V) rfl) ?_
    first | (simp only [sclFr, Act.put, List.setIfInBounds_toArray, List.set_cons_zero, List.set_cons_succ, h0, h4, h6, h8, h9]; done) | (simp only [sclFr, Act.put, List.setIfInBounds_toArray, List.set_cons_zero, List.set_cons_succ, h0, h4, h6, h8, h9]; rfl)
  -- 6: slot 25 := Op.call { value (Operand.func 14), args := #[t23, t24], argT
  refine And.intro ?_ ?_
  · clear HFIN hgl
    rw [← hf]; clear hf
    refine ⟨by decide +kernel, fun x v => by kernel_rfl, fun x V hV hdep K hK => ?_⟩
    have e4 : x 4 = .agg #[.slice none 0 0] := depOf hdep 4 (by decide +kernel)
    have e5 : x 5 = .agg #[.int .i64 (t).kind, .string (t).name, .slice ta (t).kids.length tc] := depOf hdep 5 (by decide +kernel)
    clear hdep
    refine run_bare (by kernel_rfl) ?_
    unfold sclFr
    obtain ⟨HC3, HC6⟩ := HC.out
    clear HC3
    have H := HC6 V hV
    replace H := Lib.hid H; clear HC6
    go_simp
    go_at_call 41
    refine H.out.mono ?_
    rintro e Y ⟨⟨za, zc, rfl, hq⟩, hb⟩; refine kfit (hK _ _ hb ⟨za, zc, rfl, hq⟩) ?_
    first | (simp only [sclFr, Act.put, List.setIfInBounds_toArray, List.set_cons_zero, List.set_cons_succ, h0, h4, h6, h8, h9, e4, e5]; done) | (simp only [sclFr, Act.put, List.setIfInBounds_toArray, List.set_cons_zero, List.set_cons_succ, h0, h4, h6, h8, h9, e4, e5]; rfl)
  -- 7: slot 26 := Op.build 66 #[(0, t19), (1, t22), (2, t25)]
  refine And.intro ?_ ?_
  · clear HFIN hgl
    rw [← hf]; clear hf
    refine ⟨by decide +kernel, fun x v => by kernel_rfl, fun x V hV hdep K hK => ?_⟩
    have e0 : x 0 = .slice ga gn gc := depOf hdep 0 (by decide +kernel)
    obtain ⟨zp3, e3, d3⟩ : ∃ zp3, x 3 = .slice (some zp3) 0 0 ∧ True := depOf hdep 3 (by decide +kernel)
    obtain ⟨za6, zc6, e6, d6⟩ : ∃ za6 zc6, x 6 = .agg #[.int .i64 (t).kind, .string (t).name, .slice za6 (t).kids.length zc6] ∧ TysAt V (.slice za6 t.kids.length zc6) t.kids := depOf hdep 6 (by decide +kernel)
    clear hdep
    refine run_bare (by kernel_rfl) ?_
    unfold sclFr
    go_simp
    refine kfit (hK _ _ (Below.refl _ V) ⟨zp3, za6, zc6, rfl, d6⟩) ?_
    first | (simp only [sclFr, Act.put, List.setIfInBounds_toArray, List.set_cons_zero, List.set_cons_succ, h0, h4, h6, h8, h9, e0, e3, e6]; done) | (simp only [sclFr, Act.put, List.setIfInBounds_toArray, List.set_cons_zero, List.set_cons_succ, h0, h4, h6, h8, h9, e0, e3, e6]; rfl)
  -- 8: slot none := Op.store 66 t6 t26
  · clear HC
    rw [← hgl]; clear hgl
    refine ⟨by decide +kernel, fun x V hV hall K hK => ?_⟩
    obtain ⟨zp, za, zc, e7, d7⟩ : ∃ (zp : Addr) (za : Option Addr) (zc : Nat), x 7 = .agg #[.slice ga gn gc, .slice (some zp) 0 0, .int .i64 t.kind, .string t.name, .slice za t.kids.length zc] ∧ TysAt V (.slice za t.kids.length zc) t.kids := hall 7 (by decide)
    clear hall
    refine run_bare (by kernel_rfl) ?_
    unfold sclFr
    obtain ⟨v0, v1, v2, v3, v4⟩ := cells5 hV.1.2.1
    have f0 := Lib.frozen_of_heap hV.1.2.1 0; have f1 := Lib.frozen_of_heap hV.1.2.1 1; have f2 := Lib.frozen_of_heap hV.1.2.1 2; have f3 := Lib.frozen_of_heap hV.1.2.1 3; have f4 := Lib.frozen_of_heap hV.1.2.1 4
    have H := Lib.hid (HFIN.out x V zp za zc hV d7)
    clear HFIN hV d7
    go_simp
    refine kfit (hK undef _ H.out) ?_
    first | (simp only [sclFr, Act.put, List.setIfInBounds_toArray, List.set_cons_zero, List.set_cons_succ, h0, h4, h6, h8, h9, e7]; done) | (simp only [sclFr, Act.put, List.setIfInBounds_toArray, List.set_cons_zero, List.set_cons_succ, h0, h4, h6, h8, h9, e7]; rfl)
theorem scl_here {w : World} {b4 b6 b9 : Nat} {xa ta ga : Option Addr} {xc tc gn gc : Nat} {t : T} {gxs : List ByteArray}
    (HC3 : ∀ V, (SC w b4 b6 b9 t ta tc V ∧ TextsAt V (.slice ga gn gc) gxs) → Calls Tryz.prog 40 #[.agg #[.slice none 0 0], .slice xa 0 xc] V fun e Y => (∃ zp, e = .returned (.slice (some zp) 0 0) ∧ True) ∧ Below V.heap.size V Y)
    (HC6 : ∀ V, (SC w b4 b6 b9 t ta tc V ∧ TextsAt V (.slice ga gn gc) gxs) → Calls Tryz.prog 41 #[.agg #[.slice none 0 0], .agg #[.int .i64 (t).kind, .string (t).name, .slice ta (t).kids.length tc]] V fun e Y => (∃ za zc, e = .returned (.agg #[.int .i64 (t).kind, .string (t).name, .slice za (t).kids.length zc]) ∧ TysAt Y (.slice za t.kids.length zc) t.kids) ∧ Below V.heap.size V Y)
    {Q : Exit → Act → World → Prop} {ops : Array Oper} {a : Act} (X : World) (hops : ops = sclOps)
    (h0 : a.tmps.getD 0 undef = .slice xa 0 xc) (h4 : a.tmps.getD 4 undef = .pointer (some ⟨b4, 0, none⟩)) (h6 : a.tmps.getD 6 undef = .pointer (some ⟨b6, 0, none⟩)) (h8 : a.tmps.getD 8 undef = .slice ga gn gc) (h9 : a.tmps.getD 9 undef = .pointer (some ⟨b9, 0, none⟩))
    (ha : a = sclFr (fun j => a.tmps.getD j undef) a.defers (fun i => a.tmps.getD (19 + i) undef)) (hS : (SC w b4 b6 b9 t ta tc X.drew ∧ TextsAt X.drew (.slice ga gn gc) gxs))
    (hfin : ∀ (x : Nat → Value) V zp za zc, (SC w b4 b6 b9 t ta tc V ∧ TextsAt V (.slice ga gn gc) gxs) → TysAt V (.slice za t.kids.length zc) t.kids → Q .normal (sclFr (fun j => a.tmps.getD j undef) a.defers x) (set5 V b6 (.slice ga gn gc) (.slice (some zp) 0 0) (.int .i64 t.kind) (.string t.name) (.slice za t.kids.length zc))) : (Code.region 3 ops true).wp Tryz.prog Q a X :=
  cast (congrArg (fun z => (Code.region 3 ops true).wp Tryz.prog Q z X) ha.symm) (scl_region (b := fun j => a.tmps.getD j undef) (d := a.defers) h0 h4 h6 h8 h9 HC3 HC6 hops _ X hS hfin)
end Go.Proofs.YtjnlchhikdfifaaGreatDoor
/- scheme: its last statement, a region of 13 operations that draws its order, by an invariant. (Made by a program.) -/
namespace Go.Proofs.YtjnlchhikdfifaaGreatDoor
open Go.RowKit Go.Sort Go.Lib
attribute [local go_sem] Oper.semAt_some

noncomputable def sfrOps : Array Oper := regionIn 1 (Tryz.f14.body.getD .skip)
def sfrFr (b : Nat → Value) (d : List Deferred) (x : Nat → Value) : Act := { tmps := #[b 0, b 1, b 2, x 11, x 12, x 8, x 0, x 1, x 2, x 3, x 4, x 5, x 6, x 7, x 9, x 10, b 16], defers := d }

def sfrVals (b1 : Nat) (xa ca ta : Option Addr) (xc cc tc : Nat) (xs : List ByteArray) (t : T) (i : Nat) (v : Value) (V : World) : Prop :=
  match i with
  | 0 => v = .pointer (some ⟨b1, 1, none⟩)
  | 1 => v = .slice ca 0 cc
  | 2 => v = .pointer (some ⟨b1, 2, none⟩)
  | 3 => v = .agg #[.int .i64 (t).kind, .string (t).name, .slice ta (t).kids.length tc]
  | 4 => ∃ za zc, v = .slice za (fvs [] [] [t]).length zc ∧ TextsAt V (.slice za (fvs [] [] [t]).length zc) (fvs [] [] [t])
  | 5 => v = .pointer (some ⟨b1, 0, none⟩)
  | 6 => v = .slice xa xs.length xc
  | 7 => ∃ zi zp zo zq, v = .tuple #[.slice zi ((fvs [] [] [t]).filter (inB xs)).length zp, .slice zo ((fvs [] [] [t]).filter fun n => !inB xs n).length zq] ∧ (TextsAt V (.slice zi ((fvs [] [] [t]).filter (inB xs)).length zp) ((fvs [] [] [t]).filter (inB xs)) ∧ TextsAt V (.slice zo ((fvs [] [] [t]).filter fun n => !inB xs n).length zq) ((fvs [] [] [t]).filter fun n => !inB xs n))
  | 8 => ∃ zi zp zo zq, v = .tuple #[.slice zi ((fvs [] [] [t]).filter (inB xs)).length zp, .slice zo ((fvs [] [] [t]).filter fun n => !inB xs n).length zq] ∧ (TextsAt V (.slice zi ((fvs [] [] [t]).filter (inB xs)).length zp) ((fvs [] [] [t]).filter (inB xs)) ∧ TextsAt V (.slice zo ((fvs [] [] [t]).filter fun n => !inB xs n).length zq) ((fvs [] [] [t]).filter fun n => !inB xs n))
  | 9 => ∃ zi zp, v = .slice zi ((fvs [] [] [t]).filter (inB xs)).length zp ∧ TextsAt V (.slice zi ((fvs [] [] [t]).filter (inB xs)).length zp) ((fvs [] [] [t]).filter (inB xs))
  | 10 => ∃ zo zq, v = .slice zo ((fvs [] [] [t]).filter fun n => !inB xs n).length zq ∧ TextsAt V (.slice zo ((fvs [] [] [t]).filter fun n => !inB xs n).length zq) ((fvs [] [] [t]).filter fun n => !inB xs n)
  | 11 => ∃ zi zp, v = .slice zi ((fvs [] [] [t]).filter (inB xs)).length zp ∧ TextsAt V (.slice zi ((fvs [] [] [t]).filter (inB xs)).length zp) ((fvs [] [] [t]).filter (inB xs))
  | 12 => ∃ zo zq, v = .slice zo ((fvs [] [] [t]).filter fun n => !inB xs n).length zq ∧ TextsAt V (.slice zo ((fvs [] [] [t]).filter fun n => !inB xs n).length zq) ((fvs [] [] [t]).filter fun n => !inB xs n)
  | _ => True

theorem sfrVals_keep {b1 : Nat} {xa ca ta : Option Addr} {xc cc tc : Nat} {xs : List ByteArray} {t : T} (i : Nat) (v : Value) (V Y : World) (h : sfrVals b1 xa ca ta xc cc tc xs t i v V) (hb : Below V.heap.size V Y) : sfrVals b1 xa ca ta xc cc tc xs t i v Y := by
  unfold sfrVals at *
  split at h <;> first
    | exact h
    | (obtain ⟨za, zc, e, h⟩ := h; exact ⟨za, zc, e, h.below hb⟩)
    | (obtain ⟨zi, zp, zo, zq, e, h⟩ := h; exact ⟨zi, zp, zo, zq, e, ⟨h.1.below hb, h.2.below hb⟩⟩)
    | (obtain ⟨zi, zp, e, h⟩ := h; exact ⟨zi, zp, e, h.below hb⟩)
    | (obtain ⟨zo, zq, e, h⟩ := h; exact ⟨zo, zq, e, h.below hb⟩)

theorem sfr_size : sfrOps.size = 13 := by kernel_rfl
set_option linter.unusedSimpArgs false in
set_option maxRecDepth 100000 in
set_option maxHeartbeats 8000000 in
theorem sfr_region {w : World} {b1 : Nat} {xa ca ta : Option Addr} {xc cc tc : Nat} {xs : List ByteArray} {t : T} {b : Nat → Value} {d : List Deferred}
    (h1 : b 1 = .pointer (some ⟨b1, 0, none⟩))
    (HC4 : ∀ V, SF w b1 xa xc xs ca cc t ta tc V → Calls Tryz.prog 38 #[.slice ca 0 cc, .agg #[.int .i64 (t).kind, .string (t).name, .slice ta (t).kids.length tc]] V fun e Y => (∃ za zc, e = .returned (.slice za (fvs [] [] [t]).length zc) ∧ TextsAt Y (.slice za (fvs [] [] [t]).length zc) (fvs [] [] [t])) ∧ Below V.heap.size V Y)
    (HC7 : ∀ V, SF w b1 xa xc xs ca cc t ta tc V → ∀ za4, ∀ zc4, TextsAt V (.slice za4 (fvs [] [] [t]).length zc4) (fvs [] [] [t]) → Calls Tryz.prog 37 #[.slice za4 (fvs [] [] [t]).length zc4, .slice xa xs.length xc] V fun e Y => (∃ zi zp zo zq, e = .returned (.tuple #[.slice zi ((fvs [] [] [t]).filter (inB xs)).length zp, .slice zo ((fvs [] [] [t]).filter fun n => !inB xs n).length zq]) ∧ (TextsAt Y (.slice zi ((fvs [] [] [t]).filter (inB xs)).length zp) ((fvs [] [] [t]).filter (inB xs)) ∧ TextsAt Y (.slice zo ((fvs [] [] [t]).filter fun n => !inB xs n).length zq) ((fvs [] [] [t]).filter fun n => !inB xs n))) ∧ Below V.heap.size V Y)
    {Q : Exit → Act → World → Prop} {ops : Array Oper} (hops : ops = sfrOps) (x0 : Nat → Value) (X : World) (hS : SF w b1 xa xc xs ca cc t ta tc X.drew)
    (hfin : ∀ (x : Nat → Value) V zi zp zo zq, SF w b1 xa xc xs ca cc t ta tc V → x 11 = .slice zi ((fvs [] [] [t]).filter (inB xs)).length zp → x 12 = .slice zo ((fvs [] [] [t]).filter fun n => !inB xs n).length zq → TextsAt V (.slice zi ((fvs [] [] [t]).filter (inB xs)).length zp) ((fvs [] [] [t]).filter (inB xs)) → TextsAt V (.slice zo ((fvs [] [] [t]).filter fun n => !inB xs n).length zq) ((fvs [] [] [t]).filter fun n => !inB xs n) → Q .normal (sfrFr b d x) V) : (Code.region 1 ops true).wp Tryz.prog Q (sfrFr b d x0) X := by
  have HC := Lib.hid (And.intro HC4 HC7)
  clear HC4 HC7
  refine region_inv (sfrFr b d) (fun V => SF w b1 xa xc xs ca cc t ta tc V) (fun V Y => Below V.heap.size V Y) (sfrVals b1 xa ca ta xc cc tc xs t) x0 (by kernel_rfl) rfl hS (fun V Y h hb => h.below hb) (fun i v V Y _ h hb => sfrVals_keep i v V Y h hb) ?_ (fun x V hV h => by obtain ⟨zi, zp, e1, k1⟩ := h 11 (by rw [hops, sfr_size]; decide); obtain ⟨zo, zq, e2, k2⟩ := h 12 (by rw [hops, sfr_size]; decide); exact hfin x V zi zp zo zq hV e1 e2 k1 k2)
  clear hfin hS
  obtain ⟨f, hf⟩ : ∃ qq, StepAt Tryz.prog (sfrFr b d) (fun V => SF w b1 xa xc xs ca cc t ta tc V) (fun V Y => Below V.heap.size V Y) (sfrVals b1 xa ca ta xc cc tc xs t) ops Q = qq := ⟨_, rfl⟩
  rw [hf, hops]
  simp only [sfrOps, Tryz.f14, regionIn, Option.getD_some, Nat.reduceBEq, Bool.false_eq_true, if_false, if_true, beq_self_eq_true, Array.append_empty, Array.empty_append, List.append_eq, List.cons_append, List.nil_append, AllAt, Nat.reduceAdd, Nat.zero_add]
  -- 0: slot 6 := Op.fieldAddr 66 t1 1
  refine And.intro ?_ ?_
  · rw [← hf]; clear hf
    refine ⟨by decide +kernel, fun x v => by kernel_rfl, fun x V hV hdep K hK => ?_⟩
    clear hdep
    refine run_bare (by kernel_rfl) ?_
    unfold sfrFr
    go_simp
    refine kfit (hK _ _ (Below.refl _ V) rfl) ?_
    first | (simp only [sfrFr, Act.put, List.setIfInBounds_toArray, List.set_cons_zero, List.set_cons_succ, h1]; done) | (simp only [sfrFr, Act.put, List.setIfInBounds_toArray, List.set_cons_zero, List.set_cons_succ, h1]; rfl)
  -- 1: slot 7 := Op.load 55 t6
  refine And.intro ?_ ?_
  · rw [← hf]; clear hf
    refine ⟨by decide +kernel, fun x v => by kernel_rfl, fun x V hV hdep K hK => ?_⟩
    have e0 : x 0 = .pointer (some ⟨b1, 1, none⟩) := depOf hdep 0 (by decide +kernel)
    clear hdep
    refine run_bare (by kernel_rfl) ?_
    unfold sfrFr
    obtain ⟨y0, y1, y2, y3, y4⟩ := cells5 hV.1.1
    go_simp
    refine kfit (hK _ _ (Below.refl _ V) rfl) ?_
    first | (simp only [sfrFr, Act.put, List.setIfInBounds_toArray, List.set_cons_zero, List.set_cons_succ, h1, e0]; done) | (simp only [sfrFr, Act.put, List.setIfInBounds_toArray, List.set_cons_zero, List.set_cons_succ, h1, e0]; rfl)
  -- 2: slot 8 := Op.fieldAddr 66 t1 2
  refine And.intro ?_ ?_
  · rw [← hf]; clear hf
    refine ⟨by decide +kernel, fun x v => by kernel_rfl, fun x V hV hdep K hK => ?_⟩
    clear hdep
    refine run_bare (by kernel_rfl) ?_
    unfold sfrFr
    go_simp
    refine kfit (hK _ _ (Below.refl _ V) rfl) ?_
    first | (simp only [sfrFr, Act.put, List.setIfInBounds_toArray, List.set_cons_zero, List.set_cons_succ, h1]; done) | (simp only [sfrFr, Act.put, List.setIfInBounds_toArray, List.set_cons_zero, List.set_cons_succ, h1]; rfl)
  -- 3: slot 9 := Op.load 29 t8
  refine And.intro ?_ ?_
  · rw [← hf]; clear hf
    refine ⟨by decide +kernel, fun x v => by kernel_rfl, fun x V hV hdep K hK => ?_⟩
    have e2 : x 2 = .pointer (some ⟨b1, 2, none⟩) := depOf hdep 2 (by decide +kernel)
    clear hdep
    refine run_bare (by kernel_rfl) ?_
    unfold sfrFr
    obtain ⟨y0, y1, y2, y3, y4⟩ := cells5 hV.1.1
    go_simp
    refine kfit (hK _ _ (Below.refl _ V) rfl) ?_
    first | (simp only [sfrFr, Act.put, List.setIfInBounds_toArray, List.set_cons_zero, List.set_cons_succ, h1, e2]; done) | (simp only [sfrFr, Act.put, List.setIfInBounds_toArray, List.set_cons_zero, List.set_cons_succ, h1, e2]; rfl)
  -- 4: slot 10 := Op.call { value (Operand.func 64), args := #[t7, t9], argTyp
  refine And.intro ?_ ?_
  · rw [← hf]; clear hf
    refine ⟨by decide +kernel, fun x v => by kernel_rfl, fun x V hV hdep K hK => ?_⟩
    have e1 : x 1 = .slice ca 0 cc := depOf hdep 1 (by decide +kernel)
    have e3 : x 3 = .agg #[.int .i64 (t).kind, .string (t).name, .slice ta (t).kids.length tc] := depOf hdep 3 (by decide +kernel)
    clear hdep
    refine run_bare (by kernel_rfl) ?_
    unfold sfrFr
    obtain ⟨HC4, HC7⟩ := HC.out
    clear HC7
    have H := HC4 V hV
    replace H := Lib.hid H; clear HC4
    go_simp
    go_at_call 38
    refine H.out.mono ?_
    rintro e Y ⟨⟨za, zc, rfl, hq⟩, hb⟩; refine kfit (hK _ _ hb ⟨za, zc, rfl, hq⟩) ?_
    first | (simp only [sfrFr, Act.put, List.setIfInBounds_toArray, List.set_cons_zero, List.set_cons_succ, h1, e1, e3]; done) | (simp only [sfrFr, Act.put, List.setIfInBounds_toArray, List.set_cons_zero, List.set_cons_succ, h1, e1, e3]; rfl)
  -- 5: slot 11 := Op.fieldAddr 66 t1 0
  refine And.intro ?_ ?_
  · rw [← hf]; clear hf
    refine ⟨by decide +kernel, fun x v => by kernel_rfl, fun x V hV hdep K hK => ?_⟩
    clear hdep
    refine run_bare (by kernel_rfl) ?_
    unfold sfrFr
    go_simp
    refine kfit (hK _ _ (Below.refl _ V) rfl) ?_
    first | (simp only [sfrFr, Act.put, List.setIfInBounds_toArray, List.set_cons_zero, List.set_cons_succ, h1]; done) | (simp only [sfrFr, Act.put, List.setIfInBounds_toArray, List.set_cons_zero, List.set_cons_succ, h1]; rfl)
  -- 6: slot 12 := Op.load 64 t11
  refine And.intro ?_ ?_
  · rw [← hf]; clear hf
    refine ⟨by decide +kernel, fun x v => by kernel_rfl, fun x V hV hdep K hK => ?_⟩
    have e5 : x 5 = .pointer (some ⟨b1, 0, none⟩) := depOf hdep 5 (by decide +kernel)
    clear hdep
    refine run_bare (by kernel_rfl) ?_
    unfold sfrFr
    obtain ⟨y0, y1, y2, y3, y4⟩ := cells5 hV.1.1
    go_simp
    refine kfit (hK _ _ (Below.refl _ V) rfl) ?_
    first | (simp only [sfrFr, Act.put, List.setIfInBounds_toArray, List.set_cons_zero, List.set_cons_succ, h1, e5]; done) | (simp only [sfrFr, Act.put, List.setIfInBounds_toArray, List.set_cons_zero, List.set_cons_succ, h1, e5]; rfl)
  -- 7: slot 13 := Op.call { value (Operand.func 63), args := #[t10, t12], argT
  refine And.intro ?_ ?_
  · rw [← hf]; clear hf
    refine ⟨by decide +kernel, fun x v => by kernel_rfl, fun x V hV hdep K hK => ?_⟩
    obtain ⟨za4, zc4, e4, d4⟩ : ∃ za4 zc4, x 4 = .slice za4 (fvs [] [] [t]).length zc4 ∧ TextsAt V (.slice za4 (fvs [] [] [t]).length zc4) (fvs [] [] [t]) := depOf hdep 4 (by decide +kernel)
    have e6 : x 6 = .slice xa xs.length xc := depOf hdep 6 (by decide +kernel)
    clear hdep
    refine run_bare (by kernel_rfl) ?_
    unfold sfrFr
    obtain ⟨HC4, HC7⟩ := HC.out
    clear HC4
    have H := HC7 V hV _ _ d4
    replace H := Lib.hid H; clear HC7
    go_simp
    go_at_call 37
    refine H.out.mono ?_
    rintro e Y ⟨⟨zi, zp, zo, zq, rfl, hq⟩, hb⟩; refine kfit (hK _ _ hb ⟨zi, zp, zo, zq, rfl, hq⟩) ?_
    first | (simp only [sfrFr, Act.put, List.setIfInBounds_toArray, List.set_cons_zero, List.set_cons_succ, h1, e4, e6]; done) | (simp only [sfrFr, Act.put, List.setIfInBounds_toArray, List.set_cons_zero, List.set_cons_succ, h1, e4, e6]; rfl)
  -- 8: slot 5 := Op.move t13
  refine And.intro ?_ ?_
  · rw [← hf]; clear hf
    refine ⟨by decide +kernel, fun x v => by kernel_rfl, fun x V hV hdep K hK => ?_⟩
    obtain ⟨zi7, zp7, zo7, zq7, e7, d7⟩ : ∃ zi7 zp7 zo7 zq7, x 7 = .tuple #[.slice zi7 ((fvs [] [] [t]).filter (inB xs)).length zp7, .slice zo7 ((fvs [] [] [t]).filter fun n => !inB xs n).length zq7] ∧ (TextsAt V (.slice zi7 ((fvs [] [] [t]).filter (inB xs)).length zp7) ((fvs [] [] [t]).filter (inB xs)) ∧ TextsAt V (.slice zo7 ((fvs [] [] [t]).filter fun n => !inB xs n).length zq7) ((fvs [] [] [t]).filter fun n => !inB xs n)) := depOf hdep 7 (by decide +kernel)
    clear hdep
    refine run_bare (by kernel_rfl) ?_
    unfold sfrFr
    go_simp
    refine kfit (hK _ _ (Below.refl _ V) ⟨_, _, _, _, rfl, d7⟩) ?_
    first | (simp only [sfrFr, Act.put, List.setIfInBounds_toArray, List.set_cons_zero, List.set_cons_succ, h1, e7]; done) | (simp only [sfrFr, Act.put, List.setIfInBounds_toArray, List.set_cons_zero, List.set_cons_succ, h1, e7]; rfl)
  -- 9: slot 14 := Op.extract t5 0
  refine And.intro ?_ ?_
  · rw [← hf]; clear hf
    refine ⟨by decide +kernel, fun x v => by kernel_rfl, fun x V hV hdep K hK => ?_⟩
    obtain ⟨zi8, zp8, zo8, zq8, e8, d8⟩ : ∃ zi8 zp8 zo8 zq8, x 8 = .tuple #[.slice zi8 ((fvs [] [] [t]).filter (inB xs)).length zp8, .slice zo8 ((fvs [] [] [t]).filter fun n => !inB xs n).length zq8] ∧ (TextsAt V (.slice zi8 ((fvs [] [] [t]).filter (inB xs)).length zp8) ((fvs [] [] [t]).filter (inB xs)) ∧ TextsAt V (.slice zo8 ((fvs [] [] [t]).filter fun n => !inB xs n).length zq8) ((fvs [] [] [t]).filter fun n => !inB xs n)) := depOf hdep 8 (by decide +kernel)
    clear hdep
    refine run_bare (by kernel_rfl) ?_
    unfold sfrFr
    go_simp
    refine kfit (hK _ _ (Below.refl _ V) ⟨_, _, rfl, d8.1⟩) ?_
    first | (simp only [sfrFr, Act.put, List.setIfInBounds_toArray, List.set_cons_zero, List.set_cons_succ, h1, e8]; done) | (simp only [sfrFr, Act.put, List.setIfInBounds_toArray, List.set_cons_zero, List.set_cons_succ, h1, e8]; rfl)
  -- 10: slot 15 := Op.extract t5 1
  refine And.intro ?_ ?_
  · rw [← hf]; clear hf
    refine ⟨by decide +kernel, fun x v => by kernel_rfl, fun x V hV hdep K hK => ?_⟩
    obtain ⟨zi8, zp8, zo8, zq8, e8, d8⟩ : ∃ zi8 zp8 zo8 zq8, x 8 = .tuple #[.slice zi8 ((fvs [] [] [t]).filter (inB xs)).length zp8, .slice zo8 ((fvs [] [] [t]).filter fun n => !inB xs n).length zq8] ∧ (TextsAt V (.slice zi8 ((fvs [] [] [t]).filter (inB xs)).length zp8) ((fvs [] [] [t]).filter (inB xs)) ∧ TextsAt V (.slice zo8 ((fvs [] [] [t]).filter fun n => !inB xs n).length zq8) ((fvs [] [] [t]).filter fun n => !inB xs n)) := depOf hdep 8 (by decide +kernel)
    clear hdep
    refine run_bare (by kernel_rfl) ?_
    unfold sfrFr
    go_simp
    refine kfit (hK _ _ (Below.refl _ V) ⟨_, _, rfl, d8.2⟩) ?_
    first | (simp only [sfrFr, Act.put, List.setIfInBounds_toArray, List.set_cons_zero, List.set_cons_succ, h1, e8]; done) | (simp only [sfrFr, Act.put, List.setIfInBounds_toArray, List.set_cons_zero, List.set_cons_succ, h1, e8]; rfl)
  -- 11: slot 3 := Op.assign t14
  refine And.intro ?_ ?_
  · rw [← hf]; clear hf
    refine ⟨by decide +kernel, fun x v => by kernel_rfl, fun x V hV hdep K hK => ?_⟩
    obtain ⟨zi9, zp9, e9, d9⟩ : ∃ zi9 zp9, x 9 = .slice zi9 ((fvs [] [] [t]).filter (inB xs)).length zp9 ∧ TextsAt V (.slice zi9 ((fvs [] [] [t]).filter (inB xs)).length zp9) ((fvs [] [] [t]).filter (inB xs)) := depOf hdep 9 (by decide +kernel)
    clear hdep
    refine run_bare (by kernel_rfl) ?_
    unfold sfrFr
    go_simp
    refine kfit (hK _ _ (Below.refl _ V) ⟨_, _, rfl, d9⟩) ?_
    first | (simp only [sfrFr, Act.put, List.setIfInBounds_toArray, List.set_cons_zero, List.set_cons_succ, h1, e9]; done) | (simp only [sfrFr, Act.put, List.setIfInBounds_toArray, List.set_cons_zero, List.set_cons_succ, h1, e9]; rfl)
  -- 12: slot 4 := Op.assign t15
  refine And.intro ?_ ?_
  · rw [← hf]; clear hf
    refine ⟨by decide +kernel, fun x v => by kernel_rfl, fun x V hV hdep K hK => ?_⟩
    obtain ⟨zo10, zq10, e10, d10⟩ : ∃ zo10 zq10, x 10 = .slice zo10 ((fvs [] [] [t]).filter fun n => !inB xs n).length zq10 ∧ TextsAt V (.slice zo10 ((fvs [] [] [t]).filter fun n => !inB xs n).length zq10) ((fvs [] [] [t]).filter fun n => !inB xs n) := depOf hdep 10 (by decide +kernel)
    clear hdep
    refine run_bare (by kernel_rfl) ?_
    unfold sfrFr
    go_simp
    refine kfit (hK _ _ (Below.refl _ V) ⟨_, _, rfl, d10⟩) ?_
    first | (simp only [sfrFr, Act.put, List.setIfInBounds_toArray, List.set_cons_zero, List.set_cons_succ, h1, e10]; done) | (simp only [sfrFr, Act.put, List.setIfInBounds_toArray, List.set_cons_zero, List.set_cons_succ, h1, e10]; rfl)
  exact trivial
theorem sfr_here {w : World} {b1 : Nat} {xa ca ta : Option Addr} {xc cc tc : Nat} {xs : List ByteArray} {t : T}
    (HC4 : ∀ V, SF w b1 xa xc xs ca cc t ta tc V → Calls Tryz.prog 38 #[.slice ca 0 cc, .agg #[.int .i64 (t).kind, .string (t).name, .slice ta (t).kids.length tc]] V fun e Y => (∃ za zc, e = .returned (.slice za (fvs [] [] [t]).length zc) ∧ TextsAt Y (.slice za (fvs [] [] [t]).length zc) (fvs [] [] [t])) ∧ Below V.heap.size V Y)
    (HC7 : ∀ V, SF w b1 xa xc xs ca cc t ta tc V → ∀ za4, ∀ zc4, TextsAt V (.slice za4 (fvs [] [] [t]).length zc4) (fvs [] [] [t]) → Calls Tryz.prog 37 #[.slice za4 (fvs [] [] [t]).length zc4, .slice xa xs.length xc] V fun e Y => (∃ zi zp zo zq, e = .returned (.tuple #[.slice zi ((fvs [] [] [t]).filter (inB xs)).length zp, .slice zo ((fvs [] [] [t]).filter fun n => !inB xs n).length zq]) ∧ (TextsAt Y (.slice zi ((fvs [] [] [t]).filter (inB xs)).length zp) ((fvs [] [] [t]).filter (inB xs)) ∧ TextsAt Y (.slice zo ((fvs [] [] [t]).filter fun n => !inB xs n).length zq) ((fvs [] [] [t]).filter fun n => !inB xs n))) ∧ Below V.heap.size V Y)
    {Q : Exit → Act → World → Prop} {ops : Array Oper} {a : Act} (X : World) (hops : ops = sfrOps)
    (h1 : a.tmps.getD 1 undef = .pointer (some ⟨b1, 0, none⟩))
    (ha : a = sfrFr (fun j => a.tmps.getD j undef) a.defers (fun i => a.tmps.getD (if i = 8 then 5 else if i = 11 then 3 else if i = 12 then 4 else if i < 8 then 6 + i else 5 + i) undef)) (hS : SF w b1 xa xc xs ca cc t ta tc X.drew)
    (hfin : ∀ (x : Nat → Value) V zi zp zo zq, SF w b1 xa xc xs ca cc t ta tc V → x 11 = .slice zi ((fvs [] [] [t]).filter (inB xs)).length zp → x 12 = .slice zo ((fvs [] [] [t]).filter fun n => !inB xs n).length zq → TextsAt V (.slice zi ((fvs [] [] [t]).filter (inB xs)).length zp) ((fvs [] [] [t]).filter (inB xs)) → TextsAt V (.slice zo ((fvs [] [] [t]).filter fun n => !inB xs n).length zq) ((fvs [] [] [t]).filter fun n => !inB xs n) → Q .normal (sfrFr (fun j => a.tmps.getD j undef) a.defers x) V) : (Code.region 1 ops true).wp Tryz.prog Q a X :=
  cast (congrArg (fun z => (Code.region 1 ops true).wp Tryz.prog Q z X) ha.symm) (sfr_region (b := fun j => a.tmps.getD j undef) (d := a.defers) h1 HC4 HC7 hops _ X hS hfin)
end Go.Proofs.YtjnlchhikdfifaaGreatDoor
/- scheme.rename: its last statement, a region of 11 operations that draws its order, by an invariant. (Made by a program.) -/
namespace Go.Proofs.YtjnlchhikdfifaaGreatDoor
open Go.RowKit Go.Sort Go.Lib
attribute [local go_sem] Oper.semAt_some

noncomputable def srnOps : Array Oper := regionIn 8 (Tryz.f33.body.getD .skip)
def srnFr (b : Nat → Value) (d : List Deferred) (x : Nat → Value) : Act := { tmps := #[b 0, b 1, b 2, b 3, b 4, b 5, b 6, b 7, b 8, b 9, b 10, b 11, b 12, b 13, b 14, b 15, b 16, b 17, b 18, b 19, b 20, b 21, b 22, b 23, b 24, b 25, b 26, b 27, b 28, b 29, b 30, b 31, b 32, b 33, x 0, x 1, x 2, x 3, x 4, x 5, x 6, x 7, x 8, x 9], defers := d }

def srnVals (b3 : Nat) (xa ta sa : Option Addr) (xc tc sc : Nat) (t : T) (l : List PR) (ga : Option Addr) (gn gc : Nat) (i : Nat) (v : Value) (V : World) : Prop :=
  match i with
  | 0 => v = .slice ga gn gc
  | 1 => v = .agg #[.slice sa l.length sc]
  | 2 => v = .pointer (some ⟨b3, 1, none⟩)
  | 3 => v = .slice xa 0 xc
  | 4 => ∃ zp, v = .slice (some zp) 0 0 ∧ True
  | 5 => v = .agg #[.slice sa l.length sc]
  | 6 => v = .pointer (some ⟨b3, 2, none⟩)
  | 7 => v = .agg #[.int .i64 (t).kind, .string (t).name, .slice ta (t).kids.length tc]
  | 8 => ∃ za zc, v = .agg #[.int .i64 (app l t).kind, .string (app l t).name, .slice za (app l t).kids.length zc] ∧ TysAt V (.slice za (app l t).kids.length zc) (app l t).kids
  | 9 => ∃ zp za zc, v = .agg #[.slice ga gn gc, .slice (some zp) 0 0, .int .i64 (app l t).kind, .string (app l t).name, .slice za (app l t).kids.length zc] ∧ TysAt V (.slice za (app l t).kids.length zc) (app l t).kids
  | _ => True

theorem srnVals_keep {b3 : Nat} {xa ta sa : Option Addr} {xc tc sc : Nat} {t : T} {l : List PR} {ga : Option Addr} {gn gc : Nat} (i : Nat) (v : Value) (V Y : World) (h : srnVals b3 xa ta sa xc tc sc t l ga gn gc i v V) (hb : Below V.heap.size V Y) : srnVals b3 xa ta sa xc tc sc t l ga gn gc i v Y := by
  unfold srnVals at *
  split at h <;> first
    | exact h
    | (obtain ⟨zp, e, h⟩ := h; exact ⟨zp, e, h⟩)
    | (obtain ⟨za, zc, e, h⟩ := h; exact ⟨za, zc, e, h.keep (KeepT.of_below hb)⟩)
    | (obtain ⟨zp, za, zc, e, h⟩ := h; exact ⟨zp, za, zc, e, h.keep (KeepT.of_below hb)⟩)

theorem srn_size : srnOps.size = 11 := by kernel_rfl
theorem srn_cov : covered srnOps 10 = true := by kernel_rfl
set_option linter.unusedSimpArgs false in
set_option maxRecDepth 100000 in
set_option maxHeartbeats 8000000 in
theorem srn_region {w : World} {b3 b6 b10 : Nat} {xv : Value} {xa ta sa ga : Option Addr} {xc tc sc gn gc : Nat} {t : T} {l : List PR} {b : Nat → Value} {d : List Deferred}
    (h2 : b 2 = .slice ga gn gc) (h3 : b 3 = .pointer (some ⟨b3, 0, none⟩)) (h6 : b 6 = .pointer (some ⟨b6, 0, none⟩)) (h10 : b 10 = .pointer (some ⟨b10, 0, none⟩))
    (HC4 : ∀ V, SR w b3 b6 b10 xv (.slice xa 0 xc) t ta tc sa sc l V → Calls Tryz.prog 40 #[.agg #[.slice sa l.length sc], .slice xa 0 xc] V fun e Y => (∃ zp, e = .returned (.slice (some zp) 0 0) ∧ True) ∧ Below V.heap.size V Y)
    (HC8 : ∀ V, SR w b3 b6 b10 xv (.slice xa 0 xc) t ta tc sa sc l V → Calls Tryz.prog 41 #[.agg #[.slice sa l.length sc], .agg #[.int .i64 (t).kind, .string (t).name, .slice ta (t).kids.length tc]] V fun e Y => (∃ za zc, e = .returned (.agg #[.int .i64 (app l t).kind, .string (app l t).name, .slice za (app l t).kids.length zc]) ∧ TysAt Y (.slice za (app l t).kids.length zc) (app l t).kids) ∧ Below V.heap.size V Y)
    {Q : Exit → Act → World → Prop} {ops : Array Oper} (hops : ops = srnOps) (x0 : Nat → Value) (X : World) (hS : SR w b3 b6 b10 xv (.slice xa 0 xc) t ta tc sa sc l X.drew)
    (hfin : ∀ (x : Nat → Value) V zp za zc, SR w b3 b6 b10 xv (.slice xa 0 xc) t ta tc sa sc l V → TysAt V (.slice za (app l t).kids.length zc) (app l t).kids → Q .normal (srnFr b d x) (set5 V b6 (.slice ga gn gc) (.slice (some zp) 0 0) (.int .i64 (app l t).kind) (.string (app l t).name) (.slice za (app l t).kids.length zc))) : (Code.region 8 ops true).wp Tryz.prog Q (srnFr b d x0) X := by
  have HC := Lib.hid (And.intro HC4 HC8)
  clear HC4 HC8
  have hszo : ops.size = 10 + 1 := by rw [hops]; exact srn_size
  have hcovo : covered ops 10 = true := by rw [hops]; exact srn_cov
  refine region_last (srnFr b d) (fun V => SR w b3 b6 b10 xv (.slice xa 0 xc) t ta tc sa sc l V) (fun V Y => Below V.heap.size V Y) (srnVals b3 xa ta sa xc tc sc t l ga gn gc) x0 10 (by kernel_rfl) rfl hS hszo hcovo (fun V Y h hb => h.below hb) (fun i v V Y _ h hb => srnVals_keep i v V Y h hb) ?_
  have HFIN := Lib.hid hfin
  clear hfin hS hszo hcovo
  obtain ⟨gl, hgl⟩ : ∃ qq, LastAt Tryz.prog (srnFr b d) (fun V => SR w b3 b6 b10 xv (.slice xa 0 xc) t ta tc sa sc l V) (srnVals b3 xa ta sa xc tc sc t l ga gn gc) ops Q 10 = qq := ⟨_, rfl⟩
  rw [hgl]
  obtain ⟨f, hf⟩ : ∃ qq, StepAt Tryz.prog (srnFr b d) (fun V => SR w b3 b6 b10 xv (.slice xa 0 xc) t ta tc sa sc l V) (fun V Y => Below V.heap.size V Y) (srnVals b3 xa ta sa xc tc sc t l ga gn gc) ops Q = qq := ⟨_, rfl⟩
  rw [hf, hops]
  simp only [srnOps, Tryz.f33, regionIn, Option.getD_some, Nat.reduceBEq, Bool.false_eq_true, if_false, if_true, beq_self_eq_true, Array.append_empty, Array.empty_append, List.append_eq, List.cons_append, List.nil_append, AllBut, Nat.reduceAdd, Nat.zero_add]
  -- 0: slot 34 := Op.move t2
  refine And.intro ?_ ?_
  · clear HFIN hgl
    rw [← hf]; clear hf
    refine ⟨by decide +kernel, fun x v => by kernel_rfl, fun x V hV hdep K hK => ?_⟩
    clear hdep
    refine run_bare (by kernel_rfl) ?_
    unfold srnFr
    go_simp
    refine kfit (hK _ _ (Below.refl _ V) rfl) ?_
    first | (simp only [srnFr, Act.put, List.setIfInBounds_toArray, List.set_cons_zero, List.set_cons_succ, h2, h3, h6, h10]; done) | (simp only [srnFr, Act.put, List.setIfInBounds_toArray, List.set_cons_zero, List.set_cons_succ, h2, h3, h6, h10]; rfl)
  -- 1: slot 35 := Op.load 33 t10
  refine And.intro ?_ ?_
  · clear HFIN hgl
    rw [← hf]; clear hf
    refine ⟨by decide +kernel, fun x v => by kernel_rfl, fun x V hV hdep K hK => ?_⟩
    clear hdep
    refine run_bare (by kernel_rfl) ?_
    unfold srnFr
    obtain ⟨y0, y1, y2, y3, y4⟩ := cells5 hV.1.1; have y5 := hV.2.2.1.cell
    go_simp
    refine kfit (hK _ _ (Below.refl _ V) rfl) ?_
    first | (simp only [srnFr, Act.put, List.setIfInBounds_toArray, List.set_cons_zero, List.set_cons_succ, h2, h3, h6, h10]; done) | (simp only [srnFr, Act.put, List.setIfInBounds_toArray, List.set_cons_zero, List.set_cons_succ, h2, h3, h6, h10]; rfl)
  -- 2: slot 36 := Op.fieldAddr 66 t3 1
  refine And.intro ?_ ?_
  · clear HFIN hgl
    rw [← hf]; clear hf
    refine ⟨by decide +kernel, fun x v => by kernel_rfl, fun x V hV hdep K hK => ?_⟩
    clear hdep
    refine run_bare (by kernel_rfl) ?_
    unfold srnFr
    go_simp
    refine kfit (hK _ _ (Below.refl _ V) rfl) ?_
    first | (simp only [srnFr, Act.put, List.setIfInBounds_toArray, List.set_cons_zero, List.set_cons_succ, h2, h3, h6, h10]; done) | (simp only [srnFr, Act.put, List.setIfInBounds_toArray, List.set_cons_zero, List.set_cons_succ, h2, h3, h6, h10]; rfl)
  -- 3: slot 37 := Op.load 55 t36
  refine And.intro ?_ ?_
  · clear HFIN hgl
    rw [← hf]; clear hf
    refine ⟨by decide +kernel, fun x v => by kernel_rfl, fun x V hV hdep K hK => ?_⟩
    have e2 : x 2 = .pointer (some ⟨b3, 1, none⟩) := depOf hdep 2 (by decide +kernel)
    clear hdep
    refine run_bare (by kernel_rfl) ?_
    unfold srnFr
    obtain ⟨y0, y1, y2, y3, y4⟩ := cells5 hV.1.1; have y5 := hV.2.2.1.cell
    go_simp
    refine kfit (hK _ _ (Below.refl _ V) rfl) ?_
    first | (simp only [srnFr, Act.put, List.setIfInBounds_toArray, List.set_cons_zero, List.set_cons_succ, h2, h3, h6, h10, e2]; done) | (simp only [srnFr, Act.put, List.setIfInBounds_toArray, List.set_cons_zero, List.set_cons_succ, h2, h3, h6, h10, e2]; rfl)
  -- 4: slot 38 := Op.call { value (Operand.func 53), args := #[t35, t37], argT
  refine And.intro ?_ ?_
  · clear HFIN hgl
    rw [← hf]; clear hf
    refine ⟨by decide +kernel, fun x v => by kernel_rfl, fun x V hV hdep K hK => ?_⟩
    have e1 : x 1 = .agg #[.slice sa l.length sc] := depOf hdep 1 (by decide +kernel)
    have e3 : x 3 = .slice xa 0 xc := depOf hdep 3 (by decide +kernel)
    clear hdep
    refine run_bare (by kernel_rfl) ?_
    unfold srnFr
    obtain ⟨HC4, HC8⟩ := HC.out
    clear HC8
    have H := HC4 V hV
    replace H := Lib.hid H; clear HC4
    go_simp
    go_at_call 40
    refine H.out.mono ?_
    rintro e Y ⟨⟨zp, rfl, hq⟩, hb⟩; refine kfit (hK _ _ hb ⟨zp, rfl, hq⟩) ?_
    first | (simp only [srnFr, Act.put, List.setIfInBounds_toArray, List.set_cons_zero, List.set_cons_succ, h2, h3, h6, h10, e1, e3]; done) | (simp only [srnFr, Act.put, List.setIfInBounds_toArray, List.set_cons_zero, List.set_cons_succ, h2, h3, h6, h10, e1, e3]; rfl)
  -- 5: slot 39 := Op.load 33 t10
  refine And.intro ?_ ?_
  · clear HFIN hgl
    rw [← hf]; clear hf
    refine ⟨by decide +kernel, fun x v => by kernel_rfl, fun x V hV hdep K hK => ?_⟩
    clear hdep
    refine run_bare (by kernel_rfl) ?_
    unfold srnFr
    obtain ⟨y0, y1, y2, y3, y4⟩ := cells5 hV.1.1; have y5 := hV.2.2.1.cell
    go_simp
    refine kfit (hK _ _ (Below.refl _ V) rfl) ?_
    first | (simp only [srnFr, Act.put, List.setIfInBounds_toArray, List.set_cons_zero, List.set_cons_succ, h2, h3, h6, h10]; done) | (simp only [srnFr, Act.put, List.setIfInBounds_toArray, List.set_cons_zero, List.set_cons_succ, h2, h3, h6, h10]; rfl)
  -- 6: slot 40 := Op.fieldAddr 66 t3 2
  refine And.intro ?_ ?_
  · clear HFIN hgl
    rw [← hf]; clear hf
    refine ⟨by decide +kernel, fun x v => by kernel_rfl, fun x V hV hdep K hK => ?_⟩
    clear hdep
    refine run_bare (by kernel_rfl) ?_
    unfold srnFr
    go_simp
    refine kfit (hK _ _ (Below.refl _ V) rfl) ?_
    first | (simp only [srnFr, Act.put, List.setIfInBounds_toArray, List.set_cons_zero, List.set_cons_succ, h2, h3, h6, h10]; done) | (simp only [srnFr, Act.put, List.setIfInBounds_toArray, List.set_cons_zero, List.set_cons_succ, h2, h3, h6, h10]; rfl)
  -- 7: slot 41 := Op.load 29 t40
  refine And.intro ?_ ?_
  · clear HFIN hgl
    rw [← hf]; clear hf
    refine ⟨by decide +kernel, fun x v => by kernel_rfl, fun x V hV hdep K hK => ?_⟩
    have e6 : x 6 = .pointer (some ⟨b3, 2, none⟩) := depOf hdep 6 (by decide +kernel)
    clear hdep
    refine run_bare (by kernel_rfl) ?_
    unfold srnFr
    obtain ⟨y0, y1, y2, y3, y4⟩ := cells5 hV.1.1; have y5 := hV.2.2.1.cell
    go_simp
    refine kfit (hK _ _ (Below.refl _ V) rfl) ?_
    first | (simp only [srnFr, Act.put, List.setIfInBounds_toArray, List.set_cons_zero, List.set_cons_succ, h2, h3, h6, h10, e6]; done) | (simp only [srnFr, Act.put, List.setIfInBounds_toArray, List.set_cons_zero, List.set_cons_succ, h2, h3, h6, h10, e6]; rfl)
  -- 8: slot 42 := Op.call { value (Operand.func 14), args := #[t39, t41], argT
  refine And.intro ?_ ?_
  · clear HFIN hgl
    rw [← hf]; clear hf
    refine ⟨by decide +kernel, fun x v => by kernel_rfl, fun x V hV hdep K hK => ?_⟩
    have e5 : x 5 = .agg #[.slice sa l.length sc] := depOf hdep 5 (by decide +kernel)
    have e7 : x 7 = .agg #[.int .i64 (t).kind, .string (t).name, .slice ta (t).kids.length tc] := depOf hdep 7 (by decide +kernel)
    clear hdep
    refine run_bare (by kernel_rfl) ?_
    unfold srnFr
    obtain ⟨HC4, HC8⟩ := HC.out
    clear HC4
    have H := HC8 V hV
    replace H := Lib.hid H; clear HC8
    go_simp
    go_at_call 41
    refine H.out.mono ?_
    rintro e Y ⟨⟨za, zc, rfl, hq⟩, hb⟩; refine kfit (hK _ _ hb ⟨za, zc, rfl, hq⟩) ?_
    first | (simp only [srnFr, Act.put, List.setIfInBounds_toArray, List.set_cons_zero, List.set_cons_succ, h2, h3, h6, h10, e5, e7]; done) | (simp only [srnFr, Act.put, List.setIfInBounds_toArray, List.set_cons_zero, List.set_cons_succ, h2, h3, h6, h10, e5, e7]; rfl)
  -- 9: slot 43 := Op.build 66 #[(0, t34), (1, t38), (2, t42)]
  refine And.intro ?_ ?_
  · clear HFIN hgl
    rw [← hf]; clear hf
    refine ⟨by decide +kernel, fun x v => by kernel_rfl, fun x V hV hdep K hK => ?_⟩
    have e0 : x 0 = .slice ga gn gc := depOf hdep 0 (by decide +kernel)
    obtain ⟨zp4, e4, d4⟩ : ∃ zp4, x 4 = .slice (some zp4) 0 0 ∧ True := depOf hdep 4 (by decide +kernel)
    obtain ⟨za8, zc8, e8, d8⟩ : ∃ za8 zc8, x 8 = .agg #[.int .i64 (app l t).kind, .string (app l t).name, .slice za8 (app l t).kids.length zc8] ∧ TysAt V (.slice za8 (app l t).kids.length zc8) (app l t).kids := depOf hdep 8 (by decide +kernel)
    clear hdep
    refine run_bare (by kernel_rfl) ?_
    unfold srnFr
    go_simp
    refine kfit (hK _ _ (Below.refl _ V) ⟨zp4, za8, zc8, rfl, d8⟩) ?_
    first | (simp only [srnFr, Act.put, List.setIfInBounds_toArray, List.set_cons_zero, List.set_cons_succ, h2, h3, h6, h10, e0, e4, e8]; done) | (simp only [srnFr, Act.put, List.setIfInBounds_toArray, List.set_cons_zero, List.set_cons_succ, h2, h3, h6, h10, e0, e4, e8]; rfl)
  -- 10: slot none := Op.store 66 t6 t43
  · clear HC
    rw [← hgl]; clear hgl
    refine ⟨by decide +kernel, fun x V hV hall K hK => ?_⟩
    obtain ⟨zp, za, zc, e9, d9⟩ : ∃ (zp : Addr) (za : Option Addr) (zc : Nat), x 9 = .agg #[.slice ga gn gc, .slice (some zp) 0 0, .int .i64 (app l t).kind, .string (app l t).name, .slice za (app l t).kids.length zc] ∧ TysAt V (.slice za (app l t).kids.length zc) (app l t).kids := hall 9 (by decide)
    clear hall
    refine run_bare (by kernel_rfl) ?_
    unfold srnFr
    obtain ⟨v0, v1, v2, v3, v4⟩ := cells5 hV.2.1
    have f0 := Lib.frozen_of_heap hV.2.1 0; have f1 := Lib.frozen_of_heap hV.2.1 1; have f2 := Lib.frozen_of_heap hV.2.1 2; have f3 := Lib.frozen_of_heap hV.2.1 3; have f4 := Lib.frozen_of_heap hV.2.1 4
    have H := Lib.hid (HFIN.out x V zp za zc hV d9)
    clear HFIN hV d9
    go_simp
    refine kfit (hK undef _ H.out) ?_
    first | (simp only [srnFr, Act.put, List.setIfInBounds_toArray, List.set_cons_zero, List.set_cons_succ, h2, h3, h6, h10, e9]; done) | (simp only [srnFr, Act.put, List.setIfInBounds_toArray, List.set_cons_zero, List.set_cons_succ, h2, h3, h6, h10, e9]; rfl)
theorem srn_here {w : World} {b3 b6 b10 : Nat} {xv : Value} {xa ta sa ga : Option Addr} {xc tc sc gn gc : Nat} {t : T} {l : List PR}
    (HC4 : ∀ V, SR w b3 b6 b10 xv (.slice xa 0 xc) t ta tc sa sc l V → Calls Tryz.prog 40 #[.agg #[.slice sa l.length sc], .slice xa 0 xc] V fun e Y => (∃ zp, e = .returned (.slice (some zp) 0 0) ∧ True) ∧ Below V.heap.size V Y)
    (HC8 : ∀ V, SR w b3 b6 b10 xv (.slice xa 0 xc) t ta tc sa sc l V → Calls Tryz.prog 41 #[.agg #[.slice sa l.length sc], .agg #[.int .i64 (t).kind, .string (t).name, .slice ta (t).kids.length tc]] V fun e Y => (∃ za zc, e = .returned (.agg #[.int .i64 (app l t).kind, .string (app l t).name, .slice za (app l t).kids.length zc]) ∧ TysAt Y (.slice za (app l t).kids.length zc) (app l t).kids) ∧ Below V.heap.size V Y)
    {Q : Exit → Act → World → Prop} {ops : Array Oper} {a : Act} (X : World) (hops : ops = srnOps)
    (h2 : a.tmps.getD 2 undef = .slice ga gn gc) (h3 : a.tmps.getD 3 undef = .pointer (some ⟨b3, 0, none⟩)) (h6 : a.tmps.getD 6 undef = .pointer (some ⟨b6, 0, none⟩)) (h10 : a.tmps.getD 10 undef = .pointer (some ⟨b10, 0, none⟩))
    (ha : a = srnFr (fun j => a.tmps.getD j undef) a.defers (fun i => a.tmps.getD (34 + i) undef)) (hS : SR w b3 b6 b10 xv (.slice xa 0 xc) t ta tc sa sc l X.drew)
    (hfin : ∀ (x : Nat → Value) V zp za zc, SR w b3 b6 b10 xv (.slice xa 0 xc) t ta tc sa sc l V → TysAt V (.slice za (app l t).kids.length zc) (app l t).kids → Q .normal (srnFr (fun j => a.tmps.getD j undef) a.defers x) (set5 V b6 (.slice ga gn gc) (.slice (some zp) 0 0) (.int .i64 (app l t).kind) (.string (app l t).name) (.slice za (app l t).kids.length zc))) : (Code.region 8 ops true).wp Tryz.prog Q a X :=
  cast (congrArg (fun z => (Code.region 8 ops true).wp Tryz.prog Q z X) ha.symm) (srn_region (b := fun j => a.tmps.getD j undef) (d := a.defers) h2 h3 h6 h10 HC4 HC8 hops _ X hS hfin)
end Go.Proofs.YtjnlchhikdfifaaGreatDoor
/- scheme.rename: names in variables' places, in a scheme without a context. -/
namespace Go.Proofs.YtjnlchhikdfifaaGreatDoor
open Go.RowKit Go.Sort Go.Lib
attribute [local go_sem] Oper.semAt_some

set_option maxRecDepth 100000 in
set_option maxHeartbeats 8000000 in
theorem sren_any (t : T) (F G : List ByteArray) (hFG : F.length = G.length) (hl : F.length < 20) (hsz : tsize t ≤ 1000000000) (xv : Value) (xa ta fa ga : Option Addr) (xc tc fc gc : Nat) (w : World) (ht : TysAt w (.slice ta t.kids.length tc) t.kids) (hF : StrsP (.slice fa F.length fc) F w) (hG : StrsP (.slice ga G.length gc) G w) :
    Calls Tryz.prog 33 #[.agg #[xv, .slice xa 0 xc, .int .i64 t.kind, .string t.name, .slice ta t.kids.length tc], .slice fa F.length fc, .slice ga G.length gc] w fun e w' =>
      (∃ pa pc za zc, e = .returned (.agg #[.slice ga G.length gc, .slice pa 0 pc, .int .i64 (app (prs F G) t).kind, .string (app (prs F G) t).name, .slice za (app (prs F G) t).kids.length zc]) ∧ TysAt w' (.slice za (app (prs F G) t).kids.length zc) (app (prs F G) t).kids) ∧ Below w.heap.size w w' := by
  obtain ⟨k, hk⟩ : ∃ k, F.length = k := ⟨_, rfl⟩
  have hmk := make_row4 k (by omega)
  have HT := Lib.hid ht; have HF := Lib.hid hF; have HG := Lib.hid hG
  have hGk : G.length = k := by omega
  rw [hk] at HF
  rw [hGk] at HG
  have HK := Lib.hid (And.intro hk hGk)
  rw [hk, hGk]
  have hk20 : k < 20 := by omega
  clear ht hF hG hFG hk hGk
  go_enter Tryz.func33, Tryz.ntmps33
  go_wp2
  go_loopw [16] (fun vi wr => ∃ (i : Nat) (ls : List PR), i ≤ k ∧ vi = .int .i64 i ∧ Hid (ls.length = i ∧ ∀ j, j < i → (ls.getD j noP).n = F.getD j ⟨#[]⟩ ∧ (ls.getD j noP).t = .var (G.getD j ⟨#[]⟩)) ∧ Hid (RowK (w.heap.size + 1 + 1) k ls wr) ∧ Hid (Below w.heap.size w wr) ∧
    Hid (wr.heap[w.heap.size]? = some (.cells #[xv, .slice xa 0 xc, .int .i64 t.kind, .string t.name, .slice ta t.kids.length tc] 33 (0, 0)) ∧ wr.heap[w.heap.size + 1]? = some (.cells #[.slice none 0 0, .slice none 0 0, .int .i64 0, .string ⟨#[]⟩, .slice none 0 0] 33 (0, 0)))) (fun vi _ => k - (intOf vi).toNat)
  case atStart =>
    obtain ⟨n1, n2, n3⟩ := new_three w (.cells #[xv, .slice xa 0 xc, .int .i64 t.kind, .string t.name, .slice ta t.kids.length tc] 33) (.cells #[.slice none 0 0, .slice none 0 0, .int .i64 0, .string ⟨#[]⟩, .slice none 0 0] 33) (.cells (zeros4 k) 90)
    exact ⟨0, [], Nat.zero_le _, rfl, Lib.hid ⟨rfl, fun j hj => absurd hj (Nat.not_lt_zero _)⟩, Lib.hid (RowK.start _ _ _ n3), Lib.hid (below_three w _ _ _), Lib.hid ⟨n1, n2⟩⟩
  case round =>
    obtain ⟨i, ls, hi, rfl, hL, hRow, hB, hbx⟩ := hrel
    have lG := hRow.out.lt
    by_cases hlt : i < k
    · obtain ⟨gF, oF, rfl, lF, cF⟩ := HF.out.at (by have := HK.out.1; omega)
      obtain ⟨gG, oG, rfl, lG', cG⟩ := HG.out.at (by have := HK.out.2; omega)
      have xF := (hB.out.cell (p := ⟨gF, oF + i, none⟩) lF).trans (cF i (by have := HK.out.1; omega))
      have xG := (hB.out.cell (p := ⟨gG, oG + i, none⟩) lG').trans (cG i (by have := HK.out.2; omega))
      have HL := Lib.hid (fun (x : PR) (h1 : x.n = F.getD i ⟨#[]⟩) (h2 : x.t = .var (G.getD i ⟨#[]⟩)) => (show (ls ++ [x]).length = i + 1 ∧ ∀ j, j < i + 1 → ((ls ++ [x]).getD j noP).n = F.getD j ⟨#[]⟩ ∧ ((ls ++ [x]).getD j noP).t = .var (G.getD j ⟨#[]⟩) from
        ⟨by simp [hL.out.1], fun j hj => by
          by_cases e : j = i
          · subst e
            have e2 : (ls ++ [x]).getD j noP = x := by simp [List.getD, ← hL.out.1]
            rw [e2]; exact ⟨h1, h2⟩
          · have hj' : j < ls.length := by rw [hL.out.1]; omega
            have e2 : (ls ++ [x]).getD j noP = ls.getD j noP := by simp [List.getD, List.getElem?_append_left hj']
            rw [e2]; exact hL.out.2 j (by omega)⟩))
      generalize F.getD i ⟨#[]⟩ = f at xF HL
      generalize G.getD i ⟨#[]⟩ = q at xG HL
      have HV := Lib.hid (fun W => tvar_any q W)
      have hiz : (i : Int) < (k : Int) := by omega
      have hll := Lib.hid hL.out.1
      clear cF cG hmk
      simp only [tyV] at HV
      go_wp2_with (go_at_call 60; fail)
      refine (HV.out _).mono ?_
      rintro e w4 ⟨⟨u, rfl, hu⟩, hb4⟩
      obtain ⟨ua, uc, rfl⟩ := hu.shape
      have HB4 := Lib.hid hb4
      have hR4 := Lib.hid (hRow.out.below hb4)
      obtain ⟨o0, o1, o2, o3, c0, c1, c2, c3⟩ := hR4.out.cells hlt
      have f0 := hR4.out.row.free (i * 4); have f1 := hR4.out.row.free (i * 4 + 1); have f2 := hR4.out.row.free (i * 4 + 2); have f3 := hR4.out.row.free (i * 4 + 3)
      clear hb4 hu
      go_wp2
      have HP := hR4.out.push (by have := hll.out; omega) (⟨f, .var q, ua, uc⟩ : PR)
      rw [hll.out] at HP
      have HF4 := Lib.hid ((Fr.of_below (g := w.heap.size + 1 + 1) HB4.out).trans (Fr.set4 (w.heap.size + 1 + 1) i w4 (⟨f, .var q, ua, uc⟩ : PR)))
      go_roundw
      case rel => exact ⟨i + 1, ls ++ [⟨f, .var q, ua, uc⟩], by omega, by go_num, Lib.hid (HL.out _ rfl rfl), Lib.hid HP, Lib.hid (hB.out.trans (HF4.out.below (by omega) hB.out.size)), Lib.hid ⟨(HF4.out.2 _ (by omega) (by omega)).trans hbx.out.1, (HF4.out.2 _ (by omega) (by omega)).trans hbx.out.2⟩⟩
      case measure => simp [intOf]; omega
    · have hki : i = k := by omega
      subst hki
      have hll := hL.out.1
      have HCp : Hid (Copy ls (prs F G)) := Lib.hid ⟨by rw [hll, prs_len]; have h1 := HK.out.1; have h2 := HK.out.2; omega, fun j hj => by
        have hj' : j < i := by rw [← hll]; exact hj
        obtain ⟨e1, e2⟩ := prs_get F G j (by have h1 := HK.out.1; have h2 := HK.out.2; omega)
        rw [e1, e2]; exact hL.out.2 j hj'⟩
      have HV : Hid (∀ x ∈ ls, ∃ q, x.t = .var q) := Lib.hid fun x hx => by
        obtain ⟨j, hj, rfl⟩ := List.mem_iff_getElem.1 hx
        have := (hL.out.2 j (by rw [← hll]; exact hj)).2
        exact ⟨_, by simpa [List.getD, hj] using this⟩
      have HSz : Hid (SizedAll ls ∧ FitsAll ls) := Lib.hid ⟨fun x hx => by obtain ⟨q, e⟩ := HV.out x hx; rw [e]; exact (by decide : (1 : Nat) ≤ 1000000000), fun x hx => by obtain ⟨q, e⟩ := HV.out x hx; rw [e]; exact .mk _ (show (0 : Nat) < 1152921504606846976 by decide) (fun k hk => by cases hk)⟩
      have HTy : Hid (∀ W, Typ ls W) := Lib.hid fun W x hx => by obtain ⟨q, e⟩ := HV.out x hx; rw [e]; exact TysAt.nil _ _ _
      have hof := of_all (w.heap.size + 1 + 1) i ls wr hRow.out.row (HTy.out _) HSz.out.2 HSz.out.1 (by have h1 := HK.out.1; have h2 := HK.out.2; omega)
      rw [hll] at hof
      have HOf := Lib.hid hof
      have HTw := Lib.hid (HT.out.keep (KeepT.of_below hB.out))
      have HE := Lib.hid (fun (l : List PR) (hg : Made ls l) => app_congr (d := l) (d' := prs F G) (fun n => by rw [hg.same n]; unfold ty; rw [HCp.out.lk]) t)
      have HLen := Lib.hid hll
      clear hmk hL HV HF HG HT hof hll
      go_wp2_with (go_at_call 61; fail)
      refine HOf.out.mono ?_
      rintro e w4 ⟨⟨sv, l, rfl, hs, hm⟩, hb4⟩
      obtain ⟨sa, sc, rfl⟩ := hs.shape
      have hb5 := hb4.alloc hb4.size (.cells #[.slice sa l.length sc] 73)
      have hx0 := (hb5.block w.heap.size (by omega)).trans hbx.out.1
      have hx1 := (hb5.block (w.heap.size + 1) (by omega)).trans hbx.out.2
      have hS := (show SR w w.heap.size (w.heap.size + 1) w4.heap.size xv (.slice xa 0 xc) t ta tc sa sc l (w4.alloc (.cells #[.slice sa l.length sc] 73)) from ⟨⟨hx0, HTw.out.keep (KeepT.of_below hb5)⟩, hx1, BoxS.new hs, hB.out.trans (hb5.mono hB.out.size)⟩)
      have HS := Lib.hid hS; have HM := Lib.hid hm
      have hz5 : w.heap.size + 1 + 1 < w4.heap.size := Nat.lt_of_lt_of_le lG hb4.size
      clear hs hm hb4 hb5 hx0 hx1 hbx hRow HTw HTy HOf hB HCp hS
      go_wp2_with (fail)
      refine srn_here (w := w) (b3 := w.heap.size) (b6 := w.heap.size + 1) (b10 := w4.heap.size) (xv := xv) (xa := xa) (ta := ta) (sa := sa) (ga := ga) (xc := xc) (tc := tc) (sc := sc) (gn := i) (gc := gc) (t := t) (l := l)
        (fun V h => (preds0_any (.slice sa l.length sc) xa xc V).mono fun e Y hq => by
          obtain ⟨⟨a', rfl⟩, hb⟩ := hq
          exact ⟨⟨a', rfl, trivial⟩, hb⟩)
        (fun V h => (apply_any (d := l) (t := t) (s := .slice sa l.length sc) (w := V) (by have := HM.out.len; have h1 := HK.out.1; have := HLen.out; omega) (fun x hx => by obtain ⟨y, hy, _, e⟩ := HM.out.sub x hx; rw [e]; exact HSz.out.1 y hy) hsz h.2.2.1.2 h.1.2).mono fun e Y hq => by
          obtain ⟨⟨za, zc, rfl, hin⟩, hb⟩ := hq
          exact ⟨⟨za, zc, rfl, hin.tys⟩, hb⟩)
        _ (by kernel_rfl) (by kernel_rfl) (by kernel_rfl) (by kernel_rfl) (by kernel_rfl) (by kernel_rfl) (HS.out.below (below_d _)) ?_
      intro x V zp za zc hV hT
      have HE2 := HE.out l HM.out
      have hc := cells5 (set5_block hV.2.1 (.slice ga i gc) (.slice (some zp) 0 0) (.int .i64 (app l t).kind) (.string (app l t).name) (.slice za (app l t).kids.length zc))
      have hkt : KeepT V (set5 V (w.heap.size + 1) (.slice ga i gc) (.slice (some zp) 0 0) (.int .i64 (app l t).kind) (.string (app l t).name) (.slice za (app l t).kids.length zc)) := fun k cs fz hk => (set5_other _ _ _ _ _ _ _ (fun e => by subst e; rw [hV.2.1] at hk; simp at hk)).trans hk
      have HEnd := Lib.hid (And.intro (hT.keep hkt) (below_set5 hV.2.2.2 (show w.heap.size ≤ w.heap.size + 1 by omega) (.slice ga i gc) (.slice (some zp) 0 0) (.int .i64 (app l t).kind) (.string (app l t).name) (.slice za (app l t).kids.length zc)))
      generalize set5 V (w.heap.size + 1) (.slice ga i gc) (.slice (some zp) 0 0) (.int .i64 (app l t).kind) (.string (app l t).name) (.slice za (app l t).kids.length zc) = Z at *
      rw [HE2] at hc HEnd
      clear hkt hV hT
      simp only [srnFr]
      simp only [Array.getD_eq_getD_getElem?, List.getElem?_toArray, List.getElem?_cons_succ, List.getElem?_cons_zero, Option.getD_some]
      go_wp2
      exact bodyPost_ret (v := .agg #[.slice ga i gc, .slice (some zp) 0 0, .int .i64 (app (prs F G) t).kind, .string (app (prs F G) t).name, .slice za (app (prs F G) t).kids.length zc]) (by simp [results, Tryz.results33, go_sem, hc.1, hc.2.1, hc.2.2.1, hc.2.2.2.1, hc.2.2.2.2]) rfl ⟨⟨_, _, _, _, rfl, HEnd.out.1⟩, HEnd.out.2⟩
end Go.Proofs.YtjnlchhikdfifaaGreatDoor
/- scheme.Close of a type without a context; scheme.Free. -/
namespace Go.Proofs.YtjnlchhikdfifaaGreatDoor
open Go.RowKit Go.Sort Go.Lib
attribute [local go_sem] Oper.semAt_some

theorem filter_size {l : List ByteArray} {p : ByteArray → Bool} {N : Nat} (h : ∀ n ∈ l, n.size ≤ N) : ∀ n ∈ l.filter p, n.size ≤ N := fun n hn => h n (List.mem_filter.1 hn).1
set_option maxRecDepth 100000 in
set_option maxHeartbeats 4000000 in
theorem clos_any (t : T) (xs : List ByteArray) (hn : Nm t) (hs : tsize t ≤ 90000000) (hv : ∀ n ∈ fvs [] [] [t], n.size ≤ 1000000) (hvl : (fvs [] [] [t]).length ≤ 1000000) (hxs : ∀ n ∈ xs, n.size ≤ 1000000) (hxl : xs.length ≤ 1000000) (xa ta na : Option Addr) (xc tc nc : Nat) (w : World) (ht : TysAt w (.slice ta t.kids.length tc) t.kids) (hN : TextsAt w (.slice na xs.length nc) xs) :
    Calls Tryz.prog 16 #[.slice xa 0 xc, .agg #[.int .i64 t.kind, .string t.name, .slice ta t.kids.length tc], .slice na xs.length nc] w fun e w' =>
      (∃ va vc zp za zc, e = .returned (.agg #[.slice va ((fvs [] [] [t]).filter fun n => !inB xs n).length vc, .slice (some zp) 0 0, .int .i64 t.kind, .string t.name, .slice za t.kids.length zc]) ∧ TextsAt w' (.slice va ((fvs [] [] [t]).filter fun n => !inB xs n).length vc) ((fvs [] [] [t]).filter fun n => !inB xs n) ∧ TysAt w' (.slice za t.kids.length zc) t.kids) ∧ Below w.heap.size w w' := by
  have hb0 := below_two w (.cells #[.int .i64 t.kind, .string t.name, .slice ta t.kids.length tc] 31) (.cells #[.slice none 0 0, .slice none 0 0, .int .i64 0, .string ⟨#[]⟩, .slice none 0 0] 33)
  have hB0 := (BoxT.new ht).alloc (.cells #[.slice none 0 0, .slice none 0 0, .int .i64 0, .string ⟨#[]⟩, .slice none 0 0] 33)
  have hZ0 := new_two w (.cells #[.int .i64 t.kind, .string t.name, .slice ta t.kids.length tc] 31) (.cells #[.slice none 0 0, .slice none 0 0, .int .i64 0, .string ⟨#[]⟩, .slice none 0 0] 33)
  have H0 := Lib.hid (And.intro hB0 (And.intro (show Sch0 (w.heap.size + 1) _ from hZ0) (And.intro (hN.below hb0) hb0)))
  have HNm := Lib.hid hn
  have HV := Lib.hid hv; have HXS := Lib.hid hxs
  clear hb0 hB0 hZ0 ht hN hn hv hxs
  go_enter Tryz.func16, Tryz.ntmps16
  go_wp2_with (go_at_call 38; fail)
  refine (vars1_any t HNm.out hs _ _ _ _ _ H0.out.1.2).mono ?_
  rintro e w1 ⟨⟨v, rfl, hv1⟩, hb1⟩
  obtain ⟨va, vc, rfl⟩ := hv1.shape
  have H1 := Lib.hid (And.intro (H0.out.1.below hb1) (And.intro (H0.out.2.1.below hb1) (And.intro (H0.out.2.2.1.below hb1) (And.intro (H0.out.2.2.2.trans (hb1.mono H0.out.2.2.2.size)) hv1))))
  clear hb1 hv1 H0
  go_wp2_with (go_at_call 37; fail)
  refine (split_any _ _ hvl hxl HV.out HXS.out _ _ _ _ _ H1.out.2.2.2.2 H1.out.2.2.1).mono ?_
  rintro e w2 ⟨⟨vi, vo, rfl, hvi, hvo⟩, hb2⟩
  obtain ⟨ia, ic, rfl⟩ := hvi.shape
  obtain ⟨oa, oc, rfl⟩ := hvo.shape
  have hb3 := hb2.alloc hb2.size (.cells #[.slice none 0 0] 73)
  have HS := Lib.hid (show SC w w.heap.size (w.heap.size + 1) w2.heap.size t ta tc (w2.alloc (.cells #[.slice none 0 0] 73)) from ⟨H1.out.1.below hb3, H1.out.2.1.below hb3, BoxS.new (sub_nil w2 none 0 (fun _ => rfl)), H1.out.2.2.2.1.trans (hb3.mono H1.out.2.2.2.1.size)⟩)
  have HO := Lib.hid (hvo.below ((Below.refl _ w2).alloc (Nat.le_refl _) (.cells #[.slice none 0 0] 73)))
  clear hvi hvo hb2 hb3 H1 HV HXS HNm
  obtain ⟨L2, hL2⟩ : ∃ L, ((fvs [] [] [t]).filter fun n => !inB xs n) = L := ⟨_, rfl⟩
  rw [hL2] at HO
  go_wp2_with (fail)
  refine scl_here (w := w) (b4 := w.heap.size) (b6 := w.heap.size + 1) (b9 := w2.heap.size) (xa := xa) (ta := ta) (ga := oa) (xc := xc) (tc := tc) (gn := L2.length) (gc := oc) (t := t) (gxs := L2)
    (fun V h => (preds0_any (.slice none 0 0) xa xc V).mono fun e Y hq => by
      obtain ⟨⟨a', rfl⟩, hb⟩ := hq
      exact ⟨⟨a', rfl, trivial⟩, hb⟩)
    (fun V h => (apply_any (d := []) (t := t) (s := .slice none 0 0) (w := V) (by decide) (fun x hx => nomatch hx) (by omega) h.1.2.2.1.2 h.1.1.2).mono fun e Y hq => by
      obtain ⟨⟨za, zc, rfl, hin⟩, hb⟩ := hq
      rw [app_nil] at hin ⊢
      exact ⟨⟨za, zc, rfl, hin.tys⟩, hb⟩)
    _ (by kernel_rfl) (by kernel_rfl) (by kernel_rfl) (by kernel_rfl) (by kernel_rfl) (by kernel_rfl) (by kernel_rfl) ⟨HS.out.below (below_d _), HO.out.below (below_d _)⟩ ?_
  intro x V zp za zc hV hT
  have hc := cells5 (set5_block hV.1.2.1 (.slice oa L2.length oc) (.slice (some zp) 0 0) (.int .i64 t.kind) (.string t.name) (.slice za t.kids.length zc))
  have hkt : KeepT V (set5 V (w.heap.size + 1) (.slice oa L2.length oc) (.slice (some zp) 0 0) (.int .i64 t.kind) (.string t.name) (.slice za t.kids.length zc)) := fun k cs fz hk => (set5_other _ _ _ _ _ _ _ (fun e => by subst e; rw [hV.1.2.1] at hk; simp at hk)).trans hk
  have hks : TextsAt (set5 V (w.heap.size + 1) (.slice oa L2.length oc) (.slice (some zp) 0 0) (.int .i64 t.kind) (.string t.name) (.slice za t.kids.length zc)) (.slice oa L2.length oc) L2 := hV.2.keep fun k cs fz hk => (set5_other _ _ _ _ _ _ _ (fun e => by subst e; rw [hV.1.2.1] at hk; simp at hk)).trans hk
  have HEnd := Lib.hid (And.intro hks (And.intro (hT.keep hkt) (below_set5 hV.1.2.2.2 (show w.heap.size ≤ w.heap.size + 1 by omega) (.slice oa L2.length oc) (.slice (some zp) 0 0) (.int .i64 t.kind) (.string t.name) (.slice za t.kids.length zc))))
  generalize set5 V (w.heap.size + 1) (.slice oa L2.length oc) (.slice (some zp) 0 0) (.int .i64 t.kind) (.string t.name) (.slice za t.kids.length zc) = Z at *
  clear hkt hks hV hT HO HS
  simp only [sclFr]
  simp only [Array.getD_eq_getD_getElem?, List.getElem?_toArray, List.getElem?_cons_succ, List.getElem?_cons_zero, Option.getD_some]
  go_wp2
  subst hL2
  exact bodyPost_ret (v := .agg #[.slice oa ((fvs [] [] [t]).filter fun n => !inB xs n).length oc, .slice (some zp) 0 0, .int .i64 t.kind, .string t.name, .slice za t.kids.length zc]) (by simp [results, Tryz.results16, go_sem, hc.1, hc.2.1, hc.2.2.1, hc.2.2.2.1, hc.2.2.2.2]) rfl ⟨⟨_, _, _, _, _, rfl, HEnd.out.1, HEnd.out.2.1⟩, HEnd.out.2.2⟩
set_option maxRecDepth 100000 in
set_option maxHeartbeats 4000000 in
theorem free_any (t : T) (xs : List ByteArray) (hn : Nm t) (hs : tsize t ≤ 90000000) (hv : ∀ n ∈ fvs [] [] [t], n.size ≤ 1000000) (hvl : (fvs [] [] [t]).length ≤ 1000000) (hxs : ∀ n ∈ xs, n.size ≤ 1000000) (hxl : xs.length ≤ 1000000) (xa ca ta : Option Addr) (xc cc tc : Nat) (w : World) (ht : TysAt w (.slice ta t.kids.length tc) t.kids) (hx : TextsAt w (.slice xa xs.length xc) xs) :
    Calls Tryz.prog 14 #[.agg #[.slice xa xs.length xc, .slice ca 0 cc, .int .i64 t.kind, .string t.name, .slice ta t.kids.length tc]] w fun e w' =>
      (∃ va vc, e = .returned (.slice va ((fvs [] [] [t]).filter fun n => !inB xs n).length vc) ∧ TextsAt w' (.slice va ((fvs [] [] [t]).filter fun n => !inB xs n).length vc) ((fvs [] [] [t]).filter fun n => !inB xs n)) ∧ Below w.heap.size w w' := by
  have hb0 := (Below.refl w.heap.size w).alloc (Nat.le_refl _) (.cells #[.slice xa xs.length xc, .slice ca 0 cc, .int .i64 t.kind, .string t.name, .slice ta t.kids.length tc] 33)
  have HS := Lib.hid (show SF w w.heap.size xa xc xs ca cc t ta tc (w.alloc (.cells #[.slice xa xs.length xc, .slice ca 0 cc, .int .i64 t.kind, .string t.name, .slice ta t.kids.length tc] 33)) from ⟨SchB.new ht, hx.below hb0, hb0⟩)
  have HNm := Lib.hid hn
  have HV := Lib.hid hv; have HXS := Lib.hid hxs
  clear hb0 ht hx hn hv hxs
  go_enter Tryz.func14, Tryz.ntmps14
  go_wp2_with (fail)
  refine sfr_here (w := w) (b1 := w.heap.size) (xa := xa) (ca := ca) (ta := ta) (xc := xc) (cc := cc) (tc := tc) (xs := xs) (t := t)
    (fun V h => (vars1_any t HNm.out hs _ _ _ _ V h.1.2).mono fun e Y hq => by
      obtain ⟨⟨v, rfl, hv⟩, hb⟩ := hq
      obtain ⟨a', c', rfl⟩ := hv.shape
      exact ⟨⟨a', c', rfl, hv⟩, hb⟩)
    (fun V h _ _ k => (split_any _ _ hvl hxl HV.out HXS.out _ _ _ _ V k h.2.1).mono fun e Y hq => by
      obtain ⟨⟨vi, vo, rfl, hvi, hvo⟩, hb⟩ := hq
      obtain ⟨ia, ic, rfl⟩ := hvi.shape
      obtain ⟨oa, oc, rfl⟩ := hvo.shape
      exact ⟨⟨ia, ic, oa, oc, rfl, hvi, hvo⟩, hb⟩)
    _ (by kernel_rfl) (by kernel_rfl) (by kernel_rfl) (HS.out.below (below_d _)) ?_
  intro x V zi zp zo zq hV e11 e12 _ k2
  have HEnd := Lib.hid (And.intro k2 hV.2.2)
  clear k2 hV HV HXS HNm HS
  simp only [sfrFr, e11, e12]
  simp only [Array.getD_eq_getD_getElem?, List.getElem?_toArray, List.getElem?_cons_succ, List.getElem?_cons_zero, Option.getD_some]
  generalize hL2 : ((fvs [] [] [t]).filter fun n => !inB xs n) = L2 at *
  go_wp2
  go_ret
  subst hL2
  exact ⟨⟨_, _, rfl, HEnd.out.1⟩, HEnd.out.2⟩
end Go.Proofs.YtjnlchhikdfifaaGreatDoor
/- scheme: its last statement, a region of 13 operations that draws its order, by an invariant. (Made by a program.) -/
namespace Go.Proofs.YtjnlchhikdfifaaGreatDoor
open Go.RowKit Go.Sort Go.Lib
attribute [local go_sem] Oper.semAt_some

noncomputable def scnOps : Array Oper := regionIn 2 (Tryz.f12.body.getD .skip)
def scnFr (b : Nat → Value) (d : List Deferred) (x : Nat → Value) : Act := { tmps := #[b 0, b 1, b 2, x 11, x 12, b 5, b 6, b 7, b 8, x 8, x 0, x 1, x 2, x 3, x 4, x 5, x 6, x 7, x 9, x 10, b 20, b 21, b 22, b 23, b 24, b 25, b 26, b 27, b 28, b 29, b 30, b 31], defers := d }

def scnVals (b1 : Nat) (xa ca ta : Option Addr) (xc cc tc : Nat) (xs : List ByteArray) (t : T) (i : Nat) (v : Value) (V : World) : Prop :=
  match i with
  | 0 => v = .pointer (some ⟨b1, 1, none⟩)
  | 1 => v = .slice ca 0 cc
  | 2 => v = .pointer (some ⟨b1, 2, none⟩)
  | 3 => v = .agg #[.int .i64 (t).kind, .string (t).name, .slice ta (t).kids.length tc]
  | 4 => ∃ za zc, v = .slice za (fvs [] [] [t]).length zc ∧ TextsAt V (.slice za (fvs [] [] [t]).length zc) (fvs [] [] [t])
  | 5 => v = .pointer (some ⟨b1, 0, none⟩)
  | 6 => v = .slice xa xs.length xc
  | 7 => ∃ zi zp zo zq, v = .tuple #[.slice zi ((fvs [] [] [t]).filter (inB xs)).length zp, .slice zo ((fvs [] [] [t]).filter fun n => !inB xs n).length zq] ∧ (TextsAt V (.slice zi ((fvs [] [] [t]).filter (inB xs)).length zp) ((fvs [] [] [t]).filter (inB xs)) ∧ TextsAt V (.slice zo ((fvs [] [] [t]).filter fun n => !inB xs n).length zq) ((fvs [] [] [t]).filter fun n => !inB xs n))
  | 8 => ∃ zi zp zo zq, v = .tuple #[.slice zi ((fvs [] [] [t]).filter (inB xs)).length zp, .slice zo ((fvs [] [] [t]).filter fun n => !inB xs n).length zq] ∧ (TextsAt V (.slice zi ((fvs [] [] [t]).filter (inB xs)).length zp) ((fvs [] [] [t]).filter (inB xs)) ∧ TextsAt V (.slice zo ((fvs [] [] [t]).filter fun n => !inB xs n).length zq) ((fvs [] [] [t]).filter fun n => !inB xs n))
  | 9 => ∃ zi zp, v = .slice zi ((fvs [] [] [t]).filter (inB xs)).length zp ∧ TextsAt V (.slice zi ((fvs [] [] [t]).filter (inB xs)).length zp) ((fvs [] [] [t]).filter (inB xs))
  | 10 => ∃ zo zq, v = .slice zo ((fvs [] [] [t]).filter fun n => !inB xs n).length zq ∧ TextsAt V (.slice zo ((fvs [] [] [t]).filter fun n => !inB xs n).length zq) ((fvs [] [] [t]).filter fun n => !inB xs n)
  | 11 => ∃ zi zp, v = .slice zi ((fvs [] [] [t]).filter (inB xs)).length zp ∧ TextsAt V (.slice zi ((fvs [] [] [t]).filter (inB xs)).length zp) ((fvs [] [] [t]).filter (inB xs))
  | 12 => ∃ zo zq, v = .slice zo ((fvs [] [] [t]).filter fun n => !inB xs n).length zq ∧ TextsAt V (.slice zo ((fvs [] [] [t]).filter fun n => !inB xs n).length zq) ((fvs [] [] [t]).filter fun n => !inB xs n)
  | _ => True

theorem scnVals_keep {b1 : Nat} {xa ca ta : Option Addr} {xc cc tc : Nat} {xs : List ByteArray} {t : T} (i : Nat) (v : Value) (V Y : World) (h : scnVals b1 xa ca ta xc cc tc xs t i v V) (hb : Below V.heap.size V Y) : scnVals b1 xa ca ta xc cc tc xs t i v Y := by
  unfold scnVals at *
  split at h <;> first
    | exact h
    | (obtain ⟨za, zc, e, h⟩ := h; exact ⟨za, zc, e, h.below hb⟩)
    | (obtain ⟨zi, zp, zo, zq, e, h⟩ := h; exact ⟨zi, zp, zo, zq, e, ⟨h.1.below hb, h.2.below hb⟩⟩)
    | (obtain ⟨zi, zp, e, h⟩ := h; exact ⟨zi, zp, e, h.below hb⟩)
    | (obtain ⟨zo, zq, e, h⟩ := h; exact ⟨zo, zq, e, h.below hb⟩)

theorem scn_size : scnOps.size = 13 := by kernel_rfl
set_option linter.unusedSimpArgs false in
set_option maxRecDepth 100000 in
set_option maxHeartbeats 8000000 in
theorem scn_region {w : World} {b1 : Nat} {xa ca ta : Option Addr} {xc cc tc : Nat} {xs : List ByteArray} {t : T} {b : Nat → Value} {d : List Deferred}
    (h1 : b 1 = .pointer (some ⟨b1, 0, none⟩))
    (HC4 : ∀ V, SF w b1 xa xc xs ca cc t ta tc V → Calls Tryz.prog 38 #[.slice ca 0 cc, .agg #[.int .i64 (t).kind, .string (t).name, .slice ta (t).kids.length tc]] V fun e Y => (∃ za zc, e = .returned (.slice za (fvs [] [] [t]).length zc) ∧ TextsAt Y (.slice za (fvs [] [] [t]).length zc) (fvs [] [] [t])) ∧ Below V.heap.size V Y)
    (HC7 : ∀ V, SF w b1 xa xc xs ca cc t ta tc V → ∀ za4, ∀ zc4, TextsAt V (.slice za4 (fvs [] [] [t]).length zc4) (fvs [] [] [t]) → Calls Tryz.prog 37 #[.slice za4 (fvs [] [] [t]).length zc4, .slice xa xs.length xc] V fun e Y => (∃ zi zp zo zq, e = .returned (.tuple #[.slice zi ((fvs [] [] [t]).filter (inB xs)).length zp, .slice zo ((fvs [] [] [t]).filter fun n => !inB xs n).length zq]) ∧ (TextsAt Y (.slice zi ((fvs [] [] [t]).filter (inB xs)).length zp) ((fvs [] [] [t]).filter (inB xs)) ∧ TextsAt Y (.slice zo ((fvs [] [] [t]).filter fun n => !inB xs n).length zq) ((fvs [] [] [t]).filter fun n => !inB xs n))) ∧ Below V.heap.size V Y)
    {Q : Exit → Act → World → Prop} {ops : Array Oper} (hops : ops = scnOps) (x0 : Nat → Value) (X : World) (hS : SF w b1 xa xc xs ca cc t ta tc X.drew)
    (hfin : ∀ (x : Nat → Value) V zi zp zo zq, SF w b1 xa xc xs ca cc t ta tc V → x 11 = .slice zi ((fvs [] [] [t]).filter (inB xs)).length zp → x 12 = .slice zo ((fvs [] [] [t]).filter fun n => !inB xs n).length zq → TextsAt V (.slice zi ((fvs [] [] [t]).filter (inB xs)).length zp) ((fvs [] [] [t]).filter (inB xs)) → TextsAt V (.slice zo ((fvs [] [] [t]).filter fun n => !inB xs n).length zq) ((fvs [] [] [t]).filter fun n => !inB xs n) → Q .normal (scnFr b d x) V) : (Code.region 2 ops true).wp Tryz.prog Q (scnFr b d x0) X := by
  have HC := Lib.hid (And.intro HC4 HC7)
  clear HC4 HC7
  refine region_inv (scnFr b d) (fun V => SF w b1 xa xc xs ca cc t ta tc V) (fun V Y => Below V.heap.size V Y) (scnVals b1 xa ca ta xc cc tc xs t) x0 (by kernel_rfl) rfl hS (fun V Y h hb => h.below hb) (fun i v V Y _ h hb => scnVals_keep i v V Y h hb) ?_ (fun x V hV h => by obtain ⟨zi, zp, e1, k1⟩ := h 11 (by rw [hops, scn_size]; decide); obtain ⟨zo, zq, e2, k2⟩ := h 12 (by rw [hops, scn_size]; decide); exact hfin x V zi zp zo zq hV e1 e2 k1 k2)
  clear hfin hS
  obtain ⟨f, hf⟩ : ∃ qq, StepAt Tryz.prog (scnFr b d) (fun V => SF w b1 xa xc xs ca cc t ta tc V) (fun V Y => Below V.heap.size V Y) (scnVals b1 xa ca ta xc cc tc xs t) ops Q = qq := ⟨_, rfl⟩
  rw [hf, hops]
  simp only [scnOps, Tryz.f12, regionIn, Option.getD_some, Nat.reduceBEq, Bool.false_eq_true, if_false, if_true, beq_self_eq_true, Array.append_empty, Array.empty_append, List.append_eq, List.cons_append, List.nil_append, AllAt, Nat.reduceAdd, Nat.zero_add]
  -- 0: slot 10 := Op.fieldAddr 66 t1 1
  refine And.intro ?_ ?_
  · rw [← hf]; clear hf
    refine ⟨by decide +kernel, fun x v => by kernel_rfl, fun x V hV hdep K hK => ?_⟩
    clear hdep
    refine run_bare (by kernel_rfl) ?_
    unfold scnFr
    go_simp
    refine kfit (hK _ _ (Below.refl _ V) rfl) ?_
    first | (simp only [scnFr, Act.put, List.setIfInBounds_toArray, List.set_cons_zero, List.set_cons_succ, h1]; done) | (simp only [scnFr, Act.put, List.setIfInBounds_toArray, List.set_cons_zero, List.set_cons_succ, h1]; rfl)
  -- 1: slot 11 := Op.load 55 t10
  refine And.intro ?_ ?_
  · rw [← hf]; clear hf
    refine ⟨by decide +kernel, fun x v => by kernel_rfl, fun x V hV hdep K hK => ?_⟩
    have e0 : x 0 = .pointer (some ⟨b1, 1, none⟩) := depOf hdep 0 (by decide +kernel)
    clear hdep
    refine run_bare (by kernel_rfl) ?_
    unfold scnFr
    obtain ⟨y0, y1, y2, y3, y4⟩ := cells5 hV.1.1
    go_simp
    refine kfit (hK _ _ (Below.refl _ V) rfl) ?_
    first | (simp only [scnFr, Act.put, List.setIfInBounds_toArray, List.set_cons_zero, List.set_cons_succ, h1, e0]; done) | (simp only [scnFr, Act.put, List.setIfInBounds_toArray, List.set_cons_zero, List.set_cons_succ, h1, e0]; rfl)
  -- 2: slot 12 := Op.fieldAddr 66 t1 2
  refine And.intro ?_ ?_
  · rw [← hf]; clear hf
    refine ⟨by decide +kernel, fun x v => by kernel_rfl, fun x V hV hdep K hK => ?_⟩
    clear hdep
    refine run_bare (by kernel_rfl) ?_
    unfold scnFr
    go_simp
    refine kfit (hK _ _ (Below.refl _ V) rfl) ?_
    first | (simp only [scnFr, Act.put, List.setIfInBounds_toArray, List.set_cons_zero, List.set_cons_succ, h1]; done) | (simp only [scnFr, Act.put, List.setIfInBounds_toArray, List.set_cons_zero, List.set_cons_succ, h1]; rfl)
  -- 3: slot 13 := Op.load 29 t12
  refine And.intro ?_ ?_
  · rw [← hf]; clear hf
    refine ⟨by decide +kernel, fun x v => by kernel_rfl, fun x V hV hdep K hK => ?_⟩
    have e2 : x 2 = .pointer (some ⟨b1, 2, none⟩) := depOf hdep 2 (by decide +kernel)
    clear hdep
    refine run_bare (by kernel_rfl) ?_
    unfold scnFr
    obtain ⟨y0, y1, y2, y3, y4⟩ := cells5 hV.1.1
    go_simp
    refine kfit (hK _ _ (Below.refl _ V) rfl) ?_
    first | (simp only [scnFr, Act.put, List.setIfInBounds_toArray, List.set_cons_zero, List.set_cons_succ, h1, e2]; done) | (simp only [scnFr, Act.put, List.setIfInBounds_toArray, List.set_cons_zero, List.set_cons_succ, h1, e2]; rfl)
  -- 4: slot 14 := Op.call { value (Operand.func 64), args := #[t11, t13], argT
  refine And.intro ?_ ?_
  · rw [← hf]; clear hf
    refine ⟨by decide +kernel, fun x v => by kernel_rfl, fun x V hV hdep K hK => ?_⟩
    have e1 : x 1 = .slice ca 0 cc := depOf hdep 1 (by decide +kernel)
    have e3 : x 3 = .agg #[.int .i64 (t).kind, .string (t).name, .slice ta (t).kids.length tc] := depOf hdep 3 (by decide +kernel)
    clear hdep
    refine run_bare (by kernel_rfl) ?_
    unfold scnFr
    obtain ⟨HC4, HC7⟩ := HC.out
    clear HC7
    have H := HC4 V hV
    replace H := Lib.hid H; clear HC4
    go_simp
    go_at_call 38
    refine H.out.mono ?_
    rintro e Y ⟨⟨za, zc, rfl, hq⟩, hb⟩; refine kfit (hK _ _ hb ⟨za, zc, rfl, hq⟩) ?_
    first | (simp only [scnFr, Act.put, List.setIfInBounds_toArray, List.set_cons_zero, List.set_cons_succ, h1, e1, e3]; done) | (simp only [scnFr, Act.put, List.setIfInBounds_toArray, List.set_cons_zero, List.set_cons_succ, h1, e1, e3]; rfl)
  -- 5: slot 15 := Op.fieldAddr 66 t1 0
  refine And.intro ?_ ?_
  · rw [← hf]; clear hf
    refine ⟨by decide +kernel, fun x v => by kernel_rfl, fun x V hV hdep K hK => ?_⟩
    clear hdep
    refine run_bare (by kernel_rfl) ?_
    unfold scnFr
    go_simp
    refine kfit (hK _ _ (Below.refl _ V) rfl) ?_
    first | (simp only [scnFr, Act.put, List.setIfInBounds_toArray, List.set_cons_zero, List.set_cons_succ, h1]; done) | (simp only [scnFr, Act.put, List.setIfInBounds_toArray, List.set_cons_zero, List.set_cons_succ, h1]; rfl)
  -- 6: slot 16 := Op.load 64 t15
  refine And.intro ?_ ?_
  · rw [← hf]; clear hf
    refine ⟨by decide +kernel, fun x v => by kernel_rfl, fun x V hV hdep K hK => ?_⟩
    have e5 : x 5 = .pointer (some ⟨b1, 0, none⟩) := depOf hdep 5 (by decide +kernel)
    clear hdep
    refine run_bare (by kernel_rfl) ?_
    unfold scnFr
    obtain ⟨y0, y1, y2, y3, y4⟩ := cells5 hV.1.1
    go_simp
    refine kfit (hK _ _ (Below.refl _ V) rfl) ?_
    first | (simp only [scnFr, Act.put, List.setIfInBounds_toArray, List.set_cons_zero, List.set_cons_succ, h1, e5]; done) | (simp only [scnFr, Act.put, List.setIfInBounds_toArray, List.set_cons_zero, List.set_cons_succ, h1, e5]; rfl)
  -- 7: slot 17 := Op.call { value (Operand.func 63), args := #[t14, t16], argT
  refine And.intro ?_ ?_
  · rw [← hf]; clear hf
    refine ⟨by decide +kernel, fun x v => by kernel_rfl, fun x V hV hdep K hK => ?_⟩
    obtain ⟨za4, zc4, e4, d4⟩ : ∃ za4 zc4, x 4 = .slice za4 (fvs [] [] [t]).length zc4 ∧ TextsAt V (.slice za4 (fvs [] [] [t]).length zc4) (fvs [] [] [t]) := depOf hdep 4 (by decide +kernel)
    have e6 : x 6 = .slice xa xs.length xc := depOf hdep 6 (by decide +kernel)
    clear hdep
    refine run_bare (by kernel_rfl) ?_
    unfold scnFr
    obtain ⟨HC4, HC7⟩ := HC.out
    clear HC4
    have H := HC7 V hV _ _ d4
    replace H := Lib.hid H; clear HC7
    go_simp
    go_at_call 37
    refine H.out.mono ?_
    rintro e Y ⟨⟨zi, zp, zo, zq, rfl, hq⟩, hb⟩; refine kfit (hK _ _ hb ⟨zi, zp, zo, zq, rfl, hq⟩) ?_
    first | (simp only [scnFr, Act.put, List.setIfInBounds_toArray, List.set_cons_zero, List.set_cons_succ, h1, e4, e6]; done) | (simp only [scnFr, Act.put, List.setIfInBounds_toArray, List.set_cons_zero, List.set_cons_succ, h1, e4, e6]; rfl)
  -- 8: slot 9 := Op.move t17
  refine And.intro ?_ ?_
  · rw [← hf]; clear hf
    refine ⟨by decide +kernel, fun x v => by kernel_rfl, fun x V hV hdep K hK => ?_⟩
    obtain ⟨zi7, zp7, zo7, zq7, e7, d7⟩ : ∃ zi7 zp7 zo7 zq7, x 7 = .tuple #[.slice zi7 ((fvs [] [] [t]).filter (inB xs)).length zp7, .slice zo7 ((fvs [] [] [t]).filter fun n => !inB xs n).length zq7] ∧ (TextsAt V (.slice zi7 ((fvs [] [] [t]).filter (inB xs)).length zp7) ((fvs [] [] [t]).filter (inB xs)) ∧ TextsAt V (.slice zo7 ((fvs [] [] [t]).filter fun n => !inB xs n).length zq7) ((fvs [] [] [t]).filter fun n => !inB xs n)) := depOf hdep 7 (by decide +kernel)
    clear hdep
    refine run_bare (by kernel_rfl) ?_
    unfold scnFr
    go_simp
    refine kfit (hK _ _ (Below.refl _ V) ⟨_, _, _, _, rfl, d7⟩) ?_
    first | (simp only [scnFr, Act.put, List.setIfInBounds_toArray, List.set_cons_zero, List.set_cons_succ, h1, e7]; done) | (simp only [scnFr, Act.put, List.setIfInBounds_toArray, List.set_cons_zero, List.set_cons_succ, h1, e7]; rfl)
  -- 9: slot 18 := Op.extract t9 0
  refine And.intro ?_ ?_
  · rw [← hf]; clear hf
    refine ⟨by decide +kernel, fun x v => by kernel_rfl, fun x V hV hdep K hK => ?_⟩
    obtain ⟨zi8, zp8, zo8, zq8, e8, d8⟩ : ∃ zi8 zp8 zo8 zq8, x 8 = .tuple #[.slice zi8 ((fvs [] [] [t]).filter (inB xs)).length zp8, .slice zo8 ((fvs [] [] [t]).filter fun n => !inB xs n).length zq8] ∧ (TextsAt V (.slice zi8 ((fvs [] [] [t]).filter (inB xs)).length zp8) ((fvs [] [] [t]).filter (inB xs)) ∧ TextsAt V (.slice zo8 ((fvs [] [] [t]).filter fun n => !inB xs n).length zq8) ((fvs [] [] [t]).filter fun n => !inB xs n)) := depOf hdep 8 (by decide +kernel)
    clear hdep
    refine run_bare (by kernel_rfl) ?_
    unfold scnFr
    go_simp
    refine kfit (hK _ _ (Below.refl _ V) ⟨_, _, rfl, d8.1⟩) ?_
    first | (simp only [scnFr, Act.put, List.setIfInBounds_toArray, List.set_cons_zero, List.set_cons_succ, h1, e8]; done) | (simp only [scnFr, Act.put, List.setIfInBounds_toArray, List.set_cons_zero, List.set_cons_succ, h1, e8]; rfl)
  -- 10: slot 19 := Op.extract t9 1
  refine And.intro ?_ ?_
  · rw [← hf]; clear hf
    refine ⟨by decide +kernel, fun x v => by kernel_rfl, fun x V hV hdep K hK => ?_⟩
    obtain ⟨zi8, zp8, zo8, zq8, e8, d8⟩ : ∃ zi8 zp8 zo8 zq8, x 8 = .tuple #[.slice zi8 ((fvs [] [] [t]).filter (inB xs)).length zp8, .slice zo8 ((fvs [] [] [t]).filter fun n => !inB xs n).length zq8] ∧ (TextsAt V (.slice zi8 ((fvs [] [] [t]).filter (inB xs)).length zp8) ((fvs [] [] [t]).filter (inB xs)) ∧ TextsAt V (.slice zo8 ((fvs [] [] [t]).filter fun n => !inB xs n).length zq8) ((fvs [] [] [t]).filter fun n => !inB xs n)) := depOf hdep 8 (by decide +kernel)
    clear hdep
    refine run_bare (by kernel_rfl) ?_
    unfold scnFr
    go_simp
    refine kfit (hK _ _ (Below.refl _ V) ⟨_, _, rfl, d8.2⟩) ?_
    first | (simp only [scnFr, Act.put, List.setIfInBounds_toArray, List.set_cons_zero, List.set_cons_succ, h1, e8]; done) | (simp only [scnFr, Act.put, List.setIfInBounds_toArray, List.set_cons_zero, List.set_cons_succ, h1, e8]; rfl)
  -- 11: slot 3 := Op.assign t18
  refine And.intro ?_ ?_
  · rw [← hf]; clear hf
    refine ⟨by decide +kernel, fun x v => by kernel_rfl, fun x V hV hdep K hK => ?_⟩
    obtain ⟨zi9, zp9, e9, d9⟩ : ∃ zi9 zp9, x 9 = .slice zi9 ((fvs [] [] [t]).filter (inB xs)).length zp9 ∧ TextsAt V (.slice zi9 ((fvs [] [] [t]).filter (inB xs)).length zp9) ((fvs [] [] [t]).filter (inB xs)) := depOf hdep 9 (by decide +kernel)
    clear hdep
    refine run_bare (by kernel_rfl) ?_
    unfold scnFr
    go_simp
    refine kfit (hK _ _ (Below.refl _ V) ⟨_, _, rfl, d9⟩) ?_
    first | (simp only [scnFr, Act.put, List.setIfInBounds_toArray, List.set_cons_zero, List.set_cons_succ, h1, e9]; done) | (simp only [scnFr, Act.put, List.setIfInBounds_toArray, List.set_cons_zero, List.set_cons_succ, h1, e9]; rfl)
  -- 12: slot 4 := Op.assign t19
  refine And.intro ?_ ?_
  · rw [← hf]; clear hf
    refine ⟨by decide +kernel, fun x v => by kernel_rfl, fun x V hV hdep K hK => ?_⟩
    obtain ⟨zo10, zq10, e10, d10⟩ : ∃ zo10 zq10, x 10 = .slice zo10 ((fvs [] [] [t]).filter fun n => !inB xs n).length zq10 ∧ TextsAt V (.slice zo10 ((fvs [] [] [t]).filter fun n => !inB xs n).length zq10) ((fvs [] [] [t]).filter fun n => !inB xs n) := depOf hdep 10 (by decide +kernel)
    clear hdep
    refine run_bare (by kernel_rfl) ?_
    unfold scnFr
    go_simp
    refine kfit (hK _ _ (Below.refl _ V) ⟨_, _, rfl, d10⟩) ?_
    first | (simp only [scnFr, Act.put, List.setIfInBounds_toArray, List.set_cons_zero, List.set_cons_succ, h1, e10]; done) | (simp only [scnFr, Act.put, List.setIfInBounds_toArray, List.set_cons_zero, List.set_cons_succ, h1, e10]; rfl)
  exact trivial
theorem scn_here {w : World} {b1 : Nat} {xa ca ta : Option Addr} {xc cc tc : Nat} {xs : List ByteArray} {t : T}
    (HC4 : ∀ V, SF w b1 xa xc xs ca cc t ta tc V → Calls Tryz.prog 38 #[.slice ca 0 cc, .agg #[.int .i64 (t).kind, .string (t).name, .slice ta (t).kids.length tc]] V fun e Y => (∃ za zc, e = .returned (.slice za (fvs [] [] [t]).length zc) ∧ TextsAt Y (.slice za (fvs [] [] [t]).length zc) (fvs [] [] [t])) ∧ Below V.heap.size V Y)
    (HC7 : ∀ V, SF w b1 xa xc xs ca cc t ta tc V → ∀ za4, ∀ zc4, TextsAt V (.slice za4 (fvs [] [] [t]).length zc4) (fvs [] [] [t]) → Calls Tryz.prog 37 #[.slice za4 (fvs [] [] [t]).length zc4, .slice xa xs.length xc] V fun e Y => (∃ zi zp zo zq, e = .returned (.tuple #[.slice zi ((fvs [] [] [t]).filter (inB xs)).length zp, .slice zo ((fvs [] [] [t]).filter fun n => !inB xs n).length zq]) ∧ (TextsAt Y (.slice zi ((fvs [] [] [t]).filter (inB xs)).length zp) ((fvs [] [] [t]).filter (inB xs)) ∧ TextsAt Y (.slice zo ((fvs [] [] [t]).filter fun n => !inB xs n).length zq) ((fvs [] [] [t]).filter fun n => !inB xs n))) ∧ Below V.heap.size V Y)
    {Q : Exit → Act → World → Prop} {ops : Array Oper} {a : Act} (X : World) (hops : ops = scnOps)
    (h1 : a.tmps.getD 1 undef = .pointer (some ⟨b1, 0, none⟩))
    (ha : a = scnFr (fun j => a.tmps.getD j undef) a.defers (fun i => a.tmps.getD (if i = 8 then 9 else if i = 11 then 3 else if i = 12 then 4 else if i < 8 then 10 + i else 9 + i) undef)) (hS : SF w b1 xa xc xs ca cc t ta tc X.drew)
    (hfin : ∀ (x : Nat → Value) V zi zp zo zq, SF w b1 xa xc xs ca cc t ta tc V → x 11 = .slice zi ((fvs [] [] [t]).filter (inB xs)).length zp → x 12 = .slice zo ((fvs [] [] [t]).filter fun n => !inB xs n).length zq → TextsAt V (.slice zi ((fvs [] [] [t]).filter (inB xs)).length zp) ((fvs [] [] [t]).filter (inB xs)) → TextsAt V (.slice zo ((fvs [] [] [t]).filter fun n => !inB xs n).length zq) ((fvs [] [] [t]).filter fun n => !inB xs n) → Q .normal (scnFr (fun j => a.tmps.getD j undef) a.defers x) V) : (Code.region 2 ops true).wp Tryz.prog Q a X :=
  cast (congrArg (fun z => (Code.region 2 ops true).wp Tryz.prog Q z X) ha.symm) (scn_region (b := fun j => a.tmps.getD j undef) (d := a.defers) h1 HC4 HC7 hops _ X hS hfin)
end Go.Proofs.YtjnlchhikdfifaaGreatDoor
/- scheme: its last statement, a region of 8 operations that draws its order, by an invariant. (Made by a program.) -/
namespace Go.Proofs.YtjnlchhikdfifaaGreatDoor
open Go.RowKit Go.Sort Go.Lib
attribute [local go_sem] Oper.semAt_some

noncomputable def schOps : Array Oper := regionIn 3 (Tryz.f12.body.getD .skip)
def schFr (b : Nat → Value) (d : List Deferred) (x : Nat → Value) : Act := { tmps := #[b 0, b 1, b 2, b 3, b 4, b 5, b 6, b 7, b 8, b 9, b 10, b 11, b 12, b 13, b 14, b 15, b 16, b 17, b 18, b 19, x 0, x 1, x 2, x 3, x 4, x 5, x 6, b 27, b 28, b 29, b 30, b 31], defers := d }

def schVals (xa ca ta ba oa : Option Addr) (xn xc cc tc bc oc : Nat) (bs os : List ByteArray) (t : T) (i : Nat) (v : Value) (V : World) : Prop :=
  match i with
  | 0 => v = .agg #[.slice xa xn xc, .slice ca 0 cc, .int .i64 t.kind, .string t.name, .slice ta t.kids.length tc]
  | 1 => v = .slice ba bs.length bc
  | 2 => v = .slice ba bs.length bc
  | 3 => v = .int .i64 (bs.length : Int)
  | 4 => v = .slice oa os.length oc
  | 5 => ∃ (zn : List ByteArray) (za : Option Addr) (zc : Nat), v = .slice za zn.length zc ∧ (TextsAt V (.slice za zn.length zc) zn ∧ NewN bs.length os zn)
  | 6 => ∃ (zn : List ByteArray) (za : Option Addr) (zc : Nat) (zp : Option Addr) (zq : Nat) (zt : Option Addr) (zu : Nat), v = .agg #[.slice za zn.length zc, .slice zp 0 zq, .int .i64 (app (prs bs zn) t).kind, .string (app (prs bs zn) t).name, .slice zt (app (prs bs zn) t).kids.length zu] ∧ ((TextsAt V (.slice za zn.length zc) zn ∧ NewN bs.length os zn) ∧ TysAt V (.slice zt (app (prs bs zn) t).kids.length zu) (app (prs bs zn) t).kids)
  | _ => True

theorem schVals_keep {xa ca ta ba oa : Option Addr} {xn xc cc tc bc oc : Nat} {bs os : List ByteArray} {t : T} (i : Nat) (v : Value) (V Y : World) (h : schVals xa ca ta ba oa xn xc cc tc bc oc bs os t i v V) (hb : Below V.heap.size V Y) : schVals xa ca ta ba oa xn xc cc tc bc oc bs os t i v Y := by
  unfold schVals at *
  split at h <;> first
    | exact h
    | (obtain ⟨zn, za, zc, e, h⟩ := h; exact ⟨zn, za, zc, e, ⟨h.1.below hb, h.2⟩⟩)
    | (obtain ⟨zn, za, zc, zp, zq, zt, zu, e, h⟩ := h; exact ⟨zn, za, zc, zp, zq, zt, zu, e, ⟨⟨h.1.1.below hb, h.1.2⟩, h.2.keep (KeepT.of_below hb)⟩⟩)

theorem sch_size : schOps.size = 8 := by kernel_rfl
theorem sch_cov : covered schOps 7 = true := by kernel_rfl
set_option linter.unusedSimpArgs false in
set_option maxRecDepth 100000 in
set_option maxHeartbeats 8000000 in
theorem sch_region {w : World} {b1 b2 : Nat} {xa ca ta ba oa : Option Addr} {xn xc cc tc bc oc : Nat} {bs os : List ByteArray} {t : T} {b : Nat → Value} {d : List Deferred}
    (h1 : b 1 = .pointer (some ⟨b1, 0, none⟩)) (h3 : b 3 = .slice ba bs.length bc) (h4 : b 4 = .slice oa os.length oc)
    (HC5 : ∀ V, SN w b1 b2 xa xn xc ca cc t ta tc ba bc oa oc bs os V → Calls Tryz.prog 39 #[.int .i64 (bs.length : Int), .slice oa os.length oc] V fun e Y => (∃ (zn : List ByteArray) (za : Option Addr) (zc : Nat), e = .returned (.slice za zn.length zc) ∧ (TextsAt Y (.slice za zn.length zc) zn ∧ NewN bs.length os zn)) ∧ Below V.heap.size V Y)
    (HC6 : ∀ V, SN w b1 b2 xa xn xc ca cc t ta tc ba bc oa oc bs os V → ∀ (zn5 : List ByteArray), ∀ za5, ∀ zc5, (TextsAt V (.slice za5 zn5.length zc5) zn5 ∧ NewN bs.length os zn5) → Calls Tryz.prog 33 #[.agg #[.slice xa xn xc, .slice ca 0 cc, .int .i64 t.kind, .string t.name, .slice ta t.kids.length tc], .slice ba bs.length bc, .slice za5 zn5.length zc5] V fun e Y => (∃ (zn : List ByteArray) (za : Option Addr) (zc : Nat) (zp : Option Addr) (zq : Nat) (zt : Option Addr) (zu : Nat), e = .returned (.agg #[.slice za zn.length zc, .slice zp 0 zq, .int .i64 (app (prs bs zn) t).kind, .string (app (prs bs zn) t).name, .slice zt (app (prs bs zn) t).kids.length zu]) ∧ ((TextsAt Y (.slice za zn.length zc) zn ∧ NewN bs.length os zn) ∧ TysAt Y (.slice zt (app (prs bs zn) t).kids.length zu) (app (prs bs zn) t).kids)) ∧ Below V.heap.size V Y)
    {Q : Exit → Act → World → Prop} {ops : Array Oper} (hops : ops = schOps) (x0 : Nat → Value) (X : World) (hS : SN w b1 b2 xa xn xc ca cc t ta tc ba bc oa oc bs os X.drew)
    (hfin : ∀ (x : Nat → Value) V (zn : List ByteArray) za zc zp zq zt zu, SN w b1 b2 xa xn xc ca cc t ta tc ba bc oa oc bs os V → ((TextsAt V (.slice za zn.length zc) zn ∧ NewN bs.length os zn) ∧ TysAt V (.slice zt (app (prs bs zn) t).kids.length zu) (app (prs bs zn) t).kids) → Q .normal (schFr b d x) (set5 V b1 (.slice za zn.length zc) (.slice zp 0 zq) (.int .i64 (app (prs bs zn) t).kind) (.string (app (prs bs zn) t).name) (.slice zt (app (prs bs zn) t).kids.length zu))) : (Code.region 3 ops true).wp Tryz.prog Q (schFr b d x0) X := by
  have HC := Lib.hid (And.intro HC5 HC6)
  clear HC5 HC6
  have hszo : ops.size = 7 + 1 := by rw [hops]; exact sch_size
  have hcovo : covered ops 7 = true := by rw [hops]; exact sch_cov
  refine region_last (schFr b d) (fun V => SN w b1 b2 xa xn xc ca cc t ta tc ba bc oa oc bs os V) (fun V Y => Below V.heap.size V Y) (schVals xa ca ta ba oa xn xc cc tc bc oc bs os t) x0 7 (by kernel_rfl) rfl hS hszo hcovo (fun V Y h hb => h.below hb) (fun i v V Y _ h hb => schVals_keep i v V Y h hb) ?_
  have HFIN := Lib.hid hfin
  clear hfin hS hszo hcovo
  obtain ⟨gl, hgl⟩ : ∃ qq, LastAt Tryz.prog (schFr b d) (fun V => SN w b1 b2 xa xn xc ca cc t ta tc ba bc oa oc bs os V) (schVals xa ca ta ba oa xn xc cc tc bc oc bs os t) ops Q 7 = qq := ⟨_, rfl⟩
  rw [hgl]
  obtain ⟨f, hf⟩ : ∃ qq, StepAt Tryz.prog (schFr b d) (fun V => SN w b1 b2 xa xn xc ca cc t ta tc ba bc oa oc bs os V) (fun V Y => Below V.heap.size V Y) (schVals xa ca ta ba oa xn xc cc tc bc oc bs os t) ops Q = qq := ⟨_, rfl⟩
  rw [hf, hops]
  simp only [schOps, Tryz.f12, regionIn, Option.getD_some, Nat.reduceBEq, Bool.false_eq_true, if_false, if_true, beq_self_eq_true, Array.append_empty, Array.empty_append, List.append_eq, List.cons_append, List.nil_append, AllBut, Nat.reduceAdd, Nat.zero_add]
  -- 0: slot 20 := Op.load 66 t1
  refine And.intro ?_ ?_
  · clear HFIN hgl
    rw [← hf]; clear hf
    refine ⟨by decide +kernel, fun x v => by kernel_rfl, fun x V hV hdep K hK => ?_⟩
    clear hdep
    refine run_bare (by kernel_rfl) ?_
    unfold schFr
    obtain ⟨y0, y1, y2, y3, y4⟩ := cells5 hV.1.1
    go_simp
    refine kfit (hK _ _ (Below.refl _ V) rfl) ?_
    first | (simp only [schFr, Act.put, List.setIfInBounds_toArray, List.set_cons_zero, List.set_cons_succ, h1, h3, h4]; done) | (simp only [schFr, Act.put, List.setIfInBounds_toArray, List.set_cons_zero, List.set_cons_succ, h1, h3, h4]; rfl)
  -- 1: slot 21 := Op.move t3
  refine And.intro ?_ ?_
  · clear HFIN hgl
    rw [← hf]; clear hf
    refine ⟨by decide +kernel, fun x v => by kernel_rfl, fun x V hV hdep K hK => ?_⟩
    clear hdep
    refine run_bare (by kernel_rfl) ?_
    unfold schFr
    go_simp
    refine kfit (hK _ _ (Below.refl _ V) rfl) ?_
    first | (simp only [schFr, Act.put, List.setIfInBounds_toArray, List.set_cons_zero, List.set_cons_succ, h1, h3, h4]; done) | (simp only [schFr, Act.put, List.setIfInBounds_toArray, List.set_cons_zero, List.set_cons_succ, h1, h3, h4]; rfl)
  -- 2: slot 22 := Op.move t3
  refine And.intro ?_ ?_
  · clear HFIN hgl
    rw [← hf]; clear hf
    refine ⟨by decide +kernel, fun x v => by kernel_rfl, fun x V hV hdep K hK => ?_⟩
    clear hdep
    refine run_bare (by kernel_rfl) ?_
    unfold schFr
    go_simp
    refine kfit (hK _ _ (Below.refl _ V) rfl) ?_
    first | (simp only [schFr, Act.put, List.setIfInBounds_toArray, List.set_cons_zero, List.set_cons_succ, h1, h3, h4]; done) | (simp only [schFr, Act.put, List.setIfInBounds_toArray, List.set_cons_zero, List.set_cons_succ, h1, h3, h4]; rfl)
  -- 3: slot 23 := Op.call { builtin len, args := #[t22], argTypes := #[64] }
  refine And.intro ?_ ?_
  · clear HFIN hgl
    rw [← hf]; clear hf
    refine ⟨by decide +kernel, fun x v => by kernel_rfl, fun x V hV hdep K hK => ?_⟩
    have e2 : x 2 = .slice ba bs.length bc := depOf hdep 2 (by decide +kernel)
    clear hdep
    refine run_bare (by kernel_rfl) ?_
    unfold schFr
    go_simp
    refine kfit (hK _ _ (Below.refl _ V) rfl) ?_
    first | (simp only [schFr, Act.put, List.setIfInBounds_toArray, List.set_cons_zero, List.set_cons_succ, h1, h3, h4, e2]; done) | (simp only [schFr, Act.put, List.setIfInBounds_toArray, List.set_cons_zero, List.set_cons_succ, h1, h3, h4, e2]; rfl)
  -- 4: slot 24 := Op.move t4
  refine And.intro ?_ ?_
  · clear HFIN hgl
    rw [← hf]; clear hf
    refine ⟨by decide +kernel, fun x v => by kernel_rfl, fun x V hV hdep K hK => ?_⟩
    clear hdep
    refine run_bare (by kernel_rfl) ?_
    unfold schFr
    go_simp
    refine kfit (hK _ _ (Below.refl _ V) rfl) ?_
    first | (simp only [schFr, Act.put, List.setIfInBounds_toArray, List.set_cons_zero, List.set_cons_succ, h1, h3, h4]; done) | (simp only [schFr, Act.put, List.setIfInBounds_toArray, List.set_cons_zero, List.set_cons_succ, h1, h3, h4]; rfl)
  -- 5: slot 25 := Op.call { value (Operand.func 65), args := #[t23, t24], argT
  refine And.intro ?_ ?_
  · clear HFIN hgl
    rw [← hf]; clear hf
    refine ⟨by decide +kernel, fun x v => by kernel_rfl, fun x V hV hdep K hK => ?_⟩
    have e3 : x 3 = .int .i64 (bs.length : Int) := depOf hdep 3 (by decide +kernel)
    have e4 : x 4 = .slice oa os.length oc := depOf hdep 4 (by decide +kernel)
    clear hdep
    refine run_bare (by kernel_rfl) ?_
    unfold schFr
    obtain ⟨HC5, HC6⟩ := HC.out
    clear HC6
    have H := HC5 V hV
    replace H := Lib.hid H; clear HC5
    go_simp
    go_at_call 39
    refine H.out.mono ?_
    rintro e Y ⟨⟨zn, za, zc, rfl, hq⟩, hb⟩; refine kfit (hK _ _ hb ⟨zn, za, zc, rfl, hq⟩) ?_
    first | (simp only [schFr, Act.put, List.setIfInBounds_toArray, List.set_cons_zero, List.set_cons_succ, h1, h3, h4, e3, e4]; done) | (simp only [schFr, Act.put, List.setIfInBounds_toArray, List.set_cons_zero, List.set_cons_succ, h1, h3, h4, e3, e4]; rfl)
  -- 6: slot 26 := Op.call { value (Operand.func 61), args := #[t20, t21, t25],
  refine And.intro ?_ ?_
  · clear HFIN hgl
    rw [← hf]; clear hf
    refine ⟨by decide +kernel, fun x v => by kernel_rfl, fun x V hV hdep K hK => ?_⟩
    have e0 : x 0 = .agg #[.slice xa xn xc, .slice ca 0 cc, .int .i64 t.kind, .string t.name, .slice ta t.kids.length tc] := depOf hdep 0 (by decide +kernel)
    have e1 : x 1 = .slice ba bs.length bc := depOf hdep 1 (by decide +kernel)
    obtain ⟨zn5, za5, zc5, e5, d5⟩ : ∃ (zn5 : List ByteArray) (za5 : Option Addr) (zc5 : Nat), x 5 = .slice za5 zn5.length zc5 ∧ (TextsAt V (.slice za5 zn5.length zc5) zn5 ∧ NewN bs.length os zn5) := depOf hdep 5 (by decide +kernel)
    clear hdep
    refine run_bare (by kernel_rfl) ?_
    unfold schFr
    obtain ⟨HC5, HC6⟩ := HC.out
    clear HC5
    have H := HC6 V hV _ _ _ d5
    replace H := Lib.hid H; clear HC6
    go_simp
    go_at_call 33
    refine H.out.mono ?_
    rintro e Y ⟨⟨zn, za, zc, zp, zq, zt, zu, rfl, hq⟩, hb⟩; refine kfit (hK _ _ hb ⟨zn, za, zc, zp, zq, zt, zu, rfl, hq⟩) ?_
    first | (simp only [schFr, Act.put, List.setIfInBounds_toArray, List.set_cons_zero, List.set_cons_succ, h1, h3, h4, e0, e1, e5]; done) | (simp only [schFr, Act.put, List.setIfInBounds_toArray, List.set_cons_zero, List.set_cons_succ, h1, h3, h4, e0, e1, e5]; rfl)
  -- 7: slot none := Op.store 66 t1 t26
  · clear HC
    rw [← hgl]; clear hgl
    refine ⟨by decide +kernel, fun x V hV hall K hK => ?_⟩
    obtain ⟨zn, za, zc, zp, zq, zt, zu, e6, d6⟩ : ∃ (zn : List ByteArray) (za : Option Addr) (zc : Nat) (zp : Option Addr) (zq : Nat) (zt : Option Addr) (zu : Nat), x 6 = .agg #[.slice za zn.length zc, .slice zp 0 zq, .int .i64 (app (prs bs zn) t).kind, .string (app (prs bs zn) t).name, .slice zt (app (prs bs zn) t).kids.length zu] ∧ ((TextsAt V (.slice za zn.length zc) zn ∧ NewN bs.length os zn) ∧ TysAt V (.slice zt (app (prs bs zn) t).kids.length zu) (app (prs bs zn) t).kids) := hall 6 (by decide)
    clear hall
    refine run_bare (by kernel_rfl) ?_
    unfold schFr
    obtain ⟨v0, v1, v2, v3, v4⟩ := cells5 hV.1.1
    have f0 := Lib.frozen_of_heap hV.1.1 0; have f1 := Lib.frozen_of_heap hV.1.1 1; have f2 := Lib.frozen_of_heap hV.1.1 2; have f3 := Lib.frozen_of_heap hV.1.1 3; have f4 := Lib.frozen_of_heap hV.1.1 4
    have H := Lib.hid (HFIN.out x V zn za zc zp zq zt zu hV d6)
    clear HFIN hV d6
    go_simp
    refine kfit (hK undef _ H.out) ?_
    first | (simp only [schFr, Act.put, List.setIfInBounds_toArray, List.set_cons_zero, List.set_cons_succ, h1, h3, h4, e6]; done) | (simp only [schFr, Act.put, List.setIfInBounds_toArray, List.set_cons_zero, List.set_cons_succ, h1, h3, h4, e6]; rfl)
theorem sch_here {w : World} {b1 b2 : Nat} {xa ca ta ba oa : Option Addr} {xn xc cc tc bc oc : Nat} {bs os : List ByteArray} {t : T}
    (HC5 : ∀ V, SN w b1 b2 xa xn xc ca cc t ta tc ba bc oa oc bs os V → Calls Tryz.prog 39 #[.int .i64 (bs.length : Int), .slice oa os.length oc] V fun e Y => (∃ (zn : List ByteArray) (za : Option Addr) (zc : Nat), e = .returned (.slice za zn.length zc) ∧ (TextsAt Y (.slice za zn.length zc) zn ∧ NewN bs.length os zn)) ∧ Below V.heap.size V Y)
    (HC6 : ∀ V, SN w b1 b2 xa xn xc ca cc t ta tc ba bc oa oc bs os V → ∀ (zn5 : List ByteArray), ∀ za5, ∀ zc5, (TextsAt V (.slice za5 zn5.length zc5) zn5 ∧ NewN bs.length os zn5) → Calls Tryz.prog 33 #[.agg #[.slice xa xn xc, .slice ca 0 cc, .int .i64 t.kind, .string t.name, .slice ta t.kids.length tc], .slice ba bs.length bc, .slice za5 zn5.length zc5] V fun e Y => (∃ (zn : List ByteArray) (za : Option Addr) (zc : Nat) (zp : Option Addr) (zq : Nat) (zt : Option Addr) (zu : Nat), e = .returned (.agg #[.slice za zn.length zc, .slice zp 0 zq, .int .i64 (app (prs bs zn) t).kind, .string (app (prs bs zn) t).name, .slice zt (app (prs bs zn) t).kids.length zu]) ∧ ((TextsAt Y (.slice za zn.length zc) zn ∧ NewN bs.length os zn) ∧ TysAt Y (.slice zt (app (prs bs zn) t).kids.length zu) (app (prs bs zn) t).kids)) ∧ Below V.heap.size V Y)
    {Q : Exit → Act → World → Prop} {ops : Array Oper} {a : Act} (X : World) (hops : ops = schOps)
    (h1 : a.tmps.getD 1 undef = .pointer (some ⟨b1, 0, none⟩)) (h3 : a.tmps.getD 3 undef = .slice ba bs.length bc) (h4 : a.tmps.getD 4 undef = .slice oa os.length oc)
    (ha : a = schFr (fun j => a.tmps.getD j undef) a.defers (fun i => a.tmps.getD (20 + i) undef)) (hS : SN w b1 b2 xa xn xc ca cc t ta tc ba bc oa oc bs os X.drew)
    (hfin : ∀ (x : Nat → Value) V (zn : List ByteArray) za zc zp zq zt zu, SN w b1 b2 xa xn xc ca cc t ta tc ba bc oa oc bs os V → ((TextsAt V (.slice za zn.length zc) zn ∧ NewN bs.length os zn) ∧ TysAt V (.slice zt (app (prs bs zn) t).kids.length zu) (app (prs bs zn) t).kids) → Q .normal (schFr (fun j => a.tmps.getD j undef) a.defers x) (set5 V b1 (.slice za zn.length zc) (.slice zp 0 zq) (.int .i64 (app (prs bs zn) t).kind) (.string (app (prs bs zn) t).name) (.slice zt (app (prs bs zn) t).kids.length zu))) : (Code.region 3 ops true).wp Tryz.prog Q a X :=
  cast (congrArg (fun z => (Code.region 3 ops true).wp Tryz.prog Q z X) ha.symm) (sch_region (b := fun j => a.tmps.getD j undef) (d := a.defers) h1 h3 h4 HC5 HC6 hops _ X hS hfin)
end Go.Proofs.YtjnlchhikdfifaaGreatDoor
/- scheme.Canon of a scheme without a context. -/
namespace Go.Proofs.YtjnlchhikdfifaaGreatDoor
open Go.RowKit Go.Sort Go.Lib
attribute [local go_sem] Oper.semAt_some

theorem SchB.set1 {b : Nat} {xv cv cv' : Value} {t : T} {ta : Option Addr} {tc : Nat} {V : World} (h : SchB b xv cv t ta tc V) : SchB b xv cv' t ta tc (V.setCell ⟨b, 1, none⟩ cv') :=
  ⟨blk_set (o := 1) h.1 cv', h.2.keep fun k cs fz hk => (Below.heap_setCell _ ⟨b, 1, none⟩ _ k (fun e => by
    have e' : k = b := e
    subst e'; rw [h.1] at hk; simp at hk)).trans hk⟩
theorem texts_set {b : Nat} {xv cv v : Value} {t : T} {ta : Option Addr} {tc o : Nat} {V : World} {u : Value} {l : List ByteArray} (h : SchB b xv cv t ta tc V) (hu : TextsAt V u l) : TextsAt (V.setCell ⟨b, o, none⟩ v) u l :=
  hu.keep fun k cs fz hk => (Below.heap_setCell _ ⟨b, o, none⟩ _ k (fun e => by
    have e' : k = b := e
    subst e'; rw [h.1] at hk; simp at hk)).trans hk
/-- A scheme in its block, and a block that is to hold one. -/
def SD (w : World) (b1 b2 : Nat) (xv cv : Value) (u : T) (zt : Option Addr) (zu : Nat) (ls : List ByteArray) (V : World) : Prop := SchB b1 xv cv u zt zu V ∧ Sch0 b2 V ∧ TextsAt V xv ls ∧ Below w.heap.size w V
theorem SD.below {w : World} {b1 b2 : Nat} {xv cv : Value} {u : T} {zt : Option Addr} {zu : Nat} {ls : List ByteArray} {V Y : World} (h : SD w b1 b2 xv cv u zt zu ls V) (hb : Below V.heap.size V Y) : SD w b1 b2 xv cv u zt zu ls Y := ⟨h.1.below hb, h.2.1.below hb, h.2.2.1.below hb, h.2.2.2.trans (hb.mono h.2.2.2.size)⟩
theorem SD.of5 {w W : World} {b1 b2 : Nat} {xv0 cv0 xv cv : Value} {t u : T} {ta zt : Option Addr} {tc zu : Nat} {ls : List ByteArray} (h1 : SchB b1 xv0 cv0 t ta tc W) (h2 : Sch0 b2 W) (h3 : TextsAt W xv ls) (h4 : TysAt W (.slice zt u.kids.length zu) u.kids) (hb : Below w.heap.size w W) (h12 : b2 ≠ b1) (hB : w.heap.size ≤ b1) : SD w b1 b2 xv cv u zt zu ls (set5 W b1 xv cv (.int .i64 u.kind) (.string u.name) (.slice zt u.kids.length zu)) :=
  ⟨⟨set5_block h1.1 _ _ _ _ _, h4.keep fun k cs fz hk => (set5_other _ _ _ _ _ _ _ (fun e => by subst e; rw [h1.1] at hk; simp at hk)).trans hk⟩, (set5_other _ _ _ _ _ _ _ h12).trans h2, h3.keep fun k cs fz hk => (set5_other _ _ _ _ _ _ _ (fun e => by subst e; rw [h1.1] at hk; simp at hk)).trans hk, below_set5 hb hB _ _ _ _ _⟩
theorem SD.set1 {w W : World} {b1 b2 : Nat} {xv cv cv' : Value} {u : T} {zt : Option Addr} {zu : Nat} {ls : List ByteArray} (h : SD w b1 b2 xv cv u zt zu ls W) (h12 : b2 ≠ b1) (hB : w.heap.size ≤ b1) : SD w b1 b2 xv cv' u zt zu ls (W.setCell ⟨b1, 1, none⟩ cv') :=
  ⟨h.1.set1, (Below.heap_setCell _ ⟨b1, 1, none⟩ _ _ h12).trans h.2.1, texts_set h.1 h.2.2.1, h.2.2.2.setCell (p := ⟨b1, 1, none⟩) hB _⟩
theorem SD.copy {w W : World} {b1 b2 : Nat} {xv cv : Value} {u : T} {zt : Option Addr} {zu : Nat} {ls : List ByteArray} (h : SD w b1 b2 xv cv u zt zu ls W) (hB : w.heap.size ≤ b2) : TextsAt (set5 W b2 xv cv (.int .i64 u.kind) (.string u.name) (.slice zt u.kids.length zu)) xv ls ∧ TysAt (set5 W b2 xv cv (.int .i64 u.kind) (.string u.name) (.slice zt u.kids.length zu)) (.slice zt u.kids.length zu) u.kids ∧ Below w.heap.size w (set5 W b2 xv cv (.int .i64 u.kind) (.string u.name) (.slice zt u.kids.length zu)) :=
  ⟨h.2.2.1.keep fun k cs fz hk => (set5_other _ _ _ _ _ _ _ (fun e => by subst e; rw [h.2.1] at hk; simp at hk)).trans hk, h.1.2.keep fun k cs fz hk => (set5_other _ _ _ _ _ _ _ (fun e => by subst e; rw [h.2.1] at hk; simp at hk)).trans hk, below_set5 h.2.2.2 hB _ _ _ _ _⟩
set_option maxRecDepth 100000 in
set_option maxHeartbeats 4000000 in
theorem canon_any (t : T) (xs : List ByteArray) (hn : Nm t) (hs : tsize t ≤ 90000000) (hv : ∀ n ∈ fvs [] [] [t], n.size ≤ 1000000) (hvl : (fvs [] [] [t]).length ≤ 7) (hxs : ∀ n ∈ xs, n.size ≤ 1000000) (hxl : xs.length ≤ 1000000) (hbo : ((fvs [] [] [t]).filter (inB xs)).length + ((fvs [] [] [t]).filter fun n => !inB xs n).length ≤ 7) (xa ca ta : Option Addr) (xc cc tc : Nat) (w : World) (ht : TysAt w (.slice ta t.kids.length tc) t.kids) (hx : TextsAt w (.slice xa xs.length xc) xs) :
    Calls Tryz.prog 12 #[.agg #[.slice xa xs.length xc, .slice ca 0 cc, .int .i64 t.kind, .string t.name, .slice ta t.kids.length tc]] w fun e w' =>
      (∃ (zn : List ByteArray) (za : Option Addr) (zc : Nat) (zp : Option Addr) (zq : Nat) (zt : Option Addr) (zu : Nat), e = .returned (.agg #[.slice za zn.length zc, .slice zp 0 zq, .int .i64 (app (prs ((fvs [] [] [t]).filter (inB xs)) zn) t).kind, .string (app (prs ((fvs [] [] [t]).filter (inB xs)) zn) t).name, .slice zt (app (prs ((fvs [] [] [t]).filter (inB xs)) zn) t).kids.length zu]) ∧ TextsAt w' (.slice za zn.length zc) zn ∧ TysAt w' (.slice zt (app (prs ((fvs [] [] [t]).filter (inB xs)) zn) t).kids.length zu) (app (prs ((fvs [] [] [t]).filter (inB xs)) zn) t).kids ∧ NewN ((fvs [] [] [t]).filter (inB xs)).length ((fvs [] [] [t]).filter fun n => !inB xs n) zn) ∧ Below w.heap.size w w' := by
  have hb0 := below_two w (.cells #[.slice xa xs.length xc, .slice ca 0 cc, .int .i64 t.kind, .string t.name, .slice ta t.kids.length tc] 33) (.cells #[.slice none 0 0, .slice none 0 0, .int .i64 0, .string ⟨#[]⟩, .slice none 0 0] 33)
  have hB0 := (SchB.new (xv := .slice xa xs.length xc) (cv := .slice ca 0 cc) ht).below ((Below.refl _ _).alloc (Nat.le_refl _) (.cells #[.slice none 0 0, .slice none 0 0, .int .i64 0, .string ⟨#[]⟩, .slice none 0 0] 33))
  have hZ0 := new_two w (.cells #[.slice xa xs.length xc, .slice ca 0 cc, .int .i64 t.kind, .string t.name, .slice ta t.kids.length tc] 33) (.cells #[.slice none 0 0, .slice none 0 0, .int .i64 0, .string ⟨#[]⟩, .slice none 0 0] 33)
  have H0 := Lib.hid (And.intro hB0 (And.intro (show Sch0 (w.heap.size + 1) _ from hZ0) (And.intro (hx.below hb0) hb0)))
  have hcell := (cells5 hB0.1).2.1
  have HNm := Lib.hid hn
  have HV := Lib.hid hv; have HXS := Lib.hid hxs
  have hz0 : w.heap.size < w.heap.size + 1 := by omega
  clear hb0 hB0 hZ0 ht hx hn hv hxs
  go_enter Tryz.func12, Tryz.ntmps12
  go_wp2_with (go_at_call 19; fail)
  refine (sortPreds0 _ _ _).mono ?_
  rintro e w1 ⟨⟨ra, rc, rfl⟩, hb1⟩
  have H1 := Lib.hid (And.intro (H0.out.1.below hb1) (And.intro (H0.out.2.1.below hb1) (And.intro (H0.out.2.2.1.below hb1) (H0.out.2.2.2.trans (hb1.mono H0.out.2.2.2.size)))))
  have hc1 := cells5 H1.out.1.1
  clear hb1 H0 hcell
  obtain ⟨v0, v1, v2, v3, v4⟩ := hc1
  have f1 := Lib.frozen_of_heap H1.out.1.1 1
  go_wp2_with (fail)
  have hW2 : w.heap.size ≤ w.heap.size := Nat.le_refl _
  have H2 := Lib.hid (And.intro (H1.out.1.set1 (cv' := .slice ra 0 rc)) (And.intro (show Sch0 (w.heap.size + 1) (w1.setCell ⟨w.heap.size, 1, none⟩ (.slice ra 0 rc)) from (Below.heap_setCell _ ⟨w.heap.size, 1, none⟩ _ _ (show w.heap.size + 1 ≠ w.heap.size by omega)).trans H1.out.2.1) (And.intro (texts_set (o := 1) (v := .slice ra 0 rc) H1.out.1 H1.out.2.2.1) (H1.out.2.2.2.setCell (p := ⟨w.heap.size, 1, none⟩) (Nat.le_refl _) (.slice ra 0 rc)))))
  clear H1 v0 v1 v2 v3 v4 f1 hW2
  generalize w1.setCell ⟨w.heap.size, 1, none⟩ (.slice ra 0 rc) = W2 at *
  refine scn_here (w := W2) (b1 := w.heap.size) (xa := xa) (ca := ra) (ta := ta) (xc := xc) (cc := rc) (tc := tc) (xs := xs) (t := t)
    (fun V h => (vars1_any t HNm.out hs _ _ _ _ V h.1.2).mono fun e Y hq => by
      obtain ⟨⟨v, rfl, hv⟩, hb⟩ := hq
      obtain ⟨a', c', rfl⟩ := hv.shape
      exact ⟨⟨a', c', rfl, hv⟩, hb⟩)
    (fun V h _ _ k => (split_any _ _ (by omega) hxl HV.out HXS.out _ _ _ _ V k h.2.1).mono fun e Y hq => by
      obtain ⟨⟨vi, vo, rfl, hvi, hvo⟩, hb⟩ := hq
      obtain ⟨ia, ic, rfl⟩ := hvi.shape
      obtain ⟨oa, oc, rfl⟩ := hvo.shape
      exact ⟨⟨ia, ic, oa, oc, rfl, hvi, hvo⟩, hb⟩)
    _ (by kernel_rfl) (by kernel_rfl) (by kernel_rfl) ⟨H2.out.1.below (below_d _), H2.out.2.2.1.below (below_d _), below_d _⟩ ?_
  intro x V zi zp zo zq hV e11 e12 k1 k2
  have HSz : Hid ((∀ n ∈ (fvs [] [] [t]).filter (inB xs), n.size ≤ 1000000) ∧ ∀ n ∈ (fvs [] [] [t]).filter (fun n => !inB xs n), n.size ≤ 1000000) := Lib.hid ⟨fun n h => HV.out n (List.mem_filter.1 h).1, fun n h => HV.out n (List.mem_filter.1 h).1⟩
  obtain ⟨bs, hbs⟩ : ∃ l, ((fvs [] [] [t]).filter (inB xs)) = l := ⟨_, rfl⟩
  obtain ⟨os, hos⟩ : ∃ l, ((fvs [] [] [t]).filter fun n => !inB xs n) = l := ⟨_, rfl⟩
  rw [hbs] at e11 k1 hbo HSz
  rw [hos] at e12 k2 hbo HSz
  have HB := Lib.hid hbs; have HO := Lib.hid hos
  have H3 := Lib.hid (show SN w w.heap.size (w.heap.size + 1) xa xs.length xc ra rc t ta tc zi zp zo zq bs os V from ⟨hV.1, H2.out.2.1.below hV.2.2, ⟨k1, k2⟩, H2.out.2.2.2.trans (hV.2.2.mono H2.out.2.2.2.size)⟩)
  clear hbs hos k1 k2 hV H2 HV HXS HNm
  simp only [scnFr, e11, e12]
  simp only [Array.getD_eq_getD_getElem?, List.getElem?_toArray, List.getElem?_cons_succ, List.getElem?_cons_zero, Option.getD_some]
  go_wp2_with (fail)
  refine sch_here (w := w) (b1 := w.heap.size) (b2 := w.heap.size + 1) (xa := xa) (xn := xs.length) (xc := xc) (ca := ra) (cc := rc) (t := t) (ta := ta) (tc := tc) (ba := zi) (bc := zp) (oa := zo) (oc := zq) (bs := bs) (os := os)
    (fun V h => (newNames_any bs.length os hbo HSz.out.2 _ _ V h.2.2.1.2).mono fun e Y hq => by
      obtain ⟨⟨v, zn, rfl, hv, hn⟩, hb⟩ := hq
      obtain ⟨a', c', rfl⟩ := hv.shape
      exact ⟨⟨zn, a', c', rfl, hv, hn⟩, hb⟩)
    (fun V h zn5 za5 zc5 k => (sren_any t bs zn5 k.2.1.symm (by omega) (by omega) _ _ _ _ _ _ _ _ _ V h.1.2 h.2.2.1.1.strs k.1.strs).mono fun e Y hq => by
      obtain ⟨⟨pa, pc, za, zc, rfl, hT⟩, hb⟩ := hq
      exact ⟨⟨zn5, za5, zc5, pa, pc, za, zc, rfl, ⟨k.1.below hb, k.2⟩, hT⟩, hb⟩)
    _ (by kernel_rfl) (by kernel_rfl) (by kernel_rfl) (by kernel_rfl) (by kernel_rfl) (H3.out.below (below_d _)) ?_
  intro y W zn za zc zp zq zt zu hW hT
  have H4 := Lib.hid (SD.of5 (cv := .slice zp 0 zq) hW.1 hW.2.1 hT.1.1 hT.2 hW.2.2.2 (show w.heap.size + 1 ≠ w.heap.size by omega) (Nat.le_refl _))
  have HNew := Lib.hid hT.1.2
  generalize set5 W w.heap.size (.slice za zn.length zc) (.slice zp 0 zq) (.int .i64 (app (prs bs zn) t).kind) (.string (app (prs bs zn) t).name) (.slice zt (app (prs bs zn) t).kids.length zu) = W4 at *
  clear hW hT H3 HSz
  obtain ⟨u, hu⟩ : ∃ u, app (prs bs zn) t = u := ⟨_, rfl⟩
  have HU := Lib.hid hu
  rw [hu] at H4
  clear hu
  obtain ⟨v0, v1, v2, v3, v4⟩ := cells5 H4.out.1.1
  simp only [schFr]
  simp only [Array.getD_eq_getD_getElem?, List.getElem?_toArray, List.getElem?_cons_succ, List.getElem?_cons_zero, Option.getD_some]
  go_wp2_with (go_at_call 19; fail)
  refine (sortPreds0 _ _ _).mono ?_
  rintro e w5 ⟨⟨sa, sc, rfl⟩, hb5⟩
  have H5 := Lib.hid (H4.out.below hb5)
  have f1 := Lib.frozen_of_heap H5.out.1.1 1
  have H6 := Lib.hid (H5.out.set1 (cv' := .slice sa 0 sc) (show w.heap.size + 1 ≠ w.heap.size by omega) (Nat.le_refl _))
  clear v0 v1 v2 v3 v4
  obtain ⟨v0, v1, v2, v3, v4⟩ := cells5 H5.out.1.1
  obtain ⟨u0, u1, u2, u3, u4⟩ := cells5 H6.out.1.1
  obtain ⟨t0, t1, t2, t3, t4⟩ := cells5 H6.out.2.1
  have g0 := Lib.frozen_of_heap H6.out.2.1 0; have g1 := Lib.frozen_of_heap H6.out.2.1 1; have g2 := Lib.frozen_of_heap H6.out.2.1 2; have g3 := Lib.frozen_of_heap H6.out.2.1 3; have g4 := Lib.frozen_of_heap H6.out.2.1 4
  have HL := Lib.hid (cells5 (set5_block H6.out.2.1 (.slice za zn.length zc) (.slice sa 0 sc) (.int .i64 u.kind) (.string u.name) (.slice zt u.kids.length zu)))
  have HE := Lib.hid (H6.out.copy (show w.heap.size ≤ w.heap.size + 1 by omega))
  clear hb5 H4 H5 H6
  go_wp2_with (fail)
  have hb := HB.out; have ho := HO.out; have hu := HU.out
  subst hu; subst hb; subst ho
  have hc := HL.out
  unfold set5 at hc
  refine bodyPost_ret (v := .agg #[.slice za zn.length zc, .slice sa 0 sc, .int .i64 (app (prs ((fvs [] [] [t]).filter (inB xs)) zn) t).kind, .string (app (prs ((fvs [] [] [t]).filter (inB xs)) zn) t).name, .slice zt (app (prs ((fvs [] [] [t]).filter (inB xs)) zn) t).kids.length zu]) (by simp [results, Tryz.results12, go_sem, hc.1, hc.2.1, hc.2.2.1, hc.2.2.2.1, hc.2.2.2.2]) rfl ⟨⟨zn, za, zc, sa, sc, zt, zu, rfl, HE.out.1, HE.out.2.1, HNew.out⟩, HE.out.2.2⟩
end Go.Proofs.YtjnlchhikdfifaaGreatDoor
/- scheme.SortPreds of at most twelve predicates: each once, in order. -/
namespace Go.Proofs.YtjnlchhikdfifaaGreatDoor
open Go.RowKit Go.Sort Go.Lib
attribute [local go_sem] Oper.semAt_some

/-- What SortPreds hands back: the same predicates, each once, in order. -/
def SpRes (l : List Pr) (w : World) (e : Ending) (w' : World) : Prop :=
  (∃ (ks : List PR) (a : Option Addr) (c : Nat), e = .returned (.slice a ks.length c) ∧ PrsAt w' (.slice a ks.length c) (ks.map prOf) ∧ ks.Pairwise (fun x y => cmpR x y < 0) ∧ ∀ q, q ∈ ks.map prOf ↔ q ∈ l) ∧ Below w.heap.size w w'
theorem sp_end {g cap : Nat} {l : List Pr} {ls d : List PR} {w w1 w2 w3 : World} (hg : w.heap.size ≤ g) (hm : ls.map prOf = l) (hr : RowG 55 g ls w1) (ht : Typ ls w1) (hb : Below w.heap.size w w1) (hd : LeTo d.length d) (hs : SrtI w1 g ls d w2) (hc : ls.length ≤ cap)
    (hk : RowG 55 g (keptUpTo (kpQ d.toArray) d.toArray d.length) w3) (hf : Fr g w2 w3) : SpRes l w (.returned (.slice (some ⟨g, 0, none⟩) (keptUpTo (kpQ d.toArray) d.toArray d.length).length cap)) w3 := by
  have hsz : d.toArray.size = d.length := by simp
  have hfr := hs.2.2.trans hf
  have hkT := hr.keepT (by decide) hfr
  have hst := kept_strict (A := d.toArray) (by rw [hsz]; exact hd)
  have hmem := @kept_mem d.toArray
  rw [hsz] at hst hmem
  have hsub : ∀ x ∈ keptUpTo (kpQ d.toArray) d.toArray d.length, x ∈ ls := fun x hx => by
    unfold keptUpTo at hx
    obtain ⟨j, hj, rfl⟩ := List.mem_map.1 hx
    have := bang_memR (d := d.toArray) (j := j) (by rw [hsz]; exact List.mem_range.1 (List.mem_filter.1 hj).1)
    exact (hs.1.2 _).1 this
  have hlen : (keptUpTo (kpQ d.toArray) d.toArray d.length).length ≤ cap := by
    have : (keptUpTo (kpQ d.toArray) d.toArray d.length).length ≤ d.length := by
      unfold keptUpTo
      rw [List.length_map]
      exact Nat.le_trans (List.length_filter_le ..) (by simp)
    have := hs.1.1; omega
  refine ⟨⟨_, _, _, rfl, prs_of_rowG hk (fun x hx => (ht x (hsub x hx)).keep hkT) hlen, hst, fun q => ?_⟩, hb.trans (hfr.below hg hb.size)⟩
  rw [hmem, ← hm]
  simp only [List.mem_map]
  exact ⟨fun ⟨x, hx, e⟩ => ⟨x, (hs.1.2 x).1 hx, e⟩, fun ⟨x, hx, e⟩ => ⟨x, (hs.1.2 x).2 hx, e⟩⟩
set_option maxRecDepth 100000 in
set_option maxHeartbeats 2000000 in
theorem sortPreds_any (l : List Pr) (v : Value) (w : World) (h : PrsAt w v l) (hq : ∀ q ∈ l, tsize q.2 ≤ 1000000000) (hf : ∀ q ∈ l, Fits q.2) (hl : l.length ≤ 12) :
    Calls Tryz.prog 19 #[v] w (SpRes l w) := by
  obtain ⟨av, cv, rfl⟩ := h.shape
  have HP := Lib.hid (predsG_any (.slice none 0 0) _ [] l w (by decide) (fun _ h => nomatch h) (sub_nil w none 0 (fun _ => rfl)) h hq (by omega))
  have HF := Lib.hid hf
  clear h hq hf
  go_enter Tryz.func19, Tryz.ntmps19
  go_wp2_with (go_at_call 40; fail)
  refine HP.out.mono ?_
  rintro e w1 ⟨⟨ls, hm, rfl, hr, ht⟩, hb⟩
  rw [appP_nil] at hm
  have hll : ls.length = l.length := by have := congrArg List.length hm; simpa using this
  by_cases h0 : l.length = 0
  · have HB := Lib.hid hb
    have e0 : l = [] := List.length_eq_zero_iff.1 h0
    subst e0
    clear hb hr ht hm hll HP HF
    simp only [List.length_nil]
    go_wp2_with (first
      | (go_at_call 43; refine (sort0 _ _ _ _).mono ?_; rintro e w' ⟨rfl, rfl⟩)
      | (go_at_call 45; refine (compact0 _ _ _ _).mono ?_; rintro e w' ⟨rfl, rfl⟩))
    go_ret
    exact ⟨⟨[], _, _, rfl, .inl ⟨rfl, _, _, rfl⟩, List.Pairwise.nil, fun q => by simp⟩, HB.out⟩
  · have hfa : FitsAll ls := fun x hx => HF.out (prOf x) (by rw [← hm]; exact List.mem_map.2 ⟨x, hx, rfl⟩)
    have hS := sortQ_any (w.heap.size + 1) l.length ls w1 hr ht hfa (by omega)
    rw [hll] at hS
    have HS := Lib.hid hS
    have HH := Lib.hid (And.intro hm (And.intro hr (And.intro ht (And.intro hb hfa))))
    clear hS hfa hm hr ht hb HP HF
    go_wp2_with (go_at_call 43; fail)
    refine HS.out.mono ?_
    rintro e w2 ⟨rfl, d, hd, hs⟩
    have hdl : d.length = l.length := hs.1.1.trans hll
    have hkT := HH.out.2.1.keepT (by decide) hs.2.2
    have hC := compactQ_any (w.heap.size + 1) l.length d w2 hs.2.1 (fun x hx => (HH.out.2.2.1 x ((hs.1.2 x).1 hx)).keep hkT) (fun x hx => HH.out.2.2.2.2 x ((hs.1.2 x).1 hx)) (by omega) (by omega) (fun e => by subst e; simp at hdl; omega)
    have HC := Lib.hid (hC.mono fun e w3 ⟨e1, hk, hf⟩ => (show ∃ k : Nat, e = Ending.returned (.slice (some ⟨w.heap.size + 1, 0, none⟩) k l.length) ∧ SpRes l w (Ending.returned (.slice (some ⟨w.heap.size + 1, 0, none⟩) k l.length)) w3 from ⟨_, e1, sp_end (Nat.le_succ _) HH.out.1 HH.out.2.1 HH.out.2.2.1 HH.out.2.2.2.1 hd hs (by omega) hk hf⟩))
    rw [hdl] at HC
    clear hC hkT hd hs HS HH
    go_wp2_with (go_at_call 45; fail)
    refine HC.out.mono ?_
    rintro e w3 ⟨k, rfl, hE⟩
    have HE := Lib.hid hE
    clear hE HC
    go_wp2_with (fail)
    go_ret
    exact HE.out
end Go.Proofs.YtjnlchhikdfifaaGreatDoor
/- Schemes with a context: what the statements of Free and of Canon keep. -/
namespace Go.Proofs.YtjnlchhikdfifaaGreatDoor
open Go.RowKit Go.Sort Go.Lib
attribute [local go_sem] Oper.semAt_some

theorem PrsAt.belowG {w Y : World} {v : Value} {l : List Pr} (h : PrsAt w v l) (hb : Below w.heap.size w Y) : PrsAt Y v l := h.keep (KeepT.of_below hb) (KeepP.of_below hb)
/-- A scheme, its variables, its context. -/
def SFg (w : World) (b1 : Nat) (xa : Option Addr) (xc : Nat) (xs : List ByteArray) (ca : Option Addr) (cc : Nat) (lc : List Pr) (t : T) (ta : Option Addr) (tc : Nat) (V : World) : Prop :=
  SchB b1 (.slice xa xs.length xc) (.slice ca lc.length cc) t ta tc V ∧ TextsAt V (.slice xa xs.length xc) xs ∧ PrsAt V (.slice ca lc.length cc) lc ∧ Below w.heap.size w V
theorem SFg.below {w : World} {b1 : Nat} {xa : Option Addr} {xc : Nat} {xs : List ByteArray} {ca : Option Addr} {cc : Nat} {lc : List Pr} {t : T} {ta : Option Addr} {tc : Nat} {V Y : World} (h : SFg w b1 xa xc xs ca cc lc t ta tc V) (hb : Below V.heap.size V Y) : SFg w b1 xa xc xs ca cc lc t ta tc Y :=
  ⟨h.1.below hb, h.2.1.below hb, h.2.2.1.belowG hb, h.2.2.2.trans (hb.mono h.2.2.2.size)⟩
/-- A scheme, the variables that are named anew, and those that are free. -/
def SNg (w : World) (b1 b2 : Nat) (xa : Option Addr) (xn xc : Nat) (ca : Option Addr) (cc : Nat) (lc : List Pr) (t : T) (ta : Option Addr) (tc : Nat) (ba : Option Addr) (bc : Nat) (oa : Option Addr) (oc : Nat) (bs os : List ByteArray) (V : World) : Prop :=
  SchB b1 (.slice xa xn xc) (.slice ca lc.length cc) t ta tc V ∧ Sch0 b2 V ∧ (TextsAt V (.slice ba bs.length bc) bs ∧ TextsAt V (.slice oa os.length oc) os) ∧ PrsAt V (.slice ca lc.length cc) lc ∧ Below w.heap.size w V
theorem SNg.below {w : World} {b1 b2 : Nat} {xa : Option Addr} {xn xc : Nat} {ca : Option Addr} {cc : Nat} {lc : List Pr} {t : T} {ta : Option Addr} {tc : Nat} {ba : Option Addr} {bc : Nat} {oa : Option Addr} {oc : Nat} {bs os : List ByteArray} {V Y : World} (h : SNg w b1 b2 xa xn xc ca cc lc t ta tc ba bc oa oc bs os V) (hb : Below V.heap.size V Y) : SNg w b1 b2 xa xn xc ca cc lc t ta tc ba bc oa oc bs os Y :=
  ⟨h.1.below hb, h.2.1.below hb, ⟨h.2.2.1.1.below hb, h.2.2.1.2.below hb⟩, h.2.2.2.1.belowG hb, h.2.2.2.2.trans (hb.mono h.2.2.2.2.size)⟩
/-- A context, where a block of schemes is written. -/
theorem prs_set {b : Nat} {xv cv v : Value} {t : T} {ta : Option Addr} {tc o : Nat} {V : World} {u : Value} {l : List Pr} (h : SchB b xv cv t ta tc V) (hu : PrsAt V u l) : PrsAt (V.setCell ⟨b, o, none⟩ v) u l := by
  have ho : ∀ k, k ≠ b → (V.setCell ⟨b, o, none⟩ v).heap[k]? = V.heap[k]? := fun k hk => Below.heap_setCell _ ⟨b, o, none⟩ _ k hk
  exact hu.keep (fun k cs fz hk => (ho k (fun e => by subst e; rw [h.1] at hk; simp at hk)).trans hk) (fun k cs fz hk => (ho k (fun e => by subst e; rw [h.1] at hk; simp at hk)).trans hk)
theorem prs_set5 {b : Nat} {xv cv : Value} {t : T} {ta : Option Addr} {tc : Nat} {V : World} {u : Value} {l : List Pr} (h : SchB b xv cv t ta tc V) (hu : PrsAt V u l) (v0 v1 v2 v3 v4 : Value) : PrsAt (set5 V b v0 v1 v2 v3 v4) u l :=
  hu.keep (fun k cs fz hk => (set5_other _ _ _ _ _ _ _ (fun e => by subst e; rw [h.1] at hk; simp at hk)).trans hk) (fun k cs fz hk => (set5_other _ _ _ _ _ _ _ (fun e => by subst e; rw [h.1] at hk; simp at hk)).trans hk)
theorem prs_set50 {b : Nat} {V : World} {u : Value} {l : List Pr} (h : Sch0 b V) (hu : PrsAt V u l) (v0 v1 v2 v3 v4 : Value) : PrsAt (set5 V b v0 v1 v2 v3 v4) u l :=
  hu.keep (fun k cs fz hk => (set5_other _ _ _ _ _ _ _ (fun e => by subst e; rw [h] at hk; simp at hk)).trans hk) (fun k cs fz hk => (set5_other _ _ _ _ _ _ _ (fun e => by subst e; rw [h] at hk; simp at hk)).trans hk)
end Go.Proofs.YtjnlchhikdfifaaGreatDoor
/- scheme.Same: two schemes, each put into its plain form in its own block. -/
namespace Go.Proofs.YtjnlchhikdfifaaGreatDoor
open Go.RowKit Go.Sort Go.Lib
attribute [local go_sem] Oper.semAt_some

/-- All but blocks of schemes stays. -/
def KeepO (V Y : World) : Prop := ∀ (k : Nat) (cs : Array Value) (T : TypeId) (fz : Nat × Nat), T ≠ 33 → V.heap[k]? = some (.cells cs T fz) → Y.heap[k]? = some (.cells cs T fz)
theorem KeepO.of_below {V Y : World} (h : Below V.heap.size V Y) : KeepO V Y := fun k _ _ _ _ hk => (h.block k (Array.getElem?_eq_some_iff.1 hk).1).trans hk
def SB (b : Nat) (V : World) : Prop := ∃ cs, V.heap[b]? = some (.cells cs 33 (0, 0))
theorem SB.below {b : Nat} {V Y : World} (h : SB b V) (hb : Below V.heap.size V Y) : SB b Y := by obtain ⟨cs, h⟩ := h; exact ⟨cs, (hb.block b (Array.getElem?_eq_some_iff.1 h).1).trans h⟩
theorem KeepO.of_set5 {b : Nat} {V : World} (h : SB b V) (v0 v1 v2 v3 v4 : Value) : KeepO V (set5 V b v0 v1 v2 v3 v4) := fun k cs T fz hT hk => (set5_other _ _ _ _ _ _ _ (fun e => by
  subst e; obtain ⟨c, h⟩ := h; rw [h] at hk; simp at hk; exact hT hk.2.1.symm)).trans hk
theorem SB.set5 {b k : Nat} {V : World} (h : SB k V) (hne : k ≠ b) (v0 v1 v2 v3 v4 : Value) : SB k (set5 V b v0 v1 v2 v3 v4) := by obtain ⟨cs, h⟩ := h; exact ⟨cs, (set5_other _ _ _ _ _ _ _ hne).trans h⟩
/-- What is kept all through. -/
def SmS (w : World) (b2 b3 : Nat) (D : World → Prop) (V : World) : Prop := D V ∧ SB b2 V ∧ SB b3 V ∧ Below w.heap.size w V
structure SmK (b2 b3 : Nat) (A B : Array Value) (L : Nat → Bool) (x : Nat → Value) (V : World) : Prop where
  m0 : L 4 = false → V.heap[b2]? = some (.cells A 33 (0, 0))
  m1 : L 4 = true → ∃ cs, x 1 = .agg cs ∧ V.heap[b2]? = some (.cells cs 33 (0, 0))
  n0 : L 5 = false → V.heap[b3]? = some (.cells B 33 (0, 0))
  n1 : L 5 = true → ∃ cs, x 3 = .agg cs ∧ V.heap[b3]? = some (.cells cs 33 (0, 0))
  c4 : L 4 = true → L 1 = true
  c1 : L 1 = true → L 0 = true
  c5 : L 5 = true → L 3 = true
  c3 : L 3 = true → L 2 = true
section
variable {V Y : World} {b2 b3 : Nat} {A B : Array Value} {L : Nat → Bool} {x : Nat → Value}
theorem SmK.start (h2 : V.heap[b2]? = some (.cells A 33 (0, 0))) (h3 : V.heap[b3]? = some (.cells B 33 (0, 0))) : SmK b2 b3 A B (fun _ => false) x V :=
  ⟨fun _ => h2, (fun e => nomatch e), fun _ => h3, (fun e => nomatch e), (fun e => nomatch e), (fun e => nomatch e), (fun e => nomatch e), (fun e => nomatch e)⟩
theorem updB_mono (L : Nat → Bool) (i : Nat) : ∀ j, L j = true → updB L i j = true := fun j hj => by
  by_cases e : j = i
  · subst e; exact updB_same _ _
  · rw [updB_other L e]; exact hj
/-- An operation that leaves both blocks. -/
theorem SmK.step (h : SmK b2 b3 A B L x V) {i : Nat} (hi4 : i ≠ 4) (hi5 : i ≠ 5) (hLi : L i = false) (d1 : i = 1 → L 0 = true) (d3 : i = 3 → L 2 = true) (e2 : ∀ o, V.heap[b2]? = some o → Y.heap[b2]? = some o) (e3 : ∀ o, V.heap[b3]? = some o → Y.heap[b3]? = some o) (v : Value) : SmK b2 b3 A B (updB L i) (upd x i v) Y := by
  have e4 : updB L i 4 = L 4 := updB_other L (Ne.symm hi4)
  have e5 : updB L i 5 = L 5 := updB_other L (Ne.symm hi5)
  refine ⟨fun q => e2 _ (h.m0 (by rwa [e4] at q)), fun q => ?_, fun q => e3 _ (h.n0 (by rwa [e5] at q)), fun q => ?_, fun q => ?_, fun q => ?_, fun q => ?_, fun q => ?_⟩
  · rw [e4] at q
    obtain ⟨cs, k1, k2⟩ := h.m1 q
    have hne : (1 : Nat) ≠ i := fun e => by have := h.c4 q; rw [e, hLi] at this; cases this
    exact ⟨cs, by rw [upd_other x v hne]; exact k1, e2 _ k2⟩
  · rw [e5] at q
    obtain ⟨cs, k1, k2⟩ := h.n1 q
    have hne : (3 : Nat) ≠ i := fun e => by have := h.c5 q; rw [e, hLi] at this; cases this
    exact ⟨cs, by rw [upd_other x v hne]; exact k1, e3 _ k2⟩
  · rw [e4] at q; exact updB_mono L i 1 (h.c4 q)
  · by_cases e : i = 1
    · exact updB_mono L i 0 (d1 e)
    · rw [updB_other L (Ne.symm e)] at q; exact updB_mono L i 0 (h.c1 q)
  · rw [e5] at q; exact updB_mono L i 3 (h.c5 q)
  · by_cases e : i = 3
    · exact updB_mono L i 2 (d3 e)
    · rw [updB_other L (Ne.symm e)] at q; exact updB_mono L i 2 (h.c3 q)
theorem SmK.far (h : SmK b2 b3 A B L x V) {i : Nat} (hi : 5 < i) (v : Value) : SmK b2 b3 A B (updB L i) (upd x i v) V := by
  have e : ∀ j, j ≤ 5 → updB L i j = L j := fun j hj => updB_other L (by omega)
  have u1 : upd x i v 1 = x 1 := upd_other x v (by omega)
  have u3 : upd x i v 3 = x 3 := upd_other x v (by omega)
  exact ⟨fun q => h.m0 (by rwa [e 4 (by decide)] at q), fun q => by rw [u1]; exact h.m1 (by rwa [e 4 (by decide)] at q), fun q => h.n0 (by rwa [e 5 (by decide)] at q), fun q => by rw [u3]; exact h.n1 (by rwa [e 5 (by decide)] at q),
    fun q => by rw [e 1 (by decide)]; exact h.c4 (by rwa [e 4 (by decide)] at q), fun q => by rw [e 0 (by decide)]; exact h.c1 (by rwa [e 1 (by decide)] at q), fun q => by rw [e 3 (by decide)]; exact h.c5 (by rwa [e 5 (by decide)] at q), fun q => by rw [e 2 (by decide)]; exact h.c3 (by rwa [e 3 (by decide)] at q)⟩
theorem SmK.st4 (h : SmK b2 b3 A B L x V) (hne : b3 ≠ b2) (q1 : L 1 = true) {z0 z1 z2 z3 z4 y0 y1 y2 y3 y4 : Value} (hb : V.heap[b2]? = some (.cells #[y0, y1, y2, y3, y4] 33 (0, 0))) (hx : x 1 = .agg #[z0, z1, z2, z3, z4]) (v : Value) : SmK b2 b3 A B (updB L 4) (upd x 4 v) (set5 V b2 z0 z1 z2 z3 z4) := by
  have e5 : updB L 4 5 = L 5 := updB_other L (by decide)
  have e3 : ∀ o, V.heap[b3]? = some o → (set5 V b2 z0 z1 z2 z3 z4).heap[b3]? = some o := fun o ho => (set5_other _ _ _ _ _ _ _ hne).trans ho
  refine ⟨fun q => (by rw [updB_same] at q; cases q), fun _ => ⟨_, by rw [upd_other x v (by decide)]; exact hx, set5_block hb _ _ _ _ _⟩, fun q => e3 _ (h.n0 (by rwa [e5] at q)), fun q => ?_, fun _ => updB_mono L 4 1 q1, fun q => ?_, fun q => ?_, fun q => ?_⟩
  · rw [e5] at q
    obtain ⟨cs, k1, k2⟩ := h.n1 q
    exact ⟨cs, by rw [upd_other x v (by decide)]; exact k1, e3 _ k2⟩
  · rw [updB_other L (by decide)] at q; exact updB_mono L 4 0 (h.c1 q)
  · rw [e5] at q; exact updB_mono L 4 3 (h.c5 q)
  · rw [updB_other L (by decide)] at q; exact updB_mono L 4 2 (h.c3 q)
theorem SmK.st5 (h : SmK b2 b3 A B L x V) (hne : b2 ≠ b3) (q3 : L 3 = true) {z0 z1 z2 z3 z4 y0 y1 y2 y3 y4 : Value} (hb : V.heap[b3]? = some (.cells #[y0, y1, y2, y3, y4] 33 (0, 0))) (hx : x 3 = .agg #[z0, z1, z2, z3, z4]) (v : Value) : SmK b2 b3 A B (updB L 5) (upd x 5 v) (set5 V b3 z0 z1 z2 z3 z4) := by
  have e4 : updB L 5 4 = L 4 := updB_other L (by decide)
  have e2 : ∀ o, V.heap[b2]? = some o → (set5 V b3 z0 z1 z2 z3 z4).heap[b2]? = some o := fun o ho => (set5_other _ _ _ _ _ _ _ hne).trans ho
  refine ⟨fun q => e2 _ (h.m0 (by rwa [e4] at q)), fun q => ?_, fun q => (by rw [updB_same] at q; cases q), fun _ => ⟨_, by rw [upd_other x v (by decide)]; exact hx, set5_block hb _ _ _ _ _⟩, fun q => ?_, fun q => ?_, fun _ => updB_mono L 5 3 q3, fun q => ?_⟩
  · rw [e4] at q
    obtain ⟨cs, k1, k2⟩ := h.m1 q
    exact ⟨cs, by rw [upd_other x v (by decide)]; exact k1, e2 _ k2⟩
  · rw [e4] at q; exact updB_mono L 5 1 (h.c4 q)
  · rw [updB_other L (by decide)] at q; exact updB_mono L 5 0 (h.c1 q)
  · rw [updB_other L (by decide)] at q; exact updB_mono L 5 2 (h.c3 q)
end
end Go.Proofs.YtjnlchhikdfifaaGreatDoor
/- scheme.Same: both in their plain form: its last statement, a region of 6 operations that draws its order, by an invariant. (Made by a program.) -/
namespace Go.Proofs.YtjnlchhikdfifaaGreatDoor
open Go.RowKit Go.Sort Go.Lib
attribute [local go_sem] Oper.semAt_some

noncomputable def smeOps : Array Oper := regionIn 1 (Tryz.f23.body.getD .skip)
def smeFr (b : Nat → Value) (d : List Deferred) (x : Nat → Value) : Act := { tmps := #[b 0, b 1, b 2, b 3, b 4, x 0, x 1, x 2, x 3, b 9, b 10, b 11, b 12, b 13, b 14, b 15, b 16, b 17, b 18, b 19, b 20, b 21, b 22, b 23, b 24, b 25, b 26, b 27], defers := d }

def smeVals (aa0 aa1 aa2 aa3 aa4 bb0 bb1 bb2 bb3 bb4 : Value) (PA PB : Option Addr → Nat → Nat → Option Addr → Nat → Nat → Int → ByteArray → Option Addr → Nat → Nat → World → Prop) (i : Nat) (v : Value) (V : World) : Prop :=
  match i with
  | 0 => v = .agg #[aa0, aa1, aa2, aa3, aa4]
  | 1 => ∃ (za : Option Addr) (zn zc : Nat) (zp : Option Addr) (zm zq : Nat) (zk : Int) (zs : ByteArray) (zt : Option Addr) (zj zu : Nat), v = .agg #[.slice za zn zc, .slice zp zm zq, .int .i64 zk, .string zs, .slice zt zj zu] ∧ PA za zn zc zp zm zq zk zs zt zj zu V
  | 2 => v = .agg #[bb0, bb1, bb2, bb3, bb4]
  | 3 => ∃ (za : Option Addr) (zn zc : Nat) (zp : Option Addr) (zm zq : Nat) (zk : Int) (zs : ByteArray) (zt : Option Addr) (zj zu : Nat), v = .agg #[.slice za zn zc, .slice zp zm zq, .int .i64 zk, .string zs, .slice zt zj zu] ∧ PB za zn zc zp zm zq zk zs zt zj zu V
  | 4 => ∃ zu, v = zu ∧ True
  | 5 => ∃ zu, v = zu ∧ True
  | _ => True

theorem smeVals_keep {aa0 aa1 aa2 aa3 aa4 bb0 bb1 bb2 bb3 bb4 : Value} {PA PB : Option Addr → Nat → Nat → Option Addr → Nat → Nat → Int → ByteArray → Option Addr → Nat → Nat → World → Prop} (i : Nat) (v : Value) (V Y : World) (h : smeVals aa0 aa1 aa2 aa3 aa4 bb0 bb1 bb2 bb3 bb4 PA PB i v V) (hb : Y = V) : smeVals aa0 aa1 aa2 aa3 aa4 bb0 bb1 bb2 bb3 bb4 PA PB i v Y := by
  unfold smeVals at *
  split at h <;> first
    | exact h
    | (obtain ⟨za, zn, zc, zp, zm, zq, zk, zs, zt, zj, zu, e, h⟩ := h; exact ⟨za, zn, zc, zp, zm, zq, zk, zs, zt, zj, zu, e, (by subst hb; exact h)⟩)
    | (obtain ⟨zu, e, h⟩ := h; exact ⟨zu, e, h⟩)

theorem smeVals_keep2 {aa0 aa1 aa2 aa3 aa4 bb0 bb1 bb2 bb3 bb4 : Value} {PA PB : Option Addr → Nat → Nat → Option Addr → Nat → Nat → Int → ByteArray → Option Addr → Nat → Nat → World → Prop} (hPA : ∀ (za : Option Addr) (zn zc : Nat) (zp : Option Addr) (zm zq : Nat) (zk : Int) (zs : ByteArray) (zt : Option Addr) (zj zu : Nat) V Y, KeepO V Y → PA za zn zc zp zm zq zk zs zt zj zu V → PA za zn zc zp zm zq zk zs zt zj zu Y) (hPB : ∀ (za : Option Addr) (zn zc : Nat) (zp : Option Addr) (zm zq : Nat) (zk : Int) (zs : ByteArray) (zt : Option Addr) (zj zu : Nat) V Y, KeepO V Y → PB za zn zc zp zm zq zk zs zt zj zu V → PB za zn zc zp zm zq zk zs zt zj zu Y) (i : Nat) (v : Value) (V Y : World) (h : smeVals aa0 aa1 aa2 aa3 aa4 bb0 bb1 bb2 bb3 bb4 PA PB i v V) (hk : KeepO V Y) : smeVals aa0 aa1 aa2 aa3 aa4 bb0 bb1 bb2 bb3 bb4 PA PB i v Y := by
  unfold smeVals at *
  split at h <;> first
    | exact h
    | (obtain ⟨za, zn, zc, zp, zm, zq, zk, zs, zt, zj, zu, e, h⟩ := h; exact ⟨za, zn, zc, zp, zm, zq, zk, zs, zt, zj, zu, e, hPA _ _ _ _ _ _ _ _ _ _ _ V Y hk h⟩)
    | (obtain ⟨za, zn, zc, zp, zm, zq, zk, zs, zt, zj, zu, e, h⟩ := h; exact ⟨za, zn, zc, zp, zm, zq, zk, zs, zt, zj, zu, e, hPB _ _ _ _ _ _ _ _ _ _ _ V Y hk h⟩)
theorem SmS.below2 {w V Y : World} {b2 b3 : Nat} {D : World → Prop} (h : SmS w b2 b3 D V) (hD : ∀ V Y, KeepO V Y → D V → D Y) (hb : Below V.heap.size V Y) : SmS w b2 b3 D Y := ⟨hD V Y (KeepO.of_below hb) h.1, h.2.1.below hb, h.2.2.1.below hb, h.2.2.2.trans (hb.mono h.2.2.2.size)⟩
theorem SmS.set5a {w V : World} {b2 b3 : Nat} {D : World → Prop} (h : SmS w b2 b3 D V) (hD : ∀ V Y, KeepO V Y → D V → D Y) (hne : b2 ≠ b3) (hw : w.heap.size ≤ b2) (z0 z1 z2 z3 z4 : Value) : SmS w b2 b3 D (set5 V b2 z0 z1 z2 z3 z4) := by
  obtain ⟨h1, ⟨cs, h2⟩, h3, h4⟩ := h
  have hl := (Array.getElem?_eq_some_iff.1 h2).1
  exact ⟨hD V _ (KeepO.of_set5 ⟨cs, h2⟩ _ _ _ _ _) h1, ⟨_, blk_set (o := 4) (blk_set (o := 3) (blk_set (o := 2) (blk_set (o := 1) (blk_set (o := 0) h2 _) _) _) _) _⟩, h3.set5 (Ne.symm hne) _ _ _ _ _, below_set5 h4 hw _ _ _ _ _⟩
theorem SmS.set5b {w V : World} {b2 b3 : Nat} {D : World → Prop} (h : SmS w b2 b3 D V) (hD : ∀ V Y, KeepO V Y → D V → D Y) (hne : b2 ≠ b3) (hw : w.heap.size ≤ b3) (z0 z1 z2 z3 z4 : Value) : SmS w b2 b3 D (set5 V b3 z0 z1 z2 z3 z4) := by
  obtain ⟨h1, h2, ⟨cs, h3⟩, h4⟩ := h
  exact ⟨hD V _ (KeepO.of_set5 ⟨cs, h3⟩ _ _ _ _ _) h1, h2.set5 hne _ _ _ _ _, ⟨_, blk_set (o := 4) (blk_set (o := 3) (blk_set (o := 2) (blk_set (o := 1) (blk_set (o := 0) h3 _) _) _) _) _⟩, below_set5 h4 hw _ _ _ _ _⟩

theorem sme_size : smeOps.size = 6 := by kernel_rfl
set_option linter.unusedSimpArgs false in
set_option maxRecDepth 100000 in
set_option maxHeartbeats 8000000 in
theorem sme_region {w : World} {b2 b3 : Nat} {D : World → Prop} {aa0 aa1 aa2 aa3 aa4 bb0 bb1 bb2 bb3 bb4 : Value} {PA PB : Option Addr → Nat → Nat → Option Addr → Nat → Nat → Int → ByteArray → Option Addr → Nat → Nat → World → Prop} (hDK : ∀ V Y, KeepO V Y → D V → D Y) (hPA : ∀ (za : Option Addr) (zn zc : Nat) (zp : Option Addr) (zm zq : Nat) (zk : Int) (zs : ByteArray) (zt : Option Addr) (zj zu : Nat) V Y, KeepO V Y → PA za zn zc zp zm zq zk zs zt zj zu V → PA za zn zc zp zm zq zk zs zt zj zu Y) (hPB : ∀ (za : Option Addr) (zn zc : Nat) (zp : Option Addr) (zm zq : Nat) (zk : Int) (zs : ByteArray) (zt : Option Addr) (zj zu : Nat) V Y, KeepO V Y → PB za zn zc zp zm zq zk zs zt zj zu V → PB za zn zc zp zm zq zk zs zt zj zu Y) (hw2 : w.heap.size ≤ b2) (hw3 : w.heap.size ≤ b3) (hne : b2 ≠ b3) (HA : ∀ V, D V → Calls Tryz.prog 12 #[.agg #[aa0, aa1, aa2, aa3, aa4]] V fun e Y => (∃ (za : Option Addr) (zn zc : Nat) (zp : Option Addr) (zm zq : Nat) (zk : Int) (zs : ByteArray) (zt : Option Addr) (zj zu : Nat), e = .returned (.agg #[.slice za zn zc, .slice zp zm zq, .int .i64 zk, .string zs, .slice zt zj zu]) ∧ PA za zn zc zp zm zq zk zs zt zj zu Y) ∧ Below V.heap.size V Y) (HB : ∀ V, D V → Calls Tryz.prog 12 #[.agg #[bb0, bb1, bb2, bb3, bb4]] V fun e Y => (∃ (za : Option Addr) (zn zc : Nat) (zp : Option Addr) (zm zq : Nat) (zk : Int) (zs : ByteArray) (zt : Option Addr) (zj zu : Nat), e = .returned (.agg #[.slice za zn zc, .slice zp zm zq, .int .i64 zk, .string zs, .slice zt zj zu]) ∧ PB za zn zc zp zm zq zk zs zt zj zu Y) ∧ Below V.heap.size V Y) {b : Nat → Value} {d : List Deferred}
    (h2 : b 2 = .pointer (some ⟨b2, 0, none⟩)) (h3 : b 3 = .pointer (some ⟨b3, 0, none⟩))
    
    {Q : Exit → Act → World → Prop} {ops : Array Oper} (hops : ops = smeOps) (x0 : Nat → Value) (X : World) (hS : SmS w b2 b3 D X.drew) (hX2 : X.drew.heap[b2]? = some (.cells #[aa0, aa1, aa2, aa3, aa4] 33 (0, 0))) (hX3 : X.drew.heap[b3]? = some (.cells #[bb0, bb1, bb2, bb3, bb4] 33 (0, 0)))
    (hfin : ∀ (x : Nat → Value) V (za : Option Addr) (zn zc : Nat) (zp : Option Addr) (zm zq : Nat) (zk : Int) (zs : ByteArray) (zt : Option Addr) (zj zu : Nat) (ya : Option Addr) (yn yc : Nat) (yp : Option Addr) (ym yq : Nat) (yk : Int) (ys : ByteArray) (yt : Option Addr) (yj yu : Nat), SmS w b2 b3 D V → PA za zn zc zp zm zq zk zs zt zj zu V → PB ya yn yc yp ym yq yk ys yt yj yu V → V.heap[b2]? = some (.cells #[.slice za zn zc, .slice zp zm zq, .int .i64 zk, .string zs, .slice zt zj zu] 33 (0, 0)) → V.heap[b3]? = some (.cells #[.slice ya yn yc, .slice yp ym yq, .int .i64 yk, .string ys, .slice yt yj yu] 33 (0, 0)) → Q .normal (smeFr b d x) V) : (Code.region 1 ops true).wp Tryz.prog Q (smeFr b d x0) X := by
  refine region_mark (smeFr b d) (fun V => SmS w b2 b3 D V) (fun V Y => Y = V) (smeVals aa0 aa1 aa2 aa3 aa4 bb0 bb1 bb2 bb3 bb4 PA PB) (fun L x V => SmK b2 b3 #[aa0, aa1, aa2, aa3, aa4] #[bb0, bb1, bb2, bb3, bb4] L x V) (fun i => i == 0 || i == 1 || i == 2 || i == 3 || i == 4 || i == 5) x0 (by kernel_rfl) rfl hS (SmK.start hX2 hX3) (fun V Y h hb => by subst hb; exact h) (fun i v V Y _ h hb => smeVals_keep  i v V Y h hb) (fun i L x v w' w'' hs _ hM hr => by subst hr; exact hM.far (by simp only [Bool.or_eq_false_iff, beq_eq_false_iff_ne] at hs; omega) v) ?_ (fun L x V hS hall hM => by
    have q4 := (hall 4 (by rw [hops, sme_size]; decide)).1; have q5 := (hall 5 (by rw [hops, sme_size]; decide)).1
    obtain ⟨za, zn, zc, zp, zm, zq, zk, zs, zt, zj, zu, e1, h1⟩ := (hall 1 (by rw [hops, sme_size]; decide)).2
    obtain ⟨ya, yn, yc, yp, ym, yq, yk, ys, yt, yj, yu, e3, h3⟩ := (hall 3 (by rw [hops, sme_size]; decide)).2
    obtain ⟨cs, k1, k2⟩ := hM.m1 q4
    obtain ⟨ds, k3, k4⟩ := hM.n1 q5
    rw [e1] at k1; cases k1
    rw [e3] at k3; cases k3
    exact hfin x V _ _ _ _ _ _ _ _ _ _ _ _ _ _ _ _ _ _ _ _ _ _ hS h1 h3 k2 k4)
  clear hfin hS
  obtain ⟨f, hf⟩ : ∃ qq, (fun i o => ((fun i => i == 0 || i == 1 || i == 2 || i == 3 || i == 4 || i == 5) i = false → StepAt Tryz.prog (smeFr b d) (fun V => SmS w b2 b3 D V) (fun V Y => Y = V) (smeVals aa0 aa1 aa2 aa3 aa4 bb0 bb1 bb2 bb3 bb4 PA PB) ops Q i o) ∧ ((fun i => i == 0 || i == 1 || i == 2 || i == 3 || i == 4 || i == 5) i = true → MarkAt Tryz.prog (smeFr b d) (fun V => SmS w b2 b3 D V) (smeVals aa0 aa1 aa2 aa3 aa4 bb0 bb1 bb2 bb3 bb4 PA PB) (fun L x V => SmK b2 b3 #[aa0, aa1, aa2, aa3, aa4] #[bb0, bb1, bb2, bb3, bb4] L x V) ops Q i o)) = qq := ⟨_, rfl⟩
  rw [hf, hops]
  simp only [smeOps, Tryz.f23, regionIn, Option.getD_some, Nat.reduceBEq, Bool.false_eq_true, if_false, if_true, beq_self_eq_true, Array.append_empty, Array.empty_append, List.append_eq, List.cons_append, List.nil_append, AllAt, Nat.reduceAdd, Nat.zero_add]
  -- 0: slot 5 := Op.load 33 t2
  refine And.intro ?_ ?_
  · rw [← hf]; clear hf
    refine ⟨fun h => absurd h (by decide), fun _ => ⟨by decide +kernel, fun x v => by kernel_rfl, fun L x V hV hVs hMk hLi hdep K hK => ?_⟩⟩
    have hz := hMk.m0 (by cases q : L 4 with | false => rfl | true => exact absurd (hMk.c1 (hMk.c4 q)) (by rw [hLi]; decide))
    obtain ⟨c0, c1, c2, c3, c4⟩ := cells5 hz
    refine run_bare (by kernel_rfl) ?_
    have H := Lib.hid (fun v => hMk.step (i := 0) (by decide) (by decide) hLi (fun e => absurd e (by decide)) (fun e => absurd e (by decide)) (fun o ho => ho) (fun o ho => ho) v)
    have HVs := Lib.hid hVs
    have HS := Lib.hid hV
    clear hVs hMk hdep hz hV
    unfold smeFr at hK ⊢
    go_simp
    refine kfit (hK _ _ HS.out HVs.out rfl (H.out _)) ?_
    first | (simp only [Act.put, List.setIfInBounds_toArray, List.set_cons_zero, List.set_cons_succ, h2, h3]; done) | (simp only [Act.put, List.setIfInBounds_toArray, List.set_cons_zero, List.set_cons_succ, h2, h3]; rfl)
  -- 1: slot 6 := Op.call { value (Operand.func 12), args := #[t5], argTypes :
  refine And.intro ?_ ?_
  · rw [← hf]; clear hf
    refine ⟨fun h => absurd h (by decide), fun _ => ⟨by decide +kernel, fun x v => by kernel_rfl, fun L x V hV hVs hMk hLi hdep K hK => ?_⟩⟩
    have q := depL hdep 0 (by decide +kernel)
    have e0 : x 0 = .agg #[aa0, aa1, aa2, aa3, aa4] := hVs 0 q
    have HC := Lib.hid (HA V hV.1)
    refine run_bare (by kernel_rfl) ?_
    have H := Lib.hid (fun (Y : World) (hb : Below V.heap.size V Y) v => hMk.step (Y := Y) (i := 1) (by decide) (by decide) hLi (fun e => q) (fun e => absurd e (by decide)) (fun o ho => (hb.block _ (Array.getElem?_eq_some_iff.1 ho).1).trans ho) (fun o ho => (hb.block _ (Array.getElem?_eq_some_iff.1 ho).1).trans ho) v)
    have HVs := Lib.hid hVs
    have HS := Lib.hid hV
    clear hVs hMk hdep hV
    unfold smeFr at hK ⊢
    go_simp
    go_at_call 12
    refine HC.out.mono ?_
    rintro e Y ⟨⟨za, zn, zc, zp, zm, zq, zk, zs, zt, zj, zu, rfl, hq⟩, hb⟩
    refine kfit (hK _ _ (HS.out.below2 hDK hb) (fun j hj => smeVals_keep2 hPA hPB j _ V Y (HVs.out j hj) (KeepO.of_below hb)) ⟨za, zn, zc, zp, zm, zq, zk, zs, zt, zj, zu, rfl, hq⟩ (H.out Y hb _)) ?_
    first | (simp only [Act.put, List.setIfInBounds_toArray, List.set_cons_zero, List.set_cons_succ, h2, h3, e0]; done) | (simp only [Act.put, List.setIfInBounds_toArray, List.set_cons_zero, List.set_cons_succ, h2, h3, e0]; rfl)
  -- 2: slot 7 := Op.load 33 t3
  refine And.intro ?_ ?_
  · rw [← hf]; clear hf
    refine ⟨fun h => absurd h (by decide), fun _ => ⟨by decide +kernel, fun x v => by kernel_rfl, fun L x V hV hVs hMk hLi hdep K hK => ?_⟩⟩
    have hz := hMk.n0 (by cases q : L 5 with | false => rfl | true => exact absurd (hMk.c3 (hMk.c5 q)) (by rw [hLi]; decide))
    obtain ⟨c0, c1, c2, c3, c4⟩ := cells5 hz
    refine run_bare (by kernel_rfl) ?_
    have H := Lib.hid (fun v => hMk.step (i := 2) (by decide) (by decide) hLi (fun e => absurd e (by decide)) (fun e => absurd e (by decide)) (fun o ho => ho) (fun o ho => ho) v)
    have HVs := Lib.hid hVs
    have HS := Lib.hid hV
    clear hVs hMk hdep hz hV
    unfold smeFr at hK ⊢
    go_simp
    refine kfit (hK _ _ HS.out HVs.out rfl (H.out _)) ?_
    first | (simp only [Act.put, List.setIfInBounds_toArray, List.set_cons_zero, List.set_cons_succ, h2, h3]; done) | (simp only [Act.put, List.setIfInBounds_toArray, List.set_cons_zero, List.set_cons_succ, h2, h3]; rfl)
  -- 3: slot 8 := Op.call { value (Operand.func 12), args := #[t7], argTypes :
  refine And.intro ?_ ?_
  · rw [← hf]; clear hf
    refine ⟨fun h => absurd h (by decide), fun _ => ⟨by decide +kernel, fun x v => by kernel_rfl, fun L x V hV hVs hMk hLi hdep K hK => ?_⟩⟩
    have q := depL hdep 2 (by decide +kernel)
    have e2 : x 2 = .agg #[bb0, bb1, bb2, bb3, bb4] := hVs 2 q
    have HC := Lib.hid (HB V hV.1)
    refine run_bare (by kernel_rfl) ?_
    have H := Lib.hid (fun (Y : World) (hb : Below V.heap.size V Y) v => hMk.step (Y := Y) (i := 3) (by decide) (by decide) hLi (fun e => absurd e (by decide)) (fun e => q) (fun o ho => (hb.block _ (Array.getElem?_eq_some_iff.1 ho).1).trans ho) (fun o ho => (hb.block _ (Array.getElem?_eq_some_iff.1 ho).1).trans ho) v)
    have HVs := Lib.hid hVs
    have HS := Lib.hid hV
    clear hVs hMk hdep hV
    unfold smeFr at hK ⊢
    go_simp
    go_at_call 12
    refine HC.out.mono ?_
    rintro e Y ⟨⟨za, zn, zc, zp, zm, zq, zk, zs, zt, zj, zu, rfl, hq⟩, hb⟩
    refine kfit (hK _ _ (HS.out.below2 hDK hb) (fun j hj => smeVals_keep2 hPA hPB j _ V Y (HVs.out j hj) (KeepO.of_below hb)) ⟨za, zn, zc, zp, zm, zq, zk, zs, zt, zj, zu, rfl, hq⟩ (H.out Y hb _)) ?_
    first | (simp only [Act.put, List.setIfInBounds_toArray, List.set_cons_zero, List.set_cons_succ, h2, h3, e2]; done) | (simp only [Act.put, List.setIfInBounds_toArray, List.set_cons_zero, List.set_cons_succ, h2, h3, e2]; rfl)
  -- 4: slot none := Op.store 33 t2 t6
  refine And.intro ?_ ?_
  · rw [← hf]; clear hf
    refine ⟨fun h => absurd h (by decide), fun _ => ⟨by decide +kernel, fun x v => by kernel_rfl, fun L x V hV hVs hMk hLi hdep K hK => ?_⟩⟩
    have q := depL hdep 1 (by decide +kernel)
    obtain ⟨za, zn, zc, zp, zm, zq, zk, zs, zt, zj, zu, e1, hq⟩ : ∃ (za : Option Addr) (zn zc : Nat) (zp : Option Addr) (zm zq : Nat) (zk : Int) (zs : ByteArray) (zt : Option Addr) (zj zu : Nat), x 1 = .agg #[.slice za zn zc, .slice zp zm zq, .int .i64 zk, .string zs, .slice zt zj zu] ∧ PA za zn zc zp zm zq zk zs zt zj zu V := hVs 1 q
    have hz := hMk.m0 hLi
    obtain ⟨c0, c1, c2, c3, c4⟩ := cells5 hz
    have f0 := Lib.frozen_of_heap hz 0; have f1 := Lib.frozen_of_heap hz 1; have f2 := Lib.frozen_of_heap hz 2; have f3 := Lib.frozen_of_heap hz 3; have f4 := Lib.frozen_of_heap hz 4
    refine run_bare (by kernel_rfl) ?_
    have H := Lib.hid (fun v => hMk.st4 (Ne.symm hne) q hz e1 v)
    have HS2 := Lib.hid (hV.set5a hDK hne hw2 (.slice za zn zc) (.slice zp zm zq) (.int .i64 zk) (.string zs) (.slice zt zj zu))
    have HK := Lib.hid (KeepO.of_set5 (b := b2) ⟨_, hz⟩ (.slice za zn zc) (.slice zp zm zq) (.int .i64 zk) (.string zs) (.slice zt zj zu))
    have HVs := Lib.hid hVs
    clear hVs hMk hdep hz hq hV
    unfold smeFr at hK ⊢
    unfold set5 at H HS2 HK
    go_simp
    refine kfit (hK undef _ HS2.out (fun j hj => smeVals_keep2 hPA hPB j _ V _ (HVs.out j hj) HK.out) ⟨undef, rfl, trivial⟩ (H.out undef)) ?_
    first | (simp only [Act.put, List.setIfInBounds_toArray, List.set_cons_zero, List.set_cons_succ, h2, h3, e1]; done) | (simp only [Act.put, List.setIfInBounds_toArray, List.set_cons_zero, List.set_cons_succ, h2, h3, e1]; rfl)
  -- 5: slot none := Op.store 33 t3 t8
  refine And.intro ?_ ?_
  · rw [← hf]; clear hf
    refine ⟨fun h => absurd h (by decide), fun _ => ⟨by decide +kernel, fun x v => by kernel_rfl, fun L x V hV hVs hMk hLi hdep K hK => ?_⟩⟩
    have q := depL hdep 3 (by decide +kernel)
    obtain ⟨za, zn, zc, zp, zm, zq, zk, zs, zt, zj, zu, e3, hq⟩ : ∃ (za : Option Addr) (zn zc : Nat) (zp : Option Addr) (zm zq : Nat) (zk : Int) (zs : ByteArray) (zt : Option Addr) (zj zu : Nat), x 3 = .agg #[.slice za zn zc, .slice zp zm zq, .int .i64 zk, .string zs, .slice zt zj zu] ∧ PB za zn zc zp zm zq zk zs zt zj zu V := hVs 3 q
    have hz := hMk.n0 hLi
    obtain ⟨c0, c1, c2, c3, c4⟩ := cells5 hz
    have f0 := Lib.frozen_of_heap hz 0; have f1 := Lib.frozen_of_heap hz 1; have f2 := Lib.frozen_of_heap hz 2; have f3 := Lib.frozen_of_heap hz 3; have f4 := Lib.frozen_of_heap hz 4
    refine run_bare (by kernel_rfl) ?_
    have H := Lib.hid (fun v => hMk.st5 hne q hz e3 v)
    have HS2 := Lib.hid (hV.set5b hDK hne hw3 (.slice za zn zc) (.slice zp zm zq) (.int .i64 zk) (.string zs) (.slice zt zj zu))
    have HK := Lib.hid (KeepO.of_set5 (b := b3) ⟨_, hz⟩ (.slice za zn zc) (.slice zp zm zq) (.int .i64 zk) (.string zs) (.slice zt zj zu))
    have HVs := Lib.hid hVs
    clear hVs hMk hdep hz hq hV
    unfold smeFr at hK ⊢
    unfold set5 at H HS2 HK
    go_simp
    refine kfit (hK undef _ HS2.out (fun j hj => smeVals_keep2 hPA hPB j _ V _ (HVs.out j hj) HK.out) ⟨undef, rfl, trivial⟩ (H.out undef)) ?_
    first | (simp only [Act.put, List.setIfInBounds_toArray, List.set_cons_zero, List.set_cons_succ, h2, h3, e3]; done) | (simp only [Act.put, List.setIfInBounds_toArray, List.set_cons_zero, List.set_cons_succ, h2, h3, e3]; rfl)
  exact trivial
theorem sme_here {w : World} {b2 b3 : Nat} {D : World → Prop} {aa0 aa1 aa2 aa3 aa4 bb0 bb1 bb2 bb3 bb4 : Value} {PA PB : Option Addr → Nat → Nat → Option Addr → Nat → Nat → Int → ByteArray → Option Addr → Nat → Nat → World → Prop} (hDK : ∀ V Y, KeepO V Y → D V → D Y) (hPA : ∀ (za : Option Addr) (zn zc : Nat) (zp : Option Addr) (zm zq : Nat) (zk : Int) (zs : ByteArray) (zt : Option Addr) (zj zu : Nat) V Y, KeepO V Y → PA za zn zc zp zm zq zk zs zt zj zu V → PA za zn zc zp zm zq zk zs zt zj zu Y) (hPB : ∀ (za : Option Addr) (zn zc : Nat) (zp : Option Addr) (zm zq : Nat) (zk : Int) (zs : ByteArray) (zt : Option Addr) (zj zu : Nat) V Y, KeepO V Y → PB za zn zc zp zm zq zk zs zt zj zu V → PB za zn zc zp zm zq zk zs zt zj zu Y) (hw2 : w.heap.size ≤ b2) (hw3 : w.heap.size ≤ b3) (hne : b2 ≠ b3) (HA : ∀ V, D V → Calls Tryz.prog 12 #[.agg #[aa0, aa1, aa2, aa3, aa4]] V fun e Y => (∃ (za : Option Addr) (zn zc : Nat) (zp : Option Addr) (zm zq : Nat) (zk : Int) (zs : ByteArray) (zt : Option Addr) (zj zu : Nat), e = .returned (.agg #[.slice za zn zc, .slice zp zm zq, .int .i64 zk, .string zs, .slice zt zj zu]) ∧ PA za zn zc zp zm zq zk zs zt zj zu Y) ∧ Below V.heap.size V Y) (HB : ∀ V, D V → Calls Tryz.prog 12 #[.agg #[bb0, bb1, bb2, bb3, bb4]] V fun e Y => (∃ (za : Option Addr) (zn zc : Nat) (zp : Option Addr) (zm zq : Nat) (zk : Int) (zs : ByteArray) (zt : Option Addr) (zj zu : Nat), e = .returned (.agg #[.slice za zn zc, .slice zp zm zq, .int .i64 zk, .string zs, .slice zt zj zu]) ∧ PB za zn zc zp zm zq zk zs zt zj zu Y) ∧ Below V.heap.size V Y)
    
    {Q : Exit → Act → World → Prop} {ops : Array Oper} {a : Act} (X : World) (hops : ops = smeOps)
    (h2 : a.tmps.getD 2 undef = .pointer (some ⟨b2, 0, none⟩)) (h3 : a.tmps.getD 3 undef = .pointer (some ⟨b3, 0, none⟩))
    (ha : a = smeFr (fun j => a.tmps.getD j undef) a.defers (fun i => a.tmps.getD (5 + i) undef)) (hS : SmS w b2 b3 D X.drew) (hX2 : X.drew.heap[b2]? = some (.cells #[aa0, aa1, aa2, aa3, aa4] 33 (0, 0))) (hX3 : X.drew.heap[b3]? = some (.cells #[bb0, bb1, bb2, bb3, bb4] 33 (0, 0)))
    (hfin : ∀ (x : Nat → Value) V (za : Option Addr) (zn zc : Nat) (zp : Option Addr) (zm zq : Nat) (zk : Int) (zs : ByteArray) (zt : Option Addr) (zj zu : Nat) (ya : Option Addr) (yn yc : Nat) (yp : Option Addr) (ym yq : Nat) (yk : Int) (ys : ByteArray) (yt : Option Addr) (yj yu : Nat), SmS w b2 b3 D V → PA za zn zc zp zm zq zk zs zt zj zu V → PB ya yn yc yp ym yq yk ys yt yj yu V → V.heap[b2]? = some (.cells #[.slice za zn zc, .slice zp zm zq, .int .i64 zk, .string zs, .slice zt zj zu] 33 (0, 0)) → V.heap[b3]? = some (.cells #[.slice ya yn yc, .slice yp ym yq, .int .i64 yk, .string ys, .slice yt yj yu] 33 (0, 0)) → Q .normal (smeFr (fun j => a.tmps.getD j undef) a.defers x) V) : (Code.region 1 ops true).wp Tryz.prog Q a X :=
  cast (congrArg (fun z => (Code.region 1 ops true).wp Tryz.prog Q z X) ha.symm) (sme_region hDK hPA hPB hw2 hw3 hne HA HB (b := fun j => a.tmps.getD j undef) (d := a.defers) h2 h3  hops _ X hS  hX2 hX3 hfin)
end Go.Proofs.YtjnlchhikdfifaaGreatDoor
