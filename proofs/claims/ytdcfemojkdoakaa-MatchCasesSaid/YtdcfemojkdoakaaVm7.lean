/- Merged: McL, PlainRow, IntsRow. -/
import Derived.Test.YtdcfemojkdoakaaVm6
import Derived.Test.YtdcfemojkdoakaaRows
import Derived.ProofKit
import Derived.OpenShut
import Derived.Carry
import Derived.Test.YtdcfemojkdoakaaVm3
/- MatchCases, walked. -/
namespace Go.Proofs.Ytdcfemojkdoakaa
open Go.RowKit Go.Maps Go.Sort Go.Lib
attribute [local go_sem] Oper.semAt_some

theorem v3_few' : V3.length < 20 := by decide
theorem v3_short' : ∀ x ∈ V3, x.size ≤ 1000 := by decide
/-- What the law's Match and Both tell. -/
theorem pm_ret {a b : T} {pa pb : Option Addr} {ca cb : Nat} {w : World} (hV : TIn V3 a) (ha : tsize a ≤ 900000) (hb : tsize b ≤ 900000) (hta : TysAt w (.slice pa a.kids.length ca) a.kids) (htb : TysAt w (.slice pb b.kids.length cb) b.kids) :
    Calls Try.prog 8 #[.agg #[.int .i64 a.kind, .string a.name, .slice pa a.kids.length ca], .agg #[.int .i64 b.kind, .string b.name, .slice pb b.kids.length cb]] w fun e w' => (∃ sa sn sc, e = .returned (.tuple #[.agg #[.slice sa sn sc], .bool (mt (tsize a) [] a b).isSome])) ∧ Below w.heap.size w w' := by
  refine (pmatch_any ha (by omega) hV v3_few' v3_short' hta htb).mono ?_
  rintro e w' ⟨⟨sv, l, rfl, hs, _⟩, hb⟩
  obtain ⟨sa, sc, rfl⟩ := hs.shape
  exact ⟨⟨sa, _, sc, rfl⟩, hb⟩
set_option maxRecDepth 100000 in
set_option maxHeartbeats 8000000 in
theorem mcases_law (a1 a2 a3 : Option Addr) (n1 n2 n3 c1 c2 c3 : Nat) (w : World) (hl1 : IntsAt w.heap.size a1 n1 w) (hl2 : IntsAt w.heap.size a2 n2 w) (hl3 : IntsAt w.heap.size a3 n3 w) :
    Calls Try.prog 3 #[.slice a1 n1 c1, .slice a2 n2 c2, .slice a3 n3 c3] w fun e w' => e = .returned (.bool true) ∧ Below w.heap.size w w' := by
  have HL1 := Lib.hid hl1; have HL2 := Lib.hid hl2; have HL3 := Lib.hid hl3
  have HF := Lib.hid (mfirst_any w)
  clear hl1 hl2 hl3
  by_cases hb1 : n1 ≤ 60
  · have hb1I : ¬ ((60 : Int) < (n1 : Int)) := by omega
    by_cases hb2 : n2 ≤ 60
    · have hb2I : ¬ ((60 : Int) < (n2 : Int)) := by omega
      by_cases hb3 : n3 ≤ 60
      · have hb3I : ¬ ((60 : Int) < (n3 : Int)) := by omega
        have hn1 : n1 < 1152921504606846976 := by omega
        have hn2 : n2 < 1152921504606846976 := by omega
        have hn3 : n3 < 1152921504606846976 := by omega
        go_enter Try.func3, Try.ntmps3
        go_wp2_with (go_at_call 4; refine HF.out.mono ?_; rintro e w1 ⟨rfl, h1⟩; have HB1 := Lib.hid h1; clear h1 HF)
        go_wp2_with (go_at_call 5; fail)
        have hS1 := seq_new (c := c1) HB1.out HL1.out
        have hB2 := HB1.out.alloc HB1.out.size (.cells #[.slice a1 n1 c1, .int .i64 0] 30)
        have HB2 := Lib.hid hB2
        clear hB2 HB1 HL1
        refine (make_n3 _ _ _ _ _ _ _ hS1 (by decide) hn1).mono ?_
        rintro e W1 ⟨⟨t, u, rfl, hg, hu⟩, _, hf⟩
        obtain ⟨pa, ca, rfl⟩ := hu.shape
        have HB3 := Lib.hid (HB2.out.trans hf.1)
        have HT := Lib.hid hu.tys; have HG := Lib.hid hg
        clear hu hf hg HB2 hS1
        simp only [tyV]
        go_wp2_with (fail)
        have htz : tsize t ≤ 51 := by have := tsize2_text t HG.out.1; have := HG.out.2.2; omega
        have htV := good_in t HG.out.1
        refine mca_here (w := w) (b8 := W1.heap.size) (t := t) (pa := pa) (ca := ca) (mv := .slice a2 n2 c2) (fun V h => by_ret HL2.out h.2 hn2) (fun V h zm hk => case_ret hk htV (by omega) h.1.2) _ (by kernel_rfl) (by kernel_rfl) (by kernel_rfl) (by kernel_rfl) ⟨(BoxT.new HT.out).below (below_d _), (HB3.out.alloc HB3.out.size _).drew⟩ ?_
        intro x V b9 u pb cb hx hM hbu hcu
        have HM := Lib.hid (show M2 w W1.heap.size b9 t u pa pb ca cb V from ⟨⟨hM.1, hbu⟩, hM.2⟩)
        have HCu := Lib.hid hcu
        clear hM hbu hcu HT HB3 HL2
        have huV := HCu.out.2.1
        have huz : tsize u ≤ 1428 := by have := HCu.out.2.2; omega
        generalize W1.heap.size = b8 at *
        simp only [mcaFr, hx]
        simp only [Array.getD_eq_getD_getElem?, List.getElem?_toArray, List.getElem?_cons_zero, List.getElem?_cons_succ, Option.getD_some]
        go_wp2_with (fail)
        refine mcb_here (w := w) (b8 := b8) (b9 := b9) (t := t) (u := u) (pa := pa) (pb := pb) (ca := ca) (cb := cb) (mv := .slice a3 n3 c3) (fun V h => by_ret HL3.out h.2 hn3) (fun V h zm hk => case_ret hk huV (by omega) h.1.2.2) _ (by kernel_rfl) (by kernel_rfl) (by kernel_rfl) (by kernel_rfl) (HM.out.below (below_d _)) ?_
        intro x V b10 tz pc cc hx hM hbz hcz
        have HM0 := Lib.hid (show M3 w b8 b9 b10 t u tz pa pb pc ca cb cc V from ⟨⟨hM.1.1, hM.1.2, hbz⟩, hM.2⟩)
        have HCz := Lib.hid hcz
        clear hM hbz hcz HM HL3
        have hzV := HCz.out.2.1
        have hzz : tsize tz ≤ 39984 := by have := HCz.out.2.2; omega
        simp only [mcbFr, hx]
        simp only [Array.getD_eq_getD_getElem?, List.getElem?_toArray, List.getElem?_cons_zero, List.getElem?_cons_succ, Option.getD_some]
        obtain ⟨x0, x1, x2⟩ := HM0.out.1.1.cells; have lx := HM0.out.1.1.lt; obtain ⟨z0, z1, z2⟩ := HM0.out.1.2.1.cells; have lz := HM0.out.1.2.1.lt
        go_wp2_with (go_at_call 8; fail)
        have hQ := HM0.out
        have HP := pm_ret htV (by omega) (by omega) hQ.1.1.2 hQ.1.2.1.2
        rw [mt_case HCu.out.1] at HP
        have HQ := Lib.hid hQ
        clear x0 x1 x2 lx z0 z1 z2 lz HM0 hQ
        refine HP.mono ?_
        clear HP
        rintro e W2 ⟨⟨sa1, sn1, sc1, rfl⟩, hb⟩
        have HM1 := Lib.hid (HQ.out.below hb)
        clear HQ hb
        obtain ⟨x0, x1, x2⟩ := HM1.out.1.2.1.cells; have lx := HM1.out.1.2.1.lt; obtain ⟨z0, z1, z2⟩ := HM1.out.1.2.2.cells; have lz := HM1.out.1.2.2.lt
        go_wp2_with (go_at_call 8; fail)
        have hQ := HM1.out.below (below_a W2 (.cells #[.slice sa1 sn1 sc1] 36))
        have HP := pm_ret huV (by omega) (by omega) hQ.1.2.1.2 hQ.1.2.2.2
        rw [mt_case HCz.out.1] at HP
        have HQ := Lib.hid hQ
        clear x0 x1 x2 lx z0 z1 z2 lz HM1 hQ
        refine HP.mono ?_
        clear HP
        rintro e W3 ⟨⟨sa2, sn2, sc2, rfl⟩, hb⟩
        have HM2 := Lib.hid (HQ.out.below hb)
        clear HQ hb
        obtain ⟨x0, x1, x2⟩ := HM2.out.1.1.cells; have lx := HM2.out.1.1.lt; obtain ⟨z0, z1, z2⟩ := HM2.out.1.2.2.cells; have lz := HM2.out.1.2.2.lt
        go_wp2_with (go_at_call 8; fail)
        have hQ := HM2.out.below (below_a W3 (.cells #[.slice sa2 sn2 sc2] 36))
        have HP := pm_ret htV (by omega) (by omega) hQ.1.1.2 hQ.1.2.2.2
        rw [mt_case (HCu.out.trans HCz.out)] at HP
        have HQ := Lib.hid hQ
        clear x0 x1 x2 lx z0 z1 z2 lz HM2 hQ
        refine HP.mono ?_
        clear HP
        rintro e W4 ⟨⟨sa3, sn3, sc3, rfl⟩, hb⟩
        have HM3 := Lib.hid (HQ.out.below hb)
        clear HQ hb
        obtain ⟨bk, hbk⟩ : ∃ b, (mt (tsize tz) [] tz t).isSome = b := ⟨_, rfl⟩
        have HBK := Lib.hid hbk
        obtain ⟨x0, x1, x2⟩ := HM3.out.1.2.2.cells; have lx := HM3.out.1.2.2.lt; obtain ⟨z0, z1, z2⟩ := HM3.out.1.1.cells; have lz := HM3.out.1.1.lt
        go_wp2_with (go_at_call 8; fail)
        have hQ := HM3.out.below (below_a W4 (.cells #[.slice sa3 sn3 sc3] 36))
        have HP := pm_ret hzV (by omega) (by omega) hQ.1.2.2.2 hQ.1.1.2
        rw [hbk] at HP
        have HQ := Lib.hid hQ
        clear x0 x1 x2 lx z0 z1 z2 lz HM3 hQ
        refine HP.mono ?_
        clear HP
        rintro e W5 ⟨⟨sa4, sn4, sc4, rfl⟩, hb⟩
        have HM4 := Lib.hid (HQ.out.below hb)
        clear HQ hb
        clear hbk
        obtain ⟨x0, x1, x2⟩ := HM4.out.1.1.cells; have lx := HM4.out.1.1.lt; obtain ⟨z0, z1, z2⟩ := HM4.out.1.1.cells; have lz := HM4.out.1.1.lt
        go_wp2_with (go_at_call 9; fail)
        have hQ := HM4.out.below (below_a W5 (.cells #[.slice sa4 sn4 sc4] 36))
        have HP := pboth_any (V := V3) (by omega) (by omega) htV htV v3_short' hQ.1.1.2 hQ.1.1.2
        rw [mt_self, Bool.and_self] at HP
        have HQ := Lib.hid hQ
        clear x0 x1 x2 lx z0 z1 z2 lz HM4 hQ
        refine HP.mono ?_
        clear HP
        rintro e W6 ⟨rfl, hb⟩
        have HM5 := Lib.hid (HQ.out.below hb)
        clear HQ hb
        obtain ⟨x0, x1, x2⟩ := HM5.out.1.1.cells; have lx := HM5.out.1.1.lt; obtain ⟨z0, z1, z2⟩ := HM5.out.1.2.2.cells; have lz := HM5.out.1.2.2.lt
        go_wp2_with (go_at_call 9; fail)
        have hQ := HM5.out
        have HP := pboth_any (V := V3) (by omega) (by omega) htV hzV v3_short' hQ.1.1.2 hQ.1.2.2.2
        rw [mt_case (HCu.out.trans HCz.out), HBK.out, Bool.true_and] at HP
        have HQ := Lib.hid hQ
        clear x0 x1 x2 lx z0 z1 z2 lz HM5 hQ
        refine HP.mono ?_
        clear HP
        rintro e W7 ⟨rfl, hb⟩
        have HM6 := Lib.hid (HQ.out.below hb)
        clear HQ hb
        cases bk
        all_goals
          obtain ⟨x0, x1, x2⟩ := HM6.out.1.2.2.cells; have lx := HM6.out.1.2.2.lt; obtain ⟨z0, z1, z2⟩ := HM6.out.1.1.cells; have lz := HM6.out.1.1.lt
          go_wp2_with (go_at_call 9; fail)
          have hQ := HM6.out
          have HP := pboth_any (V := V3) (by omega) (by omega) hzV htV v3_short' hQ.1.2.2.2 hQ.1.1.2
          rw [mt_case (HCu.out.trans HCz.out), HBK.out, Bool.and_true] at HP
          have HQ := Lib.hid hQ
          clear x0 x1 x2 lx z0 z1 z2 lz HM6 hQ
          refine HP.mono ?_
          clear HP
          rintro e W8 ⟨rfl, hb⟩
          have HM7 := Lib.hid (HQ.out.below hb)
          clear HQ hb
          go_wp2
          go_ret
          exact ⟨rfl, HM7.out.2⟩
      · have hb3I : ((60 : Int) < (n3 : Int)) := by omega
        go_enter Try.func3, Try.ntmps3
        go_wp2_with (go_at_call 4; refine HF.out.mono ?_; rintro e w1 ⟨rfl, h1⟩; have HB1 := Lib.hid h1; clear h1 HF)
        go_ret
        exact ⟨rfl, HB1.out⟩
    · have hb2I : ((60 : Int) < (n2 : Int)) := by omega
      go_enter Try.func3, Try.ntmps3
      go_wp2_with (go_at_call 4; refine HF.out.mono ?_; rintro e w1 ⟨rfl, h1⟩; have HB1 := Lib.hid h1; clear h1 HF)
      go_ret
      exact ⟨rfl, HB1.out⟩
  · have hb1I : ((60 : Int) < (n1 : Int)) := by omega
    go_enter Try.func3, Try.ntmps3
    go_wp2_with (go_at_call 4; refine HF.out.mono ?_; rintro e w1 ⟨rfl, h1⟩; have HB1 := Lib.hid h1; clear h1 HF)
    go_ret
    exact ⟨rfl, HB1.out⟩
end Go.Proofs.Ytdcfemojkdoakaa
/- What the plain rows of this seat share. -/
namespace Go.Proofs.Ytdcfemojkdoakaa
open Go.ChangeShapes Go.WideShapes Go.ChangeAt Go.RowKit

theorem own : ownKnob Try.prog.godebug = none := by kernel_rfl
theorem laidOut : laidOutB Try.prog = true := by kernel_rfl
theorem bounds_i64 {z : Int} (h : (Lit.int .i64 z).wf = true) : -9223372036854775808 ≤ z ∧ z ≤ 9223372036854775807 := by
  have h1 : IntKind.i64.min = -9223372036854775808 := rfl
  have h2 : IntKind.i64.max = 9223372036854775807 := rfl
  simp only [Lit.wf, Bool.and_eq_true, decide_eq_true_eq] at h
  omega
end Go.Proofs.Ytdcfemojkdoakaa
/- Slices of numbers that came in, for the plain rows. -/
namespace Go.Proofs.Ytdcfemojkdoakaa
open Go.ChangeShapes Go.WideShapes Go.ChangeAt Go.RowKit

/-- A slice of numbers that came in, nil or not, holds some numbers. -/
theorem opened_ints {H : Type} {enc : TypeId × Value → H} {W : World} {a0 : Option Addr} {len cap : Nat} {d0 : DataW H} {p : List MemPlace}
    (h0 : DataW.Trod enc Try.prog W 0 (fun _ => true) true 22 (.slice a0 len cap) d0 p) : IntsAt W.heap.size a0 len W := by
  obtain ⟨fuel, hf⟩ := h0
  rcases open_ints Try.underlying22 Try.underlying3 (by kernel_rfl) hf with ⟨hcs, _⟩ | ⟨x, l, c, zs, hcs, _, hl, hm, hz, _, hcell, hwz⟩
  · simp [Value.cells] at hcs
    obtain ⟨rfl, rfl, rfl⟩ := hcs
    exact .inl rfl
  · simp [Value.cells] at hcs
    obtain ⟨rfl, rfl, rfl⟩ := hcs
    simp only [if_true] at hz
    by_cases h0 : len = 0
    · exact .inl h0
    · obtain ⟨b, o, spot⟩ := x
      have hc0 := hcell 0 (by omega)
      have hspot : spot = none := by simpa [Addr.add] using World.cell?_spot hc0
      subst hspot
      have ea : ∀ j, (⟨b, o, none⟩ : Addr).add j = ⟨b, o + j, none⟩ := fun j => by unfold Addr.add; split <;> simp_all
      refine .inr ⟨b, o, rfl, World.block_lt_of_cell? _ _ hc0, fun j hj => ?_⟩
      have hc := hcell j (by omega)
      rw [ea] at hc
      have hjz : j < zs.length := by omega
      exact ⟨zs[j], by rw [hc]; simp [List.getD, List.getElem?_eq_getElem hjz], bounds_i64 (hwz _ (List.getElem_mem hjz))⟩

end Go.Proofs.Ytdcfemojkdoakaa
