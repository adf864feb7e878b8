/- group.search's from. -/
import Derived.Test.YtlpifioneafciaaGrLeave
import Derived.Test.YtlpifioneafciaaGrWF
import Derived.Deep.LoopGhost
import Derived.WalkMore
namespace Go.Proofs.Ytlpifioneafciaa
open Go.RowKit Go.Maps Go.Lib
attribute [local go_sem] Oper.semAt_some

def lenV : Option Value → Nat
  | some (.slice _ k _) => k
  | _ => 0
def leftW (q n : Nat) (w : World) : Nat := ((List.range n).map fun i => lenV (w.cell? ⟨q, i, none⟩)).sum
theorem rest_cell {B q n i : Nat} {rest : Nat → List Nat} {w : World} (h : RestAt B q n rest w) (hi : i < n) : ∃ v, w.cell? ⟨q, i, none⟩ = some v ∧ RowN B v (rest i) w ∧ w.frozen? ⟨q, i, none⟩ = false ∧ q < w.heap.size := by
  obtain ⟨cs, h1, h2, h3⟩ := h
  obtain ⟨v, e, hr⟩ := h3 i hi
  exact ⟨v, by rw [Lib.cell_of_heap h1]; exact e, hr, Lib.frozen_of_heap h1 i, heap_at h1⟩
theorem leftW_eq {B p n qs cs qm ql qr : Nat} {pv ov : Value} {s : SS} {w : World} (h : SM B p n qs cs qm ql qr pv ov s w) : leftW qs n w = leftN n s := by
  unfold leftW leftN
  congr 1
  refine List.map_congr_left fun i hi => ?_
  obtain ⟨v, e, hr, _⟩ := rest_cell h.rest (List.mem_range.1 hi)
  obtain ⟨a, c, rfl⟩ := hr.shape
  rw [e]; rfl
def pathW (p : Nat) (w : World) : Nat := lenV (w.cell? ⟨p, 4, none⟩)
theorem pathW_eq {B p n qs cs qm ql qr : Nat} {pv ov : Value} {s : SS} {w : World} (h : SM B p n qs cs qm ql qr pv ov s w) : pathW p w = s.path.length := by
  obtain ⟨a, c, e⟩ := h.path.shape
  have := (cells8 h.blk).2.2.2.2.1
  unfold pathW
  rw [this, e]; rfl
/-- One need, and what is left behind it. -/
theorem RowN.cons {B : Nat} {v : Value} {a : Nat} {r : List Nat} {w : World} (h : RowN B v (a :: r) w) : ∃ g o cap, v = .slice (some ⟨g, o, none⟩) (r.length + 1) cap ∧ r.length + 1 ≤ cap ∧ g < B ∧ w.cell? ⟨g, o, none⟩ = some (.int .i64 (a : Int)) ∧ (r ≠ [] → cap ≠ 1) ∧ (r = [] → ∀ x c, RowN B (.slice x 0 c) r w) ∧ (cap ≠ 1 → RowN B (.slice (some ⟨g, o + 1, none⟩) r.length (cap - 1)) r w) := by
  rcases h with ⟨e, _⟩ | ⟨g, o, cap, rfl, hl, hg, hc⟩
  · cases e
  · have h0 := hc 0 (by simp)
    simp only [List.length_cons] at hl
    refine ⟨g, o, cap, rfl, hl, hg, by simpa [List.getD] using h0, fun hr e => ?_, fun hr x c => .inl ⟨hr, x, c, rfl⟩, fun _ => .inr ⟨g, o + 1, cap - 1, rfl, by omega, hg, fun i hi => ?_⟩⟩
    · cases r with
      | nil => exact hr rfl
      | cons b r => simp at hl; omega
    · have := hc (i + 1) (by simp; omega)
      rw [show o + 1 + i = o + (i + 1) by omega, this]
      simp [List.getD]
set_option maxRecDepth 100000 in
set_option maxHeartbeats 8000000 in
theorem from_any {B p n qs cs qm ql qr v0 : Nat} {pv ov : Value} {s : SS} (hI : Idle n s) (hv : v0 < n) (hz : s.met v0 = 0) (hn : n < 100000000) (hLN : leftN n s < 1000000000) (w : World) (h : SM B p n qs cs qm ql qr pv ov s w) :
    Calls Try.prog 24 #[.pointer (some ⟨p, 0, none⟩), .int .i64 (v0 : Int)] w fun e w' => e = .returned (.tuple #[]) ∧ (∃ pv' ov' k, SM B p n qs cs qm ql qr pv' ov' (SS.run k (s.meet v0)) w' ∧ Idle n (SS.run k (s.meet v0)) ∧ leftN n (SS.run k (s.meet v0)) ≤ leftN n s) ∧ Below B w w' := by
  have hm := meet_any (v := v0) hv (by have := hI.ct; omega) (by rw [hI.path]; decide) (by rw [hI.opn]; decide) w h
  have HM := Lib.hid hm
  have HW := Lib.hid (hI.meet hv hz)
  clear hm h hI hz
  go_enter Try.func24, Try.ntmps24
  go_wp2
  go_step3
  go_wp2_with (go_at_call 35; fail)
  refine HM.out.mono ?_
  rintro e w1 ⟨rfl, ⟨pv1, ov1, h1⟩, hb1⟩
  have H1 := Lib.hid h1
  have HB1 := Lib.hid hb1
  clear h1 hb1 HM
  go_wp2_with fail
  go_step3
  go_wp2_with fail
  go_loopg [4, 5] (2 * leftN n (s.meet v0) + (s.meet v0).path.length) (fun g _ _ wr => ∃ (t : SS) (pv' ov' : Value) (k : Nat), Hid (2 * leftN n t + t.path.length ≤ g ∧ leftN n t ≤ leftN n s) ∧ Hid (t = SS.run k (s.meet v0) ∧ WF n v0 t) ∧ Hid (SM B p n qs cs qm ql qr pv' ov' t wr) ∧ Hid (Below B w wr))
  case atStart => exact ⟨s.meet v0, pv1, ov1, 0, Lib.hid ⟨Nat.le_refl _, Nat.le_refl _⟩, Lib.hid ⟨rfl, HW.out⟩, H1, HB1⟩
  case round =>
    obtain ⟨t, pv', ov', k, hG, hT, hS, hB⟩ := hrel
    clear H1 HB1 HW
    generalize gk = gO at *
    obtain ⟨y0, y1, y2, y3, y4, y5, y6, y7⟩ := cells8 hS.out.blk
    obtain ⟨pa, pc, hpv⟩ := hS.out.path.shape
    subst hpv
    by_cases hp : t.path = []
    · have hlI : ¬ ((0 : Int) < (t.path.length : Int)) := by rw [hp]; decide
      have HE := Lib.hid (show SM B p n qs cs qm ql qr (.slice pa t.path.length pc) ov' (SS.run k (s.meet v0)) wr ∧ Idle n (SS.run k (s.meet v0)) ∧ leftN n (SS.run k (s.meet v0)) ≤ leftN n s from by rw [← hT.out.1]; exact ⟨hS.out, hT.out.2.idle hp, hG.out.2⟩)
      clear hp hT hS
      go_wp2_with fail
      try rw [Exit.noGoto_ret]
      go_end0
      exact ⟨rfl, ⟨_, _, k, HE.out.1, HE.out.2.1, HE.out.2.2⟩, hB.out⟩
    · obtain ⟨l, at_, hl⟩ : ∃ l a, t.path = l ++ [a] := ⟨t.path.dropLast, t.path.getLast hp, (List.dropLast_concat_getLast hp).symm⟩
      have hlen : t.path.length = l.length + 1 := by rw [hl]; simp
      have hop := hS.out.path
      rw [hl] at hop
      obtain ⟨g, cap, e', hcap, hg, hxc, hBg⟩ := own_last hop
      obtain ⟨m, hm⟩ : ∃ m, l.length = m := ⟨_, rfl⟩
      have hpn : t.path.length ≤ n := by
        have h1 := pw_nodup hT.out.2.ps
        have := nodup_range_len h1 (fun x hx => hT.out.2.on x (hT.out.2.pn x hx))
        exact this
      rw [hlen, hm] at y4 hpn
      rw [hm] at e' hcap hxc
      rw [hlen, hm] at hS
      have e1 := congrArg (fun v => match v with | Value.slice a _ c => (a, c) | _ => (none, 0)) e'
      simp at e1
      obtain ⟨rfl, rfl⟩ := e1
      have hmI : (0 : Int) < (m : Int) + 1 := by omega
      have M0 := Lib.hid (show 2 * leftN n t + (m + 1) ≤ gO ∧ leftN n t ≤ leftN n s from by have := hG.out; rw [hlen, hm] at this; exact this)
      have HL := Lib.hid hl
      have HMm := Lib.hid hm
      have hatn : at_ < n := hT.out.2.on at_ (hT.out.2.pn at_ (by rw [hl]; simp))
      have hatI : (at_ : Int) < (n : Int) := by omega
      have hat0 : (0 : Int) ≤ (at_ : Int) := by omega
      clear hp hl hlen hop hm e'
      go_wp2_with fail
      go_region
      go_wp2_with fail
      go_loopg [5] (leftN n t) (fun gi _ W => ∃ (t2 : SS) (pv2 ov2 : Value) (k2 : Nat), Hid (leftN n t2 ≤ gi ∧ 2 * leftN n t2 + (m + 1) ≤ gO ∧ leftN n t2 ≤ leftN n s) ∧ Hid (t2 = SS.run k2 (s.meet v0) ∧ WF n v0 t2 ∧ t2.path = l ++ [at_]) ∧ Hid (SM B p n qs cs qm ql qr pv2 ov2 t2 W) ∧ Hid (Below B w W))
      case atStart => exact ⟨t, _, ov', k, Lib.hid ⟨Nat.le_refl _, M0.out⟩, Lib.hid ⟨hT.out.1, hT.out.2, HL.out⟩, Lib.hid hS.out.drew, Lib.hid hB.out.drew⟩
      case round =>
        rename World => W2
        obtain ⟨t2, pv2, ov2, k2, hG2, hT2, hS2, hB2⟩ := hrel
        clear hS hT hB hG M0 HL y0 y1 y2 y3 y4 y5 y6 y7
        obtain ⟨y0, y1, y2, y3, y4, y5, y6, y7⟩ := cells8 hS2.out.blk
        obtain ⟨rv, x1, hrow, x2, x3⟩ := rest_cell hS2.out.rest hatn
        cases hrs : t2.rest at_ with
        | nil =>
          rw [hrs] at hrow
          obtain ⟨ra, rc, rfl⟩ := hrow.shape
          have HLv := Lib.hid (leave_any (v := at_) (l := l) hT2.out.2.2 hatn (hT2.out.2.1.pn at_ (by rw [hT2.out.2.2]; simp)) hT2.out.2.1.on (fun x hx => hT2.out.2.1.on x (hT2.out.2.1.pn x (by rw [hT2.out.2.2]; exact List.mem_append_left _ hx))) (hT2.out.2.1.leave hT2.out.2.2).2.2.1 (by have := hT2.out.2.1.rg; have := hT2.out.2.1.cn; omega) (by have := hT2.out.2.1.rg; have := hT2.out.2.1.cn; omega) (by rw [hT2.out.2.2]; simp [HMm.out]; omega) W2 hS2.out)
          have HSt := Lib.hid (step_end hT2.out.2.2 hrs)
          have HWl := Lib.hid (hT2.out.2.1.leave hT2.out.2.2)
          clear hrow hrs
          go_wp2_with (go_at_call 36; fail)
          refine HLv.out.mono ?_
          rintro e w5 ⟨rfl, ⟨pv5, ov5, h5⟩, hb5⟩
          have H5 := Lib.hid h5
          have HB5 := Lib.hid (hB2.out.trans hb5)
          have hgo : 0 < gO := by have := hG2.out.2.1; omega
          clear h5 hb5 HLv y0 y1 y2 y3 y4 y5 y6 y7 x1 x2 x3
          go_wp2_with fail
          go_roundg (gO - 1)
          case measure => omega
          case rel => exact ⟨t2.leave at_, pv5, ov5, k2 + 1, Lib.hid (by
              have h1 := HWl.out.2.2.2; have h2 := HWl.out.2.1; have h3 := hG2.out.2
              have h4 : leftN n (t2.leave at_) = leftN n t2 := by unfold leftN; rw [h1]
              rw [h4, h2, HMm.out]; exact ⟨by omega, h3.2⟩), Lib.hid ⟨by rw [← HSt.out, hT2.out.1, run_step], HWl.out.1⟩, H5, HB5⟩
        | cons a r =>
          rw [hrs] at hrow
          obtain ⟨gr, o, cap2, rfl, hcap2, hgB, hxa, hc1, hc2, hc3⟩ := hrow.cons
          have han : a < n := hT2.out.2.1.rests at_ hatn a (by rw [hrs]; exact List.mem_cons_self ..)
          have hrl : r.length + 1 < 4611686018427387904 := by have h1 := rest_le t2 hatn; rw [hrs] at h1; have h2 := hG2.out.2.2; simp at h1; omega
          have HRow := Lib.hid (And.intro hc1 (And.intro hc2 hc3))
          have HRs := Lib.hid hrs
          clear hrow hrs hc1 hc2 hc3
          go_wp2_with fail
          go_region
          have hvn : RowN B (.slice (if cap2 = 1 then some ⟨gr, o, none⟩ else some ⟨gr, o + 1, none⟩) r.length (cap2 - 1)) r W2 := by
            by_cases e : cap2 = 1
            · have hr0 : r = [] := Classical.byContradiction fun h => HRow.out.1 h e
              rw [if_pos e, show r.length = 0 from by rw [hr0]; rfl, e]
              exact .inl ⟨hr0, _, _, rfl⟩
            · rw [if_neg e]; exact HRow.out.2.2 e
          generalize (if cap2 = 1 then some (⟨gr, o, none⟩ : Addr) else some ⟨gr, o + 1, none⟩) = pt at *
          have H3 := Lib.hid ((hS2.out.setRest hatn hvn).drew)
          have HB3 := Lib.hid ((hB2.out.setCell (p := ⟨qs, at_, none⟩) hS2.out.low'.2 (.slice pt r.length (cap2 - 1))).drew)
          generalize (W2.setCell ⟨qs, at_, none⟩ (.slice pt r.length (cap2 - 1))).drew = W3 at *
          clear hvn hS2 hB2 y0 y1 y2 y3 y4 y5 y6 y7 x1 x2 x3 hxa
          obtain ⟨y0, y1, y2, y3, y4, y5, y6, y7⟩ := cells8 H3.out.blk
          obtain ⟨z1, z2, z3⟩ := row_cell H3.out.met han
          simp only at z1 y6 y7
          have haI : (a : Int) < (n : Int) := by omega
          have ha0 : (0 : Int) ≤ (a : Int) := by omega
          have HOne := Lib.hid (left_one hatn HRs.out)
          by_cases hz : t2.met a = 0
          · have hzI : (t2.met a : Int) = 0 := by omega
            have HMe := Lib.hid (meet_any (v := a) (s := { t2 with rest := fun i => if i = at_ then r else t2.rest i }) han (by have := hT2.out.2.1.cn; show t2.count < _; omega) (by show t2.path.length < _; rw [hT2.out.2.2]; simp [HMm.out]; omega) (by show t2.opn.length < _; have := hT2.out.2.1.rg; have := hT2.out.2.1.cn; omega) W3 H3.out)
            have HSt := Lib.hid (step_new hT2.out.2.2 HRs.out hz)
            have HWn := Lib.hid (hT2.out.2.1.new hT2.out.2.2 HRs.out hz)
            clear hz
            go_wp2_with (go_at_call 35; fail)
            refine HMe.out.mono ?_
            rintro e w5 ⟨rfl, ⟨pv5, ov5, h5⟩, hb5⟩
            have H5 := Lib.hid h5
            have HB5 := Lib.hid (HB3.out.trans hb5)
            have hgo : 0 < gO := by have := hG2.out.2.1; omega
            clear h5 hb5 HMe y0 y1 y2 y3 y4 y5 y6 y7 z1 z2 z3
            go_wp2_with fail
            go_roundg (gO - 1)
            case measure => omega
            case rel => exact ⟨t2.step, pv5, ov5, k2 + 1, Lib.hid (by
                have h3 := hG2.out.2
                have h4 : leftN n t2.step + 1 = leftN n t2 := by rw [HSt.out, HOne.out]; rfl
                have h5 : t2.step.path.length = m + 2 := by rw [HSt.out]; show (t2.path ++ [a]).length = m + 2; rw [hT2.out.2.2]; simp [HMm.out]
                rw [h5]; exact ⟨by omega, by omega⟩), Lib.hid ⟨by rw [hT2.out.1, run_step], HWn.out⟩, Lib.hid (by rw [HSt.out]; exact H5.out), HB5⟩
          · have hzI : ¬ ((t2.met a : Int) = 0) := by omega
            obtain ⟨q1, q2, q3⟩ := row_cell H3.out.low hatn
            simp only at q1
            have H5 := Lib.hid (H3.out.setLow (r := at_) (x := min (t2.low at_) (t2.met a)) hatn).drew
            have HB5 := Lib.hid (HB3.out.setCell (p := ⟨ql, at_, none⟩) (H3.out.low.ge rfl) (.int .i64 ((min (t2.low at_) (t2.met a) : Nat) : Int))).drew
            rw [show ((min (t2.low at_) (t2.met a) : Nat) : Int) = min (t2.low at_ : Int) (t2.met a : Int) from by omega] at H5 HB5
            have HSt := Lib.hid (step_old hT2.out.2.2 HRs.out hz)
            have HWo := Lib.hid (hT2.out.2.1.old hT2.out.2.2 HRs.out hz (by unfold grTop; omega))
            have hgk : 0 < gk := by have h1 := hG2.out.1; have h2 := HOne.out; omega
            go_wp2_with fail
            go_region
            go_wp2_with fail
            go_roundg (gk - 1)
            case measure => omega
            case rel => exact ⟨t2.step, _, _, k2 + 1, Lib.hid (by
                have h3 := hG2.out
                have h4 : leftN n t2.step + 1 = leftN n t2 := by rw [HSt.out, HOne.out]; rfl
                exact ⟨by omega, by omega, by omega⟩), Lib.hid ⟨by rw [hT2.out.1, run_step], HWo.out, by rw [HSt.out]; exact hT2.out.2.2⟩, Lib.hid (by rw [HSt.out]; exact H5.out), HB5⟩
end Go.Proofs.Ytlpifioneafciaa
