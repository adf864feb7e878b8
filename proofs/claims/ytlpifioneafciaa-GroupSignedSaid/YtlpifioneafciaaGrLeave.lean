/- group.search's leave. -/
import Derived.Test.YtlpifioneafciaaGrEnd
namespace Go.Proofs.Ytlpifioneafciaa
open Go.RowKit Go.Maps Go.Lib
attribute [local go_sem] Oper.semAt_some

theorem leave_eq {s : SS} {v : Nat} (h : s.low v = s.met v) : s.leave v = ({ s with path := s.path.dropLast } : SS).close v := by unfold SS.leave; rw [if_pos h]
theorem leave_ne {s : SS} {v u : Nat} (h : s.low v ≠ s.met v) (hu : s.path.dropLast.getLastD 0 = u) : s.leave v = { s with path := s.path.dropLast, low := updN s.low u (min (s.low u) (s.low v)) } := by unfold SS.leave; rw [if_neg h]; subst hu; rfl
set_option maxRecDepth 100000 in
set_option maxHeartbeats 4000000 in
theorem leave_any {B p n qs cs qm ql qr v : Nat} {pv ov : Value} {l : List Nat} {s : SS} (hl : s.path = l ++ [v]) (hvn : v < n) (hvo : v ∈ s.opn) (hn : ∀ x ∈ s.opn, x < n) (hpn : ∀ x ∈ l, x < n) (hne : s.low v ≠ s.met v → l ≠ []) (hr : s.rings + 1 < 1000000000) (hol : s.opn.length < 1000000000) (hpl : s.path.length < 1000000000) (w : World) (h : SM B p n qs cs qm ql qr pv ov s w) :
    Calls Try.prog 36 #[.pointer (some ⟨p, 0, none⟩), .int .i64 (v : Int)] w fun e w' => e = .returned (.tuple #[]) ∧ (∃ pv' ov', SM B p n qs cs qm ql qr pv' ov' (s.leave v) w') ∧ Below B w w' := by
  have ho := h.path
  rw [hl] at ho
  obtain ⟨g, cap, rfl, hcap, hg, hxc, hBg⟩ := own_last ho
  obtain ⟨y0, y1, y2, y3, y4, y5, y6, y7⟩ := cells8 h.blk
  have fy := Lib.frozen_of_heap h.blk 4
  have hpw := heap_at h.blk
  have hll : l.length + 1 < 1000000000 := by have := congrArg List.length hl; simp at this; omega
  have H1 := Lib.hid ((h.popPath hl rfl).drew)
  have HB1 := Lib.hid (((Below.refl B w).setCell (p := ⟨p, 4, none⟩) h.low'.1 (.slice (some ⟨g, 0, none⟩) l.length cap)).drew)
  have hvI : (v : Int) < (n : Int) := by omega
  have hv0 : (0 : Int) ≤ (v : Int) := by omega
  have hdl : s.path.dropLast = l := by rw [hl]; simp
  have HDl := Lib.hid hdl
  have HO := Lib.hid (And.intro hvo (And.intro hn hpn))
  have HNe := Lib.hid hne
  obtain ⟨m, hm⟩ : ∃ m, l.length = m := ⟨_, rfl⟩
  have HM := Lib.hid hm
  rw [hm] at hcap y4 H1 HB1 hll
  clear h ho hl hdl hvo hn hpn hne hxc hm
  go_enter Try.func36, Try.ntmps36
  go_wp2_with fail
  go_region
  generalize (w.setCell ⟨p, 4, none⟩ (.slice (some ⟨g, 0, none⟩) m cap)).drew = W1 at *
  clear y0 y1 y2 y3 y4 y5 y6 y7 fy
  obtain ⟨y0, y1, y2, y3, y4, y5, y6, y7⟩ := cells8 H1.out.blk
  obtain ⟨z1, z2, z3⟩ := row_cell H1.out.met hvn
  obtain ⟨u1, u2, u3⟩ := row_cell H1.out.low hvn
  simp only at z1 u1
  go_wp2_with fail
  go_region
  by_cases hlm : s.low v = s.met v
  · have hlmI : (s.low v : Int) = (s.met v : Int) := by omega
    have hE := end_any (v := v) (s := { s with path := l }) HO.out.1 HO.out.2.1 hr hol W1.drew H1.out.drew
    have HE := Lib.hid hE
    have HLe := Lib.hid (leave_eq hlm)
    clear hE hlm
    go_wp2_with (go_at_call 41; fail)
    refine HE.out.mono ?_
    rintro e w5 ⟨rfl, ⟨ov5, h5⟩, hb5⟩
    have H5 := Lib.hid h5
    have HB5 := Lib.hid (HB1.out.drew.trans hb5)
    clear h5 hb5 HE
    go_wp2_with fail
    exact bodyPost_ret (v := .tuple #[]) (by simp [results, Try.results36, go_sem]) rfl ⟨rfl, ⟨_, _, by rw [HLe.out, HDl.out]; exact H5.out⟩, HB5.out⟩
  · have hlmI : ¬ ((s.low v : Int) = (s.met v : Int)) := by omega
    obtain ⟨l2, u, hu⟩ : ∃ l2 u, l = l2 ++ [u] := ⟨l.dropLast, l.getLast (HNe.out hlm), (List.dropLast_concat_getLast (HNe.out hlm)).symm⟩
    have hun : u < n := HO.out.2.2 u (by rw [hu]; simp)
    have hop := H1.out.path
    simp only [hu] at hop
    obtain ⟨g', cap', e', hcap', hg', hxc', hBg'⟩ := own_last hop
    have hml : m = l2.length + 1 := by rw [← HM.out, hu]; simp
    obtain ⟨k, hk⟩ : ∃ k, l2.length = k := ⟨_, rfl⟩
    rw [hk] at hml hxc'
    subst hml
    cases e'
    obtain ⟨q1, q2, q3⟩ := row_cell H1.out.low hun
    simp only at q1
    have HLe := Lib.hid (leave_ne (u := u) hlm (by rw [HDl.out, hu]; simp))
    have H5 := Lib.hid ((H1.out.setLow (r := u) (x := min (s.low u) (s.low v)) hun))
    have HB5 := Lib.hid (HB1.out.setCell (p := ⟨ql, u, none⟩) (H1.out.low.ge rfl) (.int .i64 ((min (s.low u) (s.low v) : Nat) : Int)))
    have huI : (u : Int) < (n : Int) := by omega
    have hu0 : (0 : Int) ≤ (u : Int) := by omega
    rw [show ((min (s.low u) (s.low v) : Nat) : Int) = min (s.low u : Int) (s.low v : Int) from by omega] at H5 HB5
    clear hu hk hop HNe hlm
    go_wp2_with fail
    go_region
    go_wp2_with fail
    go_region
    go_wp2_with fail
    go_end0
    exact ⟨rfl, ⟨_, _, by rw [HLe.out, HDl.out]; exact H5.out.drew.drew.drew⟩, HB5.out.drew.drew.drew⟩
end Go.Proofs.Ytlpifioneafciaa
