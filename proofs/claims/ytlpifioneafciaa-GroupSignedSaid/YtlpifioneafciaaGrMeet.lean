/- group.search's meet. -/
import Derived.Test.YtlpifioneafciaaGrSM
import Derived.Deep.RegionLaw
import Derived.Deep.AppendLies
namespace Go.Proofs.Ytlpifioneafciaa
open Go.RowKit Go.Maps Go.Lib
attribute [local go_sem] Oper.semAt_some

set_option maxRecDepth 100000 in
set_option maxHeartbeats 4000000 in
theorem meet_any {B p n qs cs qm ql qr v : Nat} {pv ov : Value} {s : SS} (hv : v < n) (hc : s.count < 1000000000) (hpl : s.path.length < 1000000000) (hol : s.opn.length < 1000000000) (w : World) (h : SM B p n qs cs qm ql qr pv ov s w) :
    Calls Try.prog 35 #[.pointer (some ⟨p, 0, none⟩), .int .i64 (v : Int)] w fun e w' => e = .returned (.tuple #[]) ∧ (∃ pv' ov', SM B p n qs cs qm ql qr pv' ov' (s.meet v) w') ∧ Below B w w' := by
  obtain ⟨i0, hi, hz0, hz1, hz2⟩ := info_parts Try.infoInt0
  obtain ⟨x0, x1, x2, x3, x4, x5, x6, x7⟩ := cells8 h.blk
  have f6 := Lib.frozen_of_heap h.blk 6
  have H1 := Lib.hid (h.setCount (s.count + 1))
  have HB1 := Lib.hid ((Below.refl B w).setCell (p := ⟨p, 6, none⟩) h.low'.1 (.int .i64 ((s.count + 1 : Nat) : Int)))
  have hvI : (v : Int) < (n : Int) := by omega
  have hv0 : (0 : Int) ≤ (v : Int) := by omega
  clear h
  go_enter Try.func35, Try.ntmps35
  go_wp2_with fail
  rw [show ((s.count + 1 : Nat) : Int) = (s.count : Int) + 1 from by omega] at H1 HB1
  generalize w.setCell ⟨p, 6, none⟩ (.int .i64 ((s.count : Int) + 1)) = W1 at *
  obtain ⟨y0, y1, y2, y3, y4, y5, y6, y7⟩ := cells8 H1.out.blk
  obtain ⟨z1, z2, z3⟩ := row_cell H1.out.met hv
  obtain ⟨u1, u2, u3⟩ := row_cell H1.out.low hv
  have hne := H1.out.ml
  clear x0 x1 x2 x3 x4 x5 x6 x7 f6
  go_region
  have H2 := Lib.hid ((H1.out.setMet (x := s.count + 1) hv).setLow (x := s.count + 1) hv)
  have HB2 := Lib.hid ((HB1.out.setCell (p := ⟨qm, v, none⟩) (H1.out.met.ge rfl) (.int .i64 ((s.count + 1 : Nat) : Int))).setCell (p := ⟨ql, v, none⟩) (H1.out.low.ge rfl) (.int .i64 ((s.count + 1 : Nat) : Int)))
  rw [show ((s.count + 1 : Nat) : Int) = (s.count : Int) + 1 from by omega] at H2 HB2
  have H3 := Lib.hid (SM.drew H2.out)
  have HB3 := Lib.hid HB2.out.drew
  generalize ((W1.setCell ⟨qm, v, none⟩ (.int .i64 ((s.count : Int) + 1))).setCell ⟨ql, v, none⟩ (.int .i64 ((s.count : Int) + 1))).drew = W3 at *
  clear y0 y1 y2 y3 y4 y5 y6 y7 z1 z2 z3 u1 u2 u3 hne H1 HB1 H2 HB2
  obtain ⟨y0, y1, y2, y3, y4, y5, y6, y7⟩ := cells8 H3.out.blk
  obtain ⟨pa, pc, hpv⟩ := H3.out.path.shape
  obtain ⟨oa, oc, hov⟩ := H3.out.opn.shape
  have hpw := heap_at H3.out.blk
  have hbw : B ≤ W3.heap.size := by have := H3.out.low'.1; omega
  simp only at hpv hov
  subst hpv hov
  have HRp := Lib.hid (show (W3.alloc (.cells #[.int .i64 (v : Int)] 3)).ownsRow B 3 1 (.slice pa s.path.length pc) s.path.length (intsV s.path) from H3.out.path.alloc _)
  go_wp2_with (at_builtin; refine wpList_append_lies _ rfl _ _ 22 rfl B 3 i0 (.int .i64 0) 1 8 Try.underlying22 hi hz0 hz1 hz2 rfl (by decide) _ s.path.length (intsV s.path) rfl HRp.out ⟨W3.heap.size, 0, none⟩ 1 1 [.int .i64 (v : Int)] rfl rfl (frz_oneI _ _ _) (by simp [Value.oneCell']) (by decide) ?p3 ?p4 ?p5 _ rfl ?_)
  case p3 => unfold maxLen; omega
  case p4 => omega
  case p5 => first | omega | (simp; omega)
  intro g3 cap3 W4 hown3 hgrow hat hlt
  have hba := below_allocG W3 (.cells #[.int .i64 (v : Int)] 3)
  have hG := (H3.out.below hba).growPath (m := s.path.length + 1) (l := s.path ++ [v]) hgrow (hat.imp id fun e => e.trans (by simp)) (by have := OwnI.push hown3; exact this)
  have H5 := Lib.hid hG.1
  have HB5 := Lib.hid (((HB3.out.trans (hba.mono hbw)).grown hgrow (by have := hba.size; omega) (fun j hj => (H3.out.path.lt j hj).1)).setCell (p := ⟨p, 4, none⟩) H3.out.low'.1 (.slice (some ⟨g3, 0, none⟩) (s.path.length + 1) cap3))
  have hp5 := hG.2.trans ((hba.block p hpw).trans H3.out.blk)
  obtain ⟨z0, z1, z2, z3, z4, z5, z6, z7⟩ := cells8 hp5
  have f4 := Lib.frozen_of_heap hp5 4
  clear hown3 hgrow hat hG hba hp5 y0 y1 y2 y3 y4 y5 y6 y7
  have hov5 := H5.out.opn
  have hpw5 := heap_at H5.out.blk
  have hbw5 : B ≤ (W4.setCell ⟨p, 4, none⟩ (.slice (some ⟨g3, 0, none⟩) (s.path.length + 1) cap3)).heap.size := by have := H5.out.low'.1; omega
  have HRo := Lib.hid (show ((W4.setCell ⟨p, 4, none⟩ (.slice (some ⟨g3, 0, none⟩) (s.path.length + 1) cap3)).alloc (.cells #[.int .i64 (v : Int)] 3)).ownsRow B 3 1 (.slice oa s.opn.length oc) s.opn.length (intsV s.opn) from H5.out.opn.alloc _)
  obtain ⟨y0, y1, y2, y3, y4, y5, y6, y7⟩ := cells8 H5.out.blk
  have hsz5 := size_set W4 ⟨p, 4, none⟩ (.slice (some ⟨g3, 0, none⟩) (s.path.length + 1) cap3)
  have hbw4 : B ≤ W4.heap.size := by omega
  clear hov5
  go_wp2_with (at_builtin; refine wpList_append_lies _ rfl _ _ 22 rfl B 3 i0 (.int .i64 0) 1 8 Try.underlying22 hi hz0 hz1 hz2 rfl (by decide) _ s.opn.length (intsV s.opn) rfl HRo.out ⟨W4.heap.size, 0, none⟩ 1 1 [.int .i64 (v : Int)] rfl rfl (by have := frz_oneI (W4.setCell ⟨p, 4, none⟩ (.slice (some ⟨g3, 0, none⟩) (s.path.length + 1) cap3)) (.int .i64 (v : Int)) 3; rw [size_set] at this; exact this) (by simp [Value.oneCell']) (by decide) ?p6 ?p7 ?p8 _ rfl ?_)
  case p6 => unfold maxLen; omega
  case p7 => omega
  case p8 => first | omega | (simp; omega)
  intro g6 cap6 W6 hown6 hgrow6 hat6 hlt6
  generalize W4.setCell ⟨p, 4, none⟩ (.slice (some ⟨g3, 0, none⟩) (s.path.length + 1) cap3) = W5 at *
  have hba := below_allocG W5 (.cells #[.int .i64 (v : Int)] 3)
  have hG := (H5.out.below hba).growOpn (m := s.opn.length + 1) (l := s.opn ++ [v]) hgrow6 (hat6.imp id fun e => e.trans (by rw [show (W5.alloc (.cells #[.int .i64 (v : Int)] 3)).heap.size = W5.heap.size + 1 by simp]; omega)) (by have := OwnI.push hown6; exact this)
  have H7 := Lib.hid hG.1
  have HB7 := Lib.hid (((HB5.out.trans (hba.mono hbw5)).grown hgrow6 (by have := hba.size; omega) (fun j hj => (H5.out.opn.lt j hj).1)).setCell (p := ⟨p, 5, none⟩) H5.out.low'.1 (.slice (some ⟨g6, 0, none⟩) (s.opn.length + 1) cap6))
  have hp7 := hG.2.trans ((hba.block p hpw5).trans H5.out.blk)
  obtain ⟨z0, z1, z2, z3, z4, z5, z6, z7⟩ := cells8 hp7
  have f5 := Lib.frozen_of_heap hp7 5
  clear hown6 hgrow6 hat6 hG hba hp7 y0 y1 y2 y3 y4 y5 y6 y7
  go_wp2_with fail
  go_end0
  exact ⟨rfl, ⟨_, _, H7.out⟩, HB7.out⟩
end Go.Proofs.Ytlpifioneafciaa
