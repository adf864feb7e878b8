/- group.search's end. -/
import Derived.Test.YtlpifioneafciaaGrMeet
namespace Go.Proofs.Ytlpifioneafciaa
open Go.RowKit Go.Maps Go.Lib
attribute [local go_sem] Oper.semAt_some

theorem behindN_cons (v a : Nat) (l : List Nat) : behindN v (a :: l) = if a = v then 1 else 1 + behindN v l := rfl
theorem dropN_one (s : SS) : SS.dropN 1 s = s.drop1 (s.opn.getLastD 0) := rfl
theorem dropN_step (k : Nat) (s : SS) : SS.dropN (1 + k) s = SS.dropN k (s.drop1 (s.opn.getLastD 0)) := by rw [Nat.add_comm]; rfl
theorem close_eq {s u : SS} {v : Nat} (h : SS.dropN (behindN v s.opn.reverse) s = u) : s.close v = { u with rings := u.rings + 1 } := by
  unfold SS.close
  rw [h]
def opnLen (p : Nat) (w : World) : Nat := match w.cell? ⟨p, 5, none⟩ with
  | some (.slice _ n _) => n
  | _ => 0
theorem opnLen_eq {B p n qs cs qm ql qr : Nat} {pv ov : Value} {s : SS} {w : World} (h : SM B p n qs cs qm ql qr pv ov s w) : opnLen p w = s.opn.length := by
  obtain ⟨a, c, e⟩ := h.opn.shape
  have := (cells8 h.blk).2.2.2.2.2.1
  unfold opnLen
  rw [this, e]
/-- The open ones but the last, stored. -/
theorem SM.popOpn {B p n qs cs qm ql qr g cap m x : Nat} {pv : Value} {l : List Nat} {s : SS} {w : World} (h : SM B p n qs cs qm ql qr pv (.slice (some ⟨g, 0, none⟩) (m + 1) cap) s w) (hl : s.opn = l ++ [x]) (hm : l.length = m) :
    SM B p n qs cs qm ql qr pv (.slice (some ⟨g, 0, none⟩) m cap) { s with opn := l } (w.setCell ⟨p, 5, none⟩ (.slice (some ⟨g, 0, none⟩) m cap)) := by
  have ho := h.opn
  rw [hl] at ho
  exact (h.growOpn (w5 := w) ⟨rfl, rfl, rfl, Nat.le_refl _, fun _ _ _ => rfl⟩ (.inl rfl) (ho.pop hm)).1
theorem SM.popPath {B p n qs cs qm ql qr g cap m x : Nat} {ov : Value} {l : List Nat} {s : SS} {w : World} (h : SM B p n qs cs qm ql qr (.slice (some ⟨g, 0, none⟩) (m + 1) cap) ov s w) (hl : s.path = l ++ [x]) (hm : l.length = m) :
    SM B p n qs cs qm ql qr (.slice (some ⟨g, 0, none⟩) m cap) ov { s with path := l } (w.setCell ⟨p, 4, none⟩ (.slice (some ⟨g, 0, none⟩) m cap)) := by
  have ho := h.path
  rw [hl] at ho
  exact (h.growPath (w5 := w) ⟨rfl, rfl, rfl, Nat.le_refl _, fun _ _ _ => rfl⟩ (.inl rfl) (ho.pop hm)).1
theorem own_last {B : Nat} {v : Value} {l : List Nat} {x : Nat} {w : World} (h : OwnI B v (l ++ [x]) w) : ∃ g cap, v = .slice (some ⟨g, 0, none⟩) (l.length + 1) cap ∧ l.length + 1 ≤ cap ∧ g < w.heap.size ∧ w.cell? ⟨g, l.length, none⟩ = some (.int .i64 (x : Int)) ∧ B ≤ g := by
  obtain ⟨g, cap, e, hg, hb, hc, hx⟩ := h.at (i := l.length) (by simp)
  refine ⟨g, cap, by rw [e]; simp, by simpa using hc, hg, ?_, hb⟩
  rw [hx]; simp [List.getD]
set_option maxRecDepth 100000 in
set_option maxHeartbeats 4000000 in
theorem end_any {B p n qs cs qm ql qr v : Nat} {pv ov : Value} {s : SS} (hv : v ∈ s.opn) (hn : ∀ x ∈ s.opn, x < n) (hr : s.rings + 1 < 1000000000) (hol : s.opn.length < 1000000000) (w : World) (h : SM B p n qs cs qm ql qr pv ov s w) :
    Calls Try.prog 41 #[.pointer (some ⟨p, 0, none⟩), .int .i64 (v : Int)] w fun e w' => e = .returned (.tuple #[]) ∧ (∃ ov', SM B p n qs cs qm ql qr pv ov' (s.close v) w') ∧ Below B w w' := by
  have H0 := Lib.hid h
  have HV := Lib.hid (And.intro hv hn)
  clear h hv hn
  go_enter Try.func41, Try.ntmps41
  go_wp2_with fail
  go_loopw [4] (fun _ wr => ∃ (t : SS) (ov' : Value), Hid (t.rings = s.rings) ∧ t.opn.length < 1000000000 ∧ Hid (v ∈ t.opn ∧ (∀ x ∈ t.opn, x < n) ∧ SS.dropN (behindN v s.opn.reverse) s = SS.dropN (behindN v t.opn.reverse) t) ∧ Hid (SM B p n qs cs qm ql qr pv ov' t wr) ∧ Hid (Below B w wr)) (fun _ wr => opnLen p wr)
  case atStart => exact ⟨s, ov, Lib.hid rfl, hol, Lib.hid ⟨HV.out.1, HV.out.2, rfl⟩, H0, Lib.hid (Below.refl _ _)⟩
  case round =>
    obtain ⟨t, ov', hrt, hot, hT, hS, hB⟩ := hrel
    clear H0
    have hrb : t.rings < 1000000000 := by have := hrt.out; omega
    obtain ⟨l, x, hlx⟩ : ∃ l x, t.opn = l ++ [x] := by
      have : t.opn ≠ [] := fun e => by have := hT.out.1; rw [e] at this; cases this
      exact ⟨t.opn.dropLast, t.opn.getLast this, (List.dropLast_concat_getLast this).symm⟩
    have ho := hS.out.opn
    rw [hlx] at ho
    obtain ⟨g, cap, rfl, hcap, hg, hxc, hBg⟩ := own_last ho
    have hxn : x < n := hT.out.2.1 x (by rw [hlx]; simp)
    have hln : l.length + 1 < 1000000000 := by have := congrArg List.length hlx; simp at this; omega
    obtain ⟨y0, y1, y2, y3, y4, y5, y6, y7⟩ := cells8 hS.out.blk
    have fy := Lib.frozen_of_heap hS.out.blk 5
    have hpw := heap_at hS.out.blk
    obtain ⟨m, hm⟩ : ∃ m, l.length = m := ⟨_, rfl⟩
    have HM := Lib.hid hm
    rw [hm] at hS hcap hxc hln y5
    have H1 := Lib.hid (hS.out.popOpn hlx hm)
    have HLX := Lib.hid hlx
    have HML := Lib.hid (opnLen_eq hS.out)
    have hmI : ((m : Int) + 1 - 1) = (m : Int) := by omega
    have hm0 : (0 : Int) ≤ (m : Int) := by omega
    clear hlx ho hm
    go_wp2_with fail
    go_region
    go_wp2_with fail
    go_region
    have H2 := Lib.hid H1.out.drew.drew
    have HB2 := Lib.hid (((hB.out.setCell (p := ⟨p, 5, none⟩) hS.out.low'.1 (.slice (some ⟨g, 0, none⟩) m cap)).drew).drew)
    generalize (wr.setCell ⟨p, 5, none⟩ (.slice (some ⟨g, 0, none⟩) m cap)).drew.drew = W2 at *
    clear y0 y1 y2 y3 y4 y5 y6 y7 fy hxc H1 hS hB
    obtain ⟨y0, y1, y2, y3, y4, y5, y6, y7⟩ := cells8 H2.out.blk
    obtain ⟨z1, z2, z3⟩ := row_cell H2.out.met hxn
    obtain ⟨u1, u2, u3⟩ := row_cell H2.out.ring hxn
    have hne := H2.out.mr
    have hxI : (x : Int) < (n : Int) := by omega
    have hx0 : (0 : Int) ≤ (x : Int) := by omega
    go_wp2_with fail
    go_region
    have H3 := Lib.hid ((H2.out.setRing (x := t.rings) hxn).setMet (x := grTop) hxn).drew
    have HB3 := Lib.hid ((HB2.out.setCell (p := ⟨qr, x, none⟩) (H2.out.ring.ge rfl) (.int .i64 (t.rings : Int))).setCell (p := ⟨qm, x, none⟩) (H2.out.met.ge rfl) (.int .i64 ((grTop : Nat) : Int))).drew
    rw [show ((grTop : Nat) : Int) = 9223372036854775807 from rfl] at H3 HB3
    generalize ((W2.setCell ⟨qr, x, none⟩ (.int .i64 (t.rings : Int))).setCell ⟨qm, x, none⟩ (.int .i64 9223372036854775807)).drew = W3 at *
    clear y0 y1 y2 y3 y4 y5 y6 y7 z1 z2 z3 u1 u2 u3 hne H2 HB2
    have hdl : t.opn.dropLast = l := by rw [HLX.out]; simp
    have hgl : t.opn.getLastD 0 = x := by rw [HLX.out]; simp
    have HD := Lib.hid (show SM B p n qs cs qm ql qr pv (.slice (some ⟨g, 0, none⟩) m cap) (t.drop1 x) W3 from by
      have := H3.out
      unfold SS.drop1
      rw [hdl]; exact this)
    have hbh : behindN v t.opn.reverse = if x = v then 1 else 1 + behindN v l.reverse := by rw [HLX.out, List.reverse_append]; rfl
    have HBh := Lib.hid hbh
    have HGl := Lib.hid hgl
    have HDl := Lib.hid hdl
    clear hdl hgl hbh H3
    by_cases hxv : x = v
    · subst hxv
      have hcl : s.close x = { t.drop1 x with rings := t.rings + 1 } := close_eq (by rw [hT.out.2.2, HBh.out, if_pos rfl, dropN_one, HGl.out])
      have HCl := Lib.hid hcl
      have H5 := Lib.hid (HD.out.setRings (t.rings + 1))
      have HB5 := Lib.hid (HB3.out.setCell (p := ⟨p, 7, none⟩) HD.out.low'.1 (.int .i64 ((t.rings + 1 : Nat) : Int)))
      rw [show ((t.rings + 1 : Nat) : Int) = (t.rings : Int) + 1 from by omega] at H5 HB5
      obtain ⟨y0, y1, y2, y3, y4, y5, y6, y7⟩ := cells8 HD.out.blk
      have f7 := Lib.frozen_of_heap HD.out.blk 7
      simp only [SS.drop1] at y7
      clear hcl hT HBh HGl HDl HD
      go_wp2_with fail
      go_end0
      exact ⟨rfl, ⟨_, by rw [HCl.out]; exact H5.out⟩, HB5.out⟩
    · have hxvI : ¬ ((x : Int) = (v : Int)) := by omega
      have HT := Lib.hid (show v ∈ (t.drop1 x).opn ∧ (∀ y ∈ (t.drop1 x).opn, y < n) ∧ SS.dropN (behindN v s.opn.reverse) s = SS.dropN (behindN v (t.drop1 x).opn.reverse) (t.drop1 x) from by
        have e : (t.drop1 x).opn = l := HDl.out
        rw [e]
        refine ⟨?_, fun y hy => hT.out.2.1 y (by rw [HLX.out]; exact List.mem_append_left _ hy), ?_⟩
        · have h1 := hT.out.1
          rw [HLX.out] at h1
          rcases List.mem_append.1 h1 with h1 | h1
          · exact h1
          · exact absurd (List.mem_singleton.1 h1).symm hxv
        · rw [hT.out.2.2, HBh.out, if_neg hxv, dropN_step, HGl.out])
      have HO := Lib.hid (opnLen_eq HD.out)
      have HL2 := Lib.hid (show (t.drop1 x).opn.length = m from by show t.opn.dropLast.length = m; rw [HDl.out]; exact HM.out)
      have HL3 := Lib.hid (show t.opn.length = m + 1 from by rw [HLX.out]; simp [HM.out])
      clear hT HBh HGl HDl
      go_wp2_with fail
      go_roundw
      case rel => exact ⟨t.drop1 x, _, hrt, by have := HL2.out; omega, HT, HD, HB3⟩
      case measure => rw [HO.out, HML.out, HL2.out, HL3.out]; omega
end Go.Proofs.Ytlpifioneafciaa
