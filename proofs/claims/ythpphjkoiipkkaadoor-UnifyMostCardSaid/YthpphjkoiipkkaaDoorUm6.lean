/- Merged: UgOrder, UgGoes, Told, UgBack. -/
import Derived.Test.YthpphjkoiipkkaaDoorUm5
import Derived.RangeFuncNested
import Derived.RangeFuncBound
import Derived.RangeFuncCalls
import Derived.RangeFuncLeaves
import Derived.Stop.RegionWithIn
import Derived.OwnWalkIn
import Derived.TacticsInMore
import Derived.LoopNIn
import Derived.LoopIn
import Derived.IntWalk
/- The program's graph: order. -/
namespace Go.Proofs.YthpphjkoiipkkaaDoor
open Go.RowKit Go.Maps
attribute [local go_sem] Oper.semAt_some

theorem cell_int1' (w : World) (n : Nat) (hn : n = w.heap.size) (x : Nat) : ∀ j u, ([.int .i64 (x : Int)] : List Value)[j]? = some u → (w.alloc (.cells #[.int .i64 (x : Int)] 3)).cell? ((⟨n, 0, none⟩ : Addr).add j) = some u := by subst hn; exact cell_int1 w x
/-- What order tells. -/
def OrdR (B : Nat) (G : Gr) (rt : Nat → Nat) (E c g mb p cap : Nat) (sl : Nat → Value) (w : World) (e : Ending) (w' : World) : Prop :=
  ∃ v l W, e = .returned (.tuple #[v, .bool (decide (l.length = (rootsU rt G.N).length))]) ∧ Ord G.ag rt G.N l l.length [] W ∧ PlcAt w' v l ∧ GM B G rt E c g mb (.slice (some ⟨p, 0, none⟩) G.N cap) sl w' ∧ Fr p w w'
set_option maxRecDepth 100000 in
set_option maxHeartbeats 8000000 in
theorem order_any {B : Nat} {G : Gr} {rt : Nat → Nat} {E c g mb p cap : Nat} {sl : Nat → Value} {w : World} (h : GM B G rt E c g mb (.slice (some ⟨p, 0, none⟩) G.N cap) sl w) (gi : GI G rt) (hE : ∀ i, i < G.N → (G.ag i).length ≤ 1000000) (hN : G.N ≤ 1000000) (hN0 : 0 < G.N) :
    Calls Tryd.prog 36 #[gp g] w fun e w' => OrdR B G rt E c g mb p cap sl w e w' := by
  have HG := Lib.hid h
  have HI := Lib.hid gi
  have y0 := h.top0
  have hg := h.lt
  have hpt := (h.part hN0).1
  have hmk1 := make_ints G.N G.N (Nat.le_refl _) (by omega)
  have hmk2 : ∀ W : World, (Instr.makeSlice 22 (.int .i64 0) (.int .i64 (G.N : Int))).run Tryd.prog W = .ok (.slice (some ⟨W.heap.size, 0, none⟩) 0 G.N) (W.alloc (.cells (madeCells #[.int .i64 0] G.N) 3)) := make_ints 0 G.N (Nat.zero_le _) (by omega)
  obtain ⟨w1, hw1⟩ : ∃ w1, w.alloc (.cells (madeCells #[.int .i64 0] G.N) 3) = w1 := ⟨_, rfl⟩
  obtain ⟨w2, hw2⟩ : ∃ w2, w1.alloc (.cells (madeCells #[.int .i64 0] G.N) 3) = w2 := ⟨_, rfl⟩
  have hs1 : w1.heap.size = w.heap.size + 1 := by rw [← hw1]; simp
  have hb1 : Below w.heap.size w w1 := by rw [← hw1]; exact (Below.refl _ w).alloc (Nat.le_refl _) _
  have hb2 : Below w1.heap.size w1 w2 := by rw [← hw2]; exact (Below.refl _ w1).alloc (Nat.le_refl _) _
  have hZ1 : OwnI w.heap.size (.slice (some ⟨w.heap.size, 0, none⟩) G.N G.N) ((List.range G.N).map fun _ => 0) w1 := by rw [← hw1]; exact own_zeros w G.N (by omega)
  have hZ2 : OwnI w1.heap.size (.slice (some ⟨w1.heap.size, 0, none⟩) 0 G.N) [] w2 := by rw [← hw2]; exact own_none w1 G.N (by omega)
  have HS := Lib.hid (⟨⟨h.keep (hb1.trans (hb2.mono hb1.size)), hZ1.below hb2, Fr.of_below (hb1.trans (hb2.mono hb1.size))⟩, hZ2⟩ : OV B G rt E c g mb p cap sl w (fun _ => 0) w2 ∧ OwnI w1.heap.size (.slice (some ⟨w1.heap.size, 0, none⟩) 0 G.N) [] w2)
  have hsz2 : w.heap.size + 1 ≤ w2.heap.size := by have := hb2.size; omega
  obtain ⟨cur, hcur⟩ : ∃ cur, w.heap[p]? = some (.cells cur 102 (0, 0)) := by
    obtain ⟨_, _, ⟨_, _, _, r, _⟩, _⟩ := h
    rcases r.2 with ⟨e, _⟩ | ⟨_, _, cur, e, _, hb, _⟩
    · cases e
    · cases e; exact ⟨cur, hb⟩
  have hP := Lib.hid hcur
  have y1 := (h.keep hb1).top0
  have y2 := HS.out.1.gm.top0
  have hm1 := hmk1 w; have hm2 := hmk2 w1
  rw [hw1] at hm1; rw [hw2] at hm2
  rw [hs1] at hm2 HS
  have hg1 : g < w1.heap.size := by omega
  have hg2 : g < w2.heap.size := by omega
  obtain ⟨i0, hi0, hz0, hz1, hz2⟩ := info_parts Tryd.infoInt0
  clear h gi hcur hmk1 hmk2 hb1 hb2 hZ1 hZ2 hw1 hw2 hs1
  go_enter Tryd.func36, Tryd.ntmps36
  go_wp2
  go_loopw [5, 35] (fun vr vi wr => ∃ (i : Nat) (ga : Option Addr) (gn gc : Nat), i ≤ G.N ∧ vi = .int .i64 (i : Nat) ∧ gn = (rootsU rt i).length ∧ vr = .slice ga gn gc ∧ Hid (OV B G rt E c g mb p cap sl w (fun _ => 0) wr ∧ OwnI (w.heap.size + 1) (.slice ga gn gc) (rootsU rt i) wr)) (fun _ vi _ => G.N - (intOf vi).toNat)
  case atStart => exact ⟨0, _, _, _, Nat.zero_le _, rfl, rfl, rfl, HS⟩
  case round =>
    obtain ⟨i, ga, gn, gc, hi, rfl, hgn, rfl, hX⟩ := hrel
    by_cases hlt : i < G.N
    · have hiz : (i : Int) < (G.N : Int) := by omega
      obtain ⟨hV, hR⟩ := hX.out
      have HC := Lib.hid (root_any hV.gm hlt)
      have HV := Lib.hid hV; have HR := Lib.hid hR
      have hgl : (rootsU rt i).length ≤ i := by unfold rootsU; exact Nat.le_trans (List.length_filter_le _ _) (by simp)
      have HGn := Lib.hid hgn
      clear hV hR hX y0 y1 y2 hgn
      by_cases hr : rt i = i
      · have hez : (((rt i : Nat) : Int) == (i : Int)) = true := by simp; omega
        have hroots : rootsU rt (i + 1) = rootsU rt i ++ [i] := by rw [roots_succ, if_pos hr]
        go_wp2_with (go_at_call 46; refine HC.out.mono ?_)
        rintro e w3 ⟨rfl, hM3, hF3⟩
        have HV3 := Lib.hid (HV.out.root hM3 hF3)
        have hR3 := HR.out.frG HV.out.gm hF3
        have HR3 := Lib.hid hR3
        have hl3 := HV3.out.lt
        clear hM3 hF3 hR3 HC
        go_wp2_with (at_builtin; refine wpList_append_own _ rfl _ _ 22 rfl (w.heap.size + 1) 3 i0 (.int .i64 0) 1 8 Tryd.underlying22 hi0 hz0 hz1 hz2 rfl (by decide) _ _ _ rfl (HR3.out.alloc _) ⟨w3.heap.size, 0, none⟩ 1 1 [.int .i64 (i : Int)] rfl rfl (cell_int1 _ _) (by simp [Value.oneCell']) ?c3 ?c4 ?c5 ?_)
        case c3 => unfold maxLen; omega
        case c4 => omega
        case c5 => simp; omega
        intro v' w4 hown4 hg4 _
        obtain ⟨hR4, hB4, _⟩ := HR3.out.more (by omega) hown4 hg4
        have HV4 := Lib.hid (HV3.out.low HG.out hB4)
        obtain ⟨a4, c4, rfl⟩ := hR4.shape
        have HR4 := Lib.hid hR4
        clear hown4 hg4 hR4 hB4
        go_wp2
        go_roundw
        case rel => exact ⟨i + 1, a4, _, c4, by omega, by go_num, by rw [hroots], rfl, Lib.hid ⟨HV4.out, by rw [hroots]; exact HR4.out⟩⟩
        case measure => simp [intOf]; omega
      · have hez : (((rt i : Nat) : Int) == (i : Int)) = false := by simp; omega
        have hroots : rootsU rt (i + 1) = rootsU rt i := by rw [roots_succ, if_neg hr, List.append_nil]
        go_wp2_with (go_at_call 46; refine HC.out.mono ?_)
        rintro e w3 ⟨rfl, hM3, hF3⟩
        have HV3 := Lib.hid (HV.out.root hM3 hF3)
        have HR3 := Lib.hid (HR.out.frG HV.out.gm hF3)
        clear hM3 hF3 HC
        go_wp2
        go_roundw
        case rel => exact ⟨i + 1, ga, gn, gc, by omega, by go_num, by rw [hroots]; exact HGn.out, rfl, Lib.hid ⟨HV3.out, by rw [hroots]; exact HR3.out⟩⟩
        case measure => simp [intOf]; omega
    · have hiz : ¬ ((i : Int) < (G.N : Int)) := by omega
      obtain rfl : i = G.N := by omega
      obtain ⟨hV, hR⟩ := hX.out
      have HV := Lib.hid hV; have HR := Lib.hid hR
      have HRS := Lib.hid (fun j (hj : j ∈ rootsU rt G.N) => mem_roots.1 hj)
      have hgl : gn ≤ G.N := by rw [hgn]; unfold rootsU; exact Nat.le_trans (List.length_filter_le _ _) (by simp)
      clear hV hR hX y0 y1 y2 HS
      subst hgn
      generalize hrs : rootsU rt G.N = rs at HR hgl HRS ⊢
      have HRe := Lib.hid hrs
      clear hrs
      go_wp2
      go_loopw [50] (fun vi wr => ∃ (k : Nat) (W : Nat → Nat), k ≤ rs.length ∧ vi = .int .i64 (k : Nat) ∧ Hid (OV B G rt E c g mb p cap sl w W wr ∧ OwnI (w.heap.size + 1) (.slice ga rs.length gc) rs wr ∧ ∀ r, W r = cntU G.ag rt (rs.take k) r)) (fun vi _ => rs.length - (intOf vi).toNat)
      case atStart => exact ⟨0, _, Nat.zero_le _, rfl, Lib.hid ⟨HV.out, HR.out, fun r => by simp [cntU]⟩⟩
      case round =>
        obtain ⟨k, W, hk, rfl, hX⟩ := hrel
        by_cases hlt : k < rs.length
        · have hkz : (k : Int) < (rs.length : Int) := by omega
          obtain ⟨hV, hR, hW⟩ := hX.out
          obtain ⟨qr, cr, er, lqr, _, hcr, x0⟩ := hR.at hlt
          cases er
          have hmem : rs.getD k 0 ∈ rs := by simp [List.getD, hlt]
          have HRj := HRS.out _ hmem
          have HT := Lib.hid (show rs.take (k + 1) = rs.take k ++ [rs.getD k 0] by rw [List.take_succ_eq_append_getElem hlt]; simp [List.getD, hlt])
          generalize rs.getD k 0 = j at *
          obtain ⟨va, ca, hsl, x2⟩ := hV.gm.args HRj.1
          obtain ⟨hlp, hcap, _⟩ := hV.gm.part HRj.1
          have y0 := hV.gm.top0
          have hg3 := hV.gm.lt
          have hjz : (j : Int) < (G.N : Int) := by omega
          have hjl := hE j HRj.1
          have HV := Lib.hid hV; have HR := Lib.hid hR; have HWc := Lib.hid hW
          have HSL := Lib.hid hsl
          clear hV hR hW hX hsl
          go_wp2
          go_loopw [63] (fun vi wr => ∃ (q : Nat) (W' : Nat → Nat), q ≤ (G.ag j).length ∧ vi = .int .i64 (q : Nat) ∧ Hid (OV B G rt E c g mb p cap sl w W' wr ∧ OwnI (w.heap.size + 1) (.slice (some ⟨qr, 0, none⟩) rs.length gc) rs wr ∧ ∀ r, W' r = cntU G.ag rt (rs.take k) r + (((G.ag j).map rt).take q).count r)) (fun vi _ => (G.ag j).length - (intOf vi).toNat)
          case atStart => exact ⟨0, W, Nat.zero_le _, rfl, Lib.hid ⟨HV.out, HR.out, fun r => by simp [HWc.out r]⟩⟩
          case round =>
            obtain ⟨q, W', hq, rfl, hX⟩ := hrel
            by_cases hqt : q < (G.ag j).length
            · have hqz : (q : Int) < ((G.ag j).length : Int) := by omega
              obtain ⟨hV, hR, hW⟩ := hX.out
              obtain ⟨qa, rfl, lqa, hcq, x1⟩ := hV.gm.arg HRj.1 HSL.out hqt
              have hxN : (G.ag j).getD q 0 < G.N := HI.out.ok.arg HRj.1 (by simp [List.getD, hqt])
              have HT2 := Lib.hid (show ((G.ag j).map rt).take (q + 1) = ((G.ag j).map rt).take q ++ [rt ((G.ag j).getD q 0)] by rw [List.take_succ_eq_append_getElem (by rw [List.length_map]; exact hqt)]; simp [List.getD, hqt])
              generalize (G.ag j).getD q 0 = x at *
              have hrN := HI.out.lt x hxN
              have hb1 : W' (rt x) ≤ 1000000 * 1000000 + 1000000 := by
                rw [hW]
                have h1 := cntU_le_mul (ag := G.ag) (rt := rt) (E := 1000000) (r := rt x) (D := rs.take k) fun i hi => hE i (HRS.out i (List.mem_of_mem_take hi)).1
                have h2 : (rs.take k).length ≤ 1000000 := by rw [List.length_take]; omega
                have h3 : (((G.ag j).map rt).take q).count (rt x) ≤ 1000000 := Nat.le_trans List.count_le_length (by rw [List.length_take, List.length_map]; omega)
                have h4 := Nat.mul_le_mul_right 1000000 h2
                omega
              have HC := Lib.hid (root_any hV.gm hxN)
              have HV2 := Lib.hid hV; have HR2 := Lib.hid hR; have HW2 := Lib.hid hW
              clear hV hR hW hX
              have hrz : ((rt x : Nat) : Int) < (G.N : Int) := by omega
              generalize hrx : rt x = r at *
              go_wp2_with (go_at_call 46; refine HC.out.mono ?_)
              rintro e w3 ⟨rfl, hM3, hF3⟩
              have hV3 := HV2.out.root hM3 hF3
              have hR3 := HR2.out.frG HV2.out.gm hF3
              have c0 := hV3.cell hrN
              have f0 := hV3.free r
              have l0 := hV3.lt
              have HV4 := Lib.hid (OV.set (x := W' r + 1) HG.out hV3 hrN)
              have HR4 := Lib.hid (OwnI.set_other (r := r) (x := .int .i64 ((W' r + 1 : Nat) : Int)) hR3 (Nat.lt_succ_self w.heap.size))
              clear hM3 hF3 HC hV3 hR3
              go_wp2
              go_roundw
              case rel =>
                refine ⟨q + 1, _, by omega, by go_num, Lib.hid ⟨HV4.out, HR4.out, fun r' => ?_⟩⟩
                rw [HT2.out, List.count_append]
                have h9 := HW2.out r'
                by_cases e : r' = r
                · subst e; simp; omega
                · have : List.count r' [r] = 0 := List.count_eq_zero.2 (by simpa using e)
                  rw [if_neg e]; omega
              case measure => simp [intOf]; omega
            · have hqz : ¬ ((q : Int) < ((G.ag j).length : Int)) := by omega
              obtain rfl : q = (G.ag j).length := by omega
              go_wp2
              go_roundw
              case rel =>
                refine ⟨k + 1, W', by omega, by go_num, Lib.hid ⟨hX.out.1, hX.out.2.1, fun r => ?_⟩⟩
                have e9 : ((G.ag j).map rt).take (G.ag j).length = (G.ag j).map rt := List.take_of_length_le (by rw [List.length_map]; exact Nat.le_refl _)
                rw [hX.out.2.2 r, HT.out, cntU_append, e9]
                simp [cntU, cntUA]
              case measure => simp [intOf]; omega
        · have hkz : ¬ ((k : Int) < (rs.length : Int)) := by omega
          obtain rfl : k = rs.length := by omega
          obtain ⟨hV, hR, hW⟩ := hX.out
          have hW2 : ∀ r, W r = cntU G.ag rt rs r := fun r => by rw [hW r, List.take_length]
          have hmk3 : (Instr.makeSlice 22 (.int .i64 0) (.int .i64 (rs.length : Int))).run Tryd.prog wr = .ok (.slice (some ⟨wr.heap.size, 0, none⟩) 0 rs.length) (wr.alloc (.cells (madeCells #[.int .i64 0] rs.length) 3)) := make_ints 0 rs.length (Nat.zero_le _) (by omega) wr
          have hls := hV.lt
          have hb5 : Below (w.heap.size + 1) wr (wr.alloc (.cells (madeCells #[.int .i64 0] rs.length) 3)) := (Below.refl _ wr).alloc (by omega) _
          have hnl := own_none wr rs.length (by omega)
          have hR5 := hR.alloc (.cells (madeCells #[.int .i64 0] rs.length) 3)
          have hrb : ∀ k, (Value.slice ga rs.length gc).ownBlock = some k → k < wr.heap.size := fun k e => (World.ownsRow.lt hR k e).2
          have hV5 := hV.low HG.out hb5
          generalize hBl : wr.heap.size = Bl at *
          have hs5 : Bl ≤ (wr.alloc (.cells (madeCells #[.int .i64 0] rs.length) 3)).heap.size := by simp; omega
          obtain ⟨w5, hw5⟩ : ∃ w5, wr.alloc (.cells (madeCells #[.int .i64 0] rs.length) 3) = w5 := ⟨_, rfl⟩
          rw [hw5] at hmk3 hV5 hnl hR5 hs5
          have HV5 := Lib.hid hV5; have HR5 := Lib.hid hR5; have HL5 := Lib.hid hnl; have HWc := Lib.hid hW2; have HRB := Lib.hid hrb
          clear hV hR hW hW2 hX hV5 hR5 hnl hb5 hw5 hrb HV HR
          go_wp2
          go_loopw [11, 82] (fun vl vi wr => ∃ (k : Nat) (la : Option Addr) (ln lc : Nat), k ≤ rs.length ∧ vi = .int .i64 (k : Nat) ∧ vl = .slice la ln lc ∧ Hid (OV B G rt E c g mb p cap sl w W wr ∧ OwnI (w.heap.size + 1) (.slice ga rs.length gc) rs wr ∧ OwnI Bl (.slice la ln lc) ((rs.take k).filter fun r => decide (W r = 0)) wr ∧ Bl ≤ wr.heap.size ∧ ln = ((rs.take k).filter fun r => decide (W r = 0)).length)) (fun _ vi _ => rs.length - (intOf vi).toNat)
          case atStart => exact ⟨0, _, _, _, Nat.zero_le _, rfl, rfl, Lib.hid ⟨HV5.out, HR5.out, by simpa using HL5.out, by assumption, by simp⟩⟩
          case round =>
            obtain ⟨k, la, ln, lc, hk, rfl, rfl, hX⟩ := hrel
            by_cases hlt : k < rs.length
            · have hkz2 : (k : Int) < (rs.length : Int) := by omega
              obtain ⟨hV, hR, hL, hbl, hln⟩ := hX.out
              obtain ⟨qr, cr, er, lqr, _, hcr, x0⟩ := hR.at hlt
              cases er
              have hmem : rs.getD k 0 ∈ rs := by simp [List.getD, hlt]
              have HRj := HRS.out _ hmem
              have HT := Lib.hid (show rs.take (k + 1) = rs.take k ++ [rs.getD k 0] by rw [List.take_succ_eq_append_getElem hlt]; simp [List.getD, hlt])
              generalize rs.getD k 0 = j at *
              have c0 := hV.cell HRj.1
              have l0 := hV.lt
              have hjz : (j : Int) < (G.N : Int) := by omega
              by_cases h0 : W j = 0
              · have hw0 : (((W j : Nat) : Int) == 0) = true := by simp; omega
                have e9 : (rs.take (k + 1)).filter (fun r => decide (W r = 0)) = ((rs.take k).filter fun r => decide (W r = 0)) ++ [j] := by rw [HT.out, List.filter_append]; simp [h0]
                have hll : ((rs.take k).filter fun r => decide (W r = 0)).length ≤ 1000000 := Nat.le_trans (List.length_filter_le _ _) (by rw [List.length_take]; omega)
                have HV6 := Lib.hid hV; have HR6 := Lib.hid hR; have HL6 := Lib.hid hL; have HE9 := Lib.hid e9
                clear hV hR hL hX hln e9
                go_wp2_with (at_builtin; refine wpList_append_own _ rfl _ _ 22 rfl Bl 3 i0 (.int .i64 0) 1 8 Tryd.underlying22 hi0 hz0 hz1 hz2 rfl (by decide) _ _ _ rfl (HL6.out.alloc _) ⟨wr.heap.size, 0, none⟩ 1 1 [.int .i64 (j : Int)] rfl rfl (cell_int1 _ _) (by simp [Value.oneCell']) ?c3 ?c4 ?c5 ?_)
                case c3 => unfold maxLen; omega
                case c4 => omega
                case c5 => simp; omega
                intro v' w7 hown7 hg7 _
                obtain ⟨hL7, hB7, _⟩ := HL6.out.more hbl hown7 hg7
                have HV7 := Lib.hid (HV6.out.low HG.out (hB7.mono (by omega)))
                have HR7 := Lib.hid (HR6.out.keepAt fun i e => hB7.block i (HRB.out i e))
                obtain ⟨a7, c7, rfl⟩ := hL7.shape
                have HL7 := Lib.hid hL7
                have hbl7 : Bl ≤ w7.heap.size := Nat.le_trans hbl hB7.size
                clear hown7 hg7 hL7 hB7
                go_wp2
                go_roundw
                case rel => exact ⟨k + 1, a7, _, c7, by omega, by go_num, rfl, Lib.hid ⟨HV7.out, HR7.out, by rw [HE9.out]; exact HL7.out, hbl7, by rw [HE9.out]⟩⟩
                case measure => simp [intOf]; omega
              · have hw0 : (((W j : Nat) : Int) == 0) = false := by simp; omega
                have e9 : (rs.take (k + 1)).filter (fun r => decide (W r = 0)) = (rs.take k).filter fun r => decide (W r = 0) := by rw [HT.out, List.filter_append]; simp [h0]
                have HX9 := Lib.hid (⟨hV, hR, by rw [e9]; exact hL, hbl, by rw [e9]; exact hln⟩ : OV B G rt E c g mb p cap sl w W wr ∧ OwnI (w.heap.size + 1) (.slice (some ⟨qr, 0, none⟩) rs.length gc) rs wr ∧ OwnI Bl (.slice la ln lc) ((rs.take (k + 1)).filter fun r => decide (W r = 0)) wr ∧ Bl ≤ wr.heap.size ∧ ln = ((rs.take (k + 1)).filter fun r => decide (W r = 0)).length)
                clear hV hR hL hX hln e9
                go_wp2
                go_roundw
                case rel => exact ⟨k + 1, la, ln, lc, by omega, by go_num, rfl, HX9⟩
                case measure => simp [intOf]; omega
            · have hkz2 : ¬ ((k : Int) < (rs.length : Int)) := by omega
              obtain rfl : k = rs.length := by omega
              obtain ⟨hV, hR, hL, hbl, hln⟩ := hX.out
              rw [List.take_length] at hL hln
              have hO : Ord G.ag rt G.N (rs.filter fun r => decide (W r = 0)) 0 [] W := Ord.start (fun r _ => by rw [HWc.out r, HRe.out]) (by rw [HRe.out])
              have HO := Lib.hid hO; have HV8 := Lib.hid hV; have HL8 := Lib.hid hL; have HLn := Lib.hid hln
              clear hV hR hL hX hln hO
              go_wp2
              go_loopw [11, 14] (fun vl vn wr => ∃ (m : Nat) (ls : List Nat) (W : Nat → Nat) (la : Option Addr) (ln lc : Nat), m ≤ ln ∧ vn = .int .i64 (m : Nat) ∧ vl = .slice la ln lc ∧ Hid (OV B G rt E c g mb p cap sl w W wr ∧ OwnI Bl (.slice la ln lc) ls wr ∧ Bl ≤ wr.heap.size ∧ ln = ls.length ∧ Ord G.ag rt G.N ls m [] W)) (fun _ vn _ => rs.length - (intOf vn).toNat)
              case atStart => exact ⟨0, _, W, la, ln, lc, Nat.zero_le _, rfl, rfl, Lib.hid ⟨HV8.out, HL8.out, hbl, HLn.out, HO.out⟩⟩
              case round =>
                obtain ⟨m, ls, W, la, ln, lc, hm, rfl, rfl, hX⟩ := hrel
                by_cases hlt : m < ln
                · have hmz : (m : Int) < (ln : Int) := by omega
                  obtain ⟨hV, hL, hbl9, hln, hO⟩ := hX.out
                  obtain ⟨ql, cl, el, lql, _, hcl, x0⟩ := hL.at (by rw [← hln]; exact hlt)
                  cases el
                  have hmem : ls.getD m 0 ∈ ls := by simp [List.getD, hlt]
                  have hjr := mem_roots.1 (hO.sub _ hmem)
                  have hlr : ls.length ≤ rs.length := by rw [← HRe.out]; exact nodup_len hO.nodup hO.sub
                  have hj : ls.getD m 0 = ls.getD m 0 := rfl
                  generalize hje : ls.getD m 0 = j at hjr x0 hj
                  obtain ⟨va, ca, hsl, x2⟩ := hV.gm.args hjr.1
                  obtain ⟨hlp, hcap, _⟩ := hV.gm.part hjr.1
                  have y0 := hV.gm.top0
                  have hg3 := hV.gm.lt
                  have hjz : (j : Int) < (G.N : Int) := by omega
                  have hjl := hE j hjr.1
                  have HV9 := Lib.hid hV; have HL9 := Lib.hid hL; have HSL := Lib.hid hsl; have HO9 := Lib.hid hO; have HJ := Lib.hid hje
                  clear hV hL hX hsl hO hln hje hj
                  go_wp2
                  go_quiet (fail)
                  go_wp2
                  go_loopw [11, 114] (fun vl vi wr => ∃ (q : Nat) (ls : List Nat) (W : Nat → Nat) (la : Option Addr) (ln lc : Nat), q ≤ (G.ag j).length ∧ vi = .int .i64 (q : Nat) ∧ vl = .slice la ln lc ∧ Hid (OV B G rt E c g mb p cap sl w W wr ∧ OwnI Bl (.slice la ln lc) ls wr ∧ Bl ≤ wr.heap.size ∧ ln = ls.length ∧ (m < ls.length ∧ ls.getD m 0 = j) ∧ Ord G.ag rt G.N ls m (((G.ag j).map rt).take q) W)) (fun _ vi _ => (G.ag j).length - (intOf vi).toNat)
                  case atStart => exact ⟨0, ls, W, _, _, _, Nat.zero_le _, rfl, rfl, Lib.hid ⟨HV9.out.low HG.out (below_drewN (Below.refl _ _) _), HL9.out.below (below_drewN (Below.refl _ _) _), hbl9, rfl, ⟨hlt, HJ.out⟩, by rw [List.take_zero]; exact HO9.out⟩⟩
                  case round =>
                    obtain ⟨q, ls, W, la, ln, lc, hq, rfl, rfl, hX⟩ := hrel
                    by_cases hqt : q < (G.ag j).length
                    · have hqz : (q : Int) < ((G.ag j).length : Int) := by omega
                      obtain ⟨hV, hL, hbl9, hln, ⟨hm2, hj2⟩, hO⟩ := hX.out
                      obtain ⟨qa, rfl, lqa, hcq, x1⟩ := hV.gm.arg hjr.1 HSL.out hqt
                      have hxN : (G.ag j).getD q 0 < G.N := HI.out.ok.arg hjr.1 (by simp [List.getD, hqt])
                      have hrN := HI.out.lt _ hxN
                      have hrr : rt ((G.ag j).getD q 0) ∈ rootsU rt G.N := mem_roots.2 ⟨hrN, HI.out.fix _ hxN⟩
                      obtain ⟨hpos, hone, htwo⟩ := Ord.arg' hj2 hO hm2 hqt rfl hrr
                      have hwb : W (rt ((G.ag j).getD q 0)) ≤ 1000000 * 1000000 := by
                        have h1 := hO.waits _ hrr
                        have h2 := cntU_le_mul (ag := G.ag) (rt := rt) (E := 1000000) (r := rt ((G.ag j).getD q 0)) (D := rootsU rt G.N) fun i hi => hE i (mem_roots.1 hi).1
                        rw [HRe.out] at h1 h2
                        have h3 := Nat.mul_le_mul_right 1000000 (Nat.le_trans hgl hN)
                        omega
                      have hlr2 : ls.length ≤ rs.length := by rw [← HRe.out]; exact nodup_len hO.nodup hO.sub
                      generalize (G.ag j).getD q 0 = x at *
                      have HC := Lib.hid (root_any hV.gm hxN)
                      have HV2 := Lib.hid hV; have HL2 := Lib.hid hL; have HO1 := Lib.hid hone; have HO2 := Lib.hid htwo
                      have HLn := Lib.hid hln
                      clear hV hL hX hO hone htwo hrr hln
                      have hrz : ((rt x : Nat) : Int) < (G.N : Int) := by omega
                      generalize hrx : rt x = r at *
                      have hsub : ((W r : Nat) : Int) - 1 = ((W r - 1 : Nat) : Int) := by omega
                      go_wp2_with (go_at_call 46; refine HC.out.mono ?_)
                      rintro e w3 ⟨rfl, hM3, hF3⟩
                      have hV3 := HV2.out.root hM3 hF3
                      have hL3 := HL2.out.frG HV2.out.gm hF3
                      have c0 := hV3.cell hrN
                      have f0 := hV3.free r
                      have l0 := hV3.lt
                      have hV4 := OV.set (x := W r - 1) HG.out hV3 hrN
                      have hL4 := OwnI.set_other (r := r) (x := .int .i64 ((W r - 1 : Nat) : Int)) hL3 (show w.heap.size < Bl by omega)
                      have c1 := hV4.cell hrN
                      simp only [if_true] at c1
                      have hs3 : Bl ≤ w3.heap.size := Nat.le_trans hbl9 hF3.1.size
                      have HV4 := Lib.hid hV4; have HL4 := Lib.hid hL4
                      clear hM3 hF3 HC hV3 hL3 hV4 hL4
                      by_cases h1 : W r = 1
                      · have e0 : ((W r - 1 : Nat) : Int) = 0 := by omega
                        have hv5 := HV4.out
                        have hl5 := HL4.out
                        rw [e0] at hv5 hl5 c1
                        rw [e0] at hsub
                        have HV5 := Lib.hid hv5; have HL5 := Lib.hid hl5
                        clear hv5 hl5 HV4 HL4
                        go_wp2_with (at_builtin; refine wpList_append_own _ rfl _ _ 22 rfl Bl 3 i0 (.int .i64 0) 1 8 Tryd.underlying22 hi0 hz0 hz1 hz2 rfl (by decide) _ _ _ rfl (HL5.out.alloc _) ⟨w3.heap.size, 0, none⟩ 1 1 [.int .i64 (r : Int)] rfl rfl (cell_int1' _ _ (by simp) _) (by simp [Value.oneCell']) ?c3 ?c4 ?c5 ?_)
                        case c3 => unfold maxLen; omega
                        case c4 => omega
                        case c5 => simp; omega
                        intro v' w7 hown7 hg7 _
                        obtain ⟨hL7, hB7, _⟩ := HL5.out.more (by simpa using hs3) hown7 hg7
                        have HV7 := Lib.hid (HV5.out.low HG.out (hB7.mono (by omega)))
                        obtain ⟨a7, c7, rfl⟩ := hL7.shape
                        have HL7 := Lib.hid hL7
                        have hbl7 : Bl ≤ w7.heap.size := Nat.le_trans (by simpa using hs3) hB7.size
                        clear hown7 hg7 hL7 hB7
                        go_wp2
                        go_roundw
                        case rel => exact ⟨q + 1, ls ++ [r], _, a7, _, c7, by omega, by go_num, rfl, Lib.hid ⟨HV7.out, HL7.out, hbl7, rfl, ⟨by simp; omega, by rw [getD_snoc hm2]; exact hj2⟩, HO1.out h1⟩⟩
                        case measure => simp [intOf]; omega
                      · have hw0 : (((W r - 1 : Nat) : Int) == 0) = false := by simp; omega
                        go_wp2
                        go_roundw
                        case rel => exact ⟨q + 1, ls, _, la, ln, lc, by omega, by go_num, rfl, Lib.hid ⟨HV4.out, HL4.out, by simpa using hs3, HLn.out, ⟨hm2, hj2⟩, HO2.out h1⟩⟩
                        case measure => simp [intOf]; omega
                    · have hqz : ¬ ((q : Int) < ((G.ag j).length : Int)) := by omega
                      obtain ⟨hV, hL, hbl9, hln, ⟨hm2, hj2⟩, hO⟩ := hX.out
                      have hO2 : Ord G.ag rt G.N ls (m + 1) [] W := Ord.next (k := q) (by rw [hj2]; exact hO) hm2 (by rw [hj2]; omega)
                      have hlr2 : ls.length ≤ rs.length := by rw [← HRe.out]; exact nodup_len hO.nodup hO.sub
                      have HX9 := Lib.hid (⟨hV, hL, hbl9, hln, hO2⟩ : OV B G rt E c g mb p cap sl w W wr ∧ OwnI Bl (.slice la ln lc) ls wr ∧ Bl ≤ wr.heap.size ∧ ln = ls.length ∧ Ord G.ag rt G.N ls (m + 1) [] W)
                      have hmln : m + 1 ≤ ln := by omega
                      clear hV hL hln hO hO2 hX
                      go_wp2
                      go_roundw
                      case rel => exact ⟨m + 1, ls, W, la, ln, lc, hmln, by go_num, rfl, HX9⟩
                      case measure => simp [intOf]; omega
                · have hmz : ¬ ((m : Int) < (ln : Int)) := by omega
                  obtain rfl : m = ln := by omega
                  obtain ⟨hV, hL, hbl9, hln, hO⟩ := hX.out
                  have HV9 := Lib.hid hV; have HL9 := Lib.hid hL; have HO9 := Lib.hid hO; have HLn9 := Lib.hid hln
                  clear hV hL hln hO hX
                  have hbe : (((m : Nat) : Int) == (rs.length : Int)) = decide (m = rs.length) := by
                    by_cases e : m = rs.length
                    · simp [e]
                    · rw [decide_eq_false e]; simp; omega
                  go_wp2
                  refine bodyPost_ret (v := .tuple #[.slice la m lc, .bool (decide (m = rs.length))]) (by simp [results, Tryd.results36, go_sem]) rfl ?_
                  have e1 := HLn9.out
                  subst e1
                  exact ⟨_, ls, W, by rw [HRe.out], HO9.out, HL9.out.plcAt, HV9.out.gm, HV9.out.fr⟩
end Go.Proofs.YthpphjkoiipkkaaDoor
/- The program's graph: goesRound. -/
namespace Go.Proofs.YthpphjkoiipkkaaDoor
open Go.RowKit Go.Maps
attribute [local go_sem] Oper.semAt_some

/-- All but the graph itself stays. -/
def Fr2 (p g : Nat) (w w' : World) : Prop := Below 0 w w' ∧ ∀ k, k < w.heap.size → k ≠ p → k ≠ g → w'.heap[k]? = w.heap[k]?
theorem Fr2.refl (p g : Nat) (w : World) : Fr2 p g w w := ⟨Below.refl _ _, fun _ _ _ _ => rfl⟩
theorem Fr2.trans {p g : Nat} {a b c : World} (h : Fr2 p g a b) (k : Fr2 p g b c) : Fr2 p g a c := ⟨h.1.trans k.1, fun i hi hp hg => (k.2 i (Nat.lt_of_lt_of_le hi h.1.size) hp hg).trans (h.2 i hi hp hg)⟩
theorem Fr.two {p : Nat} {w w' : World} (g : Nat) (h : Fr p w w') : Fr2 p g w w' := ⟨h.1, fun k hk hp _ => h.2 k hk hp⟩
theorem Fr2.drew {p g : Nat} {w v : World} (h : Fr2 p g w v) : Fr2 p g w v.drew := ⟨h.1.drew, h.2⟩
theorem Fr2.below {p g B : Nat} {w w' : World} (h : Fr2 p g w w') (hp : B ≤ p) (hg : B ≤ g) (hB : B ≤ w.heap.size) : Below B w w' := ⟨h.1.os, h.1.tape, h.1.output, h.1.size, fun k hk => h.2 k (by omega) (by omega) (by omega)⟩
theorem Fr2.below_fr {p g : Nat} {a b c : World} (h : Fr2 p g a b) (k : Below a.heap.size b c) : Fr2 p g a c := ⟨h.1.trans (k.mono (Nat.zero_le _)), fun i hi hp hg => (k.block i hi).trans (h.2 i hi hp hg)⟩
/-- The count of steps turned. -/
theorem GM.tick {B : Nat} {G : Gr} {rt : Nat → Nat} {E c c' g mb p cap : Nat} {sl : Nat → Value} {w : World} (h : GM B G rt E c g mb (.slice (some ⟨p, 0, none⟩) G.N cap) sl w) : GM B G rt E c' g mb (.slice (some ⟨p, 0, none⟩) G.N cap) sl (w.setCell ⟨g, 3, none⟩ (.int .i64 (c' : Int))) ∧ Fr2 p g w (w.setCell ⟨g, 3, none⟩ (.int .i64 (c' : Int))) := by
  have ho : ∀ k, k ≠ g → (w.setCell ⟨g, 3, none⟩ (.int .i64 (c' : Int))).heap[k]? = w.heap[k]? := fun k hk => Below.heap_setCell _ ⟨g, 3, none⟩ _ k hk
  obtain ⟨h1, h2, ⟨nx, hh, h3, h4, h5⟩, ⟨f, h6, h7, h8⟩⟩ := h
  have hne : ∀ (k : Nat) (o : Obj), w.heap[k]? = some o → (∀ cs fz, o ≠ .cells cs 80 fz) → (w.setCell ⟨g, 3, none⟩ (.int .i64 (c' : Int))).heap[k]? = some o := fun k o hk hT => (ho k (by rintro rfl; rw [h2] at hk; cases hk; exact hT _ _ rfl)).trans hk
  refine ⟨⟨h1, ?_, ⟨nx, hh, h3, row_kept h4 fun _ _ _ hk => hne _ _ hk (by simp), fun i hi => (h5 i hi).keep fun _ _ _ hk => hne _ _ hk (by simp)⟩, ⟨f, h6, ?_, h8⟩⟩, ⟨(Below.refl 0 w).setCell (p := ⟨g, 3, none⟩) (Nat.zero_le _) _, fun k _ _ hk => ho k hk⟩⟩
  · rw [blk_set h2]; rfl
  · obtain ⟨D, hD, ⟨es, clock, hm, r⟩, h2⟩ := h7
    exact ⟨D, hD, ⟨es, clock, hne _ _ hm (by simp), r⟩, h2⟩
theorem GM.cells {B : Nat} {G : Gr} {rt : Nat → Nat} {E c g mb : Nat} {pv : Value} {sl : Nat → Value} {w : World} (h : GM B G rt E c g mb pv sl w) : w.cell? ⟨g, 0, none⟩ = some pv ∧ w.cell? ⟨g, 1, none⟩ = some (.map (some mb)) ∧ w.cell? ⟨g, 2, none⟩ = some (.int .i64 (E : Int)) ∧ w.cell? ⟨g, 3, none⟩ = some (.int .i64 (c : Int)) ∧ ∀ o, w.frozen? ⟨g, o, none⟩ = false := by
  refine ⟨?_, ?_, ?_, ?_, fun o => Lib.frozen_of_heap h.top o⟩ <;> (rw [Lib.cell_of_heap h.top]; rfl)
open Classical in
/-- What goesRound tells. -/
def GoesR (B : Nat) (G : Gr) (rt : Nat → Nat) (E c g mb p cap : Nat) (sl : Nat → Value) (w : World) (e : Ending) (w' : World) : Prop :=
  (e = .returned (.bool (if c + 1 ≤ G.N + E then false else !decide (Acyc G rt))) ∧ GM B G rt E (if c + 1 ≤ G.N + E then c + 1 else 0) g mb (.slice (some ⟨p, 0, none⟩) G.N cap) sl w') ∧ Fr2 p g w w'
set_option maxRecDepth 100000 in
set_option maxHeartbeats 4000000 in
theorem goes_any {B : Nat} {G : Gr} {rt : Nat → Nat} {E c g mb p cap : Nat} {sl : Nat → Value} {w : World} (h : GM B G rt E c g mb (.slice (some ⟨p, 0, none⟩) G.N cap) sl w) (gi : GI G rt) (hE : ∀ i, i < G.N → (G.ag i).length ≤ 1000000) (hN : G.N ≤ 1000000) (hN0 : 0 < G.N) (hE2 : E ≤ 1000000) (hc : c ≤ 1000000000) :
    Calls Tryd.prog 50 #[gp g] w fun e w' => GoesR B G rt E c g mb p cap sl w e w' := by
  obtain ⟨_, _, _, x3, xf⟩ := h.cells
  have f3 := xf 3
  have hg := h.lt
  obtain ⟨t1, t2⟩ := h.tick (c' := c + 1)
  obtain ⟨y0, _, y2, y3, yf⟩ := t1.cells
  have g3 := yf 3
  have hcast : ((c + 1 : Nat) : Int) = (c : Int) + 1 := by omega
  have HT := Lib.hid (⟨t1, t2⟩ : _ ∧ Fr2 p g w _)
  rw [hcast] at y0 y2 y3 g3 HT
  unfold GoesR
  by_cases hk : c + 1 ≤ G.N + E
  · have hz : (decide ((c : Int) + 1 ≤ (G.N : Int) + (E : Int))) = true := by simp; omega
    rw [if_pos hk, if_pos hk]
    clear t1 t2 h gi hE xf yf
    go_enter Tryd.func50, Tryd.ntmps50
    go_wp2
    go_quiet (fail)
    go_wp2
    go_ret
    exact ⟨⟨rfl, HT.out.1.keep (below_drewN (Below.refl _ _) _)⟩, HT.out.2.below_fr (below_drewN (Below.refl _ _) _)⟩
  · have hz : (decide ((c : Int) + 1 ≤ (G.N : Int) + (E : Int))) = false := by simp; omega
    have hz2 : ¬ ((c : Int) + 1 ≤ (G.N : Int) + (E : Int)) := by omega
    rw [if_neg hk, if_neg hk]
    clear t1 t2 h hE2 xf yf
    go_enter Tryd.func50, Tryd.ntmps50
    go_wp2
    go_quiet (fail)
    have HT1 := Lib.hid (HT.out.1.keep (below_drewN (Below.refl _ _) nq))
    obtain ⟨v0, _, v2, v3, vf⟩ := HT1.out.cells
    have w3 := vf 3
    have hgv := HT1.out.lt
    obtain ⟨s1, s2⟩ := HT1.out.tick (c' := 0)
    have HO := Lib.hid (order_any s1 gi hE hN hN0)
    have HF := Lib.hid (HT.out.2.below_fr (below_drewN (Below.refl _ _) nq) |>.trans s2)
    clear s1 s2 vf
    have hzero : ((0 : Nat) : Int) = 0 := rfl
    rw [hzero] at HO HF
    go_wp2_with (go_at_call 36; refine HO.out.mono ?_)
    rintro e w6 ⟨vo, lo, Wo, rfl, hO, _, hM, hFr⟩
    have hA : (decide (lo.length = (rootsU rt G.N).length)) = @decide (Acyc G rt) (Classical.propDecidable _) := by
      rw [decide_eq_decide]; exact (hO.ends gi).1
    have HX := Lib.hid (⟨hM, HF.out.trans (hFr.two g)⟩ : GM B G rt E 0 g mb (.slice (some ⟨p, 0, none⟩) G.N cap) sl w6 ∧ Fr2 p g w w6)
    rw [hA]
    clear hO hM hFr hA HF HO
    go_wp2
    go_ret
    exact ⟨⟨rfl, HX.out.1⟩, HX.out.2⟩
end Go.Proofs.YthpphjkoiipkkaaDoor
/- A loop over an iterator whose rounds are told something of the memory beside what they are handed (an error that the iterator has just made), and that goes on reading blocks of its own behind a round: our own contract and our own law for the caller, over the library's steps of the loop's record. -/
namespace Go.Proofs.YthpphjkoiipkkaaDoor
open Go.RowKit

theorem grown_of_below {X Y : World} (h : Below X.heap.size X Y) : X.grownBy Y none := ⟨h.os, h.tape, h.output, h.size, fun k hk _ => h.block k hk⟩

/-- What a round keeps: the blocks from N on that were there, and those that K names. -/
structure Kept (K : Nat → Prop) (N : Nat) (X Y : World) : Prop where
  size : X.heap.size ≤ Y.heap.size
  block : ∀ k, N ≤ k ∨ K k → k < X.heap.size → Y.heap[k]? = X.heap[k]?

/-- The contract. Between two rounds the iterator may have laid blocks ('Below', from X0, where the last round ended, to X, where the next begins); the rounds may be told 'Ex x' of the world in which they are handed x; a round that goes on keeps what the iterator has laid since X0, and the blocks of K. -/
def SeqTold {α : Type} (n : Nat) (P : Program) (g : Nat) (lb : Array Value) (encs : α → Array Value) (Ex : α → World → Prop) (K : Nat → Prop) (S Sp : List α → Prop) (N : Nat) (w : World) : Prop :=
  ∀ (l : Nat) (J Jx : List α → World → Prop) (W : World), Below w.heap.size w W →
    (∀ pre x X0 X, J pre X0 → pre.length < N → Below X0.heap.size X0 X → Ex x X → YieldAt Fence.wide (n - 1) P l (encs x) X fun e Y =>
      (e = .returned (.bool true) ∧ J (pre ++ [x]) Y ∧ Kept K X0.heap.size X Y) ∨ (e = .returned (.bool false) ∧ Jx (pre ++ [x]) Y)) →
    J [] W →
    CallsIn Fence.wide n P g (#[.func (.yield l) #[] #[]] ++ lb) W fun e Y => (∃ v, e = .returned v) ∧ ((∃ xs, S xs ∧ J xs Y) ∨ (∃ pre, Sp pre ∧ Jx pre Y))

/-- How a round's body may be left: by its end, or by a return. The body may write the blocks of T alone, and what it has made itself. -/
def RoundPost {σ α : Type} (B : Nat) (T : Nat → Prop) (I : σ → List α → World → Prop) (Ix : List α → World → Prop) (xs : List α) (X : World) : Exit → Act → World → Prop
  | .normal, _, Y => KeepsFrom B X Y ∧ (∀ k, ¬ T k → k < X.heap.size → Y.heap[k]? = X.heap[k]?) ∧ ∃ s, I s xs Y
  | .ret, _, Y => KeepsFrom B X Y ∧ Ix xs Y
  | _, _, _ => False

/-- **The statement 'for .. := range f', its body left by its end or by a return.** 's': what the body keeps of its own; 'T s': the blocks that it may write there. -/
theorem range_told {n : Nat} {P : Program} {σ α : Type} {g : Operand} {ps : Array Tmp} {assign body : Code} {Q : Exit → Act → World → Prop} {a : Act} {w : World} (h1 : 1 ≤ n)
    {gf : Nat} {lb : Array Value} (hg : a.eval g = .func (.func gf) #[] lb) (eg : ∀ args w, (callFunc gf args).run P w = .ok (.enter gf args) w)
    {encs : α → Array Value} {Ex : α → World → Prop} {K : Nat → Prop} {S Sp : List α → Prop} {N : Nat} {w0 : World} (hseq : SeqTold (n - 1) P gf lb encs Ex K S Sp N w0)
    (hK : ∀ k, K k → k < w.heap.size) (hb0 : Below w0.heap.size w0 w) (hps : ∀ x, (encs x).size = ps.size)
    (I : σ → List α → World → Prop) (Ix : List α → World → Prop) (T : σ → Nat → Prop) (hI : ∀ s, OwnFrom w.heap.size (I s)) (hIx : OwnFrom w.heap.size Ix)
    (hT : ∀ s pre X k, I s pre X → T s k → k < X.heap.size ∧ ¬ K k) (h0 : ∃ s, I s [] w)
    (Ax : α → Act → World → Prop) (hAx : ∀ x a', OwnFrom w.heap.size (fun (_ : Unit) W => Ax x a' W))
    (hassign : ∀ (l : Nat) (s : σ) (pre : List α) (x : α) (X : World) (C : Act → World → Prop), I s pre X → Ex x X →
      (∀ a' Y, KeepsFrom w.heap.size X Y → Below X.heap.size X Y → Ax x a' Y → C a' Y) →
      assign.wpIn (Fence.wide.inRound l) (n - 1 - 1) P (Exit.then C (fun _ _ _ => False)) { tmps := (ps.zip (encs x)).foldl (fun t (p, v) => t.setIfInBounds p v) a.tmps, defers := [] } X)
    (hbody : ∀ (l : Nat) (s : σ) (pre : List α) (x : α) (a' : Act) (X : World), I s pre X → pre.length < N → Ax x a' X → body.wpIn (Fence.wide.inRound l) (n - 1 - 1) P (RoundPost w.heap.size (T s) I Ix (pre ++ [x]) X) a' X)
    (hdone : ∀ (D : Nat) (s : σ) (xs : List α) (W : World), w.heap.size ≤ D → S xs → I s xs W → W.heap[D]? = some (.deferred (some [])) → Q .normal { a with defers := { target := .collected D, args := #[] } :: a.defers } W)
    (hstop : ∀ (D : Nat) (pre : List α) (W : World), w.heap.size ≤ D → Sp pre → Ix pre W → W.heap[D]? = some (.deferred (some [])) → Code.ret.wpIn Fence.wide n P Q { a with defers := { target := .collected D, args := #[] } :: a.defers } W) :
    (Code.rangeFunc g ps assign body).wpIn Fence.wide n P Q a w := by
  refine wpIn_rangeFunc fun fn _ => ?_
  -- the two blocks that the loop lays: the rounds' deferred calls at B, the record behind it
  generalize hB : w.heap.size = B at *
  obtain ⟨R, hR⟩ : ∃ R : LoopState → Option Code → Obj, R = fun st pe => .loop { state := st, pending := pe, fn, tmps := a.tmps, params := ps, assign, body, defers := B } := ⟨_, rfl⟩
  have hcells : ∀ st pe, (R st pe).isCells = false := fun st pe => by rw [hR]; rfl
  obtain ⟨V, hV⟩ : ∃ V, (w.alloc (.deferred (some []))).alloc (R .ready none) = V := ⟨_, rfl⟩
  have below : Below w.heap.size w V := by rw [← hV]; exact ((Below.refl _ w).alloc (Nat.le_refl _) _).alloc (by simp) _
  have hVL : V.heap[B + 1]? = some (R .ready none) := by
    rw [← hV]
    have := World.alloc_heap_new (w.alloc (.deferred (some []))) (R .ready none)
    rwa [World.size_alloc, hB] at this
  have hVB : V.heap[B]? = some (.deferred (some [])) := by
    rw [← hV, Below.heap_alloc _ _ _ (by simp; omega), ← hB]
    exact World.alloc_heap_new w _
  obtain ⟨s0, h0⟩ := h0
  have hVI : I s0 [] V := hI _ _ _ _ none h0 (grown_of_below below) (fun r e => by cases e)
  -- turning the record keeps what is asked
  have turn : ∀ {X : World} {o : Obj} (o' : Obj), X.heap[B + 1]? = some o → o.isCells = false → (∀ s xs, I s xs X → I s xs (X.putObj (B + 1) o')) ∧ (∀ xs, Ix xs X → Ix xs (X.putObj (B + 1) o')) ∧
      (∀ x a', Ax x a' X → Ax x a' (X.putObj (B + 1) o')) ∧ (∀ k, k ≠ B + 1 → (X.putObj (B + 1) o').heap[k]? = X.heap[k]?) ∧ (X.putObj (B + 1) o').heap[B + 1]? = some o' ∧ (X.putObj (B + 1) o').heap[B]? = X.heap[B]? :=
    fun {X o} o' hl ho => by
      have hlt := (Array.getElem?_eq_some_iff.1 hl).1
      exact ⟨fun s xs h => (hI s).putObj _ h (by omega) hl ho, fun xs h => hIx.putObj _ h (by omega) hl ho, fun x a' h => (hAx x a').putObj (s := ()) _ h (by omega) hl ho,
        fun k hk => World.putObj_heap_other hk, World.putObj_heap_same hlt, World.putObj_heap_other (by omega)⟩
  refine ⟨B + 1, [{ target := .collected B, args := #[] }], V, { target := .fn (.func gf) lb, args := #[.func (.yield (B + 1)) #[] #[]] }, V, gf, #[.func (.yield (B + 1)) #[] #[]] ++ lb, V, ?_, ?_, fun _ _ => trivial, ?_, fun _ => h1, ?_⟩
  · have e := run_enterLoop_outer (P := P) (w := w) fn a.tmps ps assign body
    rw [hB] at e
    rw [← hV, hR]
    exact e
  · simp only [resolve, hg]
    simp [go_sem]
  · simp [invoke, go_sem, eg]
  · refine (hseq (B + 1)
      (fun pre X => (∃ s, I s pre X) ∧ X.heap[B + 1]? = some (R .ready none) ∧ X.heap[B]? = some (.deferred (some [])))
      (fun pre X => Ix pre X ∧ X.heap[B + 1]? = some (R .done (some .ret)) ∧ X.heap[B]? = some (.deferred (some [])))
      V (hb0.trans (below.mono (by rw [hB]; have := hb0.size; omega)))
      ?_ ⟨⟨s0, hVI⟩, hVL, hVB⟩).mono ?_
    · -- a round
      rintro pre x X0 X ⟨⟨s, hi0⟩, hl0, hd0⟩ hlen hX hex
      have hlt0 := (Array.getElem?_eq_some_iff.1 hl0).1
      have hi : I s pre X := hI _ _ _ _ none hi0 (grown_of_below hX) (fun r e => by cases e)
      have hl := (hX.block _ hlt0).trans hl0
      have hd := (hX.block _ (Array.getElem?_eq_some_iff.1 hd0).1).trans hd0
      have hl' := hl
      rw [hR] at hl'
      refine ⟨fn, _, assign, body, run_yield (P := P) (args := encs x) hl' (hps x), roundIn_of_wpIn trivial (hassign _ s pre x X _ hi hex ?_)⟩
      intro a' Y hk hb hax
      have hiY : I s pre Y := hI _ _ _ _ none hi (grown_of_below hb) (fun r e => by cases e)
      have hlY := hk.same _ _ (by omega) hl (hcells _ _)
      have hdY := hk.same _ _ (Nat.le_refl _) hd rfl
      have hlY' := hlY
      rw [hR] at hlY'
      have begins := run_beginRound (P := P) hlY' rfl
      obtain ⟨t1, _, t3, t4, t5, t6⟩ := turn (R .busy none) hlY (hcells _ _)
      refine ⟨Y.putObj (B + 1) (R .busy none), by rw [begins, hR], ?_⟩
      have ends : ∀ (jump : Option Code) (Z : World), KeepsFrom B (Y.putObj (B + 1) (R .busy none)) Z → Z.heap[B + 1]? = some (R .busy none) ∧ Z.heap[B]? = some (.deferred (some [])) ∧
          (Instr.endRound (B + 1) jump).run P Z = .ok (.bool jump.isNone) (Z.putObj (B + 1) (R (if jump.isNone then .ready else .done) jump)) := fun jump Z hz => by
        have z1 := hz.same _ _ (by omega) t5 (hcells _ _)
        refine ⟨z1, hz.same _ _ (Nat.le_refl _) (t6.trans hdY) rfl, ?_⟩
        rw [hR] at z1 ⊢
        exact run_endRound (P := P) jump z1
      refine wpIn_mono (hbody _ s pre x a' _ (t1 _ _ hiY) hlen (t3 _ _ hax)) ?_
      rintro e a3 Z hp
      cases e with
      | normal =>
        obtain ⟨hz, hzb, s', hzi⟩ := hp
        obtain ⟨z1, z2, z3⟩ := ends none Z hz
        obtain ⟨u1, _, _, u4, u5, u6⟩ := turn (R .ready none) z1 (hcells _ _)
        refine ⟨_, _, z3, .inl ⟨rfl, ⟨⟨s', u1 _ _ hzi⟩, u5, u6.trans z2⟩, ?_, ?_⟩⟩
        · have := hb.size; have := hz.size; simp at this ⊢; omega
        · intro k hk hkX
          have hne : k ≠ B + 1 := by
            rcases hk with hk | hk
            · omega
            · have := hK k hk; omega
          have hnT : ¬ T s k := by
            intro ht
            rcases hk with hk | hk
            · have := (hT s pre X0 k hi0 ht).1; omega
            · exact (hT s pre X0 k hi0 ht).2 hk
          have hkY : k < Y.heap.size := by have := hb.size; omega
          exact (u4 k hne).trans ((hzb k hnT (by simpa using hkY)).trans ((t4 k hne).trans (hb.block k hkX)))
      | ret =>
        obtain ⟨hz, hzi⟩ := hp
        obtain ⟨z1, z2, z3⟩ := ends (some .ret) Z hz
        obtain ⟨_, u2, _, _, u5, u6⟩ := turn (R .done (some .ret)) z1 (hcells _ _)
        exact ⟨_, _, z3, .inr ⟨rfl, u2 _ hzi, u5, u6.trans z2⟩⟩
      | exit id => exact hp.elim
      | goto t => exact hp.elim
      | panic ch => exact hp.elim
      | outgrown => exact hp.elim
    · -- behind the iterator
      rintro e Z ⟨⟨v, rfl⟩, (⟨xs, hS, ⟨s, hi⟩, hl, hd⟩ | ⟨pre, hSp, hi, hl, hd⟩)⟩
      · obtain ⟨u1, _, _, _, _, u6⟩ := turn (R .exhausted none) hl (hcells _ _)
        have hl' := hl
        rw [hR] at hl'
        refine ⟨none, _, by have e := run_endLoop (P := P) hl' (by simp); exact e, ?_⟩
        have := hdone B s xs _ (Nat.le_refl _) hS (u1 _ _ hi) (u6.trans hd)
        rw [hR] at this
        exact this
      · obtain ⟨_, u2, _, _, _, u6⟩ := turn (R .exhausted (some .ret)) hl (hcells _ _)
        have hl' := hl
        rw [hR] at hl'
        refine ⟨some .ret, _, by have e := run_endLoop (P := P) hl' (by simp); exact e, ?_⟩
        have := hstop B pre _ (Nat.le_refl _) hSp (u2 _ hi) (u6.trans hd)
        rw [hR] at this
        exact this
end Go.Proofs.YthpphjkoiipkkaaDoor
/- A row of places from behind: slices.Backward over this program. -/
namespace Go.Proofs.YthpphjkoiipkkaaDoor
open Go.RowKit
attribute [local go_sem] Oper.semAt_some

def encK (vs : List Nat) (i : Nat) : Array Value := #[.int .i64 (i : Int), .int .i64 (vs.getD i 0 : Nat)]
theorem rangeI_back (m n : Nat) (pre : List Nat) (h : pre ++ (List.range (m + 1)).reverse = (List.range n).reverse) : (pre ++ [m]) ++ (List.range m).reverse = (List.range n).reverse := by
  rw [← h, List.range_succ]; simp

set_option maxRecDepth 100000 in
set_option maxHeartbeats 2000000 in
theorem backI_told (n : Nat) (hn : 1 ≤ n) (vs : List Nat) (hvs : vs.length ≤ 1000000) (a : Option Addr) (cap g Bn : Nat) (w : World) (hBn : w.cell? ⟨Bn, 0, none⟩ = some (.slice a vs.length cap))
    (hrow : ∀ i, i < vs.length → a = some ⟨g, 0, none⟩ ∧ vs.length ≤ cap ∧ w.cell? ⟨g, i, none⟩ = some (.int .i64 (vs.getD i 0 : Nat))) :
    SeqTold n Tryd.prog 62 #[.pointer (some ⟨Bn, 0, none⟩)] (encK vs) (fun _ _ => True) (fun k => k = Bn ∨ k = g) (fun xs => xs = (List.range vs.length).reverse) (fun _ => True) (vs.length + 1) w := by
  intro l J Jx W hW hY h0
  have hBW : W.cell? ⟨Bn, 0, none⟩ = some (.slice a vs.length cap) := (hW.cell (p := ⟨Bn, 0, none⟩) (World.block_lt_of_cell? _ _ hBn)).trans hBn
  have hrW : ∀ i, i < vs.length → a = some ⟨g, 0, none⟩ ∧ vs.length ≤ cap ∧ W.cell? ⟨g, i, none⟩ = some (.int .i64 (vs.getD i 0 : Nat)) := fun i hi => by
    obtain ⟨e1, e2, e3⟩ := hrow i hi
    exact ⟨e1, e2, (hW.cell (p := ⟨g, i, none⟩) (World.block_lt_of_cell? _ _ e3)).trans e3⟩
  have HRW := Lib.hid hrW
  clear hBn hrow hrW
  refine callsIn_of_wp Tryd.func62 rfl trivial ?_ rfl
  simp only [Tryd.ntmps62, List.size_toArray, List.length_cons, List.length_nil, Nat.reduceAdd, Nat.reduceSub, Array.replicate_succ, Array.replicate_zero, List.push_toArray, List.append_toArray, List.nil_append, List.cons_append]
  gi_wp2
  gi_loopw [3] (fun vi wr => ∃ (m : Nat) (pre : List Nat), vi = .int .i64 ((m : Int) - 1) ∧ (m ≤ vs.length ∧ pre.length + m = vs.length) ∧ Hid (pre ++ (List.range m).reverse = (List.range vs.length).reverse) ∧ J pre wr ∧
      wr.cell? ⟨Bn, 0, none⟩ = some (.slice a vs.length cap) ∧ Hid (∀ i, i < vs.length → a = some ⟨g, 0, none⟩ ∧ vs.length ≤ cap ∧ wr.cell? ⟨g, i, none⟩ = some (.int .i64 (vs.getD i 0 : Nat)))) (fun vi _ => (intOf vi + 1).toNat)
  case atStart => exact ⟨vs.length, [], rfl, ⟨Nat.le_refl _, by simp⟩, Lib.hid (by simp), h0, hBW, HRW⟩
  case round =>
    obtain ⟨m, pre, rfl, ⟨hm, hpl⟩, hpre, hJ, hBr, hRr⟩ := hrel
    by_cases hpos : 0 < m
    · obtain ⟨m', rfl⟩ : ∃ m', m = m' + 1 := ⟨m - 1, by omega⟩
      have hI : ((m' + 1 : Nat) : Int) - 1 = (m' : Int) := by omega
      obtain ⟨rfl, hcap, hcell⟩ := hRr.out m' (by omega)
      obtain ⟨fn, tmps, assign, body, hy, hR⟩ := hY pre m' wr wr hJ (by omega) (Below.refl _ _) trivial
      dsimp only [encK] at hy
      rw [hI]
      have hlt1 : (m' : Int) < (vs.length : Int) := by omega
      have hge1 : (0 : Int) ≤ (m' : Int) := by omega
      have HPre := Lib.hid (rangeI_back m' vs.length pre hpre.out)
      obtain ⟨t, ht⟩ : ∃ t, vs.getD m' 0 = t := ⟨_, rfl⟩
      rw [ht] at hcell hy
      clear hY hI ht hBW HRW hpre
      gi_wp2
      refine hR.mono ?_
      clear hR hy
      rintro e W3 (⟨rfl, hJ3, hk3⟩ | ⟨rfl, hJx3⟩)
      · have hbl : ∀ (b o : Nat) (u : Value), b = Bn ∨ b = g → wr.cell? ⟨b, o, none⟩ = some u → W3.cell? ⟨b, o, none⟩ = some u := fun b o u hb hu => by
          have q1 := World.block_lt_of_cell? _ _ hu
          have q3 := hk3.block b (.inr hb) q1
          exact (World.cell?_of_block (a := ⟨b, o, none⟩) q3).trans hu
        have cB := hbl Bn 0 _ (.inl rfl) hBr
        have CR := Lib.hid (fun i (hi : i < vs.length) => (⟨rfl, (hRr.out i hi).2.1, hbl g i _ (.inr rfl) (hRr.out i hi).2.2⟩ : (some (⟨g, 0, none⟩ : Addr) = some ⟨g, 0, none⟩ ∧ vs.length ≤ cap ∧ W3.cell? ⟨g, i, none⟩ = some (.int .i64 (vs.getD i 0 : Nat)))))
        clear hbl hk3
        gi_wp2
        go_roundw
        case rel => exact ⟨m', pre ++ [m'], by go_num, ⟨by omega, by simp; omega⟩, HPre, hJ3, cB, CR⟩
        case measure => simp [intOf]
      · gi_wp2
        refine bodyPost_ret (results_none rfl _ _ _) rfl ⟨⟨_, rfl⟩, .inr ⟨_, trivial, hJx3⟩⟩
    · obtain rfl : m = 0 := by omega
      clear hY hBW HRW
      gi_wp2
      go_end0
      exact ⟨⟨_, rfl⟩, .inl ⟨pre, by have := hpre.out; simpa using this, hJ⟩⟩
set_option maxRecDepth 100000 in
set_option maxHeartbeats 1000000 in
theorem backwardI_any (a : Option Addr) (n c : Nat) (w : World) : Calls Tryd.prog 53 #[.slice a n c] w fun e w' => e = .returned (.func (.func 62) #[] #[.pointer (some ⟨w.heap.size, 0, none⟩)]) ∧ w.alloc (.cells #[.slice a n c] 22) = w' := by
  go_enter Tryd.func53, Tryd.ntmps53
  go_wp2
  go_ret
  exact ⟨rfl, rfl⟩
end Go.Proofs.YthpphjkoiipkkaaDoor
