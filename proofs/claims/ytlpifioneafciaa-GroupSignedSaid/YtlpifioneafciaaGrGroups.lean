/- orderer's groups. -/
import Derived.Test.YtlpifioneafciaaGrTold
import Derived.Test.YtlpifioneafciaaGrWF
import Derived.Deep.LoopGhost
import Derived.WalkMore
namespace Go.Proofs.Ytlpifioneafciaa
open Go.RowKit Go.Maps Go.Lib
attribute [local go_sem] Oper.semAt_some

theorem rd_len {c : Nat} {rd : List Nat} (hn : rd.Nodup) (hc : ∀ x ∈ rd, x < c) : rd.length ≤ c := nodup_range_len hn hc
set_option maxRecDepth 100000 in
set_option maxHeartbeats 8000000 in
theorem groups_any {B B0 b c qm qu qw : Nat} {ms us : Nat → List Nat} {wt : Nat → Nat} (w : World) (h : OM B B0 b c qm qu qw (.slice none 0 0) ms us wt [] w) (hB0 : B0 ≤ w.heap.size) (hc : c < 100000000) (hml : ∀ x, (ms x).length ≤ 1000000000) (hul : ∀ x, (us x).length ≤ 1000000000) (hus : ∀ x, x < c → ∀ u ∈ us x, u < c) (hwt : ∀ u, u < c → wt u = needT c us [] u) (hwb : ∀ u, wt u < 1000000000000) :
    Calls Try.prog 18 #[.pointer (some ⟨b, 0, none⟩)] w fun e w' => ∃ tv dn, e = .returned tv ∧ Greedy c us (ltM ms) dn ∧ (∀ y, ¬ ReadyR c us dn y) ∧ TolR B0 (OkB B B0 qw b) tv ms (dn.filter fun r => !(ms r).isEmpty) w' ∧ Below B w w' := by
  obtain ⟨y0, y1, y2, y3⟩ := cells4G h.blk
  have H0 := Lib.hid h
  have HML := Lib.hid hml
  have HUL := Lib.hid hul
  have HUS := Lib.hid hus
  have HWT := Lib.hid hwt
  have HWB := Lib.hid hwb
  clear h hml hul hus hwt hwb
  go_enter Try.func18, Try.ntmps18
  go_wp2_with fail
  go_loopw [13] (fun vi wr => ∃ (i : Nat) (rd : List Nat) (rv : Value), i ≤ c ∧ vi = .int .i64 i ∧ Hid (rd.Nodup ∧ HeapN (ltM ms) rd rd.length ∧ ∀ y, y ∈ rd ↔ y < i ∧ wt y = 0) ∧ Hid (OM B B0 b c qm qu qw rv ms us wt rd wr) ∧ Hid (B0 ≤ wr.heap.size) ∧ Hid (FrO B b (.slice none 0 0) w rv wr)) (fun vi _ => c - (RowKit.intOf vi).toNat)
  case atStart => exact ⟨0, [], _, Nat.zero_le _, rfl, Lib.hid ⟨List.nodup_nil, fun k h0 hk => by simp at hk, fun y => by simp⟩, H0, Lib.hid hB0, Lib.hid (FrO.refl _ _ _ _)⟩
  case round =>
    obtain ⟨i, rd, rv, hic, rfl, hI, hM, hS, hF⟩ := hrel
    clear H0
    by_cases hlt : i < c
    · have hltI : (i : Int) < (c : Int) := by omega
      obtain ⟨z1, z2, z3⟩ := row_cell hM.out.wait hlt
      have hlen : rd.length ≤ c := rd_len hI.out.1 fun x hx => by have := ((hI.out.2.2 x).1 hx).1; omega
      by_cases hz : wt i = 0
      · rw [hz] at z1
        have hir : i ∉ rd := fun hx => by have := ((hI.out.2.2 i).1 hx).1; omega
        have HP := Lib.hid (hpush_any (r := i) (n := rd.length) wr hM.out hS.out hlt rfl (by omega) HML.out hI.out.2.1)
        have HI2 := Lib.hid (show (rd ++ [i]).Nodup ∧ ∀ y, y ∈ rd ++ [i] ↔ y < i + 1 ∧ wt y = 0 from ⟨by
          rw [List.nodup_append]
          exact ⟨hI.out.1, by simp, fun a ha b hb => by simp at hb; subst hb; exact fun e => hir (e ▸ ha)⟩, fun y => by
          rw [List.mem_append, hI.out.2.2 y]
          by_cases e : y = i
          · subst e; simp [hz]
          · simp [e]; omega⟩)
        clear hz hir hlen
        go_wp2_with (go_at_call 25; fail)
        refine HP.out.mono ?_
        rintro e w2 ⟨rfl, rv2, rd2, hM2, hF2, hp2, hh2⟩
        have HM2 := Lib.hid hM2
        have HF2 := Lib.hid (hF.out.trans hF2)
        have HS2 := Lib.hid (Nat.le_trans hS.out hF2.1.size)
        have HI3 := Lib.hid (show rd2.Nodup ∧ HeapN (ltM ms) rd2 rd2.length ∧ ∀ y, y ∈ rd2 ↔ y < i + 1 ∧ wt y = 0 from ⟨hp2.nodup_iff.2 HI2.out.1, hh2, fun y => hp2.mem_iff.trans (HI2.out.2 y)⟩)
        clear hM2 hF2 hp2 hh2 HP HI2
        go_wp2_with fail
        go_roundw
        case rel => exact ⟨i + 1, rd2, rv2, by omega, by go_num, HI3, HM2, HS2, HF2⟩
        case measure => simp [RowKit.intOf]; omega
      · have hzI : ¬ ((wt i : Int) = 0) := by omega
        have HI2 := Lib.hid (show rd.Nodup ∧ HeapN (ltM ms) rd rd.length ∧ ∀ y, y ∈ rd ↔ y < i + 1 ∧ wt y = 0 from ⟨hI.out.1, hI.out.2.1, fun y => by
          rw [hI.out.2.2 y]
          by_cases e : y = i
          · subst e; simp [hz]
          · constructor
            · rintro ⟨a, b⟩; exact ⟨by omega, b⟩
            · rintro ⟨a, b⟩; exact ⟨by omega, b⟩⟩)
        clear hlen
        go_wp2_with fail
        go_roundw
        case rel => exact ⟨i + 1, rd, rv, by omega, by go_num, HI2, hM, hS, hF⟩
        case measure => simp [RowKit.intOf]; omega
    · obtain rfl : c = i := by omega
      have hltI : ¬ ((c : Int) < (c : Int)) := by omega
      have HTI0 := Lib.hid (show TI c us [] [] rd wt from TI.start hI.out.1 hI.out.2.2 HWT.out)
      have HHp := Lib.hid hI.out.2.1
      have HB1 := Lib.hid (And.intro hF.out.1 hS.out)
      have hta := fun (v : Value) w => ta_int v w
      obtain ⟨i0, hi, hz0, hz1, hz2⟩ := info_parts Try.infoRows
      clear hI hS hF hic HWT
      go_wp2_with fail
      go_loopg [2] c (fun g vt W => ∃ (dn rd : List Nat) (wt2 : Nat → Nat) (rv : Value), Hid (c - dn.length ≤ g) ∧ Hid (Greedy c us (ltM ms) dn) ∧ Hid (TI c us dn [] rd wt2 ∧ HeapN (ltM ms) rd rd.length ∧ ∀ u, wt2 u < 1000000000000) ∧ Hid (OM B B0 b c qm qu qw rv ms us wt2 rd W) ∧ Hid (TolR B0 (OkB B B0 qw b) vt ms (dn.filter fun r => !(ms r).isEmpty) W ∧ ∀ k, rv.ownBlock = some k → vt.ownBlock ≠ some k) ∧ Hid (Below B w W ∧ B0 ≤ W.heap.size))
      case atStart => exact ⟨[], rd, wt, rv, Lib.hid (Nat.le_refl _), Lib.hid .nil, Lib.hid ⟨HTI0.out, HHp.out, HWB.out⟩, hM, Lib.hid ⟨⟨[], ⟨rfl, .inl ⟨rfl, rfl⟩⟩, rfl, fun i hi => by simp at hi⟩, fun k e h => by cases h⟩, HB1⟩
      case round =>
        rename World => W1
        obtain ⟨dn, rd1, wt2, rv1, hg, hG, hT, hM1, hR, hB⟩ := hrel
        clear HTI0 HHp HB1 hM
        generalize gk = gO at *
        have HLn := Lib.hid (olen_any W1 hM1.out)
        cases hrd : rd1 with
        | nil =>
          have HE := Lib.hid (show ∀ y, ¬ ReadyR c us dn y from fun y hy => by have := (hT.out.1.ready y).2 hy; rw [hrd] at this; cases this)
          rw [hrd] at HLn
          clear hrd
          go_wp2_with (go_at_call 26; fail)
          refine HLn.out.mono ?_
          rintro e w2 ⟨rfl, rfl⟩
          go_wp2
          go_ret
          exact ⟨_, dn, rfl, hG.out, HE.out, hR.out.1, hB.out.1⟩
        | cons r0 rdt =>
          obtain ⟨n, hn⟩ : ∃ n, rd1.length = n + 1 := ⟨rdt.length, by rw [hrd]; rfl⟩
          clear hrd r0 rdt
          have hlc : rd1.length ≤ c := rd_len hT.out.1.rdN fun a ha => ((hT.out.1.rdI a).1 ha).1
          have HPp := Lib.hid (hpop_any (n := n) W1 hM1.out hn (by omega) HML.out (by have := hT.out.2.1; rwa [hn] at this))
          rw [hn] at HLn
          have hnI : ((n + 1 : Nat) : Int) > 0 := by omega
          have hnJ : (0 : Int) < (n : Int) + 1 := by omega
          clear hn hlc
          go_wp2_with (go_at_call 26; fail)
          refine HLn.out.mono ?_
          rintro e w2 ⟨rfl, rfl⟩
          go_wp2_with (go_at_call 27; fail)
          refine HPp.out.mono ?_
          rintro e w3 ⟨x, rfl, rv2, rd2, hM2, hF2, hp2, hh2, hmin⟩
          have hxr : x ∈ rd1 := hp2.mem_iff.2 (List.mem_cons_self ..)
          have hxR := (hT.out.1.ready x).1 hxr
          have HX := Lib.hid hxR
          have HG2 := Lib.hid (Greedy.snoc hG.out hxR fun y hy => hmin y ((hT.out.1.ready y).2 hy))
          have HTI := Lib.hid (show TI c us (dn ++ [x]) ((us x).drop 0) rd2 wt2 ∧ HeapN (ltM ms) rd2 rd2.length ∧ ∀ u, wt2 u < 1000000000000 from ⟨hT.out.1.pop hp2 (HUS.out x hxR.1), hh2, hT.out.2.2⟩)
          have HGO := Lib.hid (show 0 < gO by
            have h1 := rd_len HTI.out.1.dnN HTI.out.1.dnC
            have h2 := hg.out
            simp at h1; omega)
          have HM3 := Lib.hid hM2
          have HT2 := Lib.hid (hF2.told hR.out.1 (hR.out.1.ne hM1.out.blk (by decide)) fun k e => ⟨hM1.out.rdy.ge e, hR.out.2 k e⟩)
          have HB2 := Lib.hid (show Below B w w3 ∧ B0 ≤ w3.heap.size from ⟨hB.out.1.trans hF2.1, Nat.le_trans hB.out.2 hF2.1.size⟩)
          have hdl : dn.length ≤ c := rd_len hT.out.1.dnN hT.out.1.dnC
          clear hM2 hF2 hp2 hh2 hmin hxr hxR HPp HLn hG hT hM1 hR hB
          obtain ⟨mv, mc0, mr, _⟩ := HM3.out.mem.cell HX.out.1
          obtain ⟨ma, mcc, rfl⟩ := mr.shape
          obtain ⟨t0, t1, t2, t3⟩ := cells4G HM3.out.blk
          have hxcI : (x : Int) < (c : Int) := by have := HX.out.1; omega
          have hx0I : (0 : Int) ≤ (x : Int) := by omega
          by_cases hme : ms x = []
          · have hml0 : (ms x).length = 0 := by rw [hme]; rfl
            rw [hml0] at mc0
            have hfl : ((dn ++ [x]).filter fun r => !(ms r).isEmpty) = dn.filter fun r => !(ms r).isEmpty := by simp [List.filter_append, hme]
            have HT3 := HT2
            rw [← hfl] at HT3
            have HB3 := HB2
            clear hme hfl mr HT2 HB2 hml0
            obtain ⟨uv, uc0, ur, _⟩ := HM3.out.usr.cell HX.out.1
            obtain ⟨ua, uc, rfl⟩ := ur.shape
            have HRu := Lib.hid ur
            obtain ⟨s0, s1, s2, s3⟩ := cells4G HM3.out.blk
            have hulx : (us x).length ≤ 1000000000 := HUL.out x
            have hxcI : (x : Int) < (c : Int) := by have := HX.out.1; omega
            have hx0I : (0 : Int) ≤ (x : Int) := by omega
            clear ur
            go_wp2_with fail
            go_loopg [60] ((us x).length) (fun gi vi W => ∃ (i : Nat) (rd4 : List Nat) (wt4 : Nat → Nat) (rv4 : Value), i ≤ (us x).length ∧ vi = .int .i64 i ∧ Hid ((us x).length - i ≤ gi) ∧ Hid (TI c us (dn ++ [x]) ((us x).drop i) rd4 wt4 ∧ HeapN (ltM ms) rd4 rd4.length ∧ ∀ u, wt4 u < 1000000000000) ∧ Hid (OM B B0 b c qm qu qw rv4 ms us wt4 rd4 W) ∧ Hid (TolR B0 (OkB B B0 qw b) u2 ms ((dn ++ [x]).filter fun r => !(ms r).isEmpty) W ∧ ∀ k, rv4.ownBlock = some k → Value.ownBlock u2 ≠ some k) ∧ Hid (RowQ (OkB B B0 qw b) (.slice ua (us x).length uc) (us x) W) ∧ Hid (Below B w W ∧ B0 ≤ W.heap.size))
            case atStart => exact ⟨0, rd2, wt2, rv2, Nat.zero_le _, rfl, Lib.hid (Nat.le_refl _), HTI, HM3, HT3, HRu, HB3⟩
            case round =>
              rename World => W
              obtain ⟨i, rd4, wt4, rv4, hil, rfl, hg4, hT4, hM4, hR4, hU4, hB4⟩ := hrel
              clear HTI HM3 HT3 HRu HB3 s0 s1 s2 s3 uc0
              by_cases hin : i < (us x).length
              · obtain ⟨ug, uo, rfl, hug, huc⟩ := hU4.out.at (by omega)
                have uc1 := huc i hin
                obtain ⟨u, hu⟩ : ∃ u, (us x).getD i 0 = u := ⟨_, rfl⟩
                rw [hu] at uc1
                have hdr := drop_getD hin
                rw [hu] at hdr
                have hT5 := hT4.out.1
                rw [hdr] at hT5
                obtain ⟨huC, hup, hud, hur⟩ := hT5.head
                obtain ⟨y, hy⟩ : ∃ y, wt4 u = y + 1 := ⟨wt4 u - 1, by omega⟩
                obtain ⟨z1, z2, z3⟩ := row_cell hM4.out.wait huC
                obtain ⟨x0, x1, x2, x3⟩ := cells4G hM4.out.blk
                have hyb : y < 1000000000000 := by have := hT4.out.2.2 u; omega
                have HBd := Lib.hid (show ∀ v, updN wt4 u y v < 1000000000000 from fun v => by
                  unfold updN
                  split
                  · exact hyb
                  · exact hT4.out.2.2 v)
                have HT5 := Lib.hid (And.intro hT5 hy)
                have HTb := Lib.hid (hR4.out.1.ne hM4.out.blk (by decide))
                have hB4' := hM4.out.bb
                have H6 := Lib.hid (hM4.out.setWait (u := u) (x := y) huC)
                have HR6 := Lib.hid (show TolR B0 (OkB B B0 qw b) u2 ms ((dn ++ [x]).filter fun r => !(ms r).isEmpty) (W.setCell ⟨qw, u, none⟩ (.int .i64 (y : Int))) from hR4.out.1.keep (Nat.le_of_eq (size_set _ _ _).symm) (fun k e => heap_set W ⟨qw, u, none⟩ _ k (by have h1 := (hR4.out.1.lt e).1; intro (h2 : k = qw); omega)) fun k ok _ => heap_set W ⟨qw, u, none⟩ _ k ok.2.1)
                have HU6 := Lib.hid (hU4.out.keep (w' := W.setCell ⟨qw, u, none⟩ (.int .i64 (y : Int))) (Nat.le_of_eq (size_set _ _ _).symm) fun k ok _ => heap_set W ⟨qw, u, none⟩ _ k ok.2.1)
                have HB6 := Lib.hid (show Below B w (W.setCell ⟨qw, u, none⟩ (.int .i64 (y : Int))) ∧ B0 ≤ (W.setCell ⟨qw, u, none⟩ (.int .i64 (y : Int))).heap.size from ⟨hB4.out.1.setCell (p := ⟨qw, u, none⟩) (hM4.out.wait.ge rfl) _, by rw [size_set]; exact hB4.out.2⟩)
                have w1 : (W.setCell ⟨qw, u, none⟩ (.int .i64 (y : Int))).cell? ⟨qw, u, none⟩ = some (.int .i64 (y : Int)) := World.cell?_setCell_same (h := z1) ..
                obtain ⟨v0, v1, v2, v3⟩ := cells4G H6.out.blk
                have hqb : qw ≠ b := hM4.out.ne.2.2
                have hbq : b ≠ qw := Ne.symm hqb
                rw [hy] at z1
                have hyI : ((y + 1 : Nat) : Int) - 1 = (y : Int) := by omega
                have hinI : (i : Int) < ((us x).length : Int) := by omega
                have huI : (u : Int) < (c : Int) := by omega
                have hu0I : (0 : Int) ≤ (u : Int) := by omega
                have hl4 : rd4.length ≤ c := rd_len hT5.rdN fun a ha => ((hT5.rdI a).1 ha).1
                have HRV := Lib.hid hR4.out.2
                by_cases hy0 : y = 0
                · have HP := Lib.hid (hpush_any (r := u) (n := rd4.length) _ H6.out HB6.out.2 huC rfl (by omega) HML.out hT4.out.2.1)
                  have hy0I : (y : Int) = 0 := by omega
                  have HY := Lib.hid hy0
                  rw [hy0I] at HP HR6 HU6 HB6 H6
                  clear hdr hT5 hM4 hR4 hU4 hB4 hy huc hup hud hur hu hy0 hT4
                  go_wp2_with (go_at_call 25; fail)
                  refine HP.out.mono ?_
                  rintro e w7 ⟨rfl, rv7, rd7, hM7, hF7, hp7, hh7⟩
                  have HF7 := Lib.hid (hF7.told HR6.out HTb.out fun k e => ⟨H6.out.rdy.ge e, HRV.out k e⟩)
                  have HU7 := Lib.hid (HU6.out.keep hF7.1.size fun k ok hk => hF7.2.1 k hk ok.2.2.1 fun e => by have h1 := H6.out.rdy.ge e; have h2 := ok.1; omega)
                  have HB7 := Lib.hid (show Below B w w7 ∧ B0 ≤ w7.heap.size from ⟨HB6.out.1.trans hF7.1, Nat.le_trans HB6.out.2 hF7.1.size⟩)
                  have HM7 := Lib.hid hM7
                  have HT7 := Lib.hid (show TI c us (dn ++ [x]) ((us x).drop (i + 1)) rd7 (updN wt4 u y) ∧ HeapN (ltM ms) rd7 rd7.length ∧ ∀ v, updN wt4 u y v < 1000000000000 from ⟨HT5.out.1.told HT5.out.2 (.inl ⟨HY.out, hp7⟩), hh7, HBd.out⟩)
                  clear hM7 hF7 hp7 hh7 HP H6 HR6 HU6 HB6 HRV HTb HT5 HBd
                  go_wp2_with fail
                  go_roundg ((us x).length - (i + 1))
                  case measure => have := hg4.out; omega
                  case rel => exact ⟨i + 1, rd7, updN wt4 u y, rv7, by omega, by go_num, Lib.hid (Nat.le_refl _), HT7, HM7, HF7, HU7, HB7⟩
                · have hy0I : ¬ ((y : Int) = 0) := by omega
                  have HT7 := Lib.hid (show TI c us (dn ++ [x]) ((us x).drop (i + 1)) rd4 (updN wt4 u y) ∧ HeapN (ltM ms) rd4 rd4.length ∧ ∀ v, updN wt4 u y v < 1000000000000 from ⟨HT5.out.1.told HT5.out.2 (.inr ⟨hy0, rfl⟩), hT4.out.2.1, HBd.out⟩)
                  have HR7 := Lib.hid (And.intro HR6.out HRV.out)
                  clear hdr hT5 hM4 hR4 hU4 hB4 hy huc hup hud hur hu hy0 hT4 HR6 HRV HTb HT5 HBd
                  go_wp2_with fail
                  go_roundg ((us x).length - (i + 1))
                  case measure => have := hg4.out; omega
                  case rel => exact ⟨i + 1, rd4, updN wt4 u y, rv4, by omega, by go_num, Lib.hid (Nat.le_refl _), HT7, H6, HR7, HU6, HB6⟩
              · have hie : i = (us x).length := by omega
                subst hie
                have hinI : ¬ (((us x).length : Int) < ((us x).length : Int)) := by omega
                have HT7 := Lib.hid (show TI c us (dn ++ [x]) [] rd4 wt4 ∧ HeapN (ltM ms) rd4 rd4.length ∧ ∀ u, wt4 u < 1000000000000 from ⟨by have := hT4.out.1; rwa [List.drop_length] at this, hT4.out.2⟩)
                have hgo := HGO.out
                clear hT4
                go_wp2_with fail
                go_roundg (gO - 1)
                case measure => omega
                case rel => exact ⟨dn ++ [x], rd4, wt4, rv4, Lib.hid (by have := hg.out; simp; omega), HG2, HT7, hM4, hR4, hB4⟩
          · have hmI : ((0 : Int) < ((ms x).length : Int)) := by have := List.length_pos_iff.2 hme; omega
            have hfl : ((dn ++ [x]).filter fun r => !(ms r).isEmpty) = (dn.filter fun r => !(ms r).isEmpty) ++ [x] := by simp [List.filter_append, hme]
            obtain ⟨ta, tc, hsh⟩ := HT2.out.1.shape
            subst hsh
            have htl : (dn.filter fun r => !(ms r).isEmpty).length ≤ c := Nat.le_trans (List.length_filter_le ..) hdl
            have HFl := Lib.hid hfl
            have HMr := Lib.hid mr
            have hB3b : B0 ≤ w3.heap.size := HB2.out.2
            clear hme hfl mr
            obtain ⟨vs, ho, hv1, hv2⟩ := id HT2.out.1
            have HO := Lib.hid (ho.alloc (.cells #[.slice ma (ms x).length mcc] 22))
            have HV := Lib.hid (And.intro hv1 hv2)
            clear ho hv1 hv2
            go_wp2_with (at_builtin; refine wpList_append_lies _ rfl _ _ 24 rfl B0 22 i0 (.slice none 0 0) 1 24 Try.underlying24 hi hz0 hz1 hz2 rfl (by decide) _ (dn.filter fun r => !(ms r).isEmpty).length vs rfl HO.out ⟨w3.heap.size, 0, none⟩ 1 1 [.slice ma (ms x).length mcc] rfl rfl (frz_oneI _ _ _) (by simp [Value.oneCell']) (by decide) ?p3 ?p4 ?p5 _ rfl ?_)
            case p3 => unfold maxLen; omega
            case p4 => omega
            case p5 => first | omega | (simp; omega)
            intro g3 cap3 W4 hown3 hgrow hat hlt4
            have hba := below_allocG w3 (.cells #[.slice ma (ms x).length mcc] 22)
            have hsz : (w3.alloc (.cells #[.slice ma (ms x).length mcc] 22)).heap.size = w3.heap.size + 1 := by simp
            have hs4 : w3.heap.size ≤ W4.heap.size := by have := hgrow.size; omega
            have hk4 : ∀ k, k < w3.heap.size → (Value.slice ta (dn.filter fun r => !(ms r).isEmpty).length tc).ownBlock ≠ some k → W4.heap[k]? = w3.heap[k]? := fun k hk he => (hgrow.block k (by omega) (Ne.symm he)).trans (hba.block k hk)
            have tge : ∀ k, (Value.slice ta (dn.filter fun r => !(ms r).isEmpty).length tc).ownBlock = some k → B0 ≤ k := fun k e => (HT2.out.1.lt e).1
            have hbb := HM3.out.bb
            have hk5 : ∀ k, k < B0 → W4.heap[k]? = w3.heap[k]? := fun k hk => hk4 k (by omega) fun e => by have := tge k e; omega
            have HM4 := Lib.hid (HM3.out.ready hs4 ((hk5 b hbb.2.1).trans HM3.out.blk) (fun k hk _ => hk5 k hk) (HM3.out.rdy.keepAt fun k e => hk4 k (HM3.out.rdy.lt k e).2 (HT2.out.2 k e)) HM3.out.inr)
            have HT3 := Lib.hid (show TolR B0 (OkB B B0 qw b) (.slice (some ⟨g3, 0, none⟩) ((dn.filter fun r => !(ms r).isEmpty).length + 1) cap3) ms ((dn ++ [x]).filter fun r => !(ms r).isEmpty) W4 ∧ ∀ k, rv2.ownBlock = some k → (Value.slice (some ⟨g3, 0, none⟩) ((dn.filter fun r => !(ms r).isEmpty).length + 1) cap3).ownBlock ≠ some k from by
              rw [HFl.out]
              refine ⟨TolR.push HV.out.1 HV.out.2 HMr.out hs4 (fun k ok hk => hk5 k ok.1) hown3, fun k e e2 => ?_⟩
              obtain rfl : g3 = k := by simpa [Value.ownBlock] using e2
              rcases hat with h1 | h1
              · exact HT2.out.2 g3 e h1
              · have := (HM3.out.rdy.lt g3 e).2; omega)
            have HB3 := Lib.hid (show Below B w W4 ∧ B0 ≤ W4.heap.size from ⟨(HB2.out.1.trans (hba.mono (by omega))).grown hgrow (by have := HB2.out.1.size; omega) (fun j hj => by have := tge j hj; omega), by omega⟩)
            clear HM3 HT2 HB2 hown3 hgrow hat hba hsz hs4 hk4 hk5 tge HO HV HMr t0 t1 t2 t3 mc0 hlt4
            have HM3 := HM4
            clear HM4
            obtain ⟨uv, uc0, ur, _⟩ := HM3.out.usr.cell HX.out.1
            obtain ⟨ua, uc, rfl⟩ := ur.shape
            have HRu := Lib.hid ur
            obtain ⟨s0, s1, s2, s3⟩ := cells4G HM3.out.blk
            have hulx : (us x).length ≤ 1000000000 := HUL.out x
            have hxcI : (x : Int) < (c : Int) := by have := HX.out.1; omega
            have hx0I : (0 : Int) ≤ (x : Int) := by omega
            clear ur
            go_wp2_with fail
            go_loopg [60] ((us x).length) (fun gi vi W => ∃ (i : Nat) (rd4 : List Nat) (wt4 : Nat → Nat) (rv4 : Value), i ≤ (us x).length ∧ vi = .int .i64 i ∧ Hid ((us x).length - i ≤ gi) ∧ Hid (TI c us (dn ++ [x]) ((us x).drop i) rd4 wt4 ∧ HeapN (ltM ms) rd4 rd4.length ∧ ∀ u, wt4 u < 1000000000000) ∧ Hid (OM B B0 b c qm qu qw rv4 ms us wt4 rd4 W) ∧ Hid (TolR B0 (OkB B B0 qw b) (.slice (some ⟨g3, 0, none⟩) ((dn.filter fun r => !(ms r).isEmpty).length + 1) cap3) ms ((dn ++ [x]).filter fun r => !(ms r).isEmpty) W ∧ ∀ k, rv4.ownBlock = some k → Value.ownBlock (.slice (some ⟨g3, 0, none⟩) ((dn.filter fun r => !(ms r).isEmpty).length + 1) cap3) ≠ some k) ∧ Hid (RowQ (OkB B B0 qw b) (.slice ua (us x).length uc) (us x) W) ∧ Hid (Below B w W ∧ B0 ≤ W.heap.size))
            case atStart => exact ⟨0, rd2, wt2, rv2, Nat.zero_le _, rfl, Lib.hid (Nat.le_refl _), HTI, HM3, HT3, HRu, HB3⟩
            case round =>
              rename World => W
              obtain ⟨i, rd4, wt4, rv4, hil, rfl, hg4, hT4, hM4, hR4, hU4, hB4⟩ := hrel
              clear HTI HM3 HT3 HRu HB3 s0 s1 s2 s3 uc0
              by_cases hin : i < (us x).length
              · obtain ⟨ug, uo, rfl, hug, huc⟩ := hU4.out.at (by omega)
                have uc1 := huc i hin
                obtain ⟨u, hu⟩ : ∃ u, (us x).getD i 0 = u := ⟨_, rfl⟩
                rw [hu] at uc1
                have hdr := drop_getD hin
                rw [hu] at hdr
                have hT5 := hT4.out.1
                rw [hdr] at hT5
                obtain ⟨huC, hup, hud, hur⟩ := hT5.head
                obtain ⟨y, hy⟩ : ∃ y, wt4 u = y + 1 := ⟨wt4 u - 1, by omega⟩
                obtain ⟨z1, z2, z3⟩ := row_cell hM4.out.wait huC
                obtain ⟨x0, x1, x2, x3⟩ := cells4G hM4.out.blk
                have hyb : y < 1000000000000 := by have := hT4.out.2.2 u; omega
                have HBd := Lib.hid (show ∀ v, updN wt4 u y v < 1000000000000 from fun v => by
                  unfold updN
                  split
                  · exact hyb
                  · exact hT4.out.2.2 v)
                have HT5 := Lib.hid (And.intro hT5 hy)
                have HTb := Lib.hid (hR4.out.1.ne hM4.out.blk (by decide))
                have hB4' := hM4.out.bb
                have H6 := Lib.hid (hM4.out.setWait (u := u) (x := y) huC)
                have HR6 := Lib.hid (show TolR B0 (OkB B B0 qw b) (.slice (some ⟨g3, 0, none⟩) ((dn.filter fun r => !(ms r).isEmpty).length + 1) cap3) ms ((dn ++ [x]).filter fun r => !(ms r).isEmpty) (W.setCell ⟨qw, u, none⟩ (.int .i64 (y : Int))) from hR4.out.1.keep (Nat.le_of_eq (size_set _ _ _).symm) (fun k e => heap_set W ⟨qw, u, none⟩ _ k (by have h1 := (hR4.out.1.lt e).1; intro (h2 : k = qw); omega)) fun k ok _ => heap_set W ⟨qw, u, none⟩ _ k ok.2.1)
                have HU6 := Lib.hid (hU4.out.keep (w' := W.setCell ⟨qw, u, none⟩ (.int .i64 (y : Int))) (Nat.le_of_eq (size_set _ _ _).symm) fun k ok _ => heap_set W ⟨qw, u, none⟩ _ k ok.2.1)
                have HB6 := Lib.hid (show Below B w (W.setCell ⟨qw, u, none⟩ (.int .i64 (y : Int))) ∧ B0 ≤ (W.setCell ⟨qw, u, none⟩ (.int .i64 (y : Int))).heap.size from ⟨hB4.out.1.setCell (p := ⟨qw, u, none⟩) (hM4.out.wait.ge rfl) _, by rw [size_set]; exact hB4.out.2⟩)
                have w1 : (W.setCell ⟨qw, u, none⟩ (.int .i64 (y : Int))).cell? ⟨qw, u, none⟩ = some (.int .i64 (y : Int)) := World.cell?_setCell_same (h := z1) ..
                obtain ⟨v0, v1, v2, v3⟩ := cells4G H6.out.blk
                have hqb : qw ≠ b := hM4.out.ne.2.2
                have hbq : b ≠ qw := Ne.symm hqb
                rw [hy] at z1
                have hyI : ((y + 1 : Nat) : Int) - 1 = (y : Int) := by omega
                have hinI : (i : Int) < ((us x).length : Int) := by omega
                have huI : (u : Int) < (c : Int) := by omega
                have hu0I : (0 : Int) ≤ (u : Int) := by omega
                have hl4 : rd4.length ≤ c := rd_len hT5.rdN fun a ha => ((hT5.rdI a).1 ha).1
                have HRV := Lib.hid hR4.out.2
                by_cases hy0 : y = 0
                · have HP := Lib.hid (hpush_any (r := u) (n := rd4.length) _ H6.out HB6.out.2 huC rfl (by omega) HML.out hT4.out.2.1)
                  have hy0I : (y : Int) = 0 := by omega
                  have HY := Lib.hid hy0
                  rw [hy0I] at HP HR6 HU6 HB6 H6
                  clear hdr hT5 hM4 hR4 hU4 hB4 hy huc hup hud hur hu hy0 hT4
                  go_wp2_with (go_at_call 25; fail)
                  refine HP.out.mono ?_
                  rintro e w7 ⟨rfl, rv7, rd7, hM7, hF7, hp7, hh7⟩
                  have HF7 := Lib.hid (hF7.told HR6.out HTb.out fun k e => ⟨H6.out.rdy.ge e, HRV.out k e⟩)
                  have HU7 := Lib.hid (HU6.out.keep hF7.1.size fun k ok hk => hF7.2.1 k hk ok.2.2.1 fun e => by have h1 := H6.out.rdy.ge e; have h2 := ok.1; omega)
                  have HB7 := Lib.hid (show Below B w w7 ∧ B0 ≤ w7.heap.size from ⟨HB6.out.1.trans hF7.1, Nat.le_trans HB6.out.2 hF7.1.size⟩)
                  have HM7 := Lib.hid hM7
                  have HT7 := Lib.hid (show TI c us (dn ++ [x]) ((us x).drop (i + 1)) rd7 (updN wt4 u y) ∧ HeapN (ltM ms) rd7 rd7.length ∧ ∀ v, updN wt4 u y v < 1000000000000 from ⟨HT5.out.1.told HT5.out.2 (.inl ⟨HY.out, hp7⟩), hh7, HBd.out⟩)
                  clear hM7 hF7 hp7 hh7 HP H6 HR6 HU6 HB6 HRV HTb HT5 HBd
                  go_wp2_with fail
                  go_roundg ((us x).length - (i + 1))
                  case measure => have := hg4.out; omega
                  case rel => exact ⟨i + 1, rd7, updN wt4 u y, rv7, by omega, by go_num, Lib.hid (Nat.le_refl _), HT7, HM7, HF7, HU7, HB7⟩
                · have hy0I : ¬ ((y : Int) = 0) := by omega
                  have HT7 := Lib.hid (show TI c us (dn ++ [x]) ((us x).drop (i + 1)) rd4 (updN wt4 u y) ∧ HeapN (ltM ms) rd4 rd4.length ∧ ∀ v, updN wt4 u y v < 1000000000000 from ⟨HT5.out.1.told HT5.out.2 (.inr ⟨hy0, rfl⟩), hT4.out.2.1, HBd.out⟩)
                  have HR7 := Lib.hid (And.intro HR6.out HRV.out)
                  clear hdr hT5 hM4 hR4 hU4 hB4 hy huc hup hud hur hu hy0 hT4 HR6 HRV HTb HT5 HBd
                  go_wp2_with fail
                  go_roundg ((us x).length - (i + 1))
                  case measure => have := hg4.out; omega
                  case rel => exact ⟨i + 1, rd4, updN wt4 u y, rv4, by omega, by go_num, Lib.hid (Nat.le_refl _), HT7, H6, HR7, HU6, HB6⟩
              · have hie : i = (us x).length := by omega
                subst hie
                have hinI : ¬ (((us x).length : Int) < ((us x).length : Int)) := by omega
                have HT7 := Lib.hid (show TI c us (dn ++ [x]) [] rd4 wt4 ∧ HeapN (ltM ms) rd4 rd4.length ∧ ∀ u, wt4 u < 1000000000000 from ⟨by have := hT4.out.1; rwa [List.drop_length] at this, hT4.out.2⟩)
                have hgo := HGO.out
                clear hT4
                go_wp2_with fail
                go_roundg (gO - 1)
                case measure => omega
                case rel => exact ⟨dn ++ [x], rd4, wt4, rv4, Lib.hid (by have := hg.out; simp; omega), HG2, HT7, hM4, hR4, hB4⟩
end Go.Proofs.Ytlpifioneafciaa
