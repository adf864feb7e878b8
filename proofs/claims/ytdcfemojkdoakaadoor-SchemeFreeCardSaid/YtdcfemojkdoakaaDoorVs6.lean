/- Merged: UfRThen, TyRVars, TyRPlain, TyRAllQ, TyRVars2, UfRBind, UfRUni, UfRAll, UfSee, MakeTypeN. -/
import Derived.Test.YtdcfemojkdoakaaDoorVs5
import Derived.Deep.RegionLaw
import Derived.Test.YtdcfemojkdoakaaDoorVs3
import Derived.Deep.AppendLies
import Derived.Deep.RegionHeld3
import Derived.Deep.DrawnRows
import Derived.BigRegion
import Derived.Stop.RegionWithIn
import Derived.WalkKit
import Derived.LaidEql
import Derived.Deep.RegionWith
import Derived.Test.YtdcfemojkdoakaaDoorProg
import Derived.Lib.Hide
import Derived.Test.YtdcfemojkdoakaaDoorVs2
/- The document's Then. -/
namespace Go.Proofs.YtdcfemojkdoakaaDoor
open Go.RowKit Go.Sort Go.Lib
attribute [local go_sem] Oper.semAt_some

theorem isV_kind {t : T} : t.isV = true ↔ t.kind = 1 := by cases t <;> simp [T.isV, T.kind]
theorem not_var {t : T} (h : t.isV = false) : ¬ t.kind = 1 := fun e => by rw [isV_kind.2 e] at h; cases h
/-- A pair without its place. -/
def nt (x : PR) : ByteArray × T := (x.n, x.t)
theorem ty_nt (n : ByteArray) : ∀ {l m : List PR}, l.map nt = m.map nt → ty n l = ty n m
  | [], [], _ => rfl
  | [], _ :: _, h => by cases h
  | _ :: _, [], h => by cases h
  | x :: l, y :: m, h => by
    rw [List.map_cons, List.map_cons] at h
    injection h with h1 h2
    have e := ty_nt n h2
    simp only [nt, Prod.mk.injEq] at h1
    unfold ty at e ⊢
    rw [lk_cons, lk_cons, h1.1]
    by_cases c : y.n = n
    · rw [if_pos c, if_pos c]; simp [h1.2]
    · rw [if_neg c, if_neg c]; exact e
theorem own_below4 {W W' : World} {base : Nat} {e : TypeId} {size : Nat} {v : Value} {n : Nat} {xs : List Value} (h : W.ownsRow base e size v n xs) (hb : Below W.heap.size W W') : W'.ownsRow base e size v n xs :=
  row_kept h fun k _ _ hk => (hb.block k (Array.getElem?_eq_some_iff.1 hk).1).trans hk
/-- The pairs that were made so far. -/
def TnI (w : World) (vo : Value) (ls : List PR) (want : List (ByteArray × T)) (X : World) : Prop :=
  ls.map nt = want ∧ (X.ownsRow w.heap.size 73 4 vo ls.length (cellsP ls) ∧ (ls = [] → vo = .slice none 0 0)) ∧ Typ ls X ∧ Below w.heap.size w X
theorem TnI.start (w : World) (o : World) (hb : Below w.heap.size w o) : TnI w (.slice none 0 0) [] [] o := ⟨rfl, ⟨World.ownsRow_nil _ _ _ _, fun _ => rfl⟩, (fun _ h => nomatch h), hb⟩
theorem TnI.below {w : World} {vo : Value} {ls : List PR} {want : List (ByteArray × T)} {X Y : World} (h : TnI w vo ls want X) (hb : Below X.heap.size X Y) : TnI w vo ls want Y :=
  ⟨h.1, ⟨own_below4 h.2.1.1 hb, h.2.1.2⟩, h.2.2.1.keep (KeepT.of_below hb), h.2.2.2.trans (hb.mono h.2.2.2.size)⟩
theorem TnI.next {w : World} {vo v' : Value} {ls : List PR} {want : List (ByteArray × T)} {x : PR} {X W : World} {o : Obj} (h : TnI w vo ls want X) (hx : TysAt X (.slice x.a x.t.kids.length x.c) x.t.kids) (ho : W.ownsRow w.heap.size 73 4 v' (ls.length + 1) (cellsP ls ++ encP x))
    (hg : (X.alloc o).grownBy W vo.ownBlock) : TnI w v' (ls ++ [x]) (want ++ [nt x]) W := by
  have hsz := h.2.2.2.size
  have hk : KeepT X W := (keepT_alloc X _).trans (KeepT.grown hg (h.2.1.1.alloc _) (by decide))
  refine ⟨by rw [List.map_append, h.1]; rfl, ⟨?_, fun e => by simp at e⟩, fun y hy => ?_, (h.2.2.2.alloc hsz _).grown hg (by simp; omega) fun j hj => (h.2.1.1.lt j hj).1⟩
  · rw [cellsP_snoc, List.length_append]; exact ho
  · rcases List.mem_append.1 hy with hy | hy
    · exact (h.2.2.1 y hy).keep hk
    · obtain rfl := List.mem_singleton.1 hy
      exact hx.keep hk
theorem take_none {d e : List PR} {i : Nat} (h : i < e.length) (hn : lk (e.getD i noP).n d = none) : ((e.take (i + 1)).filter fun y => (lk y.n d).isNone).map nt = ((e.take i).filter fun y => (lk y.n d).isNone).map nt ++ [nt (e.getD i noP)] := by
  have e1 : e.getD i noP = e[i] := by simp [List.getD, h]
  rw [e1] at hn ⊢
  rw [List.take_succ_eq_append_getElem h, List.filter_append, List.map_append]
  simp [hn]
theorem take_some {d e : List PR} {i : Nat} {x : PR} (h : i < e.length) (hn : lk (e.getD i noP).n d = some x) : ((e.take (i + 1)).filter fun y => (lk y.n d).isNone).map nt = ((e.take i).filter fun y => (lk y.n d).isNone).map nt := by
  have e1 : e.getD i noP = e[i] := by simp [List.getD, h]
  rw [e1] at hn
  rw [List.take_succ_eq_append_getElem h, List.filter_append, List.map_append]
  simp [hn]
theorem thenR_nt (d e : List PR) : (thenR d e).map nt = (d.map fun x => (x.n, app e x.t)) ++ (e.filter fun y => (lk y.n d).isNone).map nt := by
  unfold thenR
  rw [List.map_append, List.map_map]; rfl
set_option maxRecDepth 100000 in
set_option maxHeartbeats 4000000 in
theorem rthen_any (sv uv : Value) (d e : List PR) (w : World) (hl : d.length < 1000) (hm : e.length < 1000) (hd : GivenG 73 sv d w) (he : GivenG 73 uv e w) (td : Typ d w) (te : Typ e w) (hq : ∀ x ∈ d, tsize x.t ≤ 1000000000) :
    Calls Tryd.prog 91 #[sv, uv] w fun E w' => (∃ v q, E = .returned v ∧ GivenG 73 v q w' ∧ Typ q w' ∧ q.map nt = (thenR d e).map nt) ∧ Below w.heap.size w w' := by
  obtain ⟨i0, hi, hz0, hz1, hz2⟩ := info_parts Tryd.infoRefPair
  have HD := Lib.hid hd; have HE := Lib.hid he; have HTd := Lib.hid td; have HTe := Lib.hid te; have HQ := Lib.hid hq
  obtain ⟨sa, sc, rfl, hsr⟩ := hd.shape
  obtain ⟨ua, uc, rfl, hur⟩ := he.shape
  have HS := Lib.hid hsr; have HU := Lib.hid hur
  clear hd he td te hq hsr hur
  go_enter Tryd.func91, Tryd.ntmps91
  go_wp2
  go_loopw [5, 6] (fun vo vi wr => ∃ (i : Nat) (ls : List PR), i ≤ d.length ∧ vi = .int .i64 i ∧ ls.length = i ∧ Hid (TnI w vo ls ((d.take i).map fun x => (x.n, app e x.t)) wr)) (fun _ vi _ => d.length - (intOf vi).toNat)
  case atStart => exact ⟨0, [], Nat.zero_le _, rfl, rfl, Lib.hid (TnI.start w w (Below.refl _ _))⟩
  case round =>
    obtain ⟨i, ls, hi', rfl, hll, hF⟩ := hrel
    by_cases hlt : i < d.length
    · obtain ⟨oa, oc, rfl⟩ := row_val hF.out.2.1.1
      have hB := hF.out.2.2.2
      obtain ⟨g, rfl, hr⟩ := HS.out i hlt
      obtain ⟨x0, x1, x2, x3⟩ := (hr.below hB).cells hlt
      have hgw : g < wr.heap.size := (hr.below hB).lt
      have hxs := HQ.out (d.getD i noP) (getD_mem hlt)
      have HA := Lib.hid (fun (V : World) (hb : Below w.heap.size w V) => rapp_big (d := e) (t := (d.getD i noP).t) (v := .slice ua e.length uc) (a := (d.getD i noP).a) (c := (d.getD i noP).c) (w := V) (by omega) (HE.out.below hb) (HTe.out.keep (KeepT.of_below hb)) ((HTd.out (d.getD i noP) (getD_mem hlt)).keep (KeepT.of_below hb)) hxs)
      have HM := Lib.hid (show (d.take (i + 1)).map (fun x => (x.n, app e x.t)) = (d.take i).map (fun x => (x.n, app e x.t)) ++ [((d.getD i noP).n, app e (d.getD i noP).t)] by rw [List.take_succ_eq_append_getElem hlt, List.map_append, show d.getD i noP = d[i] by simp [List.getD, hlt]]; rfl)
      have hls : ls.length < 1000 := by omega
      have HLen := Lib.hid hll
      have HB := Lib.hid hB
      clear hr hxs hll hB
      generalize d.getD i noP = q at x0 x1 x2 x3 HA HM
      obtain ⟨qn, qt, qa, qc⟩ := q
      simp only at x0 x1 x2 x3 HA HM
      have hiz : (i : Int) < (d.length : Int) := by omega
      go_wp2
      go_region_law (first
        | (refine run_bare rfl ?_; go_simp; go_at_call 15; refine (HA.out wr.drew HB.out.drew).mono ?_; rintro E w4 ⟨⟨a4, c4, rfl, hin⟩, hb4⟩; have hb4' : Below wr.heap.size wr w4 := (Below.refl _ wr).drew.trans hb4; have x04 := (hb4'.cell (p := ⟨g, i * 4, none⟩) hgw).trans x0; have HF4 := Lib.hid (hF.out.below hb4'); have HI4 := Lib.hid hin; clear hin hb4 hb4')
        | (refine step_append_lies _ (by rfl) _ _ 38 (by rfl) w.heap.size 73 i0 (.agg zeroP) 4 64 Tryd.underlying38 hi hz0 hz1 hz2 rfl (by decide) _ _ _ (by rfl) (HF4.out.2.1.1.alloc _) ⟨w4.heap.size, 0, none⟩ 1 1 [.string qn, .int .i64 (app e qt).kind, .string (app e qt).name, .slice a4 (app e qt).kids.length c4] (by rfl) rfl (cell_new4 _ _ _ _ _ _) (by simp [Value.oneCell']) (by decide) (by unfold maxLen; omega) (by omega) (by have := HF4.out.2.2.2.size; simp; omega) _ rfl ?_; intro g5 cap5 w5 ho5 hg5 hat5 hlt5; have HN5 := Lib.hid (HF4.out.next (x := ⟨qn, app e qt, a4, c4⟩) HI4.out ho5 hg5); clear ho5 hg5 hat5 hlt5))
      all_goals
        go_wp2
        go_roundw
        case rel => exact ⟨i + 1, ls ++ [⟨qn, app e qt, a4, c4⟩], by omega, by go_num, by simp [HLen.out], Lib.hid (by rw [HM.out]; exact HN5.out)⟩
        case measure => simp [intOf]; omega
    · obtain rfl : i = d.length := by omega
      have hF0 := hF.out
      rw [List.take_length] at hF0
      have HF0 := Lib.hid hF0
      have hiz : ¬ ((d.length : Int) < (d.length : Int)) := by omega
      clear hF hF0
      go_wp2
      go_loopw [5, 7] (fun vo vi wr2 => ∃ (i : Nat) (ls : List PR), i ≤ e.length ∧ vi = .int .i64 i ∧ ls.length ≤ 1000 + i ∧ Hid (TnI w vo ls ((d.map fun x => (x.n, app e x.t)) ++ ((e.take i).filter fun y => (lk y.n d).isNone).map nt) wr2)) (fun _ vi _ => e.length - (intOf vi).toNat)
      case atStart => exact ⟨0, ls, Nat.zero_le _, rfl, by omega, by simpa using HF0⟩
      case round =>
        obtain ⟨i, ls, hi', rfl, hll2, hF⟩ := hrel
        by_cases hlt : i < e.length
        · obtain ⟨oa, oc, rfl⟩ := row_val hF.out.2.1.1
          have hB := hF.out.2.2.2
          obtain ⟨g, rfl, hr⟩ := HU.out i hlt
          have hgw : g < wr.heap.size := (hr.below hB).lt
          have HR := Lib.hid (fun (V : World) (hb : Below w.heap.size w V) => (hr.below hb).cells hlt)
          have HX := Lib.hid (fun (V : World) (hb : Below w.heap.size w V) => (HTe.out (e.getD i noP) (getD_mem hlt)).keep (KeepT.of_below hb))
          have HG := Lib.hid (rget_any (.slice sa d.length sc) d (e.getD i noP).n wr (HD.out.below hB) (by omega))
          have HT1 := Lib.hid (fun h => take_none (d := d) hlt h)
          have HT2 := Lib.hid (fun x h => take_some (d := d) (x := x) hlt h)
          obtain ⟨x0, x1, x2, x3⟩ := HR.out wr hB
          have hls : ls.length < 2000 := by omega
          have hiz : (i : Int) < (e.length : Int) := by omega
          have HB := Lib.hid hB
          clear hr hB
          generalize e.getD i noP = q at *
          obtain ⟨qn, qt, qa, qc⟩ := q
          simp only at x0 x1 x2 x3 HG HT1 HT2 HX HR
          cases hres : lk qn d with
          | none =>
            have HM := Lib.hid (HT1.out hres)
            rw [hres] at HG
            simp only [fv', Option.isSome_none] at HG
            clear hres HT1 HT2
            go_wp2_with (first
              | (go_at_call 46; refine HG.out.mono ?_; rintro E w2 ⟨rfl, hb2⟩; have HF2 := Lib.hid ((hF.out.below hb2).below ((Below.refl _ w2).alloc (Nat.le_refl _) (.cells #[.int .i64 0, .string ⟨#[]⟩, .slice none 0 0] 29 (0, 0)))); have HX2 := Lib.hid ((HX.out w2 (HB.out.trans (hb2.mono HB.out.size))).keep (keepT_alloc w2 (.cells #[.int .i64 0, .string ⟨#[]⟩, .slice none 0 0] 29 (0, 0)))); clear x0 x1 x2 x3; obtain ⟨x0, x1, x2, x3⟩ := HR.out w2 (HB.out.trans (hb2.mono HB.out.size)); have hg2 : g < w2.heap.size := Nat.lt_of_lt_of_le hgw hb2.size; clear hb2 HG HR HX)
              | (at_builtin; refine wpList_append_lies _ rfl _ _ 38 rfl w.heap.size 73 i0 (.agg zeroP) 4 64 Tryd.underlying38 hi hz0 hz1 hz2 rfl (by decide) _ _ _ rfl (HF2.out.2.1.1.alloc _) ⟨w2.heap.size + 1, 0, none⟩ 1 1 [.string qn, .int .i64 qt.kind, .string qt.name, .slice qa qt.kids.length qc] rfl rfl (cell_new4' _ _ _ _ _ _ _) (by simp [Value.oneCell']) (by decide) (by unfold maxLen; omega) (by omega) (by have := HF2.out.2.2.2.size; simp at this ⊢; omega) _ rfl ?_; intro g5 cap5 w5 ho5 hg5 hat5 hlt5; have HN5 := Lib.hid (HF2.out.next (x := ⟨qn, qt, qa, qc⟩) HX2.out ho5 hg5); clear ho5 hg5 hat5 hlt5 x0 x1 x2 x3))
            go_roundw
            case rel => exact ⟨i + 1, ls ++ [⟨qn, qt, qa, qc⟩], by omega, by go_num, by simp; omega, Lib.hid (by rw [HM.out, ← List.append_assoc]; exact HN5.out)⟩
            case measure => simp [intOf]; omega
          | some x =>
            have HM := Lib.hid (HT2.out x hres)
            rw [hres] at HG
            simp only [fv', Option.isSome_some] at HG
            clear hres HT1 HT2
            go_wp2_with (go_at_call 46; refine HG.out.mono ?_; rintro E w2 ⟨rfl, hb2⟩; have HF2 := Lib.hid ((hF.out.below hb2).below ((Below.refl _ w2).alloc (Nat.le_refl _) (.cells #[.int .i64 x.t.kind, .string x.t.name, .slice x.a x.t.kids.length x.c] 29 (0, 0)))); clear hb2 HG HR HX)
            go_roundw
            case rel => exact ⟨i + 1, ls, by omega, by go_num, by omega, Lib.hid (by rw [HM.out]; exact HF2.out)⟩
            case measure => simp [intOf]; omega
        · obtain rfl : i = e.length := by omega
          have hF1 := hF.out
          rw [List.take_length, ← thenR_nt] at hF1
          have HF1 := Lib.hid hF1
          have hiz : ¬ ((e.length : Int) < (e.length : Int)) := by omega
          clear hF hF1
          go_wp2
          go_ret
          exact ⟨⟨_, rfl, ls, given_of_row HF1.out.2.1.1 HF1.out.2.1.2, HF1.out.2.2.1, HF1.out.1⟩, HF1.out.2.2.2⟩
end Go.Proofs.YtdcfemojkdoakaaDoor
/- The document's variables of a type: Texts, vars, Vars. -/
namespace Go.Proofs.YtdcfemojkdoakaaDoor
open Go.RowKit
attribute [local go_sem] Oper.semAt_some

theorem make_strs (n : Nat) (hn : n ≤ 1000000000) (w : World) :
    (Instr.makeSlice 64 (.int .i64 0) (.int .i64 (n : Int))).run Tryd.prog w = .ok (.slice (some ⟨w.heap.size, 0, none⟩) 0 n) (w.alloc (.cells (madeCells #[.string ⟨#[]⟩] n) 9)) := by
  obtain ⟨i, hi, hzz⟩ := Option.map_eq_some_iff.1 Tryd.infoStr
  simp only [Prod.mk.injEq] at hzz
  obtain ⟨hz, hs, hb⟩ := hzz
  have hr := run_make (P := Tryd.prog) w 64 9 i _ Tryd.underlying64 hi hz .i64 .i64 0 n (by omega) (by omega) (by rw [hb]; omega) (by omega)
  simp only [Int.toNat_natCast, hs, Nat.mul_one] at hr
  exact hr
theorem below_grown {B : Nat} {w X w1 : World} {o : Obj} {e : TypeId} {size n : Nat} {v : Value} {xs : List Value} (hB : Below B w X) (hown : X.ownsRow B e size v n xs) (hg : (X.alloc o).grownBy w1 v.ownBlock) (hb : B ≤ X.heap.size) : Below B w w1 :=
  hB.trans ⟨hg.os, hg.tape, hg.output, by have := hg.size; simp at this; omega, fun k hk => (hg.block k (by simp; omega) fun e => by have := (hown.lt k e.symm).1; omega).trans (Below.heap_alloc X o k (by omega))⟩

set_option maxHeartbeats 2000000 in
theorem textsR_any (l : List ByteArray) (hl : l.length ≤ 1000000000) (a : Option Addr) (c : Nat) (w : World) (h : TextsAt w (.slice a l.length c) l) :
    Calls Tryd.prog 90 #[.slice a l.length c] w fun e w' => (∃ v, e = .returned v ∧ w'.ownsRow w.heap.size 9 1 v l.length (l.map Value.string)) ∧ Below w.heap.size w w' := by
  have HR := Lib.hid (h.part.2)
  have hmk := make_strs l.length (by omega)
  obtain ⟨i0, hi, hz0, hz1, hz2⟩ := info_parts Tryd.infoStr
  clear h
  go_enter Tryd.func90, Tryd.ntmps90
  go_wp2
  go_loopw [3, 4] (fun v vi wr => ∃ (i : Nat) (b : Option Addr) (d : Nat), i ≤ l.length ∧ vi = .int .i64 i ∧ v = .slice b i d ∧ Hid (Below w.heap.size w wr) ∧ Hid (wr.ownsRow w.heap.size 9 1 (.slice b i d) i ((l.take i).map Value.string))) (fun _ vi _ => l.length - (intOf vi).toNat)
  case atStart => exact ⟨0, _, _, Nat.zero_le _, rfl, rfl, Lib.hid ((Below.refl _ w).alloc (Nat.le_refl _) _), Lib.hid (World.ownsRow_made w _ l.length (Nat.le_refl _) (by unfold maxLen; omega) (by simp [size_madeCells]))⟩
  case round =>
    obtain ⟨i, b, d, hi', rfl, rfl, hB, hO⟩ := hrel
    by_cases hlt : i < l.length
    · obtain ⟨g, rfl, hc, hg, hh⟩ := HR.out i hlt
      have x0 := hh wr (fun k _ _ hk => (hB.out.block k (Array.getElem?_eq_some_iff.1 hk).1).trans hk)
      have htk : l.take (i + 1) = l.take i ++ [l[i]] := by rw [List.take_succ_eq_append_getElem hlt]
      have HT := Lib.hid htk
      have hgr : g < wr.heap.size := Nat.lt_of_lt_of_le hg hB.out.size
      clear hh HR htk hmk
      generalize l[i] = u at x0 HT
      have hlt1 : ((i : Int) < (l.length : Int)) := by omega
      go_wp2_with (at_builtin; refine wpList_append_own _ rfl _ _ 64 rfl w.heap.size 9 i0 (.string ⟨#[]⟩) 1 16 Tryd.underlying64 hi hz0 hz1 hz2 rfl (by decide) _ _ _ rfl (hO.out.alloc _) ⟨wr.heap.size, 0, none⟩ 1 1 [.string u] rfl rfl (new_one _ _ _) (by simp [Value.oneCell']) (by unfold maxLen; omega) (by omega) (by simp; have := hB.out.size; omega) ?_; intro v' w1 hown' hgrow _; obtain ⟨ga, gc, rfl⟩ := row_slice hown'; have HOW := Lib.hid hown'; have HBW := Lib.hid (below_grown hB.out hO.out hgrow hB.out.size); clear hown' hgrow)
      go_roundw
      case rel => exact ⟨i + 1, ga, gc, by omega, by go_num, rfl, HBW, Lib.hid (by rw [HT.out, List.map_append]; exact HOW.out)⟩
      case measure => simp [intOf]; omega
    · obtain rfl : i = l.length := by omega
      rw [List.take_length] at hO
      clear HR hmk
      go_wp2
      go_ret
      exact ⟨⟨_, rfl, hO.out⟩, hB.out⟩

mutual
theorem fv_congr (t : T) (bd bd' out : List ByteArray) (h : ∀ x, x ∈ bd ↔ x ∈ bd') : fv bd out t = fv bd' out t := by
  cases t with
  | var n =>
    rw [fv, fv]
    by_cases hx : n ∈ bd ∨ n ∈ out
    · rw [if_pos hx, if_pos (by rw [← h]; exact hx)]
    · rw [if_neg hx, if_neg (by rw [← h]; exact hx)]
  | con n l => rw [fv, fv]; exact fvs_congr l bd bd' out h
  | fn a b => rw [fv, fv, fv_congr a bd bd' out h, fv_congr b bd bd' _ h]
  | all n a => rw [fv, fv]; exact fv_congr a _ _ out (fun x => by simp only [List.mem_cons, h])
theorem fvs_congr (l : List T) (bd bd' out : List ByteArray) (h : ∀ x, x ∈ bd ↔ x ∈ bd') : fvs bd out l = fvs bd' out l := by
  cases l with
  | nil => rw [fvs, fvs]
  | cons a l => rw [fvs, fvs, fv_congr a bd bd' out h, fvs_congr l bd bd' _ h]
end

def RVarsOK (t : T) : Prop := ∀ (bd out : List ByteArray) (oa ba a : Option Addr) (oc bc c : Nat) (w : World), TextsAt w (.slice oa out.length oc) out → TextsAt w (.slice ba bd.length bc) bd → TysAt w (.slice a t.kids.length c) t.kids →
    out.length + tsize t ≤ 1000000000 → bd.length + tsize t ≤ 1000000000 →
    Calls Tryd.prog 66 #[.slice oa out.length oc, .slice ba bd.length bc, tyV t (.slice a t.kids.length c)] w fun e w' => (∃ v, e = .returned v ∧ TextsAt w' v (fv bd out t)) ∧ Below w.heap.size w w'

theorem own_base {W : World} {b b' : Nat} {e : TypeId} {size n : Nat} {v : Value} {xs : List Value} (h : W.ownsRow b e size v n xs) (hb : b' ≤ b) : W.ownsRow b' e size v n xs := by
  refine ⟨h.1, ?_⟩
  rcases h.2 with h | ⟨g, cap, cur, rfl, hg, r⟩
  · exact .inl h
  · exact .inr ⟨g, cap, cur, rfl, Nat.le_trans hb hg, r⟩
theorem below_grown0 {B : Nat} {w X w1 : World} {e : TypeId} {size n : Nat} {v : Value} {xs : List Value} (hB : Below B w X) (hown : X.ownsRow B e size v n xs) (hg : X.grownBy w1 v.ownBlock) (hb : B ≤ X.heap.size) : Below B w w1 :=
  hB.trans ⟨hg.os, hg.tape, hg.output, hg.size, fun k hk => hg.block k (by omega) fun e => by have := (hown.lt k e.symm).1; omega⟩
theorem texts_snoc {W : World} {base : Nat} {v : Value} {l : List ByteArray} {x : ByteArray} (h : W.ownsRow base 9 1 v (l.length + 1) (l.map Value.string ++ [.string x])) : TextsAt W v (l ++ [x]) := by
  have e : l.length + 1 = (l ++ [x]).length := by simp
  have e2 : l.map Value.string ++ [.string x] = (l ++ [x]).map Value.string := by simp
  rw [e, e2] at h
  exact TextsAt.of_row h
set_option maxRecDepth 100000 in
set_option maxHeartbeats 4000000 in
theorem rvars_var (t : T) (hk : t.kind = 1) (h0 : t.kids = []) (bd out : List ByteArray) (oa ba a : Option Addr) (oc bc c : Nat) (w : World) (ho : TextsAt w (.slice oa out.length oc) out) (hb : TextsAt w (.slice ba bd.length bc) bd) (hol : out.length ≤ 1000000000) (hbl : bd.length ≤ 1000000000) (hn : out.length < 1000000000) :
    Calls Tryd.prog 66 #[.slice oa out.length oc, .slice ba bd.length bc, tyV t (.slice a t.kids.length c)] w fun e w' => (∃ v, e = .returned v ∧ TextsAt w' v (if inB out t.name = true ∨ inB bd t.name = true then out else out ++ [t.name])) ∧ Below w.heap.size w w' := by
  have hl : t.kids.length = 0 := by rw [h0]; rfl
  rw [hl]
  simp only [tyV, hk]
  have HBd := Lib.hid (fun o => (Below.refl _ w).alloc (Nat.le_refl _) o)
  have HO := Lib.hid (fun (V : World) (k : Below w.heap.size w V) => hasR_any out (by omega) t.name oa oc V (ho.below k))
  have HBb := Lib.hid (fun (V : World) (k : Below w.heap.size w V) => hasR_any bd (by omega) t.name ba bc V (hb.below k))
  have HOut := Lib.hid ho
  have HTx := Lib.hid (fun (V : World) (k : Below w.heap.size w V) => textsR_any out hol oa oc V (ho.below k))
  clear hl h0 hb ho
  cases h1 : inB out t.name with
  | true =>
    rw [if_pos (.inl rfl)]
    rw [h1] at HO
    clear h1 HBb HTx
    go_enter Tryd.func66, Tryd.ntmps66
    go_wp2_with (go_at_call 29; refine (HO.out _ ?kk).mono ?_; (case kk => exact HBd.out _); rintro e w2 ⟨rfl, rfl⟩)
    go_ret
    exact ⟨⟨_, rfl, HOut.out.below (HBd.out _)⟩, HBd.out _⟩
  | false =>
    rw [h1] at HO
    cases h2 : inB bd t.name with
    | true =>
      rw [if_pos (.inr rfl)]
      rw [h2] at HBb
      clear h1 h2 HTx
      go_enter Tryd.func66, Tryd.ntmps66
      go_wp2_with (go_at_call 29; first | ((with_reducible refine (HO.out _ ?kk).mono ?_); (case kk => exact HBd.out _); rintro e w2 ⟨rfl, rfl⟩) | ((with_reducible refine (HBb.out _ ?kk).mono ?_); (case kk => exact HBd.out _); rintro e w2 ⟨rfl, rfl⟩))
      go_ret
      exact ⟨⟨_, rfl, HOut.out.below (HBd.out _)⟩, HBd.out _⟩
    | false =>
      rw [if_neg (fun e => by simp at e)]
      rw [h2] at HBb
      clear h1 h2
      go_enter Tryd.func66, Tryd.ntmps66
      go_wp2_with (go_at_call 29; first | ((with_reducible refine (HO.out _ ?kk).mono ?_); (case kk => exact HBd.out _); rintro e w2 ⟨rfl, rfl⟩) | ((with_reducible refine (HBb.out _ ?kk).mono ?_); (case kk => exact HBd.out _); rintro e w2 ⟨rfl, rfl⟩))
      obtain ⟨i0, hi, hz0, hz1, hz2⟩ := info_parts Tryd.infoStr
      refine with_worldC (fun V => Below w.heap.size w V ∧ V.heap[w.heap.size]? = some (.cells #[.int .i64 1, .string t.name, .slice a 0 c] 29 (0, 0))) ⟨HBd.out _, alloc_new w _⟩ ?_
      rintro V ⟨hbV, hbox⟩
      obtain ⟨z0, z1, z2⟩ := three_cells hbox
      have HBV := Lib.hid hbV; have HBox := Lib.hid hbox
      have lV := (Array.getElem?_eq_some_iff.1 hbox).1
      have al : Hid (∀ (o : Obj), (V.alloc o).cell? ⟨w.heap.size, 1, none⟩ = some (.string t.name)) := Lib.hid fun o => (((Below.refl V.heap.size V).alloc (Nat.le_refl _) o).cell (p := ⟨w.heap.size, 1, none⟩) lV).trans z1
      clear hbV hbox
      go_region_held3 (fun V' => V'.cell? ⟨w.heap.size, 1, none⟩ = some (.string t.name)) (first | exact z1 | exact al.out _ | exact y1 | exact aly.out _ | exact u1)
        (first
          | (go_at_call 90; refine (HTx.out V.drew ?kk).mono ?_; (case kk => exact HBV.out.drew); rintro e Y ⟨⟨v, rfl, hown⟩, hbY⟩; obtain ⟨va, vc, rfl⟩ := row_slice hown; have y1 := (hbY.cell (p := ⟨w.heap.size, 1, none⟩) lV).trans z1; have lY : V.heap.size ≤ Y.heap.size := hbY.size; have HBY := Lib.hid (HBV.out.trans (((Below.refl _ V).drew.trans hbY).mono HBV.out.size)); have aly : Hid (∀ (o : Obj), (Y.alloc o).cell? ⟨w.heap.size, 1, none⟩ = some (.string t.name)) := Lib.hid (fun o => (((Below.refl Y.heap.size Y).alloc (Nat.le_refl _) o).cell (p := ⟨w.heap.size, 1, none⟩) (by show w.heap.size < Y.heap.size; omega)).trans y1); have HBoxY := Lib.hid ((hbY.block w.heap.size lV).trans HBox.out); have HOW := Lib.hid (show Y.ownsRow V.heap.size 9 1 _ _ _ from hown); clear hown hbY)
          | (go_at_call 90; refine (HTx.out (V.alloc (.cells #[.string t.name] 9)).drew ?kk).mono ?_; (case kk => exact (HBV.out.alloc HBV.out.size _).drew); rintro e Y ⟨⟨v, rfl, hown⟩, hbY⟩; obtain ⟨va, vc, rfl⟩ := row_slice hown; have hnb : Y.heap[V.heap.size]? = some (.cells #[.string t.name] 9 (0, 0)) := (hbY.block V.heap.size (by simp)).trans (alloc_new V _); have y1 : Y.cell? ⟨w.heap.size, 1, none⟩ = some (.string t.name) := (hbY.cell (p := ⟨w.heap.size, 1, none⟩) (by simp; omega)).trans (al.out _); have lY : V.heap.size < Y.heap.size := (Array.getElem?_eq_some_iff.1 hnb).1; have HBY := Lib.hid (HBV.out.trans ((((Below.refl _ V).alloc (Nat.le_refl _) _).drew.trans (hbY.mono (by simp))).mono HBV.out.size)); have HBoxY := Lib.hid ((hbY.block w.heap.size (by simp; omega)).trans ((Below.heap_alloc V _ _ lV).trans HBox.out)); have HNB := Lib.hid (World.news_of_block hnb); have hown' : Y.ownsRow (V.heap.size + 1) 9 1 (.slice va out.length vc) out.length (out.map Value.string) := (by simpa using hown); have HOW := Lib.hid hown'; clear hown hown' hbY hnb)
          | (refine step_append_lies _ (by rfl) _ _ 64 (by rfl) V.heap.size 9 i0 (.string ⟨#[]⟩) 1 16 Tryd.underlying64 hi hz0 hz1 hz2 rfl (by decide) _ out.length (out.map Value.string) (by rfl) (HOW.out.alloc _) ⟨Y.heap.size, 0, none⟩ 1 1 [.string t.name] (by rfl) rfl (new_one _ _ _) (by simp [Value.oneCell']) (by decide) (by unfold maxLen; omega) (by omega) (by simp; omega) (Y.heap.size + 1) (by simp) ?_; intro g' cap' w1 hown1 hgrow _ _; have hb1 := Lib.hid (below_grown (B := w.heap.size) HBY.out (own_base HOW.out HBV.out.size) hgrow (Nat.le_trans HBV.out.size lY)); have bx1 := Lib.hid ((row_other (HOW.out.alloc _) hgrow ((Below.heap_alloc Y _ _ (by omega)).trans HBoxY.out) (by decide))); have u1 : w1.cell? ⟨w.heap.size, 1, none⟩ = some (.string t.name) := (by rw [Lib.cell_of_heap bx1.out]; rfl); have HFin := Lib.hid (texts_snoc hown1); clear hown1 hgrow)
          | (refine step_append_lies _ (by rfl) _ _ 64 (by rfl) (V.heap.size + 1) 9 i0 (.string ⟨#[]⟩) 1 16 Tryd.underlying64 hi hz0 hz1 hz2 rfl (by decide) _ out.length (out.map Value.string) (by rfl) HOW.out ⟨V.heap.size, 0, none⟩ 1 1 [.string t.name] (by rfl) rfl HNB.out (by simp [Value.oneCell']) (by decide) (by unfold maxLen; omega) (by omega) (by omega) Y.heap.size rfl ?_; intro g' cap' w1 hown1 hgrow _ _; have hb1 := Lib.hid (below_grown0 (B := w.heap.size) HBY.out (own_base HOW.out (by have := HBV.out.size; omega)) hgrow (by have := HBV.out.size; omega)); have bx1 := Lib.hid (row_other HOW.out hgrow HBoxY.out (by decide)); have u1 : w1.cell? ⟨w.heap.size, 1, none⟩ = some (.string t.name) := (by rw [Lib.cell_of_heap bx1.out]; rfl); have HFin := Lib.hid (texts_snoc hown1); clear hown1 hgrow))
      all_goals
        clear y1
        go_wp2
        go_ret
        exact ⟨⟨_, rfl, HFin.out⟩, hb1.out⟩
end Go.Proofs.YtdcfemojkdoakaaDoor
/- The document's vars, of a constructor, of a function. -/
namespace Go.Proofs.YtdcfemojkdoakaaDoor
open Go.RowKit
attribute [local go_sem] Oper.semAt_some

set_option maxHeartbeats 800000 in
theorem rvars_plain (t : T) (H : ∀ k ∈ t.kids, RVarsOK k) (hk1 : ¬ t.kind = 1) (hk4 : ¬ t.kind = 4) (bd out : List ByteArray) (oa ba a : Option Addr) (oc bc c : Nat) (w : World) (ho : TextsAt w (.slice oa out.length oc) out) (hb : TextsAt w (.slice ba bd.length bc) bd) (ht : TysAt w (.slice a t.kids.length c) t.kids)
    (hol : out.length + tsize t ≤ 1000000000) (hbl : bd.length + tsize t ≤ 1000000000) :
    Calls Tryd.prog 66 #[.slice oa out.length oc, .slice ba bd.length bc, tyV t (.slice a t.kids.length c)] w fun e w' => (∃ v, e = .returned v ∧ TextsAt w' v (fvs bd out t.kids)) ∧ Below w.heap.size w w' := by
  have q1 : (t.kind == 1) = false := by simpa using hk1
  have q4 : (t.kind == 4) = false := by simpa using hk4
  have hz := tsize_eq t
  have hlen := len_sizes' t.kids
  have HBd := Lib.hid (fun o => (Below.refl _ w).alloc (Nat.le_refl _) o)
  have HR := Lib.hid ht.part
  have HS := Lib.hid H
  have HO := Lib.hid ho; have HBb := Lib.hid hb
  clear hk1 hk4 ht H ho hb
  simp only [tyV]
  go_enter Tryd.func66, Tryd.ntmps66
  go_wp2
  go_loopw [0, 7] (fun vo vi wr => ∃ (i : Nat) (b : Option Addr) (d n : Nat), i ≤ t.kids.length ∧ vi = .int .i64 i ∧ vo = .slice b n d ∧ Hid (n = (fvs bd out (t.kids.take i)).length ∧ TextsAt wr (.slice b n d) (fvs bd out (t.kids.take i)) ∧ Below w.heap.size w wr) ∧ Hid (TextsAt wr (.slice ba bd.length bc) bd) ∧ Hid (wr.heap[w.heap.size]? = some (.cells #[.int .i64 t.kind, .string t.name, .slice a t.kids.length c] 29 (0, 0)))) (fun _ vi _ => t.kids.length - (intOf vi).toNat)
  case atStart => exact ⟨0, oa, oc, out.length, Nat.zero_le _, rfl, rfl, Lib.hid ⟨by simp [fvs], by simpa [fvs] using HO.out.below (HBd.out _), HBd.out _⟩, Lib.hid (HBb.out.below (HBd.out _)), Lib.hid (alloc_new w _)⟩
  case round =>
    obtain ⟨i, ob, od, n, hi', rfl, rfl, hF, hBd, hBox⟩ := hrel
    obtain ⟨b0, b1, b2⟩ := three_cells hBox.out
    by_cases hlt : i < t.kids.length
    · obtain ⟨hn, hT, hBl⟩ := hF.out
      obtain ⟨g, pa, ca, rfl, hcap, hr⟩ := HR.out i hlt
      obtain ⟨⟨hg, x0, x1, x2⟩, xk⟩ := hr wr (KeepT.of_below hBl)
      have hsz := tsizes_take t.kids i hlt
      have hl1 := fvs_len (t.kids.take i) bd out
      have hkk := size_mem' (List.getElem_mem hlt)
      rw [hn] at hT ⊢
      have HC := Lib.hid (HS.out t.kids[i] (List.getElem_mem hlt) bd (fvs bd out (t.kids.take i)) ob ba pa od bc ca wr hT hBd.out xk (by omega) (by omega))
      rw [← fvs_drop bd out t.kids i hlt] at HC
      have HB1 := Lib.hid hBl
      clear hr xk hsz hl1 hkk HS HR hF hT hBl hn
      generalize t.kids[i] = u at x0 x1 x2 HC
      simp only [tyV] at HC
      have hlt1 : ((i : Int) < (t.kids.length : Int)) := by omega
      generalize (fvs bd out (t.kids.take i)).length = m at HC ⊢
      go_wp2_with (go_at_call 66; refine HC.out.mono ?_; rintro e w2 ⟨⟨v2, rfl, hT2⟩, hb2⟩; obtain ⟨oe, of, rfl⟩ := hT2.shape; have HF2 := Lib.hid (⟨hT2, HB1.out.trans (hb2.mono HB1.out.size)⟩ : TextsAt w2 (.slice oe (fvs bd out (t.kids.take (i + 1))).length of) (fvs bd out (t.kids.take (i + 1))) ∧ Below w.heap.size w w2); have HBd2 := Lib.hid (hBd.out.below hb2); have HBox2 := Lib.hid ((hb2.block _ (Array.getElem?_eq_some_iff.1 hBox.out).1).trans hBox.out); clear hT2 hb2)
      go_roundw
      case rel => exact ⟨i + 1, oe, of, _, by omega, by go_num, rfl, Lib.hid ⟨rfl, HF2.out⟩, HBd2, HBox2⟩
      case measure => simp [intOf]; omega
    · obtain rfl : i = t.kids.length := by omega
      rw [List.take_length] at hF
      clear HR HS
      go_wp2
      go_ret
      exact ⟨⟨_, rfl, hF.out.2.1⟩, hF.out.2.2⟩
end Go.Proofs.YtdcfemojkdoakaaDoor
/- The document's vars, of a type for all. -/
namespace Go.Proofs.YtdcfemojkdoakaaDoor
open Go.RowKit
attribute [local go_sem] Oper.semAt_some

set_option maxRecDepth 100000 in
set_option maxHeartbeats 1000000 in
theorem rvars_all (t : T) (H : ∀ k ∈ t.kids, RVarsOK k) (hk4 : t.kind = 4) (bd out : List ByteArray) (oa ba a : Option Addr) (oc bc c : Nat) (w : World) (ho : TextsAt w (.slice oa out.length oc) out) (hb : TextsAt w (.slice ba bd.length bc) bd) (ht : TysAt w (.slice a t.kids.length c) t.kids)
    (hol : out.length + tsize t ≤ 1000000000) (hbl : bd.length + tsize t ≤ 1000000000) :
    Calls Tryd.prog 66 #[.slice oa out.length oc, .slice ba bd.length bc, tyV t (.slice a t.kids.length c)] w fun e w' => (∃ v, e = .returned v ∧ TextsAt w' v (fvs (bd ++ [t.name]) out t.kids)) ∧ Below w.heap.size w w' := by
  have hz := tsize_eq t
  have hlen := len_sizes' t.kids
  have hbl2 : bd.length ≤ 1000000000 := by omega
  have HBd := Lib.hid (fun o => (Below.refl _ w).alloc (Nat.le_refl _) o)
  have HR := Lib.hid ht.part
  have HS := Lib.hid H
  have HO := Lib.hid ho
  have HTb := Lib.hid (fun (V : World) (k : Below w.heap.size w V) => textsR_any bd hbl2 ba bc V (hb.below k))
  clear ht H ho hb
  simp only [tyV, hk4]
  clear hk4
  go_enter Tryd.func66, Tryd.ntmps66
  go_wp2
  obtain ⟨i0, hi, hz0, hz1, hz2⟩ := info_parts Tryd.infoStr
  refine with_worldC (fun V => Below w.heap.size w V ∧ V.heap[w.heap.size]? = some (.cells #[.int .i64 4, .string t.name, .slice a t.kids.length c] 29 (0, 0))) ⟨HBd.out _, alloc_new w _⟩ ?_
  rintro V ⟨hbV, hbox⟩
  obtain ⟨z0, z1, z2⟩ := three_cells hbox
  have HBV := Lib.hid hbV; have HBox := Lib.hid hbox
  have lV := (Array.getElem?_eq_some_iff.1 hbox).1
  have al : Hid (∀ (o : Obj), (V.alloc o).cell? ⟨w.heap.size, 1, none⟩ = some (.string t.name)) := Lib.hid fun o => (((Below.refl V.heap.size V).alloc (Nat.le_refl _) o).cell (p := ⟨w.heap.size, 1, none⟩) lV).trans z1
  clear hbV hbox
  go_region_held3 (fun V' => V'.cell? ⟨w.heap.size, 1, none⟩ = some (.string t.name)) (first | exact z1 | exact al.out _ | exact y1 | exact aly.out _ | exact u1)
    (first
      | (go_at_call 90; refine (HTb.out V.drew ?kk).mono ?_; (case kk => exact HBV.out.drew); rintro e Y ⟨⟨v, rfl, hown⟩, hbY⟩; obtain ⟨va, vc, rfl⟩ := row_slice hown; have y1 := (hbY.cell (p := ⟨w.heap.size, 1, none⟩) lV).trans z1; have lY : V.heap.size ≤ Y.heap.size := hbY.size; have HBY := Lib.hid (HBV.out.trans (((Below.refl _ V).drew.trans hbY).mono HBV.out.size)); have aly : Hid (∀ (o : Obj), (Y.alloc o).cell? ⟨w.heap.size, 1, none⟩ = some (.string t.name)) := Lib.hid (fun o => (((Below.refl Y.heap.size Y).alloc (Nat.le_refl _) o).cell (p := ⟨w.heap.size, 1, none⟩) (by show w.heap.size < Y.heap.size; omega)).trans y1); have HBoxY := Lib.hid ((hbY.block w.heap.size lV).trans HBox.out); have HOW := Lib.hid (show Y.ownsRow V.heap.size 9 1 _ _ _ from hown); clear hown hbY)
      | (go_at_call 90; refine (HTb.out (V.alloc (.cells #[.string t.name] 9)).drew ?kk).mono ?_; (case kk => exact (HBV.out.alloc HBV.out.size _).drew); rintro e Y ⟨⟨v, rfl, hown⟩, hbY⟩; obtain ⟨va, vc, rfl⟩ := row_slice hown; have hnb : Y.heap[V.heap.size]? = some (.cells #[.string t.name] 9 (0, 0)) := (hbY.block V.heap.size (by simp)).trans (alloc_new V _); have y1 : Y.cell? ⟨w.heap.size, 1, none⟩ = some (.string t.name) := (hbY.cell (p := ⟨w.heap.size, 1, none⟩) (by simp; omega)).trans (al.out _); have lY : V.heap.size < Y.heap.size := (Array.getElem?_eq_some_iff.1 hnb).1; have HBY := Lib.hid (HBV.out.trans ((((Below.refl _ V).alloc (Nat.le_refl _) _).drew.trans (hbY.mono (by simp))).mono HBV.out.size)); have HBoxY := Lib.hid ((hbY.block w.heap.size (by simp; omega)).trans ((Below.heap_alloc V _ _ lV).trans HBox.out)); have HNB := Lib.hid (World.news_of_block hnb); have hown' : Y.ownsRow (V.heap.size + 1) 9 1 (.slice va bd.length vc) bd.length (bd.map Value.string) := (by simpa using hown); have HOW := Lib.hid hown'; clear hown hown' hbY hnb)
      | (refine step_append_lies _ (by rfl) _ _ 64 (by rfl) V.heap.size 9 i0 (.string ⟨#[]⟩) 1 16 Tryd.underlying64 hi hz0 hz1 hz2 rfl (by decide) _ bd.length (bd.map Value.string) (by rfl) (HOW.out.alloc _) ⟨Y.heap.size, 0, none⟩ 1 1 [.string t.name] (by rfl) rfl (new_one _ _ _) (by simp [Value.oneCell']) (by decide) (by unfold maxLen; omega) (by omega) (by simp; omega) (Y.heap.size + 1) (by simp) ?_; intro g' cap' w1 hown1 hgrow _ _; have hb1 := Lib.hid (below_grown (B := w.heap.size) HBY.out (own_base HOW.out HBV.out.size) hgrow (Nat.le_trans HBV.out.size lY)); have bx1 := Lib.hid ((row_other (HOW.out.alloc _) hgrow ((Below.heap_alloc Y _ _ (by omega)).trans HBoxY.out) (by decide))); have u1 : w1.cell? ⟨w.heap.size, 1, none⟩ = some (.string t.name) := (by rw [Lib.cell_of_heap bx1.out]; rfl); have HFin := Lib.hid (texts_snoc hown1); clear hown1 hgrow)
      | (refine step_append_lies _ (by rfl) _ _ 64 (by rfl) (V.heap.size + 1) 9 i0 (.string ⟨#[]⟩) 1 16 Tryd.underlying64 hi hz0 hz1 hz2 rfl (by decide) _ bd.length (bd.map Value.string) (by rfl) HOW.out ⟨V.heap.size, 0, none⟩ 1 1 [.string t.name] (by rfl) rfl HNB.out (by simp [Value.oneCell']) (by decide) (by unfold maxLen; omega) (by omega) (by omega) Y.heap.size rfl ?_; intro g' cap' w1 hown1 hgrow _ _; have hb1 := Lib.hid (below_grown0 (B := w.heap.size) HBY.out (own_base HOW.out (by have := HBV.out.size; omega)) hgrow (by have := HBV.out.size; omega)); have bx1 := Lib.hid (row_other HOW.out hgrow HBoxY.out (by decide)); have u1 : w1.cell? ⟨w.heap.size, 1, none⟩ = some (.string t.name) := (by rw [Lib.cell_of_heap bx1.out]; rfl); have HFin := Lib.hid (texts_snoc hown1); clear hown1 hgrow))
  all_goals
    clear y1 z0 z1 z2 u1 lV lY
    obtain ⟨bd', hbd⟩ : ∃ b, bd ++ [t.name] = b := ⟨_, rfl⟩
    have hl' : bd.length + 1 = bd'.length := by rw [← hbd]; simp
    rw [hbd, hl'] at HFin
    rw [hl']
    have HBE := Lib.hid hbd
    have hbl' : bd'.length + tsizes t.kids ≤ 1000000000 := by omega
    clear hbd hl' HOW
    go_wp2
    go_loopw [0, 7] (fun vo vi wr => ∃ (i : Nat) (b : Option Addr) (d n : Nat), i ≤ t.kids.length ∧ vi = .int .i64 i ∧ vo = .slice b n d ∧ Hid (n = (fvs bd' out (t.kids.take i)).length ∧ TextsAt wr (.slice b n d) (fvs bd' out (t.kids.take i)) ∧ Below w.heap.size w wr) ∧ Hid (TextsAt wr (.slice (some ⟨g', 0, none⟩) bd'.length cap') bd') ∧ Hid (wr.heap[w.heap.size]? = some (.cells #[.int .i64 4, .string t.name, .slice a t.kids.length c] 29 (0, 0)))) (fun _ vi _ => t.kids.length - (intOf vi).toNat)
    case atStart => exact ⟨0, oa, oc, out.length, Nat.zero_le _, rfl, rfl, Lib.hid ⟨by simp [fvs], by simpa [fvs] using HO.out.below hb1.out, hb1.out⟩, Lib.hid HFin.out, Lib.hid bx1.out⟩
    case round =>
      obtain ⟨i, ob, od, n, hi', rfl, rfl, hF, hBd, hBox⟩ := hrel
      obtain ⟨b0, b1, b2⟩ := three_cells hBox.out
      by_cases hlt : i < t.kids.length
      · obtain ⟨hn, hT, hBl⟩ := hF.out
        obtain ⟨g, pa, ca, rfl, hcap, hr⟩ := HR.out i hlt
        obtain ⟨⟨hg, x0, x1, x2⟩, xk⟩ := hr wr (KeepT.of_below hBl)
        have hsz := tsizes_take t.kids i hlt
        have hl1 := fvs_len (t.kids.take i) bd' out
        have hkk := size_mem' (List.getElem_mem hlt)
        rw [hn] at hT ⊢
        have HC := Lib.hid (HS.out t.kids[i] (List.getElem_mem hlt) bd' (fvs bd' out (t.kids.take i)) ob (some ⟨g', 0, none⟩) pa od cap' ca wr hT hBd.out xk (by omega) (by omega))
        rw [← fvs_drop bd' out t.kids i hlt] at HC
        have HB1 := Lib.hid hBl
        clear hr xk hsz hl1 hkk HS HR hF hT hBl hn
        generalize t.kids[i] = u at x0 x1 x2 HC
        simp only [tyV] at HC
        have hlt1 : ((i : Int) < (t.kids.length : Int)) := by omega
        generalize (fvs bd' out (t.kids.take i)).length = m at HC ⊢
        go_wp2_with (go_at_call 66; refine HC.out.mono ?_; rintro e w2 ⟨⟨v2, rfl, hT2⟩, hb2⟩; obtain ⟨oe, of, rfl⟩ := hT2.shape; have HF2 := Lib.hid (⟨hT2, HB1.out.trans (hb2.mono HB1.out.size)⟩ : TextsAt w2 (.slice oe (fvs bd' out (t.kids.take (i + 1))).length of) (fvs bd' out (t.kids.take (i + 1))) ∧ Below w.heap.size w w2); have HBd2 := Lib.hid (hBd.out.below hb2); have HBox2 := Lib.hid ((hb2.block _ (Array.getElem?_eq_some_iff.1 hBox.out).1).trans hBox.out); clear hT2 hb2)
        go_roundw
        case rel => exact ⟨i + 1, oe, of, _, by omega, by go_num, rfl, Lib.hid ⟨rfl, HF2.out⟩, HBd2, HBox2⟩
        case measure => simp [intOf]; omega
      · obtain rfl : i = t.kids.length := by omega
        rw [List.take_length] at hF
        clear HR HS
        go_wp2
        go_ret
        exact ⟨⟨_, rfl, by rw [HBE.out]; exact hF.out.2.1⟩, hF.out.2.2⟩
end Go.Proofs.YtdcfemojkdoakaaDoor
/- The document's Vars. -/
namespace Go.Proofs.YtdcfemojkdoakaaDoor
open Go.RowKit
attribute [local go_sem] Oper.semAt_some

theorem rvars_any (t : T) : RVarsOK t := by
  refine T.by_kids (P := RVarsOK) (fun t H => ?_) t
  have hz := tsize_eq t
  intro bd out oa ba a oc bc c w ho hb ht hol hbl
  cases t with
  | var n =>
    refine (rvars_var (.var n) rfl rfl bd out oa ba a oc bc c w ho hb (by omega) (by omega) (by omega)).mono ?_
    rintro e w' ⟨⟨v, rfl, h⟩, hb'⟩
    refine ⟨⟨v, rfl, ?_⟩, hb'⟩
    rw [fv]
    by_cases hx : n ∈ bd ∨ n ∈ out
    · rw [if_pos hx]; rw [if_pos (hx.elim (fun e => .inr (inB_iff.2 e)) (fun e => .inl (inB_iff.2 e)))] at h; exact h
    · rw [if_neg hx]; rw [if_neg (fun e => hx (e.elim (fun e => .inr (inB_iff.1 e)) (fun e => .inl (inB_iff.1 e))))] at h; exact h
  | con n l => rw [fv]; exact rvars_plain (.con n l) H (by simp [T.kind]) (by simp [T.kind]) bd out oa ba a oc bc c w ho hb ht hol hbl
  | fn x y =>
    have e : fv bd out (.fn x y) = fvs bd out (T.fn x y).kids := by simp [fv, T.kids, fvs]
    rw [e]
    exact rvars_plain (.fn x y) H (by simp [T.kind]) (by simp [T.kind]) bd out oa ba a oc bc c w ho hb ht hol hbl
  | all n x =>
    have e : fv bd out (.all n x) = fvs (bd ++ [(T.all n x).name]) out (T.all n x).kids := by
      simp only [fv, T.kids, fvs, T.name]
      exact fv_congr x _ _ out (fun y => by simp only [List.mem_cons, List.mem_append, List.not_mem_nil, or_false]; exact Or.comm)
    rw [e]
    exact rvars_all (.all n x) H rfl bd out oa ba a oc bc c w ho hb ht hol hbl

set_option maxHeartbeats 2000000 in
theorem rVars_any (l : List T) (hs : tsizes l ≤ 1000000000) (a : Option Addr) (c : Nat) (w : World) (ht : TysAt w (.slice a l.length c) l) :
    Calls Tryd.prog 34 #[.slice a l.length c] w fun e w' => (∃ v, e = .returned v ∧ TextsAt w' v (fvs [] [] l)) ∧ Below w.heap.size w w' := by
  have hlen := len_sizes' l
  have HR := Lib.hid ht.part
  clear ht
  go_enter Tryd.func34, Tryd.ntmps34
  go_wp2
  go_loopw [3, 4] (fun vo vi wr => ∃ (i : Nat) (b : Option Addr) (d n : Nat), i ≤ l.length ∧ vi = .int .i64 i ∧ vo = .slice b n d ∧ Hid (n = (fvs [] [] (l.take i)).length ∧ TextsAt wr (.slice b n d) (fvs [] [] (l.take i)) ∧ Below w.heap.size w wr)) (fun _ vi _ => l.length - (intOf vi).toNat)
  case atStart => exact ⟨0, none, 0, 0, Nat.zero_le _, rfl, rfl, Lib.hid ⟨by simp [fvs], ⟨none, 0, by simp [fvs], .inl (by simp [fvs])⟩, Below.refl _ _⟩⟩
  case round =>
    obtain ⟨i, ob, od, n, hi', rfl, rfl, hF⟩ := hrel
    by_cases hlt : i < l.length
    · obtain ⟨hn, hT, hBl⟩ := hF.out
      obtain ⟨g, pa, ca, rfl, hcap, hr⟩ := HR.out i hlt
      obtain ⟨⟨hg, x0, x1, x2⟩, xk⟩ := hr wr (KeepT.of_below hBl)
      have hsz := tsizes_take l i hlt
      have hl1 := fvs_len (l.take i) [] []
      have hkk := size_mem' (List.getElem_mem hlt)
      rw [hn] at hT ⊢
      simp only [List.length_nil] at hl1
      have HC := Lib.hid (rvars_any l[i] [] (fvs [] [] (l.take i)) ob none pa od 0 ca wr hT ⟨none, 0, rfl, .inl rfl⟩ xk (by omega) (by simp only [List.length_nil]; omega))
      rw [← fvs_drop [] [] l i hlt] at HC
      have HB1 := Lib.hid hBl
      clear hr xk hsz hl1 hkk HR hF hT hBl hn
      generalize l[i] = u at x0 x1 x2 HC
      simp only [tyV, List.length_nil] at HC
      have hlt1 : ((i : Int) < (l.length : Int)) := by omega
      generalize (fvs [] [] (l.take i)).length = m at HC ⊢
      go_wp2_with (go_at_call 66; refine HC.out.mono ?_; rintro e w2 ⟨⟨v2, rfl, hT2⟩, hb2⟩; obtain ⟨oe, of, rfl⟩ := hT2.shape; have HF2 := Lib.hid (⟨hT2, HB1.out.trans (hb2.mono HB1.out.size)⟩ : TextsAt w2 (.slice oe (fvs [] [] (l.take (i + 1))).length of) (fvs [] [] (l.take (i + 1))) ∧ Below w.heap.size w w2); clear hT2 hb2)
      go_roundw
      case rel => exact ⟨i + 1, oe, of, _, by omega, by go_num, rfl, Lib.hid ⟨rfl, HF2.out⟩⟩
      case measure => simp [intOf]; omega
    · obtain rfl : i = l.length := by omega
      rw [List.take_length] at hF
      clear HR
      go_wp2
      go_ret
      exact ⟨⟨_, rfl, hF.out.2.1⟩, hF.out.2.2⟩
end Go.Proofs.YtdcfemojkdoakaaDoor
/- The document's bind. -/
namespace Go.Proofs.YtdcfemojkdoakaaDoor
open Go.RowKit Go.Sort Go.Lib
attribute [local go_sem] Oper.semAt_some

theorem givenG_one {T : TypeId} {w : World} {b : Nat} (x : PR) (h : w.heap[b]? = some (.cells #[.string x.n, .int .i64 x.t.kind, .string x.t.name, .slice x.a x.t.kids.length x.c] T (0, 0))) : GivenG T (.slice (some ⟨b, 0, none⟩) 1 1) [x] w := by
  refine .inr ⟨by simp, b, 1, rfl, _, h, by simp, fun i hi => ?_⟩
  obtain rfl : i = 0 := by simpa using hi
  exact ⟨rfl, rfl, rfl, rfl⟩
theorem vars_in {t : T} (h : NoAll t) (n : ByteArray) : inB (fvs [] [] [t]) n = true ↔ n ∈ vs t := by
  rw [inB_iff, fvs_mem, ← h n]
  simp [hasTs]
theorem fv_lens : (∀ t : T, ∀ bd out : List ByteArray, (fv bd out t).length ≤ out.length + tsize t) ∧ ∀ l : List T, ∀ bd out : List ByteArray, (fvs bd out l).length ≤ out.length + tsizes l := by
  have key : ∀ t : T, ∀ bd out : List ByteArray, (fv bd out t).length ≤ out.length + tsize t := by
    refine T.kidsInd fun t ih bd out => ?_
    have hl : ∀ l : List T, (∀ k ∈ l, k ∈ t.kids) → ∀ bd out : List ByteArray, (fvs bd out l).length ≤ out.length + tsizes l := by
      intro l
      induction l with
      | nil => intro _ bd out; simp [fvs, tsizes]
      | cons a l ih2 =>
        intro hk bd out
        have h1 := ih a (hk a (by simp)) bd out
        have h2 := ih2 (fun k h => hk k (List.mem_cons_of_mem _ h)) bd (fv bd out a)
        rw [fvs, tsizes]; omega
    cases t with
    | var n => rw [fv]; split <;> simp [tsize]
    | con n l => rw [fv, tsize]; have := hl l (fun k h => h) bd out; omega
    | fn a b =>
      have h1 := ih a (by simp [T.kids]) bd out
      have h2 := ih b (by simp [T.kids]) bd (fv bd out a)
      rw [fv, tsize]; omega
    | all n a =>
      have h1 := ih a (by simp [T.kids]) (n :: bd) out
      rw [fv, tsize]; omega
  refine ⟨key, fun l => ?_⟩
  induction l with
  | nil => intro bd out; simp [fvs, tsizes]
  | cons a l ih =>
    intro bd out
    have h1 := key a bd out
    have h2 := ih bd (fv bd out a)
    rw [fvs, tsizes]; omega
set_option maxRecDepth 100000 in
set_option maxHeartbeats 2000000 in
theorem rbind_any (sv : Value) (d : List PR) (n : ByteArray) (t : T) (a : Option Addr) (c : Nat) (w : World) (hd : GivenG 73 sv d w) (td : Typ d w) (ht : TysAt w (.slice a t.kids.length c) t.kids) (hl : d.length < 1000) (hq : ∀ x ∈ d, tsize x.t ≤ 1000000000) (hs : tsize t ≤ 900000000) (hp : Plain3 t) :
    Calls Tryd.prog 67 #[sv, .string n, .agg #[.int .i64 t.kind, .string t.name, .slice a t.kids.length c]] w fun E w' => ((n ∈ vs t ∧ E = .returned (.tuple #[.slice none 0 0, .int .i64 107])) ∨ (n ∉ vs t ∧ ∃ v q, E = .returned (.tuple #[v, .int .i64 0]) ∧ GivenG 73 v q w' ∧ Typ q w' ∧ q.map nt = (thenR d [⟨n, t, a, c⟩]).map nt)) ∧ Below w.heap.size w w' := by
  have HV := Lib.hid (vars_in hp.no n)
  have hlen := fv_lens.2 [t] [] []
  have hlen2 : (fvs [] [] [t]).length ≤ 1000000000 := by simp [tsizes] at hlen; omega
  have HD := Lib.hid hd; have HTd := Lib.hid td; have HT := Lib.hid ht; have HQ := Lib.hid hq
  have HB2 := Lib.hid (fun o1 o2 => below_two w o1 o2)
  have hone : ∀ o, TysAt ((w.alloc o).alloc (.cells #[.int .i64 t.kind, .string t.name, .slice a t.kids.length c] 29)) (.slice (some ⟨w.heap.size + 1, 0, none⟩) 1 1) [t] := fun o => TysAt.one (by simp) (TyAt.mk t (ht.keep (keepT_alloc w o)))
  have HVars := Lib.hid (fun (o : Obj) => rVars_any [t] (by simp [tsizes]; omega) _ _ _ (hone o))
  obtain ⟨sa, sc, rfl, _⟩ := hd.shape
  have HB1 := Lib.hid (fun o => (Below.refl _ w).alloc (Nat.le_refl _) o)
  clear hd td ht hq hone hp
  go_enter Tryd.func67, Tryd.ntmps67
  go_wp2_with (go_at_call 34; refine (HVars.out _).mono ?_)
  rintro E w2 ⟨⟨v, rfl, hv⟩, hb2⟩
  obtain ⟨va, vc, rfl⟩ := hv.shape
  have hbx := (hb2.block w.heap.size (by simp; omega)).trans ((Below.heap_alloc _ _ _ (by simp)).trans (alloc_new w _))
  obtain ⟨z0, z1, z2⟩ := three_cells hbx
  have lz := (Array.getElem?_eq_some_iff.1 hbx).1
  have HBW := Lib.hid ((HB2.out _ _).trans (hb2.mono (by simp; omega)))
  have HF := Lib.hid (hasR_any _ hlen2 n va vc w2 hv)
  clear hv hb2 hbx HVars
  by_cases hn : n ∈ vs t
  · have hin := HV.out.2 hn
    rw [hin] at HF
    clear hin HV
    go_wp2_with (go_at_call 29; refine HF.out.mono ?_; rintro E w3 ⟨rfl, rfl⟩)
    exact bodyPost_ret (v := .tuple #[.slice none 0 0, .int .i64 107]) (by simp [results, Tryd.results67, go_sem]) rfl ⟨.inl ⟨hn, rfl⟩, HBW.out⟩
  · have hin : inB (fvs [] [] [t]) n = false := by
      cases h : inB (fvs [] [] [t]) n with
      | false => rfl
      | true => exact absurd (HV.out.1 h) hn
    rw [hin] at HF
    have HThen := Lib.hid (fun (o : Obj) (ho : o = .cells #[.string n, .int .i64 t.kind, .string t.name, .slice a t.kids.length c] 73 (0, 0)) =>
      rthen_any (.slice sa d.length sc) (.slice (some ⟨w2.heap.size, 0, none⟩) 1 1) d [⟨n, t, a, c⟩] (w2.alloc o) hl (by simp) ((HD.out.below HBW.out).below ((Below.refl _ w2).alloc (Nat.le_refl _) o)) (givenG_one ⟨n, t, a, c⟩ (by rw [ho]; exact alloc_new w2 _))
        ((HTd.out.keep (KeepT.of_below HBW.out)).keep (keepT_alloc w2 o)) (fun x hx => by obtain rfl := List.mem_singleton.1 hx; exact (HT.out.keep (KeepT.of_below HBW.out)).keep (keepT_alloc w2 o)) HQ.out)
    clear hin HV
    go_wp2_with (first
      | (go_at_call 29; refine HF.out.mono ?_; rintro E w3 ⟨rfl, rfl⟩)
      | (go_at_call 91; refine (HThen.out _ rfl).mono ?_; rintro E w4 ⟨⟨v4, q4, rfl, g1, g2, g3⟩, hb4⟩; have G1 := Lib.hid g1; have G2 := Lib.hid g2; have G3 := Lib.hid g3; have HB4 := Lib.hid ((HBW.out.alloc HBW.out.size _).trans (hb4.mono (by have := HBW.out.size; simp; omega))); clear g1 g2 g3 hb4))
    exact bodyPost_ret (v := .tuple #[v4, .int .i64 0]) (by simp [results, Tryd.results67, go_sem]) rfl ⟨.inr ⟨hn, _, _, rfl, G1.out, G2.out, G3.out⟩, HB4.out⟩
end Go.Proofs.YtdcfemojkdoakaaDoor
/- The document's unify. -/
namespace Go.Proofs.YtdcfemojkdoakaaDoor
open Go.RowKit Go.Sort Go.Lib
attribute [local go_sem] Oper.semAt_some

/-- What the document's unify tells. -/
def RRes (S : USet) (r : UR) (E : Ending) (w' : World) : Prop :=
  match r with
  | .ok τ => ∃ v q, E = .returned (.tuple #[v, .int .i64 0]) ∧ GivenG 73 v q w' ∧ Typ q w' ∧ PInv S q τ
  | .bad e => E = .returned (.tuple #[.slice none 0 0, .int .i64 (if e then 107 else 106)])
def RUni (S : USet) (f : Nat) : Prop := ∀ (σ : Sg) (d : List PR) (a b : T) (r : UR) (sv : Value) (pa pb : Option Addr) (ca cb : Nat) (w : World), uni f σ a b = some r → UInv S σ → UArg S σ a → UArg S σ b → S.P a b → PInv S d σ → GivenG 73 sv d w → Typ d w → TysAt w (.slice pa a.kids.length ca) a.kids → TysAt w (.slice pb b.kids.length cb) b.kids →
  Calls Tryd.prog 40 #[sv, .agg #[.int .i64 a.kind, .string a.name, .slice pa a.kids.length ca], .agg #[.int .i64 b.kind, .string b.name, .slice pb b.kids.length cb]] w fun E w' => RRes S r E w' ∧ Below w.heap.size w w'
/-- Apply, called where two boxes lie at the end. -/
theorem rapp_at {d : List PR} {t u : T} {sv : Value} {a : Option Addr} {c : Nat} {w : World} (hl : d.length < 1000000) (hd : GivenG 73 sv d w) (td : Typ d w) (ht : TysAt w (.slice a t.kids.length c) t.kids) (hz : tsize t ≤ 1000000000) (e : app d t = u) (V : World) (hb : Below w.heap.size w V) (hs : w.heap.size + 2 ≤ V.heap.size) :
    Calls Tryd.prog 15 #[sv, .agg #[.int .i64 t.kind, .string t.name, .slice a t.kids.length c]] V fun E w' => (∃ za zc, E = .returned (.agg #[.int .i64 u.kind, .string u.name, .slice za u.kids.length zc]) ∧ TyIn (fun k => k ≠ w.heap.size ∧ k ≠ w.heap.size + 1) w' u (.slice za u.kids.length zc)) ∧ Below V.heap.size V w' := by
  subst e
  have lt : ∀ (k : Nat) (cs : Array Value) (fz : Nat × Nat), w.heap[k]? = some (.cells cs 29 fz) → k < w.heap.size := fun k _ _ hk => (Array.getElem?_eq_some_iff.1 hk).1
  have kp : ∀ {t : T} {v : Value}, TyIn (fun k => k < w.heap.size) w t v → TyIn (fun k => k < w.heap.size) V t v := fun h => h.keep fun k _ _ hk hh => (hb.block k hk).trans hh
  refine (rapp_ok d hl t w.heap.size sv a c V ⟨hd.below hb, fun x hx => kp ((td x hx).inside lt), by omega⟩ (kp (ht.inside lt)) hz).mono ?_
  rintro E w' ⟨⟨za, zc, rfl, hin⟩, hb'⟩
  exact ⟨⟨za, zc, rfl, hin.mono fun k hk => by rcases hk with hk | hk <;> omega⟩, hb'⟩
theorem TyIn.far {B : Nat} {w W : World} {t : T} {v : Value} (h : TyIn (fun k => k ≠ B ∧ k ≠ B + 1) w t v) (hk : ∀ k, k ≠ B → k ≠ B + 1 → W.heap[k]? = w.heap[k]?) : TyIn (fun k => k ≠ B ∧ k ≠ B + 1) W t v := h.keep fun k _ _ hh hx => (hk k hh.1 hh.2).trans hx
/-- Both types applied, in their boxes. -/
def UBox (w : World) (u v : T) (ku kv : Int) (ua va : Option Addr) (uc vc : Nat) (W : World) : Prop :=
  (W.heap[w.heap.size]? = some (.cells #[.int .i64 ku, .string u.name, .slice ua u.kids.length uc] 29 (0, 0)) ∧ W.heap[w.heap.size + 1]? = some (.cells #[.int .i64 kv, .string v.name, .slice va v.kids.length vc] 29 (0, 0))) ∧
  (TysAt W (.slice ua u.kids.length uc) u.kids ∧ TysAt W (.slice va v.kids.length vc) v.kids) ∧ Below w.heap.size w W
theorem UBox.below {w : World} {u v : T} {ku kv : Int} {ua va : Option Addr} {uc vc : Nat} {W Y : World} (h : UBox w u v ku kv ua va uc vc W) (hb : Below W.heap.size W Y) : UBox w u v ku kv ua va uc vc Y := by
  obtain ⟨⟨h1, h2⟩, ⟨h3, h4⟩, h5⟩ := h
  have l1 := (Array.getElem?_eq_some_iff.1 h1).1
  have l2 := (Array.getElem?_eq_some_iff.1 h2).1
  exact ⟨⟨(hb.block _ l1).trans h1, (hb.block _ l2).trans h2⟩, ⟨h3.keep (KeepT.of_below hb), h4.keep (KeepT.of_below hb)⟩, h5.trans (hb.mono h5.size)⟩
theorem first_store {w w2 : World} {x y z : Value} {o : Obj} (hb : Below ((w.alloc (.cells #[x, y, z] 29)).alloc o).heap.size ((w.alloc (.cells #[x, y, z] 29)).alloc o) w2) :
    w2.heap[w.heap.size]? = some (.cells #[x, y, z] 29 (0, 0)) ∧ w2.heap[w.heap.size + 1]? = some o ∧ Below w.heap.size w w2 := by
  refine ⟨(hb.block _ (by simp; omega)).trans ((Below.heap_alloc _ _ _ (by simp)).trans (alloc_new w _)), (hb.block _ (by simp)).trans (new_two w _ _), (below_two w _ _).trans (hb.mono (by simp; omega))⟩
theorem ubox_of {w X w3 : World} {u v : T} {ku kv : Int} {ua va : Option Addr} {uc vc : Nat} {x y z : Value} (hA : X.heap[w.heap.size]? = some (.cells #[.int .i64 ku, .string u.name, .slice ua u.kids.length uc] 29 (0, 0))) (hB : X.heap[w.heap.size + 1]? = some (.cells #[x, y, z] 29 (0, 0)))
    (hu : TyIn (fun k => k ≠ w.heap.size ∧ k ≠ w.heap.size + 1) X u (.slice ua u.kids.length uc)) (hbX : Below w.heap.size w X) (hb : Below X.heap.size X w3) (hv : TyIn (fun k => k ≠ w.heap.size ∧ k ≠ w.heap.size + 1) w3 v (.slice va v.kids.length vc)) :
    UBox w u v ku kv ua va uc vc (((w3.setCell ⟨w.heap.size + 1, 0, none⟩ (.int .i64 kv)).setCell ⟨w.heap.size + 1, 1, none⟩ (.string v.name)).setCell ⟨w.heap.size + 1, 2, none⟩ (.slice va v.kids.length vc)) := by
  have lA := (Array.getElem?_eq_some_iff.1 hA).1
  have lB := (Array.getElem?_eq_some_iff.1 hB).1
  have hot : ∀ k, k ≠ w.heap.size + 1 → (((w3.setCell ⟨w.heap.size + 1, 0, none⟩ (.int .i64 kv)).setCell ⟨w.heap.size + 1, 1, none⟩ (.string v.name)).setCell ⟨w.heap.size + 1, 2, none⟩ (.slice va v.kids.length vc)).heap[k]? = w3.heap[k]? := fun k hk => set3_others _ _ _ hk
  refine ⟨⟨(hot _ (by omega)).trans ((hb.block _ lA).trans hA), set3_block ((hb.block _ lB).trans hB) _ _ _⟩, ⟨?_, ?_⟩, below_set3 (hbX.trans (hb.mono hbX.size)) (Nat.le_succ _) _ _ _⟩
  · exact ((hu.keep fun k _ _ _ hh => (hb.block k (Array.getElem?_eq_some_iff.1 hh).1).trans hh).far fun k _ h2 => hot k h2).tys
  · exact (hv.far fun k _ h2 => hot k h2).tys
/-- What one step is, by the two types' kinds and names. -/
inductive UCase (S : USet) (f : Nat) (σ : Sg) (a b u v : T) (r : UR) : Prop where
  | same : u.kind = 1 → v.kind = 1 → u.name = v.name → r = .ok σ → UCase S f σ a b u v r
  | left (τ : Sg) : u.kind = 1 → u.name ∉ vs v → (v.kind = 1 → u.name ≠ v.name) → Binds σ u.name v τ → u.name ∈ S.V → r = .ok τ → UCase S f σ a b u v r
  | leftIn : u.kind = 1 → u.name ∈ vs v → ¬ v.kind = 1 → r = .bad true → UCase S f σ a b u v r
  | right (τ : Sg) : ¬ u.kind = 1 → v.kind = 1 → v.name ∉ vs u → Binds σ v.name u τ → v.name ∈ S.V → r = .ok τ → UCase S f σ a b u v r
  | rightIn : ¬ u.kind = 1 → v.kind = 1 → v.name ∈ vs u → r = .bad true → UCase S f σ a b u v r
  | parts : ¬ u.kind = 1 → ¬ v.kind = 1 → u.kind = v.kind → u.name = v.name → u.kids.length = v.kids.length → uniL (uni f) σ u.kids v.kids = some r → (∀ k ∈ u.kids, UArg S σ k) → (∀ k ∈ v.kids, UArg S σ k) → (∀ i (h1 : i < u.kids.length) (h2 : i < v.kids.length), S.P u.kids[i] v.kids[i]) → UCase S f σ a b u v r
  | kinds : ¬ u.kind = 1 → ¬ v.kind = 1 → ¬ u.kind = v.kind → r = .bad false → UCase S f σ a b u v r
  | names : ¬ u.kind = 1 → ¬ v.kind = 1 → u.kind = v.kind → ¬ u.name = v.name → r = .bad false → UCase S f σ a b u v r
  | many : ¬ u.kind = 1 → ¬ v.kind = 1 → u.kind = v.kind → u.name = v.name → ¬ u.kids.length = v.kids.length → r = .bad false → UCase S f σ a b u v r
theorem ucase {S : USet} {f : Nat} {σ : Sg} {a b : T} {r : UR} (h : uni (f + 1) σ a b = some r) (hi : UInv S σ) (ha : UArg S σ a) (hb : UArg S σ b) (hP : S.P a b) : UCase S f σ a b (sub σ a) (sub σ b) r := by
  rw [uni] at h
  have hs := stepU_is (uni f) σ a b hi.idem
  rw [h] at hs
  have ta := ha.tin hi
  have tb := hb.tin hi
  generalize hr : some r = q at hs
  cases hs with
  | same x e1 e2 =>
    injection hr with hr
    rw [e1, e2]; exact .same rfl rfl rfl hr
  | left x τ e1 h1 =>
    injection hr with hr
    have hx : x ∈ S.V := ta x (by rw [e1]; simp [vs])
    have h2 := h1.out
    rw [e1]
    refine .left τ rfl h2 (fun hk e => h2 ?_) h1 hx hr
    rw [isV_var (isV_kind.2 hk), ← e]; simp [vs, T.name]
  | leftIn x e1 h1 h2 =>
    injection hr with hr
    rw [e1]; exact .leftIn rfl h1 (not_var h2) hr
  | right x τ h1 e2 h2 =>
    injection hr with hr
    have hx : x ∈ S.V := tb x (by rw [e2]; simp [vs])
    rw [e2]; exact .right τ (not_var h1) rfl h2.out h2 hx hr
  | rightIn x h1 e2 h2 =>
    injection hr with hr
    rw [e2]; exact .rightIn (not_var h1) rfl h2 hr
  | parts h1 h2 h3 h4 h5 => exact .parts (not_var h1) (not_var h2) h3 h4 h5 hr.symm (fun k hk => ha.kid hi h1 hk) (fun k hk => hb.kid hi h2 hk) (fun i k1 k2 => S.kids _ _ (S.at σ a b hi.good hP) h1 h2 h5 i k1 k2)
  | bad h1 h2 hn =>
    injection hr with hr
    by_cases c1 : (sub σ a).kind = (sub σ b).kind
    · by_cases c2 : (sub σ a).name = (sub σ b).name
      · exact .many (not_var h1) (not_var h2) c1 c2 (fun c3 => hn ⟨c1, c2, c3⟩) hr
      · exact .names (not_var h1) (not_var h2) c1 c2 hr
    · exact .kinds (not_var h1) (not_var h2) c1 hr
theorem pinv_then {S : USet} {d q : List PR} {σ τ : Sg} {p : PR} (h : PInv S d σ) (hb : Binds σ p.n p.t τ) (hx : p.n ∈ S.V) (g : q.map nt = (thenR d [p]).map nt) : PInv S q τ := by
  refine h.bind hb hx (fun y hy => ?_) ?_ fun n => (ty_nt n g).trans (thenR_ty d [p] n)
  · have h1 : nt y ∈ (thenR d [p]).map nt := by rw [← g]; exact List.mem_map.2 ⟨y, hy, rfl⟩
    obtain ⟨z, hz, e⟩ := List.mem_map.1 h1
    simp only [nt, Prod.mk.injEq] at e
    rcases List.mem_append.1 hz with hz | hz
    · obtain ⟨x, hx', rfl⟩ := List.mem_map.1 hz
      exact .inl ⟨x, hx', e.1.symm, e.2.symm⟩
    · obtain rfl := List.mem_singleton.1 (List.mem_filter.1 hz).1
      exact .inr ⟨e.1.symm, e.2.symm⟩
  · have h1 := congrArg List.length g
    simp only [List.length_map] at h1
    rw [h1, thenR, List.length_append, List.length_map]
    have := List.length_filter_le (fun y => (lk y.n d).isNone) [p]
    simp only [List.length_singleton] at this
    omega
theorem uinv_next {S : USet} {f : Nat} {ρ τ : Sg} {a b : T} (h : uni f ρ a b = some (.ok τ)) (hi : UInv S ρ) (ha : UArg S ρ a) (hb : UArg S ρ b) (hP : S.P a b) : UInv S τ ∧ ExtU ρ τ := by
  obtain ⟨h1, h2, _⟩ := uni_sound f ρ a b τ h hi.idem
  refine ⟨⟨h1, uni_from S.kid f ρ a b τ h hi.idem hi.src ha hb, ?_, S.fin f ρ a b τ hi.idem hi.good hP h⟩, h2⟩
  have e : uni f ρ (sub ρ a) (sub ρ b) = some (.ok τ) := by
    cases f with
    | zero => cases h
    | succ f => rw [uni, hi.idem.twice a, hi.idem.twice b]; rw [uni] at h; exact h
  obtain ⟨r, hr, hA⟩ := uni_total S.V ρ (sub ρ a) (sub ρ b) hi.idem hi.vin (ha.tin hi) (hb.tin hi)
  have := hr.only ⟨f, e⟩
  exact (hA τ this).1
/-- Where the loop over the parts stands. -/
def LpI (S : USet) (f : Nat) (σ : Sg) (u v : T) (r : UR) (i : Nat) (vs vb : Value) (X : World) : Prop :=
  (∃ ρ q, vb = .int .i64 0 ∧ (UInv S ρ ∧ ExtU σ ρ ∧ PInv S q ρ ∧ uniL (uni f) ρ (u.kids.drop i) (v.kids.drop i) = some r) ∧ GivenG 73 vs q X ∧ Typ q X) ∨ (∃ e : Bool, vb = .int .i64 (if e then 107 else 106) ∧ vs = .slice none 0 0 ∧ r = .bad e)
theorem lp_next {S : USet} {f : Nat} {σ ρ : Sg} {u v : T} {r r1 : UR} {i : Nat} (h1 : i < u.kids.length) (h2 : i < v.kids.length) (hl : uniL (uni f) ρ (u.kids.drop i) (v.kids.drop i) = some r) (e : uni f ρ u.kids[i] v.kids[i] = some r1) (hi : UInv S ρ) (he : ExtU σ ρ) (ha : UArg S ρ u.kids[i]) (hb : UArg S ρ v.kids[i]) (hP : S.P u.kids[i] v.kids[i]) (E : Ending) (X : World) (hr : RRes S r1 E X) :
    ∃ vs vb, E = .returned (.tuple #[vs, vb]) ∧ LpI S f σ u v r (i + 1) vs vb X := by
  rw [List.drop_eq_getElem_cons h1, List.drop_eq_getElem_cons h2, uniL, e] at hl
  cases r1 with
  | bad q =>
    simp only [Option.some.injEq] at hl
    exact ⟨_, _, hr, .inr ⟨q, rfl, rfl, hl.symm⟩⟩
  | ok τ =>
    obtain ⟨v4, q4, rfl, g1, g2, g3⟩ := hr
    obtain ⟨k1, k2⟩ := uinv_next e hi ha hb hP
    exact ⟨_, _, rfl, .inl ⟨τ, q4, rfl, ⟨k1, he.trans k2, g3, hl⟩, g1, g2⟩⟩
theorem lp_some {f : Nat} {ρ : Sg} {u v : T} {r : UR} {i : Nat} (h1 : i < u.kids.length) (h2 : i < v.kids.length) (hl : uniL (uni f) ρ (u.kids.drop i) (v.kids.drop i) = some r) : ∃ r1, uni f ρ u.kids[i] v.kids[i] = some r1 := by
  rw [List.drop_eq_getElem_cons h1, List.drop_eq_getElem_cons h2, uniL] at hl
  cases e : uni f ρ u.kids[i] v.kids[i] with
  | none => rw [e] at hl; cases hl
  | some r1 => exact ⟨r1, rfl⟩

set_option maxRecDepth 100000 in
set_option maxHeartbeats 2000000 in
theorem runi_step (S : USet) (hS : S.V.length < 900) (f : Nat) (IH : RUni S f) : RUni S (f + 1) := by
  intro σ d a b r sv pa pb ca cb w hun hi ha hb hPab hp hd td hta htb
  have hc := ucase hun hi ha hb hPab
  have hdl : d.length < 1000 := by have := hp.len; omega
  have hla := ha.le hi
  have hlb := hb.le hi
  have hpa := ha.plain hi
  have hpb := hb.plain hi
  have ea := hp.is.app a
  have eb := hp.is.app b
  obtain ⟨u, hu⟩ : ∃ u, sub σ a = u := ⟨_, rfl⟩
  obtain ⟨v, hv⟩ : ∃ v, sub σ b = v := ⟨_, rfl⟩
  rw [hu] at hc hla hpa ea
  rw [hv] at hc hlb hpb eb
  have HA := Lib.hid (rapp_at (by omega) hd td hta (by omega) ea)
  have HBb := Lib.hid (rapp_at (by omega) hd td htb (by omega) eb)
  have HB2 := Lib.hid (fun o1 o2 => below_two w o1 o2)
  have hqs : ∀ x ∈ d, tsize x.t ≤ 1000000000 := fun x hx => by have := hp.sized hi x hx; omega
  have HD := Lib.hid hd; have HTd := Lib.hid td; have HP := Lib.hid hp; have HQ := Lib.hid hqs
  obtain ⟨ku, hku⟩ : ∃ k, u.kind = k := ⟨_, rfl⟩
  obtain ⟨kv, hkv⟩ : ∃ k, v.kind = k := ⟨_, rfl⟩
  rw [hku] at HA
  rw [hkv] at HBb
  have hlu := hla.1
  have hlv := hlb.1
  clear hd td hta htb ea eb hun hqs hla hlb ha hb
  cases hc with
  | same huk hvk hnm hr =>
    subst hr
    obtain rfl : ku = 1 := hku.symm.trans huk
    obtain rfl : kv = 1 := hkv.symm.trans hvk
    have hnmB : (u.name.toList == v.name.toList) = true := by rw [hnm]; simp
    clear hnm huk hvk
    go_enter Tryd.func40, Tryd.ntmps40
    go_wp2_with (first
      | (go_at_call 15; refine (HA.out _ (HB2.out _ _) (by simp)).mono ?_; rintro E w2 ⟨⟨ua, uc, rfl, h2⟩, hb2⟩; obtain ⟨hA, hB, hbw⟩ := first_store hb2; obtain ⟨k0, k1, k2⟩ := three_cells hA; have q0 := Lib.frozen_of_heap hA 0; have q1 := Lib.frozen_of_heap hA 1; have q2 := Lib.frozen_of_heap hA 2; obtain ⟨m0, m1, m2⟩ := three_cells hB; have lA := (Array.getElem?_eq_some_iff.1 hA).1; have lB := (Array.getElem?_eq_some_iff.1 hB).1; have HAx := Lib.hid hA; have HBx := Lib.hid hB; have HW2 := Lib.hid hbw; have HU := Lib.hid h2; clear h2 hb2 hA hB hbw HA)
      | (go_at_call 15; refine (HBb.out _ (below_set3 HW2.out (Nat.le_refl _) (.int .i64 1) (.string u.name) (.slice ua u.kids.length uc)) (by simp [World.size_setCell]; omega)).mono ?_; rintro E w3 ⟨⟨va, vc, rfl, h3⟩, hb3⟩; have hub := ubox_of (u := u) (v := v) (ku := 1) (kv := 1) (ua := ua) (va := va) (uc := uc) (vc := vc) (set3_block HAx.out _ _ _) ((set3_others _ _ _ (by omega)).trans HBx.out) (HU.out.far fun k hk _ => set3_others _ _ _ hk) (below_set3 HW2.out (Nat.le_refl _) _ _ _) hb3 h3; have hB3 := (hb3.block (w.heap.size + 1) (by simp only [World.size_setCell]; exact lB)).trans ((set3_others (.int .i64 1) (.string u.name) (.slice ua u.kids.length uc) (by omega)).trans HBx.out); clear k0 k1 k2 q0 q1 q2 m0 m1 m2; obtain ⟨m0, m1, m2⟩ := three_cells hB3; have q0 := Lib.frozen_of_heap hB3 0; have q1 := Lib.frozen_of_heap hB3 1; have q2 := Lib.frozen_of_heap hB3 2; have lB3 := (Array.getElem?_eq_some_iff.1 hB3).1; have HUB := Lib.hid hub; obtain ⟨b0, b1, b2⟩ := three_cells hub.1.1; clear h3 hb3 hub hB3 HBb HAx HBx HU))
    exact bodyPost_ret (v := .tuple #[sv, .int .i64 0]) (by simp [results, Tryd.results40, go_sem]) rfl ⟨⟨sv, d, rfl, HD.out.below HUB.out.2.2, HTd.out.keep (KeepT.of_below HUB.out.2.2), HP.out⟩, HUB.out.2.2⟩
  | left τ huk ho hnv hbd hx hr =>
    subst hr
    obtain rfl : ku = 1 := hku.symm.trans huk
    have HBind := Lib.hid (fun (W : World) (xa : Option Addr) (xc : Nat) (hW : Below w.heap.size w W) (hT : TysAt W (.slice xa v.kids.length xc) v.kids) => rbind_any sv d u.name v xa xc W (HD.out.below hW) (HTd.out.keep (KeepT.of_below hW)) hT (by omega) HQ.out (by omega) hpb)
    rw [hkv] at HBind
    clear huk
    by_cases hvk : kv = 1
    · have hnmB : (u.name.toList == v.name.toList) = false := by rw [bytes_beq]; exact eqB_false (hnv (hkv.trans hvk))
      subst hvk
      go_enter Tryd.func40, Tryd.ntmps40
      go_wp2_with (first
        | (go_at_call 15; refine (HA.out _ (HB2.out _ _) (by simp)).mono ?_; rintro E w2 ⟨⟨ua, uc, rfl, h2⟩, hb2⟩; obtain ⟨hA, hB, hbw⟩ := first_store hb2; obtain ⟨k0, k1, k2⟩ := three_cells hA; have q0 := Lib.frozen_of_heap hA 0; have q1 := Lib.frozen_of_heap hA 1; have q2 := Lib.frozen_of_heap hA 2; obtain ⟨m0, m1, m2⟩ := three_cells hB; have lA := (Array.getElem?_eq_some_iff.1 hA).1; have lB := (Array.getElem?_eq_some_iff.1 hB).1; have HAx := Lib.hid hA; have HBx := Lib.hid hB; have HW2 := Lib.hid hbw; have HU := Lib.hid h2; clear h2 hb2 hA hB hbw HA)
        | (go_at_call 15; refine (HBb.out _ (below_set3 HW2.out (Nat.le_refl _) (.int .i64 1) (.string u.name) (.slice ua u.kids.length uc)) (by simp [World.size_setCell]; omega)).mono ?_; rintro E w3 ⟨⟨va, vc, rfl, h3⟩, hb3⟩; have hub := ubox_of (u := u) (v := v) (ku := 1) (kv := 1) (ua := ua) (va := va) (uc := uc) (vc := vc) (set3_block HAx.out _ _ _) ((set3_others _ _ _ (by omega)).trans HBx.out) (HU.out.far fun k hk _ => set3_others _ _ _ hk) (below_set3 HW2.out (Nat.le_refl _) _ _ _) hb3 h3; have hB3 := (hb3.block (w.heap.size + 1) (by simp only [World.size_setCell]; exact lB)).trans ((set3_others (.int .i64 1) (.string u.name) (.slice ua u.kids.length uc) (by omega)).trans HBx.out); clear k0 k1 k2 q0 q1 q2 m0 m1 m2; obtain ⟨m0, m1, m2⟩ := three_cells hB3; have q0 := Lib.frozen_of_heap hB3 0; have q1 := Lib.frozen_of_heap hB3 1; have q2 := Lib.frozen_of_heap hB3 2; have lB3 := (Array.getElem?_eq_some_iff.1 hB3).1; have HUB := Lib.hid hub; obtain ⟨b0, b1, b2⟩ := three_cells hub.1.1; clear h3 hb3 hub hB3 HBb HAx HBx HU)
        | (go_at_call 67; refine (HBind.out _ va vc HUB.out.2.2 HUB.out.2.1.2).mono ?_; rintro E w4 ⟨h4, hb4⟩; obtain ⟨_, v4, q4, rfl, g1, g2, g3⟩ := h4.resolve_left (fun h => ho h.1); have G1 := Lib.hid g1; have G2 := Lib.hid g2; have G3 := Lib.hid g3; clear g1 g2 g3; have HB4 := Lib.hid (HUB.out.2.2.trans (hb4.mono HUB.out.2.2.size)); clear hb4 h4 b0 b1 b2 q0 q1 q2 m0 m1 m2))
      exact bodyPost_ret (v := .tuple #[v4, .int .i64 0]) (by simp [results, Tryd.results40, go_sem]) rfl ⟨⟨v4, q4, rfl, G1.out, G2.out, pinv_then (p := ⟨u.name, v, va, vc⟩) HP.out hbd hx G3.out⟩, HB4.out⟩
    · go_enter Tryd.func40, Tryd.ntmps40
      go_wp2_with (first
        | (go_at_call 15; refine (HA.out _ (HB2.out _ _) (by simp)).mono ?_; rintro E w2 ⟨⟨ua, uc, rfl, h2⟩, hb2⟩; obtain ⟨hA, hB, hbw⟩ := first_store hb2; obtain ⟨k0, k1, k2⟩ := three_cells hA; have q0 := Lib.frozen_of_heap hA 0; have q1 := Lib.frozen_of_heap hA 1; have q2 := Lib.frozen_of_heap hA 2; obtain ⟨m0, m1, m2⟩ := three_cells hB; have lA := (Array.getElem?_eq_some_iff.1 hA).1; have lB := (Array.getElem?_eq_some_iff.1 hB).1; have HAx := Lib.hid hA; have HBx := Lib.hid hB; have HW2 := Lib.hid hbw; have HU := Lib.hid h2; clear h2 hb2 hA hB hbw HA)
        | (go_at_call 15; refine (HBb.out _ (below_set3 HW2.out (Nat.le_refl _) (.int .i64 1) (.string u.name) (.slice ua u.kids.length uc)) (by simp [World.size_setCell]; omega)).mono ?_; rintro E w3 ⟨⟨va, vc, rfl, h3⟩, hb3⟩; have hub := ubox_of (u := u) (v := v) (ku := 1) (kv := kv) (ua := ua) (va := va) (uc := uc) (vc := vc) (set3_block HAx.out _ _ _) ((set3_others _ _ _ (by omega)).trans HBx.out) (HU.out.far fun k hk _ => set3_others _ _ _ hk) (below_set3 HW2.out (Nat.le_refl _) _ _ _) hb3 h3; have hB3 := (hb3.block (w.heap.size + 1) (by simp only [World.size_setCell]; exact lB)).trans ((set3_others (.int .i64 1) (.string u.name) (.slice ua u.kids.length uc) (by omega)).trans HBx.out); clear k0 k1 k2 q0 q1 q2 m0 m1 m2; obtain ⟨m0, m1, m2⟩ := three_cells hB3; have q0 := Lib.frozen_of_heap hB3 0; have q1 := Lib.frozen_of_heap hB3 1; have q2 := Lib.frozen_of_heap hB3 2; have lB3 := (Array.getElem?_eq_some_iff.1 hB3).1; have HUB := Lib.hid hub; obtain ⟨b0, b1, b2⟩ := three_cells hub.1.1; clear h3 hb3 hub hB3 HBb HAx HBx HU)
        | (go_at_call 67; refine (HBind.out _ va vc HUB.out.2.2 HUB.out.2.1.2).mono ?_; rintro E w4 ⟨h4, hb4⟩; obtain ⟨_, v4, q4, rfl, g1, g2, g3⟩ := h4.resolve_left (fun h => ho h.1); have G1 := Lib.hid g1; have G2 := Lib.hid g2; have G3 := Lib.hid g3; clear g1 g2 g3; have HB4 := Lib.hid (HUB.out.2.2.trans (hb4.mono HUB.out.2.2.size)); clear hb4 h4 b0 b1 b2 q0 q1 q2 m0 m1 m2))
      exact bodyPost_ret (v := .tuple #[v4, .int .i64 0]) (by simp [results, Tryd.results40, go_sem]) rfl ⟨⟨v4, q4, rfl, G1.out, G2.out, pinv_then (p := ⟨u.name, v, va, vc⟩) HP.out hbd hx G3.out⟩, HB4.out⟩
  | leftIn huk ho hvk hr =>
    subst hr
    obtain rfl : ku = 1 := hku.symm.trans huk
    rw [hkv] at hvk
    have HBind := Lib.hid (fun (W : World) (xa : Option Addr) (xc : Nat) (hW : Below w.heap.size w W) (hT : TysAt W (.slice xa v.kids.length xc) v.kids) => rbind_any sv d u.name v xa xc W (HD.out.below hW) (HTd.out.keep (KeepT.of_below hW)) hT (by omega) HQ.out (by omega) hpb)
    rw [hkv] at HBind
    clear huk
    go_enter Tryd.func40, Tryd.ntmps40
    go_wp2_with (first
      | (go_at_call 15; refine (HA.out _ (HB2.out _ _) (by simp)).mono ?_; rintro E w2 ⟨⟨ua, uc, rfl, h2⟩, hb2⟩; obtain ⟨hA, hB, hbw⟩ := first_store hb2; obtain ⟨k0, k1, k2⟩ := three_cells hA; have q0 := Lib.frozen_of_heap hA 0; have q1 := Lib.frozen_of_heap hA 1; have q2 := Lib.frozen_of_heap hA 2; obtain ⟨m0, m1, m2⟩ := three_cells hB; have lA := (Array.getElem?_eq_some_iff.1 hA).1; have lB := (Array.getElem?_eq_some_iff.1 hB).1; have HAx := Lib.hid hA; have HBx := Lib.hid hB; have HW2 := Lib.hid hbw; have HU := Lib.hid h2; clear h2 hb2 hA hB hbw HA)
      | (go_at_call 15; refine (HBb.out _ (below_set3 HW2.out (Nat.le_refl _) (.int .i64 1) (.string u.name) (.slice ua u.kids.length uc)) (by simp [World.size_setCell]; omega)).mono ?_; rintro E w3 ⟨⟨va, vc, rfl, h3⟩, hb3⟩; have hub := ubox_of (u := u) (v := v) (ku := 1) (kv := kv) (ua := ua) (va := va) (uc := uc) (vc := vc) (set3_block HAx.out _ _ _) ((set3_others _ _ _ (by omega)).trans HBx.out) (HU.out.far fun k hk _ => set3_others _ _ _ hk) (below_set3 HW2.out (Nat.le_refl _) _ _ _) hb3 h3; have hB3 := (hb3.block (w.heap.size + 1) (by simp only [World.size_setCell]; exact lB)).trans ((set3_others (.int .i64 1) (.string u.name) (.slice ua u.kids.length uc) (by omega)).trans HBx.out); clear k0 k1 k2 q0 q1 q2 m0 m1 m2; obtain ⟨m0, m1, m2⟩ := three_cells hB3; have q0 := Lib.frozen_of_heap hB3 0; have q1 := Lib.frozen_of_heap hB3 1; have q2 := Lib.frozen_of_heap hB3 2; have lB3 := (Array.getElem?_eq_some_iff.1 hB3).1; have HUB := Lib.hid hub; obtain ⟨b0, b1, b2⟩ := three_cells hub.1.1; clear h3 hb3 hub hB3 HBb HAx HBx HU)
      | (go_at_call 67; refine (HBind.out _ va vc HUB.out.2.2 HUB.out.2.1.2).mono ?_; rintro E w4 ⟨h4, hb4⟩; obtain ⟨_, rfl⟩ := h4.resolve_right (fun h => h.1 ho); have HB4 := Lib.hid (HUB.out.2.2.trans (hb4.mono HUB.out.2.2.size)); clear hb4 h4 b0 b1 b2 q0 q1 q2 m0 m1 m2))
    exact bodyPost_ret (v := .tuple #[.slice none 0 0, .int .i64 107]) (by simp [results, Tryd.results40, go_sem]) rfl ⟨rfl, HB4.out⟩
  | right τ huk hvk ho hbd hx hr =>
    subst hr
    obtain rfl : kv = 1 := hkv.symm.trans hvk
    rw [hku] at huk
    have HBind := Lib.hid (fun (W : World) (xa : Option Addr) (xc : Nat) (hW : Below w.heap.size w W) (hT : TysAt W (.slice xa u.kids.length xc) u.kids) => rbind_any sv d v.name u xa xc W (HD.out.below hW) (HTd.out.keep (KeepT.of_below hW)) hT (by omega) HQ.out (by omega) hpa)
    rw [hku] at HBind
    clear hvk
    go_enter Tryd.func40, Tryd.ntmps40
    go_wp2_with (first
      | (go_at_call 15; refine (HA.out _ (HB2.out _ _) (by simp)).mono ?_; rintro E w2 ⟨⟨ua, uc, rfl, h2⟩, hb2⟩; obtain ⟨hA, hB, hbw⟩ := first_store hb2; obtain ⟨k0, k1, k2⟩ := three_cells hA; have q0 := Lib.frozen_of_heap hA 0; have q1 := Lib.frozen_of_heap hA 1; have q2 := Lib.frozen_of_heap hA 2; obtain ⟨m0, m1, m2⟩ := three_cells hB; have lA := (Array.getElem?_eq_some_iff.1 hA).1; have lB := (Array.getElem?_eq_some_iff.1 hB).1; have HAx := Lib.hid hA; have HBx := Lib.hid hB; have HW2 := Lib.hid hbw; have HU := Lib.hid h2; clear h2 hb2 hA hB hbw HA)
      | (go_at_call 15; refine (HBb.out _ (below_set3 HW2.out (Nat.le_refl _) (.int .i64 ku) (.string u.name) (.slice ua u.kids.length uc)) (by simp [World.size_setCell]; omega)).mono ?_; rintro E w3 ⟨⟨va, vc, rfl, h3⟩, hb3⟩; have hub := ubox_of (u := u) (v := v) (ku := ku) (kv := 1) (ua := ua) (va := va) (uc := uc) (vc := vc) (set3_block HAx.out _ _ _) ((set3_others _ _ _ (by omega)).trans HBx.out) (HU.out.far fun k hk _ => set3_others _ _ _ hk) (below_set3 HW2.out (Nat.le_refl _) _ _ _) hb3 h3; have hB3 := (hb3.block (w.heap.size + 1) (by simp only [World.size_setCell]; exact lB)).trans ((set3_others (.int .i64 ku) (.string u.name) (.slice ua u.kids.length uc) (by omega)).trans HBx.out); clear k0 k1 k2 q0 q1 q2 m0 m1 m2; obtain ⟨m0, m1, m2⟩ := three_cells hB3; have q0 := Lib.frozen_of_heap hB3 0; have q1 := Lib.frozen_of_heap hB3 1; have q2 := Lib.frozen_of_heap hB3 2; have lB3 := (Array.getElem?_eq_some_iff.1 hB3).1; have HUB := Lib.hid hub; obtain ⟨b0, b1, b2⟩ := three_cells hub.1.1; clear h3 hb3 hub hB3 HBb HAx HBx HU)
      | (go_at_call 67; refine (HBind.out _ ua uc HUB.out.2.2 HUB.out.2.1.1).mono ?_; rintro E w4 ⟨h4, hb4⟩; obtain ⟨_, v4, q4, rfl, g1, g2, g3⟩ := h4.resolve_left (fun h => ho h.1); have G1 := Lib.hid g1; have G2 := Lib.hid g2; have G3 := Lib.hid g3; clear g1 g2 g3; have HB4 := Lib.hid (HUB.out.2.2.trans (hb4.mono HUB.out.2.2.size)); clear hb4 h4 b0 b1 b2 q0 q1 q2 m0 m1 m2))
    exact bodyPost_ret (v := .tuple #[v4, .int .i64 0]) (by simp [results, Tryd.results40, go_sem]) rfl ⟨⟨v4, q4, rfl, G1.out, G2.out, pinv_then (p := ⟨v.name, u, ua, uc⟩) HP.out hbd hx G3.out⟩, HB4.out⟩
  | rightIn huk hvk ho hr =>
    subst hr
    obtain rfl : kv = 1 := hkv.symm.trans hvk
    rw [hku] at huk
    have HBind := Lib.hid (fun (W : World) (xa : Option Addr) (xc : Nat) (hW : Below w.heap.size w W) (hT : TysAt W (.slice xa u.kids.length xc) u.kids) => rbind_any sv d v.name u xa xc W (HD.out.below hW) (HTd.out.keep (KeepT.of_below hW)) hT (by omega) HQ.out (by omega) hpa)
    rw [hku] at HBind
    clear hvk
    go_enter Tryd.func40, Tryd.ntmps40
    go_wp2_with (first
      | (go_at_call 15; refine (HA.out _ (HB2.out _ _) (by simp)).mono ?_; rintro E w2 ⟨⟨ua, uc, rfl, h2⟩, hb2⟩; obtain ⟨hA, hB, hbw⟩ := first_store hb2; obtain ⟨k0, k1, k2⟩ := three_cells hA; have q0 := Lib.frozen_of_heap hA 0; have q1 := Lib.frozen_of_heap hA 1; have q2 := Lib.frozen_of_heap hA 2; obtain ⟨m0, m1, m2⟩ := three_cells hB; have lA := (Array.getElem?_eq_some_iff.1 hA).1; have lB := (Array.getElem?_eq_some_iff.1 hB).1; have HAx := Lib.hid hA; have HBx := Lib.hid hB; have HW2 := Lib.hid hbw; have HU := Lib.hid h2; clear h2 hb2 hA hB hbw HA)
      | (go_at_call 15; refine (HBb.out _ (below_set3 HW2.out (Nat.le_refl _) (.int .i64 ku) (.string u.name) (.slice ua u.kids.length uc)) (by simp [World.size_setCell]; omega)).mono ?_; rintro E w3 ⟨⟨va, vc, rfl, h3⟩, hb3⟩; have hub := ubox_of (u := u) (v := v) (ku := ku) (kv := 1) (ua := ua) (va := va) (uc := uc) (vc := vc) (set3_block HAx.out _ _ _) ((set3_others _ _ _ (by omega)).trans HBx.out) (HU.out.far fun k hk _ => set3_others _ _ _ hk) (below_set3 HW2.out (Nat.le_refl _) _ _ _) hb3 h3; have hB3 := (hb3.block (w.heap.size + 1) (by simp only [World.size_setCell]; exact lB)).trans ((set3_others (.int .i64 ku) (.string u.name) (.slice ua u.kids.length uc) (by omega)).trans HBx.out); clear k0 k1 k2 q0 q1 q2 m0 m1 m2; obtain ⟨m0, m1, m2⟩ := three_cells hB3; have q0 := Lib.frozen_of_heap hB3 0; have q1 := Lib.frozen_of_heap hB3 1; have q2 := Lib.frozen_of_heap hB3 2; have lB3 := (Array.getElem?_eq_some_iff.1 hB3).1; have HUB := Lib.hid hub; obtain ⟨b0, b1, b2⟩ := three_cells hub.1.1; clear h3 hb3 hub hB3 HBb HAx HBx HU)
      | (go_at_call 67; refine (HBind.out _ ua uc HUB.out.2.2 HUB.out.2.1.1).mono ?_; rintro E w4 ⟨h4, hb4⟩; obtain ⟨_, rfl⟩ := h4.resolve_right (fun h => h.1 ho); have HB4 := Lib.hid (HUB.out.2.2.trans (hb4.mono HUB.out.2.2.size)); clear hb4 h4 b0 b1 b2 q0 q1 q2 m0 m1 m2))
    exact bodyPost_ret (v := .tuple #[.slice none 0 0, .int .i64 107]) (by simp [results, Tryd.results40, go_sem]) rfl ⟨rfl, HB4.out⟩
  | parts huk hvk hkk hnn hll hul ka kb kP =>
    rw [hku] at huk hkk
    rw [hkv] at hvk hkk
    subst hkk
    have hnmB : (u.name.toList == v.name.toList) = true := by rw [hnn]; simp
    have hllI : ((u.kids.length : Int) = (v.kids.length : Int)) := by omega
    have hkB : (ku == 1) = false := by simpa using huk
    have HKa := Lib.hid ka; have HKb := Lib.hid kb; have HKP := Lib.hid kP; have HLl := Lib.hid hll
    have HL0 := Lib.hid (show ∀ X, Below w.heap.size w X → LpI S f σ u v r 0 sv (.int .i64 0) X from fun X hX => .inl ⟨σ, d, rfl, ⟨hi, .refl σ, HP.out, hul⟩, HD.out.below hX, HTd.out.keep (KeepT.of_below hX)⟩)
    clear hnn hvk hll ka kb kP hul huk hkv hku
    go_enter Tryd.func40, Tryd.ntmps40
    go_wp2_with (first
      | (go_at_call 15; refine (HA.out _ (HB2.out _ _) (by simp)).mono ?_; rintro E w2 ⟨⟨ua, uc, rfl, h2⟩, hb2⟩; obtain ⟨hA, hB, hbw⟩ := first_store hb2; obtain ⟨k0, k1, k2⟩ := three_cells hA; have q0 := Lib.frozen_of_heap hA 0; have q1 := Lib.frozen_of_heap hA 1; have q2 := Lib.frozen_of_heap hA 2; obtain ⟨m0, m1, m2⟩ := three_cells hB; have lA := (Array.getElem?_eq_some_iff.1 hA).1; have lB := (Array.getElem?_eq_some_iff.1 hB).1; have HAx := Lib.hid hA; have HBx := Lib.hid hB; have HW2 := Lib.hid hbw; have HU := Lib.hid h2; clear h2 hb2 hA hB hbw HA)
      | (go_at_call 15; refine (HBb.out _ (below_set3 HW2.out (Nat.le_refl _) (.int .i64 ku) (.string u.name) (.slice ua u.kids.length uc)) (by simp [World.size_setCell]; omega)).mono ?_; rintro E w3 ⟨⟨va, vc, rfl, h3⟩, hb3⟩; have hub := ubox_of (u := u) (v := v) (ku := ku) (kv := ku) (ua := ua) (va := va) (uc := uc) (vc := vc) (set3_block HAx.out _ _ _) ((set3_others _ _ _ (by omega)).trans HBx.out) (HU.out.far fun k hk _ => set3_others _ _ _ hk) (below_set3 HW2.out (Nat.le_refl _) _ _ _) hb3 h3; have hB3 := (hb3.block (w.heap.size + 1) (by simp only [World.size_setCell]; exact lB)).trans ((set3_others (.int .i64 ku) (.string u.name) (.slice ua u.kids.length uc) (by omega)).trans HBx.out); clear k0 k1 k2 q0 q1 q2 m0 m1 m2; obtain ⟨m0, m1, m2⟩ := three_cells hB3; have q0 := Lib.frozen_of_heap hB3 0; have q1 := Lib.frozen_of_heap hB3 1; have q2 := Lib.frozen_of_heap hB3 2; have lB3 := (Array.getElem?_eq_some_iff.1 hB3).1; have HUB := Lib.hid hub; obtain ⟨b0, b1, b2⟩ := three_cells hub.1.1; clear h3 hb3 hub hB3 HBb HAx HBx HU))
    have hUBX := HUB.out
    have HL1 := Lib.hid (HL0.out _ HUB.out.2.2)
    clear HL0 b0 b1 b2 q0 q1 q2 m0 m1 m2 HUB lB3 lA lB
    generalize ((w3.setCell ⟨w.heap.size + 1, 0, none⟩ (.int .i64 ku)).setCell ⟨w.heap.size + 1, 1, none⟩ (.string v.name)).setCell ⟨w.heap.size + 1, 2, none⟩ (.slice va v.kids.length vc) = X0 at *
    have HUB := Lib.hid hUBX
    clear hUBX
    have hkl : u.kids.length ≤ 900000000 := by have := len_sizes' u.kids; rw [tsize_eq] at hlu; omega
    go_loopw [0, 8, 9] (fun vx vb vi wr => ∃ i : Nat, i ≤ u.kids.length ∧ vi = .int .i64 i ∧ Hid (LpI S f σ u v r i vx vb wr) ∧ Hid (UBox w u v ku ku ua va uc vc wr)) (fun _ _ vi _ => u.kids.length - (intOf vi).toNat)
    case atStart => exact ⟨0, Nat.zero_le _, rfl, HL1, HUB⟩
    case round =>
      obtain ⟨i, hi', rfl, hL, hU⟩ := hrel
      obtain ⟨a0, a1, a2⟩ := three_cells hU.out.1.1
      obtain ⟨b0, b1, b2⟩ := three_cells hU.out.1.2
      have lA := (Array.getElem?_eq_some_iff.1 hU.out.1.1).1
      have lB := (Array.getElem?_eq_some_iff.1 hU.out.1.2).1
      rcases hL.out with ⟨ρ, q, rfl, ⟨h1, h2, h3, h4⟩, h5, h6⟩ | ⟨e, rfl, rfl, hr⟩
      · by_cases hlt : i < u.kids.length
        · have hlt2 : i < v.kids.length := by have := HLl.out; omega
          have hiz : (i : Int) < (u.kids.length : Int) := by omega
          have hiz2 : (i : Int) < (v.kids.length : Int) := by omega
          obtain ⟨gu, pu, cu, rfl, hcu, hpu⟩ := hU.out.2.1.1.part i hlt
          obtain ⟨gv, pv, cv, rfl, hcv, hpv⟩ := hU.out.2.1.2.part i hlt2
          obtain ⟨⟨lu, x0, x1, x2⟩, xk⟩ := hpu wr (KeepT.refl wr)
          obtain ⟨⟨lv, y0, y1, y2⟩, yk⟩ := hpv wr (KeepT.refl wr)
          obtain ⟨r1, hr1⟩ := lp_some hlt hlt2 h4
          have ha := (HKa.out _ (List.getElem_mem hlt)).ext hi h2
          have hb := (HKb.out _ (List.getElem_mem hlt2)).ext hi h2
          have hd0 : Below wr.heap.size wr wr.drew := (Below.refl _ wr).drew
          have HC := Lib.hid (IH ρ q u.kids[i] v.kids[i] r1 u0 pu pv cu cv wr.drew hr1 h1 ha hb (HKP.out i hlt hlt2) h3 (h5.below hd0) (h6.keep (KeepT.of_below hd0)) (xk.keep (KeepT.of_below hd0)) (yk.keep (KeepT.of_below hd0)))
          have HN := Lib.hid (fun E X h => lp_next (E := E) (X := X) (σ := σ) hlt hlt2 h4 hr1 h1 h2 ha hb (HKP.out i hlt hlt2) h)
          have HD0 := Lib.hid hd0
          clear h1 h2 h3 h4 h5 h6 hr1 ha hb hpu hpv xk yk hd0 hL
          generalize u.kids[i] = ku1 at *
          generalize v.kids[i] = kv1 at *
          go_wp2
          go_region_with (go_at_call 40; refine HC.out.mono ?_; rintro E w4 ⟨h4, hb4⟩; obtain ⟨vs4, vb4, rfl, hl4⟩ := HN.out _ _ h4; have HL4 := Lib.hid hl4; have HU4 := Lib.hid (hU.out.below (HD0.out.trans hb4)); clear h4 hb4 hl4 HC HN)
          all_goals
            go_wp2
            go_roundw
            case rel => exact ⟨i + 1, by omega, by go_num, HL4, HU4⟩
            case measure => simp [intOf]; omega
        · have hiz : ¬ ((i : Int) < (u.kids.length : Int)) := by omega
          have hrr : r = .ok ρ := by
            rw [List.drop_eq_nil_of_le (show u.kids.length ≤ i by omega)] at h4
            simp only [uniL, Option.some.injEq] at h4
            exact h4.symm
          subst hrr
          have H3 := Lib.hid h3; have H5 := Lib.hid h5; have H6 := Lib.hid h6
          clear h1 h2 h3 h4 h5 h6 hL
          go_wp2
          exact bodyPost_ret (v := .tuple #[u0, .int .i64 0]) (by simp [results, Tryd.results40, go_sem]) rfl ⟨⟨u0, q, rfl, H5.out, H6.out, H3.out⟩, hU.out.2.2⟩
      · subst hr
        clear hL
        cases e with
        | true =>
          simp only [if_true]
          by_cases hlt : i < u.kids.length
          · have hiz : (i : Int) < (u.kids.length : Int) := by omega
            go_wp2
            exact bodyPost_ret (v := .tuple #[.slice none 0 0, .int .i64 107]) (by simp [results, Tryd.results40, go_sem]) rfl ⟨rfl, hU.out.2.2⟩
          · have hiz : ¬ ((i : Int) < (u.kids.length : Int)) := by omega
            go_wp2
            exact bodyPost_ret (v := .tuple #[.slice none 0 0, .int .i64 107]) (by simp [results, Tryd.results40, go_sem]) rfl ⟨rfl, hU.out.2.2⟩
        | false =>
          simp only [Bool.false_eq_true, if_false]
          by_cases hlt : i < u.kids.length
          · have hiz : (i : Int) < (u.kids.length : Int) := by omega
            go_wp2
            exact bodyPost_ret (v := .tuple #[.slice none 0 0, .int .i64 106]) (by simp [results, Tryd.results40, go_sem]) rfl ⟨rfl, hU.out.2.2⟩
          · have hiz : ¬ ((i : Int) < (u.kids.length : Int)) := by omega
            go_wp2
            exact bodyPost_ret (v := .tuple #[.slice none 0 0, .int .i64 106]) (by simp [results, Tryd.results40, go_sem]) rfl ⟨rfl, hU.out.2.2⟩
  | kinds huk hvk hkk hr =>
    subst hr
    rw [hku] at huk hkk
    rw [hkv] at hvk hkk
    go_enter Tryd.func40, Tryd.ntmps40
    go_wp2_with (first
      | (go_at_call 15; refine (HA.out _ (HB2.out _ _) (by simp)).mono ?_; rintro E w2 ⟨⟨ua, uc, rfl, h2⟩, hb2⟩; obtain ⟨hA, hB, hbw⟩ := first_store hb2; obtain ⟨k0, k1, k2⟩ := three_cells hA; have q0 := Lib.frozen_of_heap hA 0; have q1 := Lib.frozen_of_heap hA 1; have q2 := Lib.frozen_of_heap hA 2; obtain ⟨m0, m1, m2⟩ := three_cells hB; have lA := (Array.getElem?_eq_some_iff.1 hA).1; have lB := (Array.getElem?_eq_some_iff.1 hB).1; have HAx := Lib.hid hA; have HBx := Lib.hid hB; have HW2 := Lib.hid hbw; have HU := Lib.hid h2; clear h2 hb2 hA hB hbw HA)
      | (go_at_call 15; refine (HBb.out _ (below_set3 HW2.out (Nat.le_refl _) (.int .i64 ku) (.string u.name) (.slice ua u.kids.length uc)) (by simp [World.size_setCell]; omega)).mono ?_; rintro E w3 ⟨⟨va, vc, rfl, h3⟩, hb3⟩; have hub := ubox_of (u := u) (v := v) (ku := ku) (kv := kv) (ua := ua) (va := va) (uc := uc) (vc := vc) (set3_block HAx.out _ _ _) ((set3_others _ _ _ (by omega)).trans HBx.out) (HU.out.far fun k hk _ => set3_others _ _ _ hk) (below_set3 HW2.out (Nat.le_refl _) _ _ _) hb3 h3; have hB3 := (hb3.block (w.heap.size + 1) (by simp only [World.size_setCell]; exact lB)).trans ((set3_others (.int .i64 ku) (.string u.name) (.slice ua u.kids.length uc) (by omega)).trans HBx.out); clear k0 k1 k2 q0 q1 q2 m0 m1 m2; obtain ⟨m0, m1, m2⟩ := three_cells hB3; have q0 := Lib.frozen_of_heap hB3 0; have q1 := Lib.frozen_of_heap hB3 1; have q2 := Lib.frozen_of_heap hB3 2; have lB3 := (Array.getElem?_eq_some_iff.1 hB3).1; have HUB := Lib.hid hub; obtain ⟨b0, b1, b2⟩ := three_cells hub.1.1; clear h3 hb3 hub hB3 HBb HAx HBx HU))
    exact bodyPost_ret (v := .tuple #[.slice none 0 0, .int .i64 106]) (by simp [results, Tryd.results40, go_sem]) rfl ⟨rfl, HUB.out.2.2⟩
  | names huk hvk hkk hnn hr =>
    subst hr
    rw [hku] at huk hkk
    rw [hkv] at hvk hkk
    subst hkk
    have hnmB : (u.name.toList == v.name.toList) = false := by rw [bytes_beq]; exact eqB_false hnn
    clear hnn hvk
    go_enter Tryd.func40, Tryd.ntmps40
    go_wp2_with (first
      | (go_at_call 15; refine (HA.out _ (HB2.out _ _) (by simp)).mono ?_; rintro E w2 ⟨⟨ua, uc, rfl, h2⟩, hb2⟩; obtain ⟨hA, hB, hbw⟩ := first_store hb2; obtain ⟨k0, k1, k2⟩ := three_cells hA; have q0 := Lib.frozen_of_heap hA 0; have q1 := Lib.frozen_of_heap hA 1; have q2 := Lib.frozen_of_heap hA 2; obtain ⟨m0, m1, m2⟩ := three_cells hB; have lA := (Array.getElem?_eq_some_iff.1 hA).1; have lB := (Array.getElem?_eq_some_iff.1 hB).1; have HAx := Lib.hid hA; have HBx := Lib.hid hB; have HW2 := Lib.hid hbw; have HU := Lib.hid h2; clear h2 hb2 hA hB hbw HA)
      | (go_at_call 15; refine (HBb.out _ (below_set3 HW2.out (Nat.le_refl _) (.int .i64 ku) (.string u.name) (.slice ua u.kids.length uc)) (by simp [World.size_setCell]; omega)).mono ?_; rintro E w3 ⟨⟨va, vc, rfl, h3⟩, hb3⟩; have hub := ubox_of (u := u) (v := v) (ku := ku) (kv := ku) (ua := ua) (va := va) (uc := uc) (vc := vc) (set3_block HAx.out _ _ _) ((set3_others _ _ _ (by omega)).trans HBx.out) (HU.out.far fun k hk _ => set3_others _ _ _ hk) (below_set3 HW2.out (Nat.le_refl _) _ _ _) hb3 h3; have hB3 := (hb3.block (w.heap.size + 1) (by simp only [World.size_setCell]; exact lB)).trans ((set3_others (.int .i64 ku) (.string u.name) (.slice ua u.kids.length uc) (by omega)).trans HBx.out); clear k0 k1 k2 q0 q1 q2 m0 m1 m2; obtain ⟨m0, m1, m2⟩ := three_cells hB3; have q0 := Lib.frozen_of_heap hB3 0; have q1 := Lib.frozen_of_heap hB3 1; have q2 := Lib.frozen_of_heap hB3 2; have lB3 := (Array.getElem?_eq_some_iff.1 hB3).1; have HUB := Lib.hid hub; obtain ⟨b0, b1, b2⟩ := three_cells hub.1.1; clear h3 hb3 hub hB3 HBb HAx HBx HU))
    exact bodyPost_ret (v := .tuple #[.slice none 0 0, .int .i64 106]) (by simp [results, Tryd.results40, go_sem]) rfl ⟨rfl, HUB.out.2.2⟩
  | many huk hvk hkk hnn hll hr =>
    subst hr
    rw [hku] at huk hkk
    rw [hkv] at hvk hkk
    subst hkk
    have hnmB : (u.name.toList == v.name.toList) = true := by rw [hnn]; simp
    have hllI : ¬ ((u.kids.length : Int) = (v.kids.length : Int)) := by omega
    clear hnn hvk hll
    go_enter Tryd.func40, Tryd.ntmps40
    go_wp2_with (first
      | (go_at_call 15; refine (HA.out _ (HB2.out _ _) (by simp)).mono ?_; rintro E w2 ⟨⟨ua, uc, rfl, h2⟩, hb2⟩; obtain ⟨hA, hB, hbw⟩ := first_store hb2; obtain ⟨k0, k1, k2⟩ := three_cells hA; have q0 := Lib.frozen_of_heap hA 0; have q1 := Lib.frozen_of_heap hA 1; have q2 := Lib.frozen_of_heap hA 2; obtain ⟨m0, m1, m2⟩ := three_cells hB; have lA := (Array.getElem?_eq_some_iff.1 hA).1; have lB := (Array.getElem?_eq_some_iff.1 hB).1; have HAx := Lib.hid hA; have HBx := Lib.hid hB; have HW2 := Lib.hid hbw; have HU := Lib.hid h2; clear h2 hb2 hA hB hbw HA)
      | (go_at_call 15; refine (HBb.out _ (below_set3 HW2.out (Nat.le_refl _) (.int .i64 ku) (.string u.name) (.slice ua u.kids.length uc)) (by simp [World.size_setCell]; omega)).mono ?_; rintro E w3 ⟨⟨va, vc, rfl, h3⟩, hb3⟩; have hub := ubox_of (u := u) (v := v) (ku := ku) (kv := ku) (ua := ua) (va := va) (uc := uc) (vc := vc) (set3_block HAx.out _ _ _) ((set3_others _ _ _ (by omega)).trans HBx.out) (HU.out.far fun k hk _ => set3_others _ _ _ hk) (below_set3 HW2.out (Nat.le_refl _) _ _ _) hb3 h3; have hB3 := (hb3.block (w.heap.size + 1) (by simp only [World.size_setCell]; exact lB)).trans ((set3_others (.int .i64 ku) (.string u.name) (.slice ua u.kids.length uc) (by omega)).trans HBx.out); clear k0 k1 k2 q0 q1 q2 m0 m1 m2; obtain ⟨m0, m1, m2⟩ := three_cells hB3; have q0 := Lib.frozen_of_heap hB3 0; have q1 := Lib.frozen_of_heap hB3 1; have q2 := Lib.frozen_of_heap hB3 2; have lB3 := (Array.getElem?_eq_some_iff.1 hB3).1; have HUB := Lib.hid hub; obtain ⟨b0, b1, b2⟩ := three_cells hub.1.1; clear h3 hb3 hub hB3 HBb HAx HBx HU))
    exact bodyPost_ret (v := .tuple #[.slice none 0 0, .int .i64 106]) (by simp [results, Tryd.results40, go_sem]) rfl ⟨rfl, HUB.out.2.2⟩
theorem runi_ok (S : USet) (hS : S.V.length < 900) : ∀ f, RUni S f
  | 0 => fun σ d a b r sv pa pb ca cb w h => by cases h
  | f + 1 => runi_step S hS f (runi_ok S hS f)
/-- The document's unify, with what was found so far. -/
theorem runi_any {S : USet} (hS : S.V.length < 900) {σ : Sg} {d : List PR} {a b : T} {r : UR} {sv : Value} {pa pb : Option Addr} {ca cb : Nat} {w : World} (h : Uni σ a b r) (hi : UInv S σ) (ha : UArg S σ a) (hb : UArg S σ b) (hP : S.P a b) (hp : PInv S d σ) (hd : GivenG 73 sv d w) (td : Typ d w) (hta : TysAt w (.slice pa a.kids.length ca) a.kids) (htb : TysAt w (.slice pb b.kids.length cb) b.kids) :
    Calls Tryd.prog 40 #[sv, .agg #[.int .i64 a.kind, .string a.name, .slice pa a.kids.length ca], .agg #[.int .i64 b.kind, .string b.name, .slice pb b.kids.length cb]] w fun E w' => RRes S r E w' ∧ Below w.heap.size w w' := by
  obtain ⟨f, h⟩ := h
  exact runi_ok S hS f σ d a b r sv pa pb ca cb w h hi ha hb hP hp hd td hta htb
set_option maxRecDepth 100000 in
/-- The document's Unify. -/
theorem runify_any {S : USet} (hS : S.V.length < 900) {a b : T} {r : UR} {pa pb : Option Addr} {ca cb : Nat} {w : World} (h : Uni T.var a b r) (ha : S.O a) (hb : S.O b) (hP : S.P a b) (hta : TysAt w (.slice pa a.kids.length ca) a.kids) (htb : TysAt w (.slice pb b.kids.length cb) b.kids) :
    Calls Tryd.prog 11 #[.agg #[.int .i64 a.kind, .string a.name, .slice pa a.kids.length ca], .agg #[.int .i64 b.kind, .string b.name, .slice pb b.kids.length cb]] w fun E w' => RRes S r E w' ∧ Below w.heap.size w w' := by
  have HC := Lib.hid (fun (V : World) (hb2 : Below w.heap.size w V) => runi_any (sv := .slice none 0 0) (d := []) hS h (uinv_var S) (.of ha) (.of hb) hP (pinv_nil S) (.inl ⟨rfl, rfl⟩) (fun _ h => nomatch h) (hta.keep (KeepT.of_below hb2)) (htb.keep (KeepT.of_below hb2)))
  have HB := Lib.hid (fun o1 o2 => below_two w o1 o2)
  clear h ha hb hta htb hP
  go_enter Tryd.func11, Tryd.ntmps11
  go_wp2_with (go_at_call 40; refine (HC.out _ (HB.out _ _)).mono ?_)
  rintro E w2 ⟨h1, h2⟩
  have HW := Lib.hid ((HB.out _ _).trans (h2.mono (by simp; omega)))
  clear h2 HC HB
  cases r with
  | ok τ =>
    obtain ⟨v, q, rfl, g1, g2, g3⟩ := h1
    have G1 := Lib.hid g1; have G2 := Lib.hid g2; have G3 := Lib.hid g3
    clear g1 g2 g3
    go_wp2
    exact bodyPost_ret (v := .tuple #[v, .int .i64 0]) (by simp [results, Tryd.results11, go_sem]) rfl ⟨⟨v, q, rfl, G1.out, G2.out, G3.out⟩, HW.out⟩
  | bad e =>
    have h1 : E = .returned (.tuple #[.slice none 0 0, .int .i64 (if e then 107 else 106)]) := h1
    subst h1
    cases e with
    | true =>
      simp only [if_true]
      go_wp2
      exact bodyPost_ret (v := .tuple #[.slice none 0 0, .int .i64 107]) (by simp [results, Tryd.results11, go_sem]) rfl ⟨rfl, HW.out⟩
    | false =>
      simp only [Bool.false_eq_true, if_false]
      go_wp2
      exact bodyPost_ret (v := .tuple #[.slice none 0 0, .int .i64 106]) (by simp [results, Tryd.results11, go_sem]) rfl ⟨rfl, HW.out⟩
end Go.Proofs.YtdcfemojkdoakaaDoor
/- The document's UnifyAll. -/
namespace Go.Proofs.YtdcfemojkdoakaaDoor
open Go.RowKit Go.Sort Go.Lib
attribute [local go_sem] Oper.semAt_some

/-- Pair by pair. -/
inductive UniAll : Sg → List (T × T) → UR → Prop
  | nil (σ : Sg) : UniAll σ [] (.ok σ)
  | cons (σ τ : Sg) (a b : T) (l : List (T × T)) (r : UR) : Uni σ a b (.ok τ) → UniAll τ l r → UniAll σ ((a, b) :: l) r
  | bad (σ : Sg) (a b : T) (l : List (T × T)) (e : Bool) : Uni σ a b (.bad e) → UniAll σ ((a, b) :: l) (.bad e)
theorem Uni.inv {S : USet} {ρ τ : Sg} {a b : T} (h : Uni ρ a b (.ok τ)) (hi : UInv S ρ) (ha : UArg S ρ a) (hb : UArg S ρ b) (hP : S.P a b) : UInv S τ ∧ ExtU ρ τ := by
  obtain ⟨f, h⟩ := h; exact uinv_next h hi ha hb hP
/-- Pairs of types lie in a row. -/
def P2At (v : Value) (l : List (Tl × Tl)) (w : World) : Prop := ∃ a c, v = .slice a l.length c ∧ l.length ≤ c ∧ ∀ i (hi : i < l.length), ∃ g, a = some ⟨g, 0, none⟩ ∧ g < w.heap.size ∧
  ((w.cell? ⟨g, i * 6, none⟩ = some (.int .i64 l[i].1.1.kind) ∧ w.cell? ⟨g, i * 6 + 1, none⟩ = some (.string l[i].1.1.name) ∧ w.cell? ⟨g, i * 6 + 2, none⟩ = some (.slice l[i].1.2.1 l[i].1.1.kids.length l[i].1.2.2)) ∧
    (w.cell? ⟨g, i * 6 + 3, none⟩ = some (.int .i64 l[i].2.1.kind) ∧ w.cell? ⟨g, i * 6 + 3 + 1, none⟩ = some (.string l[i].2.1.name) ∧ w.cell? ⟨g, i * 6 + 3 + 2, none⟩ = some (.slice l[i].2.2.1 l[i].2.1.kids.length l[i].2.2.2))) ∧
  TysAt w (.slice l[i].1.2.1 l[i].1.1.kids.length l[i].1.2.2) l[i].1.1.kids ∧ TysAt w (.slice l[i].2.2.1 l[i].2.1.kids.length l[i].2.2.2) l[i].2.1.kids
theorem P2At.below {v : Value} {l : List (Tl × Tl)} {w W : World} (h : P2At v l w) (hb : Below w.heap.size w W) : P2At v l W := by
  obtain ⟨a, c, rfl, hc, hr⟩ := h
  refine ⟨a, c, rfl, hc, fun i hi => ?_⟩
  obtain ⟨g, e, hg, ⟨⟨x0, x1, x2⟩, y0, y1, y2⟩, k1, k2⟩ := hr i hi
  have f1 := fun o => hb.cell (p := ⟨g, o, none⟩) hg
  refine ⟨g, e, Nat.lt_of_lt_of_le hg hb.size, ⟨⟨?_, ?_, ?_⟩, ?_, ?_, ?_⟩, k1.keep (KeepT.of_below hb), k2.keep (KeepT.of_below hb)⟩ <;> rw [f1] <;> assumption
def plainP (l : List (Tl × Tl)) : List (T × T) := l.map fun x => (x.1.1, x.2.1)
/-- Where the loop over the pairs stands. -/
def LaI (S : USet) (l : List (Tl × Tl)) (r : UR) (i : Nat) (vs vb : Value) (X : World) : Prop :=
  (∃ ρ q, vb = .int .i64 0 ∧ (UInv S ρ ∧ PInv S q ρ ∧ UniAll ρ (plainP (l.drop i)) r) ∧ GivenG 73 vs q X ∧ Typ q X) ∨ (∃ e : Bool, vb = .int .i64 (if e then 107 else 106) ∧ vs = .slice none 0 0 ∧ r = .bad e)
theorem la_next {S : USet} {ρ : Sg} {l : List (Tl × Tl)} {r : UR} {i : Nat} (h1 : i < l.length) (hl : UniAll ρ (plainP (l.drop i)) r) (hi : UInv S ρ) (ha : S.O l[i].1.1) (hb : S.O l[i].2.1) (hP : S.P l[i].1.1 l[i].2.1) :
    ∃ r1, Uni ρ l[i].1.1 l[i].2.1 r1 ∧ ∀ E X, RRes S r1 E X → ∃ vs vb, E = .returned (.tuple #[vs, vb]) ∧ LaI S l r (i + 1) vs vb X := by
  rw [List.drop_eq_getElem_cons h1] at hl
  generalize e : plainP (l[i] :: l.drop (i + 1)) = k at hl
  cases hl with
  | nil => cases e
  | cons _ τ a b l' _ hu hr =>
    simp only [plainP, List.map_cons, List.cons.injEq, Prod.mk.injEq] at e
    obtain ⟨⟨rfl, rfl⟩, rfl⟩ := e
    refine ⟨_, hu, fun E X h => ?_⟩
    obtain ⟨v4, q4, rfl, g1, g2, g3⟩ := h
    exact ⟨_, _, rfl, .inl ⟨τ, q4, rfl, ⟨(hu.inv hi (.of ha) (.of hb) hP).1, g3, hr⟩, g1, g2⟩⟩
  | bad _ a b l' e' hu =>
    simp only [plainP, List.map_cons, List.cons.injEq, Prod.mk.injEq] at e
    obtain ⟨⟨rfl, rfl⟩, rfl⟩ := e
    exact ⟨_, hu, fun E X h => ⟨_, _, h, .inr ⟨e', rfl, rfl, rfl⟩⟩⟩
set_option maxRecDepth 100000 in
set_option maxHeartbeats 2000000 in
theorem rall_uni {S : USet} (hS : S.V.length < 900) (l : List (Tl × Tl)) (hl : l.length ≤ 1000) (r : UR) (v : Value) (w : World) (h : UniAll T.var (plainP l) r) (hO : ∀ x ∈ l, S.O x.1.1 ∧ S.O x.2.1 ∧ S.P x.1.1 x.2.1) (hv : P2At v l w) :
    Calls Tryd.prog 17 #[v] w fun E w' => RRes S r E w' ∧ Below w.heap.size w w' := by
  have HP := Lib.hid hv
  obtain ⟨va, vc, rfl, hcap, _⟩ := hv
  have HL0 := Lib.hid (show LaI S l r 0 (.slice none 0 0) (.int .i64 0) w from .inl ⟨T.var, [], rfl, ⟨uinv_var S, pinv_nil S, h⟩, .inl ⟨rfl, rfl⟩, fun _ h => nomatch h⟩)
  have HO := Lib.hid hO
  clear h hO
  go_enter Tryd.func17, Tryd.ntmps17
  go_wp2
  go_loopw [4, 5, 6] (fun vx vb vi wr => ∃ i : Nat, i ≤ l.length ∧ vi = .int .i64 i ∧ Hid (LaI S l r i vx vb wr) ∧ Hid (Below w.heap.size w wr)) (fun _ _ vi _ => l.length - (intOf vi).toNat)
  case atStart => exact ⟨0, Nat.zero_le _, rfl, HL0, Lib.hid (Below.refl _ _)⟩
  case round =>
    obtain ⟨i, hi', rfl, hL, hB⟩ := hrel
    rcases hL.out with ⟨ρ, q, rfl, ⟨h1, h3, h4⟩, h5, h6⟩ | ⟨e, rfl, rfl, hr⟩
    · by_cases hlt : i < l.length
      · have hiz : (i : Int) < (l.length : Int) := by omega
        obtain ⟨_, _, e9, _, hrow⟩ := HP.out.below hB.out
        cases e9
        obtain ⟨g, rfl, lg, ⟨⟨x0, x1, x2⟩, y0, y1, y2⟩, xk, yk⟩ := hrow i hlt
        obtain ⟨oa, ob, oP⟩ := HO.out _ (List.getElem_mem hlt)
        obtain ⟨r1, hr1, hn⟩ := la_next hlt h4 h1 oa ob oP
        have hd0 : Below wr.heap.size wr wr.drew := (Below.refl _ wr).drew
        have HC := Lib.hid (runi_any (w := wr.drew) hS hr1 h1 (.of oa) (.of ob) oP h3 (h5.below hd0) (h6.keep (KeepT.of_below hd0)) (xk.keep (KeepT.of_below hd0)) (yk.keep (KeepT.of_below hd0)))
        have HN := Lib.hid hn
        have HD0 := Lib.hid hd0
        clear h1 h3 h4 h5 h6 hr1 oa ob oP xk yk hd0 hL hn hrow
        generalize l[i] = q1 at *
        go_wp2
        go_region_with (go_at_call 40; refine HC.out.mono ?_; rintro E w4 ⟨h4, hb4⟩; obtain ⟨vs4, vb4, rfl, hl4⟩ := HN.out _ _ h4; have HL4 := Lib.hid hl4; have HB4 := Lib.hid (hB.out.trans ((HD0.out.trans hb4).mono hB.out.size)); clear h4 hb4 hl4 HC HN)
        all_goals
          go_wp2
          go_roundw
          case rel => exact ⟨i + 1, by omega, by go_num, HL4, HB4⟩
          case measure => simp [intOf]; omega
      · have hiz : ¬ ((i : Int) < (l.length : Int)) := by omega
        have hrr : r = .ok ρ := by
          rw [List.drop_eq_nil_of_le (show l.length ≤ i by omega)] at h4
          cases h4; rfl
        subst hrr
        have H3 := Lib.hid h3; have H5 := Lib.hid h5; have H6 := Lib.hid h6
        clear h1 h3 h4 h5 h6 hL
        go_wp2
        exact bodyPost_ret (v := .tuple #[u4, .int .i64 0]) (by simp [results, Tryd.results17, go_sem]) rfl ⟨⟨u4, q, rfl, H5.out, H6.out, H3.out⟩, hB.out⟩
    · subst hr
      clear hL
      cases e with
      | true =>
        simp only [if_true]
        by_cases hlt : i < l.length
        · have hiz : (i : Int) < (l.length : Int) := by omega
          go_wp2
          exact bodyPost_ret (v := .tuple #[.slice none 0 0, .int .i64 107]) (by simp [results, Tryd.results17, go_sem]) rfl ⟨rfl, hB.out⟩
        · have hiz : ¬ ((i : Int) < (l.length : Int)) := by omega
          go_wp2
          exact bodyPost_ret (v := .tuple #[.slice none 0 0, .int .i64 107]) (by simp [results, Tryd.results17, go_sem]) rfl ⟨rfl, hB.out⟩
      | false =>
        simp only [Bool.false_eq_true, if_false]
        by_cases hlt : i < l.length
        · have hiz : (i : Int) < (l.length : Int) := by omega
          go_wp2
          exact bodyPost_ret (v := .tuple #[.slice none 0 0, .int .i64 106]) (by simp [results, Tryd.results17, go_sem]) rfl ⟨rfl, hB.out⟩
        · have hiz : ¬ ((i : Int) < (l.length : Int)) := by omega
          go_wp2
          exact bodyPost_ret (v := .tuple #[.slice none 0 0, .int .i64 106]) (by simp [results, Tryd.results17, go_sem]) rfl ⟨rfl, hB.out⟩
end Go.Proofs.YtdcfemojkdoakaaDoor
/- An error without a place, seen av plain data: paideiasee.Is. -/
namespace Go.Proofs.YtdcfemojkdoakaaDoor
open Go.RowKit
attribute [local go_sem] Oper.semAt_some

def errP (a : Addr) : Value := .iface 206 (.pointer (some a))
/-- Where api's errors lie, in order. -/
def errGs : List Nat := [2, 3, 4, 5, 6, 1, 0, 7, 8, 9, 10, 11, 12, 13, 14]
def noA : Addr := ⟨0, 0, none⟩
/-- Api's errors, each its own. -/
def Errs (av : Nat → Addr) (w : World) : Prop := (∀ i, i < 15 → w.cell? ⟨errGs.getD i 0, 0, none⟩ = some (errP (av i)) ∧ ∃ c t, w.heap[(av i).block]? = some (.cells c t (0, 0))) ∧ ∀ i j, i < 15 → j < 15 → av i = av j → i = j
theorem Errs.below {av : Nat → Addr} {w W : World} (h : Errs av w) (hb : Below w.heap.size w W) : Errs av W := by
  refine ⟨fun i hi => ?_, h.2⟩
  obtain ⟨h1, c, t, h2⟩ := h.1 i hi
  exact ⟨(hb.cell (p := ⟨errGs.getD i 0, 0, none⟩) (World.block_lt_of_cell? _ _ h1)).trans h1, c, t, (hb.block _ (Array.getElem?_eq_some_iff.1 h2).1).trans h2⟩
set_option maxRecDepth 100000 in
set_option maxHeartbeats 1000000 in
theorem sentinels_all (av : Nat → Addr) (w : World) (h : Errs av w) :
    Calls Tryd.prog 115 #[] w fun e w' => e = .returned (.slice (some ⟨w.heap.size, 0, none⟩) 15 15) ∧ Below w.heap.size w w' ∧ (∀ i, i < 15 → w'.cell? ⟨w.heap.size, i, none⟩ = some (errP (av i))) ∧ w.heap.size < w'.heap.size := by
  obtain ⟨h0, _⟩ := h.1 0 (by decide)
  obtain ⟨h1, _⟩ := h.1 1 (by decide)
  obtain ⟨h2, _⟩ := h.1 2 (by decide)
  obtain ⟨h3, _⟩ := h.1 3 (by decide)
  obtain ⟨h4, _⟩ := h.1 4 (by decide)
  obtain ⟨h5, _⟩ := h.1 5 (by decide)
  obtain ⟨h6, _⟩ := h.1 6 (by decide)
  obtain ⟨h7, _⟩ := h.1 7 (by decide)
  obtain ⟨h8, _⟩ := h.1 8 (by decide)
  obtain ⟨h9, _⟩ := h.1 9 (by decide)
  obtain ⟨h10, _⟩ := h.1 10 (by decide)
  obtain ⟨h11, _⟩ := h.1 11 (by decide)
  obtain ⟨h12, _⟩ := h.1 12 (by decide)
  obtain ⟨h13, _⟩ := h.1 13 (by decide)
  obtain ⟨h14, _⟩ := h.1 14 (by decide)
  clear h
  simp only [errGs, List.getD_cons_zero, List.getD_cons_succ, errP] at h0 h1 h2 h3 h4 h5 h6 h7 h8 h9 h10 h11 h12 h13 h14
  go_enter Tryd.func115, Tryd.ntmps115
  go_wp2
  go_ret
  refine ⟨rfl, (Below.refl _ _).alloc (Nat.le_refl _) _, ?_, by simp⟩
  intro i hi
  have hn : ∀ o : Obj, (w.alloc o).heap[w.heap.size]? = some o := fun o => by show (w.heap.push o)[_]? = _; simp
  simp only [World.cell?, hn]
  match i, hi with
  | 0, _ => rfl
  | 1, _ => rfl
  | 2, _ => rfl
  | 3, _ => rfl
  | 4, _ => rfl
  | 5, _ => rfl
  | 6, _ => rfl
  | 7, _ => rfl
  | 8, _ => rfl
  | 9, _ => rfl
  | 10, _ => rfl
  | 11, _ => rfl
  | 12, _ => rfl
  | 13, _ => rfl
  | 14, _ => rfl
  | n + 15, hi => omega

theorem Tryd.compErr : (Tryd.prog.info? 206).map (·.comparable) = some true := by kernel_rfl
theorem Tryd.sizeErr : (Tryd.prog.info? 222).map (·.size) = some 1 := by kernel_rfl

set_option maxRecDepth 100000 in
set_option maxHeartbeats 1000000 in
theorem alike_eq (a : Addr) (w : World) : Calls Tryd.prog 116 #[errP a, errP a] w fun e w' => e = .returned (.bool true) ∧ w = w' := by
  obtain ⟨i, hi, hcmp⟩ := Option.map_eq_some_iff.1 Tryd.compErr
  obtain ⟨j, hj, _⟩ := Option.map_eq_some_iff.1 Tryd.sizeErr
  unfold errP
  go_enter Tryd.func116, Tryd.ntmps116
  go_wp2
  rw [run_eql_iface_ptr_same w a Tryd.underlying35 Tryd.underlying206 hi hcmp hj]
  go_wp2
  go_ret
  exact ⟨rfl, rfl⟩
set_option maxRecDepth 100000 in
set_option maxHeartbeats 1000000 in
theorem alike_ne (a b : Addr) (w : World) (hab : a ≠ b) (ha : ∃ c t, w.heap[a.block]? = some (.cells c t (0, 0))) (hb : ∃ c t, w.heap[b.block]? = some (.cells c t (0, 0))) :
    Calls Tryd.prog 116 #[errP a, errP b] w fun e w' => e = .returned (.bool false) ∧ w = w' := by
  obtain ⟨i, hi, hcmp⟩ := Option.map_eq_some_iff.1 Tryd.compErr
  obtain ⟨j, hj, hsz⟩ := Option.map_eq_some_iff.1 Tryd.sizeErr
  obtain ⟨ca, ta, ha⟩ := ha
  obtain ⟨cb, tb, hb⟩ := hb
  have HA := Lib.hid ha; have HB := Lib.hid hb
  clear ha hb
  unfold errP
  go_enter Tryd.func116, Tryd.ntmps116
  go_wp2
  rw [run_eql_iface_ptr_other w Tryd.underlying35 Tryd.underlying206 hi hcmp hj (by rw [hsz]; decide) hab HA.out HB.out]
  go_wp2
  go_ret
  exact ⟨rfl, rfl⟩
set_option maxRecDepth 100000 in
set_option maxHeartbeats 2000000 in
theorem sentinel_at (av : Nat → Addr) (k : Nat) (hk : k < 15) (w : World) (h : Errs av w) :
    Calls Tryd.prog 93 #[errP (av k)] w fun e w' => e = .returned (.int .i64 (101 + (k : Int))) ∧ Below w.heap.size w w' := by
  have HS := Lib.hid (sentinels_all av w h)
  have HE := Lib.hid h
  clear h
  go_enter Tryd.func93, Tryd.ntmps93
  go_wp2_with (go_at_call 115; refine HS.out.mono ?_; rintro e w1 ⟨rfl, hb1, hc1, hz1⟩; have HB1 := Lib.hid hb1; have HC1 := Lib.hid hc1; clear hb1 hc1 HS)
  go_loopw [4] (fun vi wr => ∃ i : Nat, i ≤ k ∧ vi = .int .i64 i ∧ wr = w1) (fun vi _ => k + 1 - (intOf vi).toNat)
  case atStart => exact ⟨0, Nat.zero_le _, rfl, rfl⟩
  case round =>
    obtain ⟨i, hik, rfl, rfl⟩ := hrel
    have hi15 : (i : Int) < 15 := by omega
    have c0 := HC1.out i (by omega)
    have HE1 := Lib.hid (HE.out.below HB1.out)
    by_cases he : i = k
    · subst he
      have HK := Lib.hid (alike_eq (av i) wr)
      go_wp2_with (go_at_call 116; refine HK.out.mono ?_; rintro e w' ⟨rfl, rfl⟩)
      go_ret
      exact ⟨rfl, HB1.out⟩
    · have HK := Lib.hid (alike_ne (av k) (av i) wr (fun e => he (HE.out.2 i k (by omega) hk e.symm)) (HE1.out.1 k hk).2 (HE1.out.1 i (by omega)).2)
      go_wp2_with (go_at_call 116; refine HK.out.mono ?_; rintro e w' ⟨rfl, rfl⟩)
      go_roundw
      case rel => exact ⟨i + 1, by omega, by go_num, by first | trivial | rfl⟩
      case measure => simp [intOf]; omega
def faultV (code : Int) (placed : Bool) (pos : Int) : Value := .agg #[.int .i64 code, .bool placed, .int .i64 pos]
set_option maxRecDepth 100000 in
set_option maxHeartbeats 1000000 in
theorem bare_any (c : Int) (w : World) : Calls Tryd.prog 42 #[.int .i64 c] w fun e w' => e = .returned (faultV c false 0) ∧ Below w.heap.size w w' := by
  go_enter Tryd.func42, Tryd.ntmps42
  go_wp2
  exact bodyPost_ret (v := faultV c false 0) (by simp [results, Tryd.results42, go_sem, faultV]) rfl ⟨rfl, (Below.refl _ _).alloc (Nat.le_refl _) _⟩
theorem none_any (w : World) : Calls Tryd.prog 92 #[] w fun e w' => e = .returned (faultV 0 false 0) ∧ Below w.heap.size w w' := by
  go_enter Tryd.func92, Tryd.ntmps92
  go_wp2
  exact bodyPost_ret (v := faultV 0 false 0) (by simp [results, Tryd.results92, go_sem, faultV]) rfl ⟨rfl, (Below.refl _ _).alloc (Nat.le_refl _) _⟩
set_option maxHeartbeats 1000000 in
theorem sameFault_ok (c p : Int) (b : Bool) (w : World) :
    Calls Tryd.prog 68 #[faultV c b p, faultV c b p] w fun e w' => e = .returned (.bool true) ∧ Below w.heap.size w w' := by
  unfold faultV
  go_enter Tryd.func68, Tryd.ntmps68
  go_wp2
  go_ret
  exact ⟨rfl, ((Below.refl _ _).alloc (Nat.le_refl _) _).alloc (by simp) _⟩
theorem faultBox {w W : World} {o : Obj} (hb : Below (w.alloc o).heap.size (w.alloc o) W) : W.heap[w.heap.size]? = some o := (hb.block _ (by simp)).trans (by show (w.heap.push _)[_]? = _; simp)
set_option maxRecDepth 100000 in
set_option maxHeartbeats 1000000 in
theorem fault_none (w : World) : Calls Tryd.prog 69 #[.nilIface] w fun e w' => e = .returned (faultV 0 false 0) ∧ Below w.heap.size w w' := by
  have HN := Lib.hid (fun W => none_any W)
  have HZ := Lib.hid ((Below.refl w.heap.size w).alloc (Nat.le_refl _) (Obj.cells #[Value.int IntKind.i64 0, Value.bool false, Value.int IntKind.i64 0] 86))
  unfold faultV at HN ⊢
  go_enter Tryd.func69, Tryd.ntmps69
  go_wp2_with (go_at_call 92; refine (HN.out _).mono ?_)
  rintro e w2 ⟨rfl, hb2⟩
  have hr := faultBox hb2
  have g0 : w2.cell? ⟨w.heap.size, 0, none⟩ = some (.int .i64 0) := by simp [World.cell?, hr]
  have g1 : w2.cell? ⟨w.heap.size, 1, none⟩ = some (.bool false) := by simp [World.cell?, hr]
  have g2 : w2.cell? ⟨w.heap.size, 2, none⟩ = some (.int .i64 0) := by simp [World.cell?, hr]
  have k0 : w2.frozen? ⟨w.heap.size, 0, none⟩ = false := by simp [World.frozen?, hr]
  have k1 : w2.frozen? ⟨w.heap.size, 1, none⟩ = false := by simp [World.frozen?, hr]
  have k2 : w2.frozen? ⟨w.heap.size, 2, none⟩ = false := by simp [World.frozen?, hr]
  have HB := Lib.hid (HZ.out.trans (hb2.mono (by simp)))
  clear hb2 hr HN
  go_wp2
  exact bodyPost_ret (v := .agg #[.int .i64 0, .bool false, .int .i64 0]) (by simp [results, Tryd.results69, go_sem, g0, g1, g2]) rfl ⟨rfl, ((HB.out.setCell (p := ⟨w.heap.size, 0, none⟩) (Nat.le_refl _) _).setCell (p := ⟨w.heap.size, 1, none⟩) (Nat.le_refl _) _).setCell (p := ⟨w.heap.size, 2, none⟩) (Nat.le_refl _) _⟩
theorem assert_not (a : Addr) (w : World) : (Instr.typeAssert (.iface 206 (.pointer (some a))) 35 149 true).run Tryd.prog w = .ok (.tuple #[.pointer none, .bool false]) w := by kernel_rfl
set_option maxRecDepth 100000 in
set_option maxHeartbeats 1000000 in
theorem fault_bare (av : Nat → Addr) (k : Nat) (hk : k < 15) (w : World) (h : Errs av w) : Calls Tryd.prog 69 #[errP (av k)] w fun e w' => e = .returned (faultV (101 + (k : Int)) false 0) ∧ Below w.heap.size w w' := by
  have hta := assert_not (av k)
  have HZ := Lib.hid ((Below.refl w.heap.size w).alloc (Nat.le_refl _) (Obj.cells #[Value.int IntKind.i64 0, Value.bool false, Value.int IntKind.i64 0] 86))
  have HS := Lib.hid (fun (W : World) (hb : Below w.heap.size w W) => sentinel_at av k hk W (h.below hb))
  have HN := Lib.hid (fun W => bare_any (101 + (k : Int)) W)
  clear h
  unfold faultV at HN ⊢
  unfold errP at hta HS ⊢
  go_enter Tryd.func69, Tryd.ntmps69
  go_wp2_with (first
    | (go_at_call 93; refine (HS.out _ HZ.out).mono ?_; rintro e w1 ⟨rfl, hb1⟩; have HB1 := Lib.hid hb1; clear hb1)
    | (go_at_call 42; refine (HN.out _).mono ?_; rintro e w2 ⟨rfl, hb2⟩; have hb12 := HB1.out.trans (hb2.mono HB1.out.size); have hr := faultBox hb12; have g0 : w2.cell? ⟨w.heap.size, 0, none⟩ = some (.int .i64 0) := (by simp [World.cell?, hr]); have g1 : w2.cell? ⟨w.heap.size, 1, none⟩ = some (.bool false) := (by simp [World.cell?, hr]); have g2 : w2.cell? ⟨w.heap.size, 2, none⟩ = some (.int .i64 0) := (by simp [World.cell?, hr]); have k0 : w2.frozen? ⟨w.heap.size, 0, none⟩ = false := (by simp [World.frozen?, hr]); have k1 : w2.frozen? ⟨w.heap.size, 1, none⟩ = false := (by simp [World.frozen?, hr]); have k2 : w2.frozen? ⟨w.heap.size, 2, none⟩ = false := (by simp [World.frozen?, hr]); have HB := Lib.hid (HZ.out.trans (hb12.mono (by simp))); clear hb2 hb12 hr HN))
  exact bodyPost_ret (v := .agg #[.int .i64 (101 + (k : Int)), .bool false, .int .i64 0]) (by simp [results, Tryd.results69, go_sem, g0, g1, g2]) rfl ⟨rfl, ((HB.out.setCell (p := ⟨w.heap.size, 0, none⟩) (Nat.le_refl _) _).setCell (p := ⟨w.heap.size, 1, none⟩) (Nat.le_refl _) _).setCell (p := ⟨w.heap.size, 2, none⟩) (Nat.le_refl _) _⟩
/-- What unification tells: no error, or one of api's without a place. -/
def EvAt (av : Nat → Addr) (c : Int) (v : Value) : Prop := (c = 0 ∧ v = .nilIface) ∨ ∃ k : Nat, k < 15 ∧ c = 101 + (k : Int) ∧ v = errP (av k)
theorem fault_ev {av : Nat → Addr} {c : Int} {v : Value} (hv : EvAt av c v) (w : World) (h : Errs av w) : Calls Tryd.prog 69 #[v] w fun e w' => e = .returned (faultV c false 0) ∧ Below w.heap.size w w' := by
  rcases hv with ⟨rfl, rfl⟩ | ⟨k, hk, rfl, rfl⟩
  · exact fault_none w
  · exact fault_bare av k hk w h
set_option maxRecDepth 100000 in
set_option maxHeartbeats 2000000 in
theorem same_ev {av : Nat → Addr} {c : Int} {v : Value} (hv : EvAt av c v) (w : World) (h : Errs av w) : Calls Tryd.prog 41 #[v, faultV c false 0] w fun e w' => e = .returned (.bool true) ∧ Below w.heap.size w w' := by
  have HF := Lib.hid (fun (W : World) (hb : Below w.heap.size w W) => fault_ev hv W (h.below hb))
  have HS := Lib.hid (fun W => sameFault_ok c 0 false W)
  have HZ := Lib.hid ((Below.refl w.heap.size w).alloc (Nat.le_refl _) (Obj.cells #[Value.int IntKind.i64 c, Value.bool false, Value.int IntKind.i64 0] 86))
  clear h hv
  unfold faultV at HF HS ⊢
  go_enter Tryd.func41, Tryd.ntmps41
  go_wp2_with fail
  obtain ⟨W, hW⟩ : ∃ W, w.alloc (Obj.cells #[Value.int IntKind.i64 c, Value.bool false, Value.int IntKind.i64 0] 86) = W := ⟨_, rfl⟩
  have hWs : W.heap.size = w.heap.size + 1 := by rw [← hW]; simp
  have c0 : W.cell? ⟨w.heap.size, 0, none⟩ = some (.int .i64 c) := by rw [← hW]; simp
  have c1 : W.cell? ⟨w.heap.size, 1, none⟩ = some (.bool false) := by rw [← hW]; simp
  have c2 : W.cell? ⟨w.heap.size, 2, none⟩ = some (.int .i64 0) := by rw [← hW]; simp
  rw [hW] at HZ
  rw [hW]
  clear hW
  go_region_with (first
    | (go_at_call 69; refine (HF.out _ HZ.out.drew).mono ?_; rintro e w1 ⟨rfl, hb1⟩
       have d0 : w1.cell? ⟨w.heap.size, 0, none⟩ = some (.int .i64 c) := (hb1.cell (p := ⟨w.heap.size, 0, none⟩) (by show w.heap.size < W.heap.size; omega)).trans c0
       have d1 : w1.cell? ⟨w.heap.size, 1, none⟩ = some (.bool false) := (hb1.cell (p := ⟨w.heap.size, 1, none⟩) (by show w.heap.size < W.heap.size; omega)).trans c1
       have d2 : w1.cell? ⟨w.heap.size, 2, none⟩ = some (.int .i64 0) := (hb1.cell (p := ⟨w.heap.size, 2, none⟩) (by show w.heap.size < W.heap.size; omega)).trans c2
       have HB1 := Lib.hid (HZ.out.drew.trans (hb1.mono (by show w.heap.size ≤ W.heap.size; omega))); have hs1 := hb1.size; clear hb1)
    | (go_at_call 68; refine (HS.out _).mono ?_; rintro e w2 ⟨rfl, hb2⟩))
  all_goals go_wp2
  all_goals go_ret
  all_goals exact ⟨rfl, HB1.out.trans (hb2.mono HB1.out.size)⟩
set_option maxRecDepth 100000 in
set_option maxHeartbeats 1000000 in
theorem is_ev {av : Nat → Addr} {c : Int} {v : Value} (hv : EvAt av c v) (w : World) (h : Errs av w) : Calls Tryd.prog 12 #[v, .int .i64 c] w fun e w' => e = .returned (.bool true) ∧ Below w.heap.size w w' := by
  have HS := Lib.hid (fun (W : World) (hb : Below w.heap.size w W) => same_ev hv W (h.below hb))
  have HN := Lib.hid (fun W => bare_any c W)
  clear h hv
  unfold faultV at HS HN
  go_enter Tryd.func12, Tryd.ntmps12
  go_wp2_with (first
    | (go_at_call 42; refine (HN.out _).mono ?_; rintro e w1 ⟨rfl, hb1⟩; have HB1 := Lib.hid hb1; clear hb1)
    | (go_at_call 41; refine (HS.out _ HB1.out).mono ?_; rintro e w2 ⟨rfl, hb2⟩; have HB2 := Lib.hid (HB1.out.trans (hb2.mono HB1.out.size)); clear hb2))
  go_ret
  exact ⟨rfl, HB2.out⟩
end Go.Proofs.YtdcfemojkdoakaaDoor
/- The types that are made of numbers: good ones, of a bounded text. -/
namespace Go.Proofs.YtdcfemojkdoakaaDoor
open Go.RowKit
attribute [local go_sem] Oper.semAt_some
attribute [local go_sem ↓] Go.wp_at_zero Go.wp_at_succ

/-- What a maker of a type hands back. -/
def MadeN (B p : Nat) (a : Option Addr) (n c k m D : Nat) (w : World) (e : Ending) (w' : World) : Prop :=
  (∃ t u, e = .returned (tyV t u) ∧ (T.Good t ∧ Fits t ∧ (T.text t).length + 10 ≤ D) ∧ TyIn (fun k => w.heap.size ≤ k) w' t u) ∧ (∃ k', k' + 1 ≤ k + m ∧ SeqAt B p a n c k' w') ∧ MkFr B p w w'
/-- The end: the type is stored in the result's own block. -/
theorem made_fn {B p : Nat} {a : Option Addr} {n c k k' m D : Nat} {w W : World} {O : Obj} {t : T} {u x y z : Value} (hs : SeqAt B p a n c k' W) (hk : k' + 1 ≤ k + m) (hfr : MkFr B p (w.alloc O) W) (hp : p < w.heap.size)
    (_ : W.heap[w.heap.size]? = some (.cells #[.int .i64 0, .string ⟨#[]⟩, .slice none 0 0] 29 (0, 0))) (ht : TyIn (fun k => w.heap.size < k) W t u) (hg : T.Good t ∧ Fits t ∧ (T.text t).length + 10 ≤ D) :
    MadeN B p a n c k m D w (.returned (tyV t u)) (((W.setCell ⟨w.heap.size, 0, none⟩ x).setCell ⟨w.heap.size, 1, none⟩ y).setCell ⟨w.heap.size, 2, none⟩ z) := by
  have hk3 : ∀ i, i ≠ w.heap.size → (((W.setCell ⟨w.heap.size, 0, none⟩ x).setCell ⟨w.heap.size, 1, none⟩ y).setCell ⟨w.heap.size, 2, none⟩ z).heap[i]? = W.heap[i]? := fun i hi =>
    (Below.heap_setCell _ ⟨w.heap.size, 2, none⟩ _ i hi).trans ((Below.heap_setCell _ ⟨w.heap.size, 1, none⟩ _ i hi).trans (Below.heap_setCell _ ⟨w.heap.size, 0, none⟩ _ i hi))
  have hB := hs.1.1
  have hbel : Below B W (((W.setCell ⟨w.heap.size, 0, none⟩ x).setCell ⟨w.heap.size, 1, none⟩ y).setCell ⟨w.heap.size, 2, none⟩ z) :=
    (((Below.refl B W).setCell (p := ⟨w.heap.size, 0, none⟩) (by show B ≤ w.heap.size; omega) _).setCell (p := ⟨w.heap.size, 1, none⟩) (by show B ≤ w.heap.size; omega) _).setCell (p := ⟨w.heap.size, 2, none⟩) (by show B ≤ w.heap.size; omega) _
  refine ⟨⟨t, u, rfl, hg, (ht.keep fun k _ _ hk hh => (hk3 k (Nat.ne_of_gt hk)).trans hh).mono fun k hk => Nat.le_of_lt hk⟩, ⟨k', hk, ⟨hB, (hk3 p (by omega)).trans hs.1.2⟩, hs.2.keep hbel⟩, ?_, ?_⟩
  · exact (((Below.refl B w).alloc (by omega) O).trans hfr.1).trans hbel
  · intro i o hi hip
    have hlt := (Array.getElem?_eq_some_iff.1 hi).1
    exact (hk3 i (by omega)).trans (hfr.2 i o ((Below.heap_alloc w O i hlt).trans hi) hip)

theorem in_one {ok : Nat → Prop} {W : World} {t : T} {v : Value} (n : ByteArray) (hok : ok W.heap.size) (h : TyIn ok W t v) : TyIn ok (W.alloc (.cells #[.int .i64 t.kind, .string t.name, v] 29)) (.con n [t]) (.slice (some ⟨W.heap.size, 0, none⟩) 1 1) := by
  refine .row (.con n [t]) W.heap.size 1 #[.int .i64 t.kind, .string t.name, v] (0, 0) (fun _ => v) hok (alloc_new W _) (Nat.le_refl _) (fun i hi => ?_) (fun i hi => ?_)
  · obtain rfl : i = 0 := by simp [T.kids] at hi; exact hi
    exact ⟨rfl, rfl, rfl⟩
  · obtain rfl : i = 0 := by simp [T.kids] at hi; exact hi
    exact h.keep fun k _ _ _ hh => (Below.heap_alloc W _ k (Array.getElem?_eq_some_iff.1 hh).1).trans hh
theorem in_pair {ok : Nat → Prop} {W : World} {t t' c : T} {v v' : Value} {g : Nat} (hg : g = W.heap.size) (hc : c.kids = [t, t']) (hok : ok W.heap.size) (h : TyIn ok W t v) (h' : TyIn ok W t' v') : TyIn ok (W.alloc (.cells #[.int .i64 t.kind, .string t.name, v, .int .i64 t'.kind, .string t'.name, v'] 29)) c (.slice (some ⟨g, 0, none⟩) 2 2) := by
  subst hg
  have hl : c.kids.length = 2 := by rw [hc]; rfl
  have hkeep : ∀ (o : Obj) {t : T} {v : Value}, TyIn ok W t v → TyIn ok (W.alloc o) t v := fun o t v h => h.keep fun k _ _ _ hh => (Below.heap_alloc W _ k (Array.getElem?_eq_some_iff.1 hh).1).trans hh
  rw [show (Value.slice (some ⟨W.heap.size, 0, none⟩) 2 2) = .slice (some ⟨W.heap.size, 0, none⟩) c.kids.length 2 by rw [hl]]
  refine .row c W.heap.size 2 #[.int .i64 t.kind, .string t.name, v, .int .i64 t'.kind, .string t'.name, v'] (0, 0) (fun i => if i = 0 then v else v') hok (alloc_new W _) (by rw [hl]; exact Nat.le_refl _) (fun i hi => ?_) (fun i hi => ?_)
  · have hi2 : i < 2 := by omega
    have e : c.kids[i] = [t, t'][i] := by simp [hc]
    rw [e]
    match i, hi2 with
    | 0, _ => exact ⟨rfl, rfl, rfl⟩
    | 1, _ => exact ⟨rfl, rfl, rfl⟩
    | n + 2, h => omega
  · have hi2 : i < 2 := by omega
    have e : c.kids[i] = [t, t'][i] := by simp [hc]
    rw [e]
    match i, hi2 with
    | 0, _ => exact hkeep _ h
    | 1, _ => exact hkeep _ h'
    | n + 2, h => omega
set_option maxHeartbeats 1000000 in
theorem con_in {ok : Nat → Prop} (n : ByteArray) (a : Option Addr) (l : List T) (k c : Nat) (w : World) (h : TyIn ok w (.con n l) (.slice a k c)) :
    Calls Tryd.prog 38 #[.string n, .slice a k c] w fun e w' => (∃ u, e = .returned (tyV (.con n l) u) ∧ TyIn ok w' (.con n l) u) ∧ Below w.heap.size w w' := by
  have H := Lib.hid h; clear h
  go_enter Tryd.func38, Tryd.ntmps38
  go_wp2
  refine bodyPost_ret (v := tyV (.con n l) (.slice a k c)) (by simp [results, Tryd.results38, go_sem, tyV, T.kind, T.name]) rfl ⟨⟨_, rfl, H.out.keep fun k _ _ _ hh => (Below.heap_alloc w _ k (Array.getElem?_eq_some_iff.1 hh).1).trans hh⟩, (Below.refl _ w).alloc (Nat.le_refl _) _⟩
set_option maxHeartbeats 1000000 in
theorem fun2_in {ok : Nat → Prop} (x y : T) (a b : Option Addr) (c d : Nat) (w : World) (hok : ∀ k, w.heap.size ≤ k → ok k) (hx : TyIn ok w x (.slice a x.kids.length c)) (hy : TyIn ok w y (.slice b y.kids.length d)) :
    Calls Tryd.prog 39 #[tyV x (.slice a x.kids.length c), tyV y (.slice b y.kids.length d)] w fun e w' => (∃ u, e = .returned (tyV (.fn x y) u) ∧ TyIn ok w' (.fn x y) u) ∧ Below w.heap.size w w' := by
  have HX := Lib.hid hx; have HY := Lib.hid hy; have HK := Lib.hid hok
  clear hx hy hok
  simp only [tyV]
  go_enter Tryd.func39, Tryd.ntmps39
  go_wp2
  have k3 : ∀ (o1 o2 o3 : Obj) {t : T} {v : Value}, TyIn ok w t v → TyIn ok (((w.alloc o1).alloc o2).alloc o3) t v := fun o1 o2 o3 t v h => h.keep (fun k cs fz _ hh => (((keepT_alloc w o1).trans (keepT_alloc _ o2)).trans (keepT_alloc _ o3)) k cs fz hh)
  refine bodyPost_ret (v := .agg #[.int .i64 3, .string ⟨#[]⟩, .slice (some ⟨w.heap.size + 1 + 1 + 1, 0, none⟩) 2 2]) (by simp [results, Tryd.results39, go_sem]) rfl ⟨⟨_, rfl, ?_⟩, ?_⟩
  · exact in_pair (by simp) rfl (HK.out _ (by simp; omega)) (k3 _ _ _ HX.out) (k3 _ _ _ HY.out)
  · exact ((((Below.refl _ w).alloc (Nat.le_refl _) _).alloc (by simp) _).alloc (by simp; omega) _).alloc (by simp; omega) _

set_option maxHeartbeats 4000000 in
theorem make_n0 (B p : Nat) (a : Option Addr) (n c k : Nat) (w : World) (h : SeqAt B p a n c k w) (hk : k < 1152921504606846976) (hn : n < 1152921504606846976) :
    Calls Tryd.prog 9 #[.pointer (some ⟨p, 0, none⟩), .int .i64 0] w (MadeN B p a n c k 2 14 w) := by
  have hp := h.lt
  have HN := Lib.hid (fun o => next_any B p a n c k 9 (w.alloc o) (h.below ((Below.refl _ w).alloc (Nat.le_refl _) o)) (by decide) (by decide) hk hn)
  have HNe := Lib.hid (show w.heap.size ≠ p by omega)
  clear h
  go_enter Tryd.func9, Tryd.ntmps9
  go_wp2_with (go_at_call 37; refine (HN.out _).mono ?_)
  rintro e W1 ⟨⟨r, hr, rfl⟩, h1, h2⟩
  have hz := h2.2 _ _ (alloc_new w _) HNe.out
  obtain ⟨c0, c1, c2⟩ := three_cells hz
  have f0 := Lib.frozen_of_heap hz 0
  have f1 := Lib.frozen_of_heap hz 1
  have f2 := Lib.frozen_of_heap hz 2
  have HZ := Lib.hid hz; have H1 := Lib.hid h1; have H2 := Lib.hid h2
  have hzl := (Array.getElem?_eq_some_iff.1 hz).1
  clear hz h1 h2
  obtain ⟨z, hz⟩ : ∃ z : Int, (r : Int) = z := ⟨_, rfl⟩
  rw [hz]
  have h9 : z = 0 ∨ z = 1 ∨ z = 2 ∨ z = 3 ∨ z = 4 ∨ z = 5 ∨ z = 6 ∨ z = 7 ∨ z = 8 := by omega
  clear hz hr
  rcases h9 with rfl | rfl | rfl | rfl | rfl | rfl | rfl | rfl | rfl
  · go_wp2_with (go_at_call 30; refine (var_any _ _).mono ?_)
    rintro e W2 ⟨⟨u, rfl, hu⟩, hb⟩
    have HBT := Lib.hid (((Below.refl _ W1).alloc (Nat.le_refl _) _).trans (hb.mono (by simp)))
    clear hb
    obtain ⟨a2, n2, rfl⟩ := hu.shape
    have hz2 : W2.heap[w.heap.size]? = some (.cells #[.int .i64 0, .string ⟨#[]⟩, .slice none 0 0] 29 (0, 0)) := (HBT.out.block _ hzl).trans HZ.out
    obtain ⟨d0, d1, d2⟩ := three_cells hz2
    have g0 := Lib.frozen_of_heap hz2 0
    have g1 := Lib.frozen_of_heap hz2 1
    have g2 := Lib.frozen_of_heap hz2 2
    have HZ2 := Lib.hid hz2; have HU := Lib.hid hu
    clear hz2 hu c0 c1 c2 f0 f1 f2
    simp only [tyV, T.kind, T.name, List.length_nil]
    go_wp2
    exact bodyPost_ret (v := .agg #[.int .i64 1, .string ⟨#[97]⟩, .slice a2 0 n2]) (by have hc := set3_cells HZ2.out (.int .i64 1) (.string ⟨#[97]⟩) (.slice a2 0 n2); simp [results, Tryd.results9, go_sem, hc.1, hc.2.1, hc.2.2]) rfl (made_fn (t := .var ⟨#[97]⟩) (H1.out.below HBT.out) (by omega) (H2.out.trans (MkFr.of_below HBT.out (Nat.le_trans H1.out.1.1 (Nat.le_of_lt H1.out.lt)))) hp HZ2.out (.leaf _ _ _ rfl) (good_var (by decide) (by decide) (by decide)))
  · go_wp2_with (go_at_call 30; refine (var_any _ _).mono ?_)
    rintro e W2 ⟨⟨u, rfl, hu⟩, hb⟩
    have HBT := Lib.hid (((Below.refl _ W1).alloc (Nat.le_refl _) _).trans (hb.mono (by simp)))
    clear hb
    obtain ⟨a2, n2, rfl⟩ := hu.shape
    have hz2 : W2.heap[w.heap.size]? = some (.cells #[.int .i64 0, .string ⟨#[]⟩, .slice none 0 0] 29 (0, 0)) := (HBT.out.block _ hzl).trans HZ.out
    obtain ⟨d0, d1, d2⟩ := three_cells hz2
    have g0 := Lib.frozen_of_heap hz2 0
    have g1 := Lib.frozen_of_heap hz2 1
    have g2 := Lib.frozen_of_heap hz2 2
    have HZ2 := Lib.hid hz2; have HU := Lib.hid hu
    clear hz2 hu c0 c1 c2 f0 f1 f2
    simp only [tyV, T.kind, T.name, List.length_nil]
    go_wp2
    exact bodyPost_ret (v := .agg #[.int .i64 1, .string ⟨#[98]⟩, .slice a2 0 n2]) (by have hc := set3_cells HZ2.out (.int .i64 1) (.string ⟨#[98]⟩) (.slice a2 0 n2); simp [results, Tryd.results9, go_sem, hc.1, hc.2.1, hc.2.2]) rfl (made_fn (t := .var ⟨#[98]⟩) (H1.out.below HBT.out) (by omega) (H2.out.trans (MkFr.of_below HBT.out (Nat.le_trans H1.out.1.1 (Nat.le_of_lt H1.out.lt)))) hp HZ2.out (.leaf _ _ _ rfl) (good_var (by decide) (by decide) (by decide)))
  · go_wp2_with (go_at_call 30; refine (var_any _ _).mono ?_)
    rintro e W2 ⟨⟨u, rfl, hu⟩, hb⟩
    have HBT := Lib.hid (((Below.refl _ W1).alloc (Nat.le_refl _) _).trans (hb.mono (by simp)))
    clear hb
    obtain ⟨a2, n2, rfl⟩ := hu.shape
    have hz2 : W2.heap[w.heap.size]? = some (.cells #[.int .i64 0, .string ⟨#[]⟩, .slice none 0 0] 29 (0, 0)) := (HBT.out.block _ hzl).trans HZ.out
    obtain ⟨d0, d1, d2⟩ := three_cells hz2
    have g0 := Lib.frozen_of_heap hz2 0
    have g1 := Lib.frozen_of_heap hz2 1
    have g2 := Lib.frozen_of_heap hz2 2
    have HZ2 := Lib.hid hz2; have HU := Lib.hid hu
    clear hz2 hu c0 c1 c2 f0 f1 f2
    simp only [tyV, T.kind, T.name, List.length_nil]
    go_wp2
    exact bodyPost_ret (v := .agg #[.int .i64 1, .string ⟨#[99]⟩, .slice a2 0 n2]) (by have hc := set3_cells HZ2.out (.int .i64 1) (.string ⟨#[99]⟩) (.slice a2 0 n2); simp [results, Tryd.results9, go_sem, hc.1, hc.2.1, hc.2.2]) rfl (made_fn (t := .var ⟨#[99]⟩) (H1.out.below HBT.out) (by omega) (H2.out.trans (MkFr.of_below HBT.out (Nat.le_trans H1.out.1.1 (Nat.le_of_lt H1.out.lt)))) hp HZ2.out (.leaf _ _ _ rfl) (good_var (by decide) (by decide) (by decide)))
  · go_wp2_with (go_at_call 38; refine (con_any _ none [] 0 0 _ (TysAt.nil _ _ _)).mono ?_)
    rintro e W2 ⟨⟨u, rfl, hu⟩, hb⟩
    have HBT := Lib.hid hb
    clear hb
    obtain ⟨a2, n2, rfl⟩ := hu.shape
    have hz2 : W2.heap[w.heap.size]? = some (.cells #[.int .i64 0, .string ⟨#[]⟩, .slice none 0 0] 29 (0, 0)) := (HBT.out.block _ hzl).trans HZ.out
    obtain ⟨d0, d1, d2⟩ := three_cells hz2
    have g0 := Lib.frozen_of_heap hz2 0
    have g1 := Lib.frozen_of_heap hz2 1
    have g2 := Lib.frozen_of_heap hz2 2
    have HZ2 := Lib.hid hz2; have HU := Lib.hid hu
    clear hz2 hu c0 c1 c2 f0 f1 f2
    simp only [tyV, T.kind, T.name, List.length_nil]
    go_wp2
    exact bodyPost_ret (v := .agg #[.int .i64 2, .string ⟨#[73, 110, 116]⟩, .slice a2 0 n2]) (by have hc := set3_cells HZ2.out (.int .i64 2) (.string ⟨#[73, 110, 116]⟩) (.slice a2 0 n2); simp [results, Tryd.results9, go_sem, hc.1, hc.2.1, hc.2.2]) rfl (made_fn (t := .con ⟨#[73, 110, 116]⟩ []) (H1.out.below HBT.out) (by omega) (H2.out.trans (MkFr.of_below HBT.out (Nat.le_trans H1.out.1.1 (Nat.le_of_lt H1.out.lt)))) hp HZ2.out (.leaf _ _ _ rfl) (good_con0 (by decide) (by decide) (by decide)))
  · go_wp2_with (go_at_call 38; refine (con_any _ none [] 0 0 _ (TysAt.nil _ _ _)).mono ?_)
    rintro e W2 ⟨⟨u, rfl, hu⟩, hb⟩
    have HBT := Lib.hid hb
    clear hb
    obtain ⟨a2, n2, rfl⟩ := hu.shape
    have hz2 : W2.heap[w.heap.size]? = some (.cells #[.int .i64 0, .string ⟨#[]⟩, .slice none 0 0] 29 (0, 0)) := (HBT.out.block _ hzl).trans HZ.out
    obtain ⟨d0, d1, d2⟩ := three_cells hz2
    have g0 := Lib.frozen_of_heap hz2 0
    have g1 := Lib.frozen_of_heap hz2 1
    have g2 := Lib.frozen_of_heap hz2 2
    have HZ2 := Lib.hid hz2; have HU := Lib.hid hu
    clear hz2 hu c0 c1 c2 f0 f1 f2
    simp only [tyV, T.kind, T.name, List.length_nil]
    go_wp2
    exact bodyPost_ret (v := .agg #[.int .i64 2, .string ⟨#[66, 111, 111, 108]⟩, .slice a2 0 n2]) (by have hc := set3_cells HZ2.out (.int .i64 2) (.string ⟨#[66, 111, 111, 108]⟩) (.slice a2 0 n2); simp [results, Tryd.results9, go_sem, hc.1, hc.2.1, hc.2.2]) rfl (made_fn (t := .con ⟨#[66, 111, 111, 108]⟩ []) (H1.out.below HBT.out) (by omega) (H2.out.trans (MkFr.of_below HBT.out (Nat.le_trans H1.out.1.1 (Nat.le_of_lt H1.out.lt)))) hp HZ2.out (.leaf _ _ _ rfl) (good_con0 (by decide) (by decide) (by decide)))
  · go_wp2_with (go_at_call 30; refine (var_any _ _).mono ?_)
    rintro e W2 ⟨⟨u, rfl, hu⟩, hb⟩
    have HBT := Lib.hid (((Below.refl _ W1).alloc (Nat.le_refl _) _).trans (hb.mono (by simp)))
    clear hb
    obtain ⟨a2, n2, rfl⟩ := hu.shape
    have hz2 : W2.heap[w.heap.size]? = some (.cells #[.int .i64 0, .string ⟨#[]⟩, .slice none 0 0] 29 (0, 0)) := (HBT.out.block _ hzl).trans HZ.out
    obtain ⟨d0, d1, d2⟩ := three_cells hz2
    have g0 := Lib.frozen_of_heap hz2 0
    have g1 := Lib.frozen_of_heap hz2 1
    have g2 := Lib.frozen_of_heap hz2 2
    have HZ2 := Lib.hid hz2; have HU := Lib.hid hu
    clear hz2 hu c0 c1 c2 f0 f1 f2
    simp only [tyV, T.kind, T.name, List.length_nil]
    go_wp2
    exact bodyPost_ret (v := .agg #[.int .i64 1, .string ⟨#[97]⟩, .slice a2 0 n2]) (by have hc := set3_cells HZ2.out (.int .i64 1) (.string ⟨#[97]⟩) (.slice a2 0 n2); simp [results, Tryd.results9, go_sem, hc.1, hc.2.1, hc.2.2]) rfl (made_fn (t := .var ⟨#[97]⟩) (H1.out.below HBT.out) (by omega) (H2.out.trans (MkFr.of_below HBT.out (Nat.le_trans H1.out.1.1 (Nat.le_of_lt H1.out.lt)))) hp HZ2.out (.leaf _ _ _ rfl) (good_var (by decide) (by decide) (by decide)))
  · go_wp2_with (go_at_call 30; refine (var_any _ _).mono ?_)
    rintro e W2 ⟨⟨u, rfl, hu⟩, hb⟩
    have HBT := Lib.hid (((Below.refl _ W1).alloc (Nat.le_refl _) _).trans (hb.mono (by simp)))
    clear hb
    obtain ⟨a2, n2, rfl⟩ := hu.shape
    have hz2 : W2.heap[w.heap.size]? = some (.cells #[.int .i64 0, .string ⟨#[]⟩, .slice none 0 0] 29 (0, 0)) := (HBT.out.block _ hzl).trans HZ.out
    obtain ⟨d0, d1, d2⟩ := three_cells hz2
    have g0 := Lib.frozen_of_heap hz2 0
    have g1 := Lib.frozen_of_heap hz2 1
    have g2 := Lib.frozen_of_heap hz2 2
    have HZ2 := Lib.hid hz2; have HU := Lib.hid hu
    clear hz2 hu c0 c1 c2 f0 f1 f2
    simp only [tyV, T.kind, T.name, List.length_nil]
    go_wp2
    exact bodyPost_ret (v := .agg #[.int .i64 1, .string ⟨#[98]⟩, .slice a2 0 n2]) (by have hc := set3_cells HZ2.out (.int .i64 1) (.string ⟨#[98]⟩) (.slice a2 0 n2); simp [results, Tryd.results9, go_sem, hc.1, hc.2.1, hc.2.2]) rfl (made_fn (t := .var ⟨#[98]⟩) (H1.out.below HBT.out) (by omega) (H2.out.trans (MkFr.of_below HBT.out (Nat.le_trans H1.out.1.1 (Nat.le_of_lt H1.out.lt)))) hp HZ2.out (.leaf _ _ _ rfl) (good_var (by decide) (by decide) (by decide)))
  · go_wp2_with (go_at_call 30; refine (var_any _ _).mono ?_)
    rintro e W2 ⟨⟨u, rfl, hu⟩, hb⟩
    have HBT := Lib.hid (((Below.refl _ W1).alloc (Nat.le_refl _) _).trans (hb.mono (by simp)))
    clear hb
    obtain ⟨a2, n2, rfl⟩ := hu.shape
    have hz2 : W2.heap[w.heap.size]? = some (.cells #[.int .i64 0, .string ⟨#[]⟩, .slice none 0 0] 29 (0, 0)) := (HBT.out.block _ hzl).trans HZ.out
    obtain ⟨d0, d1, d2⟩ := three_cells hz2
    have g0 := Lib.frozen_of_heap hz2 0
    have g1 := Lib.frozen_of_heap hz2 1
    have g2 := Lib.frozen_of_heap hz2 2
    have HZ2 := Lib.hid hz2; have HU := Lib.hid hu
    clear hz2 hu c0 c1 c2 f0 f1 f2
    simp only [tyV, T.kind, T.name, List.length_nil]
    go_wp2
    exact bodyPost_ret (v := .agg #[.int .i64 1, .string ⟨#[99]⟩, .slice a2 0 n2]) (by have hc := set3_cells HZ2.out (.int .i64 1) (.string ⟨#[99]⟩) (.slice a2 0 n2); simp [results, Tryd.results9, go_sem, hc.1, hc.2.1, hc.2.2]) rfl (made_fn (t := .var ⟨#[99]⟩) (H1.out.below HBT.out) (by omega) (H2.out.trans (MkFr.of_below HBT.out (Nat.le_trans H1.out.1.1 (Nat.le_of_lt H1.out.lt)))) hp HZ2.out (.leaf _ _ _ rfl) (good_var (by decide) (by decide) (by decide)))
  · go_wp2_with (go_at_call 38; refine (con_any _ none [] 0 0 _ (TysAt.nil _ _ _)).mono ?_)
    rintro e W2 ⟨⟨u, rfl, hu⟩, hb⟩
    have HBT := Lib.hid hb
    clear hb
    obtain ⟨a2, n2, rfl⟩ := hu.shape
    have hz2 : W2.heap[w.heap.size]? = some (.cells #[.int .i64 0, .string ⟨#[]⟩, .slice none 0 0] 29 (0, 0)) := (HBT.out.block _ hzl).trans HZ.out
    obtain ⟨d0, d1, d2⟩ := three_cells hz2
    have g0 := Lib.frozen_of_heap hz2 0
    have g1 := Lib.frozen_of_heap hz2 1
    have g2 := Lib.frozen_of_heap hz2 2
    have HZ2 := Lib.hid hz2; have HU := Lib.hid hu
    clear hz2 hu c0 c1 c2 f0 f1 f2
    simp only [tyV, T.kind, T.name, List.length_nil]
    go_wp2
    exact bodyPost_ret (v := .agg #[.int .i64 2, .string ⟨#[73, 110, 116]⟩, .slice a2 0 n2]) (by have hc := set3_cells HZ2.out (.int .i64 2) (.string ⟨#[73, 110, 116]⟩) (.slice a2 0 n2); simp [results, Tryd.results9, go_sem, hc.1, hc.2.1, hc.2.2]) rfl (made_fn (t := .con ⟨#[73, 110, 116]⟩ []) (H1.out.below HBT.out) (by omega) (H2.out.trans (MkFr.of_below HBT.out (Nat.le_trans H1.out.1.1 (Nat.le_of_lt H1.out.lt)))) hp HZ2.out (.leaf _ _ _ rfl) (good_con0 (by decide) (by decide) (by decide)))

end Go.Proofs.YtdcfemojkdoakaaDoor
