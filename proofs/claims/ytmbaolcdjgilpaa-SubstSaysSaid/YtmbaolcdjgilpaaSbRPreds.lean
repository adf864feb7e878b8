/- The document's Preds. -/
import Derived.Test.YtmbaolcdjgilpaaSbPreds
import Derived.Test.YtmbaolcdjgilpaaSbRApp2
import Derived.Deep.RegionLaw
namespace Go.Proofs.Ytmbaolcdjgilpaa
open Go.RowKit Go.Sort Go.Lib
attribute [local go_sem] Oper.semAt_some

theorem prs_of_own {W : World} {B : Nat} {v : Value} {ls : List PR} (h : W.ownsRow B 66 4 v ls.length (cellsP ls)) (ht : Typ ls W) : PrsAt W v (ls.map prOf) := by
  by_cases h0 : ls = []
  · subst h0
    obtain ⟨a, c, e⟩ := row_val h
    exact .inl ⟨rfl, a, c, e⟩
  · have hc : ∃ g cap, v = .slice (some ⟨g, 0, none⟩) ls.length cap ∧ ls.length ≤ cap := by
      rcases h.2 with ⟨_, h1⟩ | ⟨g, cap, cur, e, _, _, hc, _⟩
      · exact absurd (List.length_eq_zero_iff.1 h1) h0
      · exact ⟨g, cap, e, hc⟩
    obtain ⟨g, cap, rfl, hcap⟩ := hc
    rcases given_of_row h (fun e => absurd e h0) with ⟨e, _⟩ | ⟨_, g', cap', e, hr⟩
    · exact absurd e h0
    · cases e
      exact prs_of_rowG hr ht hcap

theorem own_below {W W' : World} {base : Nat} {e : TypeId} {size : Nat} {v : Value} {n : Nat} {xs : List Value} (h : W.ownsRow base e size v n xs) (hb : Below W.heap.size W W') : W'.ownsRow base e size v n xs :=
  row_kept h fun k _ _ hk => (hb.block k (Array.getElem?_eq_some_iff.1 hk).1).trans hk
set_option maxHeartbeats 4000000 in
theorem rpreds_any (u v : Value) (d : List PR) (l : List Pr) (w : World) (hl : d.length < 1000000) (hd : GivenG 47 u d w) (ht : Typ d w) (h : PrsAt w v l) (hq : ∀ q ∈ l, tsize q.2 ≤ 1000000) (hn : l.length ≤ 1000000) :
    Calls Try.prog 20 #[u, v] w fun e w' => (∃ a c, e = .returned (.slice a l.length c) ∧ PrsAt w' (.slice a l.length c) (appP d l)) ∧ Below w.heap.size w w' := by
  obtain ⟨av, cv, rfl⟩ := h.shape
  obtain ⟨i0, hi, hz0, hz1, hz2⟩ := info_parts Try.infoPred
  have HD := Lib.hid hd; have HT := Lib.hid ht
  obtain ⟨ua, uc, rfl, _⟩ := hd.shape
  have HRow := Lib.hid (fun (i : Nat) (hi : i < l.length) => (by obtain ⟨g, cap, e, hg, hc, hr⟩ := h.row (by rintro rfl; cases hi); exact ⟨g, cap, e, hg, hc, hr i hi⟩ : ∃ g cap, Value.slice av l.length cv = .slice (some ⟨g, 0, none⟩) l.length cap ∧ g < w.heap.size ∧ l.length ≤ cap ∧ ∃ a c, w.cell? ⟨g, i * 4, none⟩ = some (.string l[i].1) ∧ w.cell? ⟨g, i * 4 + 1, none⟩ = some (.int .i64 l[i].2.kind) ∧ w.cell? ⟨g, i * 4 + 2, none⟩ = some (.string l[i].2.name) ∧ w.cell? ⟨g, i * 4 + 3, none⟩ = some (.slice a l[i].2.kids.length c) ∧ TysAt w (.slice a l[i].2.kids.length c) l[i].2.kids))
  have HQ := Lib.hid hq
  clear hd ht h hq
  go_enter Try.func20, Try.ntmps20
  go_wp2
  go_loopw [5, 6] (fun vo vi wr => ∃ (i : Nat) (ls : List PR), i ≤ l.length ∧ vi = .int .i64 i ∧ Hid ((ls.length = i ∧ ls.map prOf = appP d (l.take i)) ∧ wr.ownsRow w.heap.size 66 4 vo ls.length (cellsP ls) ∧ Typ ls wr ∧ Below w.heap.size w wr)) (fun _ vi _ => l.length - (intOf vi).toNat)
  case atStart => exact ⟨0, [], Nat.zero_le _, rfl, Lib.hid ⟨⟨rfl, rfl⟩, World.ownsRow_nil _ _ _ _, (fun _ h => nomatch h), Below.refl _ _⟩⟩
  case round =>
    obtain ⟨i, ls, hi', rfl, hF⟩ := hrel
    by_cases hlt : i < l.length
    · obtain ⟨⟨hll, hmap⟩, hRow, hTy, hB⟩ := hF.out
      obtain ⟨oa, oc, rfl⟩ := row_val hRow
      obtain ⟨g, cap, e1, hg, hcap, pa, pc, x0, x1, x2, x3, xk⟩ := HRow.out i hlt
      cases e1
      have f1 := fun o => hB.cell (p := ⟨g, o, none⟩) hg
      rw [← f1] at x0 x1 x2 x3
      have hgw : g < wr.heap.size := Nat.lt_of_lt_of_le hg hB.size
      have hqs := HQ.out l[i] (List.getElem_mem hlt)
      have HA := Lib.hid (fun (V : World) (hb : Below w.heap.size w V) => rapp_ret (d := d) (t := l[i].2) (v := .slice ua d.length uc) (a := pa) (c := pc) (w := V) hl (HD.out.below hb) (HT.out.keep (KeepT.of_below hb)) (xk.keep (KeepT.of_below hb)) hqs)
      have HM := Lib.hid (show appP d (l.take (i + 1)) = appP d (l.take i) ++ [(l[i].1, app d l[i].2)] by unfold appP; rw [List.take_succ_eq_append_getElem hlt, List.map_append]; rfl)
      have hlsn : ls.length ≤ 1000000 := by omega
      have HLen := Lib.hid hll; have HMap := Lib.hid hmap; have HRw := Lib.hid hRow; have HTy := Lib.hid hTy; have HB := Lib.hid hB
      clear f1 xk hqs hF hll hmap hRow hTy hB HRow
      generalize l[i] = q at x0 x1 x2 x3 HA HM
      obtain ⟨cn, t⟩ := q
      simp only at x0 x1 x2 x3 HA HM
      have hiz : (i : Int) < (l.length : Int) := by omega
      go_wp2
      go_region_law (first
        | (refine run_bare rfl ?_; go_simp; go_at_call 13; refine (HA.out wr.drew HB.out.drew).mono ?_; rintro e w4 ⟨⟨a4, c4, rfl, hin⟩, hb4⟩; have HI4 := Lib.hid hin; have HB4 : Hid (Below wr.heap.size wr w4) := Lib.hid ((Below.refl _ wr).drew.trans hb4); have x04 := (HB4.out.cell (p := ⟨g, i * 4, none⟩) hgw).trans x0; have HR4 := Lib.hid (own_below HRw.out HB4.out); clear hin hb4)
        | (refine step_append_lies _ (by rfl) _ _ 36 (by rfl) w.heap.size 66 i0 (.agg #[.string ⟨#[]⟩, .int .i64 0, .string ⟨#[]⟩, .slice none 0 0]) 4 64 Try.underlying36 hi hz0 hz1 hz2 rfl (by decide) _ _ _ (by rfl) (HR4.out.alloc _) ⟨w4.heap.size, 0, none⟩ 1 1 [.string cn, .int .i64 (app d t).kind, .string (app d t).name, .slice a4 (app d t).kids.length c4] (by rfl) rfl (cell_new4 _ _ _ _ _ _) (by simp [Value.oneCell']) (by decide) (by unfold maxLen; omega) (by omega) (by have := HB.out.size; have := HB4.out.size; simp; omega) _ rfl ?_; intro g5 cap5 w5 ho5 hg5 hat5 hlt5))
      all_goals
        have hs4 := HB4.out.size
        have hsw := HB.out.size
        have hk : KeepT wr w5 := (KeepT.of_below HB4.out).trans ((keepT_alloc w4 _).trans (KeepT.grown hg5 (HR4.out.alloc _) (by decide)))
        have hk4 : KeepT w4 w5 := (keepT_alloc w4 _).trans (KeepT.grown hg5 (HR4.out.alloc _) (by decide))
        have hb5 : Below w.heap.size w w5 := ((HB.out.trans (HB4.out.mono hsw)).alloc (by omega) _).grown hg5 (by simp; omega) (fun j hj => (HRw.out.lt j hj).1)
        have HK := Lib.hid hk; have HK4 := Lib.hid hk4; have HB5 := Lib.hid hb5; have HO5 := Lib.hid ho5
        clear hk hk4 hb5 ho5 hg5 hat5 hlt5
        go_wp2
        go_roundw
        case rel =>
          refine ⟨i + 1, ls ++ [⟨cn, app d t, a4, c4⟩], by omega, by go_num, Lib.hid ⟨⟨by simp [HLen.out], ?_⟩, ?_, ?_, HB5.out⟩⟩
          · rw [List.map_append, HMap.out, HM.out]; rfl
          · rw [cellsP_snoc, List.length_append]; exact HO5.out
          · intro y hy
            rcases List.mem_append.1 hy with hy | hy
            · exact (HTy.out y hy).keep HK.out
            · obtain rfl := List.mem_singleton.1 hy
              exact HI4.out.keep HK4.out
        case measure => simp [intOf]; omega
    · obtain rfl : i = l.length := by omega
      have hp := prs_of_own hF.out.2.1 hF.out.2.2.1
      obtain ⟨oa, oc, rfl⟩ := row_val hF.out.2.1
      rw [hF.out.1.1, hF.out.1.2, List.take_length] at hp
      have hl2 := hF.out.1.1
      have HPp := Lib.hid hp; have HBz := Lib.hid hF.out.2.2.2
      rw [hl2]
      clear hp HRow hF hl2
      go_wp2
      go_ret
      exact ⟨⟨_, _, rfl, HPp.out⟩, HBz.out⟩
end Go.Proofs.Ytmbaolcdjgilpaa
