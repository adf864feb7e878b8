/- (Subst).Preds. -/
import Derived.Test.YtmbaolcdjgilpaaSbMkPr
import Derived.Test.YtmbaolcdjgilpaaSbRGet
import Derived.Test.YtmbaolcdjgilpaaSbThenB
namespace Go.Proofs.Ytmbaolcdjgilpaa
open Go.RowKit Go.Sort Go.Lib
attribute [local go_sem] Oper.semAt_some

theorem make_rowP (n : Nat) (hn : n ≤ 1000000000) (w : World) :
    (Instr.makeSlice 36 (.int .i64 (n : Int)) (.int .i64 (n : Int))).run Try.prog w = .ok (.slice (some ⟨w.heap.size, 0, none⟩) n n) (w.alloc (.cells (zeros4 n) 66)) := by
  obtain ⟨i, hi, hzz⟩ := Option.map_eq_some_iff.1 Try.infoPred
  simp only [Prod.mk.injEq] at hzz
  obtain ⟨hz, hs, hb⟩ := hzz
  have hr := run_make (P := Try.prog) w 36 66 i _ Try.underlying36 hi hz .i64 .i64 n n (by omega) (Int.le_refl _) (by rw [hb]; omega) (by omega)
  simp only [Int.toNat_natCast, hs] at hr
  exact hr

/-- A row of k places, of which the first hold the pairs l. -/
def RowKP (g k : Nat) (l : List PR) (w : World) : Prop :=
  ∃ cs, w.heap[g]? = some (.cells cs 66 (0, 0)) ∧ cs.size = k * 4 ∧ l.length ≤ k ∧ ∀ i, i < l.length →
    cs[i * 4]? = some (.string (l.getD i noP).n) ∧ cs[i * 4 + 1]? = some (.int .i64 (l.getD i noP).t.kind) ∧ cs[i * 4 + 2]? = some (.string (l.getD i noP).t.name) ∧ cs[i * 4 + 3]? = some (.slice (l.getD i noP).a (l.getD i noP).t.kids.length (l.getD i noP).c)
theorem RowKP.row {g k : Nat} {l : List PR} {w : World} (h : RowKP g k l w) : RowG 66 g l w := by
  obtain ⟨cs, h1, h2, h3, h4⟩ := h; exact ⟨cs, h1, by omega, h4⟩
theorem RowKP.same {g k : Nat} {l : List PR} {w w' : World} (h : RowKP g k l w) (e : w'.heap[g]? = w.heap[g]?) : RowKP g k l w' := by
  obtain ⟨cs, h1, h2⟩ := h; exact ⟨cs, e.trans h1, h2⟩
theorem RowKP.lt {g k : Nat} {l : List PR} {w : World} (h : RowKP g k l w) : g < w.heap.size := h.row.lt
theorem RowKP.below {g k : Nat} {l : List PR} {w w' : World} (h : RowKP g k l w) (hb : Below w.heap.size w w') : RowKP g k l w' := h.same (hb.block g h.lt)
theorem RowKP.cells {g k : Nat} {l : List PR} {w : World} (h : RowKP g k l w) {i : Nat} (hi : i < k) : ∃ x y z u, w.cell? ⟨g, i * 4, none⟩ = some x ∧ w.cell? ⟨g, i * 4 + 1, none⟩ = some y ∧ w.cell? ⟨g, i * 4 + 2, none⟩ = some z ∧ w.cell? ⟨g, i * 4 + 3, none⟩ = some u := by
  obtain ⟨cs, h1, h2, _⟩ := h
  refine ⟨cs[i * 4]'(by omega), cs[i * 4 + 1]'(by omega), cs[i * 4 + 2]'(by omega), cs[i * 4 + 3]'(by omega), ?_, ?_, ?_, ?_⟩ <;> (rw [Lib.cell_of_heap h1]; simp)
theorem RowKP.push {g k : Nat} {l : List PR} {w : World} (h : RowKP g k l w) (hk : l.length < k) (x : PR) : RowKP g k (l ++ [x]) (set4 w g l.length x) := by
  obtain ⟨cs, h1, h2, h3, h4⟩ := h
  refine ⟨(((cs.setIfInBounds (l.length * 4) (.string x.n)).setIfInBounds (l.length * 4 + 1) (.int .i64 x.t.kind)).setIfInBounds (l.length * 4 + 2) (.string x.t.name)).setIfInBounds (l.length * 4 + 3) (.slice x.a x.t.kids.length x.c), blk_set (blk_set (blk_set (blk_set h1 _) _) _) _, by simpa using h2, by simp; omega, fun j hj => ?_⟩
  by_cases e : j = l.length
  · subst e
    have e2 : (l ++ [x]).getD l.length noP = x := by simp [List.getD]
    rw [e2]
    refine ⟨?_, ?_, ?_, ?_⟩ <;> (simp [Array.getElem?_setIfInBounds]; omega)
  · have hj' : j < l.length := by simp at hj; omega
    have e2 : (l ++ [x]).getD j noP = l.getD j noP := by simp [List.getD, List.getElem?_append_left hj']
    rw [e2]
    obtain ⟨a1, a2, a3, a4⟩ := h4 j hj'
    refine ⟨?_, ?_, ?_, ?_⟩
    · rw [Array.getElem?_setIfInBounds_ne (by omega), Array.getElem?_setIfInBounds_ne (by omega), Array.getElem?_setIfInBounds_ne (by omega), Array.getElem?_setIfInBounds_ne (by omega)]; exact a1
    · rw [Array.getElem?_setIfInBounds_ne (by omega), Array.getElem?_setIfInBounds_ne (by omega), Array.getElem?_setIfInBounds_ne (by omega), Array.getElem?_setIfInBounds_ne (by omega)]; exact a2
    · rw [Array.getElem?_setIfInBounds_ne (by omega), Array.getElem?_setIfInBounds_ne (by omega), Array.getElem?_setIfInBounds_ne (by omega), Array.getElem?_setIfInBounds_ne (by omega)]; exact a3
    · rw [Array.getElem?_setIfInBounds_ne (by omega), Array.getElem?_setIfInBounds_ne (by omega), Array.getElem?_setIfInBounds_ne (by omega), Array.getElem?_setIfInBounds_ne (by omega)]; exact a4
theorem RowKP.start (g k : Nat) (w : World) (h : w.heap[g]? = some (.cells (zeros4 k) 66 (0, 0))) : RowKP g k [] w :=
  ⟨_, h, by simp [zeros4, size_madeCells], Nat.zero_le _, fun _ hi => absurd hi (Nat.not_lt_zero _)⟩


def prOf (x : PR) : Pr := (x.n, x.t)
theorem prs_of_rowG {g cap : Nat} {l : List PR} {w : World} (h : RowG 66 g l w) (ht : Typ l w) (hc : l.length ≤ cap) : PrsAt w (.slice (some ⟨g, 0, none⟩) l.length cap) (l.map prOf) := by
  obtain ⟨cs, h1, h2, h3⟩ := h
  refine .inr ⟨g, cap, cs, (0, 0), fun i => .slice (l.getD i noP).a (l.getD i noP).t.kids.length (l.getD i noP).c, by simp, h1, by simpa using hc, fun i hi => ?_⟩
  have hi' : i < l.length := by simpa using hi
  have e : (l.map prOf)[i] = prOf (l.getD i noP) := by simp [List.getD, hi']
  rw [e]
  exact ⟨h3 i hi', ht _ (getD_mem hi')⟩
/-- Each one with types in variables' places. -/
noncomputable def appP (d : List PR) (l : List Pr) : List Pr := l.map fun q => (q.1, app d q.2)
theorem keepT_of_fr {g : Nat} {w w' : World} {cs : Array Value} {T : TypeId} (h : Fr g w w') (hg : w.heap[g]? = some (.cells cs T (0, 0))) (hT : T ≠ 34) : KeepT w w' := fun k cs' fz hk => by
  refine (h.2 k (Array.getElem?_eq_some_iff.1 hk).1 ?_).trans hk
  rintro rfl
  rw [hg] at hk; cases hk; exact hT rfl
theorem RowKP.keepT {g k : Nat} {l : List PR} {w w' : World} (h : RowKP g k l w) (hf : Fr g w w') : KeepT w w' := by
  obtain ⟨cs, h1, _⟩ := h
  exact keepT_of_fr hf h1 (by decide)

set_option maxHeartbeats 4000000 in
theorem preds_any (s v : Value) (d : List PR) (l : List Pr) (w : World) (hl : d.length < 1000000) (hd : SizedAll d) (hs : SubAt s d w) (h : PrsAt w v l) (hq : ∀ q ∈ l, tsize q.2 ≤ 1000000000) (hn : l.length ≤ 1000000) :
    Calls Try.prog 19 #[.agg #[s], v] w fun e w' => (∃ a c, e = .returned (.slice a l.length c) ∧ PrsAt w' (.slice a l.length c) (appP d l)) ∧ Below w.heap.size w w' := by
  obtain ⟨av, cv, rfl⟩ := h.shape
  have hmk := make_rowP l.length (by omega)
  have HS := Lib.hid hs
  obtain ⟨sa, sc, rfl⟩ := hs.shape
  have HRow := Lib.hid (fun (i : Nat) (hi : i < l.length) => (by obtain ⟨g, cap, e, hg, hc, hr⟩ := h.row (by rintro rfl; cases hi); exact ⟨g, cap, e, hg, hc, hr i hi⟩ : ∃ g cap, Value.slice av l.length cv = .slice (some ⟨g, 0, none⟩) l.length cap ∧ g < w.heap.size ∧ l.length ≤ cap ∧ ∃ a c, w.cell? ⟨g, i * 4, none⟩ = some (.string l[i].1) ∧ w.cell? ⟨g, i * 4 + 1, none⟩ = some (.int .i64 l[i].2.kind) ∧ w.cell? ⟨g, i * 4 + 2, none⟩ = some (.string l[i].2.name) ∧ w.cell? ⟨g, i * 4 + 3, none⟩ = some (.slice a l[i].2.kids.length c) ∧ TysAt w (.slice a l[i].2.kids.length c) l[i].2.kids))
  have HQ := Lib.hid hq
  have HB2 := Lib.hid (fun o1 o2 => below_two w o1 o2)
  clear hs h hq
  go_enter Try.func19, Try.ntmps19
  go_wp2
  go_loopw [13] (fun vi wr => ∃ (i : Nat) (ls : List PR), i ≤ l.length ∧ vi = .int .i64 i ∧ Hid ((ls.length = i ∧ ls.map prOf = appP d (l.take i)) ∧ RowKP (w.heap.size + 1) l.length ls wr ∧ Typ ls wr ∧ Below w.heap.size w wr) ∧ Hid (wr.heap[w.heap.size]? = some (.cells #[.slice sa d.length sc] 39 (0, 0)))) (fun vi _ => l.length - (intOf vi).toNat)
  case atStart =>
    exact ⟨0, [], Nat.zero_le _, rfl, Lib.hid ⟨⟨rfl, rfl⟩, RowKP.start _ _ _ (new_two w _ _), (fun _ h => nomatch h), HB2.out _ _⟩, Lib.hid ((Below.heap_alloc _ _ _ (by simp)).trans (alloc_new w _))⟩
  case round =>
    obtain ⟨i, ls, hi, rfl, hF, hBx⟩ := hrel
    have y0 : wr.cell? ⟨w.heap.size, 0, none⟩ = some (.slice sa d.length sc) := by rw [Lib.cell_of_heap hBx.out]; rfl
    have ly := (Array.getElem?_eq_some_iff.1 hBx.out).1
    have lG := hF.out.2.1.lt
    by_cases hlt : i < l.length
    · obtain ⟨⟨hll, hmap⟩, hRow, hTy, hB⟩ := hF.out
      obtain ⟨g, cap, e1, hg, hcap, pa, pc, x0, x1, x2, x3, xk⟩ := HRow.out i hlt
      cases e1
      have f1 := fun o => hB.cell (p := ⟨g, o, none⟩) hg
      rw [← f1] at x0 x1 x2 x3
      have hgw : g < wr.heap.size := Nat.lt_of_lt_of_le hg hB.size
      have hqs := HQ.out l[i] (List.getElem_mem hlt)
      have HA := Lib.hid (fun (V : World) (hb : Below w.heap.size w V) => apply_any (d := d) (t := l[i].2) (s := .slice sa d.length sc) (v := .slice pa l[i].2.kids.length pc) (w := V) (by omega) hd hqs (HS.out.below hb) (xk.keep (KeepT.of_below hb)))
      have HM := Lib.hid (show appP d (l.take (i + 1)) = appP d (l.take i) ++ [(l[i].1, app d l[i].2)] by unfold appP; rw [List.take_succ_eq_append_getElem hlt, List.map_append]; rfl)
      have HLen := Lib.hid hll; have HMap := Lib.hid hmap; have HRw := Lib.hid hRow; have HTy := Lib.hid hTy; have HB := Lib.hid hB
      clear f1 xk hqs hF hll hmap hRow hTy hB hmk HRow
      generalize l[i] = q at x0 x1 x2 x3 HA HM
      obtain ⟨cn, t⟩ := q
      simp only at x0 x1 x2 x3 HA HM
      simp only [ResT, tyV] at HA
      have hiz : (i : Int) < (l.length : Int) := by omega
      go_wp2
      have hbx := alloc_new wr (.cells #[.string cn, .int .i64 t.kind, .string t.name, .slice pa t.kids.length pc] 66)
      have hbb := below_a wr (.cells #[.string cn, .int .i64 t.kind, .string t.name, .slice pa t.kids.length pc] 66)
      have y0' : (wr.alloc (.cells #[.string cn, .int .i64 t.kind, .string t.name, .slice pa t.kids.length pc] 66)).cell? ⟨w.heap.size, 0, none⟩ = some (.slice sa d.length sc) := (hbb.cell (p := ⟨w.heap.size, 0, none⟩) ly).trans y0
      obtain ⟨V, hV⟩ : ∃ V, wr.alloc (.cells #[.string cn, .int .i64 t.kind, .string t.name, .slice pa t.kids.length pc] 66) = V := ⟨_, rfl⟩
      rw [hV] at hbx hbb y0' ⊢
      obtain ⟨v0, v1, v2, v3⟩ := four_cells hbx
      have HBX := Lib.hid hbx; have HBB := Lib.hid hbb
      have lV := (Array.getElem?_eq_some_iff.1 hbx).1
      clear hV hbx hbb x0 x1 x2 x3 y0
      go_region_with (first
        | (go_at_call 16; refine (HA.out _ ((HB.out.trans (HBB.out.mono HB.out.size)).drew)).mono ?_; rintro e w4 ⟨⟨a4, c4, rfl, g1⟩, g2⟩; have hB4 : Below wr.heap.size wr w4 := (HBB.out.drew).trans (g2.mono HBB.out.size); have hR4 := HRw.out.below hB4; obtain ⟨o0, o1, o2, o3, k0, k1, k2, k3⟩ := hR4.cells hlt; have f0 := Lib.frozen_of_heap hR4.row.choose_spec.1 (i * 4); have f1 := Lib.frozen_of_heap hR4.row.choose_spec.1 (i * 4 + 1); have f2 := Lib.frozen_of_heap hR4.row.choose_spec.1 (i * 4 + 2); have f3 := Lib.frozen_of_heap hR4.row.choose_spec.1 (i * 4 + 3); obtain ⟨n0, n1, n2, n3⟩ := four_cells ((g2.block _ lV).trans HBX.out); have HB4 := Lib.hid hB4; have HR4 := Lib.hid hR4; have HG1 := Lib.hid g1.tys; clear g1 g2 hB4 hR4))
      all_goals
        go_wp2
        have HP := HR4.out.push (by rw [HLen.out]; exact hlt) (⟨cn, app d t, a4, c4⟩ : PR)
        rw [HLen.out] at HP
        have HF4 := Lib.hid ((Fr.of_below (g := w.heap.size + 1) HB4.out).trans (Fr.set4 (w.heap.size + 1) i w4 (⟨cn, app d t, a4, c4⟩ : PR)))
        have hk1 := HR4.out.keepT (Fr.set4 (w.heap.size + 1) i w4 (⟨cn, app d t, a4, c4⟩ : PR))
        have hk2 : KeepT wr w4 := KeepT.of_below HB4.out
        go_roundw
        case rel =>
          refine ⟨i + 1, ls ++ [⟨cn, app d t, a4, c4⟩], by omega, by go_num, Lib.hid ⟨⟨by simp [HLen.out], ?_⟩, HP, ?_, HB.out.trans (HF4.out.below (by omega) HB.out.size)⟩, Lib.hid ((HF4.out.2 _ ly (by omega)).trans hBx.out)⟩
          · rw [List.map_append, HMap.out, HM.out]; rfl
          · intro y hy
            rcases List.mem_append.1 hy with hy | hy
            · exact ((HTy.out y hy).keep hk2).keep hk1
            · obtain rfl := List.mem_singleton.1 hy
              exact HG1.out.keep hk1
        case measure => simp [intOf]; omega
    · obtain rfl : i = l.length := by omega
      have hp := prs_of_rowG (cap := l.length) hF.out.2.1.row hF.out.2.2.1 (by rw [hF.out.1.1]; exact Nat.le_refl _)
      rw [hF.out.1.1, hF.out.1.2, List.take_length] at hp
      have HPp := Lib.hid hp; have HBz := Lib.hid hF.out.2.2.2
      clear hp hmk HRow
      go_wp2
      go_ret
      exact ⟨⟨_, _, rfl, HPp.out⟩, HBz.out⟩
end Go.Proofs.Ytmbaolcdjgilpaa
