/- The document's vars, of a type for all. -/
import Derived.Test.YteoelcefjjmjiaaTyRVars
namespace Go.Proofs.Yteoelcefjjmjiaa
open Go.RowKit
attribute [local go_sem] Oper.semAt_some

set_option maxHeartbeats 1000000 in
theorem rvars_all (t : T) (H : ∀ k ∈ t.kids, RVarsOK k) (hk4 : t.kind = 4) (bd out : List ByteArray) (oa ba a : Option Addr) (oc bc c : Nat) (w : World) (ho : TextsAt w (.slice oa out.length oc) out) (hb : TextsAt w (.slice ba bd.length bc) bd) (ht : TysAt w (.slice a t.kids.length c) t.kids)
    (hol : out.length + tsize t ≤ 1000000) (hbl : bd.length + tsize t ≤ 1000000) :
    Calls Try.prog 35 #[.slice oa out.length oc, .slice ba bd.length bc, tyV t (.slice a t.kids.length c)] w fun e w' => (∃ v, e = .returned v ∧ TextsAt w' v (fvs (bd ++ [t.name]) out t.kids)) ∧ Below w.heap.size w w' := by
  have hz := tsize_eq t
  have hlen := len_sizes' t.kids
  have hbl2 : bd.length ≤ 1000000 := by omega
  have HBd := Lib.hid (fun o => (Below.refl _ w).alloc (Nat.le_refl _) o)
  have HR := Lib.hid ht.part
  have HS := Lib.hid H
  have HO := Lib.hid ho
  have HTb := Lib.hid (fun (V : World) (k : Below w.heap.size w V) => textsR_any bd hbl2 ba bc V (hb.below k))
  clear ht H ho hb
  simp only [tyV, hk4]
  clear hk4
  go_enter Try.func35, Try.ntmps35
  go_wp2
  obtain ⟨i0, hi, hz0, hz1, hz2⟩ := info_parts Try.infoStr
  refine with_worldC (fun V => Below w.heap.size w V ∧ V.heap[w.heap.size]? = some (.cells #[.int .i64 4, .string t.name, .slice a t.kids.length c] 29 (0, 0))) ⟨HBd.out _, alloc_new w _⟩ ?_
  rintro V ⟨hbV, hbox⟩
  obtain ⟨z0, z1, z2⟩ := three_cells hbox
  have HBV := Lib.hid hbV; have HBox := Lib.hid hbox
  have lV := (Array.getElem?_eq_some_iff.1 hbox).1
  have al : Hid (∀ (o : Obj), (V.alloc o).cell? ⟨w.heap.size, 1, none⟩ = some (.string t.name)) := Lib.hid fun o => (((Below.refl V.heap.size V).alloc (Nat.le_refl _) o).cell (p := ⟨w.heap.size, 1, none⟩) lV).trans z1
  clear hbV hbox
  go_region_held3 (fun V' => V'.cell? ⟨w.heap.size, 1, none⟩ = some (.string t.name)) (first | exact z1 | exact al.out _ | exact y1 | exact aly.out _ | exact u1)
    (first
      | (go_at_call 45; refine (HTb.out V.drew ?kk).mono ?_; (case kk => exact HBV.out.drew); rintro e Y ⟨⟨v, rfl, hown⟩, hbY⟩; obtain ⟨va, vc, rfl⟩ := row_slice hown; have y1 := (hbY.cell (p := ⟨w.heap.size, 1, none⟩) lV).trans z1; have lY : V.heap.size ≤ Y.heap.size := hbY.size; have HBY := Lib.hid (HBV.out.trans (((Below.refl _ V).drew.trans hbY).mono HBV.out.size)); have aly : Hid (∀ (o : Obj), (Y.alloc o).cell? ⟨w.heap.size, 1, none⟩ = some (.string t.name)) := Lib.hid (fun o => (((Below.refl Y.heap.size Y).alloc (Nat.le_refl _) o).cell (p := ⟨w.heap.size, 1, none⟩) (by show w.heap.size < Y.heap.size; omega)).trans y1); have HBoxY := Lib.hid ((hbY.block w.heap.size lV).trans HBox.out); have HOW := Lib.hid (show Y.ownsRow V.heap.size 9 1 _ _ _ from hown); clear hown hbY)
      | (go_at_call 45; refine (HTb.out (V.alloc (.cells #[.string t.name] 9)).drew ?kk).mono ?_; (case kk => exact (HBV.out.alloc HBV.out.size _).drew); rintro e Y ⟨⟨v, rfl, hown⟩, hbY⟩; obtain ⟨va, vc, rfl⟩ := row_slice hown; have hnb : Y.heap[V.heap.size]? = some (.cells #[.string t.name] 9 (0, 0)) := (hbY.block V.heap.size (by simp)).trans (alloc_new V _); have y1 : Y.cell? ⟨w.heap.size, 1, none⟩ = some (.string t.name) := (hbY.cell (p := ⟨w.heap.size, 1, none⟩) (by simp; omega)).trans (al.out _); have lY : V.heap.size < Y.heap.size := (Array.getElem?_eq_some_iff.1 hnb).1; have HBY := Lib.hid (HBV.out.trans ((((Below.refl _ V).alloc (Nat.le_refl _) _).drew.trans (hbY.mono (by simp))).mono HBV.out.size)); have HBoxY := Lib.hid ((hbY.block w.heap.size (by simp; omega)).trans ((Below.heap_alloc V _ _ lV).trans HBox.out)); have HNB := Lib.hid (World.news_of_block hnb); have hown' : Y.ownsRow (V.heap.size + 1) 9 1 (.slice va bd.length vc) bd.length (bd.map Value.string) := (by simpa using hown); have HOW := Lib.hid hown'; clear hown hown' hbY hnb)
      | (refine step_append_lies _ (by rfl) _ _ 35 (by rfl) V.heap.size 9 i0 (.string ⟨#[]⟩) 1 16 Try.underlying35 hi hz0 hz1 hz2 rfl (by decide) _ bd.length (bd.map Value.string) (by rfl) (HOW.out.alloc _) ⟨Y.heap.size, 0, none⟩ 1 1 [.string t.name] (by rfl) rfl (new_one _ _ _) (by simp [Value.oneCell']) (by decide) (by unfold maxLen; omega) (by omega) (by simp; omega) (Y.heap.size + 1) (by simp) ?_; intro g' cap' w1 hown1 hgrow _ _; have hb1 := Lib.hid (below_grown (B := w.heap.size) HBY.out (own_base HOW.out HBV.out.size) hgrow (Nat.le_trans HBV.out.size lY)); have bx1 := Lib.hid ((row_other (HOW.out.alloc _) hgrow ((Below.heap_alloc Y _ _ (by omega)).trans HBoxY.out) (by decide))); have u1 : w1.cell? ⟨w.heap.size, 1, none⟩ = some (.string t.name) := (by rw [Lib.cell_of_heap bx1.out]; rfl); have HFin := Lib.hid (texts_snoc hown1); clear hown1 hgrow)
      | (refine step_append_lies _ (by rfl) _ _ 35 (by rfl) (V.heap.size + 1) 9 i0 (.string ⟨#[]⟩) 1 16 Try.underlying35 hi hz0 hz1 hz2 rfl (by decide) _ bd.length (bd.map Value.string) (by rfl) HOW.out ⟨V.heap.size, 0, none⟩ 1 1 [.string t.name] (by rfl) rfl HNB.out (by simp [Value.oneCell']) (by decide) (by unfold maxLen; omega) (by omega) (by omega) Y.heap.size rfl ?_; intro g' cap' w1 hown1 hgrow _ _; have hb1 := Lib.hid (below_grown0 (B := w.heap.size) HBY.out (own_base HOW.out (by have := HBV.out.size; omega)) hgrow (by have := HBV.out.size; omega)); have bx1 := Lib.hid (row_other HOW.out hgrow HBoxY.out (by decide)); have u1 : w1.cell? ⟨w.heap.size, 1, none⟩ = some (.string t.name) := (by rw [Lib.cell_of_heap bx1.out]; rfl); have HFin := Lib.hid (texts_snoc hown1); clear hown1 hgrow))
  all_goals
    clear y1 z0 z1 z2 u1 lV lY
    obtain ⟨bd', hbd⟩ : ∃ b, bd ++ [t.name] = b := ⟨_, rfl⟩
    have hl' : bd.length + 1 = bd'.length := by rw [← hbd]; simp
    rw [hbd, hl'] at HFin
    rw [hl']
    have HBE := Lib.hid hbd
    have hbl' : bd'.length + tsizes t.kids ≤ 1000000 := by omega
    clear hbd hl' HOW
    go_wp2
    go_loopw [0, 7] (fun vo vi wr => ∃ (i : Nat) (b : Option Addr) (d n : Nat), i ≤ t.kids.length ∧ vi = .int .i64 i ∧ vo = .slice b n d ∧ Hid (n = (fvs bd' out (t.kids.take i)).length ∧ TextsAt wr (.slice b n d) (fvs bd' out (t.kids.take i)) ∧ Below w.heap.size w wr) ∧ Hid (TextsAt wr (.slice (some ⟨g', 0, none⟩) bd'.length cap') bd') ∧ Hid (wr.heap[w.heap.size]? = some (.cells #[.int .i64 4, .string t.name, .slice a t.kids.length c] 29 (0, 0)))) (fun _ vi _ => t.kids.length - (intOf vi).toNat)
    case atStart => exact ⟨0, oa, oc, out.length, Nat.zero_le _, rfl, rfl, Lib.hid ⟨by simp [fvs], by simpa [fvs] using HO.out.below hb1.out, hb1.out⟩, Lib.hid HFin.out, Lib.hid bx1.out⟩
    case round =>
      obtain ⟨i, ob, od, n, hi', rfl, rfl, hF, hBd, hBox⟩ := hrel
      obtain ⟨b0, b1, b2⟩ := three_cells hBox.out
      by_cases hlt : i < t.kids.length
      · obtain ⟨hn, hT, hBl⟩ := hF.out
        obtain ⟨g, pa, ca, rfl, hcap, hr⟩ := HR.out i hlt
        obtain ⟨⟨hg, x0, x1, x2⟩, xk⟩ := hr wr (KeepT.of_below hBl)
        have hsz := tsizes_take t.kids i hlt
        have hl1 := fvs_len (t.kids.take i) bd' out
        have hkk := size_mem' (List.getElem_mem hlt)
        rw [hn] at hT ⊢
        have HC := Lib.hid (HS.out t.kids[i] (List.getElem_mem hlt) bd' (fvs bd' out (t.kids.take i)) ob (some ⟨g', 0, none⟩) pa od cap' ca wr hT hBd.out xk (by omega) (by omega))
        rw [← fvs_drop bd' out t.kids i hlt] at HC
        have HB1 := Lib.hid hBl
        clear hr xk hsz hl1 hkk HS HR hF hT hBl hn
        generalize t.kids[i] = u at x0 x1 x2 HC
        simp only [tyV] at HC
        have hlt1 : ((i : Int) < (t.kids.length : Int)) := by omega
        generalize (fvs bd' out (t.kids.take i)).length = m at HC ⊢
        go_wp2_with (go_at_call 35; refine HC.out.mono ?_; rintro e w2 ⟨⟨v2, rfl, hT2⟩, hb2⟩; obtain ⟨oe, of, rfl⟩ := hT2.shape; have HF2 := Lib.hid (⟨hT2, HB1.out.trans (hb2.mono HB1.out.size)⟩ : TextsAt w2 (.slice oe (fvs bd' out (t.kids.take (i + 1))).length of) (fvs bd' out (t.kids.take (i + 1))) ∧ Below w.heap.size w w2); have HBd2 := Lib.hid (hBd.out.below hb2); have HBox2 := Lib.hid ((hb2.block _ (Array.getElem?_eq_some_iff.1 hBox.out).1).trans hBox.out); clear hT2 hb2)
        go_roundw
        case rel => exact ⟨i + 1, oe, of, _, by omega, by go_num, rfl, Lib.hid ⟨rfl, HF2.out⟩, HBd2, HBox2⟩
        case measure => simp [intOf]; omega
      · obtain rfl : i = t.kids.length := by omega
        rw [List.take_length] at hF
        clear HR HS
        go_wp2
        go_ret
        exact ⟨⟨_, rfl, by rw [HBE.out]; exact hF.out.2.1⟩, hF.out.2.2⟩
end Go.Proofs.Yteoelcefjjmjiaa
