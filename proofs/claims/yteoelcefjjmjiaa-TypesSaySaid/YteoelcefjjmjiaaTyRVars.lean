/- The document's variables of a type: Texts, vars, Vars. -/
import Derived.Test.YteoelcefjjmjiaaTyTexts
import Derived.Test.YteoelcefjjmjiaaTySize
import Derived.Deep.AppendLies
import Derived.Deep.RegionHeld3
import Derived.Deep.DrawnRows
import Derived.BigRegion
namespace Go.Proofs.Yteoelcefjjmjiaa
open Go.RowKit
attribute [local go_sem] Oper.semAt_some

theorem make_strs (n : Nat) (hn : n ≤ 1000000000) (w : World) :
    (Instr.makeSlice 35 (.int .i64 0) (.int .i64 (n : Int))).run Try.prog w = .ok (.slice (some ⟨w.heap.size, 0, none⟩) 0 n) (w.alloc (.cells (madeCells #[.string ⟨#[]⟩] n) 9)) := by
  obtain ⟨i, hi, hzz⟩ := Option.map_eq_some_iff.1 Try.infoStr
  simp only [Prod.mk.injEq] at hzz
  obtain ⟨hz, hs, hb⟩ := hzz
  have hr := run_make (P := Try.prog) w 35 9 i _ Try.underlying35 hi hz .i64 .i64 0 n (by omega) (by omega) (by rw [hb]; omega) (by omega)
  simp only [Int.toNat_natCast, hs, Nat.mul_one] at hr
  exact hr
theorem below_grown {B : Nat} {w X w1 : World} {o : Obj} {e : TypeId} {size n : Nat} {v : Value} {xs : List Value} (hB : Below B w X) (hown : X.ownsRow B e size v n xs) (hg : (X.alloc o).grownBy w1 v.ownBlock) (hb : B ≤ X.heap.size) : Below B w w1 :=
  hB.trans ⟨hg.os, hg.tape, hg.output, by have := hg.size; simp at this; omega, fun k hk => (hg.block k (by simp; omega) fun e => by have := (hown.lt k e.symm).1; omega).trans (Below.heap_alloc X o k (by omega))⟩

set_option maxHeartbeats 2000000 in
theorem textsR_any (l : List ByteArray) (hl : l.length ≤ 1000000) (a : Option Addr) (c : Nat) (w : World) (h : TextsAt w (.slice a l.length c) l) :
    Calls Try.prog 45 #[.slice a l.length c] w fun e w' => (∃ v, e = .returned v ∧ w'.ownsRow w.heap.size 9 1 v l.length (l.map Value.string)) ∧ Below w.heap.size w w' := by
  have HR := Lib.hid (h.part.2)
  have hmk := make_strs l.length (by omega)
  obtain ⟨i0, hi, hz0, hz1, hz2⟩ := info_parts Try.infoStr
  clear h
  go_enter Try.func45, Try.ntmps45
  go_wp2
  go_loopw [3, 4] (fun v vi wr => ∃ (i : Nat) (b : Option Addr) (d : Nat), i ≤ l.length ∧ vi = .int .i64 i ∧ v = .slice b i d ∧ Hid (Below w.heap.size w wr) ∧ Hid (wr.ownsRow w.heap.size 9 1 (.slice b i d) i ((l.take i).map Value.string))) (fun _ vi _ => l.length - (intOf vi).toNat)
  case atStart => exact ⟨0, _, _, Nat.zero_le _, rfl, rfl, Lib.hid ((Below.refl _ w).alloc (Nat.le_refl _) _), Lib.hid (World.ownsRow_made w _ l.length (Nat.le_refl _) (by unfold maxLen; omega) (by simp [size_madeCells]))⟩
  case round =>
    obtain ⟨i, b, d, hi', rfl, rfl, hB, hO⟩ := hrel
    by_cases hlt : i < l.length
    · obtain ⟨g, rfl, hc, hg, hh⟩ := HR.out i hlt
      have x0 := hh wr (fun k _ _ hk => (hB.out.block k (Array.getElem?_eq_some_iff.1 hk).1).trans hk)
      have htk : l.take (i + 1) = l.take i ++ [l[i]] := by rw [List.take_succ_eq_append_getElem hlt]
      have HT := Lib.hid htk
      have hgr : g < wr.heap.size := Nat.lt_of_lt_of_le hg hB.out.size
      clear hh HR htk hmk
      generalize l[i] = u at x0 HT
      have hlt1 : ((i : Int) < (l.length : Int)) := by omega
      go_wp2_with (at_builtin; refine wpList_append_own _ rfl _ _ 35 rfl w.heap.size 9 i0 (.string ⟨#[]⟩) 1 16 Try.underlying35 hi hz0 hz1 hz2 rfl (by decide) _ _ _ rfl (hO.out.alloc _) ⟨wr.heap.size, 0, none⟩ 1 1 [.string u] rfl rfl (new_one _ _ _) (by simp [Value.oneCell']) (by unfold maxLen; omega) (by omega) (by simp; have := hB.out.size; omega) ?_; intro v' w1 hown' hgrow _; obtain ⟨ga, gc, rfl⟩ := row_slice hown'; have HOW := Lib.hid hown'; have HBW := Lib.hid (below_grown hB.out hO.out hgrow hB.out.size); clear hown' hgrow)
      go_roundw
      case rel => exact ⟨i + 1, ga, gc, by omega, by go_num, rfl, HBW, Lib.hid (by rw [HT.out, List.map_append]; exact HOW.out)⟩
      case measure => simp [intOf]; omega
    · obtain rfl : i = l.length := by omega
      rw [List.take_length] at hO
      clear HR hmk
      go_wp2
      go_ret
      exact ⟨⟨_, rfl, hO.out⟩, hB.out⟩

mutual
theorem fv_congr (t : T) (bd bd' out : List ByteArray) (h : ∀ x, x ∈ bd ↔ x ∈ bd') : fv bd out t = fv bd' out t := by
  cases t with
  | var n =>
    rw [fv, fv]
    by_cases hx : n ∈ bd ∨ n ∈ out
    · rw [if_pos hx, if_pos (by rw [← h]; exact hx)]
    · rw [if_neg hx, if_neg (by rw [← h]; exact hx)]
  | con n l => rw [fv, fv]; exact fvs_congr l bd bd' out h
  | fn a b => rw [fv, fv, fv_congr a bd bd' out h, fv_congr b bd bd' _ h]
  | all n a => rw [fv, fv]; exact fv_congr a _ _ out (fun x => by simp only [List.mem_cons, h])
theorem fvs_congr (l : List T) (bd bd' out : List ByteArray) (h : ∀ x, x ∈ bd ↔ x ∈ bd') : fvs bd out l = fvs bd' out l := by
  cases l with
  | nil => rw [fvs, fvs]
  | cons a l => rw [fvs, fvs, fv_congr a bd bd' out h, fvs_congr l bd bd' _ h]
end

def RVarsOK (t : T) : Prop := ∀ (bd out : List ByteArray) (oa ba a : Option Addr) (oc bc c : Nat) (w : World), TextsAt w (.slice oa out.length oc) out → TextsAt w (.slice ba bd.length bc) bd → TysAt w (.slice a t.kids.length c) t.kids →
    out.length + tsize t ≤ 1000000 → bd.length + tsize t ≤ 1000000 →
    Calls Try.prog 35 #[.slice oa out.length oc, .slice ba bd.length bc, tyV t (.slice a t.kids.length c)] w fun e w' => (∃ v, e = .returned v ∧ TextsAt w' v (fv bd out t)) ∧ Below w.heap.size w w'

theorem own_base {W : World} {b b' : Nat} {e : TypeId} {size n : Nat} {v : Value} {xs : List Value} (h : W.ownsRow b e size v n xs) (hb : b' ≤ b) : W.ownsRow b' e size v n xs := by
  refine ⟨h.1, ?_⟩
  rcases h.2 with h | ⟨g, cap, cur, rfl, hg, r⟩
  · exact .inl h
  · exact .inr ⟨g, cap, cur, rfl, Nat.le_trans hb hg, r⟩
theorem below_grown0 {B : Nat} {w X w1 : World} {e : TypeId} {size n : Nat} {v : Value} {xs : List Value} (hB : Below B w X) (hown : X.ownsRow B e size v n xs) (hg : X.grownBy w1 v.ownBlock) (hb : B ≤ X.heap.size) : Below B w w1 :=
  hB.trans ⟨hg.os, hg.tape, hg.output, hg.size, fun k hk => hg.block k (by omega) fun e => by have := (hown.lt k e.symm).1; omega⟩
theorem texts_snoc {W : World} {base : Nat} {v : Value} {l : List ByteArray} {x : ByteArray} (h : W.ownsRow base 9 1 v (l.length + 1) (l.map Value.string ++ [.string x])) : TextsAt W v (l ++ [x]) := by
  have e : l.length + 1 = (l ++ [x]).length := by simp
  have e2 : l.map Value.string ++ [.string x] = (l ++ [x]).map Value.string := by simp
  rw [e, e2] at h
  exact TextsAt.of_row h
set_option maxHeartbeats 4000000 in
theorem rvars_var (t : T) (hk : t.kind = 1) (h0 : t.kids = []) (bd out : List ByteArray) (oa ba a : Option Addr) (oc bc c : Nat) (w : World) (ho : TextsAt w (.slice oa out.length oc) out) (hb : TextsAt w (.slice ba bd.length bc) bd) (hol : out.length ≤ 1000000) (hbl : bd.length ≤ 1000000) (hn : out.length < 1000000) :
    Calls Try.prog 35 #[.slice oa out.length oc, .slice ba bd.length bc, tyV t (.slice a t.kids.length c)] w fun e w' => (∃ v, e = .returned v ∧ TextsAt w' v (if inB out t.name = true ∨ inB bd t.name = true then out else out ++ [t.name])) ∧ Below w.heap.size w w' := by
  have hl : t.kids.length = 0 := by rw [h0]; rfl
  rw [hl]
  simp only [tyV, hk]
  have HBd := Lib.hid (fun o => (Below.refl _ w).alloc (Nat.le_refl _) o)
  have HO := Lib.hid (fun (V : World) (k : Below w.heap.size w V) => hasR_any out (by omega) t.name oa oc V (ho.below k))
  have HBb := Lib.hid (fun (V : World) (k : Below w.heap.size w V) => hasR_any bd (by omega) t.name ba bc V (hb.below k))
  have HOut := Lib.hid ho
  have HTx := Lib.hid (fun (V : World) (k : Below w.heap.size w V) => textsR_any out hol oa oc V (ho.below k))
  clear hl h0 hb ho
  cases h1 : inB out t.name with
  | true =>
    rw [if_pos (.inl rfl)]
    rw [h1] at HO
    clear h1 HBb HTx
    go_enter Try.func35, Try.ntmps35
    go_wp2_with (go_at_call 14; refine (HO.out _ ?kk).mono ?_; (case kk => exact HBd.out _); rintro e w2 ⟨rfl, rfl⟩)
    go_ret
    exact ⟨⟨_, rfl, HOut.out.below (HBd.out _)⟩, HBd.out _⟩
  | false =>
    rw [h1] at HO
    cases h2 : inB bd t.name with
    | true =>
      rw [if_pos (.inr rfl)]
      rw [h2] at HBb
      clear h1 h2 HTx
      go_enter Try.func35, Try.ntmps35
      go_wp2_with (go_at_call 14; first | ((with_reducible refine (HO.out _ ?kk).mono ?_); (case kk => exact HBd.out _); rintro e w2 ⟨rfl, rfl⟩) | ((with_reducible refine (HBb.out _ ?kk).mono ?_); (case kk => exact HBd.out _); rintro e w2 ⟨rfl, rfl⟩))
      go_ret
      exact ⟨⟨_, rfl, HOut.out.below (HBd.out _)⟩, HBd.out _⟩
    | false =>
      rw [if_neg (fun e => by simp at e)]
      rw [h2] at HBb
      clear h1 h2
      go_enter Try.func35, Try.ntmps35
      go_wp2_with (go_at_call 14; first | ((with_reducible refine (HO.out _ ?kk).mono ?_); (case kk => exact HBd.out _); rintro e w2 ⟨rfl, rfl⟩) | ((with_reducible refine (HBb.out _ ?kk).mono ?_); (case kk => exact HBd.out _); rintro e w2 ⟨rfl, rfl⟩))
      obtain ⟨i0, hi, hz0, hz1, hz2⟩ := info_parts Try.infoStr
      refine with_worldC (fun V => Below w.heap.size w V ∧ V.heap[w.heap.size]? = some (.cells #[.int .i64 1, .string t.name, .slice a 0 c] 29 (0, 0))) ⟨HBd.out _, alloc_new w _⟩ ?_
      rintro V ⟨hbV, hbox⟩
      obtain ⟨z0, z1, z2⟩ := three_cells hbox
      have HBV := Lib.hid hbV; have HBox := Lib.hid hbox
      have lV := (Array.getElem?_eq_some_iff.1 hbox).1
      have al : Hid (∀ (o : Obj), (V.alloc o).cell? ⟨w.heap.size, 1, none⟩ = some (.string t.name)) := Lib.hid fun o => (((Below.refl V.heap.size V).alloc (Nat.le_refl _) o).cell (p := ⟨w.heap.size, 1, none⟩) lV).trans z1
      clear hbV hbox
      go_region_held3 (fun V' => V'.cell? ⟨w.heap.size, 1, none⟩ = some (.string t.name)) (first | exact z1 | exact al.out _ | exact y1 | exact aly.out _ | exact u1)
        (first
          | (go_at_call 45; refine (HTx.out V.drew ?kk).mono ?_; (case kk => exact HBV.out.drew); rintro e Y ⟨⟨v, rfl, hown⟩, hbY⟩; obtain ⟨va, vc, rfl⟩ := row_slice hown; have y1 := (hbY.cell (p := ⟨w.heap.size, 1, none⟩) lV).trans z1; have lY : V.heap.size ≤ Y.heap.size := hbY.size; have HBY := Lib.hid (HBV.out.trans (((Below.refl _ V).drew.trans hbY).mono HBV.out.size)); have aly : Hid (∀ (o : Obj), (Y.alloc o).cell? ⟨w.heap.size, 1, none⟩ = some (.string t.name)) := Lib.hid (fun o => (((Below.refl Y.heap.size Y).alloc (Nat.le_refl _) o).cell (p := ⟨w.heap.size, 1, none⟩) (by show w.heap.size < Y.heap.size; omega)).trans y1); have HBoxY := Lib.hid ((hbY.block w.heap.size lV).trans HBox.out); have HOW := Lib.hid (show Y.ownsRow V.heap.size 9 1 _ _ _ from hown); clear hown hbY)
          | (go_at_call 45; refine (HTx.out (V.alloc (.cells #[.string t.name] 9)).drew ?kk).mono ?_; (case kk => exact (HBV.out.alloc HBV.out.size _).drew); rintro e Y ⟨⟨v, rfl, hown⟩, hbY⟩; obtain ⟨va, vc, rfl⟩ := row_slice hown; have hnb : Y.heap[V.heap.size]? = some (.cells #[.string t.name] 9 (0, 0)) := (hbY.block V.heap.size (by simp)).trans (alloc_new V _); have y1 : Y.cell? ⟨w.heap.size, 1, none⟩ = some (.string t.name) := (hbY.cell (p := ⟨w.heap.size, 1, none⟩) (by simp; omega)).trans (al.out _); have lY : V.heap.size < Y.heap.size := (Array.getElem?_eq_some_iff.1 hnb).1; have HBY := Lib.hid (HBV.out.trans ((((Below.refl _ V).alloc (Nat.le_refl _) _).drew.trans (hbY.mono (by simp))).mono HBV.out.size)); have HBoxY := Lib.hid ((hbY.block w.heap.size (by simp; omega)).trans ((Below.heap_alloc V _ _ lV).trans HBox.out)); have HNB := Lib.hid (World.news_of_block hnb); have hown' : Y.ownsRow (V.heap.size + 1) 9 1 (.slice va out.length vc) out.length (out.map Value.string) := (by simpa using hown); have HOW := Lib.hid hown'; clear hown hown' hbY hnb)
          | (refine step_append_lies _ (by rfl) _ _ 35 (by rfl) V.heap.size 9 i0 (.string ⟨#[]⟩) 1 16 Try.underlying35 hi hz0 hz1 hz2 rfl (by decide) _ out.length (out.map Value.string) (by rfl) (HOW.out.alloc _) ⟨Y.heap.size, 0, none⟩ 1 1 [.string t.name] (by rfl) rfl (new_one _ _ _) (by simp [Value.oneCell']) (by decide) (by unfold maxLen; omega) (by omega) (by simp; omega) (Y.heap.size + 1) (by simp) ?_; intro g' cap' w1 hown1 hgrow _ _; have hb1 := Lib.hid (below_grown (B := w.heap.size) HBY.out (own_base HOW.out HBV.out.size) hgrow (Nat.le_trans HBV.out.size lY)); have bx1 := Lib.hid ((row_other (HOW.out.alloc _) hgrow ((Below.heap_alloc Y _ _ (by omega)).trans HBoxY.out) (by decide))); have u1 : w1.cell? ⟨w.heap.size, 1, none⟩ = some (.string t.name) := (by rw [Lib.cell_of_heap bx1.out]; rfl); have HFin := Lib.hid (texts_snoc hown1); clear hown1 hgrow)
          | (refine step_append_lies _ (by rfl) _ _ 35 (by rfl) (V.heap.size + 1) 9 i0 (.string ⟨#[]⟩) 1 16 Try.underlying35 hi hz0 hz1 hz2 rfl (by decide) _ out.length (out.map Value.string) (by rfl) HOW.out ⟨V.heap.size, 0, none⟩ 1 1 [.string t.name] (by rfl) rfl HNB.out (by simp [Value.oneCell']) (by decide) (by unfold maxLen; omega) (by omega) (by omega) Y.heap.size rfl ?_; intro g' cap' w1 hown1 hgrow _ _; have hb1 := Lib.hid (below_grown0 (B := w.heap.size) HBY.out (own_base HOW.out (by have := HBV.out.size; omega)) hgrow (by have := HBV.out.size; omega)); have bx1 := Lib.hid (row_other HOW.out hgrow HBoxY.out (by decide)); have u1 : w1.cell? ⟨w.heap.size, 1, none⟩ = some (.string t.name) := (by rw [Lib.cell_of_heap bx1.out]; rfl); have HFin := Lib.hid (texts_snoc hown1); clear hown1 hgrow))
      all_goals
        clear y1
        go_wp2
        go_ret
        exact ⟨⟨_, rfl, HFin.out⟩, hb1.out⟩
end Go.Proofs.Yteoelcefjjmjiaa
