/- Merged: SpRef, ScVars, ScName, ScNew, SpCopy, SsA, SsB, RegTail, Told, Range, SbIter, SbGet, SbNext, SbRApp, SbRApp2, SbRPreds, SsT, SsR. -/
import Derived.Test.YtjnlchhikdfifaaDoorVa4
import Derived.Test.YtjnlchhikdfifaaDoorVa2
import Derived.Test.YtjnlchhikdfifaaDoorVa3
import Derived.RangeFuncNested
import Derived.RangeFuncBound
import Derived.RangeFuncCalls
import Derived.RangeFuncLeaves
import Derived.Stop.RegionWithIn
import Derived.OwnWalkIn
import Derived.TacticsInMore
import Derived.LoopNIn
import Derived.LoopIn
import Derived.Deep.AppendLies
import Derived.Deep.RegionLaw
import Derived.Maps.AppendAt
/- The document's Compare of types (from TyRef, whose Size is SbSize's here). -/
namespace Go.Proofs.YtjnlchhikdfifaaDoor
open Go.RowKit
attribute [local go_sem] Oper.semAt_some

theorem sign_of (a b r : Int) (w : World) (h : a < b ∧ r = -1 ∨ (¬ a < b ∧ b < a) ∧ r = 1 ∨ (¬ a < b ∧ ¬ b < a) ∧ r = 0) : Calls Tryd.prog 28 #[.int .i64 a, .int .i64 b] w fun e w' => e = .returned (.int .i64 r) ∧ w = w' := by
  rcases h with ⟨h, rfl⟩ | ⟨⟨h, h'⟩, rfl⟩ | ⟨⟨h, h'⟩, rfl⟩
  all_goals
    go_enter Tryd.func28, Tryd.ntmps28
    go_wp2
    go_ret
    exact ⟨rfl, rfl⟩
theorem sign_any (a b : Int) (w : World) : Calls Tryd.prog 28 #[.int .i64 a, .int .i64 b] w fun e w' => e = .returned (.int .i64 (sgn a b)) ∧ w = w' :=
  sign_of a b _ w (by unfold sgn; (repeat' split) <;> omega)

def RCmpOK (t : T) : Prop := ∀ (t' : T) (a b : Option Addr) (c d : Nat) (w : World), TysAt w (.slice a t.kids.length c) t.kids → TysAt w (.slice b t'.kids.length d) t'.kids → tsize t ≤ 1000000000 →
    Calls Tryd.prog 9 #[tyV t (.slice a t.kids.length c), tyV t' (.slice b t'.kids.length d)] w fun e w' => e = .returned (.int .i64 (cmpT t t')) ∧ Below w.heap.size w w'

/-- What was found before the parts are looked at. -/
theorem cmp_done {t t' : T} {hd : Int} (h : orI (sgn t.kind t'.kind) (orI (cmpL t.name.data.toList t'.name.data.toList) (sgn t.kids.length t'.kids.length)) = hd) (hz : ¬ hd = 0) : cmpT t t' = hd := by
  have h' := cmpT_eq t t'
  rw [h', ← h]
  unfold orI at *
  by_cases hp : sgn t.kind t'.kind = 0
  · by_cases hq : cmpL t.name.data.toList t'.name.data.toList = 0
    · by_cases hr : sgn (t.kids.length : Int) t'.kids.length = 0
      · simp [hp, hq, hr] at h; omega
      · simp [hp, hq, hr]
    · simp [hp, hq]
  · simp [hp]

set_option maxHeartbeats 4000000 in
theorem rcmp_step (t : T) (H : ∀ k ∈ t.kids, RCmpOK k) : RCmpOK t := by
  intro t' a b c d w h h' hs
  have hz := tsize_eq t
  have hlen := len_sizes' t.kids
  have hB : ∀ o1 o2 : Obj, Below w.heap.size w ((w.alloc o1).alloc o2) := fun o1 o2 => ((Below.refl _ w).alloc (Nat.le_refl _) _).alloc (by simp) _
  have HB := Lib.hid hB; clear hB
  have e1 : (t.name.toList == t'.name.toList) = decide (cmpL t.name.data.toList t'.name.data.toList = 0) := by rw [Lib.toList_data, Lib.toList_data, beq_cmpL]
  have e2 : Op.bytesLess t.name.toList t'.name.toList = decide (cmpL t.name.data.toList t'.name.data.toList < 0) := by rw [Lib.toList_data, Lib.toList_data, less_cmpL]
  have hp1 := sgn_unit t.kind t'.kind
  have hq1 := cmpL_unit t.name.data.toList t'.name.data.toList
  have hr1 := sgn_unit (t.kids.length : Int) t'.kids.length
  obtain ⟨p, hp⟩ : ∃ p, sgn t.kind t'.kind = p := ⟨_, rfl⟩
  obtain ⟨q, hq⟩ : ∃ p, cmpL t.name.data.toList t'.name.data.toList = p := ⟨_, rfl⟩
  obtain ⟨r, hr⟩ : ∃ p, sgn (t.kids.length : Int) t'.kids.length = p := ⟨_, rfl⟩
  have HSK := Lib.hid (fun (W : World) => sign_any t.kind t'.kind W)
  have HSL := Lib.hid (fun (W : World) => sign_any (t.kids.length : Int) t'.kids.length W)
  have HD := fun (hz : ¬ orI p (orI q r) = 0) => cmp_done (t := t) (t' := t') (hd := orI p (orI q r)) (by rw [hp, hq, hr]) hz
  have HEq := cmpT_eq t t'
  have HLen : r = 0 → t.kids.length = t'.kids.length := fun e => by rw [← hr] at e; have := sgn_zero.1 e; omega
  rw [hp] at HSK hp1
  rw [hq] at e1 e2 hq1
  rw [hr] at HSL hr1
  rw [hp, hq, hr] at HEq
  obtain ⟨res, hres⟩ : ∃ p, cmpT t t' = p := ⟨_, rfl⟩
  rw [hres] at HEq HD ⊢
  have HEq' := Lib.hid HEq; have HD' := Lib.hid HD; have HLen' := Lib.hid HLen
  clear hp hq hr hres HEq HD HLen
  by_cases hp0 : p = 0
  · subst hp0
    by_cases hq0 : q = 0
    · subst hq0
      simp only [decide_true, Int.lt_irrefl, decide_false] at e1 e2
      by_cases hr0 : r = 0
      · subst hr0
        have hl := HLen'.out rfl
        have HR := Lib.hid h.part
        rw [← hl] at h'
        have HR' := Lib.hid (hl ▸ h').part
        have HS := Lib.hid H
        have HL := Lib.hid hl
        have hres : cmpTs t.kids t'.kids = res := HEq'.out.symm
        have HRs := Lib.hid hres
        clear h h' H hl hres HD' HEq' HLen' hp1 hq1 hr1
        simp only [tyV]
        go_enter Tryd.func9, Tryd.ntmps9
        go_wp2_with (go_at_call 28; first | ((with_reducible refine (HSK.out _).mono ?_); rintro e w2 ⟨rfl, rfl⟩) | ((with_reducible refine (HSL.out _).mono ?_); rintro e w2 ⟨rfl, rfl⟩))
        go_loopw [5, 6] (fun vn vi wr => ∃ (i : Nat) (m : Int), i ≤ t.kids.length ∧ vi = .int .i64 i ∧ vn = .int .i64 m ∧ Hid ((m = 0 ∧ cmpTs (t.kids.drop i) (t'.kids.drop i) = res) ∨ (¬ m = 0 ∧ m = res)) ∧ Hid (Below w.heap.size w wr) ∧
          Hid (wr.heap[w.heap.size]? = some (.cells #[.int .i64 t.kind, .string t.name, .slice a t.kids.length c] 33 (0, 0)) ∧ wr.heap[w.heap.size + 1]? = some (.cells #[.int .i64 t'.kind, .string t'.name, .slice b t'.kids.length d] 33 (0, 0)))) (fun _ vi _ => t.kids.length - (intOf vi).toNat)
        case atStart => exact ⟨0, 0, Nat.zero_le _, rfl, rfl, Lib.hid (.inl ⟨rfl, by simpa using HRs.out⟩), Lib.hid (HB.out _ _), Lib.hid ⟨(Below.heap_alloc _ _ _ (by simp)).trans (alloc_new w _), by have := alloc_new (w.alloc (.cells #[.int .i64 t.kind, .string t.name, .slice a t.kids.length c] 33)) (.cells #[.int .i64 t'.kind, .string t'.name, .slice b t'.kids.length d] 33); simpa using this⟩⟩
        case round =>
          obtain ⟨i, m, hi, rfl, rfl, hM, hBl, hBox⟩ := hrel
          obtain ⟨z0, z1, z2⟩ := three_cells hBox.out.1
          obtain ⟨z3, z4, z5⟩ := three_cells hBox.out.2
          rcases hM.out with ⟨rfl, hc⟩ | ⟨hm, rfl⟩
          · by_cases hlt : i < t.kids.length
            · have hlt' : i < t'.kids.length := by have := HL.out; omega
              obtain ⟨g, pa, ca, rfl, hcap, hr⟩ := HR.out i hlt
              obtain ⟨g', pb, cb, rfl, hcap', hr'⟩ := HR'.out i hlt'
              obtain ⟨⟨hg, x0, x1, x2⟩, xk⟩ := hr wr (KeepT.of_below hBl.out)
              obtain ⟨⟨hg', y0, y1, y2⟩, yk⟩ := hr' wr (KeepT.of_below hBl.out)
              have hkk := size_mem' (List.getElem_mem hlt)
              have HC := Lib.hid (HS.out t.kids[i] (List.getElem_mem hlt) t'.kids[i] pa pb ca cb wr.drew (xk.keep (show KeepT wr wr.drew from fun _ _ _ h => h)) (yk.keep (show KeepT wr wr.drew from fun _ _ _ h => h)) (by omega))
              have hd := cmp_drop t.kids t'.kids i hlt hlt'
              rw [hc] at hd
              clear hr hr' xk yk hkk HS HR HR' hM hc HRs
              generalize t.kids[i] = u at x0 x1 x2 HC hd
              generalize t'.kids[i] = u' at y0 y1 y2 HC hd
              simp only [tyV] at HC
              have HDr := Lib.hid hd; clear hd
              obtain ⟨k, hk⟩ : ∃ k, cmpT u u' = k := ⟨_, rfl⟩
              rw [hk] at HC
              have HK := Lib.hid hk; clear hk
              have hlt1 : ((i : Int) < (t.kids.length : Int)) := by omega
              have hlt2 : ((i : Int) < (t'.kids.length : Int)) := by omega
              have lb : w.heap.size + 1 < wr.heap.size := (Array.getElem?_eq_some_iff.1 hBox.out.2).1
              go_wp2
              go_region_held3 (fun V => V.cell? ⟨w.heap.size, 2, none⟩ = some (.slice (some ⟨g, 0, none⟩) t.kids.length c) ∧ V.cell? ⟨w.heap.size + 1, 2, none⟩ = some (.slice (some ⟨g', 0, none⟩) t'.kids.length d) ∧ (V.cell? ⟨g, i * 3, none⟩ = some (.int .i64 u.kind) ∧ V.cell? ⟨g, i * 3 + 1, none⟩ = some (.string u.name) ∧ V.cell? ⟨g, i * 3 + 2, none⟩ = some (.slice pa u.kids.length ca)) ∧ (V.cell? ⟨g', i * 3, none⟩ = some (.int .i64 u'.kind) ∧ V.cell? ⟨g', i * 3 + 1, none⟩ = some (.string u'.name) ∧ V.cell? ⟨g', i * 3 + 2, none⟩ = some (.slice pb u'.kids.length cb)))
                (first | exact ⟨z2, z5, ⟨x0, x1, x2⟩, y0, y1, y2⟩ | exact ⟨v2, v5, ⟨v6, v7, v8⟩, v9, v10, v11⟩)
                ((go_at_call 9; refine HC.out.mono ?_; rintro e w2 ⟨rfl, hb2⟩; have cc : ∀ (b o : Nat) (x : Value), b < wr.heap.size → wr.cell? ⟨b, o, none⟩ = some x → w2.cell? ⟨b, o, none⟩ = some x := (fun b o x hb hx => (hb2.cell (p := ⟨b, o, none⟩) hb).trans hx); have v2 := cc _ _ _ (by omega) z2; have v5 := cc _ _ _ lb z5; have v6 := cc _ _ _ hg x0; have v7 := cc _ _ _ hg x1; have v8 := cc _ _ _ hg x2; have v9 := cc _ _ _ hg' y0; have v10 := cc _ _ _ hg' y1; have v11 := cc _ _ _ hg' y2; have HB2 := Lib.hid (hBl.out.drew.trans (hb2.mono hBl.out.size)); have HBox2 := Lib.hid (And.intro ((hb2.block w.heap.size (by show w.heap.size < wr.heap.size; omega)).trans hBox.out.1) ((hb2.block (w.heap.size + 1) lb).trans hBox.out.2)); clear cc hb2))
              all_goals
                clear z0 z1 z2 z3 z4 z5 x0 x1 x2 y0 y1 y2 v2 v5 v6 v7 v8 v9 v10 v11
                go_wp2
                go_roundw
                case rel =>
                  refine ⟨i + 1, k, by omega, by go_num, rfl, Lib.hid ?_, HB2, HBox2⟩
                  have := HDr.out
                  rw [HK.out] at this
                  by_cases h0 : k = 0
                  · exact .inl ⟨h0, by rw [this, h0]; rfl⟩
                  · exact .inr ⟨h0, by rw [this, orI, if_neg h0]⟩
                case measure => simp [intOf]; omega
            · obtain rfl : i = t.kids.length := by omega
              have e : res = 0 := by rw [← hc, List.drop_length, HL.out, List.drop_length, cmpTs]
              subst e
              clear HR HR' HS HRs hM hc
              go_wp2
              go_ret
              exact ⟨rfl, hBl.out⟩
          · have hz1 : (m == 0) = false := by simpa using hm
            clear HR HR' HS HRs hM hm
            go_wp2
            all_goals go_ret
            all_goals exact ⟨rfl, hBl.out⟩
      · have e : res = r := by have := HD'.out (by simpa [orI] using hr0); simpa [orI] using this
        subst e
        have hz1 : (res == 0) = false := by simpa using hr0
        clear h h' H HD' HEq' HLen' hp1 hq1 hr1 hr0
        simp only [tyV]
        go_enter Tryd.func9, Tryd.ntmps9
        go_wp2_with (go_at_call 28; first | ((with_reducible refine (HSK.out _).mono ?_); rintro e w2 ⟨rfl, rfl⟩) | ((with_reducible refine (HSL.out _).mono ?_); rintro e w2 ⟨rfl, rfl⟩))
        refine wp_loop_rounds 1 ?_
        rw [rounds_succ]; go_wp2
        all_goals go_ret
        all_goals exact ⟨rfl, HB.out _ _⟩
    · have e : res = q := by have := HD'.out (by simp [orI, hq0]); simpa [orI, hq0] using this
      subst e
      have hz1 : (res == 0) = false := by simpa using hq0
      rw [decide_eq_false hq0] at e1
      clear h h' H HD' HEq' HLen' hp1 hr1
      simp only [tyV]
      rcases hq1 with rfl | rfl | rfl
      · simp at e2
        go_enter Tryd.func9, Tryd.ntmps9
        go_wp2_with (go_at_call 28; ((with_reducible refine (HSK.out _).mono ?_); rintro e w2 ⟨rfl, rfl⟩))
        refine wp_loop_rounds 1 ?_
        rw [rounds_succ]; go_wp2
        all_goals go_ret
        all_goals exact ⟨rfl, HB.out _ _⟩
      · exact absurd rfl hq0
      · simp at e2
        go_enter Tryd.func9, Tryd.ntmps9
        go_wp2_with (go_at_call 28; ((with_reducible refine (HSK.out _).mono ?_); rintro e w2 ⟨rfl, rfl⟩))
        refine wp_loop_rounds 1 ?_
        rw [rounds_succ]; go_wp2
        all_goals go_ret
        all_goals exact ⟨rfl, HB.out _ _⟩
  · have e : res = p := by have := HD'.out (by simp [orI, hp0]); simpa [orI, hp0] using this
    subst e
    have hz1 : (res == 0) = false := by simpa using hp0
    clear h h' H HD' HEq' HLen' hp1 hq1 hr1 hp0
    simp only [tyV]
    go_enter Tryd.func9, Tryd.ntmps9
    go_wp2_with (go_at_call 28; ((with_reducible refine (HSK.out _).mono ?_); rintro e w2 ⟨rfl, rfl⟩))
    refine wp_loop_rounds 1 ?_
    rw [rounds_succ]; go_wp2
    all_goals go_ret
    all_goals exact ⟨rfl, HB.out _ _⟩
theorem rcmp_any {t t' : T} {v v' : Value} {w : World} (hs : tsize t ≤ 1000000000) (h : TysAt w v t.kids) (h' : TysAt w v' t'.kids) :
    Calls Tryd.prog 9 #[tyV t v, tyV t' v'] w fun e w' => e = .returned (.int .i64 (cmpT t t')) ∧ Below w.heap.size w w' := by
  obtain ⟨a, c, rfl⟩ := h.shape
  obtain ⟨b, d, rfl⟩ := h'.shape
  exact T.by_kids (P := RCmpOK) rcmp_step t t' a b c d w h h' hs
end Go.Proofs.YtjnlchhikdfifaaDoor
/- scheme.variables of a type alone. -/
namespace Go.Proofs.YtjnlchhikdfifaaDoor
open Go.RowKit Go.Maps
attribute [local go_sem] Oper.semAt_some

theorem Tryd.infoTyS : (Tryd.prog.info? 33).map (fun i => (i.zero, i.size, i.bytes)) = some (some (.agg #[.int .i64 0, .string ⟨#[]⟩, .slice none 0 0]), 3, 48) := by kernel_rfl
theorem cell_newT (w : World) (x y z : Value) (t : TypeId) : ∀ j v, [x, y, z][j]? = some v → (w.alloc (.cells #[x, y, z] t)).cell? ((⟨w.heap.size, 0, none⟩ : Addr).add j) = some v := by
  intro j v hv
  have hadd : (⟨w.heap.size, 0, none⟩ : Addr).add j = ⟨w.heap.size, j, none⟩ := by unfold Addr.add; split <;> simp_all
  rw [hadd]
  have := alloc_new w (.cells #[x, y, z] t)
  simp only [World.cell?, this]
  match j, hv with
  | 0, hv => simpa using hv
  | 1, hv => simpa using hv
  | 2, hv => simpa using hv
  | n + 3, hv => simp at hv
/-- A row of one type. -/
theorem tys_own1 {W : World} {base : Nat} {v : Value} {t : T} {ta : Option Addr} {tc : Nat} (h : W.ownsRow base 33 3 v 1 [.int .i64 t.kind, .string t.name, .slice ta t.kids.length tc]) (ht : TysAt W (.slice ta t.kids.length tc) t.kids) : TysAt W v [t] := by
  rcases h.2 with ⟨_, h0⟩ | ⟨g, cap, cur, rfl, _, hg, hc, hm, hcs, htk⟩
  · cases h0
  · refine .inr ⟨g, cap, cur, (0, 0), fun _ => .int .i64 t.kind, fun _ => .string t.name, fun _ => .slice ta t.kids.length tc, rfl, hg, hc, fun i hi => ?_, fun i hi => ?_⟩
    · obtain rfl : i = 0 := by simpa using hi
      have cell : ∀ j, j < 3 → cur[j]? = [Value.int .i64 t.kind, .string t.name, .slice ta t.kids.length tc][j]? := fun j hj => by
        rw [← htk, List.getElem?_take, if_pos (by omega), Array.getElem?_toList]
      exact ⟨(cell 0 (by decide)).trans rfl, (cell 1 (by decide)).trans rfl, (cell 2 (by decide)).trans rfl⟩
    · obtain rfl : i = 0 := by simpa using hi
      exact (tyAt_iff W t _ _ _).2 ⟨rfl, rfl, ht⟩
end Go.Proofs.YtjnlchhikdfifaaDoor
/- scheme.Name: the first letters; the chapter's examples. -/
namespace Go.Proofs.YtjnlchhikdfifaaDoor
open Go.RowKit
attribute [local go_sem] Oper.semAt_some

def nameAt (i : Nat) : ByteArray := ⟨#[UInt8.ofNat (97 + i)]⟩
set_option maxRecDepth 100000 in
theorem name_low (i : Nat) (hi : i < 8) (w : World) : Calls Tryd.prog 20 #[.int .i64 (i : Int)] w fun e w' => e = .returned (.string (nameAt i)) ∧ w = w' := by
  have h : i = 0 ∨ i = 1 ∨ i = 2 ∨ i = 3 ∨ i = 4 ∨ i = 5 ∨ i = 6 ∨ i = 7 := by omega
  rcases h with rfl | rfl | rfl | rfl | rfl | rfl | rfl | rfl
  all_goals
    go_enter Tryd.func20, Tryd.ntmps20
    go_wp2
    go_ret
    exact ⟨by kernel_rfl, rfl⟩
set_option maxRecDepth 100000 in
theorem name_neg (w : World) : Calls Tryd.prog 20 #[.int .i64 (-3)] w fun e w' => e = .returned (.string ⟨#[97]⟩) ∧ w = w' := by
  go_enter Tryd.func20, Tryd.ntmps20
  go_wp2
  go_ret
  exact ⟨by kernel_rfl, rfl⟩
set_option maxRecDepth 100000 in
theorem small_1 (w : World) : Calls Tryd.prog 79 #[.int .i64 1] w fun e w' => e = .returned (.string ⟨#[49]⟩) ∧ w = w' := by
  go_enter Tryd.func79, Tryd.ntmps79
  go_wp2
  go_ret
  exact ⟨by kernel_rfl, rfl⟩
theorem fmt_1 (w : World) : Calls Tryd.prog 70 #[.int .i64 1, .int .i64 10] w fun e w' => e = .returned (.string ⟨#[49]⟩) ∧ w = w' := by
  go_enter Tryd.func70, Tryd.ntmps70
  go_wp2_with (go_at_call 79; refine (small_1 _).mono ?_; rintro e w' ⟨rfl, rfl⟩)
  go_ret
  exact ⟨by kernel_rfl, rfl⟩
theorem iItoa_1 (w : World) : Calls Tryd.prog 49 #[.int .i64 1] w fun e w' => e = .returned (.string ⟨#[49]⟩) ∧ w = w' := by
  go_enter Tryd.func49, Tryd.ntmps49
  go_wp2_with (go_at_call 70; refine (fmt_1 _).mono ?_; rintro e w' ⟨rfl, rfl⟩)
  go_ret
  exact ⟨rfl, rfl⟩
theorem itoa_1 (w : World) : Calls Tryd.prog 38 #[.int .i64 1] w fun e w' => e = .returned (.string ⟨#[49]⟩) ∧ w = w' := by
  go_enter Tryd.func38, Tryd.ntmps38
  go_wp2_with (go_at_call 49; refine (iItoa_1 _).mono ?_; rintro e w' ⟨rfl, rfl⟩)
  go_ret
  exact ⟨rfl, rfl⟩
set_option maxRecDepth 100000 in
theorem name_27 (w : World) : Calls Tryd.prog 20 #[.int .i64 27] w fun e w' => e = .returned (.string ⟨#[98, 49]⟩) ∧ w = w' := by
  go_enter Tryd.func20, Tryd.ntmps20
  go_wp2_with (go_at_call 38; refine (itoa_1 _).mono ?_; rintro e w' ⟨rfl, rfl⟩)
  go_ret
  exact ⟨by kernel_rfl, rfl⟩
theorem name_0 (w : World) : Calls Tryd.prog 20 #[.int .i64 0] w fun e w' => e = .returned (.string ⟨#[97]⟩) ∧ w = w' := by
  have h := name_low 0 (by decide) w
  have e : nameAt 0 = ⟨#[97]⟩ := by decide
  rw [e] at h
  exact h
set_option maxRecDepth 100000 in
theorem first8_any (w : World) : Calls Tryd.prog 5 #[] w fun e w' => e = .returned (.bool true) ∧ w = w' := by
  go_enter Tryd.func5, Tryd.ntmps5
  go_wp2_with (go_at_call 20; fail)
  refine (name_27 _).mono ?_
  rintro e w' ⟨rfl, rfl⟩
  go_wp2_with (go_at_call 20; fail)
  refine (name_0 _).mono ?_
  rintro e w' ⟨rfl, rfl⟩
  go_wp2_with (go_at_call 20; fail)
  refine (name_neg _).mono ?_
  rintro e w' ⟨rfl, rfl⟩
  go_wp2
  go_ret
  exact ⟨rfl, rfl⟩
end Go.Proofs.YtjnlchhikdfifaaDoor
/- scheme.newNames: the first names that are not taken. -/
namespace Go.Proofs.YtjnlchhikdfifaaDoor
open Go.RowKit Go.Maps
attribute [local go_sem] Oper.semAt_some

theorem nodup_lenS {α : Type} [DecidableEq α] {l R : List α} (hn : l.Nodup) (hs : ∀ i ∈ l, i ∈ R) : l.length ≤ R.length := by
  induction l generalizing R with
  | nil => exact Nat.zero_le _
  | cons a l ih =>
    have hp := List.perm_cons_erase (hs a (by simp))
    have hn' := List.nodup_cons.1 hn
    have := ih (R := R.erase a) hn'.2 fun j hj => (List.mem_erase_of_ne (fun e => hn'.1 (by rw [← e]; exact hj))).2 (hs j (List.mem_cons_of_mem _ hj))
    rw [hp.length_eq, List.length_cons, List.length_cons]; omega
open Classical in
theorem grown_apart2 {base M m : Nat} {S : ByteArray → Bool} {va vb v4 : Value} {p q : List ByteArray} {nm : ByteArray} {w wr W4 : World} {o1 o2 : Obj} (hva : OwnT base va p wr) (hvb : OwnT base vb q wr) (hap : va.ownBlock = none ∨ va.ownBlock ≠ vb.ownBlock) (hM : SetV M m S wr) (hb : Below w.heap.size w wr) (hbase : w.heap.size ≤ base)
    (ho : W4.ownsRow base 9 1 v4 (p.length + 1) (p.map Value.string ++ [.string nm])) (hg : ((wr.alloc o1).alloc o2).grownBy W4 va.ownBlock) (hat : v4.ownBlock = va.ownBlock ∨ v4.ownBlock = some ((wr.alloc o1).alloc o2).heap.size) :
    OwnT base v4 (p ++ [nm]) W4 ∧ OwnT base vb q W4 ∧ (v4.ownBlock = none ∨ v4.ownBlock ≠ vb.ownBlock) ∧ SetV M m S W4 ∧ Below w.heap.size w W4 :=
  grown_apart hva hvb hap hM hb hbase ho hg (by simpa using hat)
/-- The first i names, but those that are taken. -/
noncomputable def newsTo (taken : List ByteArray) (i : Nat) : List ByteArray := ((List.range i).map nameAt).filter fun x => !inB taken x
theorem newsTo_succ (taken : List ByteArray) (i : Nat) : newsTo taken (i + 1) = if inB taken (nameAt i) = true then newsTo taken i else newsTo taken i ++ [nameAt i] := by
  unfold newsTo
  rw [List.range_succ, List.map_append, List.filter_append]
  cases h : inB taken (nameAt i) <;> simp [h]
theorem nameAt_inj {i j : Nat} (hi : i < 100) (hj : j < 100) (h : nameAt i = nameAt j) : i = j := by
  have h1 : UInt8.ofNat (97 + i) = UInt8.ofNat (97 + j) := by simpa [nameAt] using h
  have h2 := congrArg UInt8.toNat h1
  simp only [UInt8.toNat_ofNat'] at h2
  omega
theorem names_nodup (i : Nat) (hi : i ≤ 100) : ((List.range i).map nameAt).Nodup := by
  rw [List.nodup_iff_pairwise_ne, List.pairwise_map]
  refine List.Pairwise.imp_of_mem (fun {a b} ha hb hab e => hab (nameAt_inj (by have := List.mem_range.1 ha; omega) (by have := List.mem_range.1 hb; omega) e)) List.nodup_range
theorem newsTo_nodup (taken : List ByteArray) (i : Nat) (hi : i ≤ 100) : (newsTo taken i).Nodup := (names_nodup i hi).filter _
theorem newsTo_free {taken : List ByteArray} {i : Nat} {x : ByteArray} (h : x ∈ newsTo taken i) : x ∉ taken := fun hx => by
  have := (List.mem_filter.1 h).2
  rw [inB_iff.2 hx] at this
  cases this
theorem newsTo_size {taken : List ByteArray} {i : Nat} {x : ByteArray} (h : x ∈ newsTo taken i) : x.size = 1 := by
  obtain ⟨k, _, rfl⟩ := List.mem_map.1 (List.mem_filter.1 h).1
  rfl
/-- Of so many no more than are taken are left out. -/
theorem newsTo_len (taken : List ByteArray) (i : Nat) (hi : i ≤ 100) : i ≤ (newsTo taken i).length + taken.length := by
  have h1 : ((List.range i).map nameAt).length = i := by simp
  have h2 := nodup_lenS ((names_nodup i hi).filter (fun x => inB taken x)) (R := taken) (fun x hx => inB_iff.1 (List.mem_filter.1 hx).2)
  have h3 : ∀ l : List ByteArray, l.length = (l.filter fun x => !inB taken x).length + (l.filter fun x => inB taken x).length := by
    intro l
    induction l with
    | nil => rfl
    | cons a l ih => cases h : inB taken a <;> simp [h] <;> omega
  have h4 := h3 ((List.range i).map nameAt)
  unfold newsTo
  omega
theorem newsTo_next {taken : List ByteArray} {i n : Nat} (h : i + 1 ≤ n + taken.length) (hlt : (newsTo taken i).length < n) (e : newsTo taken (i + 1) = if inB taken (nameAt i) = true then newsTo taken i else newsTo taken i ++ [nameAt i]) : i + 1 ≤ n + taken.length ∧ (newsTo taken (i + 1)).length ≤ n := by
  refine ⟨h, ?_⟩
  rw [e]
  by_cases hx : inB taken (nameAt i) = true
  · rw [if_pos hx]; omega
  · rw [if_neg hx, List.length_append, List.length_singleton]; omega
/-- What newNames hands back. -/
def NewN (n : Nat) (taken names : List ByteArray) : Prop := names.length = n ∧ names.Nodup ∧ (∀ x ∈ names, x ∉ taken ∧ x.size = 1)
/-- Where its loop stands. -/
def NewI (w : World) (M m : Nat) (taken : List ByteArray) (i : Nat) (v : Value) (wr : World) : Prop :=
  OwnT w.heap.size v (newsTo taken i) wr ∧ SetV M m (inB taken) wr ∧ Below w.heap.size w wr
theorem own_made (base : Nat) (w : World) (n : Nat) (hb : base ≤ w.heap.size) (hn : n ≤ 1000000) : OwnT base (.slice (some ⟨w.heap.size, 0, none⟩) 0 n) [] (w.alloc (.cells (madeCells #[.string ⟨#[]⟩] n) 9)) :=
  World.ownsRow_made (base := base) (e := 9) (size := 1) w _ n hb (by unfold maxLen; omega) (by rw [size_madeCells, Nat.mul_one])
theorem newI_a {w w1 : World} {n M m : Nat} {taken : List ByteArray} (hn : n ≤ 1000000) (hM : SetV M m (inB taken) w1) (hb : Below (w.alloc (.cells (madeCells #[.string ⟨#[]⟩] n) 9)).drew.heap.size (w.alloc (.cells (madeCells #[.string ⟨#[]⟩] n) 9)).drew w1) : NewI w M m taken 0 (.slice (some ⟨w.heap.size, 0, none⟩) 0 n) w1 :=
  ⟨OwnT.below (w := (w.alloc (.cells (madeCells #[.string ⟨#[]⟩] n) 9)).drew) (own_made w.heap.size w n (Nat.le_refl _) hn) hb, hM, (((Below.refl w.heap.size w).alloc (Nat.le_refl _) (.cells (madeCells #[.string ⟨#[]⟩] n) 9)).drew).trans (hb.mono (by show w.heap.size ≤ (w.alloc _).heap.size; simp))⟩
theorem newI_b {w w1 : World} {n M m : Nat} {taken : List ByteArray} (hn : n ≤ 1000000) (hM : SetV M m (inB taken) w1) (hb : Below w.drew.heap.size w.drew w1) : NewI w M m taken 0 (.slice (some ⟨w1.heap.size, 0, none⟩) 0 n) (w1.alloc (.cells (madeCells #[.string ⟨#[]⟩] n) 9)) :=
  ⟨own_made w.heap.size w1 n hb.size hn, hM.below ((Below.refl _ w1).alloc (Nat.le_refl _) _), (((Below.refl w.heap.size w).drew).trans hb).alloc hb.size _⟩
end Go.Proofs.YtjnlchhikdfifaaDoor
/- The document's copy of a row of predicates. -/
namespace Go.Proofs.YtjnlchhikdfifaaDoor
open Go.RowKit Go.Sort Go.Lib
attribute [local go_sem] Oper.semAt_some

set_option maxRecDepth 100000 in
set_option maxHeartbeats 4000000 in
theorem rPreds_any (g o cap : Nat) (l : List PR) (w : World) (hl : l.length ≤ 1000) (hg : g < w.heap.size)
    (hcell : ∀ i, i < l.length → w.cell? ⟨g, o + i * 4, none⟩ = some (.string (l.getD i noP).n) ∧ w.cell? ⟨g, o + i * 4 + 1, none⟩ = some (.int .i64 (l.getD i noP).t.kind) ∧ w.cell? ⟨g, o + i * 4 + 2, none⟩ = some (.string (l.getD i noP).t.name) ∧ w.cell? ⟨g, o + i * 4 + 3, none⟩ = some (.slice (l.getD i noP).a (l.getD i noP).t.kids.length (l.getD i noP).c)) :
    Calls Tryd.prog 10 #[.slice (some ⟨g, o, none⟩) l.length cap] w fun e w' => (∃ v, e = .returned v ∧ w'.ownsRow w.heap.size 35 4 v l.length (cellsP l)) ∧ Below w.heap.size w w' := by
  obtain ⟨i0, hi, hz0, hz1, hz2⟩ := info_parts Tryd.infoPred
  have hmk : ∀ W : World, (Instr.makeSlice 24 (.int .i64 0) (.int .i64 (l.length : Int))).run Tryd.prog W = .ok (.slice (some ⟨W.heap.size, 0, none⟩) 0 l.length) (W.alloc (.cells (madeCells #[.string ⟨#[]⟩, .int .i64 0, .string ⟨#[]⟩, .slice none 0 0] (l.length * 4)) 35)) := fun W => by
    have hr := run_make (P := Tryd.prog) W 24 35 i0 _ Tryd.underlying24 hi hz0 .i64 .i64 0 l.length (Int.le_refl _) (by omega) (by rw [hz2]; omega) (by omega)
    simp only [Int.toNat_natCast, hz1] at hr
    exact hr
  have HO0 := Lib.hid (show (w.alloc (.cells (madeCells #[.string ⟨#[]⟩, .int .i64 0, .string ⟨#[]⟩, .slice none 0 0] (l.length * 4)) 35)).ownsRow w.heap.size 35 4 (.slice (some ⟨w.heap.size, 0, none⟩) 0 l.length) 0 [] from World.ownsRow_made (base := w.heap.size) (e := 35) (size := 4) w _ l.length (Nat.le_refl _) (by unfold maxLen; omega) (by rw [size_madeCells]))
  have HB0 := Lib.hid ((Below.refl w.heap.size w).alloc (Nat.le_refl _) (.cells (madeCells #[.string ⟨#[]⟩, .int .i64 0, .string ⟨#[]⟩, .slice none 0 0] (l.length * 4)) 35))
  have HCell := Lib.hid hcell
  clear hcell
  go_enter Tryd.func10, Tryd.ntmps10
  go_wp2_with fail
  go_loopw [3, 4] (fun vl vi wr => ∃ i : Nat, i ≤ l.length ∧ vi = .int .i64 i ∧ Hid (wr.ownsRow w.heap.size 35 4 vl i (cellsP (l.take i))) ∧ Hid (Below w.heap.size w wr)) (fun _ vi _ => l.length - (intOf vi).toNat)
  case atStart => exact ⟨0, Nat.zero_le _, rfl, HO0, HB0⟩
  case round =>
    obtain ⟨i, hi', rfl, hO, hB⟩ := hrel
    obtain ⟨va, vc, rfl⟩ := row_val hO.out
    by_cases hlt : i < l.length
    · have hltI : (i : Int) < (l.length : Int) := by omega
      obtain ⟨x0, x1, x2, x3⟩ := HCell.out i hlt
      have c0 := (hB.out.cell (p := ⟨g, o + i * 4, none⟩) hg).trans x0
      have c1 := (hB.out.cell (p := ⟨g, o + i * 4 + 1, none⟩) hg).trans x1
      have c2 := (hB.out.cell (p := ⟨g, o + i * 4 + 2, none⟩) hg).trans x2
      have c3 := (hB.out.cell (p := ⟨g, o + i * 4 + 3, none⟩) hg).trans x3
      have HT := Lib.hid (show cellsP (l.take (i + 1)) = cellsP (l.take i) ++ encP (l.getD i noP) by
        rw [List.take_succ_eq_append_getElem hlt, cellsP_snoc, show l.getD i noP = l[i] by simp [List.getD, hlt]])
      clear x0 x1 x2 x3
      generalize l.getD i noP = x at *
      have hz := hB.out.size
      go_wp2_with (at_builtin; refine wpList_append_own _ rfl _ _ 24 rfl w.heap.size 35 i0 (.agg #[.string ⟨#[]⟩, .int .i64 0, .string ⟨#[]⟩, .slice none 0 0]) 4 64 Tryd.underlying24 hi hz0 hz1 hz2 rfl (by decide) _ _ _ rfl (hO.out.alloc _) ⟨wr.heap.size, 0, none⟩ 1 1 (encP x) rfl rfl (cell_new4 _ _ _ _ _ _) (by simp [encP, Value.oneCell']) ?c3 ?c4 ?c5 ?_)
      case c3 => unfold maxLen; omega
      case c4 => omega
      case c5 => simp; omega
      intro v' W3 hown3 hgrow _
      have hb3 : Below w.heap.size w W3 := (hB.out.alloc hz _).grown hgrow (by simp; omega) (fun j hj => (hO.out.lt j hj).1)
      have HO3 := Lib.hid hown3; have HB3 := Lib.hid hb3
      clear hown3 hgrow hb3
      go_wp2
      go_roundw
      case rel => exact ⟨i + 1, by omega, by go_num, Lib.hid (by rw [HT.out]; exact HO3.out), HB3⟩
      case measure => simp [intOf]; omega
    · obtain rfl : i = l.length := by omega
      have HE := Lib.hid (And.intro hO.out hB.out)
      clear hO hB
      go_wp2
      go_ret
      exact ⟨⟨_, rfl, by have := HE.out.1; rwa [List.take_length] at this⟩, HE.out.2⟩
end Go.Proofs.YtjnlchhikdfifaaDoor
/- SchemeSorts: rows of predicates that are read. -/
namespace Go.Proofs.YtjnlchhikdfifaaDoor
open Go.RowKit Go.Sort Go.Lib
attribute [local go_sem] Oper.semAt_some

/-- Block g holds the predicates ls, to be read. -/
def RowF (g : Nat) (ls : List PR) (V : World) : Prop := ∃ cs fz, V.heap[g]? = some (.cells cs 35 fz) ∧ ∀ i, i < ls.length →
    cs[i * 4]? = some (.string (ls.getD i noP).n) ∧ cs[i * 4 + 1]? = some (.int .i64 (ls.getD i noP).t.kind) ∧ cs[i * 4 + 2]? = some (.string (ls.getD i noP).t.name) ∧ cs[i * 4 + 3]? = some (.slice (ls.getD i noP).a (ls.getD i noP).t.kids.length (ls.getD i noP).c)
theorem RowF.lt {g : Nat} {ls : List PR} {V : World} (h : RowF g ls V) : g < V.heap.size := by obtain ⟨_, _, h, _⟩ := h; exact (Array.getElem?_eq_some_iff.1 h).1
theorem RowF.below {g : Nat} {ls : List PR} {V Y : World} (h : RowF g ls V) (hb : Below V.heap.size V Y) : RowF g ls Y := by
  have hl := h.lt
  obtain ⟨cs, fz, h1, h2⟩ := h; exact ⟨cs, fz, (hb.block g hl).trans h1, h2⟩
theorem RowF.cells {g : Nat} {ls : List PR} {V : World} (h : RowF g ls V) {i : Nat} (hi : i < ls.length) :
    V.cell? ⟨g, i * 4, none⟩ = some (.string (ls.getD i noP).n) ∧ V.cell? ⟨g, i * 4 + 1, none⟩ = some (.int .i64 (ls.getD i noP).t.kind) ∧ V.cell? ⟨g, i * 4 + 2, none⟩ = some (.string (ls.getD i noP).t.name) ∧ V.cell? ⟨g, i * 4 + 3, none⟩ = some (.slice (ls.getD i noP).a (ls.getD i noP).t.kids.length (ls.getD i noP).c) := by
  obtain ⟨cs, fz, h1, h2⟩ := h
  rw [Lib.cell_of_heap h1, Lib.cell_of_heap h1, Lib.cell_of_heap h1, Lib.cell_of_heap h1]
  exact h2 i hi
/-- v is a row of the predicates ls. -/
def PV (ls : List PR) (v : Value) (V : World) : Prop := Typ ls V ∧ ((ls = [] ∧ ∃ a c, v = .slice a 0 c) ∨ ∃ g cap, v = .slice (some ⟨g, 0, none⟩) ls.length cap ∧ ls.length ≤ cap ∧ RowF g ls V)
theorem PV.below {ls : List PR} {v : Value} {V Y : World} (h : PV ls v V) (hb : Below V.heap.size V Y) : PV ls v Y :=
  ⟨h.1.keep (KeepT.of_below hb), h.2.imp id fun ⟨g, cap, e, hc, hr⟩ => ⟨g, cap, e, hc, hr.below hb⟩⟩
theorem PV.shape {ls : List PR} {v : Value} {V : World} (h : PV ls v V) : ∃ a c, v = .slice a ls.length c := by
  rcases h.2 with ⟨rfl, a, c, rfl⟩ | ⟨g, cap, rfl, _, _⟩
  · exact ⟨a, c, rfl⟩
  · exact ⟨_, _, rfl⟩
theorem PV.row {ls : List PR} {a : Option Addr} {c : Nat} {V : World} (h : PV ls (.slice a ls.length c) V) (h0 : 0 < ls.length) : ∃ g, a = some ⟨g, 0, none⟩ ∧ ls.length ≤ c ∧ RowF g ls V := by
  rcases h.2 with ⟨rfl, _⟩ | ⟨g, cap, e, hc, hr⟩
  · simp at h0
  · cases e; exact ⟨g, rfl, hc, hr⟩
theorem PV.of_prs {w : World} {v : Value} {l : List Pr} (h : PrsAt w v l) : ∃ ls : List PR, ls.map prOf = l ∧ PV ls v w := by
  rcases h with ⟨rfl, a, c, rfl⟩ | ⟨g, cap, cs, fz, u, rfl, h1, h2, h3⟩
  · exact ⟨[], rfl, (fun x hx => nomatch hx), .inl ⟨rfl, a, c, rfl⟩⟩
  · have key : ∀ i : Fin l.length, ∃ x : PR, prOf x = l[i] ∧ u i = .slice x.a x.t.kids.length x.c := fun i => by
      obtain ⟨a, c, e⟩ := (h3 i i.2).2.shape
      exact ⟨⟨l[i].1, l[i].2, a, c⟩, rfl, e⟩
    obtain ⟨f, hf⟩ := Classical.axiomOfChoice key
    have hlen : (List.ofFn f).length = l.length := List.length_ofFn
    have hget : ∀ i (hi : i < l.length), (List.ofFn f).getD i noP = f ⟨i, hi⟩ := fun i hi => by simp [List.getD, hi]
    refine ⟨List.ofFn f, ?_, fun x hx => ?_, .inr ⟨g, cap, by rw [hlen], by rw [hlen]; exact h2, cs, fz, h1, fun i hi => ?_⟩⟩
    · apply List.ext_getElem
      · simp
      · intro i h1 h2; simpa using (hf ⟨i, h2⟩).1
    · obtain ⟨i, hi, rfl⟩ := List.mem_iff_getElem.1 hx
      have hi' : i < l.length := by simpa using hi
      obtain ⟨e1, e2⟩ := hf ⟨i, hi'⟩
      have := (h3 i hi').2
      rw [List.getElem_ofFn, ← e2]
      rwa [show l[i].2 = (f ⟨i, hi'⟩).t from by have := congrArg Prod.snd e1; exact this.symm] at this
    · have hi' : i < l.length := by rw [hlen] at hi; exact hi
      rw [hget i hi']
      obtain ⟨e1, e2⟩ := hf ⟨i, hi'⟩
      have a1 : l[i].1 = (f ⟨i, hi'⟩).n := (congrArg Prod.fst e1).symm
      have a2 : l[i].2 = (f ⟨i, hi'⟩).t := (congrArg Prod.snd e1).symm
      have := (h3 i hi').1
      rw [a1, a2] at this
      exact ⟨this.1, this.2.1, this.2.2.1, this.2.2.2.trans (congrArg some e2)⟩
/-- Two rows in order that hold the same predicates are one. -/
theorem strict_unique : ∀ (l m : List PR), l.Pairwise (fun x y => cmpR x y < 0) → m.Pairwise (fun x y => cmpR x y < 0) → (∀ q, q ∈ l.map prOf ↔ q ∈ m.map prOf) → l.map prOf = m.map prOf
  | [], [], _, _, _ => rfl
  | [], y :: m, _, _, h => nomatch (h (prOf y)).2 (by simp)
  | x :: l, [], _, _, h => nomatch (h (prOf x)).1 (by simp)
  | x :: l, y :: m, hl, hm, h => by
    obtain ⟨hx, hl'⟩ := List.pairwise_cons.1 hl
    obtain ⟨hy, hm'⟩ := List.pairwise_cons.1 hm
    have pc : ∀ {a b c d : PR}, prOf a = prOf c → prOf b = prOf d → cmpR a b = cmpR c d := fun {a b c d} e1 e2 => by
      have n1 : a.n = c.n := congrArg Prod.fst e1
      have t1 : a.t = c.t := congrArg Prod.snd e1
      have n2 : b.n = d.n := congrArg Prod.fst e2
      have t2 : b.t = d.t := congrArg Prod.snd e2
      unfold cmpR; rw [n1, t1, n2, t2]
    have hself : ∀ a : PR, cmpR a a = 0 := fun a => (cmpR_zero a a).2 ⟨rfl, rfl⟩
    have hxy : prOf x = prOf y := by
      obtain ⟨z, hz, e⟩ := List.mem_map.1 ((h (prOf x)).1 (by simp))
      obtain ⟨z', hz', e'⟩ := List.mem_map.1 ((h (prOf y)).2 (by simp))
      rcases List.mem_cons.1 hz with rfl | hz
      · exact e.symm
      · rcases List.mem_cons.1 hz' with rfl | hz'
        · exact e'
        · have h1 := hy z hz
          have h2 := hx z' hz'
          rw [pc rfl e] at h1
          rw [pc rfl e', cmpR_neg y x] at h2
          omega
    have hrest : l.map prOf = m.map prOf := strict_unique l m hl' hm' fun q => by
      have hq := h q
      simp only [List.map_cons, List.mem_cons] at hq
      rw [hxy] at hq
      have n1 : prOf y ∉ l.map prOf := fun hm => by
        obtain ⟨z, hz, e⟩ := List.mem_map.1 hm
        have h1 := hx z hz
        rw [pc (c := y) (d := y) hxy e, hself] at h1
        omega
      have n2 : prOf y ∉ m.map prOf := fun hm => by
        obtain ⟨z, hz, e⟩ := List.mem_map.1 hm
        have h1 := hy z hz
        rw [pc (c := y) (d := y) rfl e, hself] at h1
        omega
      constructor
      · intro hin
        rcases hq.1 (.inr hin) with rfl | h
        · exact absurd hin n1
        · exact h
      · intro hin
        rcases hq.2 (.inr hin) with rfl | h
        · exact absurd hin n2
        · exact h
    rw [List.map_cons, List.map_cons, hxy, hrest]
end Go.Proofs.YtjnlchhikdfifaaDoor
/- SchemeSorts: what its loops keep. -/
namespace Go.Proofs.YtjnlchhikdfifaaDoor
open Go.RowKit Go.Sort Go.Lib
attribute [local go_sem] Oper.semAt_some

/-- Two rows, as they were. -/
def SsI (w : World) (ps xs : List PR) (pa xa : Option Addr) (pc xc : Nat) (V : World) : Prop := PV ps (.slice pa ps.length pc) V ∧ PV xs (.slice xa xs.length xc) V ∧ Below w.heap.size w V
theorem SsI.below {w : World} {ps xs : List PR} {pa xa : Option Addr} {pc xc : Nat} {V Y : World} (h : SsI w ps xs pa xa pc xc V) (hb : Below V.heap.size V Y) : SsI w ps xs pa xa pc xc Y := ⟨h.1.below hb, h.2.1.below hb, h.2.2.trans (hb.mono h.2.2.size)⟩
/-- Is it one of the first k? -/
noncomputable def inK (ls : List PR) (q : Pr) (k : Nat) : Bool := (ls.take k).any fun y => eqB (prOf y) q
noncomputable def inK' (ls : List PR) (q : Pr) (k : Nat) : Bool := (ls.take k).any fun y => eqB q (prOf y)
theorem inK_succ {ls : List PR} {q : Pr} {k : Nat} (hk : k < ls.length) : inK ls q (k + 1) = (inK ls q k || eqB (prOf (ls.getD k noP)) q) := by
  unfold inK
  rw [List.take_succ_eq_append_getElem hk, List.any_append, show ls.getD k noP = ls[k] by simp [List.getD, hk]]; simp
theorem inK'_succ {ls : List PR} {q : Pr} {k : Nat} (hk : k < ls.length) : inK' ls q (k + 1) = (inK' ls q k || eqB q (prOf (ls.getD k noP))) := by
  unfold inK'
  rw [List.take_succ_eq_append_getElem hk, List.any_append, show ls.getD k noP = ls[k] by simp [List.getD, hk]]; simp
theorem inK_all {ls : List PR} {q : Pr} (h : q ∈ ls.map prOf) : inK ls q ls.length = true := by
  obtain ⟨x, hx, e⟩ := List.mem_map.1 h
  unfold inK
  rw [List.take_length, List.any_eq_true]
  exact ⟨x, hx, eqB_true e⟩
theorem inK'_all {ls : List PR} {q : Pr} (h : q ∈ ls.map prOf) : inK' ls q ls.length = true := by
  obtain ⟨x, hx, e⟩ := List.mem_map.1 h
  unfold inK'
  rw [List.take_length, List.any_eq_true]
  exact ⟨x, hx, eqB_true e.symm⟩
theorem strict_congr {l m : List PR} (h : l.map prOf = m.map prOf) (hl : l.Pairwise (fun x y => cmpR x y < 0)) : m.Pairwise (fun x y => cmpR x y < 0) := by
  have e : ∀ k : List PR, k.Pairwise (fun x y => cmpR x y < 0) ↔ (k.map prOf).Pairwise (fun p q : Pr => orI (cmpL p.1.data.toList q.1.data.toList) (cmpT p.2 q.2) < 0) := fun k => by
    rw [List.pairwise_map]; exact Iff.rfl
  rw [e, ← h, ← e]; exact hl
theorem strict_at {xs : List PR} (h : xs.Pairwise (fun x y => cmpR x y < 0)) {i : Nat} (hi : i + 1 < xs.length) : cmpR (xs.getD i noP) (xs.getD (i + 1) noP) < 0 := by
  have := List.pairwise_iff_getElem.1 h i (i + 1) (by omega) hi (by omega)
  simpa [List.getD, hi, show i < xs.length by omega] using this
theorem strict_len {xs : List PR} {l : List Pr} (h : xs.Pairwise (fun x y => cmpR x y < 0)) (hs : ∀ q ∈ xs.map prOf, q ∈ l) : xs.length ≤ l.length := by
  classical
  have hn : (xs.map prOf).Nodup := by
    unfold List.Nodup
    rw [List.pairwise_map]
    exact h.imp fun {x y} hlt e => by
      have : cmpR x y = 0 := (cmpR_zero x y).2 ⟨congrArg Prod.fst e, congrArg Prod.snd e⟩
      omega
  have := nodup_lenS hn hs
  simpa using this
theorem less_of {x y : PR} (h : cmpR x y < 0) : Op.bytesLess y.n.toList x.n.toList = false ∧ ((y.n.toList == x.n.toList) = true → cmpT x.t y.t < 0) := by
  have e1 : ∀ a : ByteArray, a.toList = a.data.toList := fun a => Lib.toList_data a
  unfold cmpR at h
  have hu := cmpL_unit x.n.data.toList y.n.data.toList
  have hn := cmpL_neg x.n.data.toList y.n.data.toList
  constructor
  · rw [e1, e1, less_cmpL, hn]
    have : ¬ (- cmpL x.n.data.toList y.n.data.toList < 0) := by
      intro hp
      rw [orI, if_neg (by omega)] at h
      omega
    exact decide_eq_false this
  · intro he
    rw [e1, e1, beq_cmpL] at he
    have he := of_decide_eq_true he
    rw [orI, if_pos (by omega)] at h
    exact h
theorem modNS (z : Int) (n : Nat) (hn : 0 < n) (h6 : n ≤ 6) : ∃ k : Nat, k < n ∧ (wrap64 (z.tmod (n : Int) + (n : Int))).tmod (n : Int) = (k : Int) := by
  have k1 := Int.tmod_lt_of_pos z (show (0 : Int) < (n : Int) by omega)
  have k2 := Int.lt_tmod_of_pos z (show (0 : Int) < (n : Int) by omega)
  have e : wrap64 (z.tmod (n : Int) + (n : Int)) = z.tmod (n : Int) + (n : Int) := by unfold wrap64; omega
  rw [e]
  have k3 := Int.tmod_lt_of_pos (z.tmod (n : Int) + (n : Int)) (show (0 : Int) < (n : Int) by omega)
  have k4 := Int.tmod_nonneg (n : Int) (show 0 ≤ z.tmod (n : Int) + (n : Int) by omega)
  exact ⟨((z.tmod (n : Int) + (n : Int)).tmod (n : Int)).toNat, by omega, by omega⟩
end Go.Proofs.YtjnlchhikdfifaaDoor
/- A region that draws its order and ends with an append and the assignment of what it gives: all but these two by an invariant. -/
namespace Go.Proofs.YtjnlchhikdfifaaDoor

section
variable {P : Program} {ops : Array Oper} {Q : Exit → Act → World → Prop} {fr : (Nat → Value) → Act} {S : World → Prop} {Rel : World → World → Prop} {Vals : Nat → Value → World → Prop} {s : Nat}

/-- What is asked of the last operation, behind the last but one. -/
def LastOf (P : Program) (ops : Array Oper) (Q : Exit → Act → World → Prop) (o : Oper) (a : Act) (w : World) : Prop :=
  ∀ K : Act → World → Prop, (∀ v w', Q .normal (a.put o.dst v) w' → K (a.put o.dst v) w') → if Region.wanted o (yielded ops a.tmps) = true then Oper.wp P o a w K Q else K (a.put o.dst undef) w

theorem count_low {l : Array Bool} (hz : l.size = s + 2) (h0 : l.getD s false = false) (h1 : l.getD (s + 1) false = false) : l.toList.count true ≤ s := by
  have hl : l.toList.length = s + 2 := by simpa using hz
  have : l.toList.count true = (l.toList.take s).count true + (l.toList.drop s).count true := by rw [← List.count_append, List.take_append_drop]
  have hd : (l.toList.drop s).count true = 0 := by
    rw [List.count_eq_zero]
    intro hm
    obtain ⟨k, hk, e⟩ := List.getElem_of_mem hm
    rw [List.length_drop, hl] at hk
    rw [List.getElem_drop] at e
    have : k = 0 ∨ k = 1 := by omega
    rcases this with rfl | rfl
    · simp [show s < l.size by omega] at h0; simp at e; rw [h0] at e; cases e
    · simp [show s + 1 < l.size by omega] at h1; simp at e; rw [h1] at e; cases e
  have ht : (l.toList.take s).count true ≤ s := Nat.le_trans List.count_le_length (by rw [List.length_take]; omega)
  omega

theorem tail_any {o1 o2 : Oper} (ho1 : ops[s]? = some o1) (ho2 : ops[s + 1]? = some o2) (hsz : ops.size = s + 2) (hput : ∀ i o, i < s → ops[i]? = some o → StepAt P fr S Rel Vals ops Q i o)
    (hb1 : ∀ e ∈ o1.after, Region.binds .any e = true → e.on < s) (hb2 : ∀ e ∈ o2.after, Region.binds .any e = true → e.on < s + 1) (hd2 : ∃ e ∈ o2.after, Region.binds .any e = true ∧ e.on = s)
    (hcov : ∀ i, i < s → ∃ j o e, i < j ∧ j ≤ s ∧ ops[j]? = some o ∧ e ∈ o.after ∧ Region.binds .any e = true ∧ e.on = i)
    (hrel : ∀ w w', S w → Rel w w' → S w') (hval : ∀ i v w w', S w → Vals i v w → Rel w w' → Vals i v w')
    (hlast : ∀ x w, S w → (∀ i, i < s → Vals i (x i) w) → ∀ K : Act → World → Prop, (∀ v w', LastOf P ops Q o2 ((fr x).put o1.dst v) w' → K ((fr x).put o1.dst v) w') →
      if Region.wanted o1 (yielded ops (fr x).tmps) = true then Oper.wp P o1 (fr x) w K Q else K ((fr x).put o1.dst undef) w) :
    ∀ (fuel : Nat) (listed : Array Bool) (x : Nat → Value) (w : World), listed.size = ops.size → ops.size ≤ fuel + listed.toList.count true → S w → listed.getD s false = false → listed.getD (s + 1) false = false →
      (∀ j o, listed.getD j false = true → ops[j]? = some o → ∀ e ∈ o.after, Region.binds .any e = true → listed.getD e.on false = true) →
      (∀ i, listed.getD i false = true → Vals i (x i) w) → wpAny P .any ops Q fuel listed (fr x) w := by
  have hback : ∀ i o, ops[i]? = some o → ∀ e ∈ o.after, Region.binds .any e = true → e.on < i := fun i o ho => by
    have hi : i < s + 2 := by rw [← hsz]; exact (Array.getElem?_eq_some_iff.1 ho).1
    by_cases e : i = s
    · subst e; rw [ho1] at ho; cases ho; exact hb1
    · by_cases e2 : i = s + 1
      · subst e2; rw [ho2] at ho; cases ho; exact hb2
      · exact (hput i o (by omega) ho).back
  have hend : ∀ (listed : Array Bool), listed.size = ops.size → listed.getD (s + 1) false = false → Region.ready .any ops listed = [] → False := fun listed hz h0 h => by
    have := all_of_none hback hz h (s + 1) (by omega)
    rw [h0] at this; cases this
  intro fuel
  induction fuel with
  | zero =>
    intro listed x w hz hc hS h0 h1 hcl hV
    have := count_low (s := s) (by omega) h0 h1
    omega
  | succ fuel ih =>
    intro listed x w hz hc hS h0 h1 hcl hV
    refine ⟨fun h => (hend listed hz h1 h).elim, fun i hi => ?_⟩
    obtain ⟨hi0, o, ho, hdep⟩ := mem_ready.1 hi
    have hlt : i < listed.size := by rw [hz]; exact (Array.getElem?_eq_some_iff.1 ho).1
    have hi0' : listed[i] = false := by simpa [hlt] using hi0
    have hsetD : ∀ j, (listed.setIfInBounds i true).getD j false = true → j = i ∨ listed.getD j false = true := fun j hj => by
      by_cases hji : j = i
      · exact .inl hji
      · rw [getD_set_ne false (Ne.symm hji)] at hj; exact .inr hj
    have hsetI : (listed.setIfInBounds i true).getD i false = true := by simp [hlt]
    have hmono : ∀ j, listed.getD j false = true → (listed.setIfInBounds i true).getD j false = true := fun j hj => by
      by_cases hji : j = i
      · subst hji; exact hsetI
      · rw [getD_set_ne false (Ne.symm hji)]; exact hj
    by_cases hi2 : i = s + 1
    · subst hi2
      rw [ho2] at ho; cases ho
      obtain ⟨e, he, hb, hon⟩ := hd2
      have := hdep e he hb
      rw [hon, h0] at this; cases this
    by_cases his : i = s
    · subst his
      rw [ho1] at ho; cases ho
      have hall : ∀ j, j < i → listed.getD j false = true := fun j hj => all_ahead hcov hcl (fun o' ho' => by rw [ho1] at ho'; cases ho'; exact hdep) (i - j) j (by omega) (by omega)
      have hcl2 := count_low (s := i) (by omega) h0 h1
      obtain ⟨fuel', rfl⟩ : ∃ f, fuel = f + 1 := ⟨fuel - 1, by omega⟩
      have hK : ∀ v w', LastOf P ops Q o2 ((fr x).put o1.dst v) w' → wpAny P .any ops Q (fuel' + 1) (listed.setIfInBounds i true) ((fr x).put o1.dst v) w' := fun v w' hq => by
        refine ⟨fun h => (hend _ (by simpa using hz) (by rw [getD_set_ne false (by omega)]; exact h1) h).elim, fun j hj => ?_⟩
        obtain ⟨hj0, oj, hoj, hjd⟩ := mem_ready.1 hj
        have hjl : j < i + 2 := by rw [← hsz]; exact (Array.getElem?_eq_some_iff.1 hoj).1
        have hj2 : j = i + 1 := by
          by_cases e : j = i
          · subst e; rw [getD_tt hsetI] at hj0; cases hj0
          · by_cases e2 : j = i + 1
            · exact e2
            · have := hmono j (hall j (by omega))
              rw [getD_tt this] at hj0; cases hj0
        subst hj2
        rw [ho2] at hoj; cases hoj
        have hK2 : ∀ v2 w2, Q .normal (((fr x).put o1.dst v).put o2.dst v2) w2 → wpAny P .any ops Q fuel' ((listed.setIfInBounds i true).setIfInBounds (i + 1) true) (((fr x).put o1.dst v).put o2.dst v2) w2 := fun v2 w2 hq2 => by
          have hlt2 : i + 1 < listed.size := by omega
          have hnone : Region.ready .any ops ((listed.setIfInBounds i true).setIfInBounds (i + 1) true) = [] := by
            cases h : Region.ready .any ops ((listed.setIfInBounds i true).setIfInBounds (i + 1) true) with
            | nil => rfl
            | cons k l =>
              have hk : k ∈ Region.ready .any ops ((listed.setIfInBounds i true).setIfInBounds (i + 1) true) := by rw [h]; simp
              obtain ⟨hk0, ok, hok, _⟩ := mem_ready.1 hk
              have hkl : k < i + 2 := by rw [← hsz]; exact (Array.getElem?_eq_some_iff.1 hok).1
              have : ((listed.setIfInBounds i true).setIfInBounds (i + 1) true).getD k false = true := by
                by_cases e : k = i + 1
                · subst e; simp [hlt2]
                · rw [getD_set_ne false (Ne.symm e)]
                  by_cases e2 : k = i
                  · subst e2; exact hsetI
                  · exact hmono k (hall k (by omega))
              rw [getD_tt this] at hk0; cases hk0
          cases fuel' with
          | zero => exact ⟨hnone, hq2⟩
          | succ f => exact ⟨fun _ => hq2, fun j hj => by rw [hnone] at hj; cases hj⟩
        have := hq _ hK2
        unfold wpOp
        simp only [ho2]
        split
        · rename_i hw; rw [if_pos hw] at this; exact .inl this
        · rename_i hw; rw [if_neg hw] at this; exact this
      have := hlast x w hS (fun j hj => hV j (hall j hj)) _ hK
      unfold wpOp
      simp only [ho1]
      split
      · rename_i hw; rw [if_pos hw] at this; exact .inl this
      · rename_i hw; rw [if_neg hw] at this; exact this
    · have hil : i < s := by have := (Array.getElem?_eq_some_iff.1 ho).1; omega
      have H := hput i o hil ho
      have hK : ∀ v w', Rel w w' → Vals i v w' → wpAny P .any ops Q fuel (listed.setIfInBounds i true) ((fr x).put o.dst v) w' := fun v w' hr hv => by
        rw [H.put]
        refine ih _ _ _ (by simpa using hz) ?_ (hrel w w' hS hr) (by rw [getD_set_ne false his]; exact h0) (by rw [getD_set_ne false hi2]; exact h1) (fun j oj hj hoj e he hb => ?_) fun j hj => ?_
        · have : (listed.setIfInBounds i true).toList.count true = listed.toList.count true + 1 := by
            rw [Array.toList_setIfInBounds, List.count_set (by simpa using hlt)]
            simp [hi0']
          omega
        · rcases hsetD j hj with rfl | hj'
          · rw [ho] at hoj; cases hoj
            exact hmono _ (hdep e he hb)
          · exact hmono _ (hcl j oj hj' hoj e he hb)
        · by_cases hji : j = i
          · subst hji; rw [upd_same]; exact hv
          · rw [upd_other x v hji]
            exact hval _ _ _ _ hS (hV j (by rw [getD_set_ne false (Ne.symm hji)] at hj; exact hj)) hr
      have := H.run x w hS (fun e he hb => hV e.on (hdep e he hb)) _ hK
      unfold wpOp
      simp only [ho]
      split
      · rename_i hw; rw [if_pos hw] at this; exact .inl this
      · rename_i hw; rw [if_neg hw] at this; exact this

/-- What is asked of all but the last two operations, and of these. -/
def AllTail (f : Nat → Oper → Prop) (g : Oper → Oper → Prop) : Nat → List Oper → Prop
  | _, [] => False
  | _, [_] => False
  | _, [o, o'] => g o o'
  | n, o :: o' :: o'' :: os => f n o ∧ AllTail f g (n + 1) (o' :: o'' :: os)
theorem AllTail.get {f : Nat → Oper → Prop} {g : Oper → Oper → Prop} : ∀ {l : List Oper} {n : Nat}, AllTail f g n l → (∀ {i : Nat} {o : Oper}, l[i]? = some o → i + 2 < l.length → f (n + i) o) ∧ (∀ {i : Nat} {o o' : Oper}, l[i]? = some o → l[i + 1]? = some o' → i + 2 = l.length → g o o')
  | [], _, h => h.elim
  | [_], _, h => h.elim
  | [a, b], n, h => ⟨fun {i o} _ hi => by simp at hi; omega, fun {i o o'} h1 h2 hi => by
      have : i = 0 := by simp at hi; omega
      subst this; simp at h1 h2; subst h1; subst h2; exact h⟩
  | a :: b :: c :: l, n, h => by
    obtain ⟨r1, r2⟩ := AllTail.get h.2
    refine ⟨fun {i o} h1 hi => ?_, fun {i o o'} h1 h2 hi => ?_⟩
    · cases i with
      | zero => simp at h1; subst h1; exact h.1
      | succ i =>
        have := r1 (i := i) (o := o) (by simpa using h1) (by simp at hi ⊢; omega)
        rw [show n + (i + 1) = n + 1 + i by omega]; exact this
    · cases i with
      | zero => simp at hi
      | succ i => exact r2 (i := i) (by simpa using h1) (by simpa using h2) (by simp at hi ⊢; omega)

/-- What is asked of the last but one. -/
structure TailAt (P : Program) (fr : (Nat → Value) → Act) (S : World → Prop) (Vals : Nat → Value → World → Prop) (ops : Array Oper) (Q : Exit → Act → World → Prop) (s : Nat) (o o2 : Oper) : Prop where
  back : ∀ e ∈ o.after, Region.binds .any e = true → e.on < s
  back2 : ∀ e ∈ o2.after, Region.binds .any e = true → e.on < s + 1
  dep : ∃ e ∈ o2.after, Region.binds .any e = true ∧ e.on = s
  run : ∀ (x : Nat → Value) (w : World), S w → (∀ i, i < s → Vals i (x i) w) → ∀ K : Act → World → Prop, (∀ v w', LastOf P ops Q o2 ((fr x).put o.dst v) w' → K ((fr x).put o.dst v) w') →
      if Region.wanted o (yielded ops (fr x).tmps) = true then Oper.wp P o (fr x) w K Q else K ((fr x).put o.dst undef) w

theorem region_tail (fr : (Nat → Value) → Act) (S : World → Prop) (Rel : World → World → Prop) (Vals : Nat → Value → World → Prop) (x0 : Nat → Value) (s : Nat) {id : Nat} {a : Act} {w : World}
    (hm : P.follows .mixedOrders = true) (ha : a = fr x0) (hS : S w.drew) (hsz : ops.size = s + 2) (hcov : covered ops s = true)
    (hrel : ∀ w w', S w → Rel w w' → S w') (hval : ∀ i v w w', S w → Vals i v w → Rel w w' → Vals i v w')
    (hops : AllTail (StepAt P fr S Rel Vals ops Q) (TailAt P fr S Vals ops Q s) 0 ops.toList) : (Code.region id ops true).wp P Q a w := by
  subst ha
  refine wp_region_any hm ?_
  obtain ⟨g1, g2⟩ := hops.get
  obtain ⟨o1, ho1⟩ : ∃ o, ops[s]? = some o := ⟨ops[s]'(by omega), Array.getElem?_eq_getElem (by omega)⟩
  obtain ⟨o2, ho2⟩ : ∃ o, ops[s + 1]? = some o := ⟨ops[s + 1]'(by omega), Array.getElem?_eq_getElem (by omega)⟩
  have T := g2 (i := s) (by simpa using ho1) (by simpa using ho2) (by simp [hsz])
  refine tail_any ho1 ho2 hsz (fun i o hi h => ?_) T.back T.back2 T.dep (covered_get hcov) hrel hval T.run _ _ _ _ (by simp) (by simp) hS (by simp [hsz]) (by simp [hsz]) (fun j o hj => ?_) (fun i hi => ?_)
  · have := g1 (i := i) (o := o) (by simpa using h) (by simp [hsz]; omega); rwa [Nat.zero_add] at this
  · by_cases h : j < ops.size
    · simp [h] at hj
    · simp [h] at hj
  · by_cases h : i < ops.size
    · simp [h] at hi
    · simp [h] at hi
end
end Go.Proofs.YtjnlchhikdfifaaDoor
/- A loop over an iterator whose rounds are told something of the memory beside what they are handed (an error that the iterator has just made), and that goes on reading blocks of its own behind a round: our own contract and our own law for the caller, over the library's steps of the loop's record. -/
namespace Go.Proofs.YtjnlchhikdfifaaDoor
open Go.RowKit

theorem grown_of_below {X Y : World} (h : Below X.heap.size X Y) : X.grownBy Y none := ⟨h.os, h.tape, h.output, h.size, fun k hk _ => h.block k hk⟩

/-- What a round keeps: the blocks from N on that were there, and those that K names. -/
structure Kept (K : Nat → Prop) (N : Nat) (X Y : World) : Prop where
  size : X.heap.size ≤ Y.heap.size
  block : ∀ k, N ≤ k ∨ K k → k < X.heap.size → Y.heap[k]? = X.heap[k]?

/-- The contract. Between two rounds the iterator may have laid blocks ('Below', from X0, where the last round ended, to X, where the next begins); the rounds may be told 'Ex x' of the world in which they are handed x; a round that goes on keeps what the iterator has laid since X0, and the blocks of K. -/
def SeqTold {α : Type} (n : Nat) (P : Program) (g : Nat) (lb : Array Value) (encs : α → Array Value) (Ex : α → World → Prop) (K : Nat → Prop) (S Sp : List α → Prop) (N : Nat) (w : World) : Prop :=
  ∀ (l : Nat) (J Jx : List α → World → Prop) (W : World), Below w.heap.size w W →
    (∀ pre x X0 X, J pre X0 → pre.length < N → Below X0.heap.size X0 X → Ex x X → YieldAt Fence.wide (n - 1) P l (encs x) X fun e Y =>
      (e = .returned (.bool true) ∧ J (pre ++ [x]) Y ∧ Kept K X0.heap.size X Y) ∨ (e = .returned (.bool false) ∧ Jx (pre ++ [x]) Y)) →
    J [] W →
    CallsIn Fence.wide n P g (#[.func (.yield l) #[] #[]] ++ lb) W fun e Y => (∃ v, e = .returned v) ∧ ((∃ xs, S xs ∧ J xs Y) ∨ (∃ pre, Sp pre ∧ Jx pre Y))

/-- How a round's body may be left: by its end, or by a return. The body may write the blocks of T alone, and what it has made itself. -/
def RoundPost {σ α : Type} (B : Nat) (T : Nat → Prop) (I : σ → List α → World → Prop) (Ix : List α → World → Prop) (xs : List α) (X : World) : Exit → Act → World → Prop
  | .normal, _, Y => KeepsFrom B X Y ∧ (∀ k, ¬ T k → k < X.heap.size → Y.heap[k]? = X.heap[k]?) ∧ ∃ s, I s xs Y
  | .ret, _, Y => KeepsFrom B X Y ∧ Ix xs Y
  | _, _, _ => False

/-- **The statement 'for .. := range f', its body left by its end or by a return.** 's': what the body keeps of its own; 'T s': the blocks that it may write there. -/
theorem range_told {n : Nat} {P : Program} {σ α : Type} {g : Operand} {ps : Array Tmp} {assign body : Code} {Q : Exit → Act → World → Prop} {a : Act} {w : World} (h1 : 1 ≤ n)
    {gf : Nat} {lb : Array Value} (hg : a.eval g = .func (.func gf) #[] lb) (eg : ∀ args w, (callFunc gf args).run P w = .ok (.enter gf args) w)
    {encs : α → Array Value} {Ex : α → World → Prop} {K : Nat → Prop} {S Sp : List α → Prop} {N : Nat} {w0 : World} (hseq : SeqTold (n - 1) P gf lb encs Ex K S Sp N w0)
    (hK : ∀ k, K k → k < w.heap.size) (hb0 : Below w0.heap.size w0 w) (hps : ∀ x, (encs x).size = ps.size)
    (I : σ → List α → World → Prop) (Ix : List α → World → Prop) (T : σ → Nat → Prop) (hI : ∀ s, OwnFrom w.heap.size (I s)) (hIx : OwnFrom w.heap.size Ix)
    (hT : ∀ s pre X k, I s pre X → T s k → k < X.heap.size ∧ ¬ K k) (h0 : ∃ s, I s [] w)
    (Ax : α → Act → World → Prop) (hAx : ∀ x a', OwnFrom w.heap.size (fun (_ : Unit) W => Ax x a' W))
    (hassign : ∀ (l : Nat) (s : σ) (pre : List α) (x : α) (X : World) (C : Act → World → Prop), I s pre X → Ex x X →
      (∀ a' Y, KeepsFrom w.heap.size X Y → Below X.heap.size X Y → Ax x a' Y → C a' Y) →
      assign.wpIn (Fence.wide.inRound l) (n - 1 - 1) P (Exit.then C (fun _ _ _ => False)) { tmps := (ps.zip (encs x)).foldl (fun t (p, v) => t.setIfInBounds p v) a.tmps, defers := [] } X)
    (hbody : ∀ (l : Nat) (s : σ) (pre : List α) (x : α) (a' : Act) (X : World), I s pre X → pre.length < N → Ax x a' X → body.wpIn (Fence.wide.inRound l) (n - 1 - 1) P (RoundPost w.heap.size (T s) I Ix (pre ++ [x]) X) a' X)
    (hdone : ∀ (D : Nat) (s : σ) (xs : List α) (W : World), w.heap.size ≤ D → S xs → I s xs W → W.heap[D]? = some (.deferred (some [])) → Q .normal { a with defers := { target := .collected D, args := #[] } :: a.defers } W)
    (hstop : ∀ (D : Nat) (pre : List α) (W : World), w.heap.size ≤ D → Sp pre → Ix pre W → W.heap[D]? = some (.deferred (some [])) → Code.ret.wpIn Fence.wide n P Q { a with defers := { target := .collected D, args := #[] } :: a.defers } W) :
    (Code.rangeFunc g ps assign body).wpIn Fence.wide n P Q a w := by
  refine wpIn_rangeFunc fun fn _ => ?_
  -- the two blocks that the loop lays: the rounds' deferred calls at B, the record behind it
  generalize hB : w.heap.size = B at *
  obtain ⟨R, hR⟩ : ∃ R : LoopState → Option Code → Obj, R = fun st pe => .loop { state := st, pending := pe, fn, tmps := a.tmps, params := ps, assign, body, defers := B } := ⟨_, rfl⟩
  have hcells : ∀ st pe, (R st pe).isCells = false := fun st pe => by rw [hR]; rfl
  obtain ⟨V, hV⟩ : ∃ V, (w.alloc (.deferred (some []))).alloc (R .ready none) = V := ⟨_, rfl⟩
  have below : Below w.heap.size w V := by rw [← hV]; exact ((Below.refl _ w).alloc (Nat.le_refl _) _).alloc (by simp) _
  have hVL : V.heap[B + 1]? = some (R .ready none) := by
    rw [← hV]
    have := World.alloc_heap_new (w.alloc (.deferred (some []))) (R .ready none)
    rwa [World.size_alloc, hB] at this
  have hVB : V.heap[B]? = some (.deferred (some [])) := by
    rw [← hV, Below.heap_alloc _ _ _ (by simp; omega), ← hB]
    exact World.alloc_heap_new w _
  obtain ⟨s0, h0⟩ := h0
  have hVI : I s0 [] V := hI _ _ _ _ none h0 (grown_of_below below) (fun r e => by cases e)
  -- turning the record keeps what is asked
  have turn : ∀ {X : World} {o : Obj} (o' : Obj), X.heap[B + 1]? = some o → o.isCells = false → (∀ s xs, I s xs X → I s xs (X.putObj (B + 1) o')) ∧ (∀ xs, Ix xs X → Ix xs (X.putObj (B + 1) o')) ∧
      (∀ x a', Ax x a' X → Ax x a' (X.putObj (B + 1) o')) ∧ (∀ k, k ≠ B + 1 → (X.putObj (B + 1) o').heap[k]? = X.heap[k]?) ∧ (X.putObj (B + 1) o').heap[B + 1]? = some o' ∧ (X.putObj (B + 1) o').heap[B]? = X.heap[B]? :=
    fun {X o} o' hl ho => by
      have hlt := (Array.getElem?_eq_some_iff.1 hl).1
      exact ⟨fun s xs h => (hI s).putObj _ h (by omega) hl ho, fun xs h => hIx.putObj _ h (by omega) hl ho, fun x a' h => (hAx x a').putObj (s := ()) _ h (by omega) hl ho,
        fun k hk => World.putObj_heap_other hk, World.putObj_heap_same hlt, World.putObj_heap_other (by omega)⟩
  refine ⟨B + 1, [{ target := .collected B, args := #[] }], V, { target := .fn (.func gf) lb, args := #[.func (.yield (B + 1)) #[] #[]] }, V, gf, #[.func (.yield (B + 1)) #[] #[]] ++ lb, V, ?_, ?_, fun _ _ => trivial, ?_, fun _ => h1, ?_⟩
  · have e := run_enterLoop_outer (P := P) (w := w) fn a.tmps ps assign body
    rw [hB] at e
    rw [← hV, hR]
    exact e
  · simp only [resolve, hg]
    simp [go_sem]
  · simp [invoke, go_sem, eg]
  · refine (hseq (B + 1)
      (fun pre X => (∃ s, I s pre X) ∧ X.heap[B + 1]? = some (R .ready none) ∧ X.heap[B]? = some (.deferred (some [])))
      (fun pre X => Ix pre X ∧ X.heap[B + 1]? = some (R .done (some .ret)) ∧ X.heap[B]? = some (.deferred (some [])))
      V (hb0.trans (below.mono (by rw [hB]; have := hb0.size; omega)))
      ?_ ⟨⟨s0, hVI⟩, hVL, hVB⟩).mono ?_
    · -- a round
      rintro pre x X0 X ⟨⟨s, hi0⟩, hl0, hd0⟩ hlen hX hex
      have hlt0 := (Array.getElem?_eq_some_iff.1 hl0).1
      have hi : I s pre X := hI _ _ _ _ none hi0 (grown_of_below hX) (fun r e => by cases e)
      have hl := (hX.block _ hlt0).trans hl0
      have hd := (hX.block _ (Array.getElem?_eq_some_iff.1 hd0).1).trans hd0
      have hl' := hl
      rw [hR] at hl'
      refine ⟨fn, _, assign, body, run_yield (P := P) (args := encs x) hl' (hps x), roundIn_of_wpIn trivial (hassign _ s pre x X _ hi hex ?_)⟩
      intro a' Y hk hb hax
      have hiY : I s pre Y := hI _ _ _ _ none hi (grown_of_below hb) (fun r e => by cases e)
      have hlY := hk.same _ _ (by omega) hl (hcells _ _)
      have hdY := hk.same _ _ (Nat.le_refl _) hd rfl
      have hlY' := hlY
      rw [hR] at hlY'
      have begins := run_beginRound (P := P) hlY' rfl
      obtain ⟨t1, _, t3, t4, t5, t6⟩ := turn (R .busy none) hlY (hcells _ _)
      refine ⟨Y.putObj (B + 1) (R .busy none), by rw [begins, hR], ?_⟩
      have ends : ∀ (jump : Option Code) (Z : World), KeepsFrom B (Y.putObj (B + 1) (R .busy none)) Z → Z.heap[B + 1]? = some (R .busy none) ∧ Z.heap[B]? = some (.deferred (some [])) ∧
          (Instr.endRound (B + 1) jump).run P Z = .ok (.bool jump.isNone) (Z.putObj (B + 1) (R (if jump.isNone then .ready else .done) jump)) := fun jump Z hz => by
        have z1 := hz.same _ _ (by omega) t5 (hcells _ _)
        refine ⟨z1, hz.same _ _ (Nat.le_refl _) (t6.trans hdY) rfl, ?_⟩
        rw [hR] at z1 ⊢
        exact run_endRound (P := P) jump z1
      refine wpIn_mono (hbody _ s pre x a' _ (t1 _ _ hiY) hlen (t3 _ _ hax)) ?_
      rintro e a3 Z hp
      cases e with
      | normal =>
        obtain ⟨hz, hzb, s', hzi⟩ := hp
        obtain ⟨z1, z2, z3⟩ := ends none Z hz
        obtain ⟨u1, _, _, u4, u5, u6⟩ := turn (R .ready none) z1 (hcells _ _)
        refine ⟨_, _, z3, .inl ⟨rfl, ⟨⟨s', u1 _ _ hzi⟩, u5, u6.trans z2⟩, ?_, ?_⟩⟩
        · have := hb.size; have := hz.size; simp at this ⊢; omega
        · intro k hk hkX
          have hne : k ≠ B + 1 := by
            rcases hk with hk | hk
            · omega
            · have := hK k hk; omega
          have hnT : ¬ T s k := by
            intro ht
            rcases hk with hk | hk
            · have := (hT s pre X0 k hi0 ht).1; omega
            · exact (hT s pre X0 k hi0 ht).2 hk
          have hkY : k < Y.heap.size := by have := hb.size; omega
          exact (u4 k hne).trans ((hzb k hnT (by simpa using hkY)).trans ((t4 k hne).trans (hb.block k hkX)))
      | ret =>
        obtain ⟨hz, hzi⟩ := hp
        obtain ⟨z1, z2, z3⟩ := ends (some .ret) Z hz
        obtain ⟨_, u2, _, _, u5, u6⟩ := turn (R .done (some .ret)) z1 (hcells _ _)
        exact ⟨_, _, z3, .inr ⟨rfl, u2 _ hzi, u5, u6.trans z2⟩⟩
      | exit id => exact hp.elim
      | goto t => exact hp.elim
      | panic ch => exact hp.elim
      | outgrown => exact hp.elim
    · -- behind the iterator
      rintro e Z ⟨⟨v, rfl⟩, (⟨xs, hS, ⟨s, hi⟩, hl, hd⟩ | ⟨pre, hSp, hi, hl, hd⟩)⟩
      · obtain ⟨u1, _, _, _, _, u6⟩ := turn (R .exhausted none) hl (hcells _ _)
        have hl' := hl
        rw [hR] at hl'
        refine ⟨none, _, by have e := run_endLoop (P := P) hl' (by simp); exact e, ?_⟩
        have := hdone B s xs _ (Nat.le_refl _) hS (u1 _ _ hi) (u6.trans hd)
        rw [hR] at this
        exact this
      · obtain ⟨_, u2, _, _, _, u6⟩ := turn (R .exhausted (some .ret)) hl (hcells _ _)
        have hl' := hl
        rw [hR] at hl'
        refine ⟨some .ret, _, by have e := run_endLoop (P := P) hl' (by simp); exact e, ?_⟩
        have := hstop B pre _ (Nat.le_refl _) hSp (u2 _ hi) (u6.trans hd)
        rw [hR] at this
        exact this
end Go.Proofs.YtjnlchhikdfifaaDoor
/- A loop over an iterator, once more: the rounds are told of the memory since the last round's end; the loop may be left by one jump (a return, or a break); what a round's frame holds may hang on what the body keeps. -/
namespace Go.Proofs.YtjnlchhikdfifaaDoor
open Go.RowKit

/-- The contract. Between two rounds the iterator may have laid blocks ('Below', from X0, where the last round ended, to X, where the next begins); the rounds may be told 'Ex x' of the world in which they are handed x; a round that goes on keeps what the iterator has laid since X0, and the blocks of K. -/
def SeqGen {α : Type} (n : Nat) (P : Program) (g : Nat) (lb : Array Value) (encs : α → Array Value) (Ex : List α → α → World → World → Prop) (K : Nat → Prop) (S Sp : List α → Prop) (N : Nat) (w : World) : Prop :=
  ∀ (l : Nat) (J Jx : List α → World → Prop) (W : World), Below w.heap.size w W →
    (∀ pre x X0 X, J pre X0 → pre.length < N → Below X0.heap.size X0 X → Ex pre x X0 X → YieldAt Fence.wide (n - 1) P l (encs x) X fun e Y =>
      (e = .returned (.bool true) ∧ J (pre ++ [x]) Y ∧ Kept K X0.heap.size X Y) ∨ (e = .returned (.bool false) ∧ Jx (pre ++ [x]) Y)) →
    J [] W →
    CallsIn Fence.wide n P g (#[.func (.yield l) #[] #[]] ++ lb) W fun e Y => (∃ v, e = .returned v) ∧ ((∃ xs, S xs ∧ J xs Y) ∨ (∃ pre, Sp pre ∧ Jx pre Y))

/-- How a round's body may be left: by its end, or by a return. The body may write the blocks of T alone, and what it has made itself. -/
def RoundGen {σ α : Type} (jump : Code) (B : Nat) (T : Nat → Prop) (I : σ → List α → World → Prop) (Ix : List α → World → Prop) (xs : List α) (X : World) : Exit → Act → World → Prop
  | .normal, _, Y => KeepsFrom B X Y ∧ (∀ k, ¬ T k → k < X.heap.size → Y.heap[k]? = X.heap[k]?) ∧ ∃ s, I s xs Y
  | .ret, _, Y => jump = .ret ∧ KeepsFrom B X Y ∧ Ix xs Y
  | .exit id, _, Y => jump = .exit id ∧ KeepsFrom B X Y ∧ Ix xs Y
  | _, _, _ => False

/-- **The statement 'for .. := range f', its body left by its end or by a return.** 's': what the body keeps of its own; 'T s': the blocks that it may write there. -/
theorem range_gen {n : Nat} {P : Program} {σ α : Type} {g : Operand} {ps : Array Tmp} {assign body : Code} {Q : Exit → Act → World → Prop} {a : Act} {w : World} (h1 : 1 ≤ n)
    {gf : Nat} {lb : Array Value} (hg : a.eval g = .func (.func gf) #[] lb) (eg : ∀ args w, (callFunc gf args).run P w = .ok (.enter gf args) w)
    {encs : α → Array Value} {Ex : List α → α → World → World → Prop} {K : Nat → Prop} {S Sp : List α → Prop} {N : Nat} {w0 : World} (hseq : SeqGen (n - 1) P gf lb encs Ex K S Sp N w0)
    (hK : ∀ k, K k → k < w.heap.size) (hb0 : Below w0.heap.size w0 w) (hps : ∀ x, (encs x).size = ps.size)
    (I : σ → List α → World → Prop) (Ix : List α → World → Prop) (T : σ → Nat → Prop) (hI : ∀ s, OwnFrom w.heap.size (I s)) (hIx : OwnFrom w.heap.size Ix)
    (hT : ∀ s pre X k, I s pre X → T s k → k < X.heap.size ∧ ¬ K k) (h0 : ∃ s, I s [] w)
    (Ax : σ → List α → α → Act → World → Prop) (hAx : ∀ s pre x a', OwnFrom w.heap.size (fun (_ : Unit) W => Ax s pre x a' W)) (jump : Code)
    (hassign : ∀ (l : Nat) (s : σ) (pre : List α) (x : α) (X0 X : World) (C : Act → World → Prop), I s pre X0 → Below X0.heap.size X0 X → I s pre X → Ex pre x X0 X →
      (∀ a' Y, KeepsFrom w.heap.size X Y → Below X.heap.size X Y → Ax s pre x a' Y → C a' Y) →
      assign.wpIn (Fence.wide.inRound l) (n - 1 - 1) P (Exit.then C (fun _ _ _ => False)) { tmps := (ps.zip (encs x)).foldl (fun t (p, v) => t.setIfInBounds p v) a.tmps, defers := [] } X)
    (hbody : ∀ (l : Nat) (s : σ) (pre : List α) (x : α) (a' : Act) (X : World), I s pre X → pre.length < N → Ax s pre x a' X → body.wpIn (Fence.wide.inRound l) (n - 1 - 1) P (RoundGen jump w.heap.size (T s) I Ix (pre ++ [x]) X) a' X)
    (hdone : ∀ (D : Nat) (s : σ) (xs : List α) (W : World), w.heap.size ≤ D → S xs → I s xs W → W.heap[D]? = some (.deferred (some [])) → Q .normal { a with defers := { target := .collected D, args := #[] } :: a.defers } W)
    (hstop : ∀ (D : Nat) (pre : List α) (W : World), w.heap.size ≤ D → Sp pre → Ix pre W → W.heap[D]? = some (.deferred (some [])) → jump.wpIn Fence.wide n P Q { a with defers := { target := .collected D, args := #[] } :: a.defers } W) :
    (Code.rangeFunc g ps assign body).wpIn Fence.wide n P Q a w := by
  refine wpIn_rangeFunc fun fn _ => ?_
  -- the two blocks that the loop lays: the rounds' deferred calls at B, the record behind it
  generalize hB : w.heap.size = B at *
  obtain ⟨R, hR⟩ : ∃ R : LoopState → Option Code → Obj, R = fun st pe => .loop { state := st, pending := pe, fn, tmps := a.tmps, params := ps, assign, body, defers := B } := ⟨_, rfl⟩
  have hcells : ∀ st pe, (R st pe).isCells = false := fun st pe => by rw [hR]; rfl
  obtain ⟨V, hV⟩ : ∃ V, (w.alloc (.deferred (some []))).alloc (R .ready none) = V := ⟨_, rfl⟩
  have below : Below w.heap.size w V := by rw [← hV]; exact ((Below.refl _ w).alloc (Nat.le_refl _) _).alloc (by simp) _
  have hVL : V.heap[B + 1]? = some (R .ready none) := by
    rw [← hV]
    have := World.alloc_heap_new (w.alloc (.deferred (some []))) (R .ready none)
    rwa [World.size_alloc, hB] at this
  have hVB : V.heap[B]? = some (.deferred (some [])) := by
    rw [← hV, Below.heap_alloc _ _ _ (by simp; omega), ← hB]
    exact World.alloc_heap_new w _
  obtain ⟨s0, h0⟩ := h0
  have hVI : I s0 [] V := hI _ _ _ _ none h0 (grown_of_below below) (fun r e => by cases e)
  -- turning the record keeps what is asked
  have turn : ∀ {X : World} {o : Obj} (o' : Obj), X.heap[B + 1]? = some o → o.isCells = false → (∀ s xs, I s xs X → I s xs (X.putObj (B + 1) o')) ∧ (∀ xs, Ix xs X → Ix xs (X.putObj (B + 1) o')) ∧
      (∀ s pre x a', Ax s pre x a' X → Ax s pre x a' (X.putObj (B + 1) o')) ∧ (∀ k, k ≠ B + 1 → (X.putObj (B + 1) o').heap[k]? = X.heap[k]?) ∧ (X.putObj (B + 1) o').heap[B + 1]? = some o' ∧ (X.putObj (B + 1) o').heap[B]? = X.heap[B]? :=
    fun {X o} o' hl ho => by
      have hlt := (Array.getElem?_eq_some_iff.1 hl).1
      exact ⟨fun s xs h => (hI s).putObj _ h (by omega) hl ho, fun xs h => hIx.putObj _ h (by omega) hl ho, fun s pre x a' h => (hAx s pre x a').putObj (s := ()) _ h (by omega) hl ho,
        fun k hk => World.putObj_heap_other hk, World.putObj_heap_same hlt, World.putObj_heap_other (by omega)⟩
  refine ⟨B + 1, [{ target := .collected B, args := #[] }], V, { target := .fn (.func gf) lb, args := #[.func (.yield (B + 1)) #[] #[]] }, V, gf, #[.func (.yield (B + 1)) #[] #[]] ++ lb, V, ?_, ?_, fun _ _ => trivial, ?_, fun _ => h1, ?_⟩
  · have e := run_enterLoop_outer (P := P) (w := w) fn a.tmps ps assign body
    rw [hB] at e
    rw [← hV, hR]
    exact e
  · simp only [resolve, hg]
    simp [go_sem]
  · simp [invoke, go_sem, eg]
  · refine (hseq (B + 1)
      (fun pre X => (∃ s, I s pre X) ∧ X.heap[B + 1]? = some (R .ready none) ∧ X.heap[B]? = some (.deferred (some [])))
      (fun pre X => Ix pre X ∧ X.heap[B + 1]? = some (R .done (some jump)) ∧ X.heap[B]? = some (.deferred (some [])))
      V (hb0.trans (below.mono (by rw [hB]; have := hb0.size; omega)))
      ?_ ⟨⟨s0, hVI⟩, hVL, hVB⟩).mono ?_
    · -- a round
      rintro pre x X0 X ⟨⟨s, hi0⟩, hl0, hd0⟩ hlen hX hex
      have hlt0 := (Array.getElem?_eq_some_iff.1 hl0).1
      have hi : I s pre X := hI _ _ _ _ none hi0 (grown_of_below hX) (fun r e => by cases e)
      have hl := (hX.block _ hlt0).trans hl0
      have hd := (hX.block _ (Array.getElem?_eq_some_iff.1 hd0).1).trans hd0
      have hl' := hl
      rw [hR] at hl'
      refine ⟨fn, _, assign, body, run_yield (P := P) (args := encs x) hl' (hps x), roundIn_of_wpIn trivial (hassign _ s pre x X0 X _ hi0 hX hi hex ?_)⟩
      intro a' Y hk hb hax
      have hiY : I s pre Y := hI _ _ _ _ none hi (grown_of_below hb) (fun r e => by cases e)
      have hlY := hk.same _ _ (by omega) hl (hcells _ _)
      have hdY := hk.same _ _ (Nat.le_refl _) hd rfl
      have hlY' := hlY
      rw [hR] at hlY'
      have begins := run_beginRound (P := P) hlY' rfl
      obtain ⟨t1, _, t3, t4, t5, t6⟩ := turn (R .busy none) hlY (hcells _ _)
      refine ⟨Y.putObj (B + 1) (R .busy none), by rw [begins, hR], ?_⟩
      have ends : ∀ (jump : Option Code) (Z : World), KeepsFrom B (Y.putObj (B + 1) (R .busy none)) Z → Z.heap[B + 1]? = some (R .busy none) ∧ Z.heap[B]? = some (.deferred (some [])) ∧
          (Instr.endRound (B + 1) jump).run P Z = .ok (.bool jump.isNone) (Z.putObj (B + 1) (R (if jump.isNone then .ready else .done) jump)) := fun jump Z hz => by
        have z1 := hz.same _ _ (by omega) t5 (hcells _ _)
        refine ⟨z1, hz.same _ _ (Nat.le_refl _) (t6.trans hdY) rfl, ?_⟩
        rw [hR] at z1 ⊢
        exact run_endRound (P := P) jump z1
      refine wpIn_mono (hbody _ s pre x a' _ (t1 _ _ hiY) hlen (t3 _ _ _ _ hax)) ?_
      rintro e a3 Z hp
      cases e with
      | normal =>
        obtain ⟨hz, hzb, s', hzi⟩ := hp
        obtain ⟨z1, z2, z3⟩ := ends none Z hz
        obtain ⟨u1, _, _, u4, u5, u6⟩ := turn (R .ready none) z1 (hcells _ _)
        refine ⟨_, _, z3, .inl ⟨rfl, ⟨⟨s', u1 _ _ hzi⟩, u5, u6.trans z2⟩, ?_, ?_⟩⟩
        · have := hb.size; have := hz.size; simp at this ⊢; omega
        · intro k hk hkX
          have hne : k ≠ B + 1 := by
            rcases hk with hk | hk
            · omega
            · have := hK k hk; omega
          have hnT : ¬ T s k := by
            intro ht
            rcases hk with hk | hk
            · have := (hT s pre X0 k hi0 ht).1; omega
            · exact (hT s pre X0 k hi0 ht).2 hk
          have hkY : k < Y.heap.size := by have := hb.size; omega
          exact (u4 k hne).trans ((hzb k hnT (by simpa using hkY)).trans ((t4 k hne).trans (hb.block k hkX)))
      | ret =>
        obtain ⟨rfl, hz, hzi⟩ := hp
        obtain ⟨z1, z2, z3⟩ := ends (some .ret) Z hz
        obtain ⟨_, u2, _, _, u5, u6⟩ := turn (R .done (some .ret)) z1 (hcells _ _)
        exact ⟨_, _, z3, .inr ⟨rfl, u2 _ hzi, u5, u6.trans z2⟩⟩
      | exit id =>
        obtain ⟨rfl, hz, hzi⟩ := hp
        obtain ⟨z1, z2, z3⟩ := ends (some (.exit id)) Z hz
        obtain ⟨_, u2, _, _, u5, u6⟩ := turn (R .done (some (.exit id))) z1 (hcells _ _)
        exact ⟨_, _, z3, .inr ⟨rfl, u2 _ hzi, u5, u6.trans z2⟩⟩
      | goto t => exact hp.elim
      | panic ch => exact hp.elim
      | outgrown => exact hp.elim
    · -- behind the iterator
      rintro e Z ⟨⟨v, rfl⟩, (⟨xs, hS, ⟨s, hi⟩, hl, hd⟩ | ⟨pre, hSp, hi, hl, hd⟩)⟩
      · obtain ⟨u1, _, _, _, _, u6⟩ := turn (R .exhausted none) hl (hcells _ _)
        have hl' := hl
        rw [hR] at hl'
        refine ⟨none, _, by have e := run_endLoop (P := P) hl' (by simp); exact e, ?_⟩
        have := hdone B s xs _ (Nat.le_refl _) hS (u1 _ _ hi) (u6.trans hd)
        rw [hR] at this
        exact this
      · obtain ⟨_, u2, _, _, _, u6⟩ := turn (R .exhausted (some jump)) hl (hcells _ _)
        have hl' := hl
        rw [hR] at hl'
        refine ⟨some jump, _, by have e := run_endLoop (P := P) hl' (by simp); exact e, ?_⟩
        have := hstop B pre _ (Nat.le_refl _) hSp (u2 _ hi) (u6.trans hd)
        rw [hR] at this
        exact this
end Go.Proofs.YtjnlchhikdfifaaDoor
/- (Subst).Pairs: the pairs, told one by one. -/
namespace Go.Proofs.YtjnlchhikdfifaaDoor
open Go.RowKit Go.Sort Go.Lib
attribute [local go_sem] Oper.semAt_some

def encQ (x : PR) : Array Value := #[.string x.n, .agg #[.int .i64 x.t.kind, .string x.t.name, .slice x.a x.t.kids.length x.c]]
/-- What is told is the next one of the row; its rows are new since the last round. -/
def ExQ (d : List PR) (pre : List PR) (x : PR) (X0 X : World) : Prop := TyIn (fun k => X0.heap.size ≤ k) X x.t (.slice x.a x.t.kids.length x.c) ∧ (pre.length < d.length ∧ x.n = (d.getD pre.length noP).n ∧ x.t = (d.getD pre.length noP).t)
/-- Rows of types, all of them in blocks that are ok. -/
theorem TyAt.inside {ok : Nat → Prop} {w : World} (hk : ∀ (k : Nat) (cs : Array Value) (fz : Nat × Nat), w.heap[k]? = some (.cells cs 33 fz) → ok k) {t : T} {k n v : Value} (h : TyAt w t k n v) : TyIn ok w t v := by
  induction h with
  | leaf t a c h => exact .leaf t a c h
  | row t g cap cs fz x y z h1 h2 h3 h4 ih =>
    refine .row t g cap cs fz z (hk _ _ _ h1) h1 h2 (fun i hi => ?_) ih
    obtain ⟨e1, e2, _⟩ := (h4 i hi).shape
    obtain ⟨c1, c2, c3⟩ := h3 i hi
    exact ⟨by rw [c1, e1], by rw [c2, e2], c3⟩
theorem TysAt.inside {ok : Nat → Prop} {w : World} (hk : ∀ (k : Nat) (cs : Array Value) (fz : Nat × Nat), w.heap[k]? = some (.cells cs 33 fz) → ok k) {t : T} {v : Value} (h : TysAt w v t.kids) : TyIn ok w t v := (TyAt.mk t h).inside hk
def KeepK (K : Nat → Prop) (X W : World) : Prop := ∀ k, K k → k < X.heap.size → W.heap[k]? = X.heap[k]?
theorem KeepK.trans {K : Nat → Prop} {X Y Z : World} (h : KeepK K X Y) (k : KeepK K Y Z) (hs : X.heap.size ≤ Y.heap.size) : KeepK K X Z := fun i hi hx => (k i hi (by omega)).trans (h i hi hx)
theorem KeepK.of_below {K : Nat → Prop} {X Y : World} (h : Below X.heap.size X Y) : KeepK K X Y := fun i _ hx => h.block i hx
theorem TyIn.keepK {K : Nat → Prop} {X W : World} {t : T} {v : Value} (h : TyIn K X t v) (hk : KeepK K X W) : TyIn K W t v := h.keep fun k _ _ h1 h2 => (hk k h1 (Array.getElem?_eq_some_iff.1 h2).1).trans h2
/-- The row of pairs that the iterator goes through: in blocks of K. -/
def Src (K : Nat → Prop) (a : Option Addr) (d : List PR) (w : World) : Prop := (∀ i, i < d.length → ∃ g, a = some ⟨g, 0, none⟩ ∧ K g ∧ RowP g d w) ∧ ∀ x ∈ d, TyIn K w x.t (.slice x.a x.t.kids.length x.c)
theorem Src.keepK {K : Nat → Prop} {a : Option Addr} {d : List PR} {X W : World} (h : Src K a d X) (hk : KeepK K X W) : Src K a d W :=
  ⟨fun i hi => by obtain ⟨g, e, h1, h2⟩ := h.1 i hi; exact ⟨g, e, h1, h2.same (hk g h1 h2.lt)⟩, fun x hx => (h.2 x hx).keepK hk⟩
theorem Src.of {K : Nat → Prop} {a : Option Addr} {n c : Nat} {d : List PR} {w : World} (h : SubAt (.slice a n c) d w) (h1 : ∀ (k : Nat) (cs : Array Value) (fz : Nat × Nat), w.heap[k]? = some (.cells cs 33 fz) → K k)
    (h2 : ∀ (k : Nat) (cs : Array Value) (fz : Nat × Nat), w.heap[k]? = some (.cells cs 82 fz) → K k) : Src K a d w := by
  obtain ⟨⟨hs, _⟩, ht⟩ := h
  refine ⟨fun i hi => ?_, fun x hx => (ht x hx).inside h1⟩
  rcases hs with ⟨rfl, _⟩ | ⟨g, cap, e, _, hr⟩
  · cases hi
  · simp only [Value.slice.injEq] at e
    have hr0 := hr
    obtain ⟨cs, hg, _⟩ := hr
    exact ⟨g, e.1, h2 g _ _ hg, hr0⟩
end Go.Proofs.YtjnlchhikdfifaaDoor
/- (Subst).Get. -/
namespace Go.Proofs.YtjnlchhikdfifaaDoor
open Go.RowKit Go.Sort Go.Lib
attribute [local go_sem] Oper.semAt_some

end Go.Proofs.YtjnlchhikdfifaaDoor
/- (Subst).Pairs as a call; small facts of loops over it. -/
namespace Go.Proofs.YtjnlchhikdfifaaDoor
open Go.RowKit Go.Sort Go.Lib
attribute [local go_sem] Oper.semAt_some

theorem block_kept {W W' : World} {row : Option Nat} {b : Nat} {c : Array Value} {t : TypeId} {m : Nat × Nat} (h : W.heap[b]? = some (.cells c t m)) (hg : W.grownBy W' row)
    (hr : ∀ r, row = some r → ∃ o : Obj, W.heap[r]? = some o ∧ o.isCells = false) : W'.heap[b]? = some (.cells c t m) := by
  refine (hg.block b (Array.getElem?_eq_some_iff.1 h).1 fun e => ?_).trans h
  obtain ⟨o, ho, hc⟩ := hr b e.symm
  rw [h] at ho; cases ho; cases hc
theorem below_others {X Y : World} (h : Below X.heap.size X Y) : KeepsOthers X Y := ⟨h.size, fun k _ hk _ => (h.block k (Array.getElem?_eq_some_iff.1 hk).1).trans hk⟩
theorem own_cells {W : World} {base : Nat} {e : TypeId} {size : Nat} {v : Value} {n : Nat} {xs : List Value} (h : W.ownsRow base e size v n xs) (j : Nat) (o : Obj) (hj : v.ownBlock = some j) (ho : W.heap[j]? = some o) : o.isCells = true := by
  rcases h.2 with ⟨rfl, _⟩ | ⟨g, cap, cur, rfl, _, hg, _⟩
  · cases hj
  · obtain rfl : g = j := by simpa [Value.ownBlock] using hj
    rw [hg] at ho; cases ho; rfl
theorem others_grown {X w1 : World} {o : Obj} {base : Nat} {e : TypeId} {size : Nat} {v : Value} {n : Nat} {xs : List Value} (h : X.ownsRow base e size v n xs) (hg : (X.alloc o).grownBy w1 v.ownBlock) : KeepsOthers X w1 :=
  (KeepsOthers.alloc X o).trans (KeepsOthers.of_grownBy hg fun j ob hj ho => by
    have hlt := (h.lt j hj).2
    rw [Below.heap_alloc X o j hlt] at ho
    exact own_cells h j ob hj ho)

/-- The name of the last one. -/
def lastN (pre : List PR) : ByteArray := (pre.getLast?.map PR.n).getD ⟨#[]⟩
theorem lastN_snoc (pre : List PR) (x : PR) : lastN (pre ++ [x]) = x.n := by simp [lastN]
/-- As many as there are ahead; the same names, the same types. -/
def Ahead (ls pre : List PR) : Prop := pre.length ≤ ls.length ∧ ∀ i, i < pre.length → (pre.getD i noP).n = (ls.getD i noP).n ∧ (pre.getD i noP).t = (ls.getD i noP).t
theorem Ahead.nil (ls : List PR) : Ahead ls [] := ⟨Nat.zero_le _, fun _ hi => absurd hi (Nat.not_lt_zero _)⟩
theorem Ahead.snoc {ls pre : List PR} (h : Ahead ls pre) {x : PR} (hx : pre.length < ls.length ∧ x.n = (ls.getD pre.length noP).n ∧ x.t = (ls.getD pre.length noP).t) : Ahead ls (pre ++ [x]) := by
  refine ⟨by simp; omega, fun i hi => ?_⟩
  rw [List.length_append, List.length_singleton] at hi
  by_cases e : i = pre.length
  · subst e
    have : (pre ++ [x]).getD pre.length noP = x := by simp [List.getD]
    rw [this]; exact hx.2
  · have hlt : i < pre.length := by omega
    have : (pre ++ [x]).getD i noP = pre.getD i noP := by simp [List.getD, List.getElem?_append_left hlt]
    rw [this]; exact h.2 i hlt
theorem Ahead.copy {ls q : List PR} (h : Ahead ls q) (hl : q.length = ls.length) : Copy q ls := ⟨hl, h.2⟩
/-- In a row in order the last one's name is less than the next one's. -/
theorem Ahead.less {ls pre : List PR} (h : Ahead ls pre) (hn : Neat ls) (h0 : pre ≠ []) {x : PR} (hx : pre.length < ls.length ∧ x.n = (ls.getD pre.length noP).n) : Op.bytesLess x.n.toList (lastN pre).toList = false ∧ ¬ x.n.toList = (lastN pre).toList := by
  have hp : 0 < pre.length := List.length_pos_iff.2 h0
  have e : lastN pre = (pre.getD (pre.length - 1) noP).n := by
    unfold lastN
    rw [List.getLast?_eq_getElem?]
    simp [List.getD, List.getElem?_eq_getElem (show pre.length - 1 < pre.length by omega)]
  rw [e, (h.2 _ (by omega)).1, hx.2]
  have hs := List.pairwise_iff_getElem.1 hn.1 (pre.length - 1) pre.length (by omega) hx.1 (by omega)
  have e1 : ls.getD (pre.length - 1) noP = ls[pre.length - 1]'(by omega) := by simp [List.getD, List.getElem?_eq_getElem (show pre.length - 1 < ls.length by omega)]
  have e2 : ls.getD pre.length noP = ls[pre.length]'hx.1 := by simp [List.getD, List.getElem?_eq_getElem hx.1]
  rw [e1, e2, Lib.toList_data, Lib.toList_data, less_cmpL]
  have := hs
  unfold cmpP at this
  have hu := cmpL_neg (ls[pre.length - 1]'(by omega)).n.data.toList (ls[pre.length]'hx.1).n.data.toList
  refine ⟨by simp; omega, fun e => ?_⟩
  rw [e, cmpL_zero.2 rfl] at this
  omega
theorem next_lk {ls : List PR} (hn : Neat ls) {i : Nat} (hi : i < ls.length) : lk (ls.getD i noP).n ls = some (ls.getD i noP) := lk_sorted hn.1 (getD_mem hi)
theorem next_own {ls : List PR} (hn : Neat ls) {i : Nat} (hi : i < ls.length) : (ls.getD i noP).t ≠ .var (ls.getD i noP).n := fun e => by
  have := hn.2 _ (getD_mem hi)
  rw [ownP_iff.2 e] at this; cases this
theorem kind_name {t : T} {n : ByteArray} (hk : t.kind = 1) (h : t ≠ .var n) : t.name ≠ n := by
  cases t with
  | var m => intro e; exact h (by simp only [T.name] at e; rw [e])
  | con m l => simp [T.kind] at hk
  | fn a b => simp [T.kind] at hk
  | all m a => simp [T.kind] at hk

/-- What the rounds keep: how many, the last name, the row of what was told; all that lay in V. -/
def QI (b M : Nat) (V : World) (ls : List PR) (s : Value) (pre : List PR) (X : World) : Prop :=
  ((X.heap[b + 1]? = some (.cells #[.int .i64 (pre.length : Int)] 3 (0, 0)) ∧ X.heap[b + 2]? = some (.cells #[.string (lastN pre)] 9 (0, 0)) ∧ X.heap[b + 3]? = some (.cells #[s] 57 (0, 0))) ∧
    X.ownsRow M 82 4 s pre.length (cellsP pre) ∧ (pre = [] → s = .slice none 0 0)) ∧ (Typ pre X ∧ Ahead ls pre) ∧ M ≤ X.heap.size ∧ Below (b + 1) V X
theorem QI.kept {b M : Nat} {V : World} {ls : List PR} {s : Value} {pre : List PR} {X Y : World} {row : Option Nat} (h : QI b M V ls s pre X) (hg : X.grownBy Y row) (hr : ∀ r, row = some r → ∃ o : Obj, X.heap[r]? = some o ∧ o.isCells = false) (hb : Below (b + 1) V Y) : QI b M V ls s pre Y :=
  ⟨⟨⟨block_kept h.1.1.1 hg hr, block_kept h.1.1.2.1 hg hr, block_kept h.1.1.2.2 hg hr⟩, row_kept h.1.2.1 fun _ _ _ hk => block_kept hk hg hr, h.1.2.2⟩, ⟨h.2.1.1.keep fun _ _ _ hk => block_kept hk hg hr, h.2.1.2⟩, Nat.le_trans h.2.2.1 hg.size, hb⟩
theorem QI.below {b M : Nat} {V : World} {ls : List PR} {s : Value} {pre : List PR} {X Y : World} (h : QI b M V ls s pre X) (hb : Below X.heap.size X Y) (hN : b + 1 ≤ M) : QI b M V ls s pre Y :=
  h.kept (row := none) (grown_of_below hb) (fun r e => by cases e) (h.2.2.2.trans (hb.mono (by have := h.2.2.1; omega)))
end Go.Proofs.YtjnlchhikdfifaaDoor
/- The document's Apply. -/
namespace Go.Proofs.YtjnlchhikdfifaaDoor
open Go.RowKit Go.Sort Go.Lib
attribute [local go_sem] Oper.semAt_some

/-- A type, where its row lies. -/
abbrev Tl := T × Option Addr × Nat
/-- The cells of a row of types. -/
def cellsOf (l : List Tl) : List Value := l.flatMap (fun x => [.int .i64 x.1.kind, .string x.1.name, .slice x.2.1 x.1.kids.length x.2.2])
theorem cellsOf_snoc (l : List Tl) (x : Tl) : cellsOf (l ++ [x]) = cellsOf l ++ [.int .i64 x.1.kind, .string x.1.name, .slice x.2.1 x.1.kids.length x.2.2] := by simp [cellsOf]
theorem cellsOf_cons (x : Tl) (l : List Tl) : cellsOf (x :: l) = [.int .i64 x.1.kind, .string x.1.name, .slice x.2.1 x.1.kids.length x.2.2] ++ cellsOf l := by simp [cellsOf]
theorem cellsOf_at (l : List Tl) (i : Nat) (h : i < l.length) : (cellsOf l)[i * 3]? = some (.int .i64 l[i].1.kind) ∧ (cellsOf l)[i * 3 + 1]? = some (.string l[i].1.name) ∧ (cellsOf l)[i * 3 + 2]? = some (.slice l[i].2.1 l[i].1.kids.length l[i].2.2) := by
  induction l generalizing i with
  | nil => cases h
  | cons x l ih =>
    rw [cellsOf_cons]
    cases i with
    | zero => exact ⟨rfl, rfl, rfl⟩
    | succ i =>
      have := ih i (by simpa using h)
      rw [show (i + 1) * 3 = i * 3 + 3 by omega, List.getElem?_append_right (by simp), List.getElem?_append_right (by simp), List.getElem?_append_right (by simp)]
      simp only [List.length_cons, List.length_nil, List.getElem_cons_succ]
      rw [show i * 3 + 3 - (0 + 1 + 1 + 1) = i * 3 by omega, show i * 3 + 3 + 1 - (0 + 1 + 1 + 1) = i * 3 + 1 by omega, show i * 3 + 3 + 2 - (0 + 1 + 1 + 1) = i * 3 + 2 by omega]
      exact this
/-- A row of types out of its cells, in blocks that are ok. -/
theorem in_of_row {ok : Nat → Prop} {W : World} {B : Nat} {v : Value} {xs : List Tl} {t : T} (ht : t.kids = xs.map (·.1)) (h : W.ownsRow B 33 3 v xs.length (cellsOf xs)) (hv : ∀ g, v.ownBlock = some g → ok g) (hk : ∀ x ∈ xs, TyIn ok W x.1 (.slice x.2.1 x.1.kids.length x.2.2)) : TyIn ok W t v := by
  have hlen : t.kids.length = xs.length := by rw [ht]; simp
  rcases h.2 with ⟨rfl, h0⟩ | ⟨g, cap, cur, rfl, _, hg, hc, _, hsz, htk⟩
  · exact .leaf t none 0 (List.length_eq_zero_iff.1 (hlen.trans h0))
  · have hat : ∀ j, j < xs.length * 3 → cur[j]? = (cellsOf xs)[j]? := fun j hj => by
      rw [← htk, List.getElem?_take, if_pos hj, Array.getElem?_toList]
    rw [← hlen]
    refine .row t g cap cur (0, 0) (fun i => if h : i < xs.length then .slice xs[i].2.1 xs[i].1.kids.length xs[i].2.2 else undef) (hv g rfl) hg (by omega) (fun i hi => ?_) (fun i hi => ?_)
    · have hi' : i < xs.length := by omega
      obtain ⟨e1, e2, e3⟩ := cellsOf_at xs i hi'
      have ek : t.kids[i] = xs[i].1 := by simp [ht]
      simp only [dif_pos hi', ek]
      exact ⟨(hat _ (by omega)).trans e1, (hat _ (by omega)).trans e2, (hat _ (by omega)).trans e3⟩
    · have hi' : i < xs.length := by omega
      have ek : t.kids[i] = xs[i].1 := by simp [ht]
      simp only [dif_pos hi', ek]
      exact hk _ (List.getElem_mem hi')
/-- A part of a row. -/
theorem TyIn.part {K : Nat → Prop} {X : World} {t : T} {a : Option Addr} {c : Nat} (h : TyIn K X t (.slice a t.kids.length c)) (i : Nat) (hi : i < t.kids.length) : ∃ g pa ca, a = some ⟨g, 0, none⟩ ∧ t.kids.length ≤ c ∧ ∀ W, KeepK K X W → (g < W.heap.size ∧ W.cell? ⟨g, i * 3, none⟩ = some (.int .i64 t.kids[i].kind) ∧ W.cell? ⟨g, i * 3 + 1, none⟩ = some (.string t.kids[i].name) ∧ W.cell? ⟨g, i * 3 + 2, none⟩ = some (.slice pa t.kids[i].kids.length ca)) ∧ TyIn K W t.kids[i] (.slice pa t.kids[i].kids.length ca) := by
  obtain ⟨v, hv⟩ : ∃ v, v = Value.slice a t.kids.length c := ⟨_, rfl⟩
  rw [← hv] at h
  cases h with
  | leaf _ _ _ h0 => rw [h0] at hi; cases hi
  | row _ g cap cs fz z h0 h1 h2 h3 h4 =>
    cases hv
    obtain ⟨pa, ca, e⟩ := (h4 i hi).shape
    obtain ⟨c1, c2, c3⟩ := h3 i hi
    rw [e] at c3
    refine ⟨g, pa, ca, rfl, h2, fun W hk => ?_⟩
    have hW := (hk g h0 (Array.getElem?_eq_some_iff.1 h1).1).trans h1
    refine ⟨⟨(Array.getElem?_eq_some_iff.1 hW).1, ?_, ?_, ?_⟩, ?_⟩
    · simp only [World.cell?, hW]; simpa using c1
    · simp only [World.cell?, hW]; simpa using c2
    · simp only [World.cell?, hW]; simpa using c3
    · rw [← e]; exact (h4 i hi).keepK hk

/-- The pairs that the document's Apply is handed: their types' rows lie ahead of N. -/
def Src4 (N : Nat) (v : Value) (d : List PR) (w : World) : Prop := GivenG 50 v d w ∧ (∀ x ∈ d, TyIn (fun k => k < N) w x.t (.slice x.a x.t.kids.length x.c)) ∧ N ≤ w.heap.size
theorem Src4.below {N : Nat} {v : Value} {d : List PR} {w W : World} (h : Src4 N v d w) (hb : Below w.heap.size w W) : Src4 N v d W :=
  ⟨h.1.below hb, fun x hx => (h.2.1 x hx).keep fun k _ _ hk hh => (hb.block k (by have := h.2.2; omega)).trans hh, Nat.le_trans h.2.2 hb.size⟩
def RApp (d : List PR) (t : T) : Prop := ∀ (N : Nat) (v : Value) (a : Option Addr) (c : Nat) (w : World), Src4 N v d w → TyIn (fun k => k < N) w t (.slice a t.kids.length c) → tsize t ≤ 1000000000 →
    Calls Tryd.prog 18 #[v, tyV t (.slice a t.kids.length c)] w fun e w' => (∃ a' c', e = .returned (tyV (app d t) (.slice a' (app d t).kids.length c')) ∧ TyIn (fun k => k < N ∨ w.heap.size ≤ k) w' (app d t) (.slice a' (app d t).kids.length c')) ∧ Below w.heap.size w w'

set_option maxRecDepth 100000 in
set_option maxHeartbeats 4000000 in
theorem rapp_var (d : List PR) (hl : d.length < 1000000) (n : ByteArray) : RApp d (.var n) := by
  intro N v a c w hs ht hz
  have HG := Lib.hid (fun (V : World) (hb : Below w.heap.size w V) => rget_any v d n V (hs.1.below hb) (by omega))
  have HS := Lib.hid hs
  obtain ⟨av, cv, rfl, _⟩ := hs.1.shape
  have HB2 := Lib.hid (fun o1 o2 => below_two w o1 o2)
  have e0 : (T.var n).kids.length = 0 := rfl
  have e1 : (T.var n).kind = 1 := rfl
  have e2 : (T.var n).name = n := rfl
  obtain ⟨res, hres⟩ : ∃ r, lk n d = r := ⟨_, rfl⟩
  have HRes := Lib.hid hres
  have hap : app d (.var n) = ((res.map PR.t).getD (.var n)) := by rw [app_v]; unfold ty; rw [hres]
  rw [hap]
  simp only [tyV, e0, e1, e2]
  clear hs ht hz hap e0 e1 e2
  rw [hres] at HG
  clear hres
  go_enter Tryd.func18, Tryd.ntmps18
  cases res with
  | none =>
    simp only [fv', Option.isSome_none, Option.map_none, Option.getD_none] at HG ⊢
    go_wp2_with (go_at_call 37; refine (HG.out _ (HB2.out _ _)).mono ?_)
    rintro e w2 ⟨rfl, hb2⟩
    have hbw : Below w.heap.size w w2 := (HB2.out _ _).trans (hb2.mono (by simp; omega))
    have hy := (hb2.block w.heap.size (by simp; omega)).trans ((Below.heap_alloc _ _ _ (by simp)).trans (alloc_new w _))
    have hz := (hb2.block (w.heap.size + 1) (by simp)).trans (new_two w _ _)
    obtain ⟨y0, y1, y2⟩ := three_cells hy
    obtain ⟨z0, z1, z2⟩ := three_cells hz
    have u0 := Lib.frozen_of_heap hz 0
    have u1 := Lib.frozen_of_heap hz 1
    have u2 := Lib.frozen_of_heap hz 2
    have ly := (Array.getElem?_eq_some_iff.1 hy).1
    have lz := (Array.getElem?_eq_some_iff.1 hz).1
    have HB := Lib.hid hbw
    have HZ := Lib.hid hz
    have lW : w.heap.size < w2.heap.size := by omega
    clear hb2 hbw hy hz HG
    go_wp2
    have hs3 := set3_block HZ.out (.int .i64 1) (.string n) (.slice a 0 c)
    have hc := three_cells ((Below.heap_alloc _ (.cells #[.int .i64 0, .string ⟨#[]⟩, .slice none 0 0] 33) _ (Array.getElem?_eq_some_iff.1 hs3).1).trans hs3)
    exact bodyPost_ret (v := .agg #[.int .i64 1, .string n, .slice a 0 c]) (by simp [results, Tryd.results18, go_sem, hc.1, hc.2.1, hc.2.2]) rfl ⟨⟨a, c, rfl, .leaf _ _ _ rfl⟩, (below_set3 HB.out (Nat.le_succ _) _ _ _).alloc (by have := HB.out.size; simp; omega) _⟩
  | some x =>
    simp only [fv', Option.isSome_some, Option.map_some, Option.getD_some] at HG ⊢
    have HX := Lib.hid (HS.out.2.1 x (lk_name HRes.out).1)
    have HN := Lib.hid HS.out.2.2
    go_wp2_with (go_at_call 37; refine (HG.out _ (HB2.out _ _)).mono ?_)
    rintro e w2 ⟨rfl, hb2⟩
    have hbw : Below w.heap.size w w2 := (HB2.out _ _).trans (hb2.mono (by simp; omega))
    have hy := (hb2.block w.heap.size (by simp; omega)).trans ((Below.heap_alloc _ _ _ (by simp)).trans (alloc_new w _))
    have hz := (hb2.block (w.heap.size + 1) (by simp)).trans (new_two w _ _)
    obtain ⟨y0, y1, y2⟩ := three_cells hy
    obtain ⟨z0, z1, z2⟩ := three_cells hz
    have u0 := Lib.frozen_of_heap hz 0
    have u1 := Lib.frozen_of_heap hz 1
    have u2 := Lib.frozen_of_heap hz 2
    have ly := (Array.getElem?_eq_some_iff.1 hy).1
    have lz := (Array.getElem?_eq_some_iff.1 hz).1
    have HB := Lib.hid hbw
    have HZ := Lib.hid hz
    have lW : w.heap.size < w2.heap.size := by omega
    clear hb2 hbw hy hz HG
    go_wp2
    have hs3 := set3_block HZ.out (.int .i64 x.t.kind) (.string x.t.name) (.slice x.a x.t.kids.length x.c)
    have hc := three_cells ((Below.heap_alloc _ (.cells #[.int .i64 x.t.kind, .string x.t.name, .slice x.a x.t.kids.length x.c] 33) _ (Array.getElem?_eq_some_iff.1 hs3).1).trans hs3)
    refine bodyPost_ret (v := .agg #[.int .i64 x.t.kind, .string x.t.name, .slice x.a x.t.kids.length x.c]) (by simp [results, Tryd.results18, go_sem, hc.1, hc.2.1, hc.2.2]) rfl ⟨⟨x.a, x.c, rfl, ?_⟩, (below_set3 HB.out (Nat.le_succ _) _ _ _).alloc (by have := HB.out.size; simp; omega) _⟩
    refine (HX.out.keep fun k _ _ hk hh => ?_).mono fun k hk => .inl hk
    have hkw : k < w.heap.size := Nat.lt_of_lt_of_le hk HN.out
    exact (Below.heap_alloc _ _ k (by simp; omega)).trans ((set3_others _ _ _ (by omega)).trans ((HB.out.block k hkw).trans hh))
end Go.Proofs.YtjnlchhikdfifaaDoor
/- The document's Apply, of all types. -/
namespace Go.Proofs.YtjnlchhikdfifaaDoor
open Go.RowKit Go.Sort Go.Lib
attribute [local go_sem] Oper.semAt_some

/-- One more at the row's end: what lay beside the row lies beside it still. -/
theorem beside_next {ok : Nat → Prop} {X w1 : World} {o : Obj} {s v' : Value} {g : Nat} {xs : List Tl} {x : Tl} (hx : ∀ y ∈ xs, TyIn (fun k => ok k ∧ some k ≠ s.ownBlock) X y.1 (.slice y.2.1 y.1.kids.length y.2.2)) (hnew : TyIn (fun k => ok k ∧ some k ≠ s.ownBlock) X x.1 (.slice x.2.1 x.1.kids.length x.2.2))
    (hg : (X.alloc o).grownBy w1 s.ownBlock) (hat : s.ownBlock = some g ∨ g = (X.alloc o).heap.size) (hv' : v'.ownBlock = some g) : ∀ y ∈ xs ++ [x], TyIn (fun k => ok k ∧ some k ≠ v'.ownBlock) w1 y.1 (.slice y.2.1 y.1.kids.length y.2.2) := by
  have key : ∀ {t : T} {v : Value}, TyIn (fun k => ok k ∧ some k ≠ s.ownBlock) X t v → TyIn (fun k => ok k ∧ some k ≠ v'.ownBlock) w1 t v := fun {t v} ht => by
    have hgk : ∀ k, some k ≠ s.ownBlock ∧ k < X.heap.size → k ≠ g := fun k hk e => by
      subst e
      rcases hat with e | e
      · exact hk.1 e.symm
      · have := hk.2; simp at e; omega
    refine (ht.lt.keep fun k cs fz hk hh => ?_).mono fun k hk => ⟨hk.1.1, by rw [hv']; exact fun e => hgk k ⟨hk.1.2, hk.2⟩ (by simpa using e)⟩
    exact (hg.block k (by simp; omega) hk.1.2).trans ((Below.heap_alloc X o k hk.2).trans hh)
  intro y hy
  rcases List.mem_append.1 hy with hy | hy
  · exact key (hx y hy)
  · rw [List.mem_singleton.1 hy]; exact key hnew
theorem cell_new3 (w : World) (x y z : Value) (t : TypeId) : ∀ j v, [x, y, z][j]? = some v → (w.alloc (.cells #[x, y, z] t)).cell? ((⟨w.heap.size, 0, none⟩ : Addr).add j) = some v := by
  intro j v hv
  have hadd : (⟨w.heap.size, 0, none⟩ : Addr).add j = ⟨w.heap.size, j, none⟩ := by unfold Addr.add; split <;> simp_all
  rw [hadd]
  have := alloc_new w (.cells #[x, y, z] t)
  simp only [World.cell?, this]
  match j, hv with
  | 0, hv => simpa using hv
  | 1, hv => simpa using hv
  | 2, hv => simpa using hv
  | n + 3, hv => simp at hv
/-- What the loop keeps. -/
def AI (N : Nat) (w : World) (l : List T) (v : Value) (n : Nat) (wr : World) : Prop :=
  (∃ xs : List Tl, (xs.map (·.1) = l ∧ n = xs.length) ∧ wr.ownsRow (w.heap.size + 1 + 1) 33 3 v xs.length (cellsOf xs) ∧ ∀ x ∈ xs, TyIn (fun k => (k < N ∨ w.heap.size + 1 + 1 ≤ k) ∧ some k ≠ v.ownBlock) wr x.1 (.slice x.2.1 x.1.kids.length x.2.2)) ∧ Below w.heap.size w wr ∧ w.heap.size + 1 + 1 ≤ wr.heap.size
theorem AI.below {N : Nat} {w : World} {l : List T} {v : Value} {n : Nat} {X Y : World} (h : AI N w l v n X) (hb : Below X.heap.size X Y) : AI N w l v n Y := by
  obtain ⟨⟨xs, h1, h2, h3⟩, h4, h5⟩ := h
  refine ⟨⟨xs, h1, row_kept h2 fun k _ _ hk => (hb.block k (Array.getElem?_eq_some_iff.1 hk).1).trans hk, fun x hx => (h3 x hx).keep fun k _ _ _ hk => (hb.block k (Array.getElem?_eq_some_iff.1 hk).1).trans hk⟩, h4.trans (hb.mono h4.size), Nat.le_trans h5 hb.size⟩

set_option maxRecDepth 100000 in
set_option maxHeartbeats 4000000 in
theorem rapp_step (d : List PR) (t : T) (hv : ∀ n, t ≠ .var n) (H : ∀ k ∈ t.kids, RApp d k) : RApp d t := by
  intro N v a c w hs ht hz
  have hz' := tsize_eq t
  have hlen := len_sizes' t.kids
  have hk1 := kind_one hv
  obtain ⟨p1, p2, p3⟩ := app_parts d t hv
  have HS := Lib.hid hs
  have HR := Lib.hid ht.part
  have HH := Lib.hid H
  have HN := Lib.hid hs.2.2
  obtain ⟨av, cv, rfl, _⟩ := hs.1.shape
  obtain ⟨i0, hi, hz0, hz1, hz2⟩ := info_parts Tryd.infoTy
  have HB2 := Lib.hid (fun o1 o2 => below_two w o1 o2)
  have HP := Lib.hid (And.intro p1 (And.intro p2 p3))
  clear hs ht H p1 p2 p3 hv
  simp only [tyV]
  go_enter Tryd.func18, Tryd.ntmps18
  go_wp2
  go_loopw [7, 8] (fun vo vi wr => ∃ (i n e : Nat) (b : Option Addr), i ≤ t.kids.length ∧ vi = .int .i64 i ∧ vo = .slice b n e ∧ Hid (AI N w ((t.kids.take i).map (app d)) (.slice b n e) n wr) ∧ Hid (wr.heap[w.heap.size]? = some (.cells #[.int .i64 t.kind, .string t.name, .slice a t.kids.length c] 33 (0, 0)) ∧ wr.heap[w.heap.size + 1]? = some (.cells #[.int .i64 0, .string ⟨#[]⟩, .slice none 0 0] 33 (0, 0)))) (fun _ vi _ => t.kids.length - (intOf vi).toNat)
  case atStart =>
    exact ⟨0, 0, 0, none, Nat.zero_le _, rfl, rfl, Lib.hid ⟨⟨[], ⟨rfl, rfl⟩, World.ownsRow_nil _ _ _ _, (fun _ h => nomatch h)⟩, HB2.out _ _, by simp⟩, Lib.hid ⟨(Below.heap_alloc _ _ _ (by simp)).trans (alloc_new w _), new_two w _ _⟩⟩
  case round =>
    obtain ⟨i, n, e, b, hi', rfl, rfl, hF, hBox⟩ := hrel
    obtain ⟨b0, b1, b2⟩ := three_cells hBox.out.1
    obtain ⟨z0, z1, z2⟩ := three_cells hBox.out.2
    have lz := (Array.getElem?_eq_some_iff.1 hBox.out.2).1
    have ly := (Array.getElem?_eq_some_iff.1 hBox.out.1).1
    by_cases hlt : i < t.kids.length
    · obtain ⟨⟨xs, ⟨hx1, rfl⟩, hrow, hbs⟩, hBl, hsz⟩ := hF.out
      obtain ⟨g, pa, ca, rfl, hcap, hr⟩ := HR.out i hlt
      obtain ⟨⟨hg, x0, x1, x2⟩, xk⟩ := hr wr (fun k hk hx => hBl.block k hx)
      have hkk := size_mem' (List.getElem_mem hlt)
      have HC := Lib.hid (HH.out t.kids[i] (List.getElem_mem hlt) N _ pa ca wr (HS.out.below hBl) xk (by omega))
      obtain rfl : i = xs.length := by have := congrArg List.length hx1; simp at this; omega
      have HTk := Lib.hid (show (t.kids.take (xs.length + 1)).map (app d) = (t.kids.take xs.length).map (app d) ++ [app d t.kids[xs.length]] by rw [List.take_succ_eq_append_getElem hlt, List.map_append]; rfl)
      have HX1 := Lib.hid hx1
      have HRow := Lib.hid hrow; have HBs := Lib.hid hbs; have HBl := Lib.hid hBl; have HSz := Lib.hid hsz
      have HPc := Lib.hid HP.out.1
      clear hr xk hkk HH HR hx1 hrow hbs hBl hF
      generalize t.kids[xs.length] = u at x0 x1 x2 HC HTk
      simp only [tyV] at HC
      have hlt1 : ((xs.length : Int) < (t.kids.length : Int)) := by omega
      have hxs : xs.length ≤ 1000000000 := by omega
      go_wp2_with (first
        | (go_at_call 18; refine HC.out.mono ?_; rintro e2 w2 ⟨⟨a2, c2, rfl, g1⟩, g2⟩; have G1 := Lib.hid g1; have G2 := Lib.hid g2; have hq1 := (g2.block _ ly).trans hBox.out.1; have hq2 := (g2.block _ lz).trans hBox.out.2; have HBox2 := Lib.hid (And.intro hq1 hq2); have HRow2 := Lib.hid (row_kept HRow.out fun k cs fz hk => (g2.block k (Array.getElem?_eq_some_iff.1 hk).1).trans hk); clear g1 g2 hq1 hq2)
        | (at_builtin; refine wpList_append_lies _ rfl _ _ 31 rfl (w.heap.size + 1 + 1) 33 i0 (.agg #[.int .i64 0, .string ⟨#[]⟩, .slice none 0 0]) 3 48 Tryd.underlying31 hi hz0 hz1 hz2 rfl (by decide) _ _ _ rfl (HRow2.out.alloc _) ⟨w2.heap.size, 0, none⟩ 1 1 [.int .i64 (app d u).kind, .string (app d u).name, .slice a2 (app d u).kids.length c2] rfl rfl (cell_new3 _ _ _ _ _) (by simp [Value.oneCell']) (by decide) (by unfold maxLen; omega) (by omega) (by have := HSz.out; have := G2.out.size; simp; omega) _ rfl ?_; intro g3 cap3 w3 ho3 hg3 hat3 hlt3; have HO3 := Lib.hid ho3; have HG3 := Lib.hid hg3; have HAt3 := Lib.hid hat3; clear ho3 hg3 hat3 hlt3))
      go_roundw
      case rel =>
        have hlo := HRow.out.lt
        have hw2 := G2.out.size
        have hwl := HBl.out.size
        refine ⟨xs.length + 1, xs.length + 1, cap3, some ⟨g3, 0, none⟩, by omega, by go_num, rfl, Lib.hid ⟨⟨xs ++ [(app d u, a2, c2)], ⟨?_, by simp⟩, ?_, ?_⟩, ?_, ?_⟩, Lib.hid ⟨?_, ?_⟩⟩
        · rw [HTk.out, List.map_append, HX1.out]; rfl
        · rw [cellsOf_snoc, List.length_append]; exact HO3.out
        · refine beside_next (fun y hy => (HBs.out y hy).keep fun k _ _ _ hk => (G2.out.block k (Array.getElem?_eq_some_iff.1 hk).1).trans hk) (G1.out.mono fun k hk => ⟨?_, fun e => ?_⟩) HG3.out HAt3.out rfl
          · rcases hk with hk | hk
            · exact .inl hk
            · exact .inr (Nat.le_trans HSz.out hk)
          · have := hlo k e.symm
            have := HN.out
            rcases hk with hk | hk <;> omega
        · exact ((HBl.out.trans (G2.out.mono hwl)).alloc (by omega) _).grown HG3.out (by simp; omega) (fun j hj => by have := (hlo j hj).1; omega)
        · have := HG3.out.size; simp at this; omega
        · exact (HG3.out.block _ (by simp; omega) (fun e => by have := (hlo _ e.symm).1; omega)).trans ((Below.heap_alloc w2 _ _ (by omega)).trans HBox2.out.1)
        · exact (HG3.out.block _ (by simp; omega) (fun e => by have := (hlo _ e.symm).1; omega)).trans ((Below.heap_alloc w2 _ _ (by omega)).trans HBox2.out.2)
      case measure => simp [intOf]; omega
    · obtain rfl : i = t.kids.length := by omega
      rw [List.take_length] at hF
      have fb := Lib.frozen_of_heap hBox.out.1 2
      have u0 := Lib.frozen_of_heap hBox.out.2 0
      have u1 := Lib.frozen_of_heap hBox.out.2 1
      have u2 := Lib.frozen_of_heap hBox.out.2 2
      clear HR HH HS
      go_wp2
      obtain ⟨⟨xs, ⟨hx1, rfl⟩, hrow, hbs⟩, hBl, hsz⟩ := hF.out
      have hz4 := (Below.heap_setCell wr ⟨w.heap.size, 2, none⟩ (.slice b xs.length e) (w.heap.size + 1) (by simp)).trans hBox.out.2
      have hs3 := set3_block hz4 (.int .i64 t.kind) (.string t.name) (.slice b xs.length e)
      have hc := three_cells hs3
      have hlen2 : (app d t).kids.length = xs.length := by rw [HP.out.2.2, ← hx1]; simp
      have hin : TyIn (fun k => k < N ∨ w.heap.size + 1 + 1 ≤ k) wr (app d t) (.slice b xs.length e) := in_of_row (by rw [HP.out.2.2, hx1]) hrow (fun g hg => .inr (hrow.lt g hg).1) (fun x hx => (hbs x hx).mono fun k hk => hk.1)
      refine bodyPost_ret (v := .agg #[.int .i64 t.kind, .string t.name, .slice b xs.length e]) (by simp [results, Tryd.results18, go_sem, hc.1, hc.2.1, hc.2.2]) rfl ⟨⟨b, e, by rw [HP.out.1, HP.out.2.1, hlen2], ?_⟩, below_set3 (hBl.setCell (p := ⟨w.heap.size, 2, none⟩) (Nat.le_refl _) _) (Nat.le_succ _) _ _ _⟩
      rw [hlen2]
      refine (hin.keep fun k _ _ hk hh => ?_).mono fun k hk => hk.imp id (fun h => by omega)
      have hkN : k ≠ w.heap.size ∧ k ≠ w.heap.size + 1 := by have := HN.out; rcases hk with hk | hk <;> omega
      exact (set3_others _ _ _ hkN.2).trans ((Below.heap_setCell wr ⟨w.heap.size, 2, none⟩ _ k hkN.1).trans hh)
theorem rapp_ok (d : List PR) (hl : d.length < 1000000) (t : T) : RApp d t :=
  T.by_kids (P := RApp d) (fun t H => by
    cases t with
    | var n => exact rapp_var d hl n
    | con n l => exact rapp_step d _ (fun m h => by cases h) H
    | fn a b => exact rapp_step d _ (fun m h => by cases h) H
    | all n a => exact rapp_step d _ (fun m h => by cases h) H) t
/-- The document's Apply, whose result is told. -/
theorem rapp_big {d : List PR} {v : Value} {t : T} {a : Option Addr} {c : Nat} {w : World} (hl : d.length < 1000000) (hg : GivenG 50 v d w) (ht : Typ d w) (h : TysAt w (.slice a t.kids.length c) t.kids) (hz : tsize t ≤ 1000000000) :
    Calls Tryd.prog 18 #[v, .agg #[.int .i64 t.kind, .string t.name, .slice a t.kids.length c]] w fun e Y => (∃ za zc, e = .returned (.agg #[.int .i64 (app d t).kind, .string (app d t).name, .slice za (app d t).kids.length zc]) ∧ TysAt Y (.slice za (app d t).kids.length zc) (app d t).kids) ∧ Below w.heap.size w Y := by
  have lt : ∀ (k : Nat) (cs : Array Value) (fz : Nat × Nat), w.heap[k]? = some (.cells cs 33 fz) → k < w.heap.size := fun k _ _ hk => (Array.getElem?_eq_some_iff.1 hk).1
  refine (rapp_ok d hl t w.heap.size v a c w ⟨hg, fun x hx => (ht x hx).inside lt, Nat.le_refl _⟩ (h.inside lt) hz).mono ?_
  rintro e Y ⟨⟨a', c', rfl, hin⟩, hb⟩
  exact ⟨⟨a', c', rfl, hin.tys⟩, hb⟩
theorem rapp_ret {d : List PR} {v : Value} {t : T} {a : Option Addr} {c : Nat} {w : World} (hl : d.length < 1000000) (hg : GivenG 50 v d w) (ht : Typ d w) (h : TysAt w (.slice a t.kids.length c) t.kids) (hz : tsize t ≤ 1000000) :
    Calls Tryd.prog 18 #[v, .agg #[.int .i64 t.kind, .string t.name, .slice a t.kids.length c]] w fun e Y => (∃ za zc, e = .returned (.agg #[.int .i64 (app d t).kind, .string (app d t).name, .slice za (app d t).kids.length zc]) ∧ TysAt Y (.slice za (app d t).kids.length zc) (app d t).kids) ∧ Below w.heap.size w Y :=
  rapp_big hl hg ht h (Nat.le_trans hz (by decide))
end Go.Proofs.YtjnlchhikdfifaaDoor
/- The document's Preds. -/
namespace Go.Proofs.YtjnlchhikdfifaaDoor
open Go.RowKit Go.Sort Go.Lib
attribute [local go_sem] Oper.semAt_some

theorem prs_of_own {W : World} {B : Nat} {v : Value} {ls : List PR} (h : W.ownsRow B 35 4 v ls.length (cellsP ls)) (ht : Typ ls W) : PrsAt W v (ls.map prOf) := by
  by_cases h0 : ls = []
  · subst h0
    obtain ⟨a, c, e⟩ := row_val h
    exact .inl ⟨rfl, a, c, e⟩
  · have hc : ∃ g cap, v = .slice (some ⟨g, 0, none⟩) ls.length cap ∧ ls.length ≤ cap := by
      rcases h.2 with ⟨_, h1⟩ | ⟨g, cap, cur, e, _, _, hc, _⟩
      · exact absurd (List.length_eq_zero_iff.1 h1) h0
      · exact ⟨g, cap, e, hc⟩
    obtain ⟨g, cap, rfl, hcap⟩ := hc
    rcases given_of_row h (fun e => absurd e h0) with ⟨e, _⟩ | ⟨_, g', cap', e, hr⟩
    · exact absurd e h0
    · cases e
      exact prs_of_rowG hr ht hcap

theorem own_below {W W' : World} {base : Nat} {e : TypeId} {size : Nat} {v : Value} {n : Nat} {xs : List Value} (h : W.ownsRow base e size v n xs) (hb : Below W.heap.size W W') : W'.ownsRow base e size v n xs :=
  row_kept h fun k _ _ hk => (hb.block k (Array.getElem?_eq_some_iff.1 hk).1).trans hk
set_option maxRecDepth 100000 in
set_option maxHeartbeats 4000000 in
theorem rpreds_any (u v : Value) (d : List PR) (l : List Pr) (w : World) (hl : d.length < 1000000) (hd : GivenG 50 u d w) (ht : Typ d w) (h : PrsAt w v l) (hq : ∀ q ∈ l, tsize q.2 ≤ 1000000) (hn : l.length ≤ 1000000) :
    Calls Tryd.prog 19 #[u, v] w fun e w' => (∃ a c, e = .returned (.slice a l.length c) ∧ PrsAt w' (.slice a l.length c) (appP d l)) ∧ Below w.heap.size w w' := by
  obtain ⟨av, cv, rfl⟩ := h.shape
  obtain ⟨i0, hi, hz0, hz1, hz2⟩ := info_parts Tryd.infoPred
  have HD := Lib.hid hd; have HT := Lib.hid ht
  obtain ⟨ua, uc, rfl, _⟩ := hd.shape
  have HRow := Lib.hid (fun (i : Nat) (hi : i < l.length) => (by obtain ⟨g, cap, e, hg, hc, hr⟩ := h.row (by rintro rfl; cases hi); exact ⟨g, cap, e, hg, hc, hr i hi⟩ : ∃ g cap, Value.slice av l.length cv = .slice (some ⟨g, 0, none⟩) l.length cap ∧ g < w.heap.size ∧ l.length ≤ cap ∧ ∃ a c, w.cell? ⟨g, i * 4, none⟩ = some (.string l[i].1) ∧ w.cell? ⟨g, i * 4 + 1, none⟩ = some (.int .i64 l[i].2.kind) ∧ w.cell? ⟨g, i * 4 + 2, none⟩ = some (.string l[i].2.name) ∧ w.cell? ⟨g, i * 4 + 3, none⟩ = some (.slice a l[i].2.kids.length c) ∧ TysAt w (.slice a l[i].2.kids.length c) l[i].2.kids))
  have HQ := Lib.hid hq
  clear hd ht h hq
  go_enter Tryd.func19, Tryd.ntmps19
  go_wp2
  go_loopw [5, 6] (fun vo vi wr => ∃ (i : Nat) (ls : List PR), i ≤ l.length ∧ vi = .int .i64 i ∧ Hid ((ls.length = i ∧ ls.map prOf = appP d (l.take i)) ∧ wr.ownsRow w.heap.size 35 4 vo ls.length (cellsP ls) ∧ Typ ls wr ∧ Below w.heap.size w wr)) (fun _ vi _ => l.length - (intOf vi).toNat)
  case atStart => exact ⟨0, [], Nat.zero_le _, rfl, Lib.hid ⟨⟨rfl, rfl⟩, World.ownsRow_nil _ _ _ _, (fun _ h => nomatch h), Below.refl _ _⟩⟩
  case round =>
    obtain ⟨i, ls, hi', rfl, hF⟩ := hrel
    by_cases hlt : i < l.length
    · obtain ⟨⟨hll, hmap⟩, hRow, hTy, hB⟩ := hF.out
      obtain ⟨oa, oc, rfl⟩ := row_val hRow
      obtain ⟨g, cap, e1, hg, hcap, pa, pc, x0, x1, x2, x3, xk⟩ := HRow.out i hlt
      cases e1
      have f1 := fun o => hB.cell (p := ⟨g, o, none⟩) hg
      rw [← f1] at x0 x1 x2 x3
      have hgw : g < wr.heap.size := Nat.lt_of_lt_of_le hg hB.size
      have hqs := HQ.out l[i] (List.getElem_mem hlt)
      have HA := Lib.hid (fun (V : World) (hb : Below w.heap.size w V) => rapp_ret (d := d) (t := l[i].2) (v := .slice ua d.length uc) (a := pa) (c := pc) (w := V) hl (HD.out.below hb) (HT.out.keep (KeepT.of_below hb)) (xk.keep (KeepT.of_below hb)) hqs)
      have HM := Lib.hid (show appP d (l.take (i + 1)) = appP d (l.take i) ++ [(l[i].1, app d l[i].2)] by unfold appP; rw [List.take_succ_eq_append_getElem hlt, List.map_append]; rfl)
      have hlsn : ls.length ≤ 1000000 := by omega
      have HLen := Lib.hid hll; have HMap := Lib.hid hmap; have HRw := Lib.hid hRow; have HTy := Lib.hid hTy; have HB := Lib.hid hB
      clear f1 xk hqs hF hll hmap hRow hTy hB HRow
      generalize l[i] = q at x0 x1 x2 x3 HA HM
      obtain ⟨cn, t⟩ := q
      simp only at x0 x1 x2 x3 HA HM
      have hiz : (i : Int) < (l.length : Int) := by omega
      go_wp2
      go_region_law (first
        | (refine run_bare rfl ?_; go_simp; go_at_call 18; refine (HA.out wr.drew HB.out.drew).mono ?_; rintro e w4 ⟨⟨a4, c4, rfl, hin⟩, hb4⟩; have HI4 := Lib.hid hin; have HB4 : Hid (Below wr.heap.size wr w4) := Lib.hid ((Below.refl _ wr).drew.trans hb4); have x04 := (HB4.out.cell (p := ⟨g, i * 4, none⟩) hgw).trans x0; have HR4 := Lib.hid (own_below HRw.out HB4.out); clear hin hb4)
        | (refine step_append_lies _ (by rfl) _ _ 24 (by rfl) w.heap.size 35 i0 (.agg #[.string ⟨#[]⟩, .int .i64 0, .string ⟨#[]⟩, .slice none 0 0]) 4 64 Tryd.underlying24 hi hz0 hz1 hz2 rfl (by decide) _ _ _ (by rfl) (HR4.out.alloc _) ⟨w4.heap.size, 0, none⟩ 1 1 [.string cn, .int .i64 (app d t).kind, .string (app d t).name, .slice a4 (app d t).kids.length c4] (by rfl) rfl (cell_new4 _ _ _ _ _ _) (by simp [Value.oneCell']) (by decide) (by unfold maxLen; omega) (by omega) (by have := HB.out.size; have := HB4.out.size; simp; omega) _ rfl ?_; intro g5 cap5 w5 ho5 hg5 hat5 hlt5))
      all_goals
        have hs4 := HB4.out.size
        have hsw := HB.out.size
        have hk : KeepT wr w5 := (KeepT.of_below HB4.out).trans ((keepT_alloc w4 _).trans (KeepT.grown hg5 (HR4.out.alloc _) (by decide)))
        have hk4 : KeepT w4 w5 := (keepT_alloc w4 _).trans (KeepT.grown hg5 (HR4.out.alloc _) (by decide))
        have hb5 : Below w.heap.size w w5 := ((HB.out.trans (HB4.out.mono hsw)).alloc (by omega) _).grown hg5 (by simp; omega) (fun j hj => (HRw.out.lt j hj).1)
        have HK := Lib.hid hk; have HK4 := Lib.hid hk4; have HB5 := Lib.hid hb5; have HO5 := Lib.hid ho5
        clear hk hk4 hb5 ho5 hg5 hat5 hlt5
        go_wp2
        go_roundw
        case rel =>
          refine ⟨i + 1, ls ++ [⟨cn, app d t, a4, c4⟩], by omega, by go_num, Lib.hid ⟨⟨by simp [HLen.out], ?_⟩, ?_, ?_, HB5.out⟩⟩
          · rw [List.map_append, HMap.out, HM.out]; rfl
          · rw [cellsP_snoc, List.length_append]; exact HO5.out
          · intro y hy
            rcases List.mem_append.1 hy with hy | hy
            · exact (HTy.out y hy).keep HK.out
            · obtain rfl := List.mem_singleton.1 hy
              exact HI4.out.keep HK4.out
        case measure => simp [intOf]; omega
    · obtain rfl : i = l.length := by omega
      have hp := prs_of_own hF.out.2.1 hF.out.2.2.1
      obtain ⟨oa, oc, rfl⟩ := row_val hF.out.2.1
      rw [hF.out.1.1, hF.out.1.2, List.take_length] at hp
      have hl2 := hF.out.1.1
      have HPp := Lib.hid hp; have HBz := Lib.hid hF.out.2.2.2
      rw [hl2]
      clear hp HRow hF hl2
      go_wp2
      go_ret
      exact ⟨⟨_, _, rfl, HPp.out⟩, HBz.out⟩
end Go.Proofs.YtjnlchhikdfifaaDoor
/- SchemeSorts: the row that is turned: p[at:], then p[:at]. -/
namespace Go.Proofs.YtjnlchhikdfifaaDoor
open Go.RowKit Go.Sort Go.Lib
attribute [local go_sem] Oper.semAt_some

/-- The cells of the first k. -/
theorem RowF.take_news {g : Nat} {ls : List PR} {V : World} (h : RowF g ls V) {k : Nat} (hk : k ≤ ls.length) : ∀ j u, (cellsP (ls.take k))[j]? = some u → V.cell? ((⟨g, 0, none⟩ : Addr).add j) = some u := by
  intro j u hu
  have hl : (ls.take k).length = k := by rw [List.length_take, Nat.min_eq_left hk]
  have hj : j < (ls.take k).length * 4 := by have := (List.getElem?_eq_some_iff.1 hu).1; rwa [cellsP_len] at this
  have hadd : (⟨g, 0, none⟩ : Addr).add j = ⟨g, j, none⟩ := by unfold Addr.add; split <;> simp_all
  have hi : j / 4 < ls.length := by omega
  obtain ⟨x0, x1, x2, x3⟩ := h.cells hi
  rw [cellsP_get _ _ hj] at hu
  have e1 : (ls.take k).getD (j / 4) noP = ls.getD (j / 4) noP := by simp [List.getD, List.getElem?_take, show j / 4 < k by omega]
  rw [e1] at hu
  rw [hadd]
  obtain ⟨r, hr⟩ : ∃ r, j % 4 = r := ⟨_, rfl⟩
  rw [hr] at hu
  have : r = 0 ∨ r = 1 ∨ r = 2 ∨ r = 3 := by omega
  rcases this with rfl | rfl | rfl | rfl
  · rw [show (⟨g, j, none⟩ : Addr) = ⟨g, j / 4 * 4, none⟩ by congr 1; omega, x0]; simpa [encP] using hu
  · rw [show (⟨g, j, none⟩ : Addr) = ⟨g, j / 4 * 4 + 1, none⟩ by congr 1; omega, x1]; simpa [encP] using hu
  · rw [show (⟨g, j, none⟩ : Addr) = ⟨g, j / 4 * 4 + 2, none⟩ by congr 1; omega, x2]; simpa [encP] using hu
  · rw [show (⟨g, j, none⟩ : Addr) = ⟨g, j / 4 * 4 + 3, none⟩ by congr 1; omega, x3]; simpa [encP] using hu
/-- An append of however many, none at all too, onto a row of one's own, at a step of a region that draws. -/
theorem step_append_all {P : Program} (w : World) {ops : Array Oper} {o : Oper} {a : Act} {K : Act → World → Prop} {Q : Exit → Act → World → Prop} {E : Prop} (hgd : o.guard = none) (s x : Operand) (t : TypeId)
    (ho : o.op = .call { callee := .builtin .append, args := #[s, x], argTypes := #[t, t] })
    (base : Nat) (e : TypeId) (i : TypeInfo) (z : Value) (size bytes : Nat) (ht : P.underlying t = some (.slice e)) (hi : P.info? e = some i) (hz : i.zero = some z)
    (hsize : i.size = size) (hby : i.bytes = bytes) (hzs : z.cells.size = size) (hsz : 0 < size)
    (v : Value) (n : Nat) (xs : List Value) (hs : a.eval s = v) (hown : w.ownsRow base e size v n xs)
    (ad : Addr) (m c : Nat) (news : List Value) (hx : a.eval x = .slice (some ad) m c) (hl : news.length = m * size) (hnews : ∀ j u, news[j]? = some u → w.cell? (ad.add j) = some u) (h1 : ∀ u ∈ news, u.oneCell' = true)
    (h63 : n + m ≤ maxLen) (hbytes : (n + m) * bytes ≤ 140737488355328) (hbase : base ≤ w.heap.size)
    (h : ∀ v' w', w'.ownsRow base e size v' (n + m) (xs ++ news) → w.grownBy w' v.ownBlock → K (a.put o.dst v') w') :
    if Region.wanted o (yielded ops a.tmps) = true then Oper.wp P o a w K Q else E := by
  have hw : Region.wanted o (yielded ops a.tmps) = true := by simp [Region.wanted, hgd]
  rw [if_pos hw]
  obtain ⟨v', w', hr, h2, h3, _, _⟩ := run_append_own_at (P := P) w base t o.type e i z size bytes ht hi hz hsize hby hzs hsz v n xs hown ad m c news hl hnews h1 h63 hbytes hbase
  unfold Oper.wp execOp
  simp only [ho, resolve, invoke, builtin, Sem.run_bind, Sem.run_pure, Result.andThen_ok, List.map_toArray, List.map_cons, List.map_nil, hs, hx, hr]
  exact h v' w' h2 h3
theorem own_lower {W : World} {base b : Nat} {e : TypeId} {size : Nat} {v : Value} {n : Nat} {xs : List Value} (h : W.ownsRow b e size v n xs) (hb : base ≤ b) : W.ownsRow base e size v n xs := by
  refine ⟨h.1, ?_⟩
  rcases h.2 with h | ⟨g, cap, cur, rfl, hg, hc, r⟩
  · exact .inl h
  · exact .inr ⟨g, cap, cur, rfl, Nat.le_trans hb hg, hc, r⟩
/-- The row that is turned, behind what was there. -/
def TrI (wr : World) (g : Nat) (ps : List PR) (V : World) : Prop := RowF g ps V ∧ Below wr.heap.size wr V
theorem TrI.below {wr : World} {g : Nat} {ps : List PR} {V Y : World} (h : TrI wr g ps V) (hb : Below V.heap.size V Y) : TrI wr g ps Y := ⟨h.1.below hb, h.2.trans (hb.mono h.2.size)⟩
/-- The members of the turned row. -/
theorem turn_mem {ps : List PR} (k : Nat) (x : PR) : x ∈ ps.drop k ++ ps.take k ↔ x ∈ ps := by
  rw [List.mem_append]
  conv => rhs; rw [← List.take_append_drop k ps, List.mem_append]
  exact Or.comm
theorem turn_len {ps : List PR} {k : Nat} (hk : k ≤ ps.length) : (ps.drop k ++ ps.take k).length = ps.length := by simp; omega
theorem PV.prs {ls : List PR} {v : Value} {V : World} (h : PV ls v V) : PrsAt V v (ls.map prOf) := by
  rcases h with ⟨ht, ⟨rfl, a, c, rfl⟩ | ⟨g, cap, rfl, hc, cs, fz, h1, h3⟩⟩
  · exact .inl ⟨rfl, a, c, rfl⟩
  · refine .inr ⟨g, cap, cs, fz, fun i => .slice (ls.getD i noP).a (ls.getD i noP).t.kids.length (ls.getD i noP).c, by simp, h1, by simpa using hc, fun i hi => ?_⟩
    have hi' : i < ls.length := by simpa using hi
    have e : (ls.map prOf)[i] = prOf (ls.getD i noP) := by simp [List.getD, hi']
    rw [e]
    exact ⟨h3 i hi', ht _ (getD_memR hi')⟩
/-- The turned row, to be sorted. -/
theorem turn_prs {w9 wr : World} {ps : List PR} {v9 : Value} {k : Nat} (hk : k ≤ ps.length) (ht : Typ ps wr) (hb : Below wr.heap.size wr w9) (ho : w9.ownsRow wr.heap.size 35 4 v9 (ps.length - k + k) (cellsP (ps.drop k) ++ cellsP (ps.take k))) : PrsAt w9 v9 ((ps.drop k ++ ps.take k).map prOf) := by
  rw [cellsP_append, show ps.length - k + k = (ps.drop k ++ ps.take k).length by rw [turn_len hk]; omega] at ho
  exact prs_of_own ho fun x hx => (ht x ((turn_mem k x).1 hx)).keep (KeepT.of_below hb)
theorem turn_all {ps : List PR} {k : Nat} {R : Pr → Prop} (h : ∀ x ∈ ps, R (prOf x)) : ∀ q ∈ (ps.drop k ++ ps.take k).map prOf, R q := fun q hq => by
  obtain ⟨x, hx, rfl⟩ := List.mem_map.1 hq
  exact h x ((turn_mem k x).1 hx)
theorem turn_same {ps : List PR} (k : Nat) (q : Pr) : q ∈ (ps.drop k ++ ps.take k).map prOf ↔ q ∈ ps.map prOf := by
  simp only [List.mem_map, turn_mem]
end Go.Proofs.YtjnlchhikdfifaaDoor
/- SchemeSorts, the row that is turned: its last statement, a region of 9 operations that draws its order, by an invariant. (Made by a program.) -/
namespace Go.Proofs.YtjnlchhikdfifaaDoor
open Go.RowKit Go.Sort Go.Lib
attribute [local go_sem] Oper.semAt_some

noncomputable def ssrOps : Array Oper := regionIn 31 (Tryd.f3.body.getD .skip)
def ssrFr (b : Nat → Value) (d : List Deferred) (x : Nat → Value) : Act := { tmps := #[b 0, b 1, b 2, b 3, b 4, b 5, b 6, b 7, b 8, b 9, b 10, b 11, b 12, b 13, b 14, b 15, b 16, b 17, b 18, b 19, b 20, b 21, b 22, b 23, b 24, b 25, b 26, b 27, b 28, b 29, b 30, b 31, b 32, b 33, b 34, b 35, b 36, b 37, b 38, b 39, b 40, b 41, b 42, b 43, b 44, b 45, b 46, b 47, b 48, b 49, b 50, b 51, b 52, b 53, b 54, b 55, b 56, b 57, b 58, b 59, b 60, b 61, b 62, b 63, b 64, b 65, b 66, b 67, b 68, b 69, b 70, b 71, b 72, b 73, b 74, b 75, b 76, b 77, b 78, b 79, b 80, b 81, b 82, b 83, b 84, b 85, b 86, b 87, b 88, b 89, b 90, b 91, b 92, b 93, b 94, b 95, b 96, b 97, b 98, b 99, b 100, b 101, b 102, b 103, b 104, b 105, b 106, b 107, b 108, b 109, b 110, b 111, b 112, b 113, b 114, b 115, b 116, b 117, b 118, b 119, b 120, b 121, b 122, b 123, b 124, b 125, b 126, b 127, b 128, b 129, b 130, b 131, b 132, b 133, b 134, b 135, b 136, b 137, b 138, b 139, b 140, x 0, x 1, x 2, x 3, x 4, x 5, x 6, x 7, b 149, b 150, b 151, b 152, b 153, b 154, b 155], defers := d }

def ssrVals (wr : World) (g n k pc : Nat) (ps : List PR) (i : Nat) (v : Value) (V : World) : Prop :=
  match i with
  | 0 => v = .slice (some ⟨g, 0, none⟩) n pc
  | 1 => v = .int .i64 (k : Int)
  | 2 => v = .slice (if pc = k then some ⟨g, 0, none⟩ else some ⟨g, k * 4, none⟩) (n - k) (pc - k)
  | 3 => ∃ va vc, v = .slice va (n - k) vc ∧ V.ownsRow wr.heap.size 35 4 (.slice va (n - k) vc) (n - k) (cellsP (ps.drop k))
  | 4 => v = .slice (some ⟨g, 0, none⟩) n pc
  | 5 => v = .int .i64 (k : Int)
  | 6 => v = .slice (some ⟨g, 0, none⟩) k pc
  | _ => True

theorem ssrVals_keep {wr : World} {g n k pc : Nat} {ps : List PR} (i : Nat) (v : Value) (V Y : World) (h : ssrVals wr g n k pc ps i v V) (hb : Below V.heap.size V Y) : ssrVals wr g n k pc ps i v Y := by
  unfold ssrVals at *
  split at h <;> first
    | exact h
    | (obtain ⟨va, vc, e, h⟩ := h; exact ⟨va, vc, e, own_below h hb⟩)

theorem ssr_size : ssrOps.size = 9 := by kernel_rfl
theorem ssr_cov : covered ssrOps 7 = true := by kernel_rfl
set_option linter.unusedSimpArgs false in
set_option maxRecDepth 100000 in
set_option maxHeartbeats 8000000 in
theorem ssr_region {wr : World} {g n k pc : Nat} {ps : List PR} (hkl : k ≤ ps.length) (hk0 : (0 : Int) ≤ (k : Int)) (hkn : (k : Int) ≤ (n : Int)) (hkp : (k : Int) ≤ (pc : Int)) (hnp : (n : Int) ≤ (pc : Int)) (hn6 : n ≤ 6) {b : Nat → Value} {d : List Deferred}
    (h6 : b 6 = .slice (some ⟨g, 0, none⟩) n pc) (h1 : b 1 = .int .i64 (k : Int))
    (HC3 : ∀ V, TrI wr g ps V → Calls Tryd.prog 10 #[.slice (if pc = k then some ⟨g, 0, none⟩ else some ⟨g, k * 4, none⟩) (n - k) (pc - k)] V fun e Y => (∃ va vc, e = .returned (.slice va (n - k) vc) ∧ Y.ownsRow wr.heap.size 35 4 (.slice va (n - k) vc) (n - k) (cellsP (ps.drop k))) ∧ Below V.heap.size V Y)
    {Q : Exit → Act → World → Prop} {ops : Array Oper} (hops : ops = ssrOps) (x0 : Nat → Value) (X : World) (hS : TrI wr g ps X.drew)
    (hfin : ∀ (x : Nat → Value) (v9 : Value) w9, w9.ownsRow wr.heap.size 35 4 v9 (n - k + k) (cellsP (ps.drop k) ++ cellsP (ps.take k)) → Below wr.heap.size wr w9 → Q .normal (((ssrFr b d x).put (some 148) v9).put (some 14) v9) w9) : (Code.region 31 ops true).wp Tryd.prog Q (ssrFr b d x0) X := by
  have HC := Lib.hid (HC3)
  clear HC3
  have hszo : ops.size = 7 + 2 := by rw [hops]; exact ssr_size
  have hcovo : covered ops 7 = true := by rw [hops]; exact ssr_cov
  refine region_tail (ssrFr b d) (fun V => TrI wr g ps V) (fun V Y => Below V.heap.size V Y) (ssrVals wr g n k pc ps) x0 7 (by kernel_rfl) rfl hS hszo hcovo (fun V Y h hb => h.below hb) (fun i v V Y _ h hb => ssrVals_keep i v V Y h hb) ?_
  have HFIN := Lib.hid hfin
  clear hfin hS hszo hcovo
  obtain ⟨gl, hgl⟩ : ∃ qq, TailAt Tryd.prog (ssrFr b d) (fun V => TrI wr g ps V) (ssrVals wr g n k pc ps) ops Q 7 = qq := ⟨_, rfl⟩
  rw [hgl]
  obtain ⟨f, hf⟩ : ∃ qq, StepAt Tryd.prog (ssrFr b d) (fun V => TrI wr g ps V) (fun V Y => Below V.heap.size V Y) (ssrVals wr g n k pc ps) ops Q = qq := ⟨_, rfl⟩
  rw [hf, hops]
  simp only [ssrOps, Tryd.f3, regionIn, Option.getD_some, Nat.reduceBEq, Bool.false_eq_true, if_false, if_true, beq_self_eq_true, Array.append_empty, Array.empty_append, List.append_eq, List.cons_append, List.nil_append, AllTail, Nat.reduceAdd, Nat.zero_add]
  -- 0: slot 141 := Op.move t6
  refine And.intro ?_ ?_
  · clear HFIN hgl
    rw [← hf]; clear hf
    refine ⟨by decide +kernel, fun x v => by kernel_rfl, fun x V hV hdep K hK => ?_⟩
    clear hdep
    refine run_bare (by kernel_rfl) ?_
    unfold ssrFr
    go_simp
    refine kfit (hK _ _ (Below.refl _ V) rfl) ?_
    first | (simp only [ssrFr, Act.put, List.setIfInBounds_toArray, List.set_cons_zero, List.set_cons_succ, h6, h1]; done) | (simp only [ssrFr, Act.put, List.setIfInBounds_toArray, List.set_cons_zero, List.set_cons_succ, h6, h1]; rfl)
  -- 1: slot 142 := Op.move t1
  refine And.intro ?_ ?_
  · clear HFIN hgl
    rw [← hf]; clear hf
    refine ⟨by decide +kernel, fun x v => by kernel_rfl, fun x V hV hdep K hK => ?_⟩
    clear hdep
    refine run_bare (by kernel_rfl) ?_
    unfold ssrFr
    go_simp
    refine kfit (hK _ _ (Below.refl _ V) rfl) ?_
    first | (simp only [ssrFr, Act.put, List.setIfInBounds_toArray, List.set_cons_zero, List.set_cons_succ, h6, h1]; done) | (simp only [ssrFr, Act.put, List.setIfInBounds_toArray, List.set_cons_zero, List.set_cons_succ, h6, h1]; rfl)
  -- 2: slot 143 := Op.slice 24 t141 (some t142) none none
  refine And.intro ?_ ?_
  · clear HFIN hgl
    rw [← hf]; clear hf
    refine ⟨by decide +kernel, fun x v => by kernel_rfl, fun x V hV hdep K hK => ?_⟩
    have e0 : x 0 = .slice (some ⟨g, 0, none⟩) n pc := depOf hdep 0 (by decide +kernel)
    have e1 : x 1 = .int .i64 (k : Int) := depOf hdep 1 (by decide +kernel)
    clear hdep
    refine run_bare (by kernel_rfl) ?_
    unfold ssrFr
    go_simp
    refine kfit (hK _ _ (Below.refl _ V) rfl) ?_
    first | (simp only [ssrFr, Act.put, List.setIfInBounds_toArray, List.set_cons_zero, List.set_cons_succ, h6, h1, e0, e1]; done) | (simp only [ssrFr, Act.put, List.setIfInBounds_toArray, List.set_cons_zero, List.set_cons_succ, h6, h1, e0, e1]; rfl)
  -- 3: slot 144 := Op.call { value (Operand.func 10), args := #[t143], argTypes
  refine And.intro ?_ ?_
  · clear HFIN hgl
    rw [← hf]; clear hf
    refine ⟨by decide +kernel, fun x v => by kernel_rfl, fun x V hV hdep K hK => ?_⟩
    have e2 : x 2 = .slice (if pc = k then some ⟨g, 0, none⟩ else some ⟨g, k * 4, none⟩) (n - k) (pc - k) := depOf hdep 2 (by decide +kernel)
    clear hdep
    refine run_bare (by kernel_rfl) ?_
    unfold ssrFr
    have HC3 := HC.out
    have H := HC3 V hV
    replace H := Lib.hid H; clear HC3
    go_simp
    go_at_call 10
    refine H.out.mono ?_
    rintro e Y ⟨⟨va, vc, rfl, hq⟩, hb⟩; refine kfit (hK _ _ hb ⟨va, vc, rfl, hq⟩) ?_
    first | (simp only [ssrFr, Act.put, List.setIfInBounds_toArray, List.set_cons_zero, List.set_cons_succ, h6, h1, e2]; done) | (simp only [ssrFr, Act.put, List.setIfInBounds_toArray, List.set_cons_zero, List.set_cons_succ, h6, h1, e2]; rfl)
  -- 4: slot 145 := Op.move t6
  refine And.intro ?_ ?_
  · clear HFIN hgl
    rw [← hf]; clear hf
    refine ⟨by decide +kernel, fun x v => by kernel_rfl, fun x V hV hdep K hK => ?_⟩
    clear hdep
    refine run_bare (by kernel_rfl) ?_
    unfold ssrFr
    go_simp
    refine kfit (hK _ _ (Below.refl _ V) rfl) ?_
    first | (simp only [ssrFr, Act.put, List.setIfInBounds_toArray, List.set_cons_zero, List.set_cons_succ, h6, h1]; done) | (simp only [ssrFr, Act.put, List.setIfInBounds_toArray, List.set_cons_zero, List.set_cons_succ, h6, h1]; rfl)
  -- 5: slot 146 := Op.move t1
  refine And.intro ?_ ?_
  · clear HFIN hgl
    rw [← hf]; clear hf
    refine ⟨by decide +kernel, fun x v => by kernel_rfl, fun x V hV hdep K hK => ?_⟩
    clear hdep
    refine run_bare (by kernel_rfl) ?_
    unfold ssrFr
    go_simp
    refine kfit (hK _ _ (Below.refl _ V) rfl) ?_
    first | (simp only [ssrFr, Act.put, List.setIfInBounds_toArray, List.set_cons_zero, List.set_cons_succ, h6, h1]; done) | (simp only [ssrFr, Act.put, List.setIfInBounds_toArray, List.set_cons_zero, List.set_cons_succ, h6, h1]; rfl)
  -- 6: slot 147 := Op.slice 24 t145 none (some t146) none
  refine And.intro ?_ ?_
  · clear HFIN hgl
    rw [← hf]; clear hf
    refine ⟨by decide +kernel, fun x v => by kernel_rfl, fun x V hV hdep K hK => ?_⟩
    have e4 : x 4 = .slice (some ⟨g, 0, none⟩) n pc := depOf hdep 4 (by decide +kernel)
    have e5 : x 5 = .int .i64 (k : Int) := depOf hdep 5 (by decide +kernel)
    clear hdep
    refine run_bare (by kernel_rfl) ?_
    unfold ssrFr
    go_simp
    refine kfit (hK _ _ (Below.refl _ V) rfl) ?_
    first | (simp only [ssrFr, Act.put, List.setIfInBounds_toArray, List.set_cons_zero, List.set_cons_succ, h6, h1, e4, e5]; done) | (simp only [ssrFr, Act.put, List.setIfInBounds_toArray, List.set_cons_zero, List.set_cons_succ, h6, h1, e4, e5]; rfl)
  -- 7: slot 148 := Op.call { builtin append, args := #[t144, t147], argTypes :=
  · clear HC
    rw [← hgl]; clear hgl
    refine ⟨by decide +kernel, by decide +kernel, ⟨_, Array.mem_of_getElem (i := 0) (h := by decide) rfl, by decide, rfl⟩, fun x V hV hall K hK => ?_⟩
    obtain ⟨va, vc, e3, d3⟩ : ∃ va vc, x 3 = .slice va (n - k) vc ∧ V.ownsRow wr.heap.size 35 4 (.slice va (n - k) vc) (n - k) (cellsP (ps.drop k)) := hall 3 (by decide)
    have e6 : x 6 = .slice (some ⟨g, 0, none⟩) k pc := hall 6 (by decide)
    clear hall
    obtain ⟨i0, hi, hz0, hz1, hz2⟩ := info_parts Tryd.infoPred
    have hsz : wr.heap.size ≤ V.heap.size := hV.2.size
    have HF := Lib.hid (fun v9 w9 => HFIN.out x v9 w9)
    clear HFIN
    unfold ssrFr at hK ⊢
    refine step_append_all V (by kernel_rfl) (.tmp 144) (.tmp 147) 24 (by kernel_rfl) wr.heap.size 35 i0 (.agg #[.string ⟨#[]⟩, .int .i64 0, .string ⟨#[]⟩, .slice none 0 0]) 4 64 Tryd.underlying24 hi hz0 hz1 hz2 rfl (by decide) (.slice va (n - k) vc) (n - k) (cellsP (ps.drop k)) e3 d3 ⟨g, 0, none⟩ k pc (cellsP (ps.take k)) e6 (by rw [cellsP_len, List.length_take, Nat.min_eq_left hkl]) (hV.1.take_news hkl) (cellsP_one _) (by unfold maxLen; omega) (by omega) hsz ?_
    intro v9 w9 hown9 hgr9
    have H := Lib.hid (HF.out v9 w9 hown9 (hV.2.grown hgr9 hsz (fun j hj => (d3.lt j hj).1)))
    clear HF hown9 hgr9 hV d3
    unfold ssrFr at H
    refine hK _ _ fun K2 hK2 => run_bare (by kernel_rfl) ?_
    clear hK
    go_simp
    refine kfit (hK2 _ _ H.out) ?_
    first | (simp only [Act.put, List.setIfInBounds_toArray, List.set_cons_zero, List.set_cons_succ, h6, h1, e3, e6]; done) | (simp only [Act.put, List.setIfInBounds_toArray, List.set_cons_zero, List.set_cons_succ, h6, h1, e3, e6]; rfl)
  -- 8: slot 14 := Op.assign t148
theorem ssr_here {wr : World} {g n k pc : Nat} {ps : List PR} (hkl : k ≤ ps.length) (hk0 : (0 : Int) ≤ (k : Int)) (hkn : (k : Int) ≤ (n : Int)) (hkp : (k : Int) ≤ (pc : Int)) (hnp : (n : Int) ≤ (pc : Int)) (hn6 : n ≤ 6)
    (HC3 : ∀ V, TrI wr g ps V → Calls Tryd.prog 10 #[.slice (if pc = k then some ⟨g, 0, none⟩ else some ⟨g, k * 4, none⟩) (n - k) (pc - k)] V fun e Y => (∃ va vc, e = .returned (.slice va (n - k) vc) ∧ Y.ownsRow wr.heap.size 35 4 (.slice va (n - k) vc) (n - k) (cellsP (ps.drop k))) ∧ Below V.heap.size V Y)
    {Q : Exit → Act → World → Prop} {ops : Array Oper} {a : Act} (X : World) (hops : ops = ssrOps)
    (h6 : a.tmps.getD 6 undef = .slice (some ⟨g, 0, none⟩) n pc) (h1 : a.tmps.getD 1 undef = .int .i64 (k : Int))
    (ha : a = ssrFr (fun j => a.tmps.getD j undef) a.defers (fun i => a.tmps.getD (141 + i) undef)) (hS : TrI wr g ps X.drew)
    (hfin : ∀ (x : Nat → Value) (v9 : Value) w9, w9.ownsRow wr.heap.size 35 4 v9 (n - k + k) (cellsP (ps.drop k) ++ cellsP (ps.take k)) → Below wr.heap.size wr w9 → Q .normal (((ssrFr (fun j => a.tmps.getD j undef) a.defers x).put (some 148) v9).put (some 14) v9) w9) : (Code.region 31 ops true).wp Tryd.prog Q a X :=
  cast (congrArg (fun z => (Code.region 31 ops true).wp Tryd.prog Q z X) ha.symm) (ssr_region hkl hk0 hkn hkp hnp hn6 (b := fun j => a.tmps.getD j undef) (d := a.defers) h6 h1 HC3 hops _ X hS hfin)
end Go.Proofs.YtjnlchhikdfifaaDoor
