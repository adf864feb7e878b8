/- subst.Rename: names for names. -/
import Derived.Test.YtmbaolcdjgilpaaSbOf
namespace Go.Proofs.Ytmbaolcdjgilpaa
open Go.RowKit Go.Sort Go.Lib
attribute [local go_sem] Oper.semAt_some

/-- v is a slice of the strings F. -/
def StrsP (v : Value) (F : List ByteArray) (w : World) : Prop :=
  (F = [] ∧ ∃ a c, v = .slice a 0 c) ∨ ∃ g o cap, v = .slice (some ⟨g, o, none⟩) F.length cap ∧ g < w.heap.size ∧ ∀ i, i < F.length → w.cell? ⟨g, o + i, none⟩ = some (.string (F.getD i ⟨#[]⟩))
theorem StrsP.below {v : Value} {F : List ByteArray} {w w' : World} (h : StrsP v F w) (hb : Below w.heap.size w w') : StrsP v F w' := by
  rcases h with h | ⟨g, o, cap, e, hg, hc⟩
  · exact .inl h
  · exact .inr ⟨g, o, cap, e, Nat.lt_of_lt_of_le hg hb.size, fun i hi => (hb.cell (p := ⟨g, o + i, none⟩) hg).trans (hc i hi)⟩
theorem StrsP.shape {v : Value} {F : List ByteArray} {w : World} (h : StrsP v F w) : ∃ a c, v = .slice a F.length c := by
  rcases h with ⟨rfl, a, c, rfl⟩ | ⟨g, o, cap, rfl, _⟩
  · exact ⟨a, c, rfl⟩
  · exact ⟨_, _, rfl⟩
/-- At a place: where the string lies. -/
theorem StrsP.at {a : Option Addr} {n c : Nat} {F : List ByteArray} {w : World} (h : StrsP (.slice a n c) F w) (hn : 0 < F.length) : ∃ g o, a = some ⟨g, o, none⟩ ∧ g < w.heap.size ∧ ∀ i, i < F.length → w.cell? ⟨g, o + i, none⟩ = some (.string (F.getD i ⟨#[]⟩)) := by
  rcases h with ⟨rfl, _⟩ | ⟨g, o, cap, e, hg, hc⟩
  · exact absurd hn (Nat.lt_irrefl _)
  · cases e; exact ⟨g, o, rfl, hg, hc⟩
/-- The pairs that a renaming is. -/
def prs : List ByteArray → List ByteArray → List PR
  | f :: F, g :: G => ⟨f, .var g, none, 0⟩ :: prs F G
  | _, _ => []
theorem prs_len : ∀ F G, (prs F G).length = min F.length G.length
  | [], G => by simp [prs]
  | f :: F, [] => by simp [prs]
  | f :: F, g :: G => by rw [prs, List.length_cons, prs_len F G]; simp
theorem prs_get : ∀ (F G : List ByteArray) (i : Nat), i < min F.length G.length → ((prs F G).getD i noP).n = F.getD i ⟨#[]⟩ ∧ ((prs F G).getD i noP).t = .var (G.getD i ⟨#[]⟩)
  | [], G, i, h => by simp at h
  | f :: F, [], i, h => by simp at h
  | f :: F, g :: G, 0, h => ⟨rfl, rfl⟩
  | f :: F, g :: G, i + 1, h => by
    have := prs_get F G i (by simp at h ⊢; omega)
    simpa [prs, List.getD] using this
def zeros4 (n : Nat) : Array Value := madeCells zeroP (n * 4)
theorem make_row4 (n : Nat) (hn : n ≤ 1000000000) (w : World) :
    (Instr.makeSlice 28 (.int .i64 (n : Int)) (.int .i64 (n : Int))).run Try.prog w = .ok (.slice (some ⟨w.heap.size, 0, none⟩) n n) (w.alloc (.cells (zeros4 n) 58)) := by
  obtain ⟨i, hi, hzz⟩ := Option.map_eq_some_iff.1 Try.infoPair
  simp only [Prod.mk.injEq] at hzz
  obtain ⟨hz, hs, hb⟩ := hzz
  have hr := run_make (P := Try.prog) w 28 58 i _ Try.underlying28 hi hz .i64 .i64 n n (by omega) (Int.le_refl _) (by rw [hb]; omega) (by omega)
  simp only [Int.toNat_natCast, hs] at hr
  exact hr

/-- A row of k places, of which the first hold the pairs l. -/
def RowK (g k : Nat) (l : List PR) (w : World) : Prop :=
  ∃ cs, w.heap[g]? = some (.cells cs 58 (0, 0)) ∧ cs.size = k * 4 ∧ l.length ≤ k ∧ ∀ i, i < l.length →
    cs[i * 4]? = some (.string (l.getD i noP).n) ∧ cs[i * 4 + 1]? = some (.int .i64 (l.getD i noP).t.kind) ∧ cs[i * 4 + 2]? = some (.string (l.getD i noP).t.name) ∧ cs[i * 4 + 3]? = some (.slice (l.getD i noP).a (l.getD i noP).t.kids.length (l.getD i noP).c)
theorem RowK.row {g k : Nat} {l : List PR} {w : World} (h : RowK g k l w) : RowP g l w := by
  obtain ⟨cs, h1, h2, h3, h4⟩ := h; exact ⟨cs, h1, by omega, h4⟩
theorem RowK.same {g k : Nat} {l : List PR} {w w' : World} (h : RowK g k l w) (e : w'.heap[g]? = w.heap[g]?) : RowK g k l w' := by
  obtain ⟨cs, h1, h2⟩ := h; exact ⟨cs, e.trans h1, h2⟩
theorem RowK.lt {g k : Nat} {l : List PR} {w : World} (h : RowK g k l w) : g < w.heap.size := h.row.lt
theorem RowK.below {g k : Nat} {l : List PR} {w w' : World} (h : RowK g k l w) (hb : Below w.heap.size w w') : RowK g k l w' := h.same (hb.block g h.lt)
theorem RowK.cells {g k : Nat} {l : List PR} {w : World} (h : RowK g k l w) {i : Nat} (hi : i < k) : ∃ x y z u, w.cell? ⟨g, i * 4, none⟩ = some x ∧ w.cell? ⟨g, i * 4 + 1, none⟩ = some y ∧ w.cell? ⟨g, i * 4 + 2, none⟩ = some z ∧ w.cell? ⟨g, i * 4 + 3, none⟩ = some u := by
  obtain ⟨cs, h1, h2, _⟩ := h
  refine ⟨cs[i * 4]'(by omega), cs[i * 4 + 1]'(by omega), cs[i * 4 + 2]'(by omega), cs[i * 4 + 3]'(by omega), ?_, ?_, ?_, ?_⟩ <;> (rw [Lib.cell_of_heap h1]; simp)
theorem RowK.push {g k : Nat} {l : List PR} {w : World} (h : RowK g k l w) (hk : l.length < k) (x : PR) : RowK g k (l ++ [x]) (set4 w g l.length x) := by
  obtain ⟨cs, h1, h2, h3, h4⟩ := h
  refine ⟨(((cs.setIfInBounds (l.length * 4) (.string x.n)).setIfInBounds (l.length * 4 + 1) (.int .i64 x.t.kind)).setIfInBounds (l.length * 4 + 2) (.string x.t.name)).setIfInBounds (l.length * 4 + 3) (.slice x.a x.t.kids.length x.c), blk_set (blk_set (blk_set (blk_set h1 _) _) _) _, by simpa using h2, by simp; omega, fun j hj => ?_⟩
  by_cases e : j = l.length
  · subst e
    have e2 : (l ++ [x]).getD l.length noP = x := by simp [List.getD]
    rw [e2]
    refine ⟨?_, ?_, ?_, ?_⟩ <;> (simp [Array.getElem?_setIfInBounds]; omega)
  · have hj' : j < l.length := by simp at hj; omega
    have e2 : (l ++ [x]).getD j noP = l.getD j noP := by simp [List.getD, List.getElem?_append_left hj']
    rw [e2]
    obtain ⟨a1, a2, a3, a4⟩ := h4 j hj'
    refine ⟨?_, ?_, ?_, ?_⟩
    · rw [Array.getElem?_setIfInBounds_ne (by omega), Array.getElem?_setIfInBounds_ne (by omega), Array.getElem?_setIfInBounds_ne (by omega), Array.getElem?_setIfInBounds_ne (by omega)]; exact a1
    · rw [Array.getElem?_setIfInBounds_ne (by omega), Array.getElem?_setIfInBounds_ne (by omega), Array.getElem?_setIfInBounds_ne (by omega), Array.getElem?_setIfInBounds_ne (by omega)]; exact a2
    · rw [Array.getElem?_setIfInBounds_ne (by omega), Array.getElem?_setIfInBounds_ne (by omega), Array.getElem?_setIfInBounds_ne (by omega), Array.getElem?_setIfInBounds_ne (by omega)]; exact a3
    · rw [Array.getElem?_setIfInBounds_ne (by omega), Array.getElem?_setIfInBounds_ne (by omega), Array.getElem?_setIfInBounds_ne (by omega), Array.getElem?_setIfInBounds_ne (by omega)]; exact a4
theorem RowK.start (g k : Nat) (w : World) (h : w.heap[g]? = some (.cells (zeros4 k) 58 (0, 0))) : RowK g k [] w :=
  ⟨_, h, by simp [zeros4, size_madeCells], Nat.zero_le _, fun _ hi => absurd hi (Nat.not_lt_zero _)⟩

theorem gather_all (g cap : Nat) (d : List PR) (w : World) (h : RowP g d w) (ht : Typ d w) (hf : FitsAll d) (hc : d.length ≤ cap) (hl : d.length < 20) :
    Calls Try.prog 29 #[.slice (some ⟨g, 0, none⟩) d.length cap] w fun e w' => (∃ l, e = .returned (.agg #[.slice (some ⟨g, 0, none⟩) l.length cap]) ∧ SubAt (.slice (some ⟨g, 0, none⟩) l.length cap) l w' ∧ Gath d l) ∧ Fr g w w' := by
  by_cases h0 : d = []
  · subst h0
    refine (gather_none _ _ w).mono ?_
    rintro e w' ⟨rfl, hb⟩
    exact ⟨⟨[], rfl, sub_nil _ _ _ (fun h => by cases h), gath_nil⟩, Fr.of_below hb⟩
  · refine (gather_some g cap d w h ht hf hc hl h0).mono ?_
    rintro e w' ⟨⟨l, ⟨rfl, hlc⟩, hr, hg⟩, hfr⟩
    exact ⟨⟨l, rfl, ⟨⟨.inr ⟨g, cap, rfl, hlc, hr⟩, hg.neat⟩, fun x hx => (ht x (hg.sub x hx)).keep (hfr.keepT h)⟩, hg⟩, hfr⟩

set_option maxHeartbeats 4000000 in
theorem rename_any (t : T) (a b c : Option Addr) (n m p : Nat) (F G : List ByteArray) (w : World) (ht : TysAt w (.slice a t.kids.length n) t.kids) (hF : StrsP (.slice b F.length m) F w) (hG : StrsP (.slice c G.length p) G w) (hl : F.length < 20) (hm : G.length < 1000000) (hsz : tsize t ≤ 1000000000) :
    Calls Try.prog 21 #[tyV t (.slice a t.kids.length n), .slice b F.length m, .slice c G.length p] w fun e w' => ResT w.heap.size (app (prs F G) t) e w' ∧ Below w.heap.size w w' := by
  obtain ⟨k, hk⟩ : ∃ k, min F.length G.length = k := ⟨_, rfl⟩
  have hmk := make_row4 k (by omega)
  have hmin : min (F.length : Int) (G.length : Int) = (k : Int) := by omega
  have HT := Lib.hid ht; have HF := Lib.hid hF; have HG := Lib.hid hG
  clear ht hF hG
  simp only [tyV]
  go_enter Try.func21, Try.ntmps21
  go_wp2
  go_loopw [17] (fun vi wr => ∃ (i : Nat) (ls : List PR), i ≤ k ∧ vi = .int .i64 i ∧ Hid (ls.length = i ∧ ∀ j, j < i → (ls.getD j noP).n = F.getD j ⟨#[]⟩ ∧ (ls.getD j noP).t = .var (G.getD j ⟨#[]⟩)) ∧ Hid (RowK (w.heap.size + 1 + 1) k ls wr) ∧ Hid (Below w.heap.size w wr) ∧
    wr.heap[w.heap.size]? = some (.cells #[.int .i64 t.kind, .string t.name, .slice a t.kids.length n] 34 (0, 0)) ∧ wr.heap[w.heap.size + 1]? = some (.cells #[.int .i64 0, .string ⟨#[]⟩, .slice none 0 0] 34 (0, 0))) (fun vi _ => k - (intOf vi).toNat)
  case atStart =>
    obtain ⟨n1, n2, n3⟩ := new_three w (.cells #[.int .i64 t.kind, .string t.name, .slice a t.kids.length n] 34) (.cells #[.int .i64 0, .string ⟨#[]⟩, .slice none 0 0] 34) (.cells (zeros4 k) 58)
    exact ⟨0, [], Nat.zero_le _, rfl, Lib.hid ⟨rfl, fun j hj => absurd hj (Nat.not_lt_zero _)⟩, Lib.hid (RowK.start _ _ _ n3), Lib.hid (below_three w _ _ _), n1, n2⟩
  case round =>
    obtain ⟨i, ls, hi, rfl, hL, hRow, hB, hb0, hb1⟩ := hrel
    have lG := hRow.out.lt
    by_cases hlt : i < k
    · obtain ⟨gF, oF, rfl, lF, cF⟩ := HF.out.at (by omega)
      obtain ⟨gG, oG, rfl, lG', cG⟩ := HG.out.at (by omega)
      have xF := (hB.out.cell (p := ⟨gF, oF + i, none⟩) lF).trans (cF i (by omega))
      have xG := (hB.out.cell (p := ⟨gG, oG + i, none⟩) lG').trans (cG i (by omega))
      have lFr : gF < wr.heap.size := Nat.lt_of_lt_of_le lF hB.out.size
      have HL := Lib.hid (fun (x : PR) (h1 : x.n = F.getD i ⟨#[]⟩) (h2 : x.t = .var (G.getD i ⟨#[]⟩)) => (show (ls ++ [x]).length = i + 1 ∧ ∀ j, j < i + 1 → ((ls ++ [x]).getD j noP).n = F.getD j ⟨#[]⟩ ∧ ((ls ++ [x]).getD j noP).t = .var (G.getD j ⟨#[]⟩) from
        ⟨by simp [hL.out.1], fun j hj => by
          by_cases e : j = i
          · subst e
            have e2 : (ls ++ [x]).getD j noP = x := by simp [List.getD, ← hL.out.1]
            rw [e2]; exact ⟨h1, h2⟩
          · have hj' : j < ls.length := by rw [hL.out.1]; omega
            have e2 : (ls ++ [x]).getD j noP = ls.getD j noP := by simp [List.getD, List.getElem?_append_left hj']
            rw [e2]; exact hL.out.2 j (by omega)⟩))
      generalize F.getD i ⟨#[]⟩ = f at xF HL
      generalize G.getD i ⟨#[]⟩ = q at xG HL
      have HV := Lib.hid (fun W => tvar_any q W)
      have hiz : (i : Int) < (k : Int) := by omega
      have hizF : (i : Int) < (F.length : Int) := by omega
      have hizG : (i : Int) < (G.length : Int) := by omega
      have hll := hL.out.1
      clear cF cG hmk
      simp only [tyV] at HV
      have Hb0 := Lib.hid hb0; have Hb1 := Lib.hid hb1
      clear hb0 hb1
      go_wp2
      go_region_with (first
        | (go_at_call 36; refine (HV.out _).mono ?_; rintro e w4 ⟨⟨u, rfl, hu⟩, hb4⟩; obtain ⟨ua, uc, rfl⟩ := hu.shape; have HB4 : Hid (Below wr.heap.size wr w4) := Lib.hid ((Below.refl _ wr).drew.trans hb4); have hR4 := Lib.hid (hRow.out.below HB4.out); obtain ⟨o0, o1, o2, o3, c0, c1, c2, c3⟩ := hR4.out.cells hlt; have f0 := hR4.out.row.free (i * 4); have f1 := hR4.out.row.free (i * 4 + 1); have f2 := hR4.out.row.free (i * 4 + 2); have f3 := hR4.out.row.free (i * 4 + 3); have xF4 := (HB4.out.cell (p := ⟨gF, oF + i, none⟩) lFr).trans xF; clear hu hb4))
      all_goals
        go_wp2
        have HP := hR4.out.push (by omega) (⟨f, .var q, ua, uc⟩ : PR)
        rw [hll] at HP
        have HF4 := Lib.hid ((Fr.of_below (g := w.heap.size + 1 + 1) HB4.out).trans (Fr.set4 (w.heap.size + 1 + 1) i w4 (⟨f, .var q, ua, uc⟩ : PR)))
        go_roundw
        case rel => exact ⟨i + 1, ls ++ [⟨f, .var q, ua, uc⟩], by omega, by go_num, Lib.hid (HL.out _ rfl rfl), Lib.hid HP, Lib.hid (hB.out.trans (HF4.out.below (by omega) hB.out.size)), (HF4.out.2 _ (by omega) (by omega)).trans Hb0.out, (HF4.out.2 _ (by omega) (by omega)).trans Hb1.out⟩
        case measure => simp [intOf]; omega
    · obtain rfl : i = k := by omega
      have HCp : Hid (Copy ls (prs F G)) := Lib.hid ⟨by rw [hL.out.1, prs_len, hk], fun j hj => by
        have hj' : j < i := by rw [← hL.out.1]; exact hj
        obtain ⟨e1, e2⟩ := prs_get F G j (by omega)
        rw [e1, e2]; exact hL.out.2 j hj'⟩
      have HV : Hid (∀ x ∈ ls, ∃ q, x.t = .var q) := Lib.hid fun x hx => by
        obtain ⟨j, hj, rfl⟩ := List.mem_iff_getElem.1 hx
        have := (hL.out.2 j (by rw [← hL.out.1]; exact hj)).2
        exact ⟨_, by simpa [List.getD, hj] using this⟩
      have HSz : Hid (SizedAll ls ∧ FitsAll ls) := Lib.hid ⟨fun x hx => by obtain ⟨q, e⟩ := HV.out x hx; rw [e]; exact (by decide : (1 : Nat) ≤ 1000000000), fun x hx => by obtain ⟨q, e⟩ := HV.out x hx; rw [e]; exact .mk _ (show (0 : Nat) < 1152921504606846976 by decide) (fun k hk => by cases hk)⟩
      have HTy : Hid (∀ W, Typ ls W) := Lib.hid fun W x hx => by obtain ⟨q, e⟩ := HV.out x hx; rw [e]; exact TysAt.nil _ _ _
      have hll := hL.out.1
      have hTw := HT.out.keep (KeepT.of_below hB.out)
      have HTw := Lib.hid hTw
      obtain ⟨y0, y1, y2⟩ := three_cells hb0
      have l0 := (Array.getElem?_eq_some_iff.1 hb0).1
      have l1 := (Array.getElem?_eq_some_iff.1 hb1).1
      have Hb0 := Lib.hid hb0; have Hb1 := Lib.hid hb1
      clear hb0 hb1 hmk hL HV HF HG hTw HT
      have HG := Lib.hid (fun W (hr : RowP (w.heap.size + 1 + 1) ls W) => gather_all (w.heap.size + 1 + 1) i ls W hr (HTy.out W) HSz.out.2 (by omega) (by omega))
      have HA := Lib.hid (fun (l : List PR) (hg : Gath ls l) (W : World) (s : Value) (hs : SubAt s l W) (k : KeepT wr W) => apply_any (t := t) (by have := hg.len; omega) (fun x hx => HSz.out.1 x (hg.sub x hx)) hsz hs (HTw.out.keep k))
      have HE := Lib.hid (fun (l : List PR) (hg : Gath ls l) => app_congr (d := l) (d' := prs F G) (fun n => by rw [hg.same n]; unfold ty; rw [HCp.out.lk]) t)
      rw [hll] at HG
      simp only [tyV] at HA
      have HRr := Lib.hid hRow.out.row
      go_wp2
      go_region_with (first
        | (go_at_call 29; refine (HG.out wr.drew HRr.out).mono ?_; rintro e w4 ⟨⟨l, rfl, hs4, hg4⟩, hf4⟩; have HS4 := Lib.hid hs4; have HGa := Lib.hid hg4; have HF4 : Hid (Fr (w.heap.size + 1 + 1) wr w4) := Lib.hid ((Fr.of_below (Below.refl _ wr).drew).trans hf4); have b04 := (HF4.out.2 _ l0 (by omega)).trans Hb0.out; have b14 := (HF4.out.2 _ l1 (by omega)).trans Hb1.out; obtain ⟨z0, z1, z2⟩ := three_cells b04; have HB14 := Lib.hid b14; have l04 := (Array.getElem?_eq_some_iff.1 b04).1; clear hs4 hg4 hf4 b04 b14)
        | (go_at_call 16; refine (HA.out l HGa.out w4 _ HS4.out (HF4.out.keepT HRr.out)).mono ?_; rintro e w5 ⟨⟨a5, c5, rfl, hin⟩, hb5⟩; have b15 := (hb5.block _ (Array.getElem?_eq_some_iff.1 HB14.out).1).trans HB14.out; have HB15 := Lib.hid b15; obtain ⟨d0, d1, d2⟩ := three_cells b15; have g0 := Lib.frozen_of_heap b15 0; have g1 := Lib.frozen_of_heap b15 1; have g2 := Lib.frozen_of_heap b15 2; have HI5 := Lib.hid hin; have HB5 := Lib.hid (hB.out.trans ((HF4.out.below (N := w.heap.size) (by omega) hB.out.size).trans (hb5.mono (Nat.le_trans hB.out.size HF4.out.1.size)))); have hsz5 := HF4.out.1.size; clear hin hb5 b15; simp only [tyV]))
      all_goals
        go_wp2
        have hc := three_cells (set3_block HB15.out (.int .i64 (app l t).kind) (.string (app l t).name) (.slice a5 (app l t).kids.length c5))
        refine bodyPost_ret (v := .agg #[.int .i64 (app l t).kind, .string (app l t).name, .slice a5 (app l t).kids.length c5]) (by simp [results, Try.results21, go_sem, hc.1, hc.2.1, hc.2.2]) rfl ⟨?_, below_set3 HB5.out (by omega) _ _ _⟩
        rw [← HE.out l HGa.out]
        exact ⟨a5, c5, rfl, (HI5.out.keep fun k _ _ hk hh => (set3_others _ _ _ (by have hk' : w4.heap.size ≤ k := hk; omega)).trans hh).mono fun k hk => by have hk' : w4.heap.size ≤ k := hk; omega⟩
end Go.Proofs.Ytmbaolcdjgilpaa
