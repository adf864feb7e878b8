/- SubstOthers, walked. -/
import Derived.Test.YtmbaolcdjgilpaaSbOthersR
namespace Go.Proofs.Ytmbaolcdjgilpaa
open Go.RowKit Go.Sort Go.Lib
attribute [local go_sem] Oper.semAt_some

theorem box_tA (w : World) (o : Obj) : BoxT (w.heap.size + 1) tA none 0 ((w.alloc o).alloc (.cells #[.int .i64 1, .string ⟨#[97]⟩, .slice none 0 0] 34)) := by
  have := BoxT.new (t := tA) (a := none) (c := 0) (w := w.alloc o) (TysAt.nil _ _ _)
  simpa [tA, T.kind, T.name, T.kids] using this
theorem row_dS (w : World) (o1 o2 o3 : Obj) : RowP (w.heap.size + 1 + 1 + 1) dS ((((w.alloc o1).alloc o2).alloc o3).alloc (.cells #[.string ⟨#[97]⟩, .int .i64 1, .string ⟨#[98]⟩, .slice none 0 0, .string ⟨#[98]⟩, .int .i64 1, .string ⟨#[97]⟩, .slice none 0 0] 58)) := by
  have := alloc_new (((w.alloc o1).alloc o2).alloc o3) (.cells #[.string ⟨#[97]⟩, .int .i64 1, .string ⟨#[98]⟩, .slice none 0 0, .string ⟨#[98]⟩, .int .i64 1, .string ⟨#[97]⟩, .slice none 0 0] 58)
  exact rowP_two _ _ (by simpa [nA, nB, T.kind, T.name, T.kids] using this)
theorem typ_vars {d : List PR} (h : ∀ x ∈ d, ∃ n, x.t = .var n) : (∀ w, Typ d w) ∧ FitsAll d ∧ SizedAll d :=
  ⟨fun w x hx => by obtain ⟨n, e⟩ := h x hx; rw [e]; exact TysAt.nil _ _ _, fun x hx => by obtain ⟨n, e⟩ := h x hx; rw [e]; exact fits_small (by simp [tsize]), fun x hx => by obtain ⟨n, e⟩ := h x hx; rw [e]; simp [tsize]⟩
theorem vars_dS : ∀ x ∈ dS, ∃ n, x.t = .var n := by
  intro x hx
  simp only [dS, List.mem_cons, List.not_mem_nil, or_false] at hx
  rcases hx with rfl | rfl
  · exact ⟨_, rfl⟩
  · exact ⟨_, rfl⟩
theorem vars_dU : ∀ x ∈ dU, ∃ n, x.t = .var n := by
  intro x hx
  obtain rfl := List.mem_singleton.1 hx
  exact ⟨_, rfl⟩
theorem row_dU (w : World) : RowP w.heap.size dU (w.alloc (.cells #[.string ⟨#[122, 122]⟩, .int .i64 1, .string ⟨#[97]⟩, .slice none 0 0] 58)) := rowP_one _ (alloc_new w _)

theorem others_one (w w2 : World) (t : T) (pa : Option Addr) (ca : Nat) (HB : Below w.heap.size w w2) (HT : TysAt w2 (.slice pa t.kids.length ca) t.kids) :
    Calls Try.prog 11 #[.slice (some ⟨w2.heap.size + 1 + 1 + 1, 0, none⟩) 2 2] ((((w2.alloc (.cells #[.int .i64 t.kind, .string t.name, .slice pa t.kids.length ca] 34)).alloc (.cells #[.int .i64 1, .string ⟨#[97]⟩, .slice none 0 0] 34)).alloc (.cells #[.int .i64 1, .string ⟨#[98]⟩, .slice none 0 0] 34)).alloc (.cells #[.string ⟨#[97]⟩, .int .i64 1, .string ⟨#[98]⟩, .slice none 0 0, .string ⟨#[98]⟩, .int .i64 1, .string ⟨#[97]⟩, .slice none 0 0] 58))
      fun e w' => (∃ sv ls, e = .returned (.agg #[sv]) ∧ SubAt sv ls w' ∧ Made dS ls) ∧ (BoxT w2.heap.size t pa ca w' ∧ BoxT (w2.heap.size + 1) tA none 0 w') ∧ Below w.heap.size w w' := by
  have h1 := (((BoxT.new HT).alloc (.cells #[.int .i64 1, .string ⟨#[97]⟩, .slice none 0 0] 34)).alloc (.cells #[.int .i64 1, .string ⟨#[98]⟩, .slice none 0 0] 34)).alloc (.cells #[.string ⟨#[97]⟩, .int .i64 1, .string ⟨#[98]⟩, .slice none 0 0, .string ⟨#[98]⟩, .int .i64 1, .string ⟨#[97]⟩, .slice none 0 0] 58)
  have h2 := ((box_tA w2 (.cells #[.int .i64 t.kind, .string t.name, .slice pa t.kids.length ca] 34)).alloc (.cells #[.int .i64 1, .string ⟨#[98]⟩, .slice none 0 0] 34)).alloc (.cells #[.string ⟨#[97]⟩, .int .i64 1, .string ⟨#[98]⟩, .slice none 0 0, .string ⟨#[98]⟩, .int .i64 1, .string ⟨#[97]⟩, .slice none 0 0] 58)
  have h3 := row_dS w2 (.cells #[.int .i64 t.kind, .string t.name, .slice pa t.kids.length ca] 34) (.cells #[.int .i64 1, .string ⟨#[97]⟩, .slice none 0 0] 34) (.cells #[.int .i64 1, .string ⟨#[98]⟩, .slice none 0 0] 34)
  have h4 := HB.trans ((below_four w2 (.cells #[.int .i64 t.kind, .string t.name, .slice pa t.kids.length ca] 34) (.cells #[.int .i64 1, .string ⟨#[97]⟩, .slice none 0 0] 34) (.cells #[.int .i64 1, .string ⟨#[98]⟩, .slice none 0 0] 34) (.cells #[.string ⟨#[97]⟩, .int .i64 1, .string ⟨#[98]⟩, .slice none 0 0, .string ⟨#[98]⟩, .int .i64 1, .string ⟨#[97]⟩, .slice none 0 0] 58)).mono HB.size)
  generalize ((((w2.alloc (.cells #[.int .i64 t.kind, .string t.name, .slice pa t.kids.length ca] 34)).alloc (.cells #[.int .i64 1, .string ⟨#[97]⟩, .slice none 0 0] 34)).alloc (.cells #[.int .i64 1, .string ⟨#[98]⟩, .slice none 0 0] 34)).alloc (.cells #[.string ⟨#[97]⟩, .int .i64 1, .string ⟨#[98]⟩, .slice none 0 0, .string ⟨#[98]⟩, .int .i64 1, .string ⟨#[97]⟩, .slice none 0 0] 58)) = V at *
  refine (of_any (v := .slice (some ⟨w2.heap.size + 1 + 1 + 1, 0, none⟩) 2 2) (d := dS) (.inr ⟨by simp [dS], _, 2, rfl, h3⟩) ((typ_vars vars_dS).1 _) (typ_vars vars_dS).2.1 (typ_vars vars_dS).2.2 (by decide)).mono ?_
  rintro e w3 ⟨⟨sv, ls, rfl, hs3, hm3⟩, hb3⟩
  exact ⟨⟨sv, ls, rfl, hs3, hm3⟩, ⟨h1.below hb3, h2.below hb3⟩, h4.trans (hb3.mono h4.size)⟩

theorem others_two (w w3 : World) (b5 : Nat) (t : T) (pa : Option Addr) (ca : Nat) (sv : Value) (ls : List PR) (HB : Below w.heap.size w w3) (h1 : BoxT b5 t pa ca w3) (hs : SubAt sv ls w3) :
    Calls Try.prog 11 #[.slice (some ⟨w3.heap.size + 1, 0, none⟩) 1 1] ((w3.alloc (.cells #[sv] 39)).alloc (.cells #[.string ⟨#[122, 122]⟩, .int .i64 1, .string ⟨#[97]⟩, .slice none 0 0] 58))
      fun e w' => (∃ uv lu, e = .returned (.agg #[uv]) ∧ SubAt uv lu w' ∧ Made dU lu) ∧ (BoxT b5 t pa ca w' ∧ BoxS w3.heap.size sv ls w') ∧ Below w.heap.size w w' := by
  have k1 := (h1.alloc (.cells #[sv] 39)).alloc (.cells #[.string ⟨#[122, 122]⟩, .int .i64 1, .string ⟨#[97]⟩, .slice none 0 0] 58)
  have k2 := (BoxS.new hs).alloc (.cells #[.string ⟨#[122, 122]⟩, .int .i64 1, .string ⟨#[97]⟩, .slice none 0 0] 58)
  have k3 := row_dU (w3.alloc (.cells #[sv] 39))
  rw [World.size_alloc] at k3
  have k4 := HB.trans ((below_two w3 (.cells #[sv] 39) (.cells #[.string ⟨#[122, 122]⟩, .int .i64 1, .string ⟨#[97]⟩, .slice none 0 0] 58)).mono HB.size)
  generalize (w3.alloc (.cells #[sv] 39)).alloc (.cells #[.string ⟨#[122, 122]⟩, .int .i64 1, .string ⟨#[97]⟩, .slice none 0 0] 58) = V at *
  refine (of_any (v := .slice (some ⟨w3.heap.size + 1, 0, none⟩) 1 1) (d := dU) (.inr ⟨by simp [dU], _, 1, rfl, k3⟩) ((typ_vars vars_dU).1 _) (typ_vars vars_dU).2.1 (typ_vars vars_dU).2.2 (by decide)).mono ?_
  rintro e w4 ⟨⟨uv, lu, rfl, hs4, hm4⟩, hb4⟩
  exact ⟨⟨uv, lu, rfl, hs4, hm4⟩, ⟨k1.below hb4, k2.below hb4⟩, k4.trans (hb4.mono k4.size)⟩

/-- The last statement's state but for the swapped type. -/
def SO4 (w : World) (b5 b8 b9 : Nat) (t : T) (pa : Option Addr) (ca : Nat) (sv uv frv tov : Value) (ls lu : List PR) (X : World) : Prop :=
  BoxT b5 t pa ca X ∧ (BoxS b8 sv ls X ∧ BoxS b9 uv lu X) ∧ (StrsP frv fromL X ∧ StrsP tov toL X) ∧ Below w.heap.size w X
theorem SO4.below {w : World} {b5 b8 b9 : Nat} {t : T} {pa : Option Addr} {ca : Nat} {sv uv frv tov : Value} {ls lu : List PR} {X Y : World} (h : SO4 w b5 b8 b9 t pa ca sv uv frv tov ls lu X) (hb : Below X.heap.size X Y) : SO4 w b5 b8 b9 t pa ca sv uv frv tov ls lu Y :=
  ⟨h.1.below hb, ⟨h.2.1.1.below hb, h.2.1.2.below hb⟩, ⟨h.2.2.1.1.below hb, h.2.2.1.2.below hb⟩, h.2.2.2.trans (hb.mono h.2.2.2.size)⟩
theorem others_three (w w4 : World) (b5 b8 : Nat) (t : T) (pa : Option Addr) (ca : Nat) (sv uv : Value) (ls lu : List PR) (HB : Below w.heap.size w w4) (h1 : BoxT b5 t pa ca w4) (h2 : BoxS b8 sv ls w4) (hs : SubAt uv lu w4) (hm : Made dS ls) (ht : tsize t ≤ 1000) :
    Calls Try.prog 16 #[.agg #[sv], .agg #[.int .i64 t.kind, .string t.name, .slice pa t.kids.length ca]] (((w4.alloc (.cells #[uv] 39)).alloc (.cells #[.string ⟨#[97]⟩, .string ⟨#[98]⟩, .string ⟨#[99]⟩] 9)).alloc (.cells #[.string ⟨#[99]⟩, .string ⟨#[120]⟩, .string ⟨#[98]⟩] 9))
      fun e w' => (∃ a c, e = .returned (.agg #[.int .i64 (app dS t).kind, .string (app dS t).name, .slice a (app dS t).kids.length c]) ∧ TysAt w' (.slice a (app dS t).kids.length c) (app dS t).kids) ∧
        SO4 w b5 b8 w4.heap.size t pa ca sv uv (.slice (some ⟨w4.heap.size + 1, 0, none⟩) 3 3) (.slice (some ⟨w4.heap.size + 1 + 1, 0, none⟩) 3 3) ls lu w' := by
  obtain ⟨n1, n2, n3⟩ := new_three w4 (.cells #[uv] 39) (.cells #[.string ⟨#[97]⟩, .string ⟨#[98]⟩, .string ⟨#[99]⟩] 9) (.cells #[.string ⟨#[99]⟩, .string ⟨#[120]⟩, .string ⟨#[98]⟩] 9)
  have kb := below_three w4 (.cells #[uv] 39) (.cells #[.string ⟨#[97]⟩, .string ⟨#[98]⟩, .string ⟨#[99]⟩] 9) (.cells #[.string ⟨#[99]⟩, .string ⟨#[120]⟩, .string ⟨#[98]⟩] 9)
  generalize ((w4.alloc (.cells #[uv] 39)).alloc (.cells #[.string ⟨#[97]⟩, .string ⟨#[98]⟩, .string ⟨#[99]⟩] 9)).alloc (.cells #[.string ⟨#[99]⟩, .string ⟨#[120]⟩, .string ⟨#[98]⟩] 9) = V at *
  have hS : SO4 w b5 b8 w4.heap.size t pa ca sv uv (.slice (some ⟨w4.heap.size + 1, 0, none⟩) 3 3) (.slice (some ⟨w4.heap.size + 1 + 1, 0, none⟩) 3 3) ls lu V :=
    ⟨h1.below kb, ⟨h2.below kb, n1, hs.below kb⟩, ⟨strs_three n2, strs_three n3⟩, HB.trans (kb.mono HB.size)⟩
  refine (apply_any (d := ls) (t := t) (s := sv) (w := V) (by have := hm.len; simp [dS] at this; omega) (sized_made hm (typ_vars vars_dS).2.2) (by omega) (h2.2.below kb) (h1.2.keep (KeepT.of_below kb))).mono ?_
  rintro e w5 ⟨⟨a, c, rfl, hin⟩, hb5⟩
  rw [made_ty hm] at hin ⊢
  exact ⟨⟨a, c, rfl, hin.tys⟩, hS.below hb5⟩

set_option maxRecDepth 100000 in
set_option maxHeartbeats 8000000 in
theorem others_any (a1 : Option Addr) (n1 c1 : Nat) (w : World) (hl1 : IntsAt w.heap.size a1 n1 w) :
    Calls Try.prog 6 #[.slice a1 n1 c1] w fun e w' => e = .returned (.bool true) ∧ Below w.heap.size w w' := by
  have HL1 := Lib.hid hl1
  clear hl1
  by_cases hb1 : n1 ≤ 100
  · have hn1 : n1 < 1152921504606846976 := by omega
    have hb1I : ¬ ((100 : Int) < (n1 : Int)) := by omega
    go_enter Try.func6, Try.ntmps6
    go_wp2_with (go_at_call 7; refine (first_any _).mono ?_)
    rintro e w1 rfl hw1
    have HB1 := Lib.hid hw1; clear hw1
    go_wp2_with (go_at_call 9; refine (make_type4 _ _ _ _ _ _ _ (seq_new HB1.out HL1.out) (by decide) hn1).mono ?_)
    rintro e w2 ⟨⟨t, u, rfl, hg, hu⟩, ⟨k1, hk1, hs⟩, hf⟩
    obtain ⟨pa, ca, rfl⟩ := hu.shape
    have HB2 := Lib.hid ((HB1.out.alloc HB1.out.size _).trans hf.1)
    have HT := Lib.hid hu; have HG := Lib.hid hg
    have hts : tsize t ≤ 1000 := by have := size_text t hg.1; have := hg.2.2; omega
    clear hu hs hf hg HB1 hk1 HL1
    simp only [tyV]
    go_wp2_with (go_at_call 11; refine (others_one w w2 t pa ca HB2.out HT.out).mono ?_)
    rintro e w3 ⟨⟨sv, ls, rfl, hs3, hm3⟩, ⟨h1, h2⟩, hb3⟩
    obtain ⟨sa, sc, rfl⟩ := hs3.shape
    have HS3 := Lib.hid hs3; have HM3 := Lib.hid hm3; have HB3 := Lib.hid hb3; have H1 := Lib.hid h1
    obtain ⟨x0, x1, x2⟩ := h2.cells
    simp only [show tA.kind = 1 from rfl, show tA.name = ⟨#[97]⟩ from rfl, show tA.kids.length = 0 from rfl] at x0 x1 x2
    have l2 := h2.lt
    clear hs3 hm3 hb3 h1 h2 HB2 HT
    go_wp2_with (go_at_call 11; refine (others_two w w3 _ t pa ca _ ls HB3.out H1.out HS3.out).mono ?_)
    rintro e w4 ⟨⟨uv, lu, rfl, hs4, hm4⟩, ⟨h1, h2⟩, hb4⟩
    obtain ⟨ua, uc, rfl⟩ := hs4.shape
    have HS4 := Lib.hid hs4; have HM4 := Lib.hid hm4; have HB4 := Lib.hid hb4; have H14 := Lib.hid h1; have H24 := Lib.hid h2
    obtain ⟨y0, y1, y2⟩ := h1.cells
    have y3 := h2.cell
    have l5 := h1.lt
    have l8 := h2.lt
    clear hs4 hm4 hb4 h1 h2 x0 x1 x2 l2 H1 HS3 HB3
    generalize w2.heap.size = b5 at *
    generalize w3.heap.size = b8 at *
    have l51 : b5 < w4.heap.size + 1 := by omega
    have l52 : b5 < w4.heap.size + 1 + 1 := by omega
    have l81 : b8 < w4.heap.size + 1 := by omega
    have l82 : b8 < w4.heap.size + 1 + 1 := by omega
    go_wp2_with (go_at_call 16; refine (others_three w w4 b5 b8 t pa ca _ _ ls lu HB4.out H14.out H24.out HS4.out HM3.out hts).mono ?_)
    rintro e w5 ⟨⟨pw, cw, rfl, hw5⟩, hS5⟩
    have HW5 := Lib.hid hw5; have HS5 := Lib.hid hS5
    clear hw5 hS5 y0 y1 y2 y3 l5 l8 l51 l52 l81 l82 HB4 H14 H24 HS4
    generalize w4.heap.size = b9 at *
    go_wp2_with fail
    have hg := HG.out.1
    have hzS := (typ_vars vars_dS).2.2
    have hzU := (typ_vars vars_dU).2.2
    have hsw : tsize (app dS t) = tsize t := swap_size t hg
    have hr1 : tsize (app (prs fromL toL) t) = tsize t := there_size t hg
    have HS : Hid (SO w b5 b8 b9 w5.heap.size t (app dS t) pa pw ca cw (.slice sa ls.length sc) (.slice ua lu.length uc) (.slice (some ⟨b9 + 1, 0, none⟩) 3 3) (.slice (some ⟨b9 + 1 + 1, 0, none⟩) 3 3) ls lu
      (w5.alloc (.cells #[.int .i64 (app dS t).kind, .string (app dS t).name, .slice pw (app dS t).kids.length cw] 34))) := Lib.hid (by
        have h := HS5.out.below (below_a w5 (.cells #[.int .i64 (app dS t).kind, .string (app dS t).name, .slice pw (app dS t).kids.length cw] 34))
        exact ⟨⟨h.1, BoxT.new HW5.out⟩, h.2.1, h.2.2.1, h.2.2.2⟩)
    clear HS5 HW5
    refine oth_here (t := t) (sw := app dS t) (r1 := app (prs fromL toL) t) (pa := pa) (pw := pw) (ca := ca) (cw := cw) (sv := .slice sa ls.length sc) (uv := .slice ua lu.length uc) (frv := .slice (some ⟨b9 + 1, 0, none⟩) 3 3) (tov := .slice (some ⟨b9 + 1 + 1, 0, none⟩) 3 3) (ls := ls) (lu := lu) (ts := tsize t) (w := w) (b5 := b5) (b8 := b8) (b9 := b9)
      (fun V h => apply_ret HM3.out hzS (by decide) (by omega) (swap_twice t hg) h.2.1.1.2 h.1.2.2)
      (fun V h _ _ k => same_ret (by omega) k h.1.1.2)
      (fun V h => apply_ret HM4.out hzU (by decide) (by omega) (stays t hg) h.2.1.2.2 h.1.1.2)
      (fun V h _ _ k => same_ret (by omega) k h.1.1.2)
      (fun V h => rename_ret (by decide) (by decide) (by omega) rfl h.2.2.1.1 h.2.2.1.2 h.1.1.2)
      (fun V h _ _ k => rename_ret (by decide) (by decide) (by omega) (there_back t hg) h.2.2.1.2 h.2.2.1.1 k)
      (fun V h _ _ k => same_ret (by omega) k h.1.1.2)
      (fun V h _ k _ k' => rename_ret (by decide) (by decide) (by omega) (swap_names t hg) k k' h.1.1.2)
      (fun V h _ _ k => same_ret (by omega) k h.1.2.2)
      (fun V h => size_ret (by omega) hsw h.1.2.2)
      (fun V h => size_ret (by omega) rfl h.1.1.2)
      _ (by kernel_rfl) (by kernel_rfl) (by kernel_rfl) (by kernel_rfl) (by kernel_rfl) (by kernel_rfl) (by kernel_rfl) (by kernel_rfl) (by kernel_rfl) (HS.out.below (below_d _)) ?_
    intro x V hV hx
    simp only [othFr, hx]
    simp only [Array.getD_eq_getD_getElem?, List.getElem?_toArray, List.getElem?_cons_succ, List.getElem?_cons_zero, Option.getD_some]
    go_wp2
    go_ret
    exact ⟨rfl, hV.2.2.2⟩
  · have hb1I : ((100 : Int) < (n1 : Int)) := by omega
    go_enter Try.func6, Try.ntmps6
    go_wp2_with (go_at_call 7; refine (first_any _).mono ?_)
    rintro e w1 ⟨rfl, hw1⟩
    have HB1 := Lib.hid hw1; clear hw1
    go_wp2
    all_goals go_ret
    all_goals exact ⟨rfl, HB1.out⟩
end Go.Proofs.Ytmbaolcdjgilpaa
