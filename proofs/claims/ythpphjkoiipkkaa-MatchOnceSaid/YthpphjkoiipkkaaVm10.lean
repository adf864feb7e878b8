/- Merged: MpT, MpU, MtU, MakeTypeN, MakeStepN, MakeAllN. -/
import Derived.Test.YthpphjkoiipkkaaVm9
import Derived.Test.YthpphjkoiipkkaaVm5
import Derived.Deep.RegionHeld3
import Derived.Test.YthpphjkoiipkkaaVm4
/- The program's Match and Both. -/
namespace Go.Proofs.Ythpphjkoiipkkaa
open Go.RowKit Go.Maps Go.Sort Go.Lib
attribute [local go_sem] Oper.semAt_some

/-- What Match tells. -/
def PMat (a b : T) (e : Ending) (w' : World) : Prop :=
  ∃ sv l, e = .returned (.tuple #[.agg #[sv], .bool (mt (tsize a) [] a b).isSome]) ∧ SubAt sv l w' ∧ l.length < 20 ∧ ((mt (tsize a) [] a b).isSome = true → app l a = b ∧ ∀ x ∈ l, tsize x.t ≤ tsize b)
theorem below_3 (w : World) (o1 o2 o3 : Obj) : Below w.heap.size w (((w.alloc o1).alloc o2).alloc o3) := (below_two w o1 o2).alloc (by simp; omega) _
theorem subAt_none (w : World) : SubAt (.slice none 0 0) [] w := ⟨⟨.inl ⟨rfl, none, 0, rfl, fun _ => rfl⟩, gath_nil.neat⟩, fun _ hx => nomatch hx⟩
set_option maxRecDepth 100000 in
set_option maxHeartbeats 8000000 in
theorem pmatch_any {a b : T} {V : List ByteArray} {pa pb : Option Addr} {ca cb : Nat} {w : World} (ha : tsize a ≤ 900000) (hb : tsize b ≤ 900000000) (hV : TIn V a) (hVl : V.length < 20) (hVn : ∀ x ∈ V, x.size ≤ 1000)
    (hta : TysAt w (.slice pa a.kids.length ca) a.kids) (htb : TysAt w (.slice pb b.kids.length cb) b.kids) :
    Calls Try.prog 8 #[.agg #[.int .i64 a.kind, .string a.name, .slice pa a.kids.length ca], .agg #[.int .i64 b.kind, .string b.name, .slice pb b.kids.length cb]] w fun e w' => PMat a b e w' ∧ Below w.heap.size w w' := by
  have hb3 := below_3 w (.cells #[.int .i64 a.kind, .string a.name, .slice pa a.kids.length ca] 26) (.cells #[.int .i64 b.kind, .string b.name, .slice pb b.kids.length cb] 26) (.cells #[.slice none 0 0] 33)
  have HM := MBox.start (a := a) (b := b) hta htb
  have hX0 : (((w.alloc (.cells #[.int .i64 a.kind, .string a.name, .slice pa a.kids.length ca] 26)).alloc (.cells #[.int .i64 b.kind, .string b.name, .slice pb b.kids.length cb] 26)).alloc (.cells #[.slice none 0 0] 33)).heap[w.heap.size + 1 + 1]? = some (.cells #[.slice none 0 0] 33 (0, 0)) := by
    have := alloc_new ((w.alloc (.cells #[.int .i64 a.kind, .string a.name, .slice pa a.kids.length ca] 26)).alloc (.cells #[.int .i64 b.kind, .string b.name, .slice pb b.kids.length cb] 26)) (.cells #[.slice none 0 0] 33)
    simpa using this
  have HM3 := HM.below (below_a _ (.cells #[.slice none 0 0] 33))
  obtain ⟨W0, hW0⟩ : ∃ W0, ((w.alloc (.cells #[.int .i64 a.kind, .string a.name, .slice pa a.kids.length ca] 26)).alloc (.cells #[.int .i64 b.kind, .string b.name, .slice pb b.kids.length cb] 26)).alloc (.cells #[.slice none 0 0] 33) = W0 := ⟨_, rfl⟩
  rw [hW0] at hb3 hX0 HM3
  have HN := newMatcher_any W0
  have HFit := fun (g mb : Nat) (W1 : World) (hm : MM W0.heap.size g mb [] W1) (hb : Below W0.heap.size W0 W1) =>
    fit_ok (tsize a) a b W0.heap.size g mb [] pa pb ca cb W1 (Nat.le_refl _) hm hb.size (fits_small (by omega)) (fun x hx => hVn x (hV x hx)) (by simpa using (by omega : tsize a ≤ 1000000)) (HM3.below hb).at4 (HM3.below hb).at5
  have HB3 := Lib.hid hb3; have HX0 := Lib.hid hX0; have HMB := Lib.hid HM3; have HNew := Lib.hid HN; have HFt := Lib.hid HFit
  have hsz := mt_size (tsize a) [] a b
  have hap := fun q h => mt_app (f := tsize a) (a := a) (b := b) (q := q) (V := V) h hV
  have HSz := Lib.hid hsz; have HAp := Lib.hid hap
  obtain ⟨ka, hka⟩ : ∃ k, a.kind = k := ⟨_, rfl⟩
  obtain ⟨kb, hkb⟩ : ∃ k, b.kind = k := ⟨_, rfl⟩
  obtain ⟨r, hr⟩ : ∃ r, mt (tsize a) [] a b = r := ⟨_, rfl⟩
  have HRr := Lib.hid hr
  unfold PMat
  rw [List.map_nil] at HFt
  rw [hr] at HFt HSz ⊢
  rw [hka, hkb] at HMB HFt hW0
  rw [hka, hkb]
  have HW0 := Lib.hid hW0
  rw [← hW0] at HNew
  have hl2 : w.heap.size < W0.heap.size := by have := (Array.getElem?_eq_some_iff.1 hX0).1; omega
  have hl3 : w.heap.size + 1 < W0.heap.size := by have := (Array.getElem?_eq_some_iff.1 hX0).1; omega
  have hl4 : w.heap.size + 1 + 1 < W0.heap.size := (Array.getElem?_eq_some_iff.1 hX0).1
  clear hb3 HM hX0 HM3 HN HFit hsz hap hta htb hka hkb hr hV hVn hW0
  cases r with
  | none =>
    go_enter Try.func8, Try.ntmps8
    go_wp2_with (first
      | (go_at_call 20; refine HNew.out.mono ?_; rintro e w1 ⟨⟨g, mb, rfl, hm⟩, hb1⟩; rw [HW0.out] at hm hb1; have h1 := HMB.out.below hb1; obtain ⟨a0, a1, a2⟩ := three_cells h1.a4; obtain ⟨b0, b1, b2⟩ := three_cells h1.b5; have hs1 := hb1.size; have HM1 := Lib.hid hm; have HB1 := Lib.hid hb1; clear hm hb1 h1 HNew)
      | (go_at_call 21; refine (HFt.out _ _ _ HM1.out HB1.out).mono ?_; rintro e w2 ⟨⟨rfl, _⟩, hk2, hb2⟩; have hx2 := hk2 _ _ _ _ ((HB1.out.block _ hl4).trans HX0.out) (by decide) (by decide); have z0 := (Lib.cell_of_heap hx2 0).trans rfl; have zf := Lib.frozen_of_heap hx2 0; have zl := (Array.getElem?_eq_some_iff.1 hx2).1; have HB2 := Lib.hid (HB3.out.trans ((HB1.out.trans hb2).mono HB3.out.size)); have HX2 := Lib.hid hx2; clear hk2 hb2 hx2 HFt a0 a1 a2 b0 b1 b2))
    have d2 : (w2.setCell ⟨w.heap.size + 1 + 1, 0, none⟩ (.slice none 0 0)).cell? ⟨w.heap.size + 1 + 1, 0, none⟩ = some (.slice none 0 0) := by rw [Lib.cell_of_heap (blk_set HX2.out (.slice none 0 0))]; rfl
    refine bodyPost_ret (v := .tuple #[.agg #[.slice none 0 0], .bool false]) (by simp [results, Try.results8, go_sem, d2]) rfl ⟨⟨.slice none 0 0, [], rfl, subAt_none _, by simp, (fun e => nomatch e)⟩, HB2.out.setCell (p := ⟨w.heap.size + 1 + 1, 0, none⟩) (by show w.heap.size ≤ w.heap.size + 1 + 1; omega) _⟩
  | some s' =>
    go_enter Try.func8, Try.ntmps8
    go_wp2_with (first
      | (go_at_call 20; refine HNew.out.mono ?_; rintro e w1 ⟨⟨g, mb, rfl, hm⟩, hb1⟩; rw [HW0.out] at hm hb1; have h1 := HMB.out.below hb1; obtain ⟨a0, a1, a2⟩ := three_cells h1.a4; obtain ⟨b0, b1, b2⟩ := three_cells h1.b5; have hs1 := hb1.size; have HM1 := Lib.hid hm; have HB1 := Lib.hid hb1; clear hm hb1 h1 HNew)
      | (go_at_call 21; refine (HFt.out _ _ _ HM1.out HB1.out).mono ?_; rintro e w2 ⟨⟨rfl, hq⟩, hk2, hb2⟩; obtain ⟨q, hm2, hqn, _⟩ := hq s' rfl; have hx2 := hk2 _ _ _ _ ((HB1.out.block _ hl4).trans HX0.out) (by decide) (by decide); obtain ⟨pv, hg2, ho2, hn2⟩ := hm2.top; have g0 := (Lib.cell_of_heap hg2 0).trans rfl; have gl := (Array.getElem?_eq_some_iff.1 hg2).1; have HB2 := Lib.hid (HB3.out.trans ((HB1.out.trans hb2).mono HB3.out.size)); have HX2 := Lib.hid hx2; have HM2 := Lib.hid hm2; have HQn := Lib.hid hqn; have HGv := Lib.hid (given_of_row ho2 hn2); clear hk2 hb2 hx2 HFt a0 a1 a2 b0 b1 b2 hq hg2 ho2 hn2 hm2 hqn)
      | (go_at_call 22; have hqs : SizedAll q := (fun x hx => by have h1 := HSz.out s' rfl (nt x) (by rw [← HQn.out]; exact List.mem_map.2 ⟨x, hx, rfl⟩); rcases h1 with h1 | h1; (cases h1); (have h1' : tsize x.t ≤ tsize b := h1; omega)); refine (of_any HGv.out HM2.out.typ HM2.out.fits hqs (by have := (HAp.out q (HRr.out.trans (congrArg some HQn.out.symm))).2; omega)).mono ?_; rintro e w3 ⟨⟨sv, l, rfl, hs3, hmd⟩, hb3⟩; obtain ⟨sa, sc, rfl⟩ := hs3.shape; have hx3 := (hb3.block _ (Array.getElem?_eq_some_iff.1 HX2.out).1).trans HX2.out; have z0 := (Lib.cell_of_heap hx3 0).trans rfl; have zf := Lib.frozen_of_heap hx3 0; have zl := (Array.getElem?_eq_some_iff.1 hx3).1; have HB4 := Lib.hid (HB2.out.trans (hb3.mono HB2.out.size)); have HX3 := Lib.hid hx3; have HS3 := Lib.hid hs3; have HMd := Lib.hid hmd; clear hb3 hx3 hs3 hmd g0 gl))
    have d2 : (w3.setCell ⟨w.heap.size + 1 + 1, 0, none⟩ (.slice sa l.length sc)).cell? ⟨w.heap.size + 1 + 1, 0, none⟩ = some (.slice sa l.length sc) := by rw [Lib.cell_of_heap (blk_set HX3.out (.slice sa l.length sc))]; rfl
    have hap := HAp.out q (HRr.out.trans (congrArg some HQn.out.symm))
    refine bodyPost_ret (v := .tuple #[.agg #[.slice sa l.length sc], .bool true]) (by simp [results, Try.results8, go_sem, d2]) rfl ⟨⟨.slice sa l.length sc, l, rfl, ?_, by have := HMd.out.len; omega, fun _ => ⟨(made_ty HMd.out a).trans hap.1, fun x hx => ?_⟩⟩, HB4.out.setCell (p := ⟨w.heap.size + 1 + 1, 0, none⟩) (by show w.heap.size ≤ w.heap.size + 1 + 1; omega) _⟩
    · have ho : ∀ k, k ≠ w.heap.size + 1 + 1 → (w3.setCell ⟨w.heap.size + 1 + 1, 0, none⟩ (.slice sa l.length sc)).heap[k]? = w3.heap[k]? := fun k hk => Below.heap_setCell _ ⟨w.heap.size + 1 + 1, 0, none⟩ _ k hk
      have h3 := HS3.out
      refine ⟨⟨?_, h3.1.2⟩, h3.2.keep fun k cs fz hk => (ho k (by rintro rfl; rw [HX3.out] at hk; cases hk)).trans hk⟩
      rcases h3.1.1 with e | ⟨g, cap, e, hc, hr⟩
      · exact .inl e
      · refine .inr ⟨g, cap, e, hc, hr.same (ho g ?_)⟩
        rintro rfl
        obtain ⟨cs, h1, _⟩ := hr
        rw [HX3.out] at h1; cases h1
    · obtain ⟨y, hy, _, e⟩ := HMd.out.sub x hx
      have h1 := HSz.out s' rfl (nt y) (by rw [← HQn.out]; exact List.mem_map.2 ⟨y, hy, rfl⟩)
      rcases h1 with h1 | h1
      · cases h1
      · rw [e]; exact h1
end Go.Proofs.Ythpphjkoiipkkaa
/- The program's Both. -/
namespace Go.Proofs.Ythpphjkoiipkkaa
open Go.RowKit Go.Maps Go.Sort Go.Lib
attribute [local go_sem] Oper.semAt_some

set_option maxRecDepth 100000 in
set_option maxHeartbeats 8000000 in
theorem pboth_any {a b : T} {V : List ByteArray} {pa pb : Option Addr} {ca cb : Nat} {w : World} (ha : tsize a ≤ 900000) (hb : tsize b ≤ 900000) (hV : TIn V a) (hV2 : TIn V b) (hVn : ∀ x ∈ V, x.size ≤ 1000)
    (hta : TysAt w (.slice pa a.kids.length ca) a.kids) (htb : TysAt w (.slice pb b.kids.length cb) b.kids) :
    Calls Try.prog 10 #[.agg #[.int .i64 a.kind, .string a.name, .slice pa a.kids.length ca], .agg #[.int .i64 b.kind, .string b.name, .slice pb b.kids.length cb]] w fun e w' => e = .returned (.bool ((mt (tsize a) [] a b).isSome && (mt (tsize b) [] b a).isSome)) ∧ Below w.heap.size w w' := by
  have HF := FBox.start (B := w.heap.size) (a := a) (b := b) (Nat.le_refl _) hta htb
  have hF1 := HF.go (KeepM.of_below (below_d _)) ((below_d _).mono (by simp; omega))
  obtain ⟨W0, hW0⟩ : ∃ W0, ((w.alloc (.cells #[.int .i64 a.kind, .string a.name, .slice pa a.kids.length ca] 26)).alloc (.cells #[.int .i64 b.kind, .string b.name, .slice pb b.kids.length cb] 26)).drew = W0 := ⟨_, rfl⟩
  rw [hW0] at hF1
  have HN := newMatcher_any W0
  have HFit1 := fun (B g mb : Nat) (W : World) (hm : MM B g mb [] W) (hb' : B ≤ W.heap.size) (hx : FBox w.heap.size w a b a.kind b.kind pa pb ca cb W) =>
    fit_ok (tsize a) a b B g mb [] pa pb ca cb W (Nat.le_refl _) hm hb' (fits_small (by omega)) (fun x hx => hVn x (hV x hx)) (by simpa using (by omega : tsize a ≤ 1000000)) hx.at4 hx.at5
  have HFit2 := fun (B g mb : Nat) (W : World) (hm : MM B g mb [] W) (hb' : B ≤ W.heap.size) (hx : FBox w.heap.size w a b a.kind b.kind pa pb ca cb W) =>
    fit_ok (tsize b) b a B g mb [] pb pa cb ca W (Nat.le_refl _) hm hb' (fits_small (by omega)) (fun x hx => hVn x (hV2 x hx)) (by simpa using (by omega : tsize b ≤ 1000000)) hx.at5 hx.at4
  have HX0 := Lib.hid hF1; have HNew := Lib.hid HN; have HFt1 := HFit1; have HFt2 := HFit2
  obtain ⟨ka, hka⟩ : ∃ k, a.kind = k := ⟨_, rfl⟩
  obtain ⟨kb, hkb⟩ : ∃ k, b.kind = k := ⟨_, rfl⟩
  obtain ⟨r1, hr1⟩ : ∃ r, mt (tsize a) [] a b = r := ⟨_, rfl⟩
  obtain ⟨r2, hr2⟩ : ∃ r, mt (tsize b) [] b a = r := ⟨_, rfl⟩
  rw [List.map_nil] at HFt1 HFt2
  rw [hr1] at HFt1 ⊢
  rw [hr2] at HFt2 ⊢
  rw [hka, hkb] at HX0 HFt1 HFt2 hW0
  rw [hka, hkb]
  rw [← hW0] at HNew
  have HW0 := Lib.hid hW0
  clear HF hF1 HN HFit1 HFit2 hta htb hka hkb hr1 hr2 hV hV2 hVn
  obtain ⟨z0, z1, z2⟩ := three_cells HX0.out.a4
  obtain ⟨z3, z4, z5⟩ := three_cells HX0.out.b5
  rw [← hW0] at z0 z1 z2 z3 z4 z5
  clear hW0
  cases r1 with
  | none =>
    simp only [FitR, Option.isSome_none] at HFt1
    have HF1 := Lib.hid HFt1
    clear HFt1 HFt2
    go_enter Try.func10, Try.ntmps10
    go_wp2
    go_region_with (first
      | (go_at_call 21; refine (HF1.out _ _ _ _ HM1.out HS1.out HX1.out).mono ?_; rintro e w2 ⟨⟨rfl, _⟩, hk2, hb2⟩; have hx2 := HX1.out.go hk2 (hb2.mono HBL1.out); clear z0 z1 z2 z3 z4 z5; obtain ⟨z0, z1, z2⟩ := three_cells hx2.a4; obtain ⟨z3, z4, z5⟩ := three_cells hx2.b5; have HX2 := Lib.hid hx2; clear hk2 hb2 hx2 HF1)
      | (go_at_call 20; refine HNew.out.mono ?_; rintro e w1 ⟨⟨g, mb, rfl, hm⟩, hb1⟩; rw [HW0.out] at hm hb1; have HS1 := Lib.hid hb1.size; have HBL1 := Lib.hid (HX0.out.low.size); have hx1 := HX0.out.go (KeepM.of_below hb1) (hb1.mono HX0.out.low.size); clear z0 z1 z2 z3 z4 z5; obtain ⟨z0, z1, z2⟩ := three_cells hx1.a4; obtain ⟨z3, z4, z5⟩ := three_cells hx1.b5; have HX1 := Lib.hid hx1; have HM1 := Lib.hid hm; clear hm hb1 hx1 HNew))
    all_goals
      go_wp2
      refine bodyPost_ret (v := .bool false) (by simp [results, Try.results10, go_sem, Act.put]) rfl ⟨rfl, HX2.out.low⟩
  | some s1 =>
    simp only [FitR, Option.isSome_some] at HFt1
    have HF1 := Lib.hid HFt1
    obtain ⟨vb, hvb⟩ : ∃ vb, r2.isSome = vb := ⟨_, rfl⟩
    simp only [FitR, hvb] at HFt2
    have HF2 := Lib.hid HFt2
    rw [hvb, Option.isSome_some, Bool.true_and]
    clear HFt1 HFt2 hvb
    go_enter Try.func10, Try.ntmps10
    go_wp2
    go_region_held3 (fun V' => V'.cell? ⟨w.heap.size, 0, none⟩ = some (.int .i64 ka) ∧ V'.cell? ⟨w.heap.size, 1, none⟩ = some (.string a.name) ∧ V'.cell? ⟨w.heap.size, 2, none⟩ = some (.slice pa a.kids.length ca) ∧ V'.cell? ⟨w.heap.size + 1, 0, none⟩ = some (.int .i64 kb) ∧ V'.cell? ⟨w.heap.size + 1, 1, none⟩ = some (.string b.name) ∧ V'.cell? ⟨w.heap.size + 1, 2, none⟩ = some (.slice pb b.kids.length cb)) (first | exact ⟨z0, z1, z2, z3, z4, z5⟩ | fail) (first
      | (go_at_call 21; refine (HF2.out _ _ _ _ HM3.out HS3.out HX3.out).mono ?_; rintro e w4 ⟨⟨rfl, _⟩, hk4, hb4⟩; have hx4 := HX3.out.go hk4 (hb4.mono HS2.out); clear z0 z1 z2 z3 z4 z5; obtain ⟨z0, z1, z2⟩ := three_cells hx4.a4; obtain ⟨z3, z4, z5⟩ := three_cells hx4.b5; have HX4 := Lib.hid hx4; clear hk4 hb4 hx4)
      | (go_at_call 20; have HS2 := Lib.hid HX2.out.low.size; refine (newMatcher_any _).mono ?_; rintro e w3 ⟨⟨g3, mb3, rfl, hm3⟩, hb3⟩; have HS3 := Lib.hid hb3.size; have hx3 := HX2.out.go (KeepM.of_below hb3) (hb3.mono HS2.out); clear z0 z1 z2 z3 z4 z5; obtain ⟨z0, z1, z2⟩ := three_cells hx3.a4; obtain ⟨z3, z4, z5⟩ := three_cells hx3.b5; have HX3 := Lib.hid hx3; have HM3 := Lib.hid hm3; clear hm3 hb3 hx3)
      | (go_at_call 21; refine (HF1.out _ _ _ _ HM1.out HS1.out HX1.out).mono ?_; rintro e w2 ⟨⟨rfl, _⟩, hk2, hb2⟩; have hx2 := HX1.out.go hk2 (hb2.mono HBL1.out); clear z0 z1 z2 z3 z4 z5; obtain ⟨z0, z1, z2⟩ := three_cells hx2.a4; obtain ⟨z3, z4, z5⟩ := three_cells hx2.b5; have HX2 := Lib.hid hx2; clear hk2 hb2 hx2 HF1)
      | (go_at_call 20; refine HNew.out.mono ?_; rintro e w1 ⟨⟨g, mb, rfl, hm⟩, hb1⟩; rw [HW0.out] at hm hb1; have HS1 := Lib.hid hb1.size; have HBL1 := Lib.hid (HX0.out.low.size); have hx1 := HX0.out.go (KeepM.of_below hb1) (hb1.mono HX0.out.low.size); clear z0 z1 z2 z3 z4 z5; obtain ⟨z0, z1, z2⟩ := three_cells hx1.a4; obtain ⟨z3, z4, z5⟩ := three_cells hx1.b5; have HX1 := Lib.hid hx1; have HM1 := Lib.hid hm; clear hm hb1 hx1 HNew))
    all_goals
      go_wp2
      refine bodyPost_ret (v := .bool vb) (by simp [results, Try.results10, go_sem]) rfl ⟨rfl, HX4.out.low⟩
end Go.Proofs.Ythpphjkoiipkkaa
/- The document's Match. -/
namespace Go.Proofs.Ythpphjkoiipkkaa
open Go.RowKit Go.Sort Go.Lib
attribute [local go_sem] Oper.semAt_some

theorem MRes2.told {N : Nat} {r : Option (List (ByteArray × T))} {E : Ending} {w : World} (h : MRes2 N r E w) : ∃ v, E = .returned (.tuple #[v, .bool r.isSome]) ∧ ∀ s', r = some s' → ∃ q, GivenG 63 v q w ∧ Typ q w ∧ q.map nt = s' ∧ (∀ x ∈ q, Fits x.t) ∧ q.length ≤ N := by
  cases r with
  | none =>
    obtain ⟨v, rfl⟩ := h
    exact ⟨v, rfl, fun _ e => nomatch e⟩
  | some s' =>
    obtain ⟨v, q, rfl, h⟩ := h
    exact ⟨v, rfl, fun _ e => ⟨q, by cases e; exact h⟩⟩
set_option maxRecDepth 100000 in
set_option maxHeartbeats 2000000 in
theorem rmatch_any {a b : T} {pa pb : Option Addr} {ca cb : Nat} {w : World} (ha : tsize a ≤ 1000000000) (hb : Fits b) (hta : TysAt w (.slice pa a.kids.length ca) a.kids) (htb : TysAt w (.slice pb b.kids.length cb) b.kids) :
    Calls Try.prog 9 #[.agg #[.int .i64 a.kind, .string a.name, .slice pa a.kids.length ca], .agg #[.int .i64 b.kind, .string b.name, .slice pb b.kids.length cb]] w fun E w' =>
      (∃ v, E = .returned (.tuple #[v, .bool (mt (tsize a) [] a b).isSome]) ∧ ∀ s', mt (tsize a) [] a b = some s' → ∃ q, GivenG 63 v q w' ∧ Typ q w' ∧ q.map nt = s' ∧ (∀ x ∈ q, Fits x.t) ∧ q.length ≤ tsize a) ∧ Below w.heap.size w w' := by
  have hM := MBox.start (a := a) (b := b) hta htb
  have hC := match_ok (tsize a) a b [] (.slice none 0 0) pa pb ca cb _ (Nat.le_refl _) (.inl ⟨rfl, rfl⟩) (fun _ hx => nomatch hx) (fun _ hx => nomatch hx) hb (by simpa using ha) hM.at4 hM.at5
  have HC := Lib.hid hC; have HL := Lib.hid hM.low
  clear hC hM hta htb ha hb
  go_enter Try.func9, Try.ntmps9
  go_wp2_with (go_at_call 23; refine HC.out.mono ?_; rintro E w2 ⟨h2, hb2⟩; obtain ⟨v, rfl, hq⟩ := h2.told; have HQ := Lib.hid hq; have HB := Lib.hid hb2; clear h2 hq hb2)
  refine bodyPost_ret (v := .tuple #[v, .bool (mt (tsize a) [] a b).isSome]) (by simp [results, Try.results9, go_sem]) rfl ⟨⟨v, rfl, fun s' e => ?_⟩, HL.out.trans (HB.out.mono HL.out.size)⟩
  obtain ⟨q, h1, h2, h3, h4, h5⟩ := HQ.out s' e
  exact ⟨q, h1, h2, h3, h4, by simpa using h5⟩
end Go.Proofs.Ythpphjkoiipkkaa
/- The types that are made of numbers: good ones, of a bounded text. -/
namespace Go.Proofs.Ythpphjkoiipkkaa
open Go.RowKit
attribute [local go_sem] Oper.semAt_some
attribute [local go_sem ↓] Go.wp_at_zero Go.wp_at_succ

/-- What a maker of a type hands back. -/
def MadeN (B p : Nat) (a : Option Addr) (n c k m D : Nat) (w : World) (e : Ending) (w' : World) : Prop :=
  (∃ t u, e = .returned (tyV t u) ∧ (T.Good t ∧ Fits t ∧ (T.text t).length + 10 ≤ D) ∧ TyIn (fun k => w.heap.size ≤ k) w' t u) ∧ (∃ k', k' + 1 ≤ k + m ∧ SeqAt B p a n c k' w') ∧ MkFr B p w w'
/-- The end: the type is stored in the result's own block. -/
theorem made_fn {B p : Nat} {a : Option Addr} {n c k k' m D : Nat} {w W : World} {O : Obj} {t : T} {u x y z : Value} (hs : SeqAt B p a n c k' W) (hk : k' + 1 ≤ k + m) (hfr : MkFr B p (w.alloc O) W) (hp : p < w.heap.size)
    (_ : W.heap[w.heap.size]? = some (.cells #[.int .i64 0, .string ⟨#[]⟩, .slice none 0 0] 26 (0, 0))) (ht : TyIn (fun k => w.heap.size < k) W t u) (hg : T.Good t ∧ Fits t ∧ (T.text t).length + 10 ≤ D) :
    MadeN B p a n c k m D w (.returned (tyV t u)) (((W.setCell ⟨w.heap.size, 0, none⟩ x).setCell ⟨w.heap.size, 1, none⟩ y).setCell ⟨w.heap.size, 2, none⟩ z) := by
  have hk3 : ∀ i, i ≠ w.heap.size → (((W.setCell ⟨w.heap.size, 0, none⟩ x).setCell ⟨w.heap.size, 1, none⟩ y).setCell ⟨w.heap.size, 2, none⟩ z).heap[i]? = W.heap[i]? := fun i hi =>
    (Below.heap_setCell _ ⟨w.heap.size, 2, none⟩ _ i hi).trans ((Below.heap_setCell _ ⟨w.heap.size, 1, none⟩ _ i hi).trans (Below.heap_setCell _ ⟨w.heap.size, 0, none⟩ _ i hi))
  have hB := hs.1.1
  have hbel : Below B W (((W.setCell ⟨w.heap.size, 0, none⟩ x).setCell ⟨w.heap.size, 1, none⟩ y).setCell ⟨w.heap.size, 2, none⟩ z) :=
    (((Below.refl B W).setCell (p := ⟨w.heap.size, 0, none⟩) (by show B ≤ w.heap.size; omega) _).setCell (p := ⟨w.heap.size, 1, none⟩) (by show B ≤ w.heap.size; omega) _).setCell (p := ⟨w.heap.size, 2, none⟩) (by show B ≤ w.heap.size; omega) _
  refine ⟨⟨t, u, rfl, hg, (ht.keep fun k _ _ hk hh => (hk3 k (Nat.ne_of_gt hk)).trans hh).mono fun k hk => Nat.le_of_lt hk⟩, ⟨k', hk, ⟨hB, (hk3 p (by omega)).trans hs.1.2⟩, hs.2.keep hbel⟩, ?_, ?_⟩
  · exact (((Below.refl B w).alloc (by omega) O).trans hfr.1).trans hbel
  · intro i o hi hip
    have hlt := (Array.getElem?_eq_some_iff.1 hi).1
    exact (hk3 i (by omega)).trans (hfr.2 i o ((Below.heap_alloc w O i hlt).trans hi) hip)

theorem in_one {ok : Nat → Prop} {W : World} {t : T} {v : Value} (n : ByteArray) (hok : ok W.heap.size) (h : TyIn ok W t v) : TyIn ok (W.alloc (.cells #[.int .i64 t.kind, .string t.name, v] 26)) (.con n [t]) (.slice (some ⟨W.heap.size, 0, none⟩) 1 1) := by
  refine .row (.con n [t]) W.heap.size 1 #[.int .i64 t.kind, .string t.name, v] (0, 0) (fun _ => v) hok (alloc_new W _) (Nat.le_refl _) (fun i hi => ?_) (fun i hi => ?_)
  · obtain rfl : i = 0 := by simp [T.kids] at hi; exact hi
    exact ⟨rfl, rfl, rfl⟩
  · obtain rfl : i = 0 := by simp [T.kids] at hi; exact hi
    exact h.keep fun k _ _ _ hh => (Below.heap_alloc W _ k (Array.getElem?_eq_some_iff.1 hh).1).trans hh
theorem in_pair {ok : Nat → Prop} {W : World} {t t' c : T} {v v' : Value} {g : Nat} (hg : g = W.heap.size) (hc : c.kids = [t, t']) (hok : ok W.heap.size) (h : TyIn ok W t v) (h' : TyIn ok W t' v') : TyIn ok (W.alloc (.cells #[.int .i64 t.kind, .string t.name, v, .int .i64 t'.kind, .string t'.name, v'] 26)) c (.slice (some ⟨g, 0, none⟩) 2 2) := by
  subst hg
  have hl : c.kids.length = 2 := by rw [hc]; rfl
  have hkeep : ∀ (o : Obj) {t : T} {v : Value}, TyIn ok W t v → TyIn ok (W.alloc o) t v := fun o t v h => h.keep fun k _ _ _ hh => (Below.heap_alloc W _ k (Array.getElem?_eq_some_iff.1 hh).1).trans hh
  rw [show (Value.slice (some ⟨W.heap.size, 0, none⟩) 2 2) = .slice (some ⟨W.heap.size, 0, none⟩) c.kids.length 2 by rw [hl]]
  refine .row c W.heap.size 2 #[.int .i64 t.kind, .string t.name, v, .int .i64 t'.kind, .string t'.name, v'] (0, 0) (fun i => if i = 0 then v else v') hok (alloc_new W _) (by rw [hl]; exact Nat.le_refl _) (fun i hi => ?_) (fun i hi => ?_)
  · have hi2 : i < 2 := by omega
    have e : c.kids[i] = [t, t'][i] := by simp [hc]
    rw [e]
    match i, hi2 with
    | 0, _ => exact ⟨rfl, rfl, rfl⟩
    | 1, _ => exact ⟨rfl, rfl, rfl⟩
    | n + 2, h => omega
  · have hi2 : i < 2 := by omega
    have e : c.kids[i] = [t, t'][i] := by simp [hc]
    rw [e]
    match i, hi2 with
    | 0, _ => exact hkeep _ h
    | 1, _ => exact hkeep _ h'
    | n + 2, h => omega
set_option maxHeartbeats 1000000 in
theorem con_in {ok : Nat → Prop} (n : ByteArray) (a : Option Addr) (l : List T) (k c : Nat) (w : World) (h : TyIn ok w (.con n l) (.slice a k c)) :
    Calls Try.prog 18 #[.string n, .slice a k c] w fun e w' => (∃ u, e = .returned (tyV (.con n l) u) ∧ TyIn ok w' (.con n l) u) ∧ Below w.heap.size w w' := by
  have H := Lib.hid h; clear h
  go_enter Try.func18, Try.ntmps18
  go_wp2
  refine bodyPost_ret (v := tyV (.con n l) (.slice a k c)) (by simp [results, Try.results18, go_sem, tyV, T.kind, T.name]) rfl ⟨⟨_, rfl, H.out.keep fun k _ _ _ hh => (Below.heap_alloc w _ k (Array.getElem?_eq_some_iff.1 hh).1).trans hh⟩, (Below.refl _ w).alloc (Nat.le_refl _) _⟩
set_option maxHeartbeats 1000000 in
theorem fun2_in {ok : Nat → Prop} (x y : T) (a b : Option Addr) (c d : Nat) (w : World) (hok : ∀ k, w.heap.size ≤ k → ok k) (hx : TyIn ok w x (.slice a x.kids.length c)) (hy : TyIn ok w y (.slice b y.kids.length d)) :
    Calls Try.prog 19 #[tyV x (.slice a x.kids.length c), tyV y (.slice b y.kids.length d)] w fun e w' => (∃ u, e = .returned (tyV (.fn x y) u) ∧ TyIn ok w' (.fn x y) u) ∧ Below w.heap.size w w' := by
  have HX := Lib.hid hx; have HY := Lib.hid hy; have HK := Lib.hid hok
  clear hx hy hok
  simp only [tyV]
  go_enter Try.func19, Try.ntmps19
  go_wp2
  have k3 : ∀ (o1 o2 o3 : Obj) {t : T} {v : Value}, TyIn ok w t v → TyIn ok (((w.alloc o1).alloc o2).alloc o3) t v := fun o1 o2 o3 t v h => h.keep (fun k cs fz _ hh => (((keepT_alloc w o1).trans (keepT_alloc _ o2)).trans (keepT_alloc _ o3)) k cs fz hh)
  refine bodyPost_ret (v := .agg #[.int .i64 3, .string ⟨#[]⟩, .slice (some ⟨w.heap.size + 1 + 1 + 1, 0, none⟩) 2 2]) (by simp [results, Try.results19, go_sem]) rfl ⟨⟨_, rfl, ?_⟩, ?_⟩
  · exact in_pair (by simp) rfl (HK.out _ (by simp; omega)) (k3 _ _ _ HX.out) (k3 _ _ _ HY.out)
  · exact ((((Below.refl _ w).alloc (Nat.le_refl _) _).alloc (by simp) _).alloc (by simp; omega) _).alloc (by simp; omega) _

set_option maxHeartbeats 4000000 in
theorem make_n0 (B p : Nat) (a : Option Addr) (n c k : Nat) (w : World) (h : SeqAt B p a n c k w) (hk : k < 1152921504606846976) (hn : n < 1152921504606846976) :
    Calls Try.prog 7 #[.pointer (some ⟨p, 0, none⟩), .int .i64 0] w (MadeN B p a n c k 2 14 w) := by
  have hp := h.lt
  have HN := Lib.hid (fun o => next_any B p a n c k 9 (w.alloc o) (h.below ((Below.refl _ w).alloc (Nat.le_refl _) o)) (by decide) (by decide) hk hn)
  have HNe := Lib.hid (show w.heap.size ≠ p by omega)
  clear h
  go_enter Try.func7, Try.ntmps7
  go_wp2_with (go_at_call 16; refine (HN.out _).mono ?_)
  rintro e W1 ⟨⟨r, hr, rfl⟩, h1, h2⟩
  have hz := h2.2 _ _ (alloc_new w _) HNe.out
  obtain ⟨c0, c1, c2⟩ := three_cells hz
  have f0 := Lib.frozen_of_heap hz 0
  have f1 := Lib.frozen_of_heap hz 1
  have f2 := Lib.frozen_of_heap hz 2
  have HZ := Lib.hid hz; have H1 := Lib.hid h1; have H2 := Lib.hid h2
  have hzl := (Array.getElem?_eq_some_iff.1 hz).1
  clear hz h1 h2
  obtain ⟨z, hz⟩ : ∃ z : Int, (r : Int) = z := ⟨_, rfl⟩
  rw [hz]
  have h9 : z = 0 ∨ z = 1 ∨ z = 2 ∨ z = 3 ∨ z = 4 ∨ z = 5 ∨ z = 6 ∨ z = 7 ∨ z = 8 := by omega
  clear hz hr
  rcases h9 with rfl | rfl | rfl | rfl | rfl | rfl | rfl | rfl | rfl
  · go_wp2_with (go_at_call 17; refine (var_any _ _).mono ?_)
    rintro e W2 ⟨⟨u, rfl, hu⟩, hb⟩
    have HBT := Lib.hid (((Below.refl _ W1).alloc (Nat.le_refl _) _).trans (hb.mono (by simp)))
    clear hb
    obtain ⟨a2, n2, rfl⟩ := hu.shape
    have hz2 : W2.heap[w.heap.size]? = some (.cells #[.int .i64 0, .string ⟨#[]⟩, .slice none 0 0] 26 (0, 0)) := (HBT.out.block _ hzl).trans HZ.out
    obtain ⟨d0, d1, d2⟩ := three_cells hz2
    have g0 := Lib.frozen_of_heap hz2 0
    have g1 := Lib.frozen_of_heap hz2 1
    have g2 := Lib.frozen_of_heap hz2 2
    have HZ2 := Lib.hid hz2; have HU := Lib.hid hu
    clear hz2 hu c0 c1 c2 f0 f1 f2
    simp only [tyV, T.kind, T.name, List.length_nil]
    go_wp2
    exact bodyPost_ret (v := .agg #[.int .i64 1, .string ⟨#[97]⟩, .slice a2 0 n2]) (by have hc := set3_cells HZ2.out (.int .i64 1) (.string ⟨#[97]⟩) (.slice a2 0 n2); simp [results, Try.results7, go_sem, hc.1, hc.2.1, hc.2.2]) rfl (made_fn (t := .var ⟨#[97]⟩) (H1.out.below HBT.out) (by omega) (H2.out.trans (MkFr.of_below HBT.out (Nat.le_trans H1.out.1.1 (Nat.le_of_lt H1.out.lt)))) hp HZ2.out (.leaf _ _ _ rfl) (good_var (by decide) (by decide) (by decide)))
  · go_wp2_with (go_at_call 17; refine (var_any _ _).mono ?_)
    rintro e W2 ⟨⟨u, rfl, hu⟩, hb⟩
    have HBT := Lib.hid (((Below.refl _ W1).alloc (Nat.le_refl _) _).trans (hb.mono (by simp)))
    clear hb
    obtain ⟨a2, n2, rfl⟩ := hu.shape
    have hz2 : W2.heap[w.heap.size]? = some (.cells #[.int .i64 0, .string ⟨#[]⟩, .slice none 0 0] 26 (0, 0)) := (HBT.out.block _ hzl).trans HZ.out
    obtain ⟨d0, d1, d2⟩ := three_cells hz2
    have g0 := Lib.frozen_of_heap hz2 0
    have g1 := Lib.frozen_of_heap hz2 1
    have g2 := Lib.frozen_of_heap hz2 2
    have HZ2 := Lib.hid hz2; have HU := Lib.hid hu
    clear hz2 hu c0 c1 c2 f0 f1 f2
    simp only [tyV, T.kind, T.name, List.length_nil]
    go_wp2
    exact bodyPost_ret (v := .agg #[.int .i64 1, .string ⟨#[98]⟩, .slice a2 0 n2]) (by have hc := set3_cells HZ2.out (.int .i64 1) (.string ⟨#[98]⟩) (.slice a2 0 n2); simp [results, Try.results7, go_sem, hc.1, hc.2.1, hc.2.2]) rfl (made_fn (t := .var ⟨#[98]⟩) (H1.out.below HBT.out) (by omega) (H2.out.trans (MkFr.of_below HBT.out (Nat.le_trans H1.out.1.1 (Nat.le_of_lt H1.out.lt)))) hp HZ2.out (.leaf _ _ _ rfl) (good_var (by decide) (by decide) (by decide)))
  · go_wp2_with (go_at_call 17; refine (var_any _ _).mono ?_)
    rintro e W2 ⟨⟨u, rfl, hu⟩, hb⟩
    have HBT := Lib.hid (((Below.refl _ W1).alloc (Nat.le_refl _) _).trans (hb.mono (by simp)))
    clear hb
    obtain ⟨a2, n2, rfl⟩ := hu.shape
    have hz2 : W2.heap[w.heap.size]? = some (.cells #[.int .i64 0, .string ⟨#[]⟩, .slice none 0 0] 26 (0, 0)) := (HBT.out.block _ hzl).trans HZ.out
    obtain ⟨d0, d1, d2⟩ := three_cells hz2
    have g0 := Lib.frozen_of_heap hz2 0
    have g1 := Lib.frozen_of_heap hz2 1
    have g2 := Lib.frozen_of_heap hz2 2
    have HZ2 := Lib.hid hz2; have HU := Lib.hid hu
    clear hz2 hu c0 c1 c2 f0 f1 f2
    simp only [tyV, T.kind, T.name, List.length_nil]
    go_wp2
    exact bodyPost_ret (v := .agg #[.int .i64 1, .string ⟨#[99]⟩, .slice a2 0 n2]) (by have hc := set3_cells HZ2.out (.int .i64 1) (.string ⟨#[99]⟩) (.slice a2 0 n2); simp [results, Try.results7, go_sem, hc.1, hc.2.1, hc.2.2]) rfl (made_fn (t := .var ⟨#[99]⟩) (H1.out.below HBT.out) (by omega) (H2.out.trans (MkFr.of_below HBT.out (Nat.le_trans H1.out.1.1 (Nat.le_of_lt H1.out.lt)))) hp HZ2.out (.leaf _ _ _ rfl) (good_var (by decide) (by decide) (by decide)))
  · go_wp2_with (go_at_call 18; refine (con_any _ none [] 0 0 _ (TysAt.nil _ _ _)).mono ?_)
    rintro e W2 ⟨⟨u, rfl, hu⟩, hb⟩
    have HBT := Lib.hid hb
    clear hb
    obtain ⟨a2, n2, rfl⟩ := hu.shape
    have hz2 : W2.heap[w.heap.size]? = some (.cells #[.int .i64 0, .string ⟨#[]⟩, .slice none 0 0] 26 (0, 0)) := (HBT.out.block _ hzl).trans HZ.out
    obtain ⟨d0, d1, d2⟩ := three_cells hz2
    have g0 := Lib.frozen_of_heap hz2 0
    have g1 := Lib.frozen_of_heap hz2 1
    have g2 := Lib.frozen_of_heap hz2 2
    have HZ2 := Lib.hid hz2; have HU := Lib.hid hu
    clear hz2 hu c0 c1 c2 f0 f1 f2
    simp only [tyV, T.kind, T.name, List.length_nil]
    go_wp2
    exact bodyPost_ret (v := .agg #[.int .i64 2, .string ⟨#[73, 110, 116]⟩, .slice a2 0 n2]) (by have hc := set3_cells HZ2.out (.int .i64 2) (.string ⟨#[73, 110, 116]⟩) (.slice a2 0 n2); simp [results, Try.results7, go_sem, hc.1, hc.2.1, hc.2.2]) rfl (made_fn (t := .con ⟨#[73, 110, 116]⟩ []) (H1.out.below HBT.out) (by omega) (H2.out.trans (MkFr.of_below HBT.out (Nat.le_trans H1.out.1.1 (Nat.le_of_lt H1.out.lt)))) hp HZ2.out (.leaf _ _ _ rfl) (good_con0 (by decide) (by decide) (by decide)))
  · go_wp2_with (go_at_call 18; refine (con_any _ none [] 0 0 _ (TysAt.nil _ _ _)).mono ?_)
    rintro e W2 ⟨⟨u, rfl, hu⟩, hb⟩
    have HBT := Lib.hid hb
    clear hb
    obtain ⟨a2, n2, rfl⟩ := hu.shape
    have hz2 : W2.heap[w.heap.size]? = some (.cells #[.int .i64 0, .string ⟨#[]⟩, .slice none 0 0] 26 (0, 0)) := (HBT.out.block _ hzl).trans HZ.out
    obtain ⟨d0, d1, d2⟩ := three_cells hz2
    have g0 := Lib.frozen_of_heap hz2 0
    have g1 := Lib.frozen_of_heap hz2 1
    have g2 := Lib.frozen_of_heap hz2 2
    have HZ2 := Lib.hid hz2; have HU := Lib.hid hu
    clear hz2 hu c0 c1 c2 f0 f1 f2
    simp only [tyV, T.kind, T.name, List.length_nil]
    go_wp2
    exact bodyPost_ret (v := .agg #[.int .i64 2, .string ⟨#[66, 111, 111, 108]⟩, .slice a2 0 n2]) (by have hc := set3_cells HZ2.out (.int .i64 2) (.string ⟨#[66, 111, 111, 108]⟩) (.slice a2 0 n2); simp [results, Try.results7, go_sem, hc.1, hc.2.1, hc.2.2]) rfl (made_fn (t := .con ⟨#[66, 111, 111, 108]⟩ []) (H1.out.below HBT.out) (by omega) (H2.out.trans (MkFr.of_below HBT.out (Nat.le_trans H1.out.1.1 (Nat.le_of_lt H1.out.lt)))) hp HZ2.out (.leaf _ _ _ rfl) (good_con0 (by decide) (by decide) (by decide)))
  · go_wp2_with (go_at_call 17; refine (var_any _ _).mono ?_)
    rintro e W2 ⟨⟨u, rfl, hu⟩, hb⟩
    have HBT := Lib.hid (((Below.refl _ W1).alloc (Nat.le_refl _) _).trans (hb.mono (by simp)))
    clear hb
    obtain ⟨a2, n2, rfl⟩ := hu.shape
    have hz2 : W2.heap[w.heap.size]? = some (.cells #[.int .i64 0, .string ⟨#[]⟩, .slice none 0 0] 26 (0, 0)) := (HBT.out.block _ hzl).trans HZ.out
    obtain ⟨d0, d1, d2⟩ := three_cells hz2
    have g0 := Lib.frozen_of_heap hz2 0
    have g1 := Lib.frozen_of_heap hz2 1
    have g2 := Lib.frozen_of_heap hz2 2
    have HZ2 := Lib.hid hz2; have HU := Lib.hid hu
    clear hz2 hu c0 c1 c2 f0 f1 f2
    simp only [tyV, T.kind, T.name, List.length_nil]
    go_wp2
    exact bodyPost_ret (v := .agg #[.int .i64 1, .string ⟨#[97]⟩, .slice a2 0 n2]) (by have hc := set3_cells HZ2.out (.int .i64 1) (.string ⟨#[97]⟩) (.slice a2 0 n2); simp [results, Try.results7, go_sem, hc.1, hc.2.1, hc.2.2]) rfl (made_fn (t := .var ⟨#[97]⟩) (H1.out.below HBT.out) (by omega) (H2.out.trans (MkFr.of_below HBT.out (Nat.le_trans H1.out.1.1 (Nat.le_of_lt H1.out.lt)))) hp HZ2.out (.leaf _ _ _ rfl) (good_var (by decide) (by decide) (by decide)))
  · go_wp2_with (go_at_call 17; refine (var_any _ _).mono ?_)
    rintro e W2 ⟨⟨u, rfl, hu⟩, hb⟩
    have HBT := Lib.hid (((Below.refl _ W1).alloc (Nat.le_refl _) _).trans (hb.mono (by simp)))
    clear hb
    obtain ⟨a2, n2, rfl⟩ := hu.shape
    have hz2 : W2.heap[w.heap.size]? = some (.cells #[.int .i64 0, .string ⟨#[]⟩, .slice none 0 0] 26 (0, 0)) := (HBT.out.block _ hzl).trans HZ.out
    obtain ⟨d0, d1, d2⟩ := three_cells hz2
    have g0 := Lib.frozen_of_heap hz2 0
    have g1 := Lib.frozen_of_heap hz2 1
    have g2 := Lib.frozen_of_heap hz2 2
    have HZ2 := Lib.hid hz2; have HU := Lib.hid hu
    clear hz2 hu c0 c1 c2 f0 f1 f2
    simp only [tyV, T.kind, T.name, List.length_nil]
    go_wp2
    exact bodyPost_ret (v := .agg #[.int .i64 1, .string ⟨#[98]⟩, .slice a2 0 n2]) (by have hc := set3_cells HZ2.out (.int .i64 1) (.string ⟨#[98]⟩) (.slice a2 0 n2); simp [results, Try.results7, go_sem, hc.1, hc.2.1, hc.2.2]) rfl (made_fn (t := .var ⟨#[98]⟩) (H1.out.below HBT.out) (by omega) (H2.out.trans (MkFr.of_below HBT.out (Nat.le_trans H1.out.1.1 (Nat.le_of_lt H1.out.lt)))) hp HZ2.out (.leaf _ _ _ rfl) (good_var (by decide) (by decide) (by decide)))
  · go_wp2_with (go_at_call 17; refine (var_any _ _).mono ?_)
    rintro e W2 ⟨⟨u, rfl, hu⟩, hb⟩
    have HBT := Lib.hid (((Below.refl _ W1).alloc (Nat.le_refl _) _).trans (hb.mono (by simp)))
    clear hb
    obtain ⟨a2, n2, rfl⟩ := hu.shape
    have hz2 : W2.heap[w.heap.size]? = some (.cells #[.int .i64 0, .string ⟨#[]⟩, .slice none 0 0] 26 (0, 0)) := (HBT.out.block _ hzl).trans HZ.out
    obtain ⟨d0, d1, d2⟩ := three_cells hz2
    have g0 := Lib.frozen_of_heap hz2 0
    have g1 := Lib.frozen_of_heap hz2 1
    have g2 := Lib.frozen_of_heap hz2 2
    have HZ2 := Lib.hid hz2; have HU := Lib.hid hu
    clear hz2 hu c0 c1 c2 f0 f1 f2
    simp only [tyV, T.kind, T.name, List.length_nil]
    go_wp2
    exact bodyPost_ret (v := .agg #[.int .i64 1, .string ⟨#[99]⟩, .slice a2 0 n2]) (by have hc := set3_cells HZ2.out (.int .i64 1) (.string ⟨#[99]⟩) (.slice a2 0 n2); simp [results, Try.results7, go_sem, hc.1, hc.2.1, hc.2.2]) rfl (made_fn (t := .var ⟨#[99]⟩) (H1.out.below HBT.out) (by omega) (H2.out.trans (MkFr.of_below HBT.out (Nat.le_trans H1.out.1.1 (Nat.le_of_lt H1.out.lt)))) hp HZ2.out (.leaf _ _ _ rfl) (good_var (by decide) (by decide) (by decide)))
  · go_wp2_with (go_at_call 18; refine (con_any _ none [] 0 0 _ (TysAt.nil _ _ _)).mono ?_)
    rintro e W2 ⟨⟨u, rfl, hu⟩, hb⟩
    have HBT := Lib.hid hb
    clear hb
    obtain ⟨a2, n2, rfl⟩ := hu.shape
    have hz2 : W2.heap[w.heap.size]? = some (.cells #[.int .i64 0, .string ⟨#[]⟩, .slice none 0 0] 26 (0, 0)) := (HBT.out.block _ hzl).trans HZ.out
    obtain ⟨d0, d1, d2⟩ := three_cells hz2
    have g0 := Lib.frozen_of_heap hz2 0
    have g1 := Lib.frozen_of_heap hz2 1
    have g2 := Lib.frozen_of_heap hz2 2
    have HZ2 := Lib.hid hz2; have HU := Lib.hid hu
    clear hz2 hu c0 c1 c2 f0 f1 f2
    simp only [tyV, T.kind, T.name, List.length_nil]
    go_wp2
    exact bodyPost_ret (v := .agg #[.int .i64 2, .string ⟨#[73, 110, 116]⟩, .slice a2 0 n2]) (by have hc := set3_cells HZ2.out (.int .i64 2) (.string ⟨#[73, 110, 116]⟩) (.slice a2 0 n2); simp [results, Try.results7, go_sem, hc.1, hc.2.1, hc.2.2]) rfl (made_fn (t := .con ⟨#[73, 110, 116]⟩ []) (H1.out.below HBT.out) (by omega) (H2.out.trans (MkFr.of_below HBT.out (Nat.le_trans H1.out.1.1 (Nat.le_of_lt H1.out.lt)))) hp HZ2.out (.leaf _ _ _ rfl) (good_con0 (by decide) (by decide) (by decide)))

end Go.Proofs.Ythpphjkoiipkkaa
/- The types that are made of numbers: a level more. -/
namespace Go.Proofs.Ythpphjkoiipkkaa
open Go.RowKit
attribute [local go_sem] Oper.semAt_some
attribute [local go_sem ↓] Go.wp_at_zero Go.wp_at_succ

set_option maxHeartbeats 4000000 in
theorem make_stepN (d : Int) (hd1 : 1 ≤ d) (hd2 : d ≤ 100) (M D : Nat) (hM : 2 ≤ M) (hD : 14 ≤ D) (B p : Nat) (a : Option Addr) (n c k : Nat) (w : World) (h : SeqAt B p a n c k w) (hk : k + 2 * M < 1152921504606846976) (hn : n < 1152921504606846976)
    (IH : ∀ k w, SeqAt B p a n c k w → k + M < 1152921504606846976 → Calls Try.prog 7 #[.pointer (some ⟨p, 0, none⟩), .int .i64 (d - 1)] w (MadeN B p a n c k M D w)) :
    Calls Try.prog 7 #[.pointer (some ⟨p, 0, none⟩), .int .i64 d] w (MadeN B p a n c k (2 * M) (2 * D) w) := by
  have hp := h.lt
  have HN := Lib.hid (fun o => next_any B p a n c k 9 (w.alloc o) (h.below ((Below.refl _ w).alloc (Nat.le_refl _) o)) (by decide) (by decide) (by omega) hn)
  have HNe := Lib.hid (show w.heap.size ≠ p by omega)
  have hw : IntKind.i64.wrap (d - 1) = d - 1 := by rw [IntKind.wrap_i64]; omega
  have HI := Lib.hid IH
  have HI2 := Lib.hid IH
  rw [← hw] at HI2
  clear hw
  clear h IH
  go_enter Try.func7, Try.ntmps7
  go_wp2_with (go_at_call 16; refine (HN.out _).mono ?_)
  rintro e W1 ⟨⟨r, hr, rfl⟩, h1, h2⟩
  have hz := h2.2 _ _ (alloc_new w _) HNe.out
  obtain ⟨c0, c1, c2⟩ := three_cells hz
  have f0 := Lib.frozen_of_heap hz 0
  have f1 := Lib.frozen_of_heap hz 1
  have f2 := Lib.frozen_of_heap hz 2
  have HZ := Lib.hid hz; have H1 := Lib.hid h1; have H2 := Lib.hid h2
  have hzl := (Array.getElem?_eq_some_iff.1 hz).1
  clear hz h1 h2
  obtain ⟨z, hz⟩ : ∃ z : Int, (r : Int) = z := ⟨_, rfl⟩
  rw [hz]
  have h9 : z = 0 ∨ z = 1 ∨ z = 2 ∨ z = 3 ∨ z = 4 ∨ z = 5 ∨ z = 6 ∨ z = 7 ∨ z = 8 := by omega
  clear hz hr
  rcases h9 with rfl | rfl | rfl | rfl | rfl | rfl | rfl | rfl | rfl
  · go_wp2_with (go_at_call 17; refine (var_any _ _).mono ?_)
    rintro e W2 ⟨⟨u, rfl, hu⟩, hb⟩
    have HBT := Lib.hid (((Below.refl _ W1).alloc (Nat.le_refl _) _).trans (hb.mono (by simp)))
    clear hb
    obtain ⟨a2, n2, rfl⟩ := hu.shape
    have hz2 : W2.heap[w.heap.size]? = some (.cells #[.int .i64 0, .string ⟨#[]⟩, .slice none 0 0] 26 (0, 0)) := (HBT.out.block _ hzl).trans HZ.out
    obtain ⟨d0, d1, d2⟩ := three_cells hz2
    have g0 := Lib.frozen_of_heap hz2 0
    have g1 := Lib.frozen_of_heap hz2 1
    have g2 := Lib.frozen_of_heap hz2 2
    have HZ2 := Lib.hid hz2; have HU := Lib.hid hu
    clear hz2 hu c0 c1 c2 f0 f1 f2
    simp only [tyV, T.kind, T.name, List.length_nil]
    go_wp2
    exact bodyPost_ret (v := .agg #[.int .i64 1, .string ⟨#[97]⟩, .slice a2 0 n2]) (by have hc := set3_cells HZ2.out (.int .i64 1) (.string ⟨#[97]⟩) (.slice a2 0 n2); simp [results, Try.results7, go_sem, hc.1, hc.2.1, hc.2.2]) rfl (made_fn (t := .var ⟨#[97]⟩) (H1.out.below HBT.out) (by omega) (H2.out.trans (MkFr.of_below HBT.out (Nat.le_trans H1.out.1.1 (Nat.le_of_lt H1.out.lt)))) hp HZ2.out (.leaf _ _ _ rfl) (good_var (by decide) (by decide) (by omega)))
  · go_wp2_with (go_at_call 17; refine (var_any _ _).mono ?_)
    rintro e W2 ⟨⟨u, rfl, hu⟩, hb⟩
    have HBT := Lib.hid (((Below.refl _ W1).alloc (Nat.le_refl _) _).trans (hb.mono (by simp)))
    clear hb
    obtain ⟨a2, n2, rfl⟩ := hu.shape
    have hz2 : W2.heap[w.heap.size]? = some (.cells #[.int .i64 0, .string ⟨#[]⟩, .slice none 0 0] 26 (0, 0)) := (HBT.out.block _ hzl).trans HZ.out
    obtain ⟨d0, d1, d2⟩ := three_cells hz2
    have g0 := Lib.frozen_of_heap hz2 0
    have g1 := Lib.frozen_of_heap hz2 1
    have g2 := Lib.frozen_of_heap hz2 2
    have HZ2 := Lib.hid hz2; have HU := Lib.hid hu
    clear hz2 hu c0 c1 c2 f0 f1 f2
    simp only [tyV, T.kind, T.name, List.length_nil]
    go_wp2
    exact bodyPost_ret (v := .agg #[.int .i64 1, .string ⟨#[98]⟩, .slice a2 0 n2]) (by have hc := set3_cells HZ2.out (.int .i64 1) (.string ⟨#[98]⟩) (.slice a2 0 n2); simp [results, Try.results7, go_sem, hc.1, hc.2.1, hc.2.2]) rfl (made_fn (t := .var ⟨#[98]⟩) (H1.out.below HBT.out) (by omega) (H2.out.trans (MkFr.of_below HBT.out (Nat.le_trans H1.out.1.1 (Nat.le_of_lt H1.out.lt)))) hp HZ2.out (.leaf _ _ _ rfl) (good_var (by decide) (by decide) (by omega)))
  · go_wp2_with (go_at_call 17; refine (var_any _ _).mono ?_)
    rintro e W2 ⟨⟨u, rfl, hu⟩, hb⟩
    have HBT := Lib.hid (((Below.refl _ W1).alloc (Nat.le_refl _) _).trans (hb.mono (by simp)))
    clear hb
    obtain ⟨a2, n2, rfl⟩ := hu.shape
    have hz2 : W2.heap[w.heap.size]? = some (.cells #[.int .i64 0, .string ⟨#[]⟩, .slice none 0 0] 26 (0, 0)) := (HBT.out.block _ hzl).trans HZ.out
    obtain ⟨d0, d1, d2⟩ := three_cells hz2
    have g0 := Lib.frozen_of_heap hz2 0
    have g1 := Lib.frozen_of_heap hz2 1
    have g2 := Lib.frozen_of_heap hz2 2
    have HZ2 := Lib.hid hz2; have HU := Lib.hid hu
    clear hz2 hu c0 c1 c2 f0 f1 f2
    simp only [tyV, T.kind, T.name, List.length_nil]
    go_wp2
    exact bodyPost_ret (v := .agg #[.int .i64 1, .string ⟨#[99]⟩, .slice a2 0 n2]) (by have hc := set3_cells HZ2.out (.int .i64 1) (.string ⟨#[99]⟩) (.slice a2 0 n2); simp [results, Try.results7, go_sem, hc.1, hc.2.1, hc.2.2]) rfl (made_fn (t := .var ⟨#[99]⟩) (H1.out.below HBT.out) (by omega) (H2.out.trans (MkFr.of_below HBT.out (Nat.le_trans H1.out.1.1 (Nat.le_of_lt H1.out.lt)))) hp HZ2.out (.leaf _ _ _ rfl) (good_var (by decide) (by decide) (by omega)))
  · go_wp2_with (go_at_call 18; refine (con_any _ none [] 0 0 _ (TysAt.nil _ _ _)).mono ?_)
    rintro e W2 ⟨⟨u, rfl, hu⟩, hb⟩
    have HBT := Lib.hid hb
    clear hb
    obtain ⟨a2, n2, rfl⟩ := hu.shape
    have hz2 : W2.heap[w.heap.size]? = some (.cells #[.int .i64 0, .string ⟨#[]⟩, .slice none 0 0] 26 (0, 0)) := (HBT.out.block _ hzl).trans HZ.out
    obtain ⟨d0, d1, d2⟩ := three_cells hz2
    have g0 := Lib.frozen_of_heap hz2 0
    have g1 := Lib.frozen_of_heap hz2 1
    have g2 := Lib.frozen_of_heap hz2 2
    have HZ2 := Lib.hid hz2; have HU := Lib.hid hu
    clear hz2 hu c0 c1 c2 f0 f1 f2
    simp only [tyV, T.kind, T.name, List.length_nil]
    go_wp2
    exact bodyPost_ret (v := .agg #[.int .i64 2, .string ⟨#[73, 110, 116]⟩, .slice a2 0 n2]) (by have hc := set3_cells HZ2.out (.int .i64 2) (.string ⟨#[73, 110, 116]⟩) (.slice a2 0 n2); simp [results, Try.results7, go_sem, hc.1, hc.2.1, hc.2.2]) rfl (made_fn (t := .con ⟨#[73, 110, 116]⟩ []) (H1.out.below HBT.out) (by omega) (H2.out.trans (MkFr.of_below HBT.out (Nat.le_trans H1.out.1.1 (Nat.le_of_lt H1.out.lt)))) hp HZ2.out (.leaf _ _ _ rfl) (good_con0 (by decide) (by decide) (by omega)))
  · go_wp2_with (go_at_call 18; refine (con_any _ none [] 0 0 _ (TysAt.nil _ _ _)).mono ?_)
    rintro e W2 ⟨⟨u, rfl, hu⟩, hb⟩
    have HBT := Lib.hid hb
    clear hb
    obtain ⟨a2, n2, rfl⟩ := hu.shape
    have hz2 : W2.heap[w.heap.size]? = some (.cells #[.int .i64 0, .string ⟨#[]⟩, .slice none 0 0] 26 (0, 0)) := (HBT.out.block _ hzl).trans HZ.out
    obtain ⟨d0, d1, d2⟩ := three_cells hz2
    have g0 := Lib.frozen_of_heap hz2 0
    have g1 := Lib.frozen_of_heap hz2 1
    have g2 := Lib.frozen_of_heap hz2 2
    have HZ2 := Lib.hid hz2; have HU := Lib.hid hu
    clear hz2 hu c0 c1 c2 f0 f1 f2
    simp only [tyV, T.kind, T.name, List.length_nil]
    go_wp2
    exact bodyPost_ret (v := .agg #[.int .i64 2, .string ⟨#[66, 111, 111, 108]⟩, .slice a2 0 n2]) (by have hc := set3_cells HZ2.out (.int .i64 2) (.string ⟨#[66, 111, 111, 108]⟩) (.slice a2 0 n2); simp [results, Try.results7, go_sem, hc.1, hc.2.1, hc.2.2]) rfl (made_fn (t := .con ⟨#[66, 111, 111, 108]⟩ []) (H1.out.below HBT.out) (by omega) (H2.out.trans (MkFr.of_below HBT.out (Nat.le_trans H1.out.1.1 (Nat.le_of_lt H1.out.lt)))) hp HZ2.out (.leaf _ _ _ rfl) (good_con0 (by decide) (by decide) (by omega)))
  · go_wp2_with (go_at_call 7; refine (HI.out _ _ H1.out (by omega)).mono ?_)
    rintro e W2 ⟨⟨t, u, rfl, hg, hu⟩, ⟨k2, hk2, hs2⟩, hf2⟩
    obtain ⟨a2, n2, rfl⟩ := hu.shape
    have hz2 := hf2.2 _ _ HZ.out HNe.out
    have hzl2 := (Array.getElem?_eq_some_iff.1 hz2).1
    have HZ2 := Lib.hid hz2; have HU := Lib.hid hu; have HS2 := Lib.hid hs2; have HF2 := Lib.hid hf2; have HG := Lib.hid hg
    clear hz2 hu hs2 hf2 hg c0 c1 c2 f0 f1 f2
    simp only [tyV]
    go_wp2_with (go_at_call 18; refine (con_in (ok := fun k => w.heap.size < k) _ _ [t] 1 1 _ (in_one _ hzl2 (HU.out.mono fun k hk => Nat.lt_of_lt_of_le hzl hk))).mono ?_)
    rintro e W3 ⟨⟨u3, rfl, hu3⟩, hb⟩
    obtain ⟨a3, n3, rfl⟩ := hu3.shape
    have HBT := Lib.hid (((Below.refl _ W2).alloc (Nat.le_refl _) _).trans (hb.mono (by simp)))
    have hz3 : W3.heap[w.heap.size]? = some (.cells #[.int .i64 0, .string ⟨#[]⟩, .slice none 0 0] 26 (0, 0)) := (HBT.out.block _ hzl2).trans HZ2.out
    obtain ⟨d0, d1, d2⟩ := three_cells hz3
    have g0 := Lib.frozen_of_heap hz3 0
    have g1 := Lib.frozen_of_heap hz3 1
    have g2 := Lib.frozen_of_heap hz3 2
    have HZ3 := Lib.hid hz3; have HU3 := Lib.hid hu3
    clear hz3 hu3 hb
    simp only [tyV, show (T.con ⟨#[76, 105, 115, 116]⟩ [t]).kind = 2 from rfl, show (T.con ⟨#[76, 105, 115, 116]⟩ [t]).name = ⟨#[76, 105, 115, 116]⟩ from rfl, show (T.con ⟨#[76, 105, 115, 116]⟩ [t]).kids.length = 1 from rfl]
    go_wp2
    exact bodyPost_ret (v := .agg #[.int .i64 2, .string ⟨#[76, 105, 115, 116]⟩, .slice a3 1 n3]) (by have hc := set3_cells HZ3.out (.int .i64 2) (.string ⟨#[76, 105, 115, 116]⟩) (.slice a3 1 n3); simp [results, Try.results7, go_sem, hc.1, hc.2.1, hc.2.2]) rfl (made_fn (t := .con ⟨#[76, 105, 115, 116]⟩ [t]) (HS2.out.below HBT.out) (by omega) ((H2.out.trans HF2.out).trans (MkFr.of_below HBT.out (Nat.le_trans HS2.out.1.1 (Nat.le_of_lt HS2.out.lt)))) hp HZ3.out HU3.out (good_con1 (by decide) (by decide) HG.out (Nat.le_refl _) hD))
  · go_wp2_with (go_at_call 7; refine (HI.out _ _ H1.out (by omega)).mono ?_)
    rintro e W2 ⟨⟨t, u, rfl, hg, hu⟩, ⟨k2, hk2, hs2⟩, hf2⟩
    obtain ⟨a2, n2, rfl⟩ := hu.shape
    have hz2 := hf2.2 _ _ HZ.out HNe.out
    have hzl2 := (Array.getElem?_eq_some_iff.1 hz2).1
    have HZ2 := Lib.hid hz2; have HU := Lib.hid hu; have HS2 := Lib.hid hs2; have HF2 := Lib.hid hf2; have HG := Lib.hid hg
    clear hz2 hu hs2 hf2 hg c0 c1 c2 f0 f1 f2
    simp only [tyV]
    go_wp2_with fail
    have hbx := alloc_new W2 (.cells #[.int .i64 t.kind, .string t.name, .slice a2 t.kids.length n2] 26)
    have HBX := Lib.hid hbx
    have hne2 : W2.heap.size ≠ p := by have := HS2.out.lt; omega
    have HNe2 := Lib.hid hne2
    clear hbx hne2
    go_region_with (first
      | (go_at_call 7; refine (HI2.out k2 _ ?hs ?hk).mono ?_; (case hs => exact SeqAt.drew (HS2.out.below ((Below.refl _ W2).alloc (Nat.le_refl _) _))); (case hk => omega); rintro e W3 ⟨⟨t3, u3, rfl, hg3, hu3⟩, ⟨k3, hk3, hs3⟩, hf3'⟩; have hf3 := MkFr.of_drew hf3'; clear hf3'; obtain ⟨a3, n3, rfl⟩ := hu3.shape; have hbx3 := hf3.2 _ _ HBX.out HNe2.out; obtain ⟨x0, x1, x2⟩ := three_cells hbx3; have hz3 := hf3.2 _ _ ((Below.heap_alloc W2 _ _ hzl2).trans HZ2.out) HNe.out; have hzl3 := (Array.getElem?_eq_some_iff.1 hz3).1; have HZ3 := Lib.hid hz3; have HS3 := Lib.hid hs3; have HF3 := Lib.hid hf3; have HG3 := Lib.hid hg3; have HUt := Lib.hid ((HU.out.mono (ok' := fun k => w.heap.size < k) fun k hk => Nat.lt_of_lt_of_le hzl hk).keep (fun k cs fz _ hh => ((keepT_alloc W2 _).trans (KeepT.of_mk hf3 (HS2.out.below ((Below.refl _ W2).alloc (Nat.le_refl _) _)))) k cs fz hh)); have hu3' : TyIn (fun k => w.heap.size < k) W3 t3 (.slice a3 t3.kids.length n3) := hu3.mono (fun k hk => by have h9 : (W2.alloc (.cells #[.int .i64 t.kind, .string t.name, .slice a2 t.kids.length n2] 26)).heap.size ≤ k := hk; simp at h9; omega); have HU3 := Lib.hid hu3'; clear hz3 hs3 hf3 hu3 hu3' hg3 hbx3; simp only [tyV])
      | (go_at_call 18; refine (con_in (ok := fun k => w.heap.size < k) _ _ [t, t3] 2 2 _ (in_pair rfl rfl hzl3 HUt.out HU3.out)).mono ?_; rintro e W4 ⟨⟨u4, rfl, hu4⟩, hb4⟩; obtain ⟨a4, n4, rfl⟩ := hu4.shape; have HBT := Lib.hid (((Below.refl _ W3).alloc (Nat.le_refl _) _).trans (hb4.mono (by simp))); have hz4 : W4.heap[w.heap.size]? = some (.cells #[.int .i64 0, .string ⟨#[]⟩, .slice none 0 0] 26 (0, 0)) := (HBT.out.block _ hzl3).trans HZ3.out; obtain ⟨d0, d1, d2⟩ := three_cells hz4; have g0 := Lib.frozen_of_heap hz4 0; have g1 := Lib.frozen_of_heap hz4 1; have g2 := Lib.frozen_of_heap hz4 2; have HZ4 := Lib.hid hz4; have HU4 := Lib.hid hu4; clear hz4 hu4 hb4; simp only [tyV, show (T.con ⟨#[80, 97, 105, 114]⟩ [t, t3]).kind = 2 from rfl, show (T.con ⟨#[80, 97, 105, 114]⟩ [t, t3]).name = ⟨#[80, 97, 105, 114]⟩ from rfl, show (T.con ⟨#[80, 97, 105, 114]⟩ [t, t3]).kids.length = 2 from rfl]))
    all_goals go_wp2
    all_goals exact bodyPost_ret (v := .agg #[.int .i64 2, .string ⟨#[80, 97, 105, 114]⟩, .slice a4 2 n4]) (by have hc := set3_cells HZ4.out (.int .i64 2) (.string ⟨#[80, 97, 105, 114]⟩) (.slice a4 2 n4); simp [results, Try.results7, go_sem, hc.1, hc.2.1, hc.2.2]) rfl (made_fn (t := T.con ⟨#[80, 97, 105, 114]⟩ [t, t3]) (HS3.out.below HBT.out) (by omega) (((H2.out.trans HF2.out).trans ((MkFr.of_below ((Below.refl _ W2).alloc (Nat.le_refl _) _) (Nat.le_trans HS2.out.1.1 (Nat.le_of_lt HS2.out.lt))).trans HF3.out)).trans (MkFr.of_below HBT.out (Nat.le_trans HS3.out.1.1 (Nat.le_of_lt HS3.out.lt)))) hp HZ4.out HU4.out (good_con2 (by decide) (by decide) HG.out HG3.out (Nat.le_refl _)))
  · go_wp2_with (go_at_call 7; refine (HI.out _ _ H1.out (by omega)).mono ?_)
    rintro e W2 ⟨⟨t, u, rfl, hg, hu⟩, ⟨k2, hk2, hs2⟩, hf2⟩
    obtain ⟨a2, n2, rfl⟩ := hu.shape
    have hz2 := hf2.2 _ _ HZ.out HNe.out
    have hzl2 := (Array.getElem?_eq_some_iff.1 hz2).1
    have HZ2 := Lib.hid hz2; have HU := Lib.hid hu; have HS2 := Lib.hid hs2; have HF2 := Lib.hid hf2; have HG := Lib.hid hg
    clear hz2 hu hs2 hf2 hg c0 c1 c2 f0 f1 f2
    simp only [tyV]
    go_wp2_with fail
    have hbx := alloc_new W2 (.cells #[.int .i64 t.kind, .string t.name, .slice a2 t.kids.length n2] 26)
    have HBX := Lib.hid hbx
    have hne2 : W2.heap.size ≠ p := by have := HS2.out.lt; omega
    have HNe2 := Lib.hid hne2
    clear hbx hne2
    go_region_with (first
      | (go_at_call 7; refine (HI2.out k2 _ ?hs ?hk).mono ?_; (case hs => exact SeqAt.drew (HS2.out.below ((Below.refl _ W2).alloc (Nat.le_refl _) _))); (case hk => omega); rintro e W3 ⟨⟨t3, u3, rfl, hg3, hu3⟩, ⟨k3, hk3, hs3⟩, hf3'⟩; have hf3 := MkFr.of_drew hf3'; clear hf3'; obtain ⟨a3, n3, rfl⟩ := hu3.shape; have hbx3 := hf3.2 _ _ HBX.out HNe2.out; obtain ⟨x0, x1, x2⟩ := three_cells hbx3; have hz3 := hf3.2 _ _ ((Below.heap_alloc W2 _ _ hzl2).trans HZ2.out) HNe.out; have hzl3 := (Array.getElem?_eq_some_iff.1 hz3).1; have HZ3 := Lib.hid hz3; have HS3 := Lib.hid hs3; have HF3 := Lib.hid hf3; have HG3 := Lib.hid hg3; have HUt := Lib.hid ((HU.out.mono (ok' := fun k => w.heap.size < k) fun k hk => Nat.lt_of_lt_of_le hzl hk).keep (fun k cs fz _ hh => ((keepT_alloc W2 _).trans (KeepT.of_mk hf3 (HS2.out.below ((Below.refl _ W2).alloc (Nat.le_refl _) _)))) k cs fz hh)); have hu3' : TyIn (fun k => w.heap.size < k) W3 t3 (.slice a3 t3.kids.length n3) := hu3.mono (fun k hk => by have h9 : (W2.alloc (.cells #[.int .i64 t.kind, .string t.name, .slice a2 t.kids.length n2] 26)).heap.size ≤ k := hk; simp at h9; omega); have HU3 := Lib.hid hu3'; clear hz3 hs3 hf3 hu3 hu3' hg3 hbx3; simp only [tyV])
      | (go_at_call 19; refine (fun2_in t t3 _ _ _ _ _ (fun k hk => Nat.lt_of_lt_of_le hzl3 hk) HUt.out HU3.out).mono ?_; rintro e W4 ⟨⟨u4, rfl, hu4⟩, hb4⟩; obtain ⟨a4, n4, rfl⟩ := hu4.shape; have HBT := Lib.hid hb4; have hz4 : W4.heap[w.heap.size]? = some (.cells #[.int .i64 0, .string ⟨#[]⟩, .slice none 0 0] 26 (0, 0)) := (HBT.out.block _ hzl3).trans HZ3.out; obtain ⟨d0, d1, d2⟩ := three_cells hz4; have g0 := Lib.frozen_of_heap hz4 0; have g1 := Lib.frozen_of_heap hz4 1; have g2 := Lib.frozen_of_heap hz4 2; have HZ4 := Lib.hid hz4; have HU4 := Lib.hid hu4; clear hz4 hu4 hb4; simp only [tyV, show (T.fn t t3).kind = 3 from rfl, show (T.fn t t3).name = ⟨#[]⟩ from rfl, show (T.fn t t3).kids.length = 2 from rfl]))
    all_goals go_wp2
    all_goals exact bodyPost_ret (v := .agg #[.int .i64 3, .string ⟨#[]⟩, .slice a4 2 n4]) (by have hc := set3_cells HZ4.out (.int .i64 3) (.string ⟨#[]⟩) (.slice a4 2 n4); simp [results, Try.results7, go_sem, hc.1, hc.2.1, hc.2.2]) rfl (made_fn (t := T.fn t t3) (HS3.out.below HBT.out) (by omega) (((H2.out.trans HF2.out).trans ((MkFr.of_below ((Below.refl _ W2).alloc (Nat.le_refl _) _) (Nat.le_trans HS2.out.1.1 (Nat.le_of_lt HS2.out.lt))).trans HF3.out)).trans (MkFr.of_below HBT.out (Nat.le_trans HS3.out.1.1 (Nat.le_of_lt HS3.out.lt)))) hp HZ4.out HU4.out (good_fn HG.out HG3.out (Nat.le_refl _)))
  · go_wp2_with (go_at_call 7; refine (HI.out _ _ H1.out (by omega)).mono ?_)
    rintro e W2 ⟨⟨t, u, rfl, hg, hu⟩, ⟨k2, hk2, hs2⟩, hf2⟩
    obtain ⟨a2, n2, rfl⟩ := hu.shape
    have hz2 := hf2.2 _ _ HZ.out HNe.out
    have hzl2 := (Array.getElem?_eq_some_iff.1 hz2).1
    have HZ2 := Lib.hid hz2; have HU := Lib.hid hu; have HS2 := Lib.hid hs2; have HF2 := Lib.hid hf2; have HG := Lib.hid hg
    clear hz2 hu hs2 hf2 hg c0 c1 c2 f0 f1 f2
    simp only [tyV]
    go_wp2_with fail
    have hbx := alloc_new W2 (.cells #[.int .i64 t.kind, .string t.name, .slice a2 t.kids.length n2] 26)
    have HBX := Lib.hid hbx
    have hne2 : W2.heap.size ≠ p := by have := HS2.out.lt; omega
    have HNe2 := Lib.hid hne2
    clear hbx hne2
    go_region_with (first
      | (go_at_call 7; refine (HI2.out k2 _ ?hs ?hk).mono ?_; (case hs => exact SeqAt.drew (HS2.out.below ((Below.refl _ W2).alloc (Nat.le_refl _) _))); (case hk => omega); rintro e W3 ⟨⟨t3, u3, rfl, hg3, hu3⟩, ⟨k3, hk3, hs3⟩, hf3'⟩; have hf3 := MkFr.of_drew hf3'; clear hf3'; obtain ⟨a3, n3, rfl⟩ := hu3.shape; have hbx3 := hf3.2 _ _ HBX.out HNe2.out; obtain ⟨x0, x1, x2⟩ := three_cells hbx3; have hz3 := hf3.2 _ _ ((Below.heap_alloc W2 _ _ hzl2).trans HZ2.out) HNe.out; have hzl3 := (Array.getElem?_eq_some_iff.1 hz3).1; have HZ3 := Lib.hid hz3; have HS3 := Lib.hid hs3; have HF3 := Lib.hid hf3; have HG3 := Lib.hid hg3; have HUt := Lib.hid ((HU.out.mono (ok' := fun k => w.heap.size < k) fun k hk => Nat.lt_of_lt_of_le hzl hk).keep (fun k cs fz _ hh => ((keepT_alloc W2 _).trans (KeepT.of_mk hf3 (HS2.out.below ((Below.refl _ W2).alloc (Nat.le_refl _) _)))) k cs fz hh)); have hu3' : TyIn (fun k => w.heap.size < k) W3 t3 (.slice a3 t3.kids.length n3) := hu3.mono (fun k hk => by have h9 : (W2.alloc (.cells #[.int .i64 t.kind, .string t.name, .slice a2 t.kids.length n2] 26)).heap.size ≤ k := hk; simp at h9; omega); have HU3 := Lib.hid hu3'; clear hz3 hs3 hf3 hu3 hu3' hg3 hbx3; simp only [tyV])
      | (go_at_call 19; refine (fun2_in t t3 _ _ _ _ _ (fun k hk => Nat.lt_of_lt_of_le hzl3 hk) HUt.out HU3.out).mono ?_; rintro e W4 ⟨⟨u4, rfl, hu4⟩, hb4⟩; obtain ⟨a4, n4, rfl⟩ := hu4.shape; have HBT := Lib.hid hb4; have hz4 : W4.heap[w.heap.size]? = some (.cells #[.int .i64 0, .string ⟨#[]⟩, .slice none 0 0] 26 (0, 0)) := (HBT.out.block _ hzl3).trans HZ3.out; obtain ⟨d0, d1, d2⟩ := three_cells hz4; have g0 := Lib.frozen_of_heap hz4 0; have g1 := Lib.frozen_of_heap hz4 1; have g2 := Lib.frozen_of_heap hz4 2; have HZ4 := Lib.hid hz4; have HU4 := Lib.hid hu4; clear hz4 hu4 hb4; simp only [tyV, show (T.fn t t3).kind = 3 from rfl, show (T.fn t t3).name = ⟨#[]⟩ from rfl, show (T.fn t t3).kids.length = 2 from rfl]))
    all_goals go_wp2
    all_goals exact bodyPost_ret (v := .agg #[.int .i64 3, .string ⟨#[]⟩, .slice a4 2 n4]) (by have hc := set3_cells HZ4.out (.int .i64 3) (.string ⟨#[]⟩) (.slice a4 2 n4); simp [results, Try.results7, go_sem, hc.1, hc.2.1, hc.2.2]) rfl (made_fn (t := T.fn t t3) (HS3.out.below HBT.out) (by omega) (((H2.out.trans HF2.out).trans ((MkFr.of_below ((Below.refl _ W2).alloc (Nat.le_refl _) _) (Nat.le_trans HS2.out.1.1 (Nat.le_of_lt HS2.out.lt))).trans HF3.out)).trans (MkFr.of_below HBT.out (Nat.le_trans HS3.out.1.1 (Nat.le_of_lt HS3.out.lt)))) hp HZ4.out HU4.out (good_fn HG.out HG3.out (Nat.le_refl _)))
end Go.Proofs.Ythpphjkoiipkkaa
/- Types of depth three, of depth four, made of numbers. -/
namespace Go.Proofs.Ythpphjkoiipkkaa
open Go.RowKit

theorem make_n1 (B p : Nat) (a : Option Addr) (n c k : Nat) (w : World) (h : SeqAt B p a n c k w) (hk : k + 4 < 1152921504606846976) (hn : n < 1152921504606846976) :
    Calls Try.prog 7 #[.pointer (some ⟨p, 0, none⟩), .int .i64 1] w (MadeN B p a n c k 4 28 w) :=
  make_stepN 1 (by decide) (by decide) 2 14 (by decide) (by decide) B p a n c k w h hk hn (fun k w h hk => make_n0 B p a n c k w h (by omega) hn)
theorem make_n2 (B p : Nat) (a : Option Addr) (n c k : Nat) (w : World) (h : SeqAt B p a n c k w) (hk : k + 8 < 1152921504606846976) (hn : n < 1152921504606846976) :
    Calls Try.prog 7 #[.pointer (some ⟨p, 0, none⟩), .int .i64 2] w (MadeN B p a n c k 8 56 w) :=
  make_stepN 2 (by decide) (by decide) 4 28 (by decide) (by decide) B p a n c k w h hk hn (fun k w h hk => make_n1 B p a n c k w h hk hn)
theorem make_n3 (B p : Nat) (a : Option Addr) (n c k : Nat) (w : World) (h : SeqAt B p a n c k w) (hk : k + 16 < 1152921504606846976) (hn : n < 1152921504606846976) :
    Calls Try.prog 7 #[.pointer (some ⟨p, 0, none⟩), .int .i64 3] w (MadeN B p a n c k 16 112 w) :=
  make_stepN 3 (by decide) (by decide) 8 56 (by decide) (by decide) B p a n c k w h hk hn (fun k w h hk => make_n2 B p a n c k w h hk hn)
theorem make_n4 (B p : Nat) (a : Option Addr) (n c k : Nat) (w : World) (h : SeqAt B p a n c k w) (hk : k + 32 < 1152921504606846976) (hn : n < 1152921504606846976) :
    Calls Try.prog 7 #[.pointer (some ⟨p, 0, none⟩), .int .i64 4] w (MadeN B p a n c k 32 224 w) :=
  make_stepN 4 (by decide) (by decide) 16 112 (by decide) (by decide) B p a n c k w h hk hn (fun k w h hk => make_n3 B p a n c k w h hk hn)
end Go.Proofs.Ythpphjkoiipkkaa
