/- (Subst).Then: one after the other. -/
import Derived.Test.YtmbaolcdjgilpaaSbOthersR
import Derived.Test.YtmbaolcdjgilpaaSbPairs
import Derived.Deep.RegionLaw
namespace Go.Proofs.Ytmbaolcdjgilpaa
open Go.RowKit Go.Sort Go.Lib
attribute [local go_sem] Oper.semAt_some

theorem make_cap4 (N : Nat) (hn : N ≤ 1000000000) (w : World) :
    (Instr.makeSlice 28 (.int .i64 0) (.int .i64 (N : Int))).run Try.prog w = .ok (.slice (some ⟨w.heap.size, 0, none⟩) 0 N) (w.alloc (.cells (zeros4 N) 58)) := by
  obtain ⟨i, hi, hzz⟩ := Option.map_eq_some_iff.1 Try.infoPair
  simp only [Prod.mk.injEq] at hzz
  obtain ⟨hz, hs, hb⟩ := hzz
  have hr := run_make (P := Try.prog) w 28 58 i _ Try.underlying28 hi hz .i64 .i64 0 N (by omega) (by omega) (by rw [hb]; omega) (by omega)
  simp only [Int.toNat_natCast, hs, Int.toNat_zero] at hr
  exact hr
theorem setCells_set4 (w : World) (g i : Nat) (x : PR) : w.setCells g (0 + i * 4) (encP x) = set4 w g i x := by
  rw [Nat.zero_add]; rfl
/-- The list that Then gathers. -/
noncomputable def thenL (ls lu : List PR) : List PR := ls.map (fun x => { x with t := app lu x.t }) ++ lu
theorem ty_append (n : ByteArray) (d e : List PR) : ty n (d ++ e) = if (lk n d).isSome then ty n d else ty n e := by
  unfold ty
  rw [lk_append]
  cases lk n d <;> rfl
theorem lk_map (f : T → T) (n : ByteArray) : ∀ d : List PR, lk n (d.map fun x => { x with t := f x.t }) = (lk n d).map fun x => { x with t := f x.t }
  | [] => rfl
  | x :: d => by
    rw [List.map_cons, lk_cons, lk_cons]
    by_cases h : x.n = n
    · rw [if_pos h, if_pos h]; rfl
    · rw [if_neg h, if_neg h]; exact lk_map f n d
theorem then_app (ls lu : List PR) : ∀ t, app (thenL ls lu) t = app lu (app ls t) := by
  intro t
  refine T.by_kids (P := fun t => app (thenL ls lu) t = app lu (app ls t)) (fun t H => ?_) t
  cases t with
  | var n =>
    rw [app_v, app_v, thenL, ty_append, lk_map]
    cases h : lk n ls with
    | none =>
      have e : ty n ls = .var n := by unfold ty; rw [h]; rfl
      rw [e]; rfl
    | some x =>
      have e : ty n ls = x.t := by unfold ty; rw [h]; rfl
      rw [e]
      unfold ty
      rw [lk_map, h]; rfl
  | con n l =>
    rw [app, app, app, apps_map, apps_map, apps_map, List.map_map]
    congr 1
    exact List.map_congr_left fun k hk => H k hk
  | fn a b => rw [app, app, app, H a (by simp [T.kids]), H b (by simp [T.kids])]
  | all n a => rw [app, app, app, H a (by simp [T.kids])]

theorem RowK.spare {g k : Nat} {l : List PR} {w : World} (h : RowK g k l w) {i : Nat} (hi : i < k) : ∀ j, j < 4 → (w.cell? ⟨g, 0 + i * 4 + j, none⟩).isSome = true ∧ w.frozen? ⟨g, 0 + i * 4 + j, none⟩ = false := by
  obtain ⟨x, y, z, u, h0, h1, h2, h3⟩ := h.cells hi
  intro j hj
  rw [Nat.zero_add]
  refine ⟨?_, h.row.free _⟩
  match j, hj with
  | 0, _ => rw [Nat.add_zero, h0]; rfl
  | 1, _ => rw [h1]; rfl
  | 2, _ => rw [h2]; rfl
  | 3, _ => rw [h3]; rfl
  | n + 4, hj => omega

theorem cellsP_get (d : List PR) (j : Nat) (hj : j < d.length * 4) : (cellsP d)[j]? = (encP (d.getD (j / 4) noP))[j % 4]? := by
  have := cellsP_at d (j / 4) (j % 4) (by omega) (by omega)
  rwa [show j / 4 * 4 + j % 4 = j by omega] at this
theorem enc_get {x : PR} {j : Nat} (hj : j < 4) : (encP x)[j]? = some (if j = 0 then .string x.n else if j = 1 then .int .i64 x.t.kind else if j = 2 then .string x.t.name else .slice x.a x.t.kids.length x.c) := by
  match j, hj with
  | 0, _ => rfl
  | 1, _ => rfl
  | 2, _ => rfl
  | 3, _ => rfl
  | n + 4, hj => omega
theorem row_cells {g : Nat} {l : List PR} {cs : Array Value} (h : ∀ i, i < l.length → cs[i * 4]? = some (.string (l.getD i noP).n) ∧ cs[i * 4 + 1]? = some (.int .i64 (l.getD i noP).t.kind) ∧ cs[i * 4 + 2]? = some (.string (l.getD i noP).t.name) ∧ cs[i * 4 + 3]? = some (.slice (l.getD i noP).a (l.getD i noP).t.kids.length (l.getD i noP).c)) (_ : g = g) (j : Nat) (hj : j < l.length * 4) : cs[j]? = (cellsP l)[j]? := by
  rw [cellsP_get l j hj, enc_get (by omega)]
  obtain ⟨a0, a1, a2, a3⟩ := h (j / 4) (by omega)
  have hc : j % 4 = 0 ∨ j % 4 = 1 ∨ j % 4 = 2 ∨ j % 4 = 3 := by omega
  rcases hc with e | e | e | e
  · rw [e, if_pos rfl, ← a0, show j = j / 4 * 4 by omega]; congr 1; omega
  · rw [e, if_neg (by decide), if_pos rfl, ← a1]; congr 1; omega
  · rw [e, if_neg (by decide), if_neg (by decide), if_pos rfl, ← a2]; congr 1; omega
  · rw [e, if_neg (by decide), if_neg (by decide), if_neg (by decide), ← a3]; congr 1; omega
theorem RowK.owns {g k base : Nat} {l : List PR} {w : World} (h : RowK g k l w) (hb : base ≤ g) (hk : k ≤ 1000000) : w.ownsRow base 58 4 (.slice (some ⟨g, 0, none⟩) l.length k) l.length (cellsP l) := by
  obtain ⟨cs, h1, h2, h3, h4⟩ := h
  refine ⟨cellsP_len l, .inr ⟨g, k, cs, rfl, hb, h1, h3, by unfold maxLen; omega, h2, ?_⟩⟩
  apply List.ext_getElem?
  intro j
  by_cases hj : j < l.length * 4
  · rw [List.getElem?_take_of_lt hj, Array.getElem?_toList, row_cells (g := g) h4 rfl j hj]
  · rw [List.getElem?_eq_none (by simp; omega), List.getElem?_eq_none (by rw [cellsP_len]; omega)]
theorem RowP.news {g : Nat} {l : List PR} {w : World} (h : RowP g l w) : ∀ j u, (cellsP l)[j]? = some u → w.cell? ((⟨g, 0, none⟩ : Addr).add j) = some u := by
  intro j u hu
  have hj : j < l.length * 4 := by have := (List.getElem?_eq_some_iff.1 hu).1; rwa [cellsP_len] at this
  have hadd : (⟨g, 0, none⟩ : Addr).add j = ⟨g, j, none⟩ := by unfold Addr.add; split <;> simp_all
  obtain ⟨cs, h1, _, h3⟩ := h
  rw [hadd, Lib.cell_of_heap h1, row_cells (g := g) h3 rfl j hj, hu]
theorem cellsP_one (l : List PR) : ∀ u ∈ cellsP l, u.oneCell' = true := by
  intro u hu
  obtain ⟨x, _, hx⟩ := List.mem_flatMap.1 hu
  exact encP_one x u hx
theorem cellsP_append (l m : List PR) : cellsP l ++ cellsP m = cellsP (l ++ m) := by simp [cellsP]
theorem row_of_owns {W : World} {base g cap : Nat} {d : List PR} (h : W.ownsRow base 58 4 (.slice (some ⟨g, 0, none⟩) d.length cap) d.length (cellsP d)) : RowP g d W := by
  rcases h.2 with ⟨e, _⟩ | ⟨g', cap', cur, e, _, hg, hc, hm, hcs, htk⟩
  · cases e
  · cases e
    refine ⟨cur, hg, by rw [hcs]; exact Nat.mul_le_mul_right 4 hc, fun i hi => ?_⟩
    have cell : ∀ j, j < 4 → cur[i * 4 + j]? = (encP (d.getD i noP))[j]? := fun j hj => by
      have hlt : i * 4 + j < d.length * 4 := by omega
      rw [← cellsP_at d i j hi hj, ← htk, List.getElem?_take, if_pos hlt, Array.getElem?_toList]
    exact ⟨(cell 0 (by omega)).trans rfl, (cell 1 (by omega)).trans rfl, (cell 2 (by omega)).trans rfl, (cell 3 (by omega)).trans rfl⟩
theorem SubAt.setS {v x : Value} {d : List PR} {w : World} {b : Nat} {cs : Array Value} {fz : Nat × Nat} (h : SubAt v d w) (hb : w.heap[b]? = some (.cells cs 39 fz)) : SubAt v d (w.setCell ⟨b, 0, none⟩ x) := by
  obtain ⟨⟨h1, h2⟩, h3⟩ := h
  refine ⟨⟨?_, h2⟩, h3.keep ?_⟩
  · rcases h1 with h1 | ⟨g, cap, e, hc, hr⟩
    · exact .inl h1
    · refine .inr ⟨g, cap, e, hc, hr.same (Below.heap_setCell _ ⟨b, 0, none⟩ _ _ ?_)⟩
      show g ≠ b
      rintro rfl
      obtain ⟨cs', hr, _⟩ := hr
      rw [hb] at hr
      simp at hr
  · intro k cs' fz' hk
    refine (Below.heap_setCell _ ⟨b, 0, none⟩ _ k ?_).trans hk
    show k ≠ b
    rintro rfl
    rw [hb] at hk
    simp at hk
theorem Made.copy {d d' l : List PR} (h : Made d l) (k : Copy d d') : Made d' l :=
  ⟨fun x hx => by obtain ⟨y, hy, e1, e2⟩ := h.sub x hx; obtain ⟨z, hz, f1, f2⟩ := k.mem y hy; exact ⟨z, hz, e1.trans f1, e2.trans f2⟩, by rw [← k.1]; exact h.len, fun n => by rw [h.same n]; unfold ty; rw [k.lk]⟩
theorem copy_then {q ls lu : List PR} (h1 : q.length = ls.length) (h2 : ∀ j, j < ls.length → (q.getD j noP).n = (ls.getD j noP).n ∧ (q.getD j noP).t = app lu (ls.getD j noP).t) : Copy (q ++ lu) (thenL ls lu) := by
  refine ⟨by simp [thenL, h1], fun i hi => ?_⟩
  unfold thenL
  by_cases hlt : i < ls.length
  · have e1 : (q ++ lu).getD i noP = q.getD i noP := by simp [List.getD, List.getElem?_append_left (show i < q.length by omega)]
    have e2 : (ls.map (fun x : PR => { x with t := app lu x.t }) ++ lu).getD i noP = { ls.getD i noP with t := app lu (ls.getD i noP).t } := by
      simp [List.getD, List.getElem?_append_left (show i < (ls.map (fun x : PR => { x with t := app lu x.t })).length by simpa using hlt), hlt]
    rw [e1, e2]; exact h2 i hlt
  · have e1 : (q ++ lu).getD i noP = lu.getD (i - ls.length) noP := by simp [List.getD, List.getElem?_append_right (show q.length ≤ i by omega), h1]
    have e2 : (ls.map (fun x : PR => { x with t := app lu x.t }) ++ lu).getD i noP = lu.getD (i - ls.length) noP := by
      simp [List.getD, List.getElem?_append_right (show (ls.map (fun x : PR => { x with t := app lu x.t })).length ≤ i by simp; omega)]
    rw [e1, e2]; exact ⟨rfl, rfl⟩

set_option maxHeartbeats 8000000 in
theorem then_any (sv uv : Value) (ls lu : List PR) (w : World) (hs : SubAt sv ls w) (hu : SubAt uv lu w) (hl : ls.length + lu.length < 20) (hzs : SizedAll ls) (hzu : SizedAll lu) (hzt : ∀ x ∈ ls, tsize (app lu x.t) ≤ 1000000000) :
    Calls Try.prog 17 #[.agg #[sv], .agg #[uv]] w fun e w' => (∃ v l, e = .returned (.agg #[v]) ∧ SubAt v l w' ∧ Made (thenL ls lu) l) ∧ Below w.heap.size w w' := by
  obtain ⟨sa, sc, rfl⟩ := hs.shape
  obtain ⟨ua, uc, rfl⟩ := hu.shape
  obtain ⟨N, hN⟩ : ∃ N, ls.length + lu.length = N := ⟨_, rfl⟩
  have hmk := make_cap4 N (by omega)
  have hNz : (ls.length : Int) + (lu.length : Int) = (N : Int) := by omega
  have HS := Lib.hid hs; have HU := Lib.hid hu
  clear hs hu
  go_enter Try.func17, Try.ntmps17
  go_wp2
  go_loopw [5, 19] (fun vl vi wr => ∃ (i : Nat) (q : List PR), i ≤ ls.length ∧ vi = .int .i64 i ∧ vl = .slice (some ⟨w.heap.size + 1 + 1 + 1, 0, none⟩) i N ∧ Hid (q.length = i ∧ ∀ j, j < i → (q.getD j noP).n = (ls.getD j noP).n ∧ (q.getD j noP).t = app lu (ls.getD j noP).t) ∧ Hid (RowK (w.heap.size + 1 + 1 + 1) N q wr) ∧ Hid (Typ q wr) ∧ Hid (Below w.heap.size w wr) ∧
    wr.heap[w.heap.size + 1]? = some (.cells #[.slice ua lu.length uc] 39 (0, 0)) ∧ wr.heap[w.heap.size + 1 + 1]? = some (.cells #[.slice none 0 0] 39 (0, 0))) (fun _ vi _ => ls.length - (intOf vi).toNat)
  case atStart =>
    obtain ⟨n1, n2, n3⟩ := new_four w (.cells #[.slice sa ls.length sc] 39) (.cells #[.slice ua lu.length uc] 39) (.cells #[.slice none 0 0] 39) (.cells (zeros4 N) 58)
    have n4 := alloc_new (((w.alloc (.cells #[.slice sa ls.length sc] 39)).alloc (.cells #[.slice ua lu.length uc] 39)).alloc (.cells #[.slice none 0 0] 39)) (.cells (zeros4 N) 58)
    exact ⟨0, [], Nat.zero_le _, rfl, rfl, Lib.hid ⟨rfl, fun j hj => absurd hj (Nat.not_lt_zero _)⟩, Lib.hid (RowK.start _ _ _ (by simpa using n4)), Lib.hid (fun x hx => by cases hx), Lib.hid (below_four w _ _ _ _), n2, n3⟩
  case round =>
    obtain ⟨i, q, hi, rfl, rfl, hL, hRow, hTy, hB, hb1, hb2⟩ := hrel
    have lG := hRow.out.lt
    by_cases hlt : i < ls.length
    · obtain ⟨g, cap, hsa, hcap, hrs⟩ : ∃ g cap, sa = some ⟨g, 0, none⟩ ∧ ls.length ≤ cap ∧ RowP g ls w := by
        rcases HS.out.1.1 with ⟨h0, _⟩ | ⟨g, cap, e, hc, hr⟩
        · rw [h0] at hlt; exact absurd hlt (Nat.not_lt_zero _)
        · cases e; exact ⟨g, _, rfl, hc, hr⟩
      subst hsa
      have hrs' := hrs.same (hB.out.block g hrs.lt)
      obtain ⟨x0, x1, x2, x3⟩ := hrs'.cells hlt
      have lg := hrs'.lt
      have hmem := getD_mem hlt
      have hax := (HS.out.2 _ hmem).keep (KeepT.of_below hB.out)
      have HUr := Lib.hid (show SubAt (.slice ua lu.length uc) lu wr from HU.out.below hB.out)
      have HA := Lib.hid (fun (W : World) (h1 : SubAt (.slice ua lu.length uc) lu W) (h2 : KeepT wr W) => apply_any (d := lu) (t := (ls.getD i noP).t) (w := W) (by omega) hzu (hzs _ hmem) h1 (hax.keep h2))
      have HTx : Hid (tsize (app lu (ls.getD i noP).t) ≤ 1000000000) := Lib.hid (hzt _ hmem)
      have HL := Lib.hid (fun (x' : PR) (h1 : x'.n = (ls.getD i noP).n) (h2 : x'.t = app lu (ls.getD i noP).t) => (show (q ++ [x']).length = i + 1 ∧ ∀ j, j < i + 1 → ((q ++ [x']).getD j noP).n = (ls.getD j noP).n ∧ ((q ++ [x']).getD j noP).t = app lu (ls.getD j noP).t from
        ⟨by simp [hL.out.1], fun j hj => by
          by_cases e : j = i
          · subst e
            have e2 : (q ++ [x']).getD j noP = x' := by simp [List.getD, ← hL.out.1]
            rw [e2]; exact ⟨h1, h2⟩
          · have hj' : j < q.length := by rw [hL.out.1]; omega
            have e2 : (q ++ [x']).getD j noP = q.getD j noP := by simp [List.getD, List.getElem?_append_left hj']
            rw [e2]; exact hL.out.2 j (by omega)⟩))
      clear hax hrs hrs' hmem
      unfold ResT at HA
      generalize app lu (ls.getD i noP).t = tu at HA HTx HL
      generalize ls.getD i noP = x at x0 x1 x2 x3 HA HL
      simp only [tyV] at HA
      have hiz : (i : Int) < (ls.length : Int) := by omega
      have hll := hL.out.1
      have Hb1 := Lib.hid hb1; have Hb2 := Lib.hid hb2
      have l1 := (Array.getElem?_eq_some_iff.1 hb1).1
      clear hb1 hb2 hmk HS
      obtain ⟨i0, hii, hz0, hz1, hz2⟩ := info_parts Try.infoPair
      go_wp2
      have hbx := alloc_new wr (.cells #[.string x.n, .int .i64 x.t.kind, .string x.t.name, .slice x.a x.t.kids.length x.c] 58)
      have hbl := (Below.refl _ wr).alloc (Nat.le_refl _) (.cells #[.string x.n, .int .i64 x.t.kind, .string x.t.name, .slice x.a x.t.kids.length x.c] 58)
      obtain ⟨V, hV⟩ : ∃ V, wr.alloc (.cells #[.string x.n, .int .i64 x.t.kind, .string x.t.name, .slice x.a x.t.kids.length x.c] 58) = V := ⟨_, rfl⟩
      rw [hV] at hbx hbl ⊢
      clear hV x0 x1 x2 x3
      obtain ⟨q0, q1, q2, q3⟩ := four_cells hbx
      have y1 : V.cell? ⟨w.heap.size + 1, 0, none⟩ = some (.slice ua lu.length uc) := by rw [Lib.cell_of_heap ((hbl.block _ l1).trans Hb1.out)]; rfl
      have HbV := Lib.hid hbl
      have Hbx := Lib.hid hbx
      have lV := (Array.getElem?_eq_some_iff.1 hbx).1
      clear hbx hbl
      go_region_law (first
          | (refine run_bare rfl ?_; go_simp; go_at_call 16; refine (HA.out V.drew (HUr.out.below HbV.out.drew) (KeepT.of_below HbV.out.drew)).mono ?_; rintro e w4 ⟨⟨a4, c4, rfl, hin⟩, hb4⟩; have HI4 := Lib.hid hin.tys; have HB4 : Hid (Below wr.heap.size wr w4) := Lib.hid (HbV.out.drew.trans (hb4.mono HbV.out.size)); have p0 := (four_cells ((hb4.block _ lV).trans Hbx.out)).1; have HR4 := Lib.hid (hRow.out.below HB4.out); clear hin hb4)
          | (refine step_append_room (by rfl) _ _ _ (by rfl) 58 i0 4 Try.underlying28 hii hz1 (w.heap.size + 1 + 1 + 1) 0 i N (by rfl) ⟨w4.heap.size, 0, none⟩ 1 1 [.string x.n, .int .i64 tu.kind, .string tu.name, .slice a4 tu.kids.length c4] (by rfl) rfl (cell_new4 _ _ _ _ _ _) (by simp [Value.oneCell']) (by omega) ((HR4.out.below (below_a w4 _)).spare (by omega)) ?_))
      all_goals
        go_wp2
        rw [show (w4.alloc (.cells #[.string x.n, .int .i64 tu.kind, .string tu.name, .slice a4 tu.kids.length c4] 58)).setCells (w.heap.size + 1 + 1 + 1) (i * 4) [.string x.n, .int .i64 tu.kind, .string tu.name, .slice a4 tu.kids.length c4] = set4 (w4.alloc (.cells #[.string x.n, .int .i64 tu.kind, .string tu.name, .slice a4 tu.kids.length c4] 58)) (w.heap.size + 1 + 1 + 1) i (⟨x.n, tu, a4, c4⟩ : PR) from rfl]
        have hba := HB4.out.trans ((below_a w4 (.cells #[.string x.n, .int .i64 tu.kind, .string tu.name, .slice a4 tu.kids.length c4] 58)).mono HB4.out.size)
        have hra := HR4.out.below (below_a w4 (.cells #[.string x.n, .int .i64 tu.kind, .string tu.name, .slice a4 tu.kids.length c4] 58))
        have hka := keepT_alloc w4 (.cells #[.string x.n, .int .i64 tu.kind, .string tu.name, .slice a4 tu.kids.length c4] 58)
        generalize w4.alloc (.cells #[.string x.n, .int .i64 tu.kind, .string tu.name, .slice a4 tu.kids.length c4] 58) = W5 at hba hra hka ⊢
        have HF := Lib.hid ((Fr.of_below (g := w.heap.size + 1 + 1 + 1) hba).trans (Fr.set4 (w.heap.size + 1 + 1 + 1) i W5 (⟨x.n, tu, a4, c4⟩ : PR)))
        have hp := hra.push (by omega) (⟨x.n, tu, a4, c4⟩ : PR)
        have HKT := Lib.hid (hka.trans ((Fr.set4 (w.heap.size + 1 + 1 + 1) i W5 (⟨x.n, tu, a4, c4⟩ : PR)).keepT hra.row))
        rw [hll] at hp
        generalize set4 W5 (w.heap.size + 1 + 1 + 1) i (⟨x.n, tu, a4, c4⟩ : PR) = Z at hp HF HKT ⊢
        have HP := Lib.hid hp
        clear hp hba hra hka
        go_roundw
        case rel =>
          refine ⟨i + 1, q ++ [⟨x.n, tu, a4, c4⟩], by omega, by go_num, rfl, Lib.hid (HL.out _ rfl rfl), HP, Lib.hid ?_, Lib.hid (hB.out.trans (HF.out.below (by omega) hB.out.size)), (HF.out.2 _ (by omega) (by omega)).trans Hb1.out, (HF.out.2 _ (by omega) (by omega)).trans Hb2.out⟩
          intro y hy
          rcases List.mem_append.1 hy with hy | hy
          · exact (hTy.out y hy).keep ((KeepT.of_below HB4.out).trans HKT.out)
          · obtain rfl := List.mem_singleton.1 hy
            exact HI4.out.keep HKT.out
        case measure => simp [intOf]; omega
    · obtain rfl : i = ls.length := by omega
      obtain ⟨hql, hq⟩ := hL.out
      have HCp := Lib.hid (copy_then hql hq)
      have HSzq : Hid (SizedAll (q ++ lu)) := Lib.hid fun x hx => by
        rcases List.mem_append.1 hx with hx | hx
        · obtain ⟨j, hj, rfl⟩ := List.mem_iff_getElem.1 hx
          have e := (hq j (by omega)).2
          rw [show q.getD j noP = q[j] by simp [List.getD, hj]] at e
          rw [e]; exact hzt _ (getD_mem (by omega))
        · exact hzu x hx
      have hown := hRow.out.owns (base := w.heap.size) (by omega) (by omega)
      rw [hql] at hown
      have HO := Lib.hid hown
      have HUw := Lib.hid (HU.out.below hB.out)
      have hnone : ua = none → lu.length = 0 ∧ uc = 0 := fun e => by
        rcases HU.out.1.1 with ⟨h0, a, c, e2, hc⟩ | ⟨g, cap, e2, _⟩
        · injection e2 with f1 _ f3
          exact ⟨by rw [h0]; rfl, by rw [f3]; exact hc (f1.symm.trans e)⟩
        · injection e2 with f1
          rw [e] at f1; cases f1
      have hnews : ∀ ad, ua = some ad → ∀ j u, (cellsP lu)[j]? = some u → wr.cell? (ad.add j) = some u := fun ad e => by
        rcases HUw.out.1.1 with ⟨h0, a, c, e2, hc⟩ | ⟨g, cap, e2, _, hr⟩
        · intro j u hu; rw [h0] at hu; simp [cellsP] at hu
        · injection e2 with f1
          rw [e] at f1; cases f1; exact hr.news
      have HNw := Lib.hid hnews
      have y1 : wr.cell? ⟨w.heap.size + 1, 0, none⟩ = some (.slice ua lu.length uc) := by rw [Lib.cell_of_heap hb1]; rfl
      have l2 := (Array.getElem?_eq_some_iff.1 hb2).1
      have Hb2 := Lib.hid hb2
      obtain ⟨i0, hii, hz0, hz1, hz2⟩ := info_parts Try.infoPair
      clear hL hq hown hb1 hb2 hmk hnews HS
      go_wp2_with (at_builtin; refine wpList_append_fits_any _ rfl _ _ 28 rfl w.heap.size 58 i0 4 Try.underlying28 hii hz1 (w.heap.size + 1 + 1 + 1) ls.length N (cellsP q) rfl HO.out ua lu.length uc (cellsP lu) rfl (cellsP_len lu) hnone HNw.out (cellsP_one lu) (by omega) ?_)
      intro W2 hown2 hgrow2
      rw [cellsP_append] at hown2
      have hql2 : (q ++ lu).length = N := by simp [hql]; omega
      have hlN : ls.length + lu.length = N := hN
      try rw [hlN] at hown2
      rw [← hql2] at hown2
      have hrow2 := row_of_owns hown2
      have hkt : KeepT wr W2 := KeepT.grown (v := .slice (some ⟨w.heap.size + 1 + 1 + 1, 0, none⟩) ls.length N) hgrow2 HO.out (by decide)
      have hty2 : Typ (q ++ lu) W2 := fun x hx => by
        rcases List.mem_append.1 hx with hx | hx
        · exact (hTy.out x hx).keep hkt
        · exact (HUw.out.2 x hx).keep hkt
      have HG := Lib.hid (gather_all (w.heap.size + 1 + 1 + 1) N (q ++ lu) W2 hrow2 hty2 (fun x hx => fits_small (HSzq.out x hx)) (by omega) (by omega))
      rw [hql2] at HG
      have b2 := (hgrow2.block (w.heap.size + 1 + 1) l2 (by simp)).trans Hb2.out
      have HB2 := Lib.hid b2
      have HBel := Lib.hid (hB.out.grown hgrow2 (by have := hB.out.size; omega) (fun j hj => by cases hj; omega))
      clear hown2 hgrow2 hrow2 hkt hty2 b2 y1 hnone HNw HO HUw HU
      go_wp2_with (go_at_call 29; refine HG.out.mono ?_)
      rintro e w3 ⟨⟨l, rfl, hs3, hg3⟩, hf3⟩
      have b3 := (hf3.2 _ (Array.getElem?_eq_some_iff.1 HB2.out).1 (by omega)).trans HB2.out
      have z0 : w3.cell? ⟨w.heap.size + 1 + 1, 0, none⟩ = some (.slice none 0 0) := by rw [Lib.cell_of_heap b3]; rfl
      have z1 := Lib.frozen_of_heap b3 0
      have HB3 := Lib.hid b3; have HS3 := Lib.hid hs3; have HG3 := Lib.hid hg3
      have HF3 := Lib.hid (HBel.out.trans (hf3.below (N := w.heap.size) (by omega) HBel.out.size))
      clear b3 hs3 hg3 hf3 HG
      go_wp2
      have hs := blk_set (o := 0) HB3.out (.slice (some ⟨w.heap.size + 1 + 1 + 1, 0, none⟩) l.length N)
      have hc0 : (w3.setCell ⟨w.heap.size + 1 + 1, 0, none⟩ (.slice (some ⟨w.heap.size + 1 + 1 + 1, 0, none⟩) l.length N)).cell? ⟨w.heap.size + 1 + 1, 0, none⟩ = some (.slice (some ⟨w.heap.size + 1 + 1 + 1, 0, none⟩) l.length N) := by rw [Lib.cell_of_heap hs]; rfl
      exact bodyPost_ret (v := .agg #[.slice (some ⟨w.heap.size + 1 + 1 + 1, 0, none⟩) l.length N]) (by simp [results, Try.results17, go_sem, hc0]) rfl ⟨⟨_, l, rfl, HS3.out.setS HB3.out, (HG3.out.made (Copy.refl l)).copy HCp.out⟩, HF3.out.setCell (p := ⟨w.heap.size + 1 + 1, 0, none⟩) (by show w.heap.size ≤ w.heap.size + 1 + 1; omega) _⟩
end Go.Proofs.Ytmbaolcdjgilpaa
