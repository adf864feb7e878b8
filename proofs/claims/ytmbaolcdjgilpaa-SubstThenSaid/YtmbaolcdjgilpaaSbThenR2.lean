/- SubstThen: its last statement, a region of 9 operations that draws its order, by an invariant. (Made by a program.) -/
import Derived.Test.YtmbaolcdjgilpaaSbThenA
namespace Go.Proofs.Ytmbaolcdjgilpaa
open Go.RowKit Go.Sort Go.Lib
attribute [local go_sem] Oper.semAt_some

noncomputable def thbOps : Array Oper := regionIn 16 (Try.f5.body.getD .skip)
def thbFr (b : Nat → Value) (d : List Deferred) (x : Nat → Value) : Act := { tmps := #[b 0, b 1, b 2, b 3, b 4, b 5, b 6, b 7, b 8, b 9, b 10, b 11, b 12, b 13, b 14, b 15, b 16, x 7, b 18, b 19, b 20, b 21, b 22, b 23, b 24, b 25, b 26, b 27, b 28, b 29, b 30, b 31, b 32, b 33, b 34, b 35, b 36, b 37, b 38, b 39, b 40, b 41, b 42, b 43, b 44, b 45, b 46, b 47, b 48, b 49, b 50, b 51, b 52, b 53, b 54, b 55, b 56, b 57, x 0, x 1, x 2, x 3, x 4, x 5, x 6, b 65, b 66, b 67, b 68, b 69, b 70, b 71, b 72, b 73, b 74, b 75, b 76, b 77, b 78, b 79, b 80, b 81, b 82, b 83, b 84, b 85, b 86, b 87, b 88, b 89, b 90, b 91, b 92, b 93, b 94, b 95, b 96, b 97, b 98, b 99, b 100, b 101, b 102, b 103], defers := d }

def thbVals (w : World) (t : T) (pa : Option Addr) (ca : Nat) (sx sy sz : Value) (lx ly lz : List PR) (i : Nat) (v : Value) (V : World) : Prop :=
  match i with
  | 0 => v = .agg #[sx]
  | 1 => v = .agg #[sy]
  | 2 => v = .agg #[sz]
  | 3 => ∃ zv zl, v = .agg #[zv] ∧ (SubAt zv zl V ∧ Sb 3136 8 (fun t => app lz (app ly t)) zl)
  | 4 => ∃ zv zl, v = .agg #[zv] ∧ (SubAt zv zl V ∧ Sb 175616 12 (fun t => app lz (app ly (app lx t))) zl)
  | 5 => v = .agg #[.int .i64 (t).kind, .string (t).name, .slice pa (t).kids.length ca]
  | 6 => ∃ za zc, v = .agg #[.int .i64 (app lz (app ly (app lx t))).kind, .string (app lz (app ly (app lx t))).name, .slice za (app lz (app ly (app lx t))).kids.length zc] ∧ TysAt V (.slice za (app lz (app ly (app lx t))).kids.length zc) (app lz (app ly (app lx t))).kids
  | 7 => ∃ zk, v = .pointer (some ⟨zk, 0, none⟩) ∧ (w.heap.size ≤ zk ∧ V.heap[zk]? = some zeroT)
  | _ => True

theorem thbVals_keep {w : World} {t : T} {pa : Option Addr} {ca : Nat} {sx sy sz : Value} {lx ly lz : List PR} (i : Nat) (v : Value) (V Y : World) (h : thbVals w t pa ca sx sy sz lx ly lz i v V) (hb : Below V.heap.size V Y) : thbVals w t pa ca sx sy sz lx ly lz i v Y := by
  unfold thbVals at *
  split at h <;> first
    | exact h
    | (obtain ⟨zv, zl, e, h⟩ := h; exact ⟨zv, zl, e, ⟨h.1.below hb, h.2⟩⟩)
    | (obtain ⟨za, zc, e, h⟩ := h; exact ⟨za, zc, e, h.keep (KeepT.of_below hb)⟩)
    | (obtain ⟨zk, e, h⟩ := h; exact ⟨zk, e, ⟨h.1, (hb.block _ (Array.getElem?_eq_some_iff.1 h.2).1).trans h.2⟩⟩)

theorem thb_size : thbOps.size = 9 := by kernel_rfl
theorem thb_cov : covered thbOps 8 = true := by kernel_rfl
set_option linter.unusedSimpArgs false in
set_option maxRecDepth 100000 in
set_option maxHeartbeats 8000000 in
theorem thb_region {w : World} {b11 b12 b13 b14 b15 : Nat} {t : T} {pa : Option Addr} {ca : Nat} {sx sy sz : Value} {lx ly lz : List PR} {b16 : Nat} {p1 : Option Addr} {c1 : Nat} {b : Nat → Value} {d : List Deferred}
    (h11 : b 11 = .pointer (some ⟨b11, 0, none⟩)) (h12 : b 12 = .pointer (some ⟨b12, 0, none⟩)) (h13 : b 13 = .pointer (some ⟨b13, 0, none⟩)) (h14 : b 14 = .pointer (some ⟨b14, 0, none⟩))
    (HC3 : ∀ V, SS w b11 b12 b13 b14 b15 t pa ca sx sy sz lx ly lz V ∧ BoxT b16 (app lz (app ly (app lx t))) p1 c1 V → Calls Try.prog 17 #[.agg #[sy], .agg #[sz]] V fun e Y => (∃ zv zl, e = .returned (.agg #[zv]) ∧ (SubAt zv zl Y ∧ Sb 3136 8 (fun t => app lz (app ly t)) zl)) ∧ Below V.heap.size V Y)
    (HC4 : ∀ V, SS w b11 b12 b13 b14 b15 t pa ca sx sy sz lx ly lz V ∧ BoxT b16 (app lz (app ly (app lx t))) p1 c1 V → ∀ zv3, ∀ zl3, (SubAt zv3 zl3 V ∧ Sb 3136 8 (fun t => app lz (app ly t)) zl3) → Calls Try.prog 17 #[.agg #[sx], .agg #[zv3]] V fun e Y => (∃ zv zl, e = .returned (.agg #[zv]) ∧ (SubAt zv zl Y ∧ Sb 175616 12 (fun t => app lz (app ly (app lx t))) zl)) ∧ Below V.heap.size V Y)
    (HC6 : ∀ V, SS w b11 b12 b13 b14 b15 t pa ca sx sy sz lx ly lz V ∧ BoxT b16 (app lz (app ly (app lx t))) p1 c1 V → ∀ zv4, ∀ zl4, (SubAt zv4 zl4 V ∧ Sb 175616 12 (fun t => app lz (app ly (app lx t))) zl4) → Calls Try.prog 16 #[.agg #[zv4], .agg #[.int .i64 (t).kind, .string (t).name, .slice pa (t).kids.length ca]] V fun e Y => (∃ za zc, e = .returned (.agg #[.int .i64 (app lz (app ly (app lx t))).kind, .string (app lz (app ly (app lx t))).name, .slice za (app lz (app ly (app lx t))).kids.length zc]) ∧ TysAt Y (.slice za (app lz (app ly (app lx t))).kids.length zc) (app lz (app ly (app lx t))).kids) ∧ Below V.heap.size V Y)
    {Q : Exit → Act → World → Prop} {ops : Array Oper} (hops : ops = thbOps) (x0 : Nat → Value) (X : World) (hS : SS w b11 b12 b13 b14 b15 t pa ca sx sy sz lx ly lz X.drew ∧ BoxT b16 (app lz (app ly (app lx t))) p1 c1 X.drew)
    (hfin : ∀ x V bk ba bc, x 7 = .pointer (some ⟨bk, 0, none⟩) → SS w b11 b12 b13 b14 b15 t pa ca sx sy sz lx ly lz V ∧ BoxT b16 (app lz (app ly (app lx t))) p1 c1 V → BoxT bk (app lz (app ly (app lx t))) ba bc V → Q .normal (thbFr b d x) V) : (Code.region 16 ops true).wp Try.prog Q (thbFr b d x0) X := by
  have HC := Lib.hid (And.intro HC3 (And.intro HC4 HC6))
  clear HC3 HC4 HC6
  have hszo : ops.size = 8 + 1 := by rw [hops]; exact thb_size
  have hcovo : covered ops 8 = true := by rw [hops]; exact thb_cov
  refine region_last (thbFr b d) (fun V => SS w b11 b12 b13 b14 b15 t pa ca sx sy sz lx ly lz V ∧ BoxT b16 (app lz (app ly (app lx t))) p1 c1 V) (fun V Y => Below V.heap.size V Y) (thbVals w t pa ca sx sy sz lx ly lz) x0 8 (by kernel_rfl) rfl hS hszo hcovo (fun V Y h hb => ⟨h.1.below hb, h.2.below hb⟩) (fun i v V Y _ h hb => thbVals_keep i v V Y h hb) ?_
  have HFIN := Lib.hid hfin
  clear hfin hS hszo hcovo
  obtain ⟨gl, hgl⟩ : ∃ g, LastAt Try.prog (thbFr b d) (fun V => SS w b11 b12 b13 b14 b15 t pa ca sx sy sz lx ly lz V ∧ BoxT b16 (app lz (app ly (app lx t))) p1 c1 V) (thbVals w t pa ca sx sy sz lx ly lz) ops Q 8 = g := ⟨_, rfl⟩
  rw [hgl]
  obtain ⟨f, hf⟩ : ∃ f, StepAt Try.prog (thbFr b d) (fun V => SS w b11 b12 b13 b14 b15 t pa ca sx sy sz lx ly lz V ∧ BoxT b16 (app lz (app ly (app lx t))) p1 c1 V) (fun V Y => Below V.heap.size V Y) (thbVals w t pa ca sx sy sz lx ly lz) ops Q = f := ⟨_, rfl⟩
  rw [hf, hops]
  simp only [thbOps, Try.f5, regionIn, Option.getD_some, Nat.reduceBEq, Bool.false_eq_true, if_false, if_true, beq_self_eq_true, Array.append_empty, Array.empty_append, List.append_eq, List.cons_append, List.nil_append, AllBut, Nat.reduceAdd, Nat.zero_add]
  -- 0: slot 58 := Op.load 39 t12
  refine And.intro ?_ ?_
  · clear HFIN hgl
    rw [← hf]; clear hf
    refine ⟨by decide +kernel, fun x v => by kernel_rfl, fun x V hV hdep K hK => ?_⟩
    clear hdep
    refine run_bare (by kernel_rfl) ?_
    unfold thbFr
    obtain ⟨⟨y0, y1, y2⟩, ⟨y3, y4⟩, y5, y6⟩ := SS.cells hV.1
    go_simp
    refine kfit (hK _ _ (Below.refl _ V) rfl) ?_
    first | (simp only [thbFr, Act.put, List.setIfInBounds_toArray, List.set_cons_zero, List.set_cons_succ, h11, h12, h13, h14]; done) | (simp only [thbFr, Act.put, List.setIfInBounds_toArray, List.set_cons_zero, List.set_cons_succ, h11, h12, h13, h14]; rfl)
  -- 1: slot 59 := Op.load 39 t13
  refine And.intro ?_ ?_
  · clear HFIN hgl
    rw [← hf]; clear hf
    refine ⟨by decide +kernel, fun x v => by kernel_rfl, fun x V hV hdep K hK => ?_⟩
    clear hdep
    refine run_bare (by kernel_rfl) ?_
    unfold thbFr
    obtain ⟨⟨y0, y1, y2⟩, ⟨y3, y4⟩, y5, y6⟩ := SS.cells hV.1
    go_simp
    refine kfit (hK _ _ (Below.refl _ V) rfl) ?_
    first | (simp only [thbFr, Act.put, List.setIfInBounds_toArray, List.set_cons_zero, List.set_cons_succ, h11, h12, h13, h14]; done) | (simp only [thbFr, Act.put, List.setIfInBounds_toArray, List.set_cons_zero, List.set_cons_succ, h11, h12, h13, h14]; rfl)
  -- 2: slot 60 := Op.load 39 t14
  refine And.intro ?_ ?_
  · clear HFIN hgl
    rw [← hf]; clear hf
    refine ⟨by decide +kernel, fun x v => by kernel_rfl, fun x V hV hdep K hK => ?_⟩
    clear hdep
    refine run_bare (by kernel_rfl) ?_
    unfold thbFr
    obtain ⟨⟨y0, y1, y2⟩, ⟨y3, y4⟩, y5, y6⟩ := SS.cells hV.1
    go_simp
    refine kfit (hK _ _ (Below.refl _ V) rfl) ?_
    first | (simp only [thbFr, Act.put, List.setIfInBounds_toArray, List.set_cons_zero, List.set_cons_succ, h11, h12, h13, h14]; done) | (simp only [thbFr, Act.put, List.setIfInBounds_toArray, List.set_cons_zero, List.set_cons_succ, h11, h12, h13, h14]; rfl)
  -- 3: slot 61 := Op.call { value (Operand.func 17), args := #[t59, t60], argT
  refine And.intro ?_ ?_
  · clear HFIN hgl
    rw [← hf]; clear hf
    refine ⟨by decide +kernel, fun x v => by kernel_rfl, fun x V hV hdep K hK => ?_⟩
    have e1 : x 1 = .agg #[sy] := depOf hdep 1 (by decide +kernel)
    have e2 : x 2 = .agg #[sz] := depOf hdep 2 (by decide +kernel)
    clear hdep
    refine run_bare (by kernel_rfl) ?_
    unfold thbFr
    obtain ⟨HC3, HC4, HC6⟩ := HC.out
    clear HC4 HC6
    have H := HC3 V hV
    replace H := Lib.hid H; clear HC3
    go_simp
    go_at_call 17
    refine H.out.mono ?_
    rintro e Y ⟨⟨zv, zl, rfl, hq⟩, hb⟩; refine kfit (hK _ _ hb ⟨zv, zl, rfl, hq⟩) ?_
    first | (simp only [thbFr, Act.put, List.setIfInBounds_toArray, List.set_cons_zero, List.set_cons_succ, h11, h12, h13, h14, e1, e2]; done) | (simp only [thbFr, Act.put, List.setIfInBounds_toArray, List.set_cons_zero, List.set_cons_succ, h11, h12, h13, h14, e1, e2]; rfl)
  -- 4: slot 62 := Op.call { value (Operand.func 17), args := #[t58, t61], argT
  refine And.intro ?_ ?_
  · clear HFIN hgl
    rw [← hf]; clear hf
    refine ⟨by decide +kernel, fun x v => by kernel_rfl, fun x V hV hdep K hK => ?_⟩
    have e0 : x 0 = .agg #[sx] := depOf hdep 0 (by decide +kernel)
    obtain ⟨zv3, zl3, e3, d3⟩ : ∃ zv3 zl3, x 3 = .agg #[zv3] ∧ (SubAt zv3 zl3 V ∧ Sb 3136 8 (fun t => app lz (app ly t)) zl3) := depOf hdep 3 (by decide +kernel)
    clear hdep
    refine run_bare (by kernel_rfl) ?_
    unfold thbFr
    obtain ⟨HC3, HC4, HC6⟩ := HC.out
    clear HC3 HC6
    have H := HC4 V hV _ _ d3
    replace H := Lib.hid H; clear HC4
    go_simp
    go_at_call 17
    refine H.out.mono ?_
    rintro e Y ⟨⟨zv, zl, rfl, hq⟩, hb⟩; refine kfit (hK _ _ hb ⟨zv, zl, rfl, hq⟩) ?_
    first | (simp only [thbFr, Act.put, List.setIfInBounds_toArray, List.set_cons_zero, List.set_cons_succ, h11, h12, h13, h14, e0, e3]; done) | (simp only [thbFr, Act.put, List.setIfInBounds_toArray, List.set_cons_zero, List.set_cons_succ, h11, h12, h13, h14, e0, e3]; rfl)
  -- 5: slot 63 := Op.load 34 t11
  refine And.intro ?_ ?_
  · clear HFIN hgl
    rw [← hf]; clear hf
    refine ⟨by decide +kernel, fun x v => by kernel_rfl, fun x V hV hdep K hK => ?_⟩
    clear hdep
    refine run_bare (by kernel_rfl) ?_
    unfold thbFr
    obtain ⟨⟨y0, y1, y2⟩, ⟨y3, y4⟩, y5, y6⟩ := SS.cells hV.1
    go_simp
    refine kfit (hK _ _ (Below.refl _ V) rfl) ?_
    first | (simp only [thbFr, Act.put, List.setIfInBounds_toArray, List.set_cons_zero, List.set_cons_succ, h11, h12, h13, h14]; done) | (simp only [thbFr, Act.put, List.setIfInBounds_toArray, List.set_cons_zero, List.set_cons_succ, h11, h12, h13, h14]; rfl)
  -- 6: slot 64 := Op.call { value (Operand.func 16), args := #[t62, t63], argT
  refine And.intro ?_ ?_
  · clear HFIN hgl
    rw [← hf]; clear hf
    refine ⟨by decide +kernel, fun x v => by kernel_rfl, fun x V hV hdep K hK => ?_⟩
    obtain ⟨zv4, zl4, e4, d4⟩ : ∃ zv4 zl4, x 4 = .agg #[zv4] ∧ (SubAt zv4 zl4 V ∧ Sb 175616 12 (fun t => app lz (app ly (app lx t))) zl4) := depOf hdep 4 (by decide +kernel)
    have e5 : x 5 = .agg #[.int .i64 (t).kind, .string (t).name, .slice pa (t).kids.length ca] := depOf hdep 5 (by decide +kernel)
    clear hdep
    refine run_bare (by kernel_rfl) ?_
    unfold thbFr
    obtain ⟨HC3, HC4, HC6⟩ := HC.out
    clear HC3 HC4
    have H := HC6 V hV _ _ d4
    replace H := Lib.hid H; clear HC6
    go_simp
    go_at_call 16
    refine H.out.mono ?_
    rintro e Y ⟨⟨za, zc, rfl, hq⟩, hb⟩; refine kfit (hK _ _ hb ⟨za, zc, rfl, hq⟩) ?_
    first | (simp only [thbFr, Act.put, List.setIfInBounds_toArray, List.set_cons_zero, List.set_cons_succ, h11, h12, h13, h14, e4, e5]; done) | (simp only [thbFr, Act.put, List.setIfInBounds_toArray, List.set_cons_zero, List.set_cons_succ, h11, h12, h13, h14, e4, e5]; rfl)
  -- 7: slot 17 := Op.alloc 34
  refine And.intro ?_ ?_
  · clear HFIN hgl
    rw [← hf]; clear hf
    refine ⟨by decide +kernel, fun x v => by kernel_rfl, fun x V hV hdep K hK => ?_⟩
    clear hdep
    refine run_bare (by kernel_rfl) ?_
    unfold thbFr
    go_simp
    refine kfit (hK _ _ (below_a _ _) ⟨_, rfl, ⟨hV.1.2.2.size, alloc_new _ _⟩⟩) ?_
    first | (simp only [thbFr, Act.put, List.setIfInBounds_toArray, List.set_cons_zero, List.set_cons_succ, h11, h12, h13, h14]; done) | (simp only [thbFr, Act.put, List.setIfInBounds_toArray, List.set_cons_zero, List.set_cons_succ, h11, h12, h13, h14]; rfl)
  -- 8: slot none := Op.store 34 t17 t64
  · clear HC
    rw [← hgl]; clear hgl
    refine ⟨by decide +kernel, fun x V hV hall K hK => ?_⟩
    obtain ⟨k, e7, hk, hz⟩ : ∃ zk, x 7 = .pointer (some ⟨zk, 0, none⟩) ∧ (w.heap.size ≤ zk ∧ V.heap[zk]? = some zeroT) := hall 7 (by decide)
    obtain ⟨a, c, e6, hp⟩ : ∃ za zc, x 6 = .agg #[.int .i64 (app lz (app ly (app lx t))).kind, .string (app lz (app ly (app lx t))).name, .slice za (app lz (app ly (app lx t))).kids.length zc] ∧ TysAt V (.slice za (app lz (app ly (app lx t))).kids.length zc) (app lz (app ly (app lx t))).kids := hall 6 (by decide)
    clear hall
    refine run_bare (by kernel_rfl) ?_
    unfold thbFr
    obtain ⟨z0, z1, z2⟩ := three_cells hz
    have u0 := Lib.frozen_of_heap hz 0; have u1 := Lib.frozen_of_heap hz 1; have u2 := Lib.frozen_of_heap hz 2
    have H := Lib.hid (HFIN.out x _ k a c e7 (⟨hV.1.fill hz (fun _ hj => set3_others _ _ _ hj) (below_set3 (Below.refl _ V) hk _ _ _), hV.2.fill hz (fun _ hj => set3_others _ _ _ hj)⟩) (fill_box hz hp))
    clear HFIN hV hp
    go_simp
    refine kfit (hK undef _ H.out) ?_
    first | (simp only [thbFr, Act.put, h11, h12, h13, h14, e7, e6]; done) | (simp only [thbFr, Act.put, h11, h12, h13, h14, e7, e6]; rfl)
theorem thb_here {w : World} {b11 b12 b13 b14 b15 : Nat} {t : T} {pa : Option Addr} {ca : Nat} {sx sy sz : Value} {lx ly lz : List PR} {b16 : Nat} {p1 : Option Addr} {c1 : Nat}
    (HC3 : ∀ V, SS w b11 b12 b13 b14 b15 t pa ca sx sy sz lx ly lz V ∧ BoxT b16 (app lz (app ly (app lx t))) p1 c1 V → Calls Try.prog 17 #[.agg #[sy], .agg #[sz]] V fun e Y => (∃ zv zl, e = .returned (.agg #[zv]) ∧ (SubAt zv zl Y ∧ Sb 3136 8 (fun t => app lz (app ly t)) zl)) ∧ Below V.heap.size V Y)
    (HC4 : ∀ V, SS w b11 b12 b13 b14 b15 t pa ca sx sy sz lx ly lz V ∧ BoxT b16 (app lz (app ly (app lx t))) p1 c1 V → ∀ zv3, ∀ zl3, (SubAt zv3 zl3 V ∧ Sb 3136 8 (fun t => app lz (app ly t)) zl3) → Calls Try.prog 17 #[.agg #[sx], .agg #[zv3]] V fun e Y => (∃ zv zl, e = .returned (.agg #[zv]) ∧ (SubAt zv zl Y ∧ Sb 175616 12 (fun t => app lz (app ly (app lx t))) zl)) ∧ Below V.heap.size V Y)
    (HC6 : ∀ V, SS w b11 b12 b13 b14 b15 t pa ca sx sy sz lx ly lz V ∧ BoxT b16 (app lz (app ly (app lx t))) p1 c1 V → ∀ zv4, ∀ zl4, (SubAt zv4 zl4 V ∧ Sb 175616 12 (fun t => app lz (app ly (app lx t))) zl4) → Calls Try.prog 16 #[.agg #[zv4], .agg #[.int .i64 (t).kind, .string (t).name, .slice pa (t).kids.length ca]] V fun e Y => (∃ za zc, e = .returned (.agg #[.int .i64 (app lz (app ly (app lx t))).kind, .string (app lz (app ly (app lx t))).name, .slice za (app lz (app ly (app lx t))).kids.length zc]) ∧ TysAt Y (.slice za (app lz (app ly (app lx t))).kids.length zc) (app lz (app ly (app lx t))).kids) ∧ Below V.heap.size V Y)
    {Q : Exit → Act → World → Prop} {ops : Array Oper} {a : Act} (X : World) (hops : ops = thbOps)
    (h11 : a.tmps.getD 11 undef = .pointer (some ⟨b11, 0, none⟩)) (h12 : a.tmps.getD 12 undef = .pointer (some ⟨b12, 0, none⟩)) (h13 : a.tmps.getD 13 undef = .pointer (some ⟨b13, 0, none⟩)) (h14 : a.tmps.getD 14 undef = .pointer (some ⟨b14, 0, none⟩))
    (ha : a = thbFr (fun j => a.tmps.getD j undef) a.defers (fun i => a.tmps.getD (if i = 7 then 17 else 58 + i) undef)) (hS : SS w b11 b12 b13 b14 b15 t pa ca sx sy sz lx ly lz X.drew ∧ BoxT b16 (app lz (app ly (app lx t))) p1 c1 X.drew)
    (hfin : ∀ x V bk ba bc, x 7 = .pointer (some ⟨bk, 0, none⟩) → SS w b11 b12 b13 b14 b15 t pa ca sx sy sz lx ly lz V ∧ BoxT b16 (app lz (app ly (app lx t))) p1 c1 V → BoxT bk (app lz (app ly (app lx t))) ba bc V → Q .normal (thbFr (fun j => a.tmps.getD j undef) a.defers x) V) : (Code.region 16 ops true).wp Try.prog Q a X :=
  cast (congrArg (fun z => (Code.region 16 ops true).wp Try.prog Q z X) ha.symm) (thb_region (b := fun j => a.tmps.getD j undef) (d := a.defers) h11 h12 h13 h14 HC3 HC4 HC6 hops _ X hS hfin)
end Go.Proofs.Ytmbaolcdjgilpaa
