/- SubstThen: its last statement, a region of 40 operations that draws its order, by an invariant. (Made by a program.) -/
import Derived.Test.YtmbaolcdjgilpaaSbThenA
namespace Go.Proofs.Ytmbaolcdjgilpaa
open Go.RowKit Go.Sort Go.Lib
attribute [local go_sem] Oper.semAt_some

noncomputable def thcOps : Array Oper := regionIn 17 (Try.f5.body.getD .skip)
def thcFr (b : Nat → Value) (d : List Deferred) (x : Nat → Value) : Act := { tmps := #[b 0, b 1, x 39, b 3, b 4, b 5, b 6, b 7, b 8, b 9, b 10, b 11, b 12, b 13, b 14, b 15, b 16, b 17, b 18, b 19, b 20, b 21, b 22, b 23, b 24, b 25, b 26, b 27, b 28, b 29, b 30, b 31, b 32, b 33, b 34, b 35, b 36, b 37, b 38, b 39, b 40, b 41, b 42, b 43, b 44, b 45, b 46, b 47, b 48, b 49, b 50, b 51, b 52, b 53, b 54, b 55, b 56, b 57, b 58, b 59, b 60, b 61, b 62, b 63, b 64, x 0, x 1, x 2, x 3, x 4, x 5, x 6, x 7, x 8, x 9, x 10, x 11, x 12, x 13, x 14, x 15, x 16, x 17, x 18, x 19, x 20, x 21, x 22, x 23, x 24, x 25, x 26, x 27, x 28, x 29, x 30, x 31, x 32, x 33, x 34, x 35, x 36, x 37, x 38], defers := d }

def thcVals (w : World) (t : T) (pa : Option Addr) (ca : Nat) (sx sy sz : Value) (lx ly lz : List PR) (p1 p2 : Option Addr) (c1 c2 : Nat) (i : Nat) (v : Value) (V : World) : Prop :=
  match i with
  | 0 => v = .bool true
  | 1 => v = .bool true
  | 2 => v = .agg #[.int .i64 (app lz (app ly (app lx t))).kind, .string (app lz (app ly (app lx t))).name, .slice p1 (app lz (app ly (app lx t))).kids.length c1]
  | 3 => v = .agg #[.int .i64 (app lz (app ly (app lx t))).kind, .string (app lz (app ly (app lx t))).name, .slice p2 (app lz (app ly (app lx t))).kids.length c2]
  | 4 => v = .bool true
  | 5 => v = .bool true
  | 6 => v = .bool true
  | 7 => v = .agg #[.int .i64 (app lz (app ly (app lx t))).kind, .string (app lz (app ly (app lx t))).name, .slice p1 (app lz (app ly (app lx t))).kids.length c1]
  | 8 => v = .agg #[sz]
  | 9 => v = .agg #[sy]
  | 10 => v = .agg #[sx]
  | 11 => v = .agg #[.int .i64 (t).kind, .string (t).name, .slice pa (t).kids.length ca]
  | 12 => ∃ za zc, v = .agg #[.int .i64 (app lx t).kind, .string (app lx t).name, .slice za (app lx t).kids.length zc] ∧ TysAt V (.slice za (app lx t).kids.length zc) (app lx t).kids
  | 13 => ∃ za zc, v = .agg #[.int .i64 (app ly (app lx t)).kind, .string (app ly (app lx t)).name, .slice za (app ly (app lx t)).kids.length zc] ∧ TysAt V (.slice za (app ly (app lx t)).kids.length zc) (app ly (app lx t)).kids
  | 14 => ∃ za zc, v = .agg #[.int .i64 (app lz (app ly (app lx t))).kind, .string (app lz (app ly (app lx t))).name, .slice za (app lz (app ly (app lx t))).kids.length zc] ∧ TysAt V (.slice za (app lz (app ly (app lx t))).kids.length zc) (app lz (app ly (app lx t))).kids
  | 15 => v = .bool true
  | 16 => v = .bool true
  | 17 => v = .bool true
  | 18 => v = .agg #[sx]
  | 19 => v = .agg #[nilV]
  | 20 => ∃ zv zl, v = .agg #[zv] ∧ (SubAt zv zl V ∧ Sb 56 4 (fun t => app lx t) zl)
  | 21 => v = .agg #[.int .i64 (t).kind, .string (t).name, .slice pa (t).kids.length ca]
  | 22 => ∃ za zc, v = .agg #[.int .i64 (app lx t).kind, .string (app lx t).name, .slice za (app lx t).kids.length zc] ∧ TysAt V (.slice za (app lx t).kids.length zc) (app lx t).kids
  | 23 => v = .agg #[sx]
  | 24 => v = .agg #[.int .i64 (t).kind, .string (t).name, .slice pa (t).kids.length ca]
  | 25 => ∃ za zc, v = .agg #[.int .i64 (app lx t).kind, .string (app lx t).name, .slice za (app lx t).kids.length zc] ∧ TysAt V (.slice za (app lx t).kids.length zc) (app lx t).kids
  | 26 => v = .bool true
  | 27 => v = .bool true
  | 28 => v = .bool true
  | 29 => v = .agg #[nilV]
  | 30 => v = .agg #[sx]
  | 31 => ∃ zv zl, v = .agg #[zv] ∧ (SubAt zv zl V ∧ Sb 56 4 (fun t => app lx t) zl)
  | 32 => v = .agg #[.int .i64 (t).kind, .string (t).name, .slice pa (t).kids.length ca]
  | 33 => ∃ za zc, v = .agg #[.int .i64 (app lx t).kind, .string (app lx t).name, .slice za (app lx t).kids.length zc] ∧ TysAt V (.slice za (app lx t).kids.length zc) (app lx t).kids
  | 34 => v = .agg #[sx]
  | 35 => v = .agg #[.int .i64 (t).kind, .string (t).name, .slice pa (t).kids.length ca]
  | 36 => ∃ za zc, v = .agg #[.int .i64 (app lx t).kind, .string (app lx t).name, .slice za (app lx t).kids.length zc] ∧ TysAt V (.slice za (app lx t).kids.length zc) (app lx t).kids
  | 37 => v = .bool true
  | 38 => v = .bool true
  | 39 => v = .bool true
  | _ => True

theorem thcVals_keep {w : World} {t : T} {pa : Option Addr} {ca : Nat} {sx sy sz : Value} {lx ly lz : List PR} {p1 p2 : Option Addr} {c1 c2 : Nat} (i : Nat) (v : Value) (V Y : World) (h : thcVals w t pa ca sx sy sz lx ly lz p1 p2 c1 c2 i v V) (hb : Below V.heap.size V Y) : thcVals w t pa ca sx sy sz lx ly lz p1 p2 c1 c2 i v Y := by
  unfold thcVals at *
  split at h <;> first
    | exact h
    | (obtain ⟨za, zc, e, h⟩ := h; exact ⟨za, zc, e, h.keep (KeepT.of_below hb)⟩)
    | (obtain ⟨zv, zl, e, h⟩ := h; exact ⟨zv, zl, e, ⟨h.1.below hb, h.2⟩⟩)

theorem thc_size : thcOps.size = 40 := by kernel_rfl
theorem thc_dst_1 : (thcOps[1]?).bind (·.dst) = some 66 := by kernel_rfl
theorem thc_dst_6 : (thcOps[6]?).bind (·.dst) = some 71 := by kernel_rfl
theorem thc_dst_17 : (thcOps[17]?).bind (·.dst) = some 82 := by kernel_rfl
theorem thc_dst_28 : (thcOps[28]?).bind (·.dst) = some 93 := by kernel_rfl
set_option linter.unusedSimpArgs false in
set_option maxRecDepth 100000 in
set_option maxHeartbeats 8000000 in
theorem thc_region {w : World} {b11 b12 b13 b14 b15 : Nat} {t : T} {pa : Option Addr} {ca : Nat} {sx sy sz : Value} {lx ly lz : List PR} {b16 : Nat} {p1 : Option Addr} {c1 : Nat} {b17 : Nat} {p2 : Option Addr} {c2 : Nat} {b : Nat → Value} {d : List Deferred}
    (h3 : b 3 = .bool true) (h11 : b 11 = .pointer (some ⟨b11, 0, none⟩)) (h12 : b 12 = .pointer (some ⟨b12, 0, none⟩)) (h13 : b 13 = .pointer (some ⟨b13, 0, none⟩)) (h14 : b 14 = .pointer (some ⟨b14, 0, none⟩)) (h15 : b 15 = .pointer (some ⟨b15, 0, none⟩)) (h16 : b 16 = .pointer (some ⟨b16, 0, none⟩)) (h17 : b 17 = .pointer (some ⟨b17, 0, none⟩))
    (HC4 : ∀ V, SS w b11 b12 b13 b14 b15 t pa ca sx sy sz lx ly lz V ∧ BoxT b16 (app lz (app ly (app lx t))) p1 c1 V ∧ BoxT b17 (app lz (app ly (app lx t))) p2 c2 V → Calls Try.prog 15 #[.agg #[.int .i64 (app lz (app ly (app lx t))).kind, .string (app lz (app ly (app lx t))).name, .slice p1 (app lz (app ly (app lx t))).kids.length c1], .agg #[.int .i64 (app lz (app ly (app lx t))).kind, .string (app lz (app ly (app lx t))).name, .slice p2 (app lz (app ly (app lx t))).kids.length c2]] V fun e Y => e = .returned (.bool true) ∧ Below V.heap.size V Y)
    (HC12 : ∀ V, SS w b11 b12 b13 b14 b15 t pa ca sx sy sz lx ly lz V ∧ BoxT b16 (app lz (app ly (app lx t))) p1 c1 V ∧ BoxT b17 (app lz (app ly (app lx t))) p2 c2 V → Calls Try.prog 16 #[.agg #[sx], .agg #[.int .i64 (t).kind, .string (t).name, .slice pa (t).kids.length ca]] V fun e Y => (∃ za zc, e = .returned (.agg #[.int .i64 (app lx t).kind, .string (app lx t).name, .slice za (app lx t).kids.length zc]) ∧ TysAt Y (.slice za (app lx t).kids.length zc) (app lx t).kids) ∧ Below V.heap.size V Y)
    (HC13 : ∀ V, SS w b11 b12 b13 b14 b15 t pa ca sx sy sz lx ly lz V ∧ BoxT b16 (app lz (app ly (app lx t))) p1 c1 V ∧ BoxT b17 (app lz (app ly (app lx t))) p2 c2 V → ∀ za12, ∀ zc12, TysAt V (.slice za12 (app lx t).kids.length zc12) (app lx t).kids → Calls Try.prog 16 #[.agg #[sy], .agg #[.int .i64 (app lx t).kind, .string (app lx t).name, .slice za12 (app lx t).kids.length zc12]] V fun e Y => (∃ za zc, e = .returned (.agg #[.int .i64 (app ly (app lx t)).kind, .string (app ly (app lx t)).name, .slice za (app ly (app lx t)).kids.length zc]) ∧ TysAt Y (.slice za (app ly (app lx t)).kids.length zc) (app ly (app lx t)).kids) ∧ Below V.heap.size V Y)
    (HC14 : ∀ V, SS w b11 b12 b13 b14 b15 t pa ca sx sy sz lx ly lz V ∧ BoxT b16 (app lz (app ly (app lx t))) p1 c1 V ∧ BoxT b17 (app lz (app ly (app lx t))) p2 c2 V → ∀ za13, ∀ zc13, TysAt V (.slice za13 (app ly (app lx t)).kids.length zc13) (app ly (app lx t)).kids → Calls Try.prog 16 #[.agg #[sz], .agg #[.int .i64 (app ly (app lx t)).kind, .string (app ly (app lx t)).name, .slice za13 (app ly (app lx t)).kids.length zc13]] V fun e Y => (∃ za zc, e = .returned (.agg #[.int .i64 (app lz (app ly (app lx t))).kind, .string (app lz (app ly (app lx t))).name, .slice za (app lz (app ly (app lx t))).kids.length zc]) ∧ TysAt Y (.slice za (app lz (app ly (app lx t))).kids.length zc) (app lz (app ly (app lx t))).kids) ∧ Below V.heap.size V Y)
    (HC15 : ∀ V, SS w b11 b12 b13 b14 b15 t pa ca sx sy sz lx ly lz V ∧ BoxT b16 (app lz (app ly (app lx t))) p1 c1 V ∧ BoxT b17 (app lz (app ly (app lx t))) p2 c2 V → ∀ za14, ∀ zc14, TysAt V (.slice za14 (app lz (app ly (app lx t))).kids.length zc14) (app lz (app ly (app lx t))).kids → Calls Try.prog 15 #[.agg #[.int .i64 (app lz (app ly (app lx t))).kind, .string (app lz (app ly (app lx t))).name, .slice p1 (app lz (app ly (app lx t))).kids.length c1], .agg #[.int .i64 (app lz (app ly (app lx t))).kind, .string (app lz (app ly (app lx t))).name, .slice za14 (app lz (app ly (app lx t))).kids.length zc14]] V fun e Y => e = .returned (.bool true) ∧ Below V.heap.size V Y)
    (HC20 : ∀ V, SS w b11 b12 b13 b14 b15 t pa ca sx sy sz lx ly lz V ∧ BoxT b16 (app lz (app ly (app lx t))) p1 c1 V ∧ BoxT b17 (app lz (app ly (app lx t))) p2 c2 V → Calls Try.prog 17 #[.agg #[sx], .agg #[nilV]] V fun e Y => (∃ zv zl, e = .returned (.agg #[zv]) ∧ (SubAt zv zl Y ∧ Sb 56 4 (fun t => app lx t) zl)) ∧ Below V.heap.size V Y)
    (HC22 : ∀ V, SS w b11 b12 b13 b14 b15 t pa ca sx sy sz lx ly lz V ∧ BoxT b16 (app lz (app ly (app lx t))) p1 c1 V ∧ BoxT b17 (app lz (app ly (app lx t))) p2 c2 V → ∀ zv20, ∀ zl20, (SubAt zv20 zl20 V ∧ Sb 56 4 (fun t => app lx t) zl20) → Calls Try.prog 16 #[.agg #[zv20], .agg #[.int .i64 (t).kind, .string (t).name, .slice pa (t).kids.length ca]] V fun e Y => (∃ za zc, e = .returned (.agg #[.int .i64 (app lx t).kind, .string (app lx t).name, .slice za (app lx t).kids.length zc]) ∧ TysAt Y (.slice za (app lx t).kids.length zc) (app lx t).kids) ∧ Below V.heap.size V Y)
    (HC25 : ∀ V, SS w b11 b12 b13 b14 b15 t pa ca sx sy sz lx ly lz V ∧ BoxT b16 (app lz (app ly (app lx t))) p1 c1 V ∧ BoxT b17 (app lz (app ly (app lx t))) p2 c2 V → Calls Try.prog 16 #[.agg #[sx], .agg #[.int .i64 (t).kind, .string (t).name, .slice pa (t).kids.length ca]] V fun e Y => (∃ za zc, e = .returned (.agg #[.int .i64 (app lx t).kind, .string (app lx t).name, .slice za (app lx t).kids.length zc]) ∧ TysAt Y (.slice za (app lx t).kids.length zc) (app lx t).kids) ∧ Below V.heap.size V Y)
    (HC26 : ∀ V, SS w b11 b12 b13 b14 b15 t pa ca sx sy sz lx ly lz V ∧ BoxT b16 (app lz (app ly (app lx t))) p1 c1 V ∧ BoxT b17 (app lz (app ly (app lx t))) p2 c2 V → ∀ za22, ∀ zc22, TysAt V (.slice za22 (app lx t).kids.length zc22) (app lx t).kids → ∀ za25, ∀ zc25, TysAt V (.slice za25 (app lx t).kids.length zc25) (app lx t).kids → Calls Try.prog 15 #[.agg #[.int .i64 (app lx t).kind, .string (app lx t).name, .slice za22 (app lx t).kids.length zc22], .agg #[.int .i64 (app lx t).kind, .string (app lx t).name, .slice za25 (app lx t).kids.length zc25]] V fun e Y => e = .returned (.bool true) ∧ Below V.heap.size V Y)
    (HC31 : ∀ V, SS w b11 b12 b13 b14 b15 t pa ca sx sy sz lx ly lz V ∧ BoxT b16 (app lz (app ly (app lx t))) p1 c1 V ∧ BoxT b17 (app lz (app ly (app lx t))) p2 c2 V → Calls Try.prog 17 #[.agg #[nilV], .agg #[sx]] V fun e Y => (∃ zv zl, e = .returned (.agg #[zv]) ∧ (SubAt zv zl Y ∧ Sb 56 4 (fun t => app lx t) zl)) ∧ Below V.heap.size V Y)
    (HC33 : ∀ V, SS w b11 b12 b13 b14 b15 t pa ca sx sy sz lx ly lz V ∧ BoxT b16 (app lz (app ly (app lx t))) p1 c1 V ∧ BoxT b17 (app lz (app ly (app lx t))) p2 c2 V → ∀ zv31, ∀ zl31, (SubAt zv31 zl31 V ∧ Sb 56 4 (fun t => app lx t) zl31) → Calls Try.prog 16 #[.agg #[zv31], .agg #[.int .i64 (t).kind, .string (t).name, .slice pa (t).kids.length ca]] V fun e Y => (∃ za zc, e = .returned (.agg #[.int .i64 (app lx t).kind, .string (app lx t).name, .slice za (app lx t).kids.length zc]) ∧ TysAt Y (.slice za (app lx t).kids.length zc) (app lx t).kids) ∧ Below V.heap.size V Y)
    (HC36 : ∀ V, SS w b11 b12 b13 b14 b15 t pa ca sx sy sz lx ly lz V ∧ BoxT b16 (app lz (app ly (app lx t))) p1 c1 V ∧ BoxT b17 (app lz (app ly (app lx t))) p2 c2 V → Calls Try.prog 16 #[.agg #[sx], .agg #[.int .i64 (t).kind, .string (t).name, .slice pa (t).kids.length ca]] V fun e Y => (∃ za zc, e = .returned (.agg #[.int .i64 (app lx t).kind, .string (app lx t).name, .slice za (app lx t).kids.length zc]) ∧ TysAt Y (.slice za (app lx t).kids.length zc) (app lx t).kids) ∧ Below V.heap.size V Y)
    (HC37 : ∀ V, SS w b11 b12 b13 b14 b15 t pa ca sx sy sz lx ly lz V ∧ BoxT b16 (app lz (app ly (app lx t))) p1 c1 V ∧ BoxT b17 (app lz (app ly (app lx t))) p2 c2 V → ∀ za33, ∀ zc33, TysAt V (.slice za33 (app lx t).kids.length zc33) (app lx t).kids → ∀ za36, ∀ zc36, TysAt V (.slice za36 (app lx t).kids.length zc36) (app lx t).kids → Calls Try.prog 15 #[.agg #[.int .i64 (app lx t).kind, .string (app lx t).name, .slice za33 (app lx t).kids.length zc33], .agg #[.int .i64 (app lx t).kind, .string (app lx t).name, .slice za36 (app lx t).kids.length zc36]] V fun e Y => e = .returned (.bool true) ∧ Below V.heap.size V Y)
    {Q : Exit → Act → World → Prop} {ops : Array Oper} (hops : ops = thcOps) (x0 : Nat → Value) (X : World) (hS : SS w b11 b12 b13 b14 b15 t pa ca sx sy sz lx ly lz X.drew ∧ BoxT b16 (app lz (app ly (app lx t))) p1 c1 X.drew ∧ BoxT b17 (app lz (app ly (app lx t))) p2 c2 X.drew)
    (hfin : ∀ x V, SS w b11 b12 b13 b14 b15 t pa ca sx sy sz lx ly lz V ∧ BoxT b16 (app lz (app ly (app lx t))) p1 c1 V ∧ BoxT b17 (app lz (app ly (app lx t))) p2 c2 V → x 39 = .bool true → Q .normal (thcFr b d x) V) : (Code.region 17 ops true).wp Try.prog Q (thcFr b d x0) X := by
  have HC := Lib.hid (And.intro HC4 (And.intro HC12 (And.intro HC13 (And.intro HC14 (And.intro HC15 (And.intro HC20 (And.intro HC22 (And.intro HC25 (And.intro HC26 (And.intro HC31 (And.intro HC33 (And.intro HC36 HC37))))))))))))
  clear HC4 HC12 HC13 HC14 HC15 HC20 HC22 HC25 HC26 HC31 HC33 HC36 HC37
  refine region_inv (thcFr b d) (fun V => SS w b11 b12 b13 b14 b15 t pa ca sx sy sz lx ly lz V ∧ BoxT b16 (app lz (app ly (app lx t))) p1 c1 V ∧ BoxT b17 (app lz (app ly (app lx t))) p2 c2 V) (fun V Y => Below V.heap.size V Y) (thcVals w t pa ca sx sy sz lx ly lz p1 p2 c1 c2) x0 (by kernel_rfl) rfl hS (fun V Y h hb => ⟨h.1.below hb, h.2.1.below hb, h.2.2.below hb⟩) (fun i v V Y _ h hb => thcVals_keep i v V Y h hb) ?_ (fun x V hV h => hfin x V hV (h 39 (by rw [hops, thc_size]; decide)))
  clear hfin hS
  obtain ⟨f, hf⟩ : ∃ f, StepAt Try.prog (thcFr b d) (fun V => SS w b11 b12 b13 b14 b15 t pa ca sx sy sz lx ly lz V ∧ BoxT b16 (app lz (app ly (app lx t))) p1 c1 V ∧ BoxT b17 (app lz (app ly (app lx t))) p2 c2 V) (fun V Y => Below V.heap.size V Y) (thcVals w t pa ca sx sy sz lx ly lz p1 p2 c1 c2) ops Q = f := ⟨_, rfl⟩
  rw [hf, hops]
  simp only [thcOps, Try.f5, regionIn, Option.getD_some, Nat.reduceBEq, Bool.false_eq_true, if_false, if_true, beq_self_eq_true, Array.append_empty, Array.empty_append, List.append_eq, List.cons_append, List.nil_append, AllAt, Nat.reduceAdd, Nat.zero_add]
  -- 0: slot 65 := Op.move t3
  refine And.intro ?_ ?_
  · rw [← hf]; clear hf
    refine ⟨by decide +kernel, fun x v => by kernel_rfl, fun x V hV hdep K hK => ?_⟩
    clear hdep
    refine run_bare (by kernel_rfl) ?_
    unfold thcFr
    go_simp
    refine kfit (hK _ _ (Below.refl _ V) rfl) ?_
    first | (simp only [thcFr, Act.put, List.setIfInBounds_toArray, List.set_cons_zero, List.set_cons_succ, h3, h11, h12, h13, h14, h15, h16, h17]; done) | (simp only [thcFr, Act.put, List.setIfInBounds_toArray, List.set_cons_zero, List.set_cons_succ, h3, h11, h12, h13, h14, h15, h16, h17]; rfl)
  -- 1: slot 66 := Op.move t65
  refine And.intro ?_ ?_
  · rw [← hf]; clear hf
    refine ⟨by decide +kernel, fun x v => by kernel_rfl, fun x V hV hdep K hK => ?_⟩
    have e0 : x 0 = .bool true := depOf hdep 0 (by decide +kernel)
    clear hdep
    refine run_bare (by kernel_rfl) ?_
    unfold thcFr
    go_simp
    refine kfit (hK _ _ (Below.refl _ V) rfl) ?_
    first | (simp only [thcFr, Act.put, List.setIfInBounds_toArray, List.set_cons_zero, List.set_cons_succ, h3, h11, h12, h13, h14, h15, h16, h17, e0]; done) | (simp only [thcFr, Act.put, List.setIfInBounds_toArray, List.set_cons_zero, List.set_cons_succ, h3, h11, h12, h13, h14, h15, h16, h17, e0]; rfl)
  -- 2: slot 67 := Op.load 34 t16
  refine And.intro ?_ ?_
  · rw [← hf]; clear hf
    refine ⟨by decide +kernel, fun x v => by kernel_rfl, fun x V hV hdep K hK => ?_⟩
    have e1 : x 1 = .bool true := depOf hdep 1 (by decide +kernel)
    clear hdep
    refine run_guard 1 66 (x 1) (by kernel_rfl) (by rw [hops]; exact thc_dst_1) (by kernel_rfl) e1 ?_; clear hops
    unfold thcFr
    obtain ⟨⟨y0, y1, y2⟩, ⟨y3, y4⟩, y5, y6⟩ := SS.cells hV.1; obtain ⟨y7, y8, y9⟩ := hV.2.1.cells; obtain ⟨y10, y11, y12⟩ := hV.2.2.cells
    go_simp
    refine kfit (hK _ _ (Below.refl _ V) rfl) ?_
    first | (simp only [thcFr, Act.put, List.setIfInBounds_toArray, List.set_cons_zero, List.set_cons_succ, h3, h11, h12, h13, h14, h15, h16, h17, e1]; done) | (simp only [thcFr, Act.put, List.setIfInBounds_toArray, List.set_cons_zero, List.set_cons_succ, h3, h11, h12, h13, h14, h15, h16, h17, e1]; rfl)
  -- 3: slot 68 := Op.load 34 t17
  refine And.intro ?_ ?_
  · rw [← hf]; clear hf
    refine ⟨by decide +kernel, fun x v => by kernel_rfl, fun x V hV hdep K hK => ?_⟩
    have e1 : x 1 = .bool true := depOf hdep 1 (by decide +kernel)
    clear hdep
    refine run_guard 1 66 (x 1) (by kernel_rfl) (by rw [hops]; exact thc_dst_1) (by kernel_rfl) e1 ?_; clear hops
    unfold thcFr
    obtain ⟨⟨y0, y1, y2⟩, ⟨y3, y4⟩, y5, y6⟩ := SS.cells hV.1; obtain ⟨y7, y8, y9⟩ := hV.2.1.cells; obtain ⟨y10, y11, y12⟩ := hV.2.2.cells
    go_simp
    refine kfit (hK _ _ (Below.refl _ V) rfl) ?_
    first | (simp only [thcFr, Act.put, List.setIfInBounds_toArray, List.set_cons_zero, List.set_cons_succ, h3, h11, h12, h13, h14, h15, h16, h17, e1]; done) | (simp only [thcFr, Act.put, List.setIfInBounds_toArray, List.set_cons_zero, List.set_cons_succ, h3, h11, h12, h13, h14, h15, h16, h17, e1]; rfl)
  -- 4: slot 69 := Op.call { value (Operand.func 15), args := #[t67, t68], argT
  refine And.intro ?_ ?_
  · rw [← hf]; clear hf
    refine ⟨by decide +kernel, fun x v => by kernel_rfl, fun x V hV hdep K hK => ?_⟩
    have e1 : x 1 = .bool true := depOf hdep 1 (by decide +kernel)
    have e2 : x 2 = .agg #[.int .i64 (app lz (app ly (app lx t))).kind, .string (app lz (app ly (app lx t))).name, .slice p1 (app lz (app ly (app lx t))).kids.length c1] := depOf hdep 2 (by decide +kernel)
    have e3 : x 3 = .agg #[.int .i64 (app lz (app ly (app lx t))).kind, .string (app lz (app ly (app lx t))).name, .slice p2 (app lz (app ly (app lx t))).kids.length c2] := depOf hdep 3 (by decide +kernel)
    clear hdep
    refine run_guard 1 66 (x 1) (by kernel_rfl) (by rw [hops]; exact thc_dst_1) (by kernel_rfl) e1 ?_; clear hops
    unfold thcFr
    obtain ⟨HC4, HC12, HC13, HC14, HC15, HC20, HC22, HC25, HC26, HC31, HC33, HC36, HC37⟩ := HC.out
    clear HC12 HC13 HC14 HC15 HC20 HC22 HC25 HC26 HC31 HC33 HC36 HC37
    have H := HC4 V hV
    replace H := Lib.hid H; clear HC4
    go_simp
    go_at_call 15
    refine H.out.mono ?_
    rintro e Y ⟨rfl, hb⟩; refine kfit (hK _ _ hb rfl) ?_
    first | (simp only [thcFr, Act.put, List.setIfInBounds_toArray, List.set_cons_zero, List.set_cons_succ, h3, h11, h12, h13, h14, h15, h16, h17, e1, e2, e3]; done) | (simp only [thcFr, Act.put, List.setIfInBounds_toArray, List.set_cons_zero, List.set_cons_succ, h3, h11, h12, h13, h14, h15, h16, h17, e1, e2, e3]; rfl)
  -- 5: slot 70 := Op.pick t66 t69 (const (Value.bool false))
  refine And.intro ?_ ?_
  · rw [← hf]; clear hf
    refine ⟨by decide +kernel, fun x v => by kernel_rfl, fun x V hV hdep K hK => ?_⟩
    have e1 : x 1 = .bool true := depOf hdep 1 (by decide +kernel)
    have e4 : x 4 = .bool true := depOf hdep 4 (by decide +kernel)
    clear hdep
    refine run_bare (by kernel_rfl) ?_
    unfold thcFr
    go_simp
    refine kfit (hK _ _ (Below.refl _ V) rfl) ?_
    first | (simp only [thcFr, Act.put, List.setIfInBounds_toArray, List.set_cons_zero, List.set_cons_succ, h3, h11, h12, h13, h14, h15, h16, h17, e1, e4]; done) | (simp only [thcFr, Act.put, List.setIfInBounds_toArray, List.set_cons_zero, List.set_cons_succ, h3, h11, h12, h13, h14, h15, h16, h17, e1, e4]; rfl)
  -- 6: slot 71 := Op.move t70
  refine And.intro ?_ ?_
  · rw [← hf]; clear hf
    refine ⟨by decide +kernel, fun x v => by kernel_rfl, fun x V hV hdep K hK => ?_⟩
    have e5 : x 5 = .bool true := depOf hdep 5 (by decide +kernel)
    clear hdep
    refine run_bare (by kernel_rfl) ?_
    unfold thcFr
    go_simp
    refine kfit (hK _ _ (Below.refl _ V) rfl) ?_
    first | (simp only [thcFr, Act.put, List.setIfInBounds_toArray, List.set_cons_zero, List.set_cons_succ, h3, h11, h12, h13, h14, h15, h16, h17, e5]; done) | (simp only [thcFr, Act.put, List.setIfInBounds_toArray, List.set_cons_zero, List.set_cons_succ, h3, h11, h12, h13, h14, h15, h16, h17, e5]; rfl)
  -- 7: slot 72 := Op.load 34 t16
  refine And.intro ?_ ?_
  · rw [← hf]; clear hf
    refine ⟨by decide +kernel, fun x v => by kernel_rfl, fun x V hV hdep K hK => ?_⟩
    have e6 : x 6 = .bool true := depOf hdep 6 (by decide +kernel)
    clear hdep
    refine run_guard 6 71 (x 6) (by kernel_rfl) (by rw [hops]; exact thc_dst_6) (by kernel_rfl) e6 ?_; clear hops
    unfold thcFr
    obtain ⟨⟨y0, y1, y2⟩, ⟨y3, y4⟩, y5, y6⟩ := SS.cells hV.1; obtain ⟨y7, y8, y9⟩ := hV.2.1.cells; obtain ⟨y10, y11, y12⟩ := hV.2.2.cells
    go_simp
    refine kfit (hK _ _ (Below.refl _ V) rfl) ?_
    first | (simp only [thcFr, Act.put, List.setIfInBounds_toArray, List.set_cons_zero, List.set_cons_succ, h3, h11, h12, h13, h14, h15, h16, h17, e6]; done) | (simp only [thcFr, Act.put, List.setIfInBounds_toArray, List.set_cons_zero, List.set_cons_succ, h3, h11, h12, h13, h14, h15, h16, h17, e6]; rfl)
  -- 8: slot 73 := Op.load 39 t14
  refine And.intro ?_ ?_
  · rw [← hf]; clear hf
    refine ⟨by decide +kernel, fun x v => by kernel_rfl, fun x V hV hdep K hK => ?_⟩
    have e6 : x 6 = .bool true := depOf hdep 6 (by decide +kernel)
    clear hdep
    refine run_guard 6 71 (x 6) (by kernel_rfl) (by rw [hops]; exact thc_dst_6) (by kernel_rfl) e6 ?_; clear hops
    unfold thcFr
    obtain ⟨⟨y0, y1, y2⟩, ⟨y3, y4⟩, y5, y6⟩ := SS.cells hV.1; obtain ⟨y7, y8, y9⟩ := hV.2.1.cells; obtain ⟨y10, y11, y12⟩ := hV.2.2.cells
    go_simp
    refine kfit (hK _ _ (Below.refl _ V) rfl) ?_
    first | (simp only [thcFr, Act.put, List.setIfInBounds_toArray, List.set_cons_zero, List.set_cons_succ, h3, h11, h12, h13, h14, h15, h16, h17, e6]; done) | (simp only [thcFr, Act.put, List.setIfInBounds_toArray, List.set_cons_zero, List.set_cons_succ, h3, h11, h12, h13, h14, h15, h16, h17, e6]; rfl)
  -- 9: slot 74 := Op.load 39 t13
  refine And.intro ?_ ?_
  · rw [← hf]; clear hf
    refine ⟨by decide +kernel, fun x v => by kernel_rfl, fun x V hV hdep K hK => ?_⟩
    have e6 : x 6 = .bool true := depOf hdep 6 (by decide +kernel)
    clear hdep
    refine run_guard 6 71 (x 6) (by kernel_rfl) (by rw [hops]; exact thc_dst_6) (by kernel_rfl) e6 ?_; clear hops
    unfold thcFr
    obtain ⟨⟨y0, y1, y2⟩, ⟨y3, y4⟩, y5, y6⟩ := SS.cells hV.1; obtain ⟨y7, y8, y9⟩ := hV.2.1.cells; obtain ⟨y10, y11, y12⟩ := hV.2.2.cells
    go_simp
    refine kfit (hK _ _ (Below.refl _ V) rfl) ?_
    first | (simp only [thcFr, Act.put, List.setIfInBounds_toArray, List.set_cons_zero, List.set_cons_succ, h3, h11, h12, h13, h14, h15, h16, h17, e6]; done) | (simp only [thcFr, Act.put, List.setIfInBounds_toArray, List.set_cons_zero, List.set_cons_succ, h3, h11, h12, h13, h14, h15, h16, h17, e6]; rfl)
  -- 10: slot 75 := Op.load 39 t12
  refine And.intro ?_ ?_
  · rw [← hf]; clear hf
    refine ⟨by decide +kernel, fun x v => by kernel_rfl, fun x V hV hdep K hK => ?_⟩
    have e6 : x 6 = .bool true := depOf hdep 6 (by decide +kernel)
    clear hdep
    refine run_guard 6 71 (x 6) (by kernel_rfl) (by rw [hops]; exact thc_dst_6) (by kernel_rfl) e6 ?_; clear hops
    unfold thcFr
    obtain ⟨⟨y0, y1, y2⟩, ⟨y3, y4⟩, y5, y6⟩ := SS.cells hV.1; obtain ⟨y7, y8, y9⟩ := hV.2.1.cells; obtain ⟨y10, y11, y12⟩ := hV.2.2.cells
    go_simp
    refine kfit (hK _ _ (Below.refl _ V) rfl) ?_
    first | (simp only [thcFr, Act.put, List.setIfInBounds_toArray, List.set_cons_zero, List.set_cons_succ, h3, h11, h12, h13, h14, h15, h16, h17, e6]; done) | (simp only [thcFr, Act.put, List.setIfInBounds_toArray, List.set_cons_zero, List.set_cons_succ, h3, h11, h12, h13, h14, h15, h16, h17, e6]; rfl)
  -- 11: slot 76 := Op.load 34 t11
  refine And.intro ?_ ?_
  · rw [← hf]; clear hf
    refine ⟨by decide +kernel, fun x v => by kernel_rfl, fun x V hV hdep K hK => ?_⟩
    have e6 : x 6 = .bool true := depOf hdep 6 (by decide +kernel)
    clear hdep
    refine run_guard 6 71 (x 6) (by kernel_rfl) (by rw [hops]; exact thc_dst_6) (by kernel_rfl) e6 ?_; clear hops
    unfold thcFr
    obtain ⟨⟨y0, y1, y2⟩, ⟨y3, y4⟩, y5, y6⟩ := SS.cells hV.1; obtain ⟨y7, y8, y9⟩ := hV.2.1.cells; obtain ⟨y10, y11, y12⟩ := hV.2.2.cells
    go_simp
    refine kfit (hK _ _ (Below.refl _ V) rfl) ?_
    first | (simp only [thcFr, Act.put, List.setIfInBounds_toArray, List.set_cons_zero, List.set_cons_succ, h3, h11, h12, h13, h14, h15, h16, h17, e6]; done) | (simp only [thcFr, Act.put, List.setIfInBounds_toArray, List.set_cons_zero, List.set_cons_succ, h3, h11, h12, h13, h14, h15, h16, h17, e6]; rfl)
  -- 12: slot 77 := Op.call { value (Operand.func 16), args := #[t75, t76], argT
  refine And.intro ?_ ?_
  · rw [← hf]; clear hf
    refine ⟨by decide +kernel, fun x v => by kernel_rfl, fun x V hV hdep K hK => ?_⟩
    have e6 : x 6 = .bool true := depOf hdep 6 (by decide +kernel)
    have e10 : x 10 = .agg #[sx] := depOf hdep 10 (by decide +kernel)
    have e11 : x 11 = .agg #[.int .i64 (t).kind, .string (t).name, .slice pa (t).kids.length ca] := depOf hdep 11 (by decide +kernel)
    clear hdep
    refine run_guard 6 71 (x 6) (by kernel_rfl) (by rw [hops]; exact thc_dst_6) (by kernel_rfl) e6 ?_; clear hops
    unfold thcFr
    obtain ⟨HC4, HC12, HC13, HC14, HC15, HC20, HC22, HC25, HC26, HC31, HC33, HC36, HC37⟩ := HC.out
    clear HC4 HC13 HC14 HC15 HC20 HC22 HC25 HC26 HC31 HC33 HC36 HC37
    have H := HC12 V hV
    replace H := Lib.hid H; clear HC12
    go_simp
    go_at_call 16
    refine H.out.mono ?_
    rintro e Y ⟨⟨za, zc, rfl, hq⟩, hb⟩; refine kfit (hK _ _ hb ⟨za, zc, rfl, hq⟩) ?_
    first | (simp only [thcFr, Act.put, List.setIfInBounds_toArray, List.set_cons_zero, List.set_cons_succ, h3, h11, h12, h13, h14, h15, h16, h17, e6, e10, e11]; done) | (simp only [thcFr, Act.put, List.setIfInBounds_toArray, List.set_cons_zero, List.set_cons_succ, h3, h11, h12, h13, h14, h15, h16, h17, e6, e10, e11]; rfl)
  -- 13: slot 78 := Op.call { value (Operand.func 16), args := #[t74, t77], argT
  refine And.intro ?_ ?_
  · rw [← hf]; clear hf
    refine ⟨by decide +kernel, fun x v => by kernel_rfl, fun x V hV hdep K hK => ?_⟩
    have e6 : x 6 = .bool true := depOf hdep 6 (by decide +kernel)
    have e9 : x 9 = .agg #[sy] := depOf hdep 9 (by decide +kernel)
    obtain ⟨za12, zc12, e12, d12⟩ : ∃ za12 zc12, x 12 = .agg #[.int .i64 (app lx t).kind, .string (app lx t).name, .slice za12 (app lx t).kids.length zc12] ∧ TysAt V (.slice za12 (app lx t).kids.length zc12) (app lx t).kids := depOf hdep 12 (by decide +kernel)
    clear hdep
    refine run_guard 6 71 (x 6) (by kernel_rfl) (by rw [hops]; exact thc_dst_6) (by kernel_rfl) e6 ?_; clear hops
    unfold thcFr
    obtain ⟨HC4, HC12, HC13, HC14, HC15, HC20, HC22, HC25, HC26, HC31, HC33, HC36, HC37⟩ := HC.out
    clear HC4 HC12 HC14 HC15 HC20 HC22 HC25 HC26 HC31 HC33 HC36 HC37
    have H := HC13 V hV _ _ d12
    replace H := Lib.hid H; clear HC13
    go_simp
    go_at_call 16
    refine H.out.mono ?_
    rintro e Y ⟨⟨za, zc, rfl, hq⟩, hb⟩; refine kfit (hK _ _ hb ⟨za, zc, rfl, hq⟩) ?_
    first | (simp only [thcFr, Act.put, List.setIfInBounds_toArray, List.set_cons_zero, List.set_cons_succ, h3, h11, h12, h13, h14, h15, h16, h17, e6, e9, e12]; done) | (simp only [thcFr, Act.put, List.setIfInBounds_toArray, List.set_cons_zero, List.set_cons_succ, h3, h11, h12, h13, h14, h15, h16, h17, e6, e9, e12]; rfl)
  -- 14: slot 79 := Op.call { value (Operand.func 16), args := #[t73, t78], argT
  refine And.intro ?_ ?_
  · rw [← hf]; clear hf
    refine ⟨by decide +kernel, fun x v => by kernel_rfl, fun x V hV hdep K hK => ?_⟩
    have e6 : x 6 = .bool true := depOf hdep 6 (by decide +kernel)
    have e8 : x 8 = .agg #[sz] := depOf hdep 8 (by decide +kernel)
    obtain ⟨za13, zc13, e13, d13⟩ : ∃ za13 zc13, x 13 = .agg #[.int .i64 (app ly (app lx t)).kind, .string (app ly (app lx t)).name, .slice za13 (app ly (app lx t)).kids.length zc13] ∧ TysAt V (.slice za13 (app ly (app lx t)).kids.length zc13) (app ly (app lx t)).kids := depOf hdep 13 (by decide +kernel)
    clear hdep
    refine run_guard 6 71 (x 6) (by kernel_rfl) (by rw [hops]; exact thc_dst_6) (by kernel_rfl) e6 ?_; clear hops
    unfold thcFr
    obtain ⟨HC4, HC12, HC13, HC14, HC15, HC20, HC22, HC25, HC26, HC31, HC33, HC36, HC37⟩ := HC.out
    clear HC4 HC12 HC13 HC15 HC20 HC22 HC25 HC26 HC31 HC33 HC36 HC37
    have H := HC14 V hV _ _ d13
    replace H := Lib.hid H; clear HC14
    go_simp
    go_at_call 16
    refine H.out.mono ?_
    rintro e Y ⟨⟨za, zc, rfl, hq⟩, hb⟩; refine kfit (hK _ _ hb ⟨za, zc, rfl, hq⟩) ?_
    first | (simp only [thcFr, Act.put, List.setIfInBounds_toArray, List.set_cons_zero, List.set_cons_succ, h3, h11, h12, h13, h14, h15, h16, h17, e6, e8, e13]; done) | (simp only [thcFr, Act.put, List.setIfInBounds_toArray, List.set_cons_zero, List.set_cons_succ, h3, h11, h12, h13, h14, h15, h16, h17, e6, e8, e13]; rfl)
  -- 15: slot 80 := Op.call { value (Operand.func 15), args := #[t72, t79], argT
  refine And.intro ?_ ?_
  · rw [← hf]; clear hf
    refine ⟨by decide +kernel, fun x v => by kernel_rfl, fun x V hV hdep K hK => ?_⟩
    have e6 : x 6 = .bool true := depOf hdep 6 (by decide +kernel)
    have e7 : x 7 = .agg #[.int .i64 (app lz (app ly (app lx t))).kind, .string (app lz (app ly (app lx t))).name, .slice p1 (app lz (app ly (app lx t))).kids.length c1] := depOf hdep 7 (by decide +kernel)
    obtain ⟨za14, zc14, e14, d14⟩ : ∃ za14 zc14, x 14 = .agg #[.int .i64 (app lz (app ly (app lx t))).kind, .string (app lz (app ly (app lx t))).name, .slice za14 (app lz (app ly (app lx t))).kids.length zc14] ∧ TysAt V (.slice za14 (app lz (app ly (app lx t))).kids.length zc14) (app lz (app ly (app lx t))).kids := depOf hdep 14 (by decide +kernel)
    clear hdep
    refine run_guard 6 71 (x 6) (by kernel_rfl) (by rw [hops]; exact thc_dst_6) (by kernel_rfl) e6 ?_; clear hops
    unfold thcFr
    obtain ⟨HC4, HC12, HC13, HC14, HC15, HC20, HC22, HC25, HC26, HC31, HC33, HC36, HC37⟩ := HC.out
    clear HC4 HC12 HC13 HC14 HC20 HC22 HC25 HC26 HC31 HC33 HC36 HC37
    have H := HC15 V hV _ _ d14
    replace H := Lib.hid H; clear HC15
    go_simp
    go_at_call 15
    refine H.out.mono ?_
    rintro e Y ⟨rfl, hb⟩; refine kfit (hK _ _ hb rfl) ?_
    first | (simp only [thcFr, Act.put, List.setIfInBounds_toArray, List.set_cons_zero, List.set_cons_succ, h3, h11, h12, h13, h14, h15, h16, h17, e6, e7, e14]; done) | (simp only [thcFr, Act.put, List.setIfInBounds_toArray, List.set_cons_zero, List.set_cons_succ, h3, h11, h12, h13, h14, h15, h16, h17, e6, e7, e14]; rfl)
  -- 16: slot 81 := Op.pick t71 t80 (const (Value.bool false))
  refine And.intro ?_ ?_
  · rw [← hf]; clear hf
    refine ⟨by decide +kernel, fun x v => by kernel_rfl, fun x V hV hdep K hK => ?_⟩
    have e6 : x 6 = .bool true := depOf hdep 6 (by decide +kernel)
    have e15 : x 15 = .bool true := depOf hdep 15 (by decide +kernel)
    clear hdep
    refine run_bare (by kernel_rfl) ?_
    unfold thcFr
    go_simp
    refine kfit (hK _ _ (Below.refl _ V) rfl) ?_
    first | (simp only [thcFr, Act.put, List.setIfInBounds_toArray, List.set_cons_zero, List.set_cons_succ, h3, h11, h12, h13, h14, h15, h16, h17, e6, e15]; done) | (simp only [thcFr, Act.put, List.setIfInBounds_toArray, List.set_cons_zero, List.set_cons_succ, h3, h11, h12, h13, h14, h15, h16, h17, e6, e15]; rfl)
  -- 17: slot 82 := Op.move t81
  refine And.intro ?_ ?_
  · rw [← hf]; clear hf
    refine ⟨by decide +kernel, fun x v => by kernel_rfl, fun x V hV hdep K hK => ?_⟩
    have e16 : x 16 = .bool true := depOf hdep 16 (by decide +kernel)
    clear hdep
    refine run_bare (by kernel_rfl) ?_
    unfold thcFr
    go_simp
    refine kfit (hK _ _ (Below.refl _ V) rfl) ?_
    first | (simp only [thcFr, Act.put, List.setIfInBounds_toArray, List.set_cons_zero, List.set_cons_succ, h3, h11, h12, h13, h14, h15, h16, h17, e16]; done) | (simp only [thcFr, Act.put, List.setIfInBounds_toArray, List.set_cons_zero, List.set_cons_succ, h3, h11, h12, h13, h14, h15, h16, h17, e16]; rfl)
  -- 18: slot 83 := Op.load 39 t12
  refine And.intro ?_ ?_
  · rw [← hf]; clear hf
    refine ⟨by decide +kernel, fun x v => by kernel_rfl, fun x V hV hdep K hK => ?_⟩
    have e17 : x 17 = .bool true := depOf hdep 17 (by decide +kernel)
    clear hdep
    refine run_guard 17 82 (x 17) (by kernel_rfl) (by rw [hops]; exact thc_dst_17) (by kernel_rfl) e17 ?_; clear hops
    unfold thcFr
    obtain ⟨⟨y0, y1, y2⟩, ⟨y3, y4⟩, y5, y6⟩ := SS.cells hV.1; obtain ⟨y7, y8, y9⟩ := hV.2.1.cells; obtain ⟨y10, y11, y12⟩ := hV.2.2.cells
    go_simp
    refine kfit (hK _ _ (Below.refl _ V) rfl) ?_
    first | (simp only [thcFr, Act.put, List.setIfInBounds_toArray, List.set_cons_zero, List.set_cons_succ, h3, h11, h12, h13, h14, h15, h16, h17, e17]; done) | (simp only [thcFr, Act.put, List.setIfInBounds_toArray, List.set_cons_zero, List.set_cons_succ, h3, h11, h12, h13, h14, h15, h16, h17, e17]; rfl)
  -- 19: slot 84 := Op.load 39 t15
  refine And.intro ?_ ?_
  · rw [← hf]; clear hf
    refine ⟨by decide +kernel, fun x v => by kernel_rfl, fun x V hV hdep K hK => ?_⟩
    have e17 : x 17 = .bool true := depOf hdep 17 (by decide +kernel)
    clear hdep
    refine run_guard 17 82 (x 17) (by kernel_rfl) (by rw [hops]; exact thc_dst_17) (by kernel_rfl) e17 ?_; clear hops
    unfold thcFr
    obtain ⟨⟨y0, y1, y2⟩, ⟨y3, y4⟩, y5, y6⟩ := SS.cells hV.1; obtain ⟨y7, y8, y9⟩ := hV.2.1.cells; obtain ⟨y10, y11, y12⟩ := hV.2.2.cells
    go_simp
    refine kfit (hK _ _ (Below.refl _ V) rfl) ?_
    first | (simp only [thcFr, Act.put, List.setIfInBounds_toArray, List.set_cons_zero, List.set_cons_succ, h3, h11, h12, h13, h14, h15, h16, h17, e17]; done) | (simp only [thcFr, Act.put, List.setIfInBounds_toArray, List.set_cons_zero, List.set_cons_succ, h3, h11, h12, h13, h14, h15, h16, h17, e17]; rfl)
  -- 20: slot 85 := Op.call { value (Operand.func 17), args := #[t83, t84], argT
  refine And.intro ?_ ?_
  · rw [← hf]; clear hf
    refine ⟨by decide +kernel, fun x v => by kernel_rfl, fun x V hV hdep K hK => ?_⟩
    have e17 : x 17 = .bool true := depOf hdep 17 (by decide +kernel)
    have e18 : x 18 = .agg #[sx] := depOf hdep 18 (by decide +kernel)
    have e19 : x 19 = .agg #[nilV] := depOf hdep 19 (by decide +kernel)
    clear hdep
    refine run_guard 17 82 (x 17) (by kernel_rfl) (by rw [hops]; exact thc_dst_17) (by kernel_rfl) e17 ?_; clear hops
    unfold thcFr
    obtain ⟨HC4, HC12, HC13, HC14, HC15, HC20, HC22, HC25, HC26, HC31, HC33, HC36, HC37⟩ := HC.out
    clear HC4 HC12 HC13 HC14 HC15 HC22 HC25 HC26 HC31 HC33 HC36 HC37
    have H := HC20 V hV
    replace H := Lib.hid H; clear HC20
    go_simp
    go_at_call 17
    refine H.out.mono ?_
    rintro e Y ⟨⟨zv, zl, rfl, hq⟩, hb⟩; refine kfit (hK _ _ hb ⟨zv, zl, rfl, hq⟩) ?_
    first | (simp only [thcFr, Act.put, List.setIfInBounds_toArray, List.set_cons_zero, List.set_cons_succ, h3, h11, h12, h13, h14, h15, h16, h17, e17, e18, e19]; done) | (simp only [thcFr, Act.put, List.setIfInBounds_toArray, List.set_cons_zero, List.set_cons_succ, h3, h11, h12, h13, h14, h15, h16, h17, e17, e18, e19]; rfl)
  -- 21: slot 86 := Op.load 34 t11
  refine And.intro ?_ ?_
  · rw [← hf]; clear hf
    refine ⟨by decide +kernel, fun x v => by kernel_rfl, fun x V hV hdep K hK => ?_⟩
    have e17 : x 17 = .bool true := depOf hdep 17 (by decide +kernel)
    clear hdep
    refine run_guard 17 82 (x 17) (by kernel_rfl) (by rw [hops]; exact thc_dst_17) (by kernel_rfl) e17 ?_; clear hops
    unfold thcFr
    obtain ⟨⟨y0, y1, y2⟩, ⟨y3, y4⟩, y5, y6⟩ := SS.cells hV.1; obtain ⟨y7, y8, y9⟩ := hV.2.1.cells; obtain ⟨y10, y11, y12⟩ := hV.2.2.cells
    go_simp
    refine kfit (hK _ _ (Below.refl _ V) rfl) ?_
    first | (simp only [thcFr, Act.put, List.setIfInBounds_toArray, List.set_cons_zero, List.set_cons_succ, h3, h11, h12, h13, h14, h15, h16, h17, e17]; done) | (simp only [thcFr, Act.put, List.setIfInBounds_toArray, List.set_cons_zero, List.set_cons_succ, h3, h11, h12, h13, h14, h15, h16, h17, e17]; rfl)
  -- 22: slot 87 := Op.call { value (Operand.func 16), args := #[t85, t86], argT
  refine And.intro ?_ ?_
  · rw [← hf]; clear hf
    refine ⟨by decide +kernel, fun x v => by kernel_rfl, fun x V hV hdep K hK => ?_⟩
    have e17 : x 17 = .bool true := depOf hdep 17 (by decide +kernel)
    obtain ⟨zv20, zl20, e20, d20⟩ : ∃ zv20 zl20, x 20 = .agg #[zv20] ∧ (SubAt zv20 zl20 V ∧ Sb 56 4 (fun t => app lx t) zl20) := depOf hdep 20 (by decide +kernel)
    have e21 : x 21 = .agg #[.int .i64 (t).kind, .string (t).name, .slice pa (t).kids.length ca] := depOf hdep 21 (by decide +kernel)
    clear hdep
    refine run_guard 17 82 (x 17) (by kernel_rfl) (by rw [hops]; exact thc_dst_17) (by kernel_rfl) e17 ?_; clear hops
    unfold thcFr
    obtain ⟨HC4, HC12, HC13, HC14, HC15, HC20, HC22, HC25, HC26, HC31, HC33, HC36, HC37⟩ := HC.out
    clear HC4 HC12 HC13 HC14 HC15 HC20 HC25 HC26 HC31 HC33 HC36 HC37
    have H := HC22 V hV _ _ d20
    replace H := Lib.hid H; clear HC22
    go_simp
    go_at_call 16
    refine H.out.mono ?_
    rintro e Y ⟨⟨za, zc, rfl, hq⟩, hb⟩; refine kfit (hK _ _ hb ⟨za, zc, rfl, hq⟩) ?_
    first | (simp only [thcFr, Act.put, List.setIfInBounds_toArray, List.set_cons_zero, List.set_cons_succ, h3, h11, h12, h13, h14, h15, h16, h17, e17, e20, e21]; done) | (simp only [thcFr, Act.put, List.setIfInBounds_toArray, List.set_cons_zero, List.set_cons_succ, h3, h11, h12, h13, h14, h15, h16, h17, e17, e20, e21]; rfl)
  -- 23: slot 88 := Op.load 39 t12
  refine And.intro ?_ ?_
  · rw [← hf]; clear hf
    refine ⟨by decide +kernel, fun x v => by kernel_rfl, fun x V hV hdep K hK => ?_⟩
    have e17 : x 17 = .bool true := depOf hdep 17 (by decide +kernel)
    clear hdep
    refine run_guard 17 82 (x 17) (by kernel_rfl) (by rw [hops]; exact thc_dst_17) (by kernel_rfl) e17 ?_; clear hops
    unfold thcFr
    obtain ⟨⟨y0, y1, y2⟩, ⟨y3, y4⟩, y5, y6⟩ := SS.cells hV.1; obtain ⟨y7, y8, y9⟩ := hV.2.1.cells; obtain ⟨y10, y11, y12⟩ := hV.2.2.cells
    go_simp
    refine kfit (hK _ _ (Below.refl _ V) rfl) ?_
    first | (simp only [thcFr, Act.put, List.setIfInBounds_toArray, List.set_cons_zero, List.set_cons_succ, h3, h11, h12, h13, h14, h15, h16, h17, e17]; done) | (simp only [thcFr, Act.put, List.setIfInBounds_toArray, List.set_cons_zero, List.set_cons_succ, h3, h11, h12, h13, h14, h15, h16, h17, e17]; rfl)
  -- 24: slot 89 := Op.load 34 t11
  refine And.intro ?_ ?_
  · rw [← hf]; clear hf
    refine ⟨by decide +kernel, fun x v => by kernel_rfl, fun x V hV hdep K hK => ?_⟩
    have e17 : x 17 = .bool true := depOf hdep 17 (by decide +kernel)
    clear hdep
    refine run_guard 17 82 (x 17) (by kernel_rfl) (by rw [hops]; exact thc_dst_17) (by kernel_rfl) e17 ?_; clear hops
    unfold thcFr
    obtain ⟨⟨y0, y1, y2⟩, ⟨y3, y4⟩, y5, y6⟩ := SS.cells hV.1; obtain ⟨y7, y8, y9⟩ := hV.2.1.cells; obtain ⟨y10, y11, y12⟩ := hV.2.2.cells
    go_simp
    refine kfit (hK _ _ (Below.refl _ V) rfl) ?_
    first | (simp only [thcFr, Act.put, List.setIfInBounds_toArray, List.set_cons_zero, List.set_cons_succ, h3, h11, h12, h13, h14, h15, h16, h17, e17]; done) | (simp only [thcFr, Act.put, List.setIfInBounds_toArray, List.set_cons_zero, List.set_cons_succ, h3, h11, h12, h13, h14, h15, h16, h17, e17]; rfl)
  -- 25: slot 90 := Op.call { value (Operand.func 16), args := #[t88, t89], argT
  refine And.intro ?_ ?_
  · rw [← hf]; clear hf
    refine ⟨by decide +kernel, fun x v => by kernel_rfl, fun x V hV hdep K hK => ?_⟩
    have e17 : x 17 = .bool true := depOf hdep 17 (by decide +kernel)
    have e23 : x 23 = .agg #[sx] := depOf hdep 23 (by decide +kernel)
    have e24 : x 24 = .agg #[.int .i64 (t).kind, .string (t).name, .slice pa (t).kids.length ca] := depOf hdep 24 (by decide +kernel)
    clear hdep
    refine run_guard 17 82 (x 17) (by kernel_rfl) (by rw [hops]; exact thc_dst_17) (by kernel_rfl) e17 ?_; clear hops
    unfold thcFr
    obtain ⟨HC4, HC12, HC13, HC14, HC15, HC20, HC22, HC25, HC26, HC31, HC33, HC36, HC37⟩ := HC.out
    clear HC4 HC12 HC13 HC14 HC15 HC20 HC22 HC26 HC31 HC33 HC36 HC37
    have H := HC25 V hV
    replace H := Lib.hid H; clear HC25
    go_simp
    go_at_call 16
    refine H.out.mono ?_
    rintro e Y ⟨⟨za, zc, rfl, hq⟩, hb⟩; refine kfit (hK _ _ hb ⟨za, zc, rfl, hq⟩) ?_
    first | (simp only [thcFr, Act.put, List.setIfInBounds_toArray, List.set_cons_zero, List.set_cons_succ, h3, h11, h12, h13, h14, h15, h16, h17, e17, e23, e24]; done) | (simp only [thcFr, Act.put, List.setIfInBounds_toArray, List.set_cons_zero, List.set_cons_succ, h3, h11, h12, h13, h14, h15, h16, h17, e17, e23, e24]; rfl)
  -- 26: slot 91 := Op.call { value (Operand.func 15), args := #[t87, t90], argT
  refine And.intro ?_ ?_
  · rw [← hf]; clear hf
    refine ⟨by decide +kernel, fun x v => by kernel_rfl, fun x V hV hdep K hK => ?_⟩
    have e17 : x 17 = .bool true := depOf hdep 17 (by decide +kernel)
    obtain ⟨za22, zc22, e22, d22⟩ : ∃ za22 zc22, x 22 = .agg #[.int .i64 (app lx t).kind, .string (app lx t).name, .slice za22 (app lx t).kids.length zc22] ∧ TysAt V (.slice za22 (app lx t).kids.length zc22) (app lx t).kids := depOf hdep 22 (by decide +kernel)
    obtain ⟨za25, zc25, e25, d25⟩ : ∃ za25 zc25, x 25 = .agg #[.int .i64 (app lx t).kind, .string (app lx t).name, .slice za25 (app lx t).kids.length zc25] ∧ TysAt V (.slice za25 (app lx t).kids.length zc25) (app lx t).kids := depOf hdep 25 (by decide +kernel)
    clear hdep
    refine run_guard 17 82 (x 17) (by kernel_rfl) (by rw [hops]; exact thc_dst_17) (by kernel_rfl) e17 ?_; clear hops
    unfold thcFr
    obtain ⟨HC4, HC12, HC13, HC14, HC15, HC20, HC22, HC25, HC26, HC31, HC33, HC36, HC37⟩ := HC.out
    clear HC4 HC12 HC13 HC14 HC15 HC20 HC22 HC25 HC31 HC33 HC36 HC37
    have H := HC26 V hV _ _ d22 _ _ d25
    replace H := Lib.hid H; clear HC26
    go_simp
    go_at_call 15
    refine H.out.mono ?_
    rintro e Y ⟨rfl, hb⟩; refine kfit (hK _ _ hb rfl) ?_
    first | (simp only [thcFr, Act.put, List.setIfInBounds_toArray, List.set_cons_zero, List.set_cons_succ, h3, h11, h12, h13, h14, h15, h16, h17, e17, e22, e25]; done) | (simp only [thcFr, Act.put, List.setIfInBounds_toArray, List.set_cons_zero, List.set_cons_succ, h3, h11, h12, h13, h14, h15, h16, h17, e17, e22, e25]; rfl)
  -- 27: slot 92 := Op.pick t82 t91 (const (Value.bool false))
  refine And.intro ?_ ?_
  · rw [← hf]; clear hf
    refine ⟨by decide +kernel, fun x v => by kernel_rfl, fun x V hV hdep K hK => ?_⟩
    have e17 : x 17 = .bool true := depOf hdep 17 (by decide +kernel)
    have e26 : x 26 = .bool true := depOf hdep 26 (by decide +kernel)
    clear hdep
    refine run_bare (by kernel_rfl) ?_
    unfold thcFr
    go_simp
    refine kfit (hK _ _ (Below.refl _ V) rfl) ?_
    first | (simp only [thcFr, Act.put, List.setIfInBounds_toArray, List.set_cons_zero, List.set_cons_succ, h3, h11, h12, h13, h14, h15, h16, h17, e17, e26]; done) | (simp only [thcFr, Act.put, List.setIfInBounds_toArray, List.set_cons_zero, List.set_cons_succ, h3, h11, h12, h13, h14, h15, h16, h17, e17, e26]; rfl)
  -- 28: slot 93 := Op.move t92
  refine And.intro ?_ ?_
  · rw [← hf]; clear hf
    refine ⟨by decide +kernel, fun x v => by kernel_rfl, fun x V hV hdep K hK => ?_⟩
    have e27 : x 27 = .bool true := depOf hdep 27 (by decide +kernel)
    clear hdep
    refine run_bare (by kernel_rfl) ?_
    unfold thcFr
    go_simp
    refine kfit (hK _ _ (Below.refl _ V) rfl) ?_
    first | (simp only [thcFr, Act.put, List.setIfInBounds_toArray, List.set_cons_zero, List.set_cons_succ, h3, h11, h12, h13, h14, h15, h16, h17, e27]; done) | (simp only [thcFr, Act.put, List.setIfInBounds_toArray, List.set_cons_zero, List.set_cons_succ, h3, h11, h12, h13, h14, h15, h16, h17, e27]; rfl)
  -- 29: slot 94 := Op.load 39 t15
  refine And.intro ?_ ?_
  · rw [← hf]; clear hf
    refine ⟨by decide +kernel, fun x v => by kernel_rfl, fun x V hV hdep K hK => ?_⟩
    have e28 : x 28 = .bool true := depOf hdep 28 (by decide +kernel)
    clear hdep
    refine run_guard 28 93 (x 28) (by kernel_rfl) (by rw [hops]; exact thc_dst_28) (by kernel_rfl) e28 ?_; clear hops
    unfold thcFr
    obtain ⟨⟨y0, y1, y2⟩, ⟨y3, y4⟩, y5, y6⟩ := SS.cells hV.1; obtain ⟨y7, y8, y9⟩ := hV.2.1.cells; obtain ⟨y10, y11, y12⟩ := hV.2.2.cells
    go_simp
    refine kfit (hK _ _ (Below.refl _ V) rfl) ?_
    first | (simp only [thcFr, Act.put, List.setIfInBounds_toArray, List.set_cons_zero, List.set_cons_succ, h3, h11, h12, h13, h14, h15, h16, h17, e28]; done) | (simp only [thcFr, Act.put, List.setIfInBounds_toArray, List.set_cons_zero, List.set_cons_succ, h3, h11, h12, h13, h14, h15, h16, h17, e28]; rfl)
  -- 30: slot 95 := Op.load 39 t12
  refine And.intro ?_ ?_
  · rw [← hf]; clear hf
    refine ⟨by decide +kernel, fun x v => by kernel_rfl, fun x V hV hdep K hK => ?_⟩
    have e28 : x 28 = .bool true := depOf hdep 28 (by decide +kernel)
    clear hdep
    refine run_guard 28 93 (x 28) (by kernel_rfl) (by rw [hops]; exact thc_dst_28) (by kernel_rfl) e28 ?_; clear hops
    unfold thcFr
    obtain ⟨⟨y0, y1, y2⟩, ⟨y3, y4⟩, y5, y6⟩ := SS.cells hV.1; obtain ⟨y7, y8, y9⟩ := hV.2.1.cells; obtain ⟨y10, y11, y12⟩ := hV.2.2.cells
    go_simp
    refine kfit (hK _ _ (Below.refl _ V) rfl) ?_
    first | (simp only [thcFr, Act.put, List.setIfInBounds_toArray, List.set_cons_zero, List.set_cons_succ, h3, h11, h12, h13, h14, h15, h16, h17, e28]; done) | (simp only [thcFr, Act.put, List.setIfInBounds_toArray, List.set_cons_zero, List.set_cons_succ, h3, h11, h12, h13, h14, h15, h16, h17, e28]; rfl)
  -- 31: slot 96 := Op.call { value (Operand.func 17), args := #[t94, t95], argT
  refine And.intro ?_ ?_
  · rw [← hf]; clear hf
    refine ⟨by decide +kernel, fun x v => by kernel_rfl, fun x V hV hdep K hK => ?_⟩
    have e28 : x 28 = .bool true := depOf hdep 28 (by decide +kernel)
    have e29 : x 29 = .agg #[nilV] := depOf hdep 29 (by decide +kernel)
    have e30 : x 30 = .agg #[sx] := depOf hdep 30 (by decide +kernel)
    clear hdep
    refine run_guard 28 93 (x 28) (by kernel_rfl) (by rw [hops]; exact thc_dst_28) (by kernel_rfl) e28 ?_; clear hops
    unfold thcFr
    obtain ⟨HC4, HC12, HC13, HC14, HC15, HC20, HC22, HC25, HC26, HC31, HC33, HC36, HC37⟩ := HC.out
    clear HC4 HC12 HC13 HC14 HC15 HC20 HC22 HC25 HC26 HC33 HC36 HC37
    have H := HC31 V hV
    replace H := Lib.hid H; clear HC31
    go_simp
    go_at_call 17
    refine H.out.mono ?_
    rintro e Y ⟨⟨zv, zl, rfl, hq⟩, hb⟩; refine kfit (hK _ _ hb ⟨zv, zl, rfl, hq⟩) ?_
    first | (simp only [thcFr, Act.put, List.setIfInBounds_toArray, List.set_cons_zero, List.set_cons_succ, h3, h11, h12, h13, h14, h15, h16, h17, e28, e29, e30]; done) | (simp only [thcFr, Act.put, List.setIfInBounds_toArray, List.set_cons_zero, List.set_cons_succ, h3, h11, h12, h13, h14, h15, h16, h17, e28, e29, e30]; rfl)
  -- 32: slot 97 := Op.load 34 t11
  refine And.intro ?_ ?_
  · rw [← hf]; clear hf
    refine ⟨by decide +kernel, fun x v => by kernel_rfl, fun x V hV hdep K hK => ?_⟩
    have e28 : x 28 = .bool true := depOf hdep 28 (by decide +kernel)
    clear hdep
    refine run_guard 28 93 (x 28) (by kernel_rfl) (by rw [hops]; exact thc_dst_28) (by kernel_rfl) e28 ?_; clear hops
    unfold thcFr
    obtain ⟨⟨y0, y1, y2⟩, ⟨y3, y4⟩, y5, y6⟩ := SS.cells hV.1; obtain ⟨y7, y8, y9⟩ := hV.2.1.cells; obtain ⟨y10, y11, y12⟩ := hV.2.2.cells
    go_simp
    refine kfit (hK _ _ (Below.refl _ V) rfl) ?_
    first | (simp only [thcFr, Act.put, List.setIfInBounds_toArray, List.set_cons_zero, List.set_cons_succ, h3, h11, h12, h13, h14, h15, h16, h17, e28]; done) | (simp only [thcFr, Act.put, List.setIfInBounds_toArray, List.set_cons_zero, List.set_cons_succ, h3, h11, h12, h13, h14, h15, h16, h17, e28]; rfl)
  -- 33: slot 98 := Op.call { value (Operand.func 16), args := #[t96, t97], argT
  refine And.intro ?_ ?_
  · rw [← hf]; clear hf
    refine ⟨by decide +kernel, fun x v => by kernel_rfl, fun x V hV hdep K hK => ?_⟩
    have e28 : x 28 = .bool true := depOf hdep 28 (by decide +kernel)
    obtain ⟨zv31, zl31, e31, d31⟩ : ∃ zv31 zl31, x 31 = .agg #[zv31] ∧ (SubAt zv31 zl31 V ∧ Sb 56 4 (fun t => app lx t) zl31) := depOf hdep 31 (by decide +kernel)
    have e32 : x 32 = .agg #[.int .i64 (t).kind, .string (t).name, .slice pa (t).kids.length ca] := depOf hdep 32 (by decide +kernel)
    clear hdep
    refine run_guard 28 93 (x 28) (by kernel_rfl) (by rw [hops]; exact thc_dst_28) (by kernel_rfl) e28 ?_; clear hops
    unfold thcFr
    obtain ⟨HC4, HC12, HC13, HC14, HC15, HC20, HC22, HC25, HC26, HC31, HC33, HC36, HC37⟩ := HC.out
    clear HC4 HC12 HC13 HC14 HC15 HC20 HC22 HC25 HC26 HC31 HC36 HC37
    have H := HC33 V hV _ _ d31
    replace H := Lib.hid H; clear HC33
    go_simp
    go_at_call 16
    refine H.out.mono ?_
    rintro e Y ⟨⟨za, zc, rfl, hq⟩, hb⟩; refine kfit (hK _ _ hb ⟨za, zc, rfl, hq⟩) ?_
    first | (simp only [thcFr, Act.put, List.setIfInBounds_toArray, List.set_cons_zero, List.set_cons_succ, h3, h11, h12, h13, h14, h15, h16, h17, e28, e31, e32]; done) | (simp only [thcFr, Act.put, List.setIfInBounds_toArray, List.set_cons_zero, List.set_cons_succ, h3, h11, h12, h13, h14, h15, h16, h17, e28, e31, e32]; rfl)
  -- 34: slot 99 := Op.load 39 t12
  refine And.intro ?_ ?_
  · rw [← hf]; clear hf
    refine ⟨by decide +kernel, fun x v => by kernel_rfl, fun x V hV hdep K hK => ?_⟩
    have e28 : x 28 = .bool true := depOf hdep 28 (by decide +kernel)
    clear hdep
    refine run_guard 28 93 (x 28) (by kernel_rfl) (by rw [hops]; exact thc_dst_28) (by kernel_rfl) e28 ?_; clear hops
    unfold thcFr
    obtain ⟨⟨y0, y1, y2⟩, ⟨y3, y4⟩, y5, y6⟩ := SS.cells hV.1; obtain ⟨y7, y8, y9⟩ := hV.2.1.cells; obtain ⟨y10, y11, y12⟩ := hV.2.2.cells
    go_simp
    refine kfit (hK _ _ (Below.refl _ V) rfl) ?_
    first | (simp only [thcFr, Act.put, List.setIfInBounds_toArray, List.set_cons_zero, List.set_cons_succ, h3, h11, h12, h13, h14, h15, h16, h17, e28]; done) | (simp only [thcFr, Act.put, List.setIfInBounds_toArray, List.set_cons_zero, List.set_cons_succ, h3, h11, h12, h13, h14, h15, h16, h17, e28]; rfl)
  -- 35: slot 100 := Op.load 34 t11
  refine And.intro ?_ ?_
  · rw [← hf]; clear hf
    refine ⟨by decide +kernel, fun x v => by kernel_rfl, fun x V hV hdep K hK => ?_⟩
    have e28 : x 28 = .bool true := depOf hdep 28 (by decide +kernel)
    clear hdep
    refine run_guard 28 93 (x 28) (by kernel_rfl) (by rw [hops]; exact thc_dst_28) (by kernel_rfl) e28 ?_; clear hops
    unfold thcFr
    obtain ⟨⟨y0, y1, y2⟩, ⟨y3, y4⟩, y5, y6⟩ := SS.cells hV.1; obtain ⟨y7, y8, y9⟩ := hV.2.1.cells; obtain ⟨y10, y11, y12⟩ := hV.2.2.cells
    go_simp
    refine kfit (hK _ _ (Below.refl _ V) rfl) ?_
    first | (simp only [thcFr, Act.put, List.setIfInBounds_toArray, List.set_cons_zero, List.set_cons_succ, h3, h11, h12, h13, h14, h15, h16, h17, e28]; done) | (simp only [thcFr, Act.put, List.setIfInBounds_toArray, List.set_cons_zero, List.set_cons_succ, h3, h11, h12, h13, h14, h15, h16, h17, e28]; rfl)
  -- 36: slot 101 := Op.call { value (Operand.func 16), args := #[t99, t100], arg
  refine And.intro ?_ ?_
  · rw [← hf]; clear hf
    refine ⟨by decide +kernel, fun x v => by kernel_rfl, fun x V hV hdep K hK => ?_⟩
    have e28 : x 28 = .bool true := depOf hdep 28 (by decide +kernel)
    have e34 : x 34 = .agg #[sx] := depOf hdep 34 (by decide +kernel)
    have e35 : x 35 = .agg #[.int .i64 (t).kind, .string (t).name, .slice pa (t).kids.length ca] := depOf hdep 35 (by decide +kernel)
    clear hdep
    refine run_guard 28 93 (x 28) (by kernel_rfl) (by rw [hops]; exact thc_dst_28) (by kernel_rfl) e28 ?_; clear hops
    unfold thcFr
    obtain ⟨HC4, HC12, HC13, HC14, HC15, HC20, HC22, HC25, HC26, HC31, HC33, HC36, HC37⟩ := HC.out
    clear HC4 HC12 HC13 HC14 HC15 HC20 HC22 HC25 HC26 HC31 HC33 HC37
    have H := HC36 V hV
    replace H := Lib.hid H; clear HC36
    go_simp
    go_at_call 16
    refine H.out.mono ?_
    rintro e Y ⟨⟨za, zc, rfl, hq⟩, hb⟩; refine kfit (hK _ _ hb ⟨za, zc, rfl, hq⟩) ?_
    first | (simp only [thcFr, Act.put, List.setIfInBounds_toArray, List.set_cons_zero, List.set_cons_succ, h3, h11, h12, h13, h14, h15, h16, h17, e28, e34, e35]; done) | (simp only [thcFr, Act.put, List.setIfInBounds_toArray, List.set_cons_zero, List.set_cons_succ, h3, h11, h12, h13, h14, h15, h16, h17, e28, e34, e35]; rfl)
  -- 37: slot 102 := Op.call { value (Operand.func 15), args := #[t98, t101], arg
  refine And.intro ?_ ?_
  · rw [← hf]; clear hf
    refine ⟨by decide +kernel, fun x v => by kernel_rfl, fun x V hV hdep K hK => ?_⟩
    have e28 : x 28 = .bool true := depOf hdep 28 (by decide +kernel)
    obtain ⟨za33, zc33, e33, d33⟩ : ∃ za33 zc33, x 33 = .agg #[.int .i64 (app lx t).kind, .string (app lx t).name, .slice za33 (app lx t).kids.length zc33] ∧ TysAt V (.slice za33 (app lx t).kids.length zc33) (app lx t).kids := depOf hdep 33 (by decide +kernel)
    obtain ⟨za36, zc36, e36, d36⟩ : ∃ za36 zc36, x 36 = .agg #[.int .i64 (app lx t).kind, .string (app lx t).name, .slice za36 (app lx t).kids.length zc36] ∧ TysAt V (.slice za36 (app lx t).kids.length zc36) (app lx t).kids := depOf hdep 36 (by decide +kernel)
    clear hdep
    refine run_guard 28 93 (x 28) (by kernel_rfl) (by rw [hops]; exact thc_dst_28) (by kernel_rfl) e28 ?_; clear hops
    unfold thcFr
    obtain ⟨HC4, HC12, HC13, HC14, HC15, HC20, HC22, HC25, HC26, HC31, HC33, HC36, HC37⟩ := HC.out
    clear HC4 HC12 HC13 HC14 HC15 HC20 HC22 HC25 HC26 HC31 HC33 HC36
    have H := HC37 V hV _ _ d33 _ _ d36
    replace H := Lib.hid H; clear HC37
    go_simp
    go_at_call 15
    refine H.out.mono ?_
    rintro e Y ⟨rfl, hb⟩; refine kfit (hK _ _ hb rfl) ?_
    first | (simp only [thcFr, Act.put, List.setIfInBounds_toArray, List.set_cons_zero, List.set_cons_succ, h3, h11, h12, h13, h14, h15, h16, h17, e28, e33, e36]; done) | (simp only [thcFr, Act.put, List.setIfInBounds_toArray, List.set_cons_zero, List.set_cons_succ, h3, h11, h12, h13, h14, h15, h16, h17, e28, e33, e36]; rfl)
  -- 38: slot 103 := Op.pick t93 t102 (const (Value.bool false))
  refine And.intro ?_ ?_
  · rw [← hf]; clear hf
    refine ⟨by decide +kernel, fun x v => by kernel_rfl, fun x V hV hdep K hK => ?_⟩
    have e28 : x 28 = .bool true := depOf hdep 28 (by decide +kernel)
    have e37 : x 37 = .bool true := depOf hdep 37 (by decide +kernel)
    clear hdep
    refine run_bare (by kernel_rfl) ?_
    unfold thcFr
    go_simp
    refine kfit (hK _ _ (Below.refl _ V) rfl) ?_
    first | (simp only [thcFr, Act.put, List.setIfInBounds_toArray, List.set_cons_zero, List.set_cons_succ, h3, h11, h12, h13, h14, h15, h16, h17, e28, e37]; done) | (simp only [thcFr, Act.put, List.setIfInBounds_toArray, List.set_cons_zero, List.set_cons_succ, h3, h11, h12, h13, h14, h15, h16, h17, e28, e37]; rfl)
  -- 39: slot 2 := Op.assign t103
  refine And.intro ?_ ?_
  · rw [← hf]; clear hf
    refine ⟨by decide +kernel, fun x v => by kernel_rfl, fun x V hV hdep K hK => ?_⟩
    have e38 : x 38 = .bool true := depOf hdep 38 (by decide +kernel)
    clear hdep
    refine run_bare (by kernel_rfl) ?_
    unfold thcFr
    go_simp
    refine kfit (hK _ _ (Below.refl _ V) rfl) ?_
    first | (simp only [thcFr, Act.put, List.setIfInBounds_toArray, List.set_cons_zero, List.set_cons_succ, h3, h11, h12, h13, h14, h15, h16, h17, e38]; done) | (simp only [thcFr, Act.put, List.setIfInBounds_toArray, List.set_cons_zero, List.set_cons_succ, h3, h11, h12, h13, h14, h15, h16, h17, e38]; rfl)
  exact trivial
theorem thc_here {w : World} {b11 b12 b13 b14 b15 : Nat} {t : T} {pa : Option Addr} {ca : Nat} {sx sy sz : Value} {lx ly lz : List PR} {b16 : Nat} {p1 : Option Addr} {c1 : Nat} {b17 : Nat} {p2 : Option Addr} {c2 : Nat}
    (HC4 : ∀ V, SS w b11 b12 b13 b14 b15 t pa ca sx sy sz lx ly lz V ∧ BoxT b16 (app lz (app ly (app lx t))) p1 c1 V ∧ BoxT b17 (app lz (app ly (app lx t))) p2 c2 V → Calls Try.prog 15 #[.agg #[.int .i64 (app lz (app ly (app lx t))).kind, .string (app lz (app ly (app lx t))).name, .slice p1 (app lz (app ly (app lx t))).kids.length c1], .agg #[.int .i64 (app lz (app ly (app lx t))).kind, .string (app lz (app ly (app lx t))).name, .slice p2 (app lz (app ly (app lx t))).kids.length c2]] V fun e Y => e = .returned (.bool true) ∧ Below V.heap.size V Y)
    (HC12 : ∀ V, SS w b11 b12 b13 b14 b15 t pa ca sx sy sz lx ly lz V ∧ BoxT b16 (app lz (app ly (app lx t))) p1 c1 V ∧ BoxT b17 (app lz (app ly (app lx t))) p2 c2 V → Calls Try.prog 16 #[.agg #[sx], .agg #[.int .i64 (t).kind, .string (t).name, .slice pa (t).kids.length ca]] V fun e Y => (∃ za zc, e = .returned (.agg #[.int .i64 (app lx t).kind, .string (app lx t).name, .slice za (app lx t).kids.length zc]) ∧ TysAt Y (.slice za (app lx t).kids.length zc) (app lx t).kids) ∧ Below V.heap.size V Y)
    (HC13 : ∀ V, SS w b11 b12 b13 b14 b15 t pa ca sx sy sz lx ly lz V ∧ BoxT b16 (app lz (app ly (app lx t))) p1 c1 V ∧ BoxT b17 (app lz (app ly (app lx t))) p2 c2 V → ∀ za12, ∀ zc12, TysAt V (.slice za12 (app lx t).kids.length zc12) (app lx t).kids → Calls Try.prog 16 #[.agg #[sy], .agg #[.int .i64 (app lx t).kind, .string (app lx t).name, .slice za12 (app lx t).kids.length zc12]] V fun e Y => (∃ za zc, e = .returned (.agg #[.int .i64 (app ly (app lx t)).kind, .string (app ly (app lx t)).name, .slice za (app ly (app lx t)).kids.length zc]) ∧ TysAt Y (.slice za (app ly (app lx t)).kids.length zc) (app ly (app lx t)).kids) ∧ Below V.heap.size V Y)
    (HC14 : ∀ V, SS w b11 b12 b13 b14 b15 t pa ca sx sy sz lx ly lz V ∧ BoxT b16 (app lz (app ly (app lx t))) p1 c1 V ∧ BoxT b17 (app lz (app ly (app lx t))) p2 c2 V → ∀ za13, ∀ zc13, TysAt V (.slice za13 (app ly (app lx t)).kids.length zc13) (app ly (app lx t)).kids → Calls Try.prog 16 #[.agg #[sz], .agg #[.int .i64 (app ly (app lx t)).kind, .string (app ly (app lx t)).name, .slice za13 (app ly (app lx t)).kids.length zc13]] V fun e Y => (∃ za zc, e = .returned (.agg #[.int .i64 (app lz (app ly (app lx t))).kind, .string (app lz (app ly (app lx t))).name, .slice za (app lz (app ly (app lx t))).kids.length zc]) ∧ TysAt Y (.slice za (app lz (app ly (app lx t))).kids.length zc) (app lz (app ly (app lx t))).kids) ∧ Below V.heap.size V Y)
    (HC15 : ∀ V, SS w b11 b12 b13 b14 b15 t pa ca sx sy sz lx ly lz V ∧ BoxT b16 (app lz (app ly (app lx t))) p1 c1 V ∧ BoxT b17 (app lz (app ly (app lx t))) p2 c2 V → ∀ za14, ∀ zc14, TysAt V (.slice za14 (app lz (app ly (app lx t))).kids.length zc14) (app lz (app ly (app lx t))).kids → Calls Try.prog 15 #[.agg #[.int .i64 (app lz (app ly (app lx t))).kind, .string (app lz (app ly (app lx t))).name, .slice p1 (app lz (app ly (app lx t))).kids.length c1], .agg #[.int .i64 (app lz (app ly (app lx t))).kind, .string (app lz (app ly (app lx t))).name, .slice za14 (app lz (app ly (app lx t))).kids.length zc14]] V fun e Y => e = .returned (.bool true) ∧ Below V.heap.size V Y)
    (HC20 : ∀ V, SS w b11 b12 b13 b14 b15 t pa ca sx sy sz lx ly lz V ∧ BoxT b16 (app lz (app ly (app lx t))) p1 c1 V ∧ BoxT b17 (app lz (app ly (app lx t))) p2 c2 V → Calls Try.prog 17 #[.agg #[sx], .agg #[nilV]] V fun e Y => (∃ zv zl, e = .returned (.agg #[zv]) ∧ (SubAt zv zl Y ∧ Sb 56 4 (fun t => app lx t) zl)) ∧ Below V.heap.size V Y)
    (HC22 : ∀ V, SS w b11 b12 b13 b14 b15 t pa ca sx sy sz lx ly lz V ∧ BoxT b16 (app lz (app ly (app lx t))) p1 c1 V ∧ BoxT b17 (app lz (app ly (app lx t))) p2 c2 V → ∀ zv20, ∀ zl20, (SubAt zv20 zl20 V ∧ Sb 56 4 (fun t => app lx t) zl20) → Calls Try.prog 16 #[.agg #[zv20], .agg #[.int .i64 (t).kind, .string (t).name, .slice pa (t).kids.length ca]] V fun e Y => (∃ za zc, e = .returned (.agg #[.int .i64 (app lx t).kind, .string (app lx t).name, .slice za (app lx t).kids.length zc]) ∧ TysAt Y (.slice za (app lx t).kids.length zc) (app lx t).kids) ∧ Below V.heap.size V Y)
    (HC25 : ∀ V, SS w b11 b12 b13 b14 b15 t pa ca sx sy sz lx ly lz V ∧ BoxT b16 (app lz (app ly (app lx t))) p1 c1 V ∧ BoxT b17 (app lz (app ly (app lx t))) p2 c2 V → Calls Try.prog 16 #[.agg #[sx], .agg #[.int .i64 (t).kind, .string (t).name, .slice pa (t).kids.length ca]] V fun e Y => (∃ za zc, e = .returned (.agg #[.int .i64 (app lx t).kind, .string (app lx t).name, .slice za (app lx t).kids.length zc]) ∧ TysAt Y (.slice za (app lx t).kids.length zc) (app lx t).kids) ∧ Below V.heap.size V Y)
    (HC26 : ∀ V, SS w b11 b12 b13 b14 b15 t pa ca sx sy sz lx ly lz V ∧ BoxT b16 (app lz (app ly (app lx t))) p1 c1 V ∧ BoxT b17 (app lz (app ly (app lx t))) p2 c2 V → ∀ za22, ∀ zc22, TysAt V (.slice za22 (app lx t).kids.length zc22) (app lx t).kids → ∀ za25, ∀ zc25, TysAt V (.slice za25 (app lx t).kids.length zc25) (app lx t).kids → Calls Try.prog 15 #[.agg #[.int .i64 (app lx t).kind, .string (app lx t).name, .slice za22 (app lx t).kids.length zc22], .agg #[.int .i64 (app lx t).kind, .string (app lx t).name, .slice za25 (app lx t).kids.length zc25]] V fun e Y => e = .returned (.bool true) ∧ Below V.heap.size V Y)
    (HC31 : ∀ V, SS w b11 b12 b13 b14 b15 t pa ca sx sy sz lx ly lz V ∧ BoxT b16 (app lz (app ly (app lx t))) p1 c1 V ∧ BoxT b17 (app lz (app ly (app lx t))) p2 c2 V → Calls Try.prog 17 #[.agg #[nilV], .agg #[sx]] V fun e Y => (∃ zv zl, e = .returned (.agg #[zv]) ∧ (SubAt zv zl Y ∧ Sb 56 4 (fun t => app lx t) zl)) ∧ Below V.heap.size V Y)
    (HC33 : ∀ V, SS w b11 b12 b13 b14 b15 t pa ca sx sy sz lx ly lz V ∧ BoxT b16 (app lz (app ly (app lx t))) p1 c1 V ∧ BoxT b17 (app lz (app ly (app lx t))) p2 c2 V → ∀ zv31, ∀ zl31, (SubAt zv31 zl31 V ∧ Sb 56 4 (fun t => app lx t) zl31) → Calls Try.prog 16 #[.agg #[zv31], .agg #[.int .i64 (t).kind, .string (t).name, .slice pa (t).kids.length ca]] V fun e Y => (∃ za zc, e = .returned (.agg #[.int .i64 (app lx t).kind, .string (app lx t).name, .slice za (app lx t).kids.length zc]) ∧ TysAt Y (.slice za (app lx t).kids.length zc) (app lx t).kids) ∧ Below V.heap.size V Y)
    (HC36 : ∀ V, SS w b11 b12 b13 b14 b15 t pa ca sx sy sz lx ly lz V ∧ BoxT b16 (app lz (app ly (app lx t))) p1 c1 V ∧ BoxT b17 (app lz (app ly (app lx t))) p2 c2 V → Calls Try.prog 16 #[.agg #[sx], .agg #[.int .i64 (t).kind, .string (t).name, .slice pa (t).kids.length ca]] V fun e Y => (∃ za zc, e = .returned (.agg #[.int .i64 (app lx t).kind, .string (app lx t).name, .slice za (app lx t).kids.length zc]) ∧ TysAt Y (.slice za (app lx t).kids.length zc) (app lx t).kids) ∧ Below V.heap.size V Y)
    (HC37 : ∀ V, SS w b11 b12 b13 b14 b15 t pa ca sx sy sz lx ly lz V ∧ BoxT b16 (app lz (app ly (app lx t))) p1 c1 V ∧ BoxT b17 (app lz (app ly (app lx t))) p2 c2 V → ∀ za33, ∀ zc33, TysAt V (.slice za33 (app lx t).kids.length zc33) (app lx t).kids → ∀ za36, ∀ zc36, TysAt V (.slice za36 (app lx t).kids.length zc36) (app lx t).kids → Calls Try.prog 15 #[.agg #[.int .i64 (app lx t).kind, .string (app lx t).name, .slice za33 (app lx t).kids.length zc33], .agg #[.int .i64 (app lx t).kind, .string (app lx t).name, .slice za36 (app lx t).kids.length zc36]] V fun e Y => e = .returned (.bool true) ∧ Below V.heap.size V Y)
    {Q : Exit → Act → World → Prop} {ops : Array Oper} {a : Act} (X : World) (hops : ops = thcOps)
    (h3 : a.tmps.getD 3 undef = .bool true) (h11 : a.tmps.getD 11 undef = .pointer (some ⟨b11, 0, none⟩)) (h12 : a.tmps.getD 12 undef = .pointer (some ⟨b12, 0, none⟩)) (h13 : a.tmps.getD 13 undef = .pointer (some ⟨b13, 0, none⟩)) (h14 : a.tmps.getD 14 undef = .pointer (some ⟨b14, 0, none⟩)) (h15 : a.tmps.getD 15 undef = .pointer (some ⟨b15, 0, none⟩)) (h16 : a.tmps.getD 16 undef = .pointer (some ⟨b16, 0, none⟩)) (h17 : a.tmps.getD 17 undef = .pointer (some ⟨b17, 0, none⟩))
    (ha : a = thcFr (fun j => a.tmps.getD j undef) a.defers (fun i => a.tmps.getD (if i = 39 then 2 else 65 + i) undef)) (hS : SS w b11 b12 b13 b14 b15 t pa ca sx sy sz lx ly lz X.drew ∧ BoxT b16 (app lz (app ly (app lx t))) p1 c1 X.drew ∧ BoxT b17 (app lz (app ly (app lx t))) p2 c2 X.drew)
    (hfin : ∀ x V, SS w b11 b12 b13 b14 b15 t pa ca sx sy sz lx ly lz V ∧ BoxT b16 (app lz (app ly (app lx t))) p1 c1 V ∧ BoxT b17 (app lz (app ly (app lx t))) p2 c2 V → x 39 = .bool true → Q .normal (thcFr (fun j => a.tmps.getD j undef) a.defers x) V) : (Code.region 17 ops true).wp Try.prog Q a X :=
  cast (congrArg (fun z => (Code.region 17 ops true).wp Try.prog Q z X) ha.symm) (thc_region (b := fun j => a.tmps.getD j undef) (d := a.defers) h3 h11 h12 h13 h14 h15 h16 h17 HC4 HC12 HC13 HC14 HC15 HC20 HC22 HC25 HC26 HC31 HC33 HC36 HC37 hops _ X hS hfin)
end Go.Proofs.Ytmbaolcdjgilpaa
