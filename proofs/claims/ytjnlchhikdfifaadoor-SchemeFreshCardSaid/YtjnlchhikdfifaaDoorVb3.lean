/- Merged: FrRa, FrRb, FrE, FrRc, FrL, FrTab. -/
import Derived.Test.YtjnlchhikdfifaaDoorVb2
import Derived.Test.YtjnlchhikdfifaaDoorVa3
import Derived.Test.YtjnlchhikdfifaaDoorVa4
import Derived.Test.YtjnlchhikdfifaaDoorVa5
import Derived.Test.YtjnlchhikdfifaaDoorRows
import Derived.Test.YtjnlchhikdfifaaDoorTie
import Derived.Stop.LaidErr
import Derived.LaidMore
import Derived.ProofKit
/- SchemeFresh: a new name: its last statement, a region of 28 operations that draws its order, by an invariant. (Made by a program.) -/
namespace Go.Proofs.YtjnlchhikdfifaaDoor
open Go.RowKit Go.Sort Go.Lib
attribute [local go_sem] Oper.semAt_some

noncomputable def fraOps : Array Oper := regionIn 20 (Tryd.f4.body.getD .skip)
def fraFr (b : Nat → Value) (d : List Deferred) (x : Nat → Value) : Act := { tmps := #[b 0, b 1, b 2, b 3, b 4, b 5, b 6, b 7, b 8, b 9, b 10, b 11, b 12, b 13, b 14, b 15, b 16, b 17, b 18, b 19, b 20, b 21, b 22, b 23, b 24, b 25, b 26, b 27, b 28, b 29, b 30, b 31, b 32, b 33, b 34, b 35, b 36, b 37, b 38, b 39, b 40, b 41, b 42, b 43, b 44, b 45, b 46, b 47, b 48, b 49, b 50, b 51, b 52, b 53, b 54, b 55, b 56, b 57, b 58, b 59, b 60, b 61, b 62, b 63, b 64, b 65, b 66, x 0, x 1, x 2, x 3, x 4, x 5, x 6, x 7, x 8, x 9, x 10, x 11, x 12, x 13, x 14, x 15, x 16, x 17, x 18, x 19, x 20, x 21, x 22, x 23, x 24, x 25, x 26, x 27, b 95, b 96, b 97, b 98, b 99, b 100, b 101, b 102, b 103, b 104, b 105, b 106, b 107, b 108, b 109, b 110, b 111, b 112, b 113, b 114, b 115, b 116, b 117, b 118, b 119, b 120, b 121, b 122, b 123, b 124, b 125, b 126, b 127, b 128], defers := d }

def fraVals (b10 n gg gc ix : Nat) (q : ByteArray) (i : Nat) (v : Value) (_ : World) : Prop :=
  match i with
  | 0 => v = .pointer (some ⟨b10, 0, none⟩)
  | 1 => v = .slice (some ⟨gg, 0, none⟩) n gc
  | 2 => v = .int .i64 (ix : Int)
  | 3 => v = .slice (some ⟨gg, 0, none⟩) ix gc
  | 4 => v = .pointer (some ⟨b10, 0, none⟩)
  | 5 => v = .slice (some ⟨gg, 0, none⟩) n gc
  | 6 => v = .int .i64 (ix : Int)
  | 7 => v = .pointer (some ⟨gg, ix, none⟩)
  | 8 => v = .string q
  | 9 => v = .bool false
  | 10 => v = .bool false
  | 11 => v = .pointer (some ⟨b10, 0, none⟩)
  | 12 => v = .slice (some ⟨gg, 0, none⟩) n gc
  | 13 => v = .int .i64 (ix : Int)
  | 14 => v = .pointer (some ⟨gg, ix, none⟩)
  | 15 => v = .string q
  | 16 => v = .int .i64 (q.size : Int)
  | 17 => v = .bool false
  | 18 => v = .bool false
  | 19 => v = .bool false
  | 20 => v = .pointer (some ⟨b10, 0, none⟩)
  | 21 => v = .slice (some ⟨gg, 0, none⟩) n gc
  | 22 => v = .int .i64 (ix : Int)
  | 23 => v = .pointer (some ⟨gg, ix, none⟩)
  | 24 => v = .string q
  | 25 => v = .int .u8 63
  | 26 => v = .bool false
  | 27 => v = .bool false
  | _ => True

theorem fraVals_keep {b10 n gg gc ix : Nat} {q : ByteArray} (i : Nat) (v : Value) (V Y : World) (h : fraVals b10 n gg gc ix q i v V) (_ : Below V.heap.size V Y) : fraVals b10 n gg gc ix q i v Y := by
  unfold fraVals at *
  split at h <;> first
    | exact h


theorem fra_size : fraOps.size = 28 := by kernel_rfl
theorem fra_dst_10 : (fraOps[10]?).bind (·.dst) = some 77 := by kernel_rfl
theorem fra_dst_19 : (fraOps[19]?).bind (·.dst) = some 86 := by kernel_rfl
set_option linter.unusedSimpArgs false in
set_option maxRecDepth 100000 in
set_option maxHeartbeats 8000000 in
theorem fra_region {w : World} {b9 b10 n m : Nat} {F G : List ByteArray} {lc lu : List Pr} {t u : T} {gf gg : Nat} {xa ta pa za : Option Addr} {fc xc tc gc pc zc : Nat} {w1 : World} {ds : List PR} {lv : Value} {ix : Nat} {q : ByteArray} (hiG : ix < G.length) (hq : Hid (G.getD ix ⟨#[]⟩ = q)) (hi0 : (0 : Int) ≤ (ix : Int)) (hin : (ix : Int) < (n : Int)) (hic : (ix : Int) ≤ (gc : Int)) (hq2 : ¬ ((q.size : Int) < 2)) (hix : ∀ W, (Instr.index 9 (.string q) (.int .i64 0)).run Tryd.prog W = .ok (.int .u8 63) W) {b : Nat → Value} {d : List Deferred}
    (h10 : b 10 = .pointer (some ⟨b10, 0, none⟩)) (h13 : b 13 = .int .i64 (ix : Int))
    (HC9 : ∀ V, (FrQ w b9 b10 n m F G lc lu t u gf gg xa ta pa za fc xc tc gc pc zc V ∧ FrO w1 ds lv V) → Calls Tryd.prog 15 #[.slice (some ⟨gg, 0, none⟩) ix gc, .string q] V fun e Y => e = .returned (.bool false) ∧ Below V.heap.size V Y)
    {Q : Exit → Act → World → Prop} {ops : Array Oper} (hops : ops = fraOps) (x0 : Nat → Value) (X : World) (hS : (FrQ w b9 b10 n m F G lc lu t u gf gg xa ta pa za fc xc tc gc pc zc X.drew ∧ FrO w1 ds lv X.drew))
    (hfin : ∀ x V, (FrQ w b9 b10 n m F G lc lu t u gf gg xa ta pa za fc xc tc gc pc zc V ∧ FrO w1 ds lv V) → x 27 = .bool false → Q .normal (fraFr b d x) V) : (Code.region 20 ops true).wp Tryd.prog Q (fraFr b d x0) X := by
  have HC := Lib.hid (HC9)
  clear HC9
  refine region_inv (fraFr b d) (fun V => (FrQ w b9 b10 n m F G lc lu t u gf gg xa ta pa za fc xc tc gc pc zc V ∧ FrO w1 ds lv V)) (fun V Y => Below V.heap.size V Y) (fraVals b10 n gg gc ix q) x0 (by kernel_rfl) rfl hS (fun V Y h hb => ⟨h.1.below hb, h.2.below hb⟩) (fun i v V Y _ h hb => fraVals_keep i v V Y h hb) ?_ (fun x V hV h => hfin x V hV (h 27 (by rw [hops, fra_size]; decide)))
  clear hfin hS
  obtain ⟨f, hf⟩ : ∃ qq, StepAt Tryd.prog (fraFr b d) (fun V => (FrQ w b9 b10 n m F G lc lu t u gf gg xa ta pa za fc xc tc gc pc zc V ∧ FrO w1 ds lv V)) (fun V Y => Below V.heap.size V Y) (fraVals b10 n gg gc ix q) ops Q = qq := ⟨_, rfl⟩
  rw [hf, hops]
  simp only [fraOps, Tryd.f4, regionIn, Option.getD_some, Nat.reduceBEq, Bool.false_eq_true, if_false, if_true, beq_self_eq_true, Array.append_empty, Array.empty_append, List.append_eq, List.cons_append, List.nil_append, AllAt, Nat.reduceAdd, Nat.zero_add]
  -- 0: slot 67 := Op.fieldAddr 42 t10 0
  refine And.intro ?_ ?_
  · rw [← hf]; clear hf
    refine ⟨by decide +kernel, fun x v => by kernel_rfl, fun x V hV hdep K hK => ?_⟩
    clear hdep
    refine run_bare (by kernel_rfl) ?_
    unfold fraFr
    go_simp
    refine kfit (hK _ _ (Below.refl _ V) rfl) ?_
    first | (simp only [fraFr, Act.put, List.setIfInBounds_toArray, List.set_cons_zero, List.set_cons_succ, h10, h13]; done) | (simp only [fraFr, Act.put, List.setIfInBounds_toArray, List.set_cons_zero, List.set_cons_succ, h10, h13]; rfl)
  -- 1: slot 68 := Op.load 40 t67
  refine And.intro ?_ ?_
  · rw [← hf]; clear hf
    refine ⟨by decide +kernel, fun x v => by kernel_rfl, fun x V hV hdep K hK => ?_⟩
    have e0 : x 0 = .pointer (some ⟨b10, 0, none⟩) := depOf hdep 0 (by decide +kernel)
    clear hdep
    refine run_bare (by kernel_rfl) ?_
    unfold fraFr
    obtain ⟨y0, y1, y2, y3, y4⟩ := cells5 hV.1.1.2.1.1.1; have y5 := hV.1.2.2.cell hiG; rw [hq.out] at y5
    go_simp
    refine kfit (hK _ _ (Below.refl _ V) rfl) ?_
    first | (simp only [fraFr, Act.put, List.setIfInBounds_toArray, List.set_cons_zero, List.set_cons_succ, h10, h13, e0]; done) | (simp only [fraFr, Act.put, List.setIfInBounds_toArray, List.set_cons_zero, List.set_cons_succ, h10, h13, e0]; rfl)
  -- 2: slot 69 := Op.move t13
  refine And.intro ?_ ?_
  · rw [← hf]; clear hf
    refine ⟨by decide +kernel, fun x v => by kernel_rfl, fun x V hV hdep K hK => ?_⟩
    clear hdep
    refine run_bare (by kernel_rfl) ?_
    unfold fraFr
    go_simp
    refine kfit (hK _ _ (Below.refl _ V) rfl) ?_
    first | (simp only [fraFr, Act.put, List.setIfInBounds_toArray, List.set_cons_zero, List.set_cons_succ, h10, h13]; done) | (simp only [fraFr, Act.put, List.setIfInBounds_toArray, List.set_cons_zero, List.set_cons_succ, h10, h13]; rfl)
  -- 3: slot 70 := Op.slice 40 t68 none (some t69) none
  refine And.intro ?_ ?_
  · rw [← hf]; clear hf
    refine ⟨by decide +kernel, fun x v => by kernel_rfl, fun x V hV hdep K hK => ?_⟩
    have e1 : x 1 = .slice (some ⟨gg, 0, none⟩) n gc := depOf hdep 1 (by decide +kernel)
    have e2 : x 2 = .int .i64 (ix : Int) := depOf hdep 2 (by decide +kernel)
    clear hdep
    refine run_bare (by kernel_rfl) ?_
    unfold fraFr
    go_simp
    refine kfit (hK _ _ (Below.refl _ V) rfl) ?_
    first | (simp only [fraFr, Act.put, List.setIfInBounds_toArray, List.set_cons_zero, List.set_cons_succ, h10, h13, e1, e2]; done) | (simp only [fraFr, Act.put, List.setIfInBounds_toArray, List.set_cons_zero, List.set_cons_succ, h10, h13, e1, e2]; rfl)
  -- 4: slot 71 := Op.fieldAddr 42 t10 0
  refine And.intro ?_ ?_
  · rw [← hf]; clear hf
    refine ⟨by decide +kernel, fun x v => by kernel_rfl, fun x V hV hdep K hK => ?_⟩
    clear hdep
    refine run_bare (by kernel_rfl) ?_
    unfold fraFr
    go_simp
    refine kfit (hK _ _ (Below.refl _ V) rfl) ?_
    first | (simp only [fraFr, Act.put, List.setIfInBounds_toArray, List.set_cons_zero, List.set_cons_succ, h10, h13]; done) | (simp only [fraFr, Act.put, List.setIfInBounds_toArray, List.set_cons_zero, List.set_cons_succ, h10, h13]; rfl)
  -- 5: slot 72 := Op.load 40 t71
  refine And.intro ?_ ?_
  · rw [← hf]; clear hf
    refine ⟨by decide +kernel, fun x v => by kernel_rfl, fun x V hV hdep K hK => ?_⟩
    have e4 : x 4 = .pointer (some ⟨b10, 0, none⟩) := depOf hdep 4 (by decide +kernel)
    clear hdep
    refine run_bare (by kernel_rfl) ?_
    unfold fraFr
    obtain ⟨y0, y1, y2, y3, y4⟩ := cells5 hV.1.1.2.1.1.1; have y5 := hV.1.2.2.cell hiG; rw [hq.out] at y5
    go_simp
    refine kfit (hK _ _ (Below.refl _ V) rfl) ?_
    first | (simp only [fraFr, Act.put, List.setIfInBounds_toArray, List.set_cons_zero, List.set_cons_succ, h10, h13, e4]; done) | (simp only [fraFr, Act.put, List.setIfInBounds_toArray, List.set_cons_zero, List.set_cons_succ, h10, h13, e4]; rfl)
  -- 6: slot 73 := Op.move t13
  refine And.intro ?_ ?_
  · rw [← hf]; clear hf
    refine ⟨by decide +kernel, fun x v => by kernel_rfl, fun x V hV hdep K hK => ?_⟩
    clear hdep
    refine run_bare (by kernel_rfl) ?_
    unfold fraFr
    go_simp
    refine kfit (hK _ _ (Below.refl _ V) rfl) ?_
    first | (simp only [fraFr, Act.put, List.setIfInBounds_toArray, List.set_cons_zero, List.set_cons_succ, h10, h13]; done) | (simp only [fraFr, Act.put, List.setIfInBounds_toArray, List.set_cons_zero, List.set_cons_succ, h10, h13]; rfl)
  -- 7: slot 74 := Op.indexAddr 40 t72 t73
  refine And.intro ?_ ?_
  · rw [← hf]; clear hf
    refine ⟨by decide +kernel, fun x v => by kernel_rfl, fun x V hV hdep K hK => ?_⟩
    have e5 : x 5 = .slice (some ⟨gg, 0, none⟩) n gc := depOf hdep 5 (by decide +kernel)
    have e6 : x 6 = .int .i64 (ix : Int) := depOf hdep 6 (by decide +kernel)
    clear hdep
    refine run_bare (by kernel_rfl) ?_
    unfold fraFr
    go_simp
    refine kfit (hK _ _ (Below.refl _ V) rfl) ?_
    first | (simp only [fraFr, Act.put, List.setIfInBounds_toArray, List.set_cons_zero, List.set_cons_succ, h10, h13, e5, e6]; done) | (simp only [fraFr, Act.put, List.setIfInBounds_toArray, List.set_cons_zero, List.set_cons_succ, h10, h13, e5, e6]; rfl)
  -- 8: slot 75 := Op.load 9 t74
  refine And.intro ?_ ?_
  · rw [← hf]; clear hf
    refine ⟨by decide +kernel, fun x v => by kernel_rfl, fun x V hV hdep K hK => ?_⟩
    have e7 : x 7 = .pointer (some ⟨gg, ix, none⟩) := depOf hdep 7 (by decide +kernel)
    clear hdep
    refine run_bare (by kernel_rfl) ?_
    unfold fraFr
    obtain ⟨y0, y1, y2, y3, y4⟩ := cells5 hV.1.1.2.1.1.1; have y5 := hV.1.2.2.cell hiG; rw [hq.out] at y5
    go_simp
    refine kfit (hK _ _ (Below.refl _ V) rfl) ?_
    first | (simp only [fraFr, Act.put, List.setIfInBounds_toArray, List.set_cons_zero, List.set_cons_succ, h10, h13, e7]; done) | (simp only [fraFr, Act.put, List.setIfInBounds_toArray, List.set_cons_zero, List.set_cons_succ, h10, h13, e7]; rfl)
  -- 9: slot 76 := Op.call { value (Operand.func 15), args := #[t70, t75], argT
  refine And.intro ?_ ?_
  · rw [← hf]; clear hf
    refine ⟨by decide +kernel, fun x v => by kernel_rfl, fun x V hV hdep K hK => ?_⟩
    have e3 : x 3 = .slice (some ⟨gg, 0, none⟩) ix gc := depOf hdep 3 (by decide +kernel)
    have e8 : x 8 = .string q := depOf hdep 8 (by decide +kernel)
    clear hdep
    refine run_bare (by kernel_rfl) ?_
    unfold fraFr
    have HC9 := HC.out
    have H := HC9 V hV
    replace H := Lib.hid H; clear HC9
    go_simp
    go_at_call 15
    refine H.out.mono ?_
    rintro e Y ⟨rfl, hb⟩; refine kfit (hK _ _ hb rfl) ?_
    first | (simp only [fraFr, Act.put, List.setIfInBounds_toArray, List.set_cons_zero, List.set_cons_succ, h10, h13, e3, e8]; done) | (simp only [fraFr, Act.put, List.setIfInBounds_toArray, List.set_cons_zero, List.set_cons_succ, h10, h13, e3, e8]; rfl)
  -- 10: slot 77 := Op.move t76
  refine And.intro ?_ ?_
  · rw [← hf]; clear hf
    refine ⟨by decide +kernel, fun x v => by kernel_rfl, fun x V hV hdep K hK => ?_⟩
    have e9 : x 9 = .bool false := depOf hdep 9 (by decide +kernel)
    clear hdep
    refine run_bare (by kernel_rfl) ?_
    unfold fraFr
    go_simp
    refine kfit (hK _ _ (Below.refl _ V) rfl) ?_
    first | (simp only [fraFr, Act.put, List.setIfInBounds_toArray, List.set_cons_zero, List.set_cons_succ, h10, h13, e9]; done) | (simp only [fraFr, Act.put, List.setIfInBounds_toArray, List.set_cons_zero, List.set_cons_succ, h10, h13, e9]; rfl)
  -- 11: slot 78 := Op.fieldAddr 42 t10 0
  refine And.intro ?_ ?_
  · rw [← hf]; clear hf
    refine ⟨by decide +kernel, fun x v => by kernel_rfl, fun x V hV hdep K hK => ?_⟩
    have e10 : x 10 = .bool false := depOf hdep 10 (by decide +kernel)
    clear hdep
    refine run_guardF 10 77 (x 10) (by kernel_rfl) (by rw [hops]; exact fra_dst_10) (by kernel_rfl) e10 ?_; clear hops
    unfold fraFr
    go_simp
    refine kfit (hK _ _ (Below.refl _ V) rfl) ?_
    first | (simp only [fraFr, Act.put, List.setIfInBounds_toArray, List.set_cons_zero, List.set_cons_succ, h10, h13, e10]; done) | (simp only [fraFr, Act.put, List.setIfInBounds_toArray, List.set_cons_zero, List.set_cons_succ, h10, h13, e10]; rfl)
  -- 12: slot 79 := Op.load 40 t78
  refine And.intro ?_ ?_
  · rw [← hf]; clear hf
    refine ⟨by decide +kernel, fun x v => by kernel_rfl, fun x V hV hdep K hK => ?_⟩
    have e10 : x 10 = .bool false := depOf hdep 10 (by decide +kernel)
    have e11 : x 11 = .pointer (some ⟨b10, 0, none⟩) := depOf hdep 11 (by decide +kernel)
    clear hdep
    refine run_guardF 10 77 (x 10) (by kernel_rfl) (by rw [hops]; exact fra_dst_10) (by kernel_rfl) e10 ?_; clear hops
    unfold fraFr
    obtain ⟨y0, y1, y2, y3, y4⟩ := cells5 hV.1.1.2.1.1.1; have y5 := hV.1.2.2.cell hiG; rw [hq.out] at y5
    go_simp
    refine kfit (hK _ _ (Below.refl _ V) rfl) ?_
    first | (simp only [fraFr, Act.put, List.setIfInBounds_toArray, List.set_cons_zero, List.set_cons_succ, h10, h13, e10, e11]; done) | (simp only [fraFr, Act.put, List.setIfInBounds_toArray, List.set_cons_zero, List.set_cons_succ, h10, h13, e10, e11]; rfl)
  -- 13: slot 80 := Op.move t13
  refine And.intro ?_ ?_
  · rw [← hf]; clear hf
    refine ⟨by decide +kernel, fun x v => by kernel_rfl, fun x V hV hdep K hK => ?_⟩
    have e10 : x 10 = .bool false := depOf hdep 10 (by decide +kernel)
    clear hdep
    refine run_guardF 10 77 (x 10) (by kernel_rfl) (by rw [hops]; exact fra_dst_10) (by kernel_rfl) e10 ?_; clear hops
    unfold fraFr
    go_simp
    refine kfit (hK _ _ (Below.refl _ V) rfl) ?_
    first | (simp only [fraFr, Act.put, List.setIfInBounds_toArray, List.set_cons_zero, List.set_cons_succ, h10, h13, e10]; done) | (simp only [fraFr, Act.put, List.setIfInBounds_toArray, List.set_cons_zero, List.set_cons_succ, h10, h13, e10]; rfl)
  -- 14: slot 81 := Op.indexAddr 40 t79 t80
  refine And.intro ?_ ?_
  · rw [← hf]; clear hf
    refine ⟨by decide +kernel, fun x v => by kernel_rfl, fun x V hV hdep K hK => ?_⟩
    have e10 : x 10 = .bool false := depOf hdep 10 (by decide +kernel)
    have e12 : x 12 = .slice (some ⟨gg, 0, none⟩) n gc := depOf hdep 12 (by decide +kernel)
    have e13 : x 13 = .int .i64 (ix : Int) := depOf hdep 13 (by decide +kernel)
    clear hdep
    refine run_guardF 10 77 (x 10) (by kernel_rfl) (by rw [hops]; exact fra_dst_10) (by kernel_rfl) e10 ?_; clear hops
    unfold fraFr
    go_simp
    refine kfit (hK _ _ (Below.refl _ V) rfl) ?_
    first | (simp only [fraFr, Act.put, List.setIfInBounds_toArray, List.set_cons_zero, List.set_cons_succ, h10, h13, e10, e12, e13]; done) | (simp only [fraFr, Act.put, List.setIfInBounds_toArray, List.set_cons_zero, List.set_cons_succ, h10, h13, e10, e12, e13]; rfl)
  -- 15: slot 82 := Op.load 9 t81
  refine And.intro ?_ ?_
  · rw [← hf]; clear hf
    refine ⟨by decide +kernel, fun x v => by kernel_rfl, fun x V hV hdep K hK => ?_⟩
    have e10 : x 10 = .bool false := depOf hdep 10 (by decide +kernel)
    have e14 : x 14 = .pointer (some ⟨gg, ix, none⟩) := depOf hdep 14 (by decide +kernel)
    clear hdep
    refine run_guardF 10 77 (x 10) (by kernel_rfl) (by rw [hops]; exact fra_dst_10) (by kernel_rfl) e10 ?_; clear hops
    unfold fraFr
    obtain ⟨y0, y1, y2, y3, y4⟩ := cells5 hV.1.1.2.1.1.1; have y5 := hV.1.2.2.cell hiG; rw [hq.out] at y5
    go_simp
    refine kfit (hK _ _ (Below.refl _ V) rfl) ?_
    first | (simp only [fraFr, Act.put, List.setIfInBounds_toArray, List.set_cons_zero, List.set_cons_succ, h10, h13, e10, e14]; done) | (simp only [fraFr, Act.put, List.setIfInBounds_toArray, List.set_cons_zero, List.set_cons_succ, h10, h13, e10, e14]; rfl)
  -- 16: slot 83 := Op.call { builtin len, args := #[t82], argTypes := #[9] }
  refine And.intro ?_ ?_
  · rw [← hf]; clear hf
    refine ⟨by decide +kernel, fun x v => by kernel_rfl, fun x V hV hdep K hK => ?_⟩
    have e10 : x 10 = .bool false := depOf hdep 10 (by decide +kernel)
    have e15 : x 15 = .string q := depOf hdep 15 (by decide +kernel)
    clear hdep
    refine run_guardF 10 77 (x 10) (by kernel_rfl) (by rw [hops]; exact fra_dst_10) (by kernel_rfl) e10 ?_; clear hops
    unfold fraFr
    go_simp
    refine kfit (hK _ _ (Below.refl _ V) rfl) ?_
    first | (simp only [fraFr, Act.put, List.setIfInBounds_toArray, List.set_cons_zero, List.set_cons_succ, h10, h13, e10, e15]; done) | (simp only [fraFr, Act.put, List.setIfInBounds_toArray, List.set_cons_zero, List.set_cons_succ, h10, h13, e10, e15]; rfl)
  -- 17: slot 84 := Op.binOp BinOp.lss 3 t83 (const (2:i64)) 3
  refine And.intro ?_ ?_
  · rw [← hf]; clear hf
    refine ⟨by decide +kernel, fun x v => by kernel_rfl, fun x V hV hdep K hK => ?_⟩
    have e10 : x 10 = .bool false := depOf hdep 10 (by decide +kernel)
    have e16 : x 16 = .int .i64 (q.size : Int) := depOf hdep 16 (by decide +kernel)
    clear hdep
    refine run_guardF 10 77 (x 10) (by kernel_rfl) (by rw [hops]; exact fra_dst_10) (by kernel_rfl) e10 ?_; clear hops
    unfold fraFr
    go_simp
    refine kfit (hK _ _ (Below.refl _ V) rfl) ?_
    first | (simp only [fraFr, Act.put, List.setIfInBounds_toArray, List.set_cons_zero, List.set_cons_succ, h10, h13, e10, e16]; done) | (simp only [fraFr, Act.put, List.setIfInBounds_toArray, List.set_cons_zero, List.set_cons_succ, h10, h13, e10, e16]; rfl)
  -- 18: slot 85 := Op.pick t77 (const (Value.bool true)) t84
  refine And.intro ?_ ?_
  · rw [← hf]; clear hf
    refine ⟨by decide +kernel, fun x v => by kernel_rfl, fun x V hV hdep K hK => ?_⟩
    have e10 : x 10 = .bool false := depOf hdep 10 (by decide +kernel)
    have e17 : x 17 = .bool false := depOf hdep 17 (by decide +kernel)
    clear hdep
    refine run_bare (by kernel_rfl) ?_
    unfold fraFr
    go_simp
    refine kfit (hK _ _ (Below.refl _ V) rfl) ?_
    first | (simp only [fraFr, Act.put, List.setIfInBounds_toArray, List.set_cons_zero, List.set_cons_succ, h10, h13, e10, e17]; done) | (simp only [fraFr, Act.put, List.setIfInBounds_toArray, List.set_cons_zero, List.set_cons_succ, h10, h13, e10, e17]; rfl)
  -- 19: slot 86 := Op.move t85
  refine And.intro ?_ ?_
  · rw [← hf]; clear hf
    refine ⟨by decide +kernel, fun x v => by kernel_rfl, fun x V hV hdep K hK => ?_⟩
    have e18 : x 18 = .bool false := depOf hdep 18 (by decide +kernel)
    clear hdep
    refine run_bare (by kernel_rfl) ?_
    unfold fraFr
    go_simp
    refine kfit (hK _ _ (Below.refl _ V) rfl) ?_
    first | (simp only [fraFr, Act.put, List.setIfInBounds_toArray, List.set_cons_zero, List.set_cons_succ, h10, h13, e18]; done) | (simp only [fraFr, Act.put, List.setIfInBounds_toArray, List.set_cons_zero, List.set_cons_succ, h10, h13, e18]; rfl)
  -- 20: slot 87 := Op.fieldAddr 42 t10 0
  refine And.intro ?_ ?_
  · rw [← hf]; clear hf
    refine ⟨by decide +kernel, fun x v => by kernel_rfl, fun x V hV hdep K hK => ?_⟩
    have e19 : x 19 = .bool false := depOf hdep 19 (by decide +kernel)
    clear hdep
    refine run_guardF 19 86 (x 19) (by kernel_rfl) (by rw [hops]; exact fra_dst_19) (by kernel_rfl) e19 ?_; clear hops
    unfold fraFr
    go_simp
    refine kfit (hK _ _ (Below.refl _ V) rfl) ?_
    first | (simp only [fraFr, Act.put, List.setIfInBounds_toArray, List.set_cons_zero, List.set_cons_succ, h10, h13, e19]; done) | (simp only [fraFr, Act.put, List.setIfInBounds_toArray, List.set_cons_zero, List.set_cons_succ, h10, h13, e19]; rfl)
  -- 21: slot 88 := Op.load 40 t87
  refine And.intro ?_ ?_
  · rw [← hf]; clear hf
    refine ⟨by decide +kernel, fun x v => by kernel_rfl, fun x V hV hdep K hK => ?_⟩
    have e19 : x 19 = .bool false := depOf hdep 19 (by decide +kernel)
    have e20 : x 20 = .pointer (some ⟨b10, 0, none⟩) := depOf hdep 20 (by decide +kernel)
    clear hdep
    refine run_guardF 19 86 (x 19) (by kernel_rfl) (by rw [hops]; exact fra_dst_19) (by kernel_rfl) e19 ?_; clear hops
    unfold fraFr
    obtain ⟨y0, y1, y2, y3, y4⟩ := cells5 hV.1.1.2.1.1.1; have y5 := hV.1.2.2.cell hiG; rw [hq.out] at y5
    go_simp
    refine kfit (hK _ _ (Below.refl _ V) rfl) ?_
    first | (simp only [fraFr, Act.put, List.setIfInBounds_toArray, List.set_cons_zero, List.set_cons_succ, h10, h13, e19, e20]; done) | (simp only [fraFr, Act.put, List.setIfInBounds_toArray, List.set_cons_zero, List.set_cons_succ, h10, h13, e19, e20]; rfl)
  -- 22: slot 89 := Op.move t13
  refine And.intro ?_ ?_
  · rw [← hf]; clear hf
    refine ⟨by decide +kernel, fun x v => by kernel_rfl, fun x V hV hdep K hK => ?_⟩
    have e19 : x 19 = .bool false := depOf hdep 19 (by decide +kernel)
    clear hdep
    refine run_guardF 19 86 (x 19) (by kernel_rfl) (by rw [hops]; exact fra_dst_19) (by kernel_rfl) e19 ?_; clear hops
    unfold fraFr
    go_simp
    refine kfit (hK _ _ (Below.refl _ V) rfl) ?_
    first | (simp only [fraFr, Act.put, List.setIfInBounds_toArray, List.set_cons_zero, List.set_cons_succ, h10, h13, e19]; done) | (simp only [fraFr, Act.put, List.setIfInBounds_toArray, List.set_cons_zero, List.set_cons_succ, h10, h13, e19]; rfl)
  -- 23: slot 90 := Op.indexAddr 40 t88 t89
  refine And.intro ?_ ?_
  · rw [← hf]; clear hf
    refine ⟨by decide +kernel, fun x v => by kernel_rfl, fun x V hV hdep K hK => ?_⟩
    have e19 : x 19 = .bool false := depOf hdep 19 (by decide +kernel)
    have e21 : x 21 = .slice (some ⟨gg, 0, none⟩) n gc := depOf hdep 21 (by decide +kernel)
    have e22 : x 22 = .int .i64 (ix : Int) := depOf hdep 22 (by decide +kernel)
    clear hdep
    refine run_guardF 19 86 (x 19) (by kernel_rfl) (by rw [hops]; exact fra_dst_19) (by kernel_rfl) e19 ?_; clear hops
    unfold fraFr
    go_simp
    refine kfit (hK _ _ (Below.refl _ V) rfl) ?_
    first | (simp only [fraFr, Act.put, List.setIfInBounds_toArray, List.set_cons_zero, List.set_cons_succ, h10, h13, e19, e21, e22]; done) | (simp only [fraFr, Act.put, List.setIfInBounds_toArray, List.set_cons_zero, List.set_cons_succ, h10, h13, e19, e21, e22]; rfl)
  -- 24: slot 91 := Op.load 9 t90
  refine And.intro ?_ ?_
  · rw [← hf]; clear hf
    refine ⟨by decide +kernel, fun x v => by kernel_rfl, fun x V hV hdep K hK => ?_⟩
    have e19 : x 19 = .bool false := depOf hdep 19 (by decide +kernel)
    have e23 : x 23 = .pointer (some ⟨gg, ix, none⟩) := depOf hdep 23 (by decide +kernel)
    clear hdep
    refine run_guardF 19 86 (x 19) (by kernel_rfl) (by rw [hops]; exact fra_dst_19) (by kernel_rfl) e19 ?_; clear hops
    unfold fraFr
    obtain ⟨y0, y1, y2, y3, y4⟩ := cells5 hV.1.1.2.1.1.1; have y5 := hV.1.2.2.cell hiG; rw [hq.out] at y5
    go_simp
    refine kfit (hK _ _ (Below.refl _ V) rfl) ?_
    first | (simp only [fraFr, Act.put, List.setIfInBounds_toArray, List.set_cons_zero, List.set_cons_succ, h10, h13, e19, e23]; done) | (simp only [fraFr, Act.put, List.setIfInBounds_toArray, List.set_cons_zero, List.set_cons_succ, h10, h13, e19, e23]; rfl)
  -- 25: slot 92 := Op.index 9 t91 (const (0:i64))
  refine And.intro ?_ ?_
  · rw [← hf]; clear hf
    refine ⟨by decide +kernel, fun x v => by kernel_rfl, fun x V hV hdep K hK => ?_⟩
    have e19 : x 19 = .bool false := depOf hdep 19 (by decide +kernel)
    have e24 : x 24 = .string q := depOf hdep 24 (by decide +kernel)
    clear hdep
    refine run_guardF 19 86 (x 19) (by kernel_rfl) (by rw [hops]; exact fra_dst_19) (by kernel_rfl) e19 ?_; clear hops
    unfold fraFr
    go_simp
    refine kfit (hK _ _ (Below.refl _ V) rfl) ?_
    first | (simp only [fraFr, Act.put, List.setIfInBounds_toArray, List.set_cons_zero, List.set_cons_succ, h10, h13, e19, e24]; done) | (simp only [fraFr, Act.put, List.setIfInBounds_toArray, List.set_cons_zero, List.set_cons_succ, h10, h13, e19, e24]; rfl)
  -- 26: slot 93 := Op.binOp BinOp.neq 5 t92 (const (63:u8)) 5
  refine And.intro ?_ ?_
  · rw [← hf]; clear hf
    refine ⟨by decide +kernel, fun x v => by kernel_rfl, fun x V hV hdep K hK => ?_⟩
    have e19 : x 19 = .bool false := depOf hdep 19 (by decide +kernel)
    have e25 : x 25 = .int .u8 63 := depOf hdep 25 (by decide +kernel)
    clear hdep
    refine run_guardF 19 86 (x 19) (by kernel_rfl) (by rw [hops]; exact fra_dst_19) (by kernel_rfl) e19 ?_; clear hops
    unfold fraFr
    go_simp
    refine kfit (hK _ _ (Below.refl _ V) rfl) ?_
    first | (simp only [fraFr, Act.put, List.setIfInBounds_toArray, List.set_cons_zero, List.set_cons_succ, h10, h13, e19, e25]; done) | (simp only [fraFr, Act.put, List.setIfInBounds_toArray, List.set_cons_zero, List.set_cons_succ, h10, h13, e19, e25]; rfl)
  -- 27: slot 94 := Op.pick t86 (const (Value.bool true)) t93
  refine And.intro ?_ ?_
  · rw [← hf]; clear hf
    refine ⟨by decide +kernel, fun x v => by kernel_rfl, fun x V hV hdep K hK => ?_⟩
    have e19 : x 19 = .bool false := depOf hdep 19 (by decide +kernel)
    have e26 : x 26 = .bool false := depOf hdep 26 (by decide +kernel)
    clear hdep
    refine run_bare (by kernel_rfl) ?_
    unfold fraFr
    go_simp
    refine kfit (hK _ _ (Below.refl _ V) rfl) ?_
    first | (simp only [fraFr, Act.put, List.setIfInBounds_toArray, List.set_cons_zero, List.set_cons_succ, h10, h13, e19, e26]; done) | (simp only [fraFr, Act.put, List.setIfInBounds_toArray, List.set_cons_zero, List.set_cons_succ, h10, h13, e19, e26]; rfl)
  exact trivial
theorem fra_here {w : World} {b9 b10 n m : Nat} {F G : List ByteArray} {lc lu : List Pr} {t u : T} {gf gg : Nat} {xa ta pa za : Option Addr} {fc xc tc gc pc zc : Nat} {w1 : World} {ds : List PR} {lv : Value} {ix : Nat} {q : ByteArray} (hiG : ix < G.length) (hq : Hid (G.getD ix ⟨#[]⟩ = q)) (hi0 : (0 : Int) ≤ (ix : Int)) (hin : (ix : Int) < (n : Int)) (hic : (ix : Int) ≤ (gc : Int)) (hq2 : ¬ ((q.size : Int) < 2)) (hix : ∀ W, (Instr.index 9 (.string q) (.int .i64 0)).run Tryd.prog W = .ok (.int .u8 63) W)
    (HC9 : ∀ V, (FrQ w b9 b10 n m F G lc lu t u gf gg xa ta pa za fc xc tc gc pc zc V ∧ FrO w1 ds lv V) → Calls Tryd.prog 15 #[.slice (some ⟨gg, 0, none⟩) ix gc, .string q] V fun e Y => e = .returned (.bool false) ∧ Below V.heap.size V Y)
    {Q : Exit → Act → World → Prop} {ops : Array Oper} {a : Act} (X : World) (hops : ops = fraOps)
    (h10 : a.tmps.getD 10 undef = .pointer (some ⟨b10, 0, none⟩)) (h13 : a.tmps.getD 13 undef = .int .i64 (ix : Int))
    (ha : a = fraFr (fun j => a.tmps.getD j undef) a.defers (fun i => a.tmps.getD (67 + i) undef)) (hS : (FrQ w b9 b10 n m F G lc lu t u gf gg xa ta pa za fc xc tc gc pc zc X.drew ∧ FrO w1 ds lv X.drew))
    (hfin : ∀ x V, (FrQ w b9 b10 n m F G lc lu t u gf gg xa ta pa za fc xc tc gc pc zc V ∧ FrO w1 ds lv V) → x 27 = .bool false → Q .normal (fraFr (fun j => a.tmps.getD j undef) a.defers x) V) : (Code.region 20 ops true).wp Tryd.prog Q a X :=
  cast (congrArg (fun z => (Code.region 20 ops true).wp Tryd.prog Q z X) ha.symm) (fra_region hiG hq hi0 hin hic hq2 hix (b := fun j => a.tmps.getD j undef) (d := a.defers) h10 h13 HC9 hops _ X hS hfin)
end Go.Proofs.YtjnlchhikdfifaaDoor
/- SchemeFresh: one pair more: its last statement, a region of 16 operations that draws its order, by an invariant. (Made by a program.) -/
namespace Go.Proofs.YtjnlchhikdfifaaDoor
open Go.RowKit Go.Maps Go.Sort Go.Lib
attribute [local go_sem] Oper.semAt_some

noncomputable def frbOps : Array Oper := regionIn 22 (Tryd.f4.body.getD .skip)
def frbFr (b : Nat → Value) (d : List Deferred) (x : Nat → Value) : Act := { tmps := #[b 0, b 1, b 2, b 3, b 4, b 5, b 6, b 7, b 8, b 9, b 10, b 11, b 12, b 13, b 14, b 15, b 16, b 17, b 18, b 19, b 20, b 21, b 22, b 23, b 24, b 25, b 26, b 27, b 28, b 29, b 30, b 31, b 32, b 33, b 34, b 35, b 36, b 37, b 38, b 39, b 40, b 41, b 42, b 43, b 44, b 45, b 46, b 47, b 48, b 49, b 50, b 51, b 52, b 53, b 54, b 55, b 56, b 57, b 58, b 59, b 60, b 61, b 62, b 63, b 64, b 65, b 66, b 67, b 68, b 69, b 70, b 71, b 72, b 73, b 74, b 75, b 76, b 77, b 78, b 79, b 80, b 81, b 82, b 83, b 84, b 85, b 86, b 87, b 88, b 89, b 90, b 91, b 92, b 93, b 94, x 0, x 1, x 2, x 3, x 4, x 5, x 6, x 7, x 8, x 9, x 10, x 11, x 12, x 13, x 14, b 110, b 111, b 112, b 113, b 114, b 115, b 116, b 117, b 118, b 119, b 120, b 121, b 122, b 123, b 124, b 125, b 126, b 127, b 128], defers := d }

def frbVals (b9 b10 n gf gg fc gc ix : Nat) (fx : ByteArray) (pr : PR) (lv : Value) (i : Nat) (v : Value) (V : World) : Prop :=
  match i with
  | 0 => v = lv
  | 1 => v = .pointer (some ⟨b10, 0, none⟩)
  | 2 => v = .slice (some ⟨gg, 0, none⟩) n gc
  | 3 => v = .int .i64 (ix : Int)
  | 4 => v = .pointer (some ⟨gg, ix, none⟩)
  | 5 => v = .string pr.n
  | 6 => v = .pointer (some ⟨b9, 0, none⟩)
  | 7 => v = .slice (some ⟨gf, 0, none⟩) n fc
  | 8 => v = .int .i64 (ix : Int)
  | 9 => v = .pointer (some ⟨gf, ix, none⟩)
  | 10 => v = .string fx
  | 11 => v = .agg #[.int .i64 pr.t.kind, .string pr.t.name, .slice pr.a pr.t.kids.length pr.c]
  | 12 => v = .agg #[.string pr.n, .int .i64 pr.t.kind, .string pr.t.name, .slice pr.a pr.t.kids.length pr.c]
  | 13 => ∃ zb, v = .slice (some ⟨zb, 0, none⟩) 1 1 ∧ RowY pr zb V
  | _ => True

theorem frbVals_keep {b9 b10 n gf gg fc gc ix : Nat} {fx : ByteArray} {pr : PR} {lv : Value} (i : Nat) (v : Value) (V Y : World) (h : frbVals b9 b10 n gf gg fc gc ix fx pr lv i v V) (hb : Below V.heap.size V Y) : frbVals b9 b10 n gf gg fc gc ix fx pr lv i v Y := by
  unfold frbVals at *
  split at h <;> first
    | exact h
    | (obtain ⟨zb, e, h⟩ := h; exact ⟨zb, e, h.below hb⟩)

theorem frb_size : frbOps.size = 16 := by kernel_rfl
theorem frb_cov : covered frbOps 14 = true := by kernel_rfl
set_option linter.unusedSimpArgs false in
set_option maxRecDepth 100000 in
set_option maxHeartbeats 8000000 in
theorem frb_region {w : World} {b9 b10 n m : Nat} {F G : List ByteArray} {lc lu : List Pr} {t u : T} {gf gg : Nat} {xa ta pa za : Option Addr} {fc xc tc gc pc zc : Nat} {w1 : World} {ix : Nat} {fx : ByteArray} {pr : PR} {ds : List PR} {lv : Value} (hiG : ix < G.length) (hiF : ix < F.length) (hq : Hid (G.getD ix ⟨#[]⟩ = pr.n)) (hf : Hid (F.getD ix ⟨#[]⟩ = fx)) (hi0 : (0 : Int) ≤ (ix : Int)) (hin : (ix : Int) < (n : Int)) (hds : ds.length ≤ 1000) {b : Nat → Value} {d : List Deferred}
    (h12 : b 12 = lv) (h13 : b 13 = .int .i64 (ix : Int)) (h9 : b 9 = .pointer (some ⟨b9, 0, none⟩)) (h10 : b 10 = .pointer (some ⟨b10, 0, none⟩))
    (HC11 : ∀ V, (FrQ w b9 b10 n m F G lc lu t u gf gg xa ta pa za fc xc tc gc pc zc V ∧ FrO w1 ds lv V) → Calls Tryd.prog 16 #[.string fx] V fun e Y => e = .returned (.agg #[.int .i64 pr.t.kind, .string pr.t.name, .slice pr.a pr.t.kids.length pr.c]) ∧ Below V.heap.size V Y)
    {Q : Exit → Act → World → Prop} {ops : Array Oper} (hops : ops = frbOps) (x0 : Nat → Value) (X : World) (hS : (FrQ w b9 b10 n m F G lc lu t u gf gg xa ta pa za fc xc tc gc pc zc X.drew ∧ FrO w1 ds lv X.drew))
    (hfin : ∀ (x : Nat → Value) V g9 c9 w9, (FrQ w b9 b10 n m F G lc lu t u gf gg xa ta pa za fc xc tc gc pc zc V ∧ FrO w1 ds lv V) → w9.ownsRow w1.heap.size 50 4 (.slice (some ⟨g9, 0, none⟩) (ds.length + 1) c9) (ds.length + 1) (cellsP ds ++ encP pr) → V.grownBy w9 lv.ownBlock → Q .normal (((frbFr b d x).put (some 109) (.slice (some ⟨g9, 0, none⟩) (ds.length + 1) c9)).put (some 12) (.slice (some ⟨g9, 0, none⟩) (ds.length + 1) c9)) w9) : (Code.region 22 ops true).wp Tryd.prog Q (frbFr b d x0) X := by
  have HC := Lib.hid (HC11)
  clear HC11
  have hszo : ops.size = 14 + 2 := by rw [hops]; exact frb_size
  have hcovo : covered ops 14 = true := by rw [hops]; exact frb_cov
  refine region_tail (frbFr b d) (fun V => (FrQ w b9 b10 n m F G lc lu t u gf gg xa ta pa za fc xc tc gc pc zc V ∧ FrO w1 ds lv V)) (fun V Y => Below V.heap.size V Y) (frbVals b9 b10 n gf gg fc gc ix fx pr lv) x0 14 (by kernel_rfl) rfl hS hszo hcovo (fun V Y h hb => ⟨h.1.below hb, h.2.below hb⟩) (fun i v V Y _ h hb => frbVals_keep i v V Y h hb) ?_
  have HFIN := Lib.hid hfin
  clear hfin hS hszo hcovo
  obtain ⟨gl, hgl⟩ : ∃ qq, TailAt Tryd.prog (frbFr b d) (fun V => (FrQ w b9 b10 n m F G lc lu t u gf gg xa ta pa za fc xc tc gc pc zc V ∧ FrO w1 ds lv V)) (frbVals b9 b10 n gf gg fc gc ix fx pr lv) ops Q 14 = qq := ⟨_, rfl⟩
  rw [hgl]
  obtain ⟨f, hf⟩ : ∃ qq, StepAt Tryd.prog (frbFr b d) (fun V => (FrQ w b9 b10 n m F G lc lu t u gf gg xa ta pa za fc xc tc gc pc zc V ∧ FrO w1 ds lv V)) (fun V Y => Below V.heap.size V Y) (frbVals b9 b10 n gf gg fc gc ix fx pr lv) ops Q = qq := ⟨_, rfl⟩
  rw [hf, hops]
  simp only [frbOps, Tryd.f4, regionIn, Option.getD_some, Nat.reduceBEq, Bool.false_eq_true, if_false, if_true, beq_self_eq_true, Array.append_empty, Array.empty_append, List.append_eq, List.cons_append, List.nil_append, AllTail, Nat.reduceAdd, Nat.zero_add]
  -- 0: slot 95 := Op.move t12
  refine And.intro ?_ ?_
  · clear HFIN hgl
    rw [← hf]; clear hf
    refine ⟨by decide +kernel, fun x v => by kernel_rfl, fun x V hV hdep K hK => ?_⟩
    clear hdep
    refine run_bare (by kernel_rfl) ?_
    unfold frbFr
    go_simp
    refine kfit (hK _ _ (Below.refl _ V) rfl) ?_
    first | (simp only [frbFr, Act.put, List.setIfInBounds_toArray, List.set_cons_zero, List.set_cons_succ, h12, h13, h9, h10]; done) | (simp only [frbFr, Act.put, List.setIfInBounds_toArray, List.set_cons_zero, List.set_cons_succ, h12, h13, h9, h10]; rfl)
  -- 1: slot 96 := Op.fieldAddr 42 t10 0
  refine And.intro ?_ ?_
  · clear HFIN hgl
    rw [← hf]; clear hf
    refine ⟨by decide +kernel, fun x v => by kernel_rfl, fun x V hV hdep K hK => ?_⟩
    clear hdep
    refine run_bare (by kernel_rfl) ?_
    unfold frbFr
    go_simp
    refine kfit (hK _ _ (Below.refl _ V) rfl) ?_
    first | (simp only [frbFr, Act.put, List.setIfInBounds_toArray, List.set_cons_zero, List.set_cons_succ, h12, h13, h9, h10]; done) | (simp only [frbFr, Act.put, List.setIfInBounds_toArray, List.set_cons_zero, List.set_cons_succ, h12, h13, h9, h10]; rfl)
  -- 2: slot 97 := Op.load 40 t96
  refine And.intro ?_ ?_
  · clear HFIN hgl
    rw [← hf]; clear hf
    refine ⟨by decide +kernel, fun x v => by kernel_rfl, fun x V hV hdep K hK => ?_⟩
    have e1 : x 1 = .pointer (some ⟨b10, 0, none⟩) := depOf hdep 1 (by decide +kernel)
    clear hdep
    refine run_bare (by kernel_rfl) ?_
    unfold frbFr
    obtain ⟨y0, y1, y2, y3, y4⟩ := cells5 hV.1.1.2.1.1.1; obtain ⟨u0, u1, u2, u3, u4⟩ := cells5 hV.1.1.1.1.1; have y5 := hV.1.2.2.cell hiG; rw [hq.out] at y5; have y6 := hV.1.2.1.cell hiF; rw [hf.out] at y6
    go_simp
    refine kfit (hK _ _ (Below.refl _ V) rfl) ?_
    first | (simp only [frbFr, Act.put, List.setIfInBounds_toArray, List.set_cons_zero, List.set_cons_succ, h12, h13, h9, h10, e1]; done) | (simp only [frbFr, Act.put, List.setIfInBounds_toArray, List.set_cons_zero, List.set_cons_succ, h12, h13, h9, h10, e1]; rfl)
  -- 3: slot 98 := Op.move t13
  refine And.intro ?_ ?_
  · clear HFIN hgl
    rw [← hf]; clear hf
    refine ⟨by decide +kernel, fun x v => by kernel_rfl, fun x V hV hdep K hK => ?_⟩
    clear hdep
    refine run_bare (by kernel_rfl) ?_
    unfold frbFr
    go_simp
    refine kfit (hK _ _ (Below.refl _ V) rfl) ?_
    first | (simp only [frbFr, Act.put, List.setIfInBounds_toArray, List.set_cons_zero, List.set_cons_succ, h12, h13, h9, h10]; done) | (simp only [frbFr, Act.put, List.setIfInBounds_toArray, List.set_cons_zero, List.set_cons_succ, h12, h13, h9, h10]; rfl)
  -- 4: slot 99 := Op.indexAddr 40 t97 t98
  refine And.intro ?_ ?_
  · clear HFIN hgl
    rw [← hf]; clear hf
    refine ⟨by decide +kernel, fun x v => by kernel_rfl, fun x V hV hdep K hK => ?_⟩
    have e2 : x 2 = .slice (some ⟨gg, 0, none⟩) n gc := depOf hdep 2 (by decide +kernel)
    have e3 : x 3 = .int .i64 (ix : Int) := depOf hdep 3 (by decide +kernel)
    clear hdep
    refine run_bare (by kernel_rfl) ?_
    unfold frbFr
    go_simp
    refine kfit (hK _ _ (Below.refl _ V) rfl) ?_
    first | (simp only [frbFr, Act.put, List.setIfInBounds_toArray, List.set_cons_zero, List.set_cons_succ, h12, h13, h9, h10, e2, e3]; done) | (simp only [frbFr, Act.put, List.setIfInBounds_toArray, List.set_cons_zero, List.set_cons_succ, h12, h13, h9, h10, e2, e3]; rfl)
  -- 5: slot 100 := Op.load 9 t99
  refine And.intro ?_ ?_
  · clear HFIN hgl
    rw [← hf]; clear hf
    refine ⟨by decide +kernel, fun x v => by kernel_rfl, fun x V hV hdep K hK => ?_⟩
    have e4 : x 4 = .pointer (some ⟨gg, ix, none⟩) := depOf hdep 4 (by decide +kernel)
    clear hdep
    refine run_bare (by kernel_rfl) ?_
    unfold frbFr
    obtain ⟨y0, y1, y2, y3, y4⟩ := cells5 hV.1.1.2.1.1.1; obtain ⟨u0, u1, u2, u3, u4⟩ := cells5 hV.1.1.1.1.1; have y5 := hV.1.2.2.cell hiG; rw [hq.out] at y5; have y6 := hV.1.2.1.cell hiF; rw [hf.out] at y6
    go_simp
    refine kfit (hK _ _ (Below.refl _ V) rfl) ?_
    first | (simp only [frbFr, Act.put, List.setIfInBounds_toArray, List.set_cons_zero, List.set_cons_succ, h12, h13, h9, h10, e4]; done) | (simp only [frbFr, Act.put, List.setIfInBounds_toArray, List.set_cons_zero, List.set_cons_succ, h12, h13, h9, h10, e4]; rfl)
  -- 6: slot 101 := Op.fieldAddr 42 t9 0
  refine And.intro ?_ ?_
  · clear HFIN hgl
    rw [← hf]; clear hf
    refine ⟨by decide +kernel, fun x v => by kernel_rfl, fun x V hV hdep K hK => ?_⟩
    clear hdep
    refine run_bare (by kernel_rfl) ?_
    unfold frbFr
    go_simp
    refine kfit (hK _ _ (Below.refl _ V) rfl) ?_
    first | (simp only [frbFr, Act.put, List.setIfInBounds_toArray, List.set_cons_zero, List.set_cons_succ, h12, h13, h9, h10]; done) | (simp only [frbFr, Act.put, List.setIfInBounds_toArray, List.set_cons_zero, List.set_cons_succ, h12, h13, h9, h10]; rfl)
  -- 7: slot 102 := Op.load 40 t101
  refine And.intro ?_ ?_
  · clear HFIN hgl
    rw [← hf]; clear hf
    refine ⟨by decide +kernel, fun x v => by kernel_rfl, fun x V hV hdep K hK => ?_⟩
    have e6 : x 6 = .pointer (some ⟨b9, 0, none⟩) := depOf hdep 6 (by decide +kernel)
    clear hdep
    refine run_bare (by kernel_rfl) ?_
    unfold frbFr
    obtain ⟨y0, y1, y2, y3, y4⟩ := cells5 hV.1.1.2.1.1.1; obtain ⟨u0, u1, u2, u3, u4⟩ := cells5 hV.1.1.1.1.1; have y5 := hV.1.2.2.cell hiG; rw [hq.out] at y5; have y6 := hV.1.2.1.cell hiF; rw [hf.out] at y6
    go_simp
    refine kfit (hK _ _ (Below.refl _ V) rfl) ?_
    first | (simp only [frbFr, Act.put, List.setIfInBounds_toArray, List.set_cons_zero, List.set_cons_succ, h12, h13, h9, h10, e6]; done) | (simp only [frbFr, Act.put, List.setIfInBounds_toArray, List.set_cons_zero, List.set_cons_succ, h12, h13, h9, h10, e6]; rfl)
  -- 8: slot 103 := Op.move t13
  refine And.intro ?_ ?_
  · clear HFIN hgl
    rw [← hf]; clear hf
    refine ⟨by decide +kernel, fun x v => by kernel_rfl, fun x V hV hdep K hK => ?_⟩
    clear hdep
    refine run_bare (by kernel_rfl) ?_
    unfold frbFr
    go_simp
    refine kfit (hK _ _ (Below.refl _ V) rfl) ?_
    first | (simp only [frbFr, Act.put, List.setIfInBounds_toArray, List.set_cons_zero, List.set_cons_succ, h12, h13, h9, h10]; done) | (simp only [frbFr, Act.put, List.setIfInBounds_toArray, List.set_cons_zero, List.set_cons_succ, h12, h13, h9, h10]; rfl)
  -- 9: slot 104 := Op.indexAddr 40 t102 t103
  refine And.intro ?_ ?_
  · clear HFIN hgl
    rw [← hf]; clear hf
    refine ⟨by decide +kernel, fun x v => by kernel_rfl, fun x V hV hdep K hK => ?_⟩
    have e7 : x 7 = .slice (some ⟨gf, 0, none⟩) n fc := depOf hdep 7 (by decide +kernel)
    have e8 : x 8 = .int .i64 (ix : Int) := depOf hdep 8 (by decide +kernel)
    clear hdep
    refine run_bare (by kernel_rfl) ?_
    unfold frbFr
    go_simp
    refine kfit (hK _ _ (Below.refl _ V) rfl) ?_
    first | (simp only [frbFr, Act.put, List.setIfInBounds_toArray, List.set_cons_zero, List.set_cons_succ, h12, h13, h9, h10, e7, e8]; done) | (simp only [frbFr, Act.put, List.setIfInBounds_toArray, List.set_cons_zero, List.set_cons_succ, h12, h13, h9, h10, e7, e8]; rfl)
  -- 10: slot 105 := Op.load 9 t104
  refine And.intro ?_ ?_
  · clear HFIN hgl
    rw [← hf]; clear hf
    refine ⟨by decide +kernel, fun x v => by kernel_rfl, fun x V hV hdep K hK => ?_⟩
    have e9 : x 9 = .pointer (some ⟨gf, ix, none⟩) := depOf hdep 9 (by decide +kernel)
    clear hdep
    refine run_bare (by kernel_rfl) ?_
    unfold frbFr
    obtain ⟨y0, y1, y2, y3, y4⟩ := cells5 hV.1.1.2.1.1.1; obtain ⟨u0, u1, u2, u3, u4⟩ := cells5 hV.1.1.1.1.1; have y5 := hV.1.2.2.cell hiG; rw [hq.out] at y5; have y6 := hV.1.2.1.cell hiF; rw [hf.out] at y6
    go_simp
    refine kfit (hK _ _ (Below.refl _ V) rfl) ?_
    first | (simp only [frbFr, Act.put, List.setIfInBounds_toArray, List.set_cons_zero, List.set_cons_succ, h12, h13, h9, h10, e9]; done) | (simp only [frbFr, Act.put, List.setIfInBounds_toArray, List.set_cons_zero, List.set_cons_succ, h12, h13, h9, h10, e9]; rfl)
  -- 11: slot 106 := Op.call { value (Operand.func 16), args := #[t105], argTypes
  refine And.intro ?_ ?_
  · clear HFIN hgl
    rw [← hf]; clear hf
    refine ⟨by decide +kernel, fun x v => by kernel_rfl, fun x V hV hdep K hK => ?_⟩
    have e10 : x 10 = .string fx := depOf hdep 10 (by decide +kernel)
    clear hdep
    refine run_bare (by kernel_rfl) ?_
    unfold frbFr
    have HC11 := HC.out
    have H := HC11 V hV
    replace H := Lib.hid H; clear HC11
    go_simp
    go_at_call 16
    refine H.out.mono ?_
    rintro e Y ⟨rfl, hb⟩; refine kfit (hK _ _ hb rfl) ?_
    first | (simp only [frbFr, Act.put, List.setIfInBounds_toArray, List.set_cons_zero, List.set_cons_succ, h12, h13, h9, h10, e10]; done) | (simp only [frbFr, Act.put, List.setIfInBounds_toArray, List.set_cons_zero, List.set_cons_succ, h12, h13, h9, h10, e10]; rfl)
  -- 12: slot 107 := Op.build 50 #[(0, t100), (1, t106)]
  refine And.intro ?_ ?_
  · clear HFIN hgl
    rw [← hf]; clear hf
    refine ⟨by decide +kernel, fun x v => by kernel_rfl, fun x V hV hdep K hK => ?_⟩
    have e5 : x 5 = .string pr.n := depOf hdep 5 (by decide +kernel)
    have e11 : x 11 = .agg #[.int .i64 pr.t.kind, .string pr.t.name, .slice pr.a pr.t.kids.length pr.c] := depOf hdep 11 (by decide +kernel)
    clear hdep
    refine run_bare (by kernel_rfl) ?_
    unfold frbFr
    go_simp
    refine kfit (hK _ _ (Below.refl _ V) rfl) ?_
    first | (simp only [frbFr, Act.put, List.setIfInBounds_toArray, List.set_cons_zero, List.set_cons_succ, h12, h13, h9, h10, e5, e11]; done) | (simp only [frbFr, Act.put, List.setIfInBounds_toArray, List.set_cons_zero, List.set_cons_succ, h12, h13, h9, h10, e5, e11]; rfl)
  -- 13: slot 108 := Op.buildSlice 46 1 #[(0, t107)]
  refine And.intro ?_ ?_
  · clear HFIN hgl
    rw [← hf]; clear hf
    refine ⟨by decide +kernel, fun x v => by kernel_rfl, fun x V hV hdep K hK => ?_⟩
    have e12 : x 12 = .agg #[.string pr.n, .int .i64 pr.t.kind, .string pr.t.name, .slice pr.a pr.t.kids.length pr.c] := depOf hdep 12 (by decide +kernel)
    clear hdep
    refine run_bare (by kernel_rfl) ?_
    unfold frbFr
    go_simp
    refine kfit (hK _ _ (below_a _ _) ⟨_, rfl, alloc_new V _⟩) ?_
    first | (simp only [frbFr, Act.put, List.setIfInBounds_toArray, List.set_cons_zero, List.set_cons_succ, h12, h13, h9, h10, e12]; done) | (simp only [frbFr, Act.put, List.setIfInBounds_toArray, List.set_cons_zero, List.set_cons_succ, h12, h13, h9, h10, e12]; rfl)
  -- 14: slot 109 := Op.call { builtin append, args := #[t95, t108], argTypes := 
  · clear HC
    rw [← hgl]; clear hgl
    refine ⟨by decide +kernel, by decide +kernel, ⟨_, Array.mem_of_getElem (i := 0) (h := by decide) rfl, by decide, rfl⟩, fun x V hV hall K hK => ?_⟩
    have e0 : x 0 = lv := hall 0 (by decide)
    obtain ⟨zb, e13, hz⟩ : ∃ zb, x 13 = .slice (some ⟨zb, 0, none⟩) 1 1 ∧ RowY pr zb V := hall 13 (by decide)
    clear hall
    have ho := hV.2.1
    have hsz := hV.2.2.size
    obtain ⟨i0, hi, hz0, hz1, hz2⟩ := info_parts Tryd.infoRefPair
    have HF := Lib.hid (fun g9 c9 w9 => HFIN.out x V g9 c9 w9 hV)
    clear HFIN
    unfold frbFr at hK ⊢
    refine step_append_lies V (by kernel_rfl) (.tmp 95) (.tmp 108) 46 (by kernel_rfl) w1.heap.size 50 i0 (.agg zeroP) 4 64 Tryd.underlying46 hi hz0 hz1 hz2 rfl (by decide) lv ds.length (cellsP ds) e0 ho ⟨zb, 0, none⟩ 1 1 (encP pr) e13 rfl (World.news_of_block hz) (encP_one pr) (by decide) (by unfold maxLen; omega) (by omega) hsz V.heap.size rfl ?_
    intro g9 c9 w9 hown9 hgr9 _ _
    have H := Lib.hid (HF.out g9 c9 w9 hown9 hgr9)
    clear HF hown9 hgr9 hV ho hz
    unfold frbFr at H
    refine hK _ _ fun K2 hK2 => run_bare (by kernel_rfl) ?_
    clear hK
    go_simp
    refine kfit (hK2 _ _ H.out) ?_
    first | (simp only [Act.put, List.setIfInBounds_toArray, List.set_cons_zero, List.set_cons_succ, h9, h10, h12, h13, e0, e13]; done) | (simp only [Act.put, List.setIfInBounds_toArray, List.set_cons_zero, List.set_cons_succ, h9, h10, h12, h13, e0, e13]; rfl)
  -- 15: slot 12 := Op.assign t109
theorem frb_here {w : World} {b9 b10 n m : Nat} {F G : List ByteArray} {lc lu : List Pr} {t u : T} {gf gg : Nat} {xa ta pa za : Option Addr} {fc xc tc gc pc zc : Nat} {w1 : World} {ix : Nat} {fx : ByteArray} {pr : PR} {ds : List PR} {lv : Value} (hiG : ix < G.length) (hiF : ix < F.length) (hq : Hid (G.getD ix ⟨#[]⟩ = pr.n)) (hf : Hid (F.getD ix ⟨#[]⟩ = fx)) (hi0 : (0 : Int) ≤ (ix : Int)) (hin : (ix : Int) < (n : Int)) (hds : ds.length ≤ 1000)
    (HC11 : ∀ V, (FrQ w b9 b10 n m F G lc lu t u gf gg xa ta pa za fc xc tc gc pc zc V ∧ FrO w1 ds lv V) → Calls Tryd.prog 16 #[.string fx] V fun e Y => e = .returned (.agg #[.int .i64 pr.t.kind, .string pr.t.name, .slice pr.a pr.t.kids.length pr.c]) ∧ Below V.heap.size V Y)
    {Q : Exit → Act → World → Prop} {ops : Array Oper} {a : Act} (X : World) (hops : ops = frbOps)
    (h12 : a.tmps.getD 12 undef = lv) (h13 : a.tmps.getD 13 undef = .int .i64 (ix : Int)) (h9 : a.tmps.getD 9 undef = .pointer (some ⟨b9, 0, none⟩)) (h10 : a.tmps.getD 10 undef = .pointer (some ⟨b10, 0, none⟩))
    (ha : a = frbFr (fun j => a.tmps.getD j undef) a.defers (fun i => a.tmps.getD (95 + i) undef)) (hS : (FrQ w b9 b10 n m F G lc lu t u gf gg xa ta pa za fc xc tc gc pc zc X.drew ∧ FrO w1 ds lv X.drew))
    (hfin : ∀ (x : Nat → Value) V g9 c9 w9, (FrQ w b9 b10 n m F G lc lu t u gf gg xa ta pa za fc xc tc gc pc zc V ∧ FrO w1 ds lv V) → w9.ownsRow w1.heap.size 50 4 (.slice (some ⟨g9, 0, none⟩) (ds.length + 1) c9) (ds.length + 1) (cellsP ds ++ encP pr) → V.grownBy w9 lv.ownBlock → Q .normal (((frbFr (fun j => a.tmps.getD j undef) a.defers x).put (some 109) (.slice (some ⟨g9, 0, none⟩) (ds.length + 1) c9)).put (some 12) (.slice (some ⟨g9, 0, none⟩) (ds.length + 1) c9)) w9) : (Code.region 22 ops true).wp Tryd.prog Q a X :=
  cast (congrArg (fun z => (Code.region 22 ops true).wp Tryd.prog Q z X) ha.symm) (frb_region hiG hiF hq hf hi0 hin hds (b := fun j => a.tmps.getD j undef) (d := a.defers) h12 h13 h9 h10 HC11 hops _ X hS hfin)
end Go.Proofs.YtjnlchhikdfifaaDoor
/- SchemeFresh: what its end keeps. -/
namespace Go.Proofs.YtjnlchhikdfifaaDoor
open Go.RowKit Go.Sort Go.Lib
attribute [local go_sem] Oper.semAt_some

def FrE (w : World) (b9 b10 n m : Nat) (F G : List ByteArray) (lc lu : List Pr) (t u : T) (fa xa ta ga pa za ba : Option Addr) (bn bc : Nat) (ds : List PR) (fc xc tc gc pc zc : Nat) (V : World) : Prop :=
  FrS w b9 b10 n m F G lc lu t u fa xa ta ga pa za fc xc tc gc pc zc V ∧ GivenG 50 (.slice ba bn bc) ds V ∧ Typ ds V
theorem FrE.below {w : World} {b9 b10 n m : Nat} {F G : List ByteArray} {lc lu : List Pr} {t u : T} {fa xa ta ga pa za ba : Option Addr} {bn bc : Nat} {ds : List PR} {fc xc tc gc pc zc : Nat} {V Y : World} (h : FrE w b9 b10 n m F G lc lu t u fa xa ta ga pa za ba bn bc ds fc xc tc gc pc zc V) (hb : Below V.heap.size V Y) : FrE w b9 b10 n m F G lc lu t u fa xa ta ga pa za ba bn bc ds fc xc tc gc pc zc Y :=
  ⟨h.1.below hb, h.2.1.below hb, fun x hx => (h.2.2 x hx).keep (KeepT.of_below hb)⟩
end Go.Proofs.YtjnlchhikdfifaaDoor
/- SchemeFresh: the end: its last statement, a region of 20 operations that draws its order, by an invariant. (Made by a program.) -/
namespace Go.Proofs.YtjnlchhikdfifaaDoor
open Go.RowKit Go.Sort Go.Lib
attribute [local go_sem] Oper.semAt_some

noncomputable def frcOps : Array Oper := regionIn 23 (Tryd.f4.body.getD .skip)
def frcFr (b : Nat → Value) (d : List Deferred) (x : Nat → Value) : Act := { tmps := #[b 0, b 1, b 2, b 3, x 19, b 5, b 6, b 7, b 8, b 9, b 10, b 11, b 12, b 13, b 14, b 15, b 16, b 17, b 18, b 19, b 20, b 21, b 22, b 23, b 24, b 25, b 26, b 27, b 28, b 29, b 30, b 31, b 32, b 33, b 34, b 35, b 36, b 37, b 38, b 39, b 40, b 41, b 42, b 43, b 44, b 45, b 46, b 47, b 48, b 49, b 50, b 51, b 52, b 53, b 54, b 55, b 56, b 57, b 58, b 59, b 60, b 61, b 62, b 63, b 64, b 65, b 66, b 67, b 68, b 69, b 70, b 71, b 72, b 73, b 74, b 75, b 76, b 77, b 78, b 79, b 80, b 81, b 82, b 83, b 84, b 85, b 86, b 87, b 88, b 89, b 90, b 91, b 92, b 93, b 94, b 95, b 96, b 97, b 98, b 99, b 100, b 101, b 102, b 103, b 104, b 105, b 106, b 107, b 108, b 109, x 0, x 1, x 2, x 3, x 4, x 5, x 6, x 7, x 8, x 9, x 10, x 11, x 12, x 13, x 14, x 15, x 16, x 17, x 18], defers := d }

def frcVals (b9 b10 m : Nat) (lc : List Pr) (t u : T) (xa ta pa za ba : Option Addr) (bn bc xc tc pc zc : Nat) (i : Nat) (v : Value) (V : World) : Prop :=
  match i with
  | 0 => v = .bool true
  | 1 => v = .bool true
  | 2 => v = .slice ba bn bc
  | 3 => v = .pointer (some ⟨b10, 2, none⟩)
  | 4 => v = .agg #[.int .i64 (u).kind, .string (u).name, .slice za (u).kids.length zc]
  | 5 => ∃ qa qc, v = .agg #[.int .i64 (t).kind, .string (t).name, .slice qa (t).kids.length qc] ∧ TysAt V (.slice qa t.kids.length qc) t.kids
  | 6 => v = .pointer (some ⟨b9, 2, none⟩)
  | 7 => v = .agg #[.int .i64 (t).kind, .string (t).name, .slice ta (t).kids.length tc]
  | 8 => v = .bool true
  | 9 => v = .bool true
  | 10 => v = .bool true
  | 11 => v = .slice ba bn bc
  | 12 => v = .pointer (some ⟨b10, 1, none⟩)
  | 13 => v = .slice pa m pc
  | 14 => ∃ qa qc, v = .slice qa m qc ∧ PrsAt V (.slice qa m qc) lc
  | 15 => v = .pointer (some ⟨b9, 1, none⟩)
  | 16 => v = .slice xa m xc
  | 17 => v = .bool true
  | 18 => v = .bool true
  | 19 => v = .bool true
  | _ => True

theorem frcVals_keep {b9 b10 m : Nat} {lc : List Pr} {t u : T} {xa ta pa za ba : Option Addr} {bn bc xc tc pc zc : Nat} (i : Nat) (v : Value) (V Y : World) (h : frcVals b9 b10 m lc t u xa ta pa za ba bn bc xc tc pc zc i v V) (hb : Below V.heap.size V Y) : frcVals b9 b10 m lc t u xa ta pa za ba bn bc xc tc pc zc i v Y := by
  unfold frcVals at *
  split at h <;> first
    | exact h
    | (obtain ⟨qa, qc, e, h⟩ := h; exact ⟨qa, qc, e, h.keep (KeepT.of_below hb)⟩)
    | (obtain ⟨qa, qc, e, h⟩ := h; exact ⟨qa, qc, e, h.keep (KeepT.of_below hb) (KeepP.of_below hb)⟩)

theorem frc_size : frcOps.size = 20 := by kernel_rfl
theorem frc_dst_1 : (frcOps[1]?).bind (·.dst) = some 111 := by kernel_rfl
theorem frc_dst_10 : (frcOps[10]?).bind (·.dst) = some 120 := by kernel_rfl
set_option linter.unusedSimpArgs false in
set_option maxRecDepth 100000 in
set_option maxHeartbeats 8000000 in
theorem frc_region {w : World} {b9 b10 n m : Nat} {F G : List ByteArray} {lc lu : List Pr} {t u : T} {fa xa ta ga pa za ba : Option Addr} {bn bc : Nat} {ds : List PR} {fc xc tc gc pc zc : Nat} {b : Nat → Value} {d : List Deferred}
    (h5 : b 5 = .bool true) (h9 : b 9 = .pointer (some ⟨b9, 0, none⟩)) (h10 : b 10 = .pointer (some ⟨b10, 0, none⟩)) (h12 : b 12 = .slice ba bn bc)
    (HC5 : ∀ V, FrE w b9 b10 n m F G lc lu t u fa xa ta ga pa za ba bn bc ds fc xc tc gc pc zc V → Calls Tryd.prog 18 #[.slice ba bn bc, .agg #[.int .i64 (u).kind, .string (u).name, .slice za (u).kids.length zc]] V fun e Y => (∃ qa qc, e = .returned (.agg #[.int .i64 (t).kind, .string (t).name, .slice qa (t).kids.length qc]) ∧ TysAt Y (.slice qa t.kids.length qc) t.kids) ∧ Below V.heap.size V Y)
    (HC8 : ∀ V, FrE w b9 b10 n m F G lc lu t u fa xa ta ga pa za ba bn bc ds fc xc tc gc pc zc V → ∀ qa5, ∀ qc5, TysAt V (.slice qa5 t.kids.length qc5) t.kids → Calls Tryd.prog 17 #[.agg #[.int .i64 (t).kind, .string (t).name, .slice qa5 (t).kids.length qc5], .agg #[.int .i64 (t).kind, .string (t).name, .slice ta (t).kids.length tc]] V fun e Y => e = .returned (.bool true) ∧ Below V.heap.size V Y)
    (HC14 : ∀ V, FrE w b9 b10 n m F G lc lu t u fa xa ta ga pa za ba bn bc ds fc xc tc gc pc zc V → Calls Tryd.prog 19 #[.slice ba bn bc, .slice pa m pc] V fun e Y => (∃ qa qc, e = .returned (.slice qa m qc) ∧ PrsAt Y (.slice qa m qc) lc) ∧ Below V.heap.size V Y)
    (HC17 : ∀ V, FrE w b9 b10 n m F G lc lu t u fa xa ta ga pa za ba bn bc ds fc xc tc gc pc zc V → ∀ qa14, ∀ qc14, PrsAt V (.slice qa14 m qc14) lc → Calls Tryd.prog 11 #[.slice qa14 m qc14, .slice xa m xc] V fun e Y => e = .returned (.bool true) ∧ Below V.heap.size V Y)
    {Q : Exit → Act → World → Prop} {ops : Array Oper} (hops : ops = frcOps) (x0 : Nat → Value) (X : World) (hS : FrE w b9 b10 n m F G lc lu t u fa xa ta ga pa za ba bn bc ds fc xc tc gc pc zc X.drew)
    (hfin : ∀ x V, FrE w b9 b10 n m F G lc lu t u fa xa ta ga pa za ba bn bc ds fc xc tc gc pc zc V → x 19 = .bool true → Q .normal (frcFr b d x) V) : (Code.region 23 ops true).wp Tryd.prog Q (frcFr b d x0) X := by
  have HC := Lib.hid (And.intro HC5 (And.intro HC8 (And.intro HC14 HC17)))
  clear HC5 HC8 HC14 HC17
  refine region_inv (frcFr b d) (fun V => FrE w b9 b10 n m F G lc lu t u fa xa ta ga pa za ba bn bc ds fc xc tc gc pc zc V) (fun V Y => Below V.heap.size V Y) (frcVals b9 b10 m lc t u xa ta pa za ba bn bc xc tc pc zc) x0 (by kernel_rfl) rfl hS (fun V Y h hb => h.below hb) (fun i v V Y _ h hb => frcVals_keep i v V Y h hb) ?_ (fun x V hV h => hfin x V hV (h 19 (by rw [hops, frc_size]; decide)))
  clear hfin hS
  obtain ⟨f, hf⟩ : ∃ qq, StepAt Tryd.prog (frcFr b d) (fun V => FrE w b9 b10 n m F G lc lu t u fa xa ta ga pa za ba bn bc ds fc xc tc gc pc zc V) (fun V Y => Below V.heap.size V Y) (frcVals b9 b10 m lc t u xa ta pa za ba bn bc xc tc pc zc) ops Q = qq := ⟨_, rfl⟩
  rw [hf, hops]
  simp only [frcOps, Tryd.f4, regionIn, Option.getD_some, Nat.reduceBEq, Bool.false_eq_true, if_false, if_true, beq_self_eq_true, Array.append_empty, Array.empty_append, List.append_eq, List.cons_append, List.nil_append, AllAt, Nat.reduceAdd, Nat.zero_add]
  -- 0: slot 110 := Op.move t5
  refine And.intro ?_ ?_
  · rw [← hf]; clear hf
    refine ⟨by decide +kernel, fun x v => by kernel_rfl, fun x V hV hdep K hK => ?_⟩
    clear hdep
    refine run_bare (by kernel_rfl) ?_
    unfold frcFr
    go_simp
    refine kfit (hK _ _ (Below.refl _ V) rfl) ?_
    first | (simp only [frcFr, Act.put, List.setIfInBounds_toArray, List.set_cons_zero, List.set_cons_succ, h5, h9, h10, h12]; done) | (simp only [frcFr, Act.put, List.setIfInBounds_toArray, List.set_cons_zero, List.set_cons_succ, h5, h9, h10, h12]; rfl)
  -- 1: slot 111 := Op.move t110
  refine And.intro ?_ ?_
  · rw [← hf]; clear hf
    refine ⟨by decide +kernel, fun x v => by kernel_rfl, fun x V hV hdep K hK => ?_⟩
    have e0 : x 0 = .bool true := depOf hdep 0 (by decide +kernel)
    clear hdep
    refine run_bare (by kernel_rfl) ?_
    unfold frcFr
    go_simp
    refine kfit (hK _ _ (Below.refl _ V) rfl) ?_
    first | (simp only [frcFr, Act.put, List.setIfInBounds_toArray, List.set_cons_zero, List.set_cons_succ, h5, h9, h10, h12, e0]; done) | (simp only [frcFr, Act.put, List.setIfInBounds_toArray, List.set_cons_zero, List.set_cons_succ, h5, h9, h10, h12, e0]; rfl)
  -- 2: slot 112 := Op.move t12
  refine And.intro ?_ ?_
  · rw [← hf]; clear hf
    refine ⟨by decide +kernel, fun x v => by kernel_rfl, fun x V hV hdep K hK => ?_⟩
    have e1 : x 1 = .bool true := depOf hdep 1 (by decide +kernel)
    clear hdep
    refine run_guard 1 111 (x 1) (by kernel_rfl) (by rw [hops]; exact frc_dst_1) (by kernel_rfl) e1 ?_; clear hops
    unfold frcFr
    go_simp
    refine kfit (hK _ _ (Below.refl _ V) rfl) ?_
    first | (simp only [frcFr, Act.put, List.setIfInBounds_toArray, List.set_cons_zero, List.set_cons_succ, h5, h9, h10, h12, e1]; done) | (simp only [frcFr, Act.put, List.setIfInBounds_toArray, List.set_cons_zero, List.set_cons_succ, h5, h9, h10, h12, e1]; rfl)
  -- 3: slot 113 := Op.fieldAddr 42 t10 2
  refine And.intro ?_ ?_
  · rw [← hf]; clear hf
    refine ⟨by decide +kernel, fun x v => by kernel_rfl, fun x V hV hdep K hK => ?_⟩
    have e1 : x 1 = .bool true := depOf hdep 1 (by decide +kernel)
    clear hdep
    refine run_guard 1 111 (x 1) (by kernel_rfl) (by rw [hops]; exact frc_dst_1) (by kernel_rfl) e1 ?_; clear hops
    unfold frcFr
    go_simp
    refine kfit (hK _ _ (Below.refl _ V) rfl) ?_
    first | (simp only [frcFr, Act.put, List.setIfInBounds_toArray, List.set_cons_zero, List.set_cons_succ, h5, h9, h10, h12, e1]; done) | (simp only [frcFr, Act.put, List.setIfInBounds_toArray, List.set_cons_zero, List.set_cons_succ, h5, h9, h10, h12, e1]; rfl)
  -- 4: slot 114 := Op.load 33 t113
  refine And.intro ?_ ?_
  · rw [← hf]; clear hf
    refine ⟨by decide +kernel, fun x v => by kernel_rfl, fun x V hV hdep K hK => ?_⟩
    have e1 : x 1 = .bool true := depOf hdep 1 (by decide +kernel)
    have e3 : x 3 = .pointer (some ⟨b10, 2, none⟩) := depOf hdep 3 (by decide +kernel)
    clear hdep
    refine run_guard 1 111 (x 1) (by kernel_rfl) (by rw [hops]; exact frc_dst_1) (by kernel_rfl) e1 ?_; clear hops
    unfold frcFr
    obtain ⟨y0, y1, y2, y3, y4⟩ := cells5 hV.1.2.1.1.1; obtain ⟨u0, u1, u2, u3, u4⟩ := cells5 hV.1.1.1.1
    go_simp
    refine kfit (hK _ _ (Below.refl _ V) rfl) ?_
    first | (simp only [frcFr, Act.put, List.setIfInBounds_toArray, List.set_cons_zero, List.set_cons_succ, h5, h9, h10, h12, e1, e3]; done) | (simp only [frcFr, Act.put, List.setIfInBounds_toArray, List.set_cons_zero, List.set_cons_succ, h5, h9, h10, h12, e1, e3]; rfl)
  -- 5: slot 115 := Op.call { value (Operand.func 18), args := #[t112, t114], ar
  refine And.intro ?_ ?_
  · rw [← hf]; clear hf
    refine ⟨by decide +kernel, fun x v => by kernel_rfl, fun x V hV hdep K hK => ?_⟩
    have e1 : x 1 = .bool true := depOf hdep 1 (by decide +kernel)
    have e2 : x 2 = .slice ba bn bc := depOf hdep 2 (by decide +kernel)
    have e4 : x 4 = .agg #[.int .i64 (u).kind, .string (u).name, .slice za (u).kids.length zc] := depOf hdep 4 (by decide +kernel)
    clear hdep
    refine run_guard 1 111 (x 1) (by kernel_rfl) (by rw [hops]; exact frc_dst_1) (by kernel_rfl) e1 ?_; clear hops
    unfold frcFr
    obtain ⟨HC5, HC8, HC14, HC17⟩ := HC.out
    clear HC8 HC14 HC17
    have H := HC5 V hV
    replace H := Lib.hid H; clear HC5
    go_simp
    go_at_call 18
    refine H.out.mono ?_
    rintro e Y ⟨⟨qa, qc, rfl, hq⟩, hb⟩; refine kfit (hK _ _ hb ⟨qa, qc, rfl, hq⟩) ?_
    first | (simp only [frcFr, Act.put, List.setIfInBounds_toArray, List.set_cons_zero, List.set_cons_succ, h5, h9, h10, h12, e1, e2, e4]; done) | (simp only [frcFr, Act.put, List.setIfInBounds_toArray, List.set_cons_zero, List.set_cons_succ, h5, h9, h10, h12, e1, e2, e4]; rfl)
  -- 6: slot 116 := Op.fieldAddr 42 t9 2
  refine And.intro ?_ ?_
  · rw [← hf]; clear hf
    refine ⟨by decide +kernel, fun x v => by kernel_rfl, fun x V hV hdep K hK => ?_⟩
    have e1 : x 1 = .bool true := depOf hdep 1 (by decide +kernel)
    clear hdep
    refine run_guard 1 111 (x 1) (by kernel_rfl) (by rw [hops]; exact frc_dst_1) (by kernel_rfl) e1 ?_; clear hops
    unfold frcFr
    go_simp
    refine kfit (hK _ _ (Below.refl _ V) rfl) ?_
    first | (simp only [frcFr, Act.put, List.setIfInBounds_toArray, List.set_cons_zero, List.set_cons_succ, h5, h9, h10, h12, e1]; done) | (simp only [frcFr, Act.put, List.setIfInBounds_toArray, List.set_cons_zero, List.set_cons_succ, h5, h9, h10, h12, e1]; rfl)
  -- 7: slot 117 := Op.load 33 t116
  refine And.intro ?_ ?_
  · rw [← hf]; clear hf
    refine ⟨by decide +kernel, fun x v => by kernel_rfl, fun x V hV hdep K hK => ?_⟩
    have e1 : x 1 = .bool true := depOf hdep 1 (by decide +kernel)
    have e6 : x 6 = .pointer (some ⟨b9, 2, none⟩) := depOf hdep 6 (by decide +kernel)
    clear hdep
    refine run_guard 1 111 (x 1) (by kernel_rfl) (by rw [hops]; exact frc_dst_1) (by kernel_rfl) e1 ?_; clear hops
    unfold frcFr
    obtain ⟨y0, y1, y2, y3, y4⟩ := cells5 hV.1.2.1.1.1; obtain ⟨u0, u1, u2, u3, u4⟩ := cells5 hV.1.1.1.1
    go_simp
    refine kfit (hK _ _ (Below.refl _ V) rfl) ?_
    first | (simp only [frcFr, Act.put, List.setIfInBounds_toArray, List.set_cons_zero, List.set_cons_succ, h5, h9, h10, h12, e1, e6]; done) | (simp only [frcFr, Act.put, List.setIfInBounds_toArray, List.set_cons_zero, List.set_cons_succ, h5, h9, h10, h12, e1, e6]; rfl)
  -- 8: slot 118 := Op.call { value (Operand.func 17), args := #[t115, t117], ar
  refine And.intro ?_ ?_
  · rw [← hf]; clear hf
    refine ⟨by decide +kernel, fun x v => by kernel_rfl, fun x V hV hdep K hK => ?_⟩
    have e1 : x 1 = .bool true := depOf hdep 1 (by decide +kernel)
    obtain ⟨qa5, qc5, e5, d5⟩ : ∃ qa5 qc5, x 5 = .agg #[.int .i64 (t).kind, .string (t).name, .slice qa5 (t).kids.length qc5] ∧ TysAt V (.slice qa5 t.kids.length qc5) t.kids := depOf hdep 5 (by decide +kernel)
    have e7 : x 7 = .agg #[.int .i64 (t).kind, .string (t).name, .slice ta (t).kids.length tc] := depOf hdep 7 (by decide +kernel)
    clear hdep
    refine run_guard 1 111 (x 1) (by kernel_rfl) (by rw [hops]; exact frc_dst_1) (by kernel_rfl) e1 ?_; clear hops
    unfold frcFr
    obtain ⟨HC5, HC8, HC14, HC17⟩ := HC.out
    clear HC5 HC14 HC17
    have H := HC8 V hV _ _ d5
    replace H := Lib.hid H; clear HC8
    go_simp
    go_at_call 17
    refine H.out.mono ?_
    rintro e Y ⟨rfl, hb⟩; refine kfit (hK _ _ hb rfl) ?_
    first | (simp only [frcFr, Act.put, List.setIfInBounds_toArray, List.set_cons_zero, List.set_cons_succ, h5, h9, h10, h12, e1, e5, e7]; done) | (simp only [frcFr, Act.put, List.setIfInBounds_toArray, List.set_cons_zero, List.set_cons_succ, h5, h9, h10, h12, e1, e5, e7]; rfl)
  -- 9: slot 119 := Op.pick t111 t118 (const (Value.bool false))
  refine And.intro ?_ ?_
  · rw [← hf]; clear hf
    refine ⟨by decide +kernel, fun x v => by kernel_rfl, fun x V hV hdep K hK => ?_⟩
    have e1 : x 1 = .bool true := depOf hdep 1 (by decide +kernel)
    have e8 : x 8 = .bool true := depOf hdep 8 (by decide +kernel)
    clear hdep
    refine run_bare (by kernel_rfl) ?_
    unfold frcFr
    go_simp
    refine kfit (hK _ _ (Below.refl _ V) rfl) ?_
    first | (simp only [frcFr, Act.put, List.setIfInBounds_toArray, List.set_cons_zero, List.set_cons_succ, h5, h9, h10, h12, e1, e8]; done) | (simp only [frcFr, Act.put, List.setIfInBounds_toArray, List.set_cons_zero, List.set_cons_succ, h5, h9, h10, h12, e1, e8]; rfl)
  -- 10: slot 120 := Op.move t119
  refine And.intro ?_ ?_
  · rw [← hf]; clear hf
    refine ⟨by decide +kernel, fun x v => by kernel_rfl, fun x V hV hdep K hK => ?_⟩
    have e9 : x 9 = .bool true := depOf hdep 9 (by decide +kernel)
    clear hdep
    refine run_bare (by kernel_rfl) ?_
    unfold frcFr
    go_simp
    refine kfit (hK _ _ (Below.refl _ V) rfl) ?_
    first | (simp only [frcFr, Act.put, List.setIfInBounds_toArray, List.set_cons_zero, List.set_cons_succ, h5, h9, h10, h12, e9]; done) | (simp only [frcFr, Act.put, List.setIfInBounds_toArray, List.set_cons_zero, List.set_cons_succ, h5, h9, h10, h12, e9]; rfl)
  -- 11: slot 121 := Op.move t12
  refine And.intro ?_ ?_
  · rw [← hf]; clear hf
    refine ⟨by decide +kernel, fun x v => by kernel_rfl, fun x V hV hdep K hK => ?_⟩
    have e10 : x 10 = .bool true := depOf hdep 10 (by decide +kernel)
    clear hdep
    refine run_guard 10 120 (x 10) (by kernel_rfl) (by rw [hops]; exact frc_dst_10) (by kernel_rfl) e10 ?_; clear hops
    unfold frcFr
    go_simp
    refine kfit (hK _ _ (Below.refl _ V) rfl) ?_
    first | (simp only [frcFr, Act.put, List.setIfInBounds_toArray, List.set_cons_zero, List.set_cons_succ, h5, h9, h10, h12, e10]; done) | (simp only [frcFr, Act.put, List.setIfInBounds_toArray, List.set_cons_zero, List.set_cons_succ, h5, h9, h10, h12, e10]; rfl)
  -- 12: slot 122 := Op.fieldAddr 42 t10 1
  refine And.intro ?_ ?_
  · rw [← hf]; clear hf
    refine ⟨by decide +kernel, fun x v => by kernel_rfl, fun x V hV hdep K hK => ?_⟩
    have e10 : x 10 = .bool true := depOf hdep 10 (by decide +kernel)
    clear hdep
    refine run_guard 10 120 (x 10) (by kernel_rfl) (by rw [hops]; exact frc_dst_10) (by kernel_rfl) e10 ?_; clear hops
    unfold frcFr
    go_simp
    refine kfit (hK _ _ (Below.refl _ V) rfl) ?_
    first | (simp only [frcFr, Act.put, List.setIfInBounds_toArray, List.set_cons_zero, List.set_cons_succ, h5, h9, h10, h12, e10]; done) | (simp only [frcFr, Act.put, List.setIfInBounds_toArray, List.set_cons_zero, List.set_cons_succ, h5, h9, h10, h12, e10]; rfl)
  -- 13: slot 123 := Op.load 24 t122
  refine And.intro ?_ ?_
  · rw [← hf]; clear hf
    refine ⟨by decide +kernel, fun x v => by kernel_rfl, fun x V hV hdep K hK => ?_⟩
    have e10 : x 10 = .bool true := depOf hdep 10 (by decide +kernel)
    have e12 : x 12 = .pointer (some ⟨b10, 1, none⟩) := depOf hdep 12 (by decide +kernel)
    clear hdep
    refine run_guard 10 120 (x 10) (by kernel_rfl) (by rw [hops]; exact frc_dst_10) (by kernel_rfl) e10 ?_; clear hops
    unfold frcFr
    obtain ⟨y0, y1, y2, y3, y4⟩ := cells5 hV.1.2.1.1.1; obtain ⟨u0, u1, u2, u3, u4⟩ := cells5 hV.1.1.1.1
    go_simp
    refine kfit (hK _ _ (Below.refl _ V) rfl) ?_
    first | (simp only [frcFr, Act.put, List.setIfInBounds_toArray, List.set_cons_zero, List.set_cons_succ, h5, h9, h10, h12, e10, e12]; done) | (simp only [frcFr, Act.put, List.setIfInBounds_toArray, List.set_cons_zero, List.set_cons_succ, h5, h9, h10, h12, e10, e12]; rfl)
  -- 14: slot 124 := Op.call { value (Operand.func 19), args := #[t121, t123], ar
  refine And.intro ?_ ?_
  · rw [← hf]; clear hf
    refine ⟨by decide +kernel, fun x v => by kernel_rfl, fun x V hV hdep K hK => ?_⟩
    have e10 : x 10 = .bool true := depOf hdep 10 (by decide +kernel)
    have e11 : x 11 = .slice ba bn bc := depOf hdep 11 (by decide +kernel)
    have e13 : x 13 = .slice pa m pc := depOf hdep 13 (by decide +kernel)
    clear hdep
    refine run_guard 10 120 (x 10) (by kernel_rfl) (by rw [hops]; exact frc_dst_10) (by kernel_rfl) e10 ?_; clear hops
    unfold frcFr
    obtain ⟨HC5, HC8, HC14, HC17⟩ := HC.out
    clear HC5 HC8 HC17
    have H := HC14 V hV
    replace H := Lib.hid H; clear HC14
    go_simp
    go_at_call 19
    refine H.out.mono ?_
    rintro e Y ⟨⟨qa, qc, rfl, hq⟩, hb⟩; refine kfit (hK _ _ hb ⟨qa, qc, rfl, hq⟩) ?_
    first | (simp only [frcFr, Act.put, List.setIfInBounds_toArray, List.set_cons_zero, List.set_cons_succ, h5, h9, h10, h12, e10, e11, e13]; done) | (simp only [frcFr, Act.put, List.setIfInBounds_toArray, List.set_cons_zero, List.set_cons_succ, h5, h9, h10, h12, e10, e11, e13]; rfl)
  -- 15: slot 125 := Op.fieldAddr 42 t9 1
  refine And.intro ?_ ?_
  · rw [← hf]; clear hf
    refine ⟨by decide +kernel, fun x v => by kernel_rfl, fun x V hV hdep K hK => ?_⟩
    have e10 : x 10 = .bool true := depOf hdep 10 (by decide +kernel)
    clear hdep
    refine run_guard 10 120 (x 10) (by kernel_rfl) (by rw [hops]; exact frc_dst_10) (by kernel_rfl) e10 ?_; clear hops
    unfold frcFr
    go_simp
    refine kfit (hK _ _ (Below.refl _ V) rfl) ?_
    first | (simp only [frcFr, Act.put, List.setIfInBounds_toArray, List.set_cons_zero, List.set_cons_succ, h5, h9, h10, h12, e10]; done) | (simp only [frcFr, Act.put, List.setIfInBounds_toArray, List.set_cons_zero, List.set_cons_succ, h5, h9, h10, h12, e10]; rfl)
  -- 16: slot 126 := Op.load 24 t125
  refine And.intro ?_ ?_
  · rw [← hf]; clear hf
    refine ⟨by decide +kernel, fun x v => by kernel_rfl, fun x V hV hdep K hK => ?_⟩
    have e10 : x 10 = .bool true := depOf hdep 10 (by decide +kernel)
    have e15 : x 15 = .pointer (some ⟨b9, 1, none⟩) := depOf hdep 15 (by decide +kernel)
    clear hdep
    refine run_guard 10 120 (x 10) (by kernel_rfl) (by rw [hops]; exact frc_dst_10) (by kernel_rfl) e10 ?_; clear hops
    unfold frcFr
    obtain ⟨y0, y1, y2, y3, y4⟩ := cells5 hV.1.2.1.1.1; obtain ⟨u0, u1, u2, u3, u4⟩ := cells5 hV.1.1.1.1
    go_simp
    refine kfit (hK _ _ (Below.refl _ V) rfl) ?_
    first | (simp only [frcFr, Act.put, List.setIfInBounds_toArray, List.set_cons_zero, List.set_cons_succ, h5, h9, h10, h12, e10, e15]; done) | (simp only [frcFr, Act.put, List.setIfInBounds_toArray, List.set_cons_zero, List.set_cons_succ, h5, h9, h10, h12, e10, e15]; rfl)
  -- 17: slot 127 := Op.call { value (Operand.func 11), args := #[t124, t126], ar
  refine And.intro ?_ ?_
  · rw [← hf]; clear hf
    refine ⟨by decide +kernel, fun x v => by kernel_rfl, fun x V hV hdep K hK => ?_⟩
    have e10 : x 10 = .bool true := depOf hdep 10 (by decide +kernel)
    obtain ⟨qa14, qc14, e14, d14⟩ : ∃ qa14 qc14, x 14 = .slice qa14 m qc14 ∧ PrsAt V (.slice qa14 m qc14) lc := depOf hdep 14 (by decide +kernel)
    have e16 : x 16 = .slice xa m xc := depOf hdep 16 (by decide +kernel)
    clear hdep
    refine run_guard 10 120 (x 10) (by kernel_rfl) (by rw [hops]; exact frc_dst_10) (by kernel_rfl) e10 ?_; clear hops
    unfold frcFr
    obtain ⟨HC5, HC8, HC14, HC17⟩ := HC.out
    clear HC5 HC8 HC14
    have H := HC17 V hV _ _ d14
    replace H := Lib.hid H; clear HC17
    go_simp
    go_at_call 11
    refine H.out.mono ?_
    rintro e Y ⟨rfl, hb⟩; refine kfit (hK _ _ hb rfl) ?_
    first | (simp only [frcFr, Act.put, List.setIfInBounds_toArray, List.set_cons_zero, List.set_cons_succ, h5, h9, h10, h12, e10, e14, e16]; done) | (simp only [frcFr, Act.put, List.setIfInBounds_toArray, List.set_cons_zero, List.set_cons_succ, h5, h9, h10, h12, e10, e14, e16]; rfl)
  -- 18: slot 128 := Op.pick t120 t127 (const (Value.bool false))
  refine And.intro ?_ ?_
  · rw [← hf]; clear hf
    refine ⟨by decide +kernel, fun x v => by kernel_rfl, fun x V hV hdep K hK => ?_⟩
    have e10 : x 10 = .bool true := depOf hdep 10 (by decide +kernel)
    have e17 : x 17 = .bool true := depOf hdep 17 (by decide +kernel)
    clear hdep
    refine run_bare (by kernel_rfl) ?_
    unfold frcFr
    go_simp
    refine kfit (hK _ _ (Below.refl _ V) rfl) ?_
    first | (simp only [frcFr, Act.put, List.setIfInBounds_toArray, List.set_cons_zero, List.set_cons_succ, h5, h9, h10, h12, e10, e17]; done) | (simp only [frcFr, Act.put, List.setIfInBounds_toArray, List.set_cons_zero, List.set_cons_succ, h5, h9, h10, h12, e10, e17]; rfl)
  -- 19: slot 4 := Op.assign t128
  refine And.intro ?_ ?_
  · rw [← hf]; clear hf
    refine ⟨by decide +kernel, fun x v => by kernel_rfl, fun x V hV hdep K hK => ?_⟩
    have e18 : x 18 = .bool true := depOf hdep 18 (by decide +kernel)
    clear hdep
    refine run_bare (by kernel_rfl) ?_
    unfold frcFr
    go_simp
    refine kfit (hK _ _ (Below.refl _ V) rfl) ?_
    first | (simp only [frcFr, Act.put, List.setIfInBounds_toArray, List.set_cons_zero, List.set_cons_succ, h5, h9, h10, h12, e18]; done) | (simp only [frcFr, Act.put, List.setIfInBounds_toArray, List.set_cons_zero, List.set_cons_succ, h5, h9, h10, h12, e18]; rfl)
  exact trivial
theorem frc_here {w : World} {b9 b10 n m : Nat} {F G : List ByteArray} {lc lu : List Pr} {t u : T} {fa xa ta ga pa za ba : Option Addr} {bn bc : Nat} {ds : List PR} {fc xc tc gc pc zc : Nat}
    (HC5 : ∀ V, FrE w b9 b10 n m F G lc lu t u fa xa ta ga pa za ba bn bc ds fc xc tc gc pc zc V → Calls Tryd.prog 18 #[.slice ba bn bc, .agg #[.int .i64 (u).kind, .string (u).name, .slice za (u).kids.length zc]] V fun e Y => (∃ qa qc, e = .returned (.agg #[.int .i64 (t).kind, .string (t).name, .slice qa (t).kids.length qc]) ∧ TysAt Y (.slice qa t.kids.length qc) t.kids) ∧ Below V.heap.size V Y)
    (HC8 : ∀ V, FrE w b9 b10 n m F G lc lu t u fa xa ta ga pa za ba bn bc ds fc xc tc gc pc zc V → ∀ qa5, ∀ qc5, TysAt V (.slice qa5 t.kids.length qc5) t.kids → Calls Tryd.prog 17 #[.agg #[.int .i64 (t).kind, .string (t).name, .slice qa5 (t).kids.length qc5], .agg #[.int .i64 (t).kind, .string (t).name, .slice ta (t).kids.length tc]] V fun e Y => e = .returned (.bool true) ∧ Below V.heap.size V Y)
    (HC14 : ∀ V, FrE w b9 b10 n m F G lc lu t u fa xa ta ga pa za ba bn bc ds fc xc tc gc pc zc V → Calls Tryd.prog 19 #[.slice ba bn bc, .slice pa m pc] V fun e Y => (∃ qa qc, e = .returned (.slice qa m qc) ∧ PrsAt Y (.slice qa m qc) lc) ∧ Below V.heap.size V Y)
    (HC17 : ∀ V, FrE w b9 b10 n m F G lc lu t u fa xa ta ga pa za ba bn bc ds fc xc tc gc pc zc V → ∀ qa14, ∀ qc14, PrsAt V (.slice qa14 m qc14) lc → Calls Tryd.prog 11 #[.slice qa14 m qc14, .slice xa m xc] V fun e Y => e = .returned (.bool true) ∧ Below V.heap.size V Y)
    {Q : Exit → Act → World → Prop} {ops : Array Oper} {a : Act} (X : World) (hops : ops = frcOps)
    (h5 : a.tmps.getD 5 undef = .bool true) (h9 : a.tmps.getD 9 undef = .pointer (some ⟨b9, 0, none⟩)) (h10 : a.tmps.getD 10 undef = .pointer (some ⟨b10, 0, none⟩)) (h12 : a.tmps.getD 12 undef = .slice ba bn bc)
    (ha : a = frcFr (fun j => a.tmps.getD j undef) a.defers (fun i => a.tmps.getD (if i = 19 then 4 else 110 + i) undef)) (hS : FrE w b9 b10 n m F G lc lu t u fa xa ta ga pa za ba bn bc ds fc xc tc gc pc zc X.drew)
    (hfin : ∀ x V, FrE w b9 b10 n m F G lc lu t u fa xa ta ga pa za ba bn bc ds fc xc tc gc pc zc V → x 19 = .bool true → Q .normal (frcFr (fun j => a.tmps.getD j undef) a.defers x) V) : (Code.region 23 ops true).wp Tryd.prog Q a X :=
  cast (congrArg (fun z => (Code.region 23 ops true).wp Tryd.prog Q z X) ha.symm) (frc_region (b := fun j => a.tmps.getD j undef) (d := a.defers) h5 h9 h10 h12 HC5 HC8 HC14 HC17 hops _ X hS hfin)
end Go.Proofs.YtjnlchhikdfifaaDoor
/- SchemeFresh, walked. -/
namespace Go.Proofs.YtjnlchhikdfifaaDoor
open Go.RowKit Go.Sort Go.Lib
attribute [local go_sem] Oper.semAt_some

set_option maxRecDepth 100000 in
set_option maxHeartbeats 16000000 in
theorem sfresh_law (a1 : Option Addr) (n1 c1 : Nat) (z : Int) (w : World) (hl1 : IntsAt w.heap.size a1 n1 w) (hz : -9223372036854775808 ≤ z ∧ z ≤ 9223372036854775807) (hT : Tab w) :
    Calls Tryd.prog 4 #[.slice a1 n1 c1, .int .i64 z] w fun e w' => e = .returned (.bool true) ∧ Below w.heap.size w w' := by
  have HL1 := Lib.hid hl1
  have HTab := Lib.hid hT
  clear hl1 hT
  by_cases hb1 : n1 ≤ 100
  · have hn1 : n1 < 1152921504606846976 := by omega
    have hb1I : ¬ ((100 : Int) < (n1 : Int)) := by omega
    by_cases hz0 : z < 0
    · go_enter Tryd.func4, Tryd.ntmps4
      go_wp2_with (go_at_call 5; refine (first8_any _).mono ?_; rintro e w' ⟨rfl, rfl⟩)
      obtain ⟨k, hk, he⟩ : ∃ k : Nat, k < 1000 ∧ (-(z + 1).tmod 1000) = (k : Int) := ⟨(-(z + 1).tmod 1000).toNat, by
        have h1 := Int.tmod_nonneg 1000 (show 0 ≤ -(z + 1) by omega)
        have h2 := Int.tmod_lt_of_pos (-(z + 1)) (show (0 : Int) < 1000 by decide)
        rw [Int.neg_tmod] at h1 h2
        constructor <;> omega⟩
      rw [he]
      clear he hz0 hz
      refine (make_n3 w.heap.size w.heap.size a1 n1 c1 0 _ (seq_new (Below.refl _ _) HL1.out) (by decide) hn1).mono ?_
      rintro e W1 ⟨⟨t, u0, rfl, hg, hu⟩, ⟨k1, hk1, hs1⟩, hf1⟩
      obtain ⟨pa0, ca0, rfl⟩ := hu.shape
      have hts : tsize t ≤ 112 := by have := size_text t hg.1; have := hg.2.2; omega
      have HB1 := Lib.hid (((Below.refl w.heap.size w).alloc (Nat.le_refl _) _).trans hf1.1)
      have HT1 := Lib.hid hu.tys
      have HG := Lib.hid (And.intro hg.1 hg.2.1)
      have HS1 := Lib.hid hs1
      have hW1 : w.heap.size < W1.heap.size := hs1.lt
      clear hu hf1 hg hs1 HL1
      simp only [tyV]
      go_wp2_with (go_at_call 6; fail)
      refine (make_predsG 3 1 4 28 (by decide) (by decide) w.heap.size w.heap.size a1 n1 c1 k1 _ (HS1.out.below ((Below.refl _ W1).alloc (Nat.le_refl _) _)) (by omega) (fun k W hs hk => make_n1 w.heap.size w.heap.size a1 n1 c1 k W hs (by omega) hn1) hn1).mono ?_
      rintro e W2 ⟨⟨lc, v, rfl, ⟨hl3, hq⟩, hp⟩, _, hf2⟩
      obtain ⟨va, vc, rfl⟩ := hp.shape
      have hx := hf2.2 _ _ (alloc_new W1 _) (by omega)
      obtain ⟨x0, x1, x2⟩ := three_cells hx
      have HT2 := Lib.hid (HT1.out.keep ((keepT_alloc W1 _).trans (KeepT.of_mk hf2 (HS1.out.below ((Below.refl _ W1).alloc (Nat.le_refl _) _)))))
      have HB2 := Lib.hid ((HB1.out.alloc (by omega) _).trans hf2.1)
      have HP2 := Lib.hid hp
      obtain ⟨F, hF⟩ : ∃ l, fvs [] [] (t :: lc.map (·.2)) = l := ⟨_, rfl⟩
      have hgd : ∀ u ∈ t :: lc.map (·.2), T.Good u := fun u hu => by
        rcases List.mem_cons.1 hu with rfl | hu
        · exact HG.out.1
        · obtain ⟨q, hq', rfl⟩ := List.mem_map.1 hu; exact (hq q hq').1
      have hsq : ∀ q ∈ lc, tsize q.2 ≤ 112 := fun q hq' => by have h1 := hq q hq'; have := size_text q.2 h1.1; have := h1.2.2; omega
      have hF3 : F.length ≤ 3 := by rw [← hF]; exact fvs_three _ hgd
      have hsz : tsizes (t :: lc.map (·.2)) ≤ 1000000000 := by
        have := tsizes_le (t :: lc.map (·.2)) 112 fun u hu => by
          rcases List.mem_cons.1 hu with rfl | hu
          · exact hts
          · obtain ⟨q, hq', rfl⟩ := List.mem_map.1 hu; exact hsq q hq'
        simp at this; omega
      have HCl := Lib.hid (rclose_any t lc F hF (by omega) hsz pa0 va ca0 vc W2 HT2.out hp (by omega))
      have HIn := Lib.hid (show (∀ x ∈ vs t, x ∈ F) ∧ ∀ q ∈ lc, ∀ x ∈ vs q.2, x ∈ F from ⟨fun x hx => by rw [← hF]; exact (fvs_in _ hgd x).2 ⟨t, List.mem_cons_self .., hx⟩, fun q hq' x hx => by rw [← hF]; exact (fvs_in _ hgd x).2 ⟨q.2, List.mem_cons_of_mem _ (List.mem_map.2 ⟨q, hq', rfl⟩), hx⟩⟩)
      have HSq := Lib.hid hsq
      have HFq := Lib.hid (show ∀ q ∈ lc, Fits q.2 from fun q hq' => (hq q hq').2.1)
      clear hx hp hq hgd hsq hsz hF hf2 HT1 HS1 HB1
      go_wp2_with (go_at_call 13; fail)
      refine HCl.out.mono ?_
      rintro e W3 ⟨⟨fa, fc, rfl, hTx⟩, hb3⟩
      have hal := hb3.alloc hb3.size (.cells #[.slice fa F.length fc, .slice va lc.length vc, .int .i64 t.kind, .string t.name, .slice pa0 t.kids.length ca0] 42)
      have hk3 := KeepT.of_below hal
      have hB3 := HB2.out.trans (hal.mono HB2.out.size)
      have hN3 := alloc_new W3 (.cells #[.slice fa F.length fc, .slice va lc.length vc, .int .i64 t.kind, .string t.name, .slice pa0 t.kids.length ca0] 42)
      have hT3 := HT2.out.keep hk3
      have hP3 := HP2.out.keep hk3 (KeepP.of_below hal)
      have hX3 := hTx.below ((Below.refl _ W3).alloc (Nat.le_refl _) (.cells #[.slice fa F.length fc, .slice va lc.length vc, .int .i64 t.kind, .string t.name, .slice pa0 t.kids.length ca0] 42))
      have HFr := Lib.hid (fresh_any t F (qns k F.length) k (by omega) (qns_len _ _) (qns_at _ _) (by omega) (by omega) lc (fun q hq' => by have := HSq.out q hq'; omega) (by omega) va pa0 fa vc ca0 fc _ hT3 hX3 hP3 (HTab.out.below (hB3.mono (Nat.le_refl _))))
      have H3 := Lib.hid (And.intro hB3 (And.intro hN3 (And.intro hT3 (And.intro hP3 hX3))))
      clear hal hk3 hB3 hN3 hT3 hP3 hX3 hTx hb3 HCl HT2 HP2 HB2 x0 x1 x2
      go_wp2_with (go_at_call 14; fail)
      refine HFr.out.mono ?_
      rintro e W4 ⟨⟨ga, gc, pa, pc, za, zc, rfl, hTg, hPg, hTu⟩, hb4⟩
      have hGl : (qns k F.length).length = F.length := qns_len _ _
      have HBk := Lib.hid (show app (prs (qns k F.length) F) (app (prs F (qns k F.length)) t) = t ∧ appP (prs (qns k F.length) F) (appP (prs F (qns k F.length)) lc) = lc ∧ tsize (app (prs F (qns k F.length)) t) ≤ 112 ∧ (∀ q ∈ appP (prs F (qns k F.length)) lc, tsize q.2 ≤ 112) ∧ (appP (prs F (qns k F.length)) lc).length = lc.length from
        ⟨fr_back hGl (qns_nodup _ _) HIn.out.1, appP_back hGl (qns_nodup _ _) HIn.out.2, by rw [fr_size hGl HIn.out.1]; exact hts, fun q hq => by
          obtain ⟨q0, h0, rfl⟩ := List.mem_map.1 hq
          show tsize (app _ q0.2) ≤ 112
          rw [fr_size hGl (HIn.out.2 q0 h0)]; exact HSq.out q0 h0, by simp [appP]⟩)
      have HGn := Lib.hid (fun j (hj : j < F.length) => (qns_getD (z := k) hj))
      have HGw := Lib.hid (fun j => (qns_new (z := k) (n := F.length) (i := j)))
      generalize app (prs F (qns k F.length)) t = u at *
      generalize appP (prs F (qns k F.length)) lc = lu at *
      have hall := (Below.refl _ W4).alloc (Nat.le_refl _) (.cells #[.slice ga F.length gc, .slice pa lc.length pc, .int .i64 u.kind, .string u.name, .slice za u.kids.length zc] 42)
      have hb5 := hb4.alloc hb4.size (.cells #[.slice ga F.length gc, .slice pa lc.length pc, .int .i64 u.kind, .string u.name, .slice za u.kids.length zc] 42)
      have hk5 := KeepT.of_below hb5
      have hz3 : W3.heap.size < (W3.alloc (.cells #[.slice fa F.length fc, .slice va lc.length vc, .int .i64 t.kind, .string t.name, .slice pa0 t.kids.length ca0] 42)).heap.size := by simp
      have HS5 := Lib.hid (show FrS w W3.heap.size W4.heap.size F.length lc.length F (qns k F.length) lc lu t u fa va pa0 ga pa za fc vc ca0 gc pc zc (W4.alloc (.cells #[.slice ga F.length gc, .slice pa lc.length pc, .int .i64 u.kind, .string u.name, .slice za u.kids.length zc] 42)) from
        ⟨⟨⟨(hb5.block _ hz3).trans H3.out.2.1, H3.out.2.2.1.keep hk5⟩, H3.out.2.2.2.2.below hb5, H3.out.2.2.2.1.keep hk5 (KeepP.of_below hb5)⟩, ⟨⟨alloc_new W4 _, hTu.keep (KeepT.of_below hall)⟩, hTg.below hall, hPg.keep (KeepT.of_below hall) (KeepP.of_below hall)⟩, H3.out.1.trans (hb5.mono H3.out.1.size)⟩)
      have hb95 : W3.heap.size < W4.heap.size := Nat.lt_of_lt_of_le hz3 hb4.size
      clear hTg hPg hTu hb4 hall hb5 hk5 hz3 HFr H3 HIn HSq HTab
      generalize qns k F.length = G at *
      obtain ⟨y0, y1, y2, y3, y4⟩ := cells5 HS5.out.1.1.1
      go_wp2_with fail
      clear y0 y1 y2 y3 y4
      go_loopw [12, 13] (fun vo vi wr => ∃ (i d : Nat) (b : Option Addr), i ≤ F.length ∧ vi = .int .i64 i ∧ vo = .slice b i d ∧ Hid (FrN (W4.alloc (.cells #[.slice ga F.length gc, .slice pa lc.length pc, .int .i64 u.kind, .string u.name, .slice za u.kids.length zc] 42)) F G i (.slice b i d) wr)) (fun _ vi _ => F.length - (intOf vi).toNat)
      case atStart => exact ⟨0, 0, none, Nat.zero_le _, rfl, rfl, Lib.hid (frn_start _ F G)⟩
      case round =>
        obtain ⟨i, d, b, hi', rfl, rfl, hN⟩ := hrel
        obtain ⟨V5, hV5⟩ : ∃ V, (W4.alloc (.cells #[.slice ga F.length gc, .slice pa lc.length pc, .int .i64 u.kind, .string u.name, .slice za u.kids.length zc] 42)) = V := ⟨_, rfl⟩
        rw [hV5] at HS5 hN
        have HV5 := Lib.hid hV5
        clear hV5
        by_cases hlt : i < F.length
        · have hltI : (i : Int) < (F.length : Int) := by omega
          have hi0 : (0 : Int) ≤ (i : Int) := by omega
          obtain ⟨ds, hds, hdp, hdo, hd0⟩ := hN.out
          have hS := HS5.out.below hdo.2
          obtain ⟨gg, rfl, hgc, hrg⟩ := TRow.of hS.2.1.2.1 (by omega)
          obtain ⟨gf, rfl, hfc, hrf⟩ := TRow.of hS.1.2.1 (by omega)
          obtain ⟨y0, y1, y2, y3, y4⟩ := cells5 hS.2.1.1.1
          have HSt := Lib.hid (And.intro (show FrQ w W3.heap.size W4.heap.size F.length lc.length F G lc lu t u gf gg va pa0 pa za fc vc ca0 gc pc zc wr from ⟨hS, hrf, hrg⟩) hdo)
          have HDp := Lib.hid (And.intro hds hdp)
          have hds3 : ds.length ≤ 1000 := by omega
          have hgcI : (i : Int) ≤ (gc : Int) := by omega
          have hiG : i < G.length := by omega
          have hqi := HGn.out i hlt
          have hqs := qn_size (k + i)
          clear hS hrg hrf hdo hdp hds hd0 hN
          go_wp2_with fail
          refine fra_here (ix := i) (q := qn (k + i)) (w1 := V5) (ds := ds) (lv := .slice b i d) hiG (Lib.hid hqi) hi0 hltI hgcI (by omega) (qn_index (k + i))
            (fun V h => by
              have hl : (G.take i).length = i := by rw [List.length_take, Nat.min_eq_left (by omega)]
              have := hasR_any (G.take i) (by omega) (qn (k + i)) (some ⟨gg, 0, none⟩) gc V (by rw [hl]; exact h.1.2.2.take (by omega) (by omega))
              rw [hl, HGw.out i] at this
              exact this.mono fun e Y hq => ⟨hq.1, by rw [← hq.2]; exact Below.refl _ _⟩)
            _ (by kernel_rfl) (by kernel_rfl) (by kernel_rfl) (by kernel_rfl) ⟨HSt.out.1.below (below_d _), HSt.out.2.below (below_d _)⟩ ?_
          intro x V hV hx
          have HV := Lib.hid hV
          clear hV HSt y0 y1 y2 y3 y4
          simp only [fraFr, hx]
          simp only [Array.getD_eq_getD_getElem?, List.getElem?_toArray, List.getElem?_cons_zero, List.getElem?_cons_succ, Option.getD_some]
          go_wp2_with fail
          refine frb_here (ix := i) (fx := F.getD i ⟨#[]⟩) (pr := (⟨qn (k + i), .var (F.getD i ⟨#[]⟩), none, 0⟩ : PR)) (w1 := V5) (ds := ds) (lv := .slice b i d) hiG hlt (Lib.hid hqi) (Lib.hid rfl) hi0 hltI hds3
            (fun V h => varX_any _ V)
            _ (by kernel_rfl) (by kernel_rfl) (by kernel_rfl) (by kernel_rfl) (by kernel_rfl) (by kernel_rfl) ⟨HV.out.1.below (below_d _), HV.out.2.below (below_d _)⟩ ?_
          intro x2 V2 g9 c9 w9 hV2 ho9 hg9
          have HN9 := Lib.hid (frn_next HDp.out.1 HDp.out.2 ⟨hqi, rfl⟩ hV2.2 ho9 hg9)
          have hdl : ds.length = i := HDp.out.1
          rw [hdl] at HN9
          rw [hdl]
          clear hdl hV2 ho9 hg9 HV
          simp only [frbFr, Act.put]
          simp only [Array.getD_eq_getD_getElem?, List.getElem?_toArray, List.getElem?_cons_zero, List.getElem?_cons_succ, Option.getD_some, List.setIfInBounds_toArray, List.set_cons_zero, List.set_cons_succ]
          go_wp2_with fail
          go_roundw
          case rel => exact ⟨i + 1, c9, _, by omega, by go_num, rfl, Lib.hid (by rw [HV5.out]; exact HN9.out)⟩
          case measure => simp [intOf]; omega
        · obtain rfl : i = F.length := by omega
          obtain ⟨ds, hgv, hty, hdl, happ⟩ := frn_end hGl hN.out
          have hbb : Below V5.heap.size V5 wr := by obtain ⟨_, _, _, h3, _⟩ := hN.out; exact h3.2
          have hS := HS5.out.below hbb
          obtain ⟨y0, y1, y2, y3, y4⟩ := cells5 hS.2.1.1.1
          have HE0 := Lib.hid (show FrE w W3.heap.size W4.heap.size F.length lc.length F G lc lu t u fa va pa0 ga pa za b F.length d ds fc vc ca0 gc pc zc wr from ⟨hS, hgv, hty⟩)
          have HAp := Lib.hid happ
          clear hgv hty happ hbb hS hN
          go_wp2_with fail
          refine frc_here (ds := ds) (lc := lc) (lu := lu) (t := t) (u := u) (F := F) (G := G) (n := F.length) (m := lc.length)
            (fun V h => by
              have := rapp_big (d := ds) (v := .slice b F.length d) (t := u) (by omega) h.2.1 h.2.2 h.1.2.1.1.2 (by have := HBk.out.2.2.1; omega)
              rw [HAp.out, HBk.out.1] at this
              exact this)
            (fun V h qa qc ht => by
              have := sameType_any HG.out.2 ht h.1.1.1.2
              rw [eqB_true rfl] at this
              exact this)
            (fun V h => by
              have hll := HBk.out.2.2.2.2
              have := rpreds_any (.slice b F.length d) _ ds lu V (by omega) h.2.1 h.2.2 h.1.2.1.2.2 (fun q hq => by have := HBk.out.2.2.2.1 q hq; omega) (by omega)
              rw [show appP ds lu = lc from (show appP ds lu = appP (prs G F) lu by unfold appP; exact List.map_congr_left fun q _ => by rw [HAp.out]).trans HBk.out.2.1, hll] at this
              exact this)
            (fun V h qa qc ht => by
              have := samePreds_of lc lc HFq.out qa va qc vc V ht h.1.1.2.2 (by omega)
              rw [eqB_true rfl] at this
              exact this)
            _ (by kernel_rfl) (by kernel_rfl) (by kernel_rfl) (by kernel_rfl) (by kernel_rfl) (by kernel_rfl) (HE0.out.below (below_d _)) ?_
          intro x V hV hx
          have HE := Lib.hid hV.1.2.2
          clear hV HE0 y0 y1 y2 y3 y4
          simp only [frcFr, hx]
          simp only [Array.getD_eq_getD_getElem?, List.getElem?_toArray, List.getElem?_cons_zero, List.getElem?_cons_succ, Option.getD_some]
          go_wp2_with fail
          exact bodyPost_ret (v := .bool true) (by simp [results, Tryd.results4, go_sem]) rfl ⟨rfl, HE.out⟩
    · go_enter Tryd.func4, Tryd.ntmps4
      go_wp2_with (go_at_call 5; refine (first8_any _).mono ?_; rintro e w' ⟨rfl, rfl⟩)
      obtain ⟨k, hk, he⟩ : ∃ k : Nat, k < 1000 ∧ z % 1000 = (k : Int) := ⟨(z % 1000).toNat, by omega⟩
      rw [he]
      clear he hz0 hz
      refine (make_n3 w.heap.size w.heap.size a1 n1 c1 0 _ (seq_new (Below.refl _ _) HL1.out) (by decide) hn1).mono ?_
      rintro e W1 ⟨⟨t, u0, rfl, hg, hu⟩, ⟨k1, hk1, hs1⟩, hf1⟩
      obtain ⟨pa0, ca0, rfl⟩ := hu.shape
      have hts : tsize t ≤ 112 := by have := size_text t hg.1; have := hg.2.2; omega
      have HB1 := Lib.hid (((Below.refl w.heap.size w).alloc (Nat.le_refl _) _).trans hf1.1)
      have HT1 := Lib.hid hu.tys
      have HG := Lib.hid (And.intro hg.1 hg.2.1)
      have HS1 := Lib.hid hs1
      have hW1 : w.heap.size < W1.heap.size := hs1.lt
      clear hu hf1 hg hs1 HL1
      simp only [tyV]
      go_wp2_with (go_at_call 6; fail)
      refine (make_predsG 3 1 4 28 (by decide) (by decide) w.heap.size w.heap.size a1 n1 c1 k1 _ (HS1.out.below ((Below.refl _ W1).alloc (Nat.le_refl _) _)) (by omega) (fun k W hs hk => make_n1 w.heap.size w.heap.size a1 n1 c1 k W hs (by omega) hn1) hn1).mono ?_
      rintro e W2 ⟨⟨lc, v, rfl, ⟨hl3, hq⟩, hp⟩, _, hf2⟩
      obtain ⟨va, vc, rfl⟩ := hp.shape
      have hx := hf2.2 _ _ (alloc_new W1 _) (by omega)
      obtain ⟨x0, x1, x2⟩ := three_cells hx
      have HT2 := Lib.hid (HT1.out.keep ((keepT_alloc W1 _).trans (KeepT.of_mk hf2 (HS1.out.below ((Below.refl _ W1).alloc (Nat.le_refl _) _)))))
      have HB2 := Lib.hid ((HB1.out.alloc (by omega) _).trans hf2.1)
      have HP2 := Lib.hid hp
      obtain ⟨F, hF⟩ : ∃ l, fvs [] [] (t :: lc.map (·.2)) = l := ⟨_, rfl⟩
      have hgd : ∀ u ∈ t :: lc.map (·.2), T.Good u := fun u hu => by
        rcases List.mem_cons.1 hu with rfl | hu
        · exact HG.out.1
        · obtain ⟨q, hq', rfl⟩ := List.mem_map.1 hu; exact (hq q hq').1
      have hsq : ∀ q ∈ lc, tsize q.2 ≤ 112 := fun q hq' => by have h1 := hq q hq'; have := size_text q.2 h1.1; have := h1.2.2; omega
      have hF3 : F.length ≤ 3 := by rw [← hF]; exact fvs_three _ hgd
      have hsz : tsizes (t :: lc.map (·.2)) ≤ 1000000000 := by
        have := tsizes_le (t :: lc.map (·.2)) 112 fun u hu => by
          rcases List.mem_cons.1 hu with rfl | hu
          · exact hts
          · obtain ⟨q, hq', rfl⟩ := List.mem_map.1 hu; exact hsq q hq'
        simp at this; omega
      have HCl := Lib.hid (rclose_any t lc F hF (by omega) hsz pa0 va ca0 vc W2 HT2.out hp (by omega))
      have HIn := Lib.hid (show (∀ x ∈ vs t, x ∈ F) ∧ ∀ q ∈ lc, ∀ x ∈ vs q.2, x ∈ F from ⟨fun x hx => by rw [← hF]; exact (fvs_in _ hgd x).2 ⟨t, List.mem_cons_self .., hx⟩, fun q hq' x hx => by rw [← hF]; exact (fvs_in _ hgd x).2 ⟨q.2, List.mem_cons_of_mem _ (List.mem_map.2 ⟨q, hq', rfl⟩), hx⟩⟩)
      have HSq := Lib.hid hsq
      have HFq := Lib.hid (show ∀ q ∈ lc, Fits q.2 from fun q hq' => (hq q hq').2.1)
      clear hx hp hq hgd hsq hsz hF hf2 HT1 HS1 HB1
      go_wp2_with (go_at_call 13; fail)
      refine HCl.out.mono ?_
      rintro e W3 ⟨⟨fa, fc, rfl, hTx⟩, hb3⟩
      have hal := hb3.alloc hb3.size (.cells #[.slice fa F.length fc, .slice va lc.length vc, .int .i64 t.kind, .string t.name, .slice pa0 t.kids.length ca0] 42)
      have hk3 := KeepT.of_below hal
      have hB3 := HB2.out.trans (hal.mono HB2.out.size)
      have hN3 := alloc_new W3 (.cells #[.slice fa F.length fc, .slice va lc.length vc, .int .i64 t.kind, .string t.name, .slice pa0 t.kids.length ca0] 42)
      have hT3 := HT2.out.keep hk3
      have hP3 := HP2.out.keep hk3 (KeepP.of_below hal)
      have hX3 := hTx.below ((Below.refl _ W3).alloc (Nat.le_refl _) (.cells #[.slice fa F.length fc, .slice va lc.length vc, .int .i64 t.kind, .string t.name, .slice pa0 t.kids.length ca0] 42))
      have HFr := Lib.hid (fresh_any t F (qns k F.length) k (by omega) (qns_len _ _) (qns_at _ _) (by omega) (by omega) lc (fun q hq' => by have := HSq.out q hq'; omega) (by omega) va pa0 fa vc ca0 fc _ hT3 hX3 hP3 (HTab.out.below (hB3.mono (Nat.le_refl _))))
      have H3 := Lib.hid (And.intro hB3 (And.intro hN3 (And.intro hT3 (And.intro hP3 hX3))))
      clear hal hk3 hB3 hN3 hT3 hP3 hX3 hTx hb3 HCl HT2 HP2 HB2 x0 x1 x2
      go_wp2_with (go_at_call 14; fail)
      refine HFr.out.mono ?_
      rintro e W4 ⟨⟨ga, gc, pa, pc, za, zc, rfl, hTg, hPg, hTu⟩, hb4⟩
      have hGl : (qns k F.length).length = F.length := qns_len _ _
      have HBk := Lib.hid (show app (prs (qns k F.length) F) (app (prs F (qns k F.length)) t) = t ∧ appP (prs (qns k F.length) F) (appP (prs F (qns k F.length)) lc) = lc ∧ tsize (app (prs F (qns k F.length)) t) ≤ 112 ∧ (∀ q ∈ appP (prs F (qns k F.length)) lc, tsize q.2 ≤ 112) ∧ (appP (prs F (qns k F.length)) lc).length = lc.length from
        ⟨fr_back hGl (qns_nodup _ _) HIn.out.1, appP_back hGl (qns_nodup _ _) HIn.out.2, by rw [fr_size hGl HIn.out.1]; exact hts, fun q hq => by
          obtain ⟨q0, h0, rfl⟩ := List.mem_map.1 hq
          show tsize (app _ q0.2) ≤ 112
          rw [fr_size hGl (HIn.out.2 q0 h0)]; exact HSq.out q0 h0, by simp [appP]⟩)
      have HGn := Lib.hid (fun j (hj : j < F.length) => (qns_getD (z := k) hj))
      have HGw := Lib.hid (fun j => (qns_new (z := k) (n := F.length) (i := j)))
      generalize app (prs F (qns k F.length)) t = u at *
      generalize appP (prs F (qns k F.length)) lc = lu at *
      have hall := (Below.refl _ W4).alloc (Nat.le_refl _) (.cells #[.slice ga F.length gc, .slice pa lc.length pc, .int .i64 u.kind, .string u.name, .slice za u.kids.length zc] 42)
      have hb5 := hb4.alloc hb4.size (.cells #[.slice ga F.length gc, .slice pa lc.length pc, .int .i64 u.kind, .string u.name, .slice za u.kids.length zc] 42)
      have hk5 := KeepT.of_below hb5
      have hz3 : W3.heap.size < (W3.alloc (.cells #[.slice fa F.length fc, .slice va lc.length vc, .int .i64 t.kind, .string t.name, .slice pa0 t.kids.length ca0] 42)).heap.size := by simp
      have HS5 := Lib.hid (show FrS w W3.heap.size W4.heap.size F.length lc.length F (qns k F.length) lc lu t u fa va pa0 ga pa za fc vc ca0 gc pc zc (W4.alloc (.cells #[.slice ga F.length gc, .slice pa lc.length pc, .int .i64 u.kind, .string u.name, .slice za u.kids.length zc] 42)) from
        ⟨⟨⟨(hb5.block _ hz3).trans H3.out.2.1, H3.out.2.2.1.keep hk5⟩, H3.out.2.2.2.2.below hb5, H3.out.2.2.2.1.keep hk5 (KeepP.of_below hb5)⟩, ⟨⟨alloc_new W4 _, hTu.keep (KeepT.of_below hall)⟩, hTg.below hall, hPg.keep (KeepT.of_below hall) (KeepP.of_below hall)⟩, H3.out.1.trans (hb5.mono H3.out.1.size)⟩)
      have hb95 : W3.heap.size < W4.heap.size := Nat.lt_of_lt_of_le hz3 hb4.size
      clear hTg hPg hTu hb4 hall hb5 hk5 hz3 HFr H3 HIn HSq HTab
      generalize qns k F.length = G at *
      obtain ⟨y0, y1, y2, y3, y4⟩ := cells5 HS5.out.1.1.1
      go_wp2_with fail
      clear y0 y1 y2 y3 y4
      go_loopw [12, 13] (fun vo vi wr => ∃ (i d : Nat) (b : Option Addr), i ≤ F.length ∧ vi = .int .i64 i ∧ vo = .slice b i d ∧ Hid (FrN (W4.alloc (.cells #[.slice ga F.length gc, .slice pa lc.length pc, .int .i64 u.kind, .string u.name, .slice za u.kids.length zc] 42)) F G i (.slice b i d) wr)) (fun _ vi _ => F.length - (intOf vi).toNat)
      case atStart => exact ⟨0, 0, none, Nat.zero_le _, rfl, rfl, Lib.hid (frn_start _ F G)⟩
      case round =>
        obtain ⟨i, d, b, hi', rfl, rfl, hN⟩ := hrel
        obtain ⟨V5, hV5⟩ : ∃ V, (W4.alloc (.cells #[.slice ga F.length gc, .slice pa lc.length pc, .int .i64 u.kind, .string u.name, .slice za u.kids.length zc] 42)) = V := ⟨_, rfl⟩
        rw [hV5] at HS5 hN
        have HV5 := Lib.hid hV5
        clear hV5
        by_cases hlt : i < F.length
        · have hltI : (i : Int) < (F.length : Int) := by omega
          have hi0 : (0 : Int) ≤ (i : Int) := by omega
          obtain ⟨ds, hds, hdp, hdo, hd0⟩ := hN.out
          have hS := HS5.out.below hdo.2
          obtain ⟨gg, rfl, hgc, hrg⟩ := TRow.of hS.2.1.2.1 (by omega)
          obtain ⟨gf, rfl, hfc, hrf⟩ := TRow.of hS.1.2.1 (by omega)
          obtain ⟨y0, y1, y2, y3, y4⟩ := cells5 hS.2.1.1.1
          have HSt := Lib.hid (And.intro (show FrQ w W3.heap.size W4.heap.size F.length lc.length F G lc lu t u gf gg va pa0 pa za fc vc ca0 gc pc zc wr from ⟨hS, hrf, hrg⟩) hdo)
          have HDp := Lib.hid (And.intro hds hdp)
          have hds3 : ds.length ≤ 1000 := by omega
          have hgcI : (i : Int) ≤ (gc : Int) := by omega
          have hiG : i < G.length := by omega
          have hqi := HGn.out i hlt
          have hqs := qn_size (k + i)
          clear hS hrg hrf hdo hdp hds hd0 hN
          go_wp2_with fail
          refine fra_here (ix := i) (q := qn (k + i)) (w1 := V5) (ds := ds) (lv := .slice b i d) hiG (Lib.hid hqi) hi0 hltI hgcI (by omega) (qn_index (k + i))
            (fun V h => by
              have hl : (G.take i).length = i := by rw [List.length_take, Nat.min_eq_left (by omega)]
              have := hasR_any (G.take i) (by omega) (qn (k + i)) (some ⟨gg, 0, none⟩) gc V (by rw [hl]; exact h.1.2.2.take (by omega) (by omega))
              rw [hl, HGw.out i] at this
              exact this.mono fun e Y hq => ⟨hq.1, by rw [← hq.2]; exact Below.refl _ _⟩)
            _ (by kernel_rfl) (by kernel_rfl) (by kernel_rfl) (by kernel_rfl) ⟨HSt.out.1.below (below_d _), HSt.out.2.below (below_d _)⟩ ?_
          intro x V hV hx
          have HV := Lib.hid hV
          clear hV HSt y0 y1 y2 y3 y4
          simp only [fraFr, hx]
          simp only [Array.getD_eq_getD_getElem?, List.getElem?_toArray, List.getElem?_cons_zero, List.getElem?_cons_succ, Option.getD_some]
          go_wp2_with fail
          refine frb_here (ix := i) (fx := F.getD i ⟨#[]⟩) (pr := (⟨qn (k + i), .var (F.getD i ⟨#[]⟩), none, 0⟩ : PR)) (w1 := V5) (ds := ds) (lv := .slice b i d) hiG hlt (Lib.hid hqi) (Lib.hid rfl) hi0 hltI hds3
            (fun V h => varX_any _ V)
            _ (by kernel_rfl) (by kernel_rfl) (by kernel_rfl) (by kernel_rfl) (by kernel_rfl) (by kernel_rfl) ⟨HV.out.1.below (below_d _), HV.out.2.below (below_d _)⟩ ?_
          intro x2 V2 g9 c9 w9 hV2 ho9 hg9
          have HN9 := Lib.hid (frn_next HDp.out.1 HDp.out.2 ⟨hqi, rfl⟩ hV2.2 ho9 hg9)
          have hdl : ds.length = i := HDp.out.1
          rw [hdl] at HN9
          rw [hdl]
          clear hdl hV2 ho9 hg9 HV
          simp only [frbFr, Act.put]
          simp only [Array.getD_eq_getD_getElem?, List.getElem?_toArray, List.getElem?_cons_zero, List.getElem?_cons_succ, Option.getD_some, List.setIfInBounds_toArray, List.set_cons_zero, List.set_cons_succ]
          go_wp2_with fail
          go_roundw
          case rel => exact ⟨i + 1, c9, _, by omega, by go_num, rfl, Lib.hid (by rw [HV5.out]; exact HN9.out)⟩
          case measure => simp [intOf]; omega
        · obtain rfl : i = F.length := by omega
          obtain ⟨ds, hgv, hty, hdl, happ⟩ := frn_end hGl hN.out
          have hbb : Below V5.heap.size V5 wr := by obtain ⟨_, _, _, h3, _⟩ := hN.out; exact h3.2
          have hS := HS5.out.below hbb
          obtain ⟨y0, y1, y2, y3, y4⟩ := cells5 hS.2.1.1.1
          have HE0 := Lib.hid (show FrE w W3.heap.size W4.heap.size F.length lc.length F G lc lu t u fa va pa0 ga pa za b F.length d ds fc vc ca0 gc pc zc wr from ⟨hS, hgv, hty⟩)
          have HAp := Lib.hid happ
          clear hgv hty happ hbb hS hN
          go_wp2_with fail
          refine frc_here (ds := ds) (lc := lc) (lu := lu) (t := t) (u := u) (F := F) (G := G) (n := F.length) (m := lc.length)
            (fun V h => by
              have := rapp_big (d := ds) (v := .slice b F.length d) (t := u) (by omega) h.2.1 h.2.2 h.1.2.1.1.2 (by have := HBk.out.2.2.1; omega)
              rw [HAp.out, HBk.out.1] at this
              exact this)
            (fun V h qa qc ht => by
              have := sameType_any HG.out.2 ht h.1.1.1.2
              rw [eqB_true rfl] at this
              exact this)
            (fun V h => by
              have hll := HBk.out.2.2.2.2
              have := rpreds_any (.slice b F.length d) _ ds lu V (by omega) h.2.1 h.2.2 h.1.2.1.2.2 (fun q hq => by have := HBk.out.2.2.2.1 q hq; omega) (by omega)
              rw [show appP ds lu = lc from (show appP ds lu = appP (prs G F) lu by unfold appP; exact List.map_congr_left fun q _ => by rw [HAp.out]).trans HBk.out.2.1, hll] at this
              exact this)
            (fun V h qa qc ht => by
              have := samePreds_of lc lc HFq.out qa va qc vc V ht h.1.1.2.2 (by omega)
              rw [eqB_true rfl] at this
              exact this)
            _ (by kernel_rfl) (by kernel_rfl) (by kernel_rfl) (by kernel_rfl) (by kernel_rfl) (by kernel_rfl) (HE0.out.below (below_d _)) ?_
          intro x V hV hx
          have HE := Lib.hid hV.1.2.2
          clear hV HE0 y0 y1 y2 y3 y4
          simp only [frcFr, hx]
          simp only [Array.getD_eq_getD_getElem?, List.getElem?_toArray, List.getElem?_cons_zero, List.getElem?_cons_succ, Option.getD_some]
          go_wp2_with fail
          exact bodyPost_ret (v := .bool true) (by simp [results, Tryd.results4, go_sem]) rfl ⟨rfl, HE.out⟩
  · have hb1I : (100 : Int) < (n1 : Int) := by omega
    go_enter Tryd.func4, Tryd.ntmps4
    go_wp2_with (go_at_call 5; refine (first8_any _).mono ?_; rintro e w' ⟨rfl, rfl⟩)
    go_ret
    exact ⟨rfl, Below.refl _ _⟩
end Go.Proofs.YtjnlchhikdfifaaDoor
/- SchemeFresh: the table that its row lists. -/
namespace Go.Proofs.YtjnlchhikdfifaaDoor
open Go.RowKit Go.Sort Go.Lib

set_option maxRecDepth 100000 in
theorem tab_data : (Rows.laid_internal_strconv_uint64pow10 : DataW Unit) = Lib.tabData .u64 Lib.pow10Tab := by kernel_rfl
set_option maxRecDepth 100000 in
theorem tab_of {W : World} (h : laidMetH Tryd.prog Rows.schemeFreshRow.laid W) : Tab W := by
  have h0 := (MakeChecks.laidMetH_plain _ _ _ (by kernel_rfl)).mp h
  have h1 : laidMet Tryd.prog (("math/bits.deBruijn32tab", Rows.laid_math_bits_deBruijn32tab) :: ("math/bits.deBruijn64tab", Rows.laid_math_bits_deBruijn64tab) :: ("internal/strconv.uint64pow10", Rows.laid_internal_strconv_uint64pow10) :: []) W := h0
  rw [tab_data] at h1
  exact Lib.tabIs_of_head (g := 0) (t := 127) (e := 81) (n := 20) (by kernel_rfl) (by kernel_rfl) (by kernel_rfl) (by kernel_rfl) (by kernel_rfl) (by kernel_rfl) h1.tail.tail
end Go.Proofs.YtjnlchhikdfifaaDoor
