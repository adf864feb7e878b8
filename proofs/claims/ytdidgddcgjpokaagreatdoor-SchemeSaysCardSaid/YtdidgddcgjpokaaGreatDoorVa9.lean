/- Merged: NzLr, NzLk, NzL, NzTab, PlainRow, IntsRow, StrsRowZ. -/
import Derived.Test.YtdidgddcgjpokaaGreatDoorVa8
import Derived.Test.YtdidgddcgjpokaaGreatDoorVa6
import Derived.Test.YtdidgddcgjpokaaGreatDoorRows
import Derived.Test.YtdidgddcgjpokaaGreatDoorTie
import Derived.Stop.LaidErr
import Derived.LaidMore
import Derived.ProofKit
import Derived.OpenShut
import Derived.Carry
import Derived.Test.YtdidgddcgjpokaaGreatDoorVa2
import Derived.Deep.Strs
/- SchemeSays: its last statement, a region of 65 operations that draws its order, by an invariant. (Made by a program.) -/
namespace Go.Proofs.YtdidgddcgjpokaaGreatDoor
open Go.RowKit Go.Sort Go.Lib
attribute [local go_sem] Oper.semAt_some

noncomputable def nzlOps : Array Oper := regionIn 17 (Tryz.f3.body.getD .skip)
def nzlFr (b : Nat → Value) (d : List Deferred) (x : Nat → Value) : Act := { tmps := #[b 0, b 1, b 2, b 3, b 4, b 5, b 6, b 7, x 64, b 9, b 10, b 11, b 12, b 13, b 14, b 15, b 16, b 17, b 18, b 19, b 20, b 21, b 22, b 23, b 24, b 25, b 26, b 27, b 28, b 29, b 30, b 31, b 32, b 33, b 34, b 35, b 36, b 37, b 38, b 39, b 40, b 41, b 42, b 43, b 44, b 45, b 46, b 47, b 48, b 49, b 50, b 51, b 52, b 53, b 54, b 55, b 56, b 57, b 58, b 59, b 60, b 61, b 62, b 63, b 64, b 65, x 0, x 1, x 2, x 3, x 4, x 5, x 6, x 7, x 8, x 9, x 10, x 11, x 12, x 13, x 14, x 15, x 16, x 17, x 18, x 19, x 20, x 21, x 22, x 23, x 24, x 25, x 26, x 27, x 28, x 29, x 30, x 31, x 32, x 33, x 34, x 35, x 36, x 37, x 38, x 39, x 40, x 41, x 42, x 43, x 44, x 45, x 46, x 47, x 48, x 49, x 50, x 51, x 52, x 53, x 54, x 55, x 56, x 57, x 58, x 59, x 60, x 61, x 62, x 63], defers := d }

def nzlVals (b1 : Nat) (t s vt u : T) (lc ld lv lp l2 lq : List Pr) (xs ys gs nt zl fx cx : List ByteArray) (ta ca xa sa da ya fa ea ga ka ia ja pa na : Option Addr) (tc cc xc sc dc yc fc ec gc kc ic jc pc nc : Nat) (zn nx : Int) (nm : ByteArray) (rs : Bool) (i : Nat) (v : Value) (V : World) : Prop :=
  match i with
  | 0 => v = .bool true
  | 1 => v = .bool true
  | 2 => v = SmV t lc xs ta ca xa tc cc xc
  | 3 => ∃ za zb zd ze zf zg, v = SmV u l2 zl za zb zd ze zf zg ∧ SmD u l2 zl za zb zd ze zf zg V
  | 4 => v = SmV t lc xs ta ca xa tc cc xc
  | 5 => ∃ za zb zd ze zf zg, v = SmV u l2 zl za zb zd ze zf zg ∧ SmD u l2 zl za zb zd ze zf zg V
  | 6 => v = .bool true
  | 7 => v = .bool true
  | 8 => v = .bool true
  | 9 => v = SmV t lc xs ta ca xa tc cc xc
  | 10 => ∃ ra rc, v = .slice ra fx.length rc ∧ TextsAt V (.slice ra fx.length rc) fx
  | 11 => v = SmV t lc xs ta ca xa tc cc xc
  | 12 => ∃ ra rc, v = .slice ra fx.length rc ∧ TextsAt V (.slice ra fx.length rc) fx
  | 13 => v = .bool true
  | 14 => v = .bool true
  | 15 => v = .bool true
  | 16 => v = .slice pa lp.length pc
  | 17 => v = .pointer (some ⟨b1, 2, none⟩)
  | 18 => v = .agg #[.int .i64 (t).kind, .string (t).name, .slice ta (t).kids.length tc]
  | 19 => v = .slice na nt.length nc
  | 20 => ∃ za zb zd ze zf zg, v = SmV t lp cx za zb zd ze zf zg ∧ SmD t lp cx za zb zd ze zf zg V
  | 21 => v = .slice pa lp.length pc
  | 22 => v = .pointer (some ⟨b1, 2, none⟩)
  | 23 => v = .agg #[.int .i64 (t).kind, .string (t).name, .slice ta (t).kids.length tc]
  | 24 => v = .slice na nt.length nc
  | 25 => ∃ za zb zd ze zf zg, v = SmV t lp cx za zb zd ze zf zg ∧ SmD t lp cx za zb zd ze zf zg V
  | 26 => v = .bool true
  | 27 => v = .bool true
  | 28 => v = .bool true
  | 29 => v = SmV vt lv gs fa ea ga fc ec gc
  | 30 => v = SmV vt lv gs ka ia ja kc ic jc
  | 31 => v = .bool true
  | 32 => v = .bool true
  | 33 => v = .bool true
  | 34 => v = .int .i64 nx
  | 35 => v = .int .i64 nx
  | 36 => v = .bool true
  | 37 => v = .bool true
  | 38 => v = .bool true
  | 39 => v = .slice pa lp.length pc
  | 40 => ∃ ra rc, v = .slice ra lq.length rc ∧ PrsAt V (.slice ra lq.length rc) lq
  | 41 => v = .slice pa lp.length pc
  | 42 => ∃ ra rc, v = .slice ra lq.length rc ∧ PrsAt V (.slice ra lq.length rc) lq
  | 43 => v = .bool true
  | 44 => v = .bool true
  | 45 => v = .bool true
  | 46 => v = .int .i64 zn
  | 47 => v = .string nm
  | 48 => v = .int .i64 zn
  | 49 => v = .string nm
  | 50 => v = .bool true
  | 51 => v = .bool true
  | 52 => v = .bool true
  | 53 => v = SmV t lc xs ta ca xa tc cc xc
  | 54 => v = SmV s ld ys sa da ya sc dc yc
  | 55 => v = .bool rs
  | 56 => v = .bool rs
  | 57 => v = .bool true
  | 58 => v = .bool true
  | 59 => v = .bool true
  | 60 => v = SmV t lc xs ta ca xa tc cc xc
  | 61 => v = SmV t lc xs ta ca xa tc cc xc
  | 62 => v = .bool true
  | 63 => v = .bool true
  | 64 => v = .bool true
  | _ => True

theorem nzlVals_keep {b1 : Nat} {t s vt u : T} {lc ld lv lp l2 lq : List Pr} {xs ys gs nt zl fx cx : List ByteArray} {ta ca xa sa da ya fa ea ga ka ia ja pa na : Option Addr} {tc cc xc sc dc yc fc ec gc kc ic jc pc nc : Nat} {zn nx : Int} {nm : ByteArray} {rs : Bool} (i : Nat) (v : Value) (V Y : World) (h : nzlVals b1 t s vt u lc ld lv lp l2 lq xs ys gs nt zl fx cx ta ca xa sa da ya fa ea ga ka ia ja pa na tc cc xc sc dc yc fc ec gc kc ic jc pc nc zn nx nm rs i v V) (hb : Below V.heap.size V Y) : nzlVals b1 t s vt u lc ld lv lp l2 lq xs ys gs nt zl fx cx ta ca xa sa da ya fa ea ga ka ia ja pa na tc cc xc sc dc yc fc ec gc kc ic jc pc nc zn nx nm rs i v Y := by
  unfold nzlVals at *
  split at h <;> first
    | exact h
    | (obtain ⟨za, zb, zd, ze, zf, zg, e, h⟩ := h; exact ⟨za, zb, zd, ze, zf, zg, e, h.keepO (KeepO.of_below hb)⟩)
    | (obtain ⟨ra, rc, e, h⟩ := h; exact ⟨ra, rc, e, h.below hb⟩)
    | (obtain ⟨ra, rc, e, h⟩ := h; exact ⟨ra, rc, e, h.belowG hb⟩)

theorem nzl_size : nzlOps.size = 65 := by kernel_rfl
theorem nzl_dst_1 : (nzlOps[1]?).bind (·.dst) = some 67 := by kernel_rfl
theorem nzl_dst_8 : (nzlOps[8]?).bind (·.dst) = some 74 := by kernel_rfl
theorem nzl_dst_15 : (nzlOps[15]?).bind (·.dst) = some 81 := by kernel_rfl
theorem nzl_dst_28 : (nzlOps[28]?).bind (·.dst) = some 94 := by kernel_rfl
theorem nzl_dst_33 : (nzlOps[33]?).bind (·.dst) = some 99 := by kernel_rfl
theorem nzl_dst_38 : (nzlOps[38]?).bind (·.dst) = some 104 := by kernel_rfl
theorem nzl_dst_45 : (nzlOps[45]?).bind (·.dst) = some 111 := by kernel_rfl
theorem nzl_dst_52 : (nzlOps[52]?).bind (·.dst) = some 118 := by kernel_rfl
theorem nzl_dst_59 : (nzlOps[59]?).bind (·.dst) = some 125 := by kernel_rfl
set_option linter.unusedSimpArgs false in
set_option maxRecDepth 100000 in
set_option maxHeartbeats 8000000 in
theorem nzl_region {w : World} {b1 b2 b3 b4 : Nat} {t s vt u : T} {lc ld lv lp l2 lq : List Pr} {xs ys gs nt zl fx cx : List ByteArray} {ta ca xa sa da ya fa ea ga ka ia ja pa na : Option Addr} {tc cc xc sc dc yc fc ec gc kc ic jc pc nc : Nat} {zn nx : Int} {nm : ByteArray} {rs : Bool} {b : Nat → Value} {d : List Deferred}
    (h1 : b 1 = .int .i64 zn) (h3 : b 3 = .slice na nt.length nc) (h9 : b 9 = .bool true) (h11 : b 11 = .pointer (some ⟨b1, 0, none⟩)) (h12 : b 12 = .pointer (some ⟨b2, 0, none⟩)) (h13 : b 13 = .slice pa lp.length pc) (h14 : b 14 = .pointer (some ⟨b3, 0, none⟩)) (h15 : b 15 = .int .i64 nx) (h16 : b 16 = .pointer (some ⟨b4, 0, none⟩)) (h17 : b 17 = .int .i64 nx) (h18 : b 18 = .bool rs)
    (HC3 : ∀ V, SzS w b1 b2 b3 b4 t s vt lc ld lv lp xs ys gs nt ta ca xa sa da ya fa ea ga ka ia ja pa na tc cc xc sc dc yc fc ec gc kc ic jc pc nc V → Calls Tryz.prog 12 #[SmV t lc xs ta ca xa tc cc xc] V fun e Y => (∃ za zb zd ze zf zg, e = .returned (SmV u l2 zl za zb zd ze zf zg) ∧ SmD u l2 zl za zb zd ze zf zg Y) ∧ Below V.heap.size V Y)
    (HC5 : ∀ V, SzS w b1 b2 b3 b4 t s vt lc ld lv lp xs ys gs nt ta ca xa sa da ya fa ea ga ka ia ja pa na tc cc xc sc dc yc fc ec gc kc ic jc pc nc V → Calls Tryz.prog 11 #[SmV t lc xs ta ca xa tc cc xc] V fun e Y => (∃ za zb zd ze zf zg, e = .returned (SmV u l2 zl za zb zd ze zf zg) ∧ SmD u l2 zl za zb zd ze zf zg Y) ∧ Below V.heap.size V Y)
    (HC6 : ∀ V, SzS w b1 b2 b3 b4 t s vt lc ld lv lp xs ys gs nt ta ca xa sa da ya fa ea ga ka ia ja pa na tc cc xc sc dc yc fc ec gc kc ic jc pc nc V → ∀ za3, ∀ zb3, ∀ zd3, ∀ ze3, ∀ zf3, ∀ zg3, SmD u l2 zl za3 zb3 zd3 ze3 zf3 zg3 V → ∀ za5, ∀ zb5, ∀ zd5, ∀ ze5, ∀ zf5, ∀ zg5, SmD u l2 zl za5 zb5 zd5 ze5 zf5 zg5 V → Calls Tryz.prog 10 #[SmV u l2 zl za3 zb3 zd3 ze3 zf3 zg3, SmV u l2 zl za5 zb5 zd5 ze5 zf5 zg5] V fun e Y => e = .returned (.bool true) ∧ Below V.heap.size V Y)
    (HC10 : ∀ V, SzS w b1 b2 b3 b4 t s vt lc ld lv lp xs ys gs nt ta ca xa sa da ya fa ea ga ka ia ja pa na tc cc xc sc dc yc fc ec gc kc ic jc pc nc V → Calls Tryz.prog 14 #[SmV t lc xs ta ca xa tc cc xc] V fun e Y => (∃ ra rc, e = .returned (.slice ra fx.length rc) ∧ TextsAt Y (.slice ra fx.length rc) fx) ∧ Below V.heap.size V Y)
    (HC12 : ∀ V, SzS w b1 b2 b3 b4 t s vt lc ld lv lp xs ys gs nt ta ca xa sa da ya fa ea ga ka ia ja pa na tc cc xc sc dc yc fc ec gc kc ic jc pc nc V → Calls Tryz.prog 15 #[SmV t lc xs ta ca xa tc cc xc] V fun e Y => (∃ ra rc, e = .returned (.slice ra fx.length rc) ∧ TextsAt Y (.slice ra fx.length rc) fx) ∧ Below V.heap.size V Y)
    (HC13 : ∀ V, SzS w b1 b2 b3 b4 t s vt lc ld lv lp xs ys gs nt ta ca xa sa da ya fa ea ga ka ia ja pa na tc cc xc sc dc yc fc ec gc kc ic jc pc nc V → ∀ ra10, ∀ rc10, TextsAt V (.slice ra10 fx.length rc10) fx → ∀ ra12, ∀ rc12, TextsAt V (.slice ra12 fx.length rc12) fx → Calls Tryz.prog 13 #[.slice ra10 fx.length rc10, .slice ra12 fx.length rc12] V fun e Y => e = .returned (.bool true) ∧ Below V.heap.size V Y)
    (HC20 : ∀ V, SzS w b1 b2 b3 b4 t s vt lc ld lv lp xs ys gs nt ta ca xa sa da ya fa ea ga ka ia ja pa na tc cc xc sc dc yc fc ec gc kc ic jc pc nc V → Calls Tryz.prog 16 #[.slice pa lp.length pc, .agg #[.int .i64 (t).kind, .string (t).name, .slice ta (t).kids.length tc], .slice na nt.length nc] V fun e Y => (∃ za zb zd ze zf zg, e = .returned (SmV t lp cx za zb zd ze zf zg) ∧ SmD t lp cx za zb zd ze zf zg Y) ∧ Below V.heap.size V Y)
    (HC25 : ∀ V, SzS w b1 b2 b3 b4 t s vt lc ld lv lp xs ys gs nt ta ca xa sa da ya fa ea ga ka ia ja pa na tc cc xc sc dc yc fc ec gc kc ic jc pc nc V → Calls Tryz.prog 17 #[.slice pa lp.length pc, .agg #[.int .i64 (t).kind, .string (t).name, .slice ta (t).kids.length tc], .slice na nt.length nc] V fun e Y => (∃ za zb zd ze zf zg, e = .returned (SmV t lp cx za zb zd ze zf zg) ∧ SmD t lp cx za zb zd ze zf zg Y) ∧ Below V.heap.size V Y)
    (HC26 : ∀ V, SzS w b1 b2 b3 b4 t s vt lc ld lv lp xs ys gs nt ta ca xa sa da ya fa ea ga ka ia ja pa na tc cc xc sc dc yc fc ec gc kc ic jc pc nc V → ∀ za20, ∀ zb20, ∀ zd20, ∀ ze20, ∀ zf20, ∀ zg20, SmD t lp cx za20 zb20 zd20 ze20 zf20 zg20 V → ∀ za25, ∀ zb25, ∀ zd25, ∀ ze25, ∀ zf25, ∀ zg25, SmD t lp cx za25 zb25 zd25 ze25 zf25 zg25 V → Calls Tryz.prog 10 #[SmV t lp cx za20 zb20 zd20 ze20 zf20 zg20, SmV t lp cx za25 zb25 zd25 ze25 zf25 zg25] V fun e Y => e = .returned (.bool true) ∧ Below V.heap.size V Y)
    (HC31 : ∀ V, SzS w b1 b2 b3 b4 t s vt lc ld lv lp xs ys gs nt ta ca xa sa da ya fa ea ga ka ia ja pa na tc cc xc sc dc yc fc ec gc kc ic jc pc nc V → Calls Tryz.prog 10 #[SmV vt lv gs fa ea ga fc ec gc, SmV vt lv gs ka ia ja kc ic jc] V fun e Y => e = .returned (.bool true) ∧ Below V.heap.size V Y)
    (HC40 : ∀ V, SzS w b1 b2 b3 b4 t s vt lc ld lv lp xs ys gs nt ta ca xa sa da ya fa ea ga ka ia ja pa na tc cc xc sc dc yc fc ec gc kc ic jc pc nc V → Calls Tryz.prog 19 #[.slice pa lp.length pc] V fun e Y => (∃ ra rc, e = .returned (.slice ra lq.length rc) ∧ PrsAt Y (.slice ra lq.length rc) lq) ∧ Below V.heap.size V Y)
    (HC42 : ∀ V, SzS w b1 b2 b3 b4 t s vt lc ld lv lp xs ys gs nt ta ca xa sa da ya fa ea ga ka ia ja pa na tc cc xc sc dc yc fc ec gc kc ic jc pc nc V → Calls Tryz.prog 20 #[.slice pa lp.length pc] V fun e Y => (∃ ra rc, e = .returned (.slice ra lq.length rc) ∧ PrsAt Y (.slice ra lq.length rc) lq) ∧ Below V.heap.size V Y)
    (HC43 : ∀ V, SzS w b1 b2 b3 b4 t s vt lc ld lv lp xs ys gs nt ta ca xa sa da ya fa ea ga ka ia ja pa na tc cc xc sc dc yc fc ec gc kc ic jc pc nc V → ∀ ra40, ∀ rc40, PrsAt V (.slice ra40 lq.length rc40) lq → ∀ ra42, ∀ rc42, PrsAt V (.slice ra42 lq.length rc42) lq → Calls Tryz.prog 18 #[.slice ra40 lq.length rc40, .slice ra42 lq.length rc42] V fun e Y => e = .returned (.bool true) ∧ Below V.heap.size V Y)
    (HC47 : ∀ V, SzS w b1 b2 b3 b4 t s vt lc ld lv lp xs ys gs nt ta ca xa sa da ya fa ea ga ka ia ja pa na tc cc xc sc dc yc fc ec gc kc ic jc pc nc V → Calls Tryz.prog 21 #[.int .i64 zn] V fun e Y => e = .returned (.string nm) ∧ Below V.heap.size V Y)
    (HC49 : ∀ V, SzS w b1 b2 b3 b4 t s vt lc ld lv lp xs ys gs nt ta ca xa sa da ya fa ea ga ka ia ja pa na tc cc xc sc dc yc fc ec gc kc ic jc pc nc V → Calls Tryz.prog 22 #[.int .i64 zn] V fun e Y => e = .returned (.string nm) ∧ Below V.heap.size V Y)
    (HC55 : ∀ V, SzS w b1 b2 b3 b4 t s vt lc ld lv lp xs ys gs nt ta ca xa sa da ya fa ea ga ka ia ja pa na tc cc xc sc dc yc fc ec gc kc ic jc pc nc V → Calls Tryz.prog 23 #[SmV t lc xs ta ca xa tc cc xc, SmV s ld ys sa da ya sc dc yc] V fun e Y => e = .returned (.bool rs) ∧ Below V.heap.size V Y)
    (HC62 : ∀ V, SzS w b1 b2 b3 b4 t s vt lc ld lv lp xs ys gs nt ta ca xa sa da ya fa ea ga ka ia ja pa na tc cc xc sc dc yc fc ec gc kc ic jc pc nc V → Calls Tryz.prog 23 #[SmV t lc xs ta ca xa tc cc xc, SmV t lc xs ta ca xa tc cc xc] V fun e Y => e = .returned (.bool true) ∧ Below V.heap.size V Y)
    {Q : Exit → Act → World → Prop} {ops : Array Oper} (hops : ops = nzlOps) (x0 : Nat → Value) (X : World) (hS : SzS w b1 b2 b3 b4 t s vt lc ld lv lp xs ys gs nt ta ca xa sa da ya fa ea ga ka ia ja pa na tc cc xc sc dc yc fc ec gc kc ic jc pc nc X.drew)
    (hfin : ∀ x V, SzS w b1 b2 b3 b4 t s vt lc ld lv lp xs ys gs nt ta ca xa sa da ya fa ea ga ka ia ja pa na tc cc xc sc dc yc fc ec gc kc ic jc pc nc V → x 64 = .bool true → Q .normal (nzlFr b d x) V) : (Code.region 17 ops true).wp Tryz.prog Q (nzlFr b d x0) X := by
  have HC := Lib.hid (And.intro HC3 (And.intro HC5 (And.intro HC6 (And.intro HC10 (And.intro HC12 (And.intro HC13 (And.intro HC20 (And.intro HC25 (And.intro HC26 (And.intro HC31 (And.intro HC40 (And.intro HC42 (And.intro HC43 (And.intro HC47 (And.intro HC49 (And.intro HC55 HC62))))))))))))))))
  clear HC3 HC5 HC6 HC10 HC12 HC13 HC20 HC25 HC26 HC31 HC40 HC42 HC43 HC47 HC49 HC55 HC62
  refine region_inv (nzlFr b d) (fun V => SzS w b1 b2 b3 b4 t s vt lc ld lv lp xs ys gs nt ta ca xa sa da ya fa ea ga ka ia ja pa na tc cc xc sc dc yc fc ec gc kc ic jc pc nc V) (fun V Y => Below V.heap.size V Y) (nzlVals b1 t s vt u lc ld lv lp l2 lq xs ys gs nt zl fx cx ta ca xa sa da ya fa ea ga ka ia ja pa na tc cc xc sc dc yc fc ec gc kc ic jc pc nc zn nx nm rs) x0 (by kernel_rfl) rfl hS (fun V Y h hb => h.below hb) (fun i v V Y _ h hb => nzlVals_keep i v V Y h hb) ?_ (fun x V hV h => hfin x V hV (h 64 (by rw [hops, nzl_size]; decide)))
  clear hfin hS
  obtain ⟨f, hf⟩ : ∃ qq, StepAt Tryz.prog (nzlFr b d) (fun V => SzS w b1 b2 b3 b4 t s vt lc ld lv lp xs ys gs nt ta ca xa sa da ya fa ea ga ka ia ja pa na tc cc xc sc dc yc fc ec gc kc ic jc pc nc V) (fun V Y => Below V.heap.size V Y) (nzlVals b1 t s vt u lc ld lv lp l2 lq xs ys gs nt zl fx cx ta ca xa sa da ya fa ea ga ka ia ja pa na tc cc xc sc dc yc fc ec gc kc ic jc pc nc zn nx nm rs) ops Q = qq := ⟨_, rfl⟩
  rw [hf, hops]
  simp only [nzlOps, Tryz.f3, regionIn, Option.getD_some, Nat.reduceBEq, Bool.false_eq_true, if_false, if_true, beq_self_eq_true, Array.append_empty, Array.empty_append, List.append_eq, List.cons_append, List.nil_append, AllAt, Nat.reduceAdd, Nat.zero_add]
  -- 0: slot 66 := Op.move t9
  refine And.intro ?_ ?_
  · rw [← hf]; clear hf
    refine ⟨by decide +kernel, fun x v => by kernel_rfl, fun x V hV hdep K hK => ?_⟩
    clear hdep
    refine run_bare (by kernel_rfl) ?_
    unfold nzlFr
    go_simp
    refine kfit (hK _ _ (Below.refl _ V) rfl) ?_
    first | (simp only [nzlFr, Act.put, List.setIfInBounds_toArray, List.set_cons_zero, List.set_cons_succ, SmV, h1, h3, h9, h11, h12, h13, h14, h15, h16, h17, h18]; done) | (simp only [nzlFr, Act.put, List.setIfInBounds_toArray, List.set_cons_zero, List.set_cons_succ, SmV, h1, h3, h9, h11, h12, h13, h14, h15, h16, h17, h18]; rfl)
  -- 1: slot 67 := Op.move t66
  refine And.intro ?_ ?_
  · rw [← hf]; clear hf
    refine ⟨by decide +kernel, fun x v => by kernel_rfl, fun x V hV hdep K hK => ?_⟩
    have e0 : x 0 = .bool true := depOf hdep 0 (by decide +kernel)
    clear hdep
    refine run_bare (by kernel_rfl) ?_
    unfold nzlFr
    go_simp
    refine kfit (hK _ _ (Below.refl _ V) rfl) ?_
    first | (simp only [nzlFr, Act.put, List.setIfInBounds_toArray, List.set_cons_zero, List.set_cons_succ, SmV, h1, h3, h9, h11, h12, h13, h14, h15, h16, h17, h18, e0]; done) | (simp only [nzlFr, Act.put, List.setIfInBounds_toArray, List.set_cons_zero, List.set_cons_succ, SmV, h1, h3, h9, h11, h12, h13, h14, h15, h16, h17, h18, e0]; rfl)
  -- 2: slot 68 := Op.load 33 t11
  refine And.intro ?_ ?_
  · rw [← hf]; clear hf
    refine ⟨by decide +kernel, fun x v => by kernel_rfl, fun x V hV hdep K hK => ?_⟩
    have e1 : x 1 = .bool true := depOf hdep 1 (by decide +kernel)
    clear hdep
    refine run_guard 1 67 (x 1) (by kernel_rfl) (by rw [hops]; exact nzl_dst_1) (by kernel_rfl) e1 ?_; clear hops
    unfold nzlFr
    obtain ⟨c10, c11, c12, c13, c14⟩ := cells5 hV.s1.1; obtain ⟨c20, c21, c22, c23, c24⟩ := cells5 hV.s2.1; obtain ⟨c30, c31, c32, c33, c34⟩ := cells5 hV.s3.1; obtain ⟨c40, c41, c42, c43, c44⟩ := cells5 hV.s4.1
    go_simp
    refine kfit (hK _ _ (Below.refl _ V) rfl) ?_
    first | (simp only [nzlFr, Act.put, List.setIfInBounds_toArray, List.set_cons_zero, List.set_cons_succ, SmV, h1, h3, h9, h11, h12, h13, h14, h15, h16, h17, h18, e1]; done) | (simp only [nzlFr, Act.put, List.setIfInBounds_toArray, List.set_cons_zero, List.set_cons_succ, SmV, h1, h3, h9, h11, h12, h13, h14, h15, h16, h17, h18, e1]; rfl)
  -- 3: slot 69 := Op.call { value (Operand.func 12), args := #[t68], argTypes 
  refine And.intro ?_ ?_
  · rw [← hf]; clear hf
    refine ⟨by decide +kernel, fun x v => by kernel_rfl, fun x V hV hdep K hK => ?_⟩
    have e1 : x 1 = .bool true := depOf hdep 1 (by decide +kernel)
    have e2 : x 2 = SmV t lc xs ta ca xa tc cc xc := depOf hdep 2 (by decide +kernel)
    clear hdep
    refine run_guard 1 67 (x 1) (by kernel_rfl) (by rw [hops]; exact nzl_dst_1) (by kernel_rfl) e1 ?_; clear hops
    unfold nzlFr
    try simp only [SmV] at e1
    try simp only [SmV] at e2
    obtain ⟨HC3, HC5, HC6, HC10, HC12, HC13, HC20, HC25, HC26, HC31, HC40, HC42, HC43, HC47, HC49, HC55, HC62⟩ := HC.out
    clear HC5 HC6 HC10 HC12 HC13 HC20 HC25 HC26 HC31 HC40 HC42 HC43 HC47 HC49 HC55 HC62
    have H := HC3 V hV
    try simp only [SmV] at H
    replace H := Lib.hid H; clear HC3
    go_simp
    go_at_call 12
    refine H.out.mono ?_
    rintro e Y ⟨⟨za, zb, zd, ze, zf, zg, rfl, hq⟩, hb⟩; refine kfit (hK _ _ hb ⟨za, zb, zd, ze, zf, zg, rfl, hq⟩) ?_
    first | (simp only [nzlFr, Act.put, List.setIfInBounds_toArray, List.set_cons_zero, List.set_cons_succ, SmV, h1, h3, h9, h11, h12, h13, h14, h15, h16, h17, h18, e1, e2]; done) | (simp only [nzlFr, Act.put, List.setIfInBounds_toArray, List.set_cons_zero, List.set_cons_succ, SmV, h1, h3, h9, h11, h12, h13, h14, h15, h16, h17, h18, e1, e2]; rfl)
  -- 4: slot 70 := Op.load 33 t11
  refine And.intro ?_ ?_
  · rw [← hf]; clear hf
    refine ⟨by decide +kernel, fun x v => by kernel_rfl, fun x V hV hdep K hK => ?_⟩
    have e1 : x 1 = .bool true := depOf hdep 1 (by decide +kernel)
    clear hdep
    refine run_guard 1 67 (x 1) (by kernel_rfl) (by rw [hops]; exact nzl_dst_1) (by kernel_rfl) e1 ?_; clear hops
    unfold nzlFr
    obtain ⟨c10, c11, c12, c13, c14⟩ := cells5 hV.s1.1; obtain ⟨c20, c21, c22, c23, c24⟩ := cells5 hV.s2.1; obtain ⟨c30, c31, c32, c33, c34⟩ := cells5 hV.s3.1; obtain ⟨c40, c41, c42, c43, c44⟩ := cells5 hV.s4.1
    go_simp
    refine kfit (hK _ _ (Below.refl _ V) rfl) ?_
    first | (simp only [nzlFr, Act.put, List.setIfInBounds_toArray, List.set_cons_zero, List.set_cons_succ, SmV, h1, h3, h9, h11, h12, h13, h14, h15, h16, h17, h18, e1]; done) | (simp only [nzlFr, Act.put, List.setIfInBounds_toArray, List.set_cons_zero, List.set_cons_succ, SmV, h1, h3, h9, h11, h12, h13, h14, h15, h16, h17, h18, e1]; rfl)
  -- 5: slot 71 := Op.call { value (Operand.func 11), args := #[t70], argTypes 
  refine And.intro ?_ ?_
  · rw [← hf]; clear hf
    refine ⟨by decide +kernel, fun x v => by kernel_rfl, fun x V hV hdep K hK => ?_⟩
    have e1 : x 1 = .bool true := depOf hdep 1 (by decide +kernel)
    have e4 : x 4 = SmV t lc xs ta ca xa tc cc xc := depOf hdep 4 (by decide +kernel)
    clear hdep
    refine run_guard 1 67 (x 1) (by kernel_rfl) (by rw [hops]; exact nzl_dst_1) (by kernel_rfl) e1 ?_; clear hops
    unfold nzlFr
    try simp only [SmV] at e1
    try simp only [SmV] at e4
    obtain ⟨HC3, HC5, HC6, HC10, HC12, HC13, HC20, HC25, HC26, HC31, HC40, HC42, HC43, HC47, HC49, HC55, HC62⟩ := HC.out
    clear HC3 HC6 HC10 HC12 HC13 HC20 HC25 HC26 HC31 HC40 HC42 HC43 HC47 HC49 HC55 HC62
    have H := HC5 V hV
    try simp only [SmV] at H
    replace H := Lib.hid H; clear HC5
    go_simp
    go_at_call 11
    refine H.out.mono ?_
    rintro e Y ⟨⟨za, zb, zd, ze, zf, zg, rfl, hq⟩, hb⟩; refine kfit (hK _ _ hb ⟨za, zb, zd, ze, zf, zg, rfl, hq⟩) ?_
    first | (simp only [nzlFr, Act.put, List.setIfInBounds_toArray, List.set_cons_zero, List.set_cons_succ, SmV, h1, h3, h9, h11, h12, h13, h14, h15, h16, h17, h18, e1, e4]; done) | (simp only [nzlFr, Act.put, List.setIfInBounds_toArray, List.set_cons_zero, List.set_cons_succ, SmV, h1, h3, h9, h11, h12, h13, h14, h15, h16, h17, h18, e1, e4]; rfl)
  -- 6: slot 72 := Op.call { value (Operand.func 10), args := #[t69, t71], argT
  refine And.intro ?_ ?_
  · rw [← hf]; clear hf
    refine ⟨by decide +kernel, fun x v => by kernel_rfl, fun x V hV hdep K hK => ?_⟩
    have e1 : x 1 = .bool true := depOf hdep 1 (by decide +kernel)
    obtain ⟨za3, zb3, zd3, ze3, zf3, zg3, e3, d3⟩ : ∃ za3 zb3 zd3 ze3 zf3 zg3, x 3 = SmV u l2 zl za3 zb3 zd3 ze3 zf3 zg3 ∧ SmD u l2 zl za3 zb3 zd3 ze3 zf3 zg3 V := depOf hdep 3 (by decide +kernel)
    obtain ⟨za5, zb5, zd5, ze5, zf5, zg5, e5, d5⟩ : ∃ za5 zb5 zd5 ze5 zf5 zg5, x 5 = SmV u l2 zl za5 zb5 zd5 ze5 zf5 zg5 ∧ SmD u l2 zl za5 zb5 zd5 ze5 zf5 zg5 V := depOf hdep 5 (by decide +kernel)
    clear hdep
    refine run_guard 1 67 (x 1) (by kernel_rfl) (by rw [hops]; exact nzl_dst_1) (by kernel_rfl) e1 ?_; clear hops
    unfold nzlFr
    try simp only [SmV] at e1
    try simp only [SmV] at e3
    try simp only [SmV] at e5
    obtain ⟨HC3, HC5, HC6, HC10, HC12, HC13, HC20, HC25, HC26, HC31, HC40, HC42, HC43, HC47, HC49, HC55, HC62⟩ := HC.out
    clear HC3 HC5 HC10 HC12 HC13 HC20 HC25 HC26 HC31 HC40 HC42 HC43 HC47 HC49 HC55 HC62
    have H := HC6 V hV _ _ _ _ _ _ d3 _ _ _ _ _ _ d5
    try simp only [SmV] at H
    replace H := Lib.hid H; clear HC6
    go_simp
    go_at_call 10
    refine H.out.mono ?_
    rintro e Y ⟨rfl, hb⟩; refine kfit (hK _ _ hb rfl) ?_
    first | (simp only [nzlFr, Act.put, List.setIfInBounds_toArray, List.set_cons_zero, List.set_cons_succ, SmV, h1, h3, h9, h11, h12, h13, h14, h15, h16, h17, h18, e1, e3, e5]; done) | (simp only [nzlFr, Act.put, List.setIfInBounds_toArray, List.set_cons_zero, List.set_cons_succ, SmV, h1, h3, h9, h11, h12, h13, h14, h15, h16, h17, h18, e1, e3, e5]; rfl)
  -- 7: slot 73 := Op.pick t67 t72 (const (Value.bool false))
  refine And.intro ?_ ?_
  · rw [← hf]; clear hf
    refine ⟨by decide +kernel, fun x v => by kernel_rfl, fun x V hV hdep K hK => ?_⟩
    have e1 : x 1 = .bool true := depOf hdep 1 (by decide +kernel)
    have e6 : x 6 = .bool true := depOf hdep 6 (by decide +kernel)
    clear hdep
    refine run_bare (by kernel_rfl) ?_
    unfold nzlFr
    go_simp
    refine kfit (hK _ _ (Below.refl _ V) rfl) ?_
    first | (simp only [nzlFr, Act.put, List.setIfInBounds_toArray, List.set_cons_zero, List.set_cons_succ, SmV, h1, h3, h9, h11, h12, h13, h14, h15, h16, h17, h18, e1, e6]; done) | (simp only [nzlFr, Act.put, List.setIfInBounds_toArray, List.set_cons_zero, List.set_cons_succ, SmV, h1, h3, h9, h11, h12, h13, h14, h15, h16, h17, h18, e1, e6]; rfl)
  -- 8: slot 74 := Op.move t73
  refine And.intro ?_ ?_
  · rw [← hf]; clear hf
    refine ⟨by decide +kernel, fun x v => by kernel_rfl, fun x V hV hdep K hK => ?_⟩
    have e7 : x 7 = .bool true := depOf hdep 7 (by decide +kernel)
    clear hdep
    refine run_bare (by kernel_rfl) ?_
    unfold nzlFr
    go_simp
    refine kfit (hK _ _ (Below.refl _ V) rfl) ?_
    first | (simp only [nzlFr, Act.put, List.setIfInBounds_toArray, List.set_cons_zero, List.set_cons_succ, SmV, h1, h3, h9, h11, h12, h13, h14, h15, h16, h17, h18, e7]; done) | (simp only [nzlFr, Act.put, List.setIfInBounds_toArray, List.set_cons_zero, List.set_cons_succ, SmV, h1, h3, h9, h11, h12, h13, h14, h15, h16, h17, h18, e7]; rfl)
  -- 9: slot 75 := Op.load 33 t11
  refine And.intro ?_ ?_
  · rw [← hf]; clear hf
    refine ⟨by decide +kernel, fun x v => by kernel_rfl, fun x V hV hdep K hK => ?_⟩
    have e8 : x 8 = .bool true := depOf hdep 8 (by decide +kernel)
    clear hdep
    refine run_guard 8 74 (x 8) (by kernel_rfl) (by rw [hops]; exact nzl_dst_8) (by kernel_rfl) e8 ?_; clear hops
    unfold nzlFr
    obtain ⟨c10, c11, c12, c13, c14⟩ := cells5 hV.s1.1; obtain ⟨c20, c21, c22, c23, c24⟩ := cells5 hV.s2.1; obtain ⟨c30, c31, c32, c33, c34⟩ := cells5 hV.s3.1; obtain ⟨c40, c41, c42, c43, c44⟩ := cells5 hV.s4.1
    go_simp
    refine kfit (hK _ _ (Below.refl _ V) rfl) ?_
    first | (simp only [nzlFr, Act.put, List.setIfInBounds_toArray, List.set_cons_zero, List.set_cons_succ, SmV, h1, h3, h9, h11, h12, h13, h14, h15, h16, h17, h18, e8]; done) | (simp only [nzlFr, Act.put, List.setIfInBounds_toArray, List.set_cons_zero, List.set_cons_succ, SmV, h1, h3, h9, h11, h12, h13, h14, h15, h16, h17, h18, e8]; rfl)
  -- 10: slot 76 := Op.call { value (Operand.func 14), args := #[t75], argTypes 
  refine And.intro ?_ ?_
  · rw [← hf]; clear hf
    refine ⟨by decide +kernel, fun x v => by kernel_rfl, fun x V hV hdep K hK => ?_⟩
    have e8 : x 8 = .bool true := depOf hdep 8 (by decide +kernel)
    have e9 : x 9 = SmV t lc xs ta ca xa tc cc xc := depOf hdep 9 (by decide +kernel)
    clear hdep
    refine run_guard 8 74 (x 8) (by kernel_rfl) (by rw [hops]; exact nzl_dst_8) (by kernel_rfl) e8 ?_; clear hops
    unfold nzlFr
    try simp only [SmV] at e8
    try simp only [SmV] at e9
    obtain ⟨HC3, HC5, HC6, HC10, HC12, HC13, HC20, HC25, HC26, HC31, HC40, HC42, HC43, HC47, HC49, HC55, HC62⟩ := HC.out
    clear HC3 HC5 HC6 HC12 HC13 HC20 HC25 HC26 HC31 HC40 HC42 HC43 HC47 HC49 HC55 HC62
    have H := HC10 V hV
    try simp only [SmV] at H
    replace H := Lib.hid H; clear HC10
    go_simp
    go_at_call 14
    refine H.out.mono ?_
    rintro e Y ⟨⟨ra, rc, rfl, hq⟩, hb⟩; refine kfit (hK _ _ hb ⟨ra, rc, rfl, hq⟩) ?_
    first | (simp only [nzlFr, Act.put, List.setIfInBounds_toArray, List.set_cons_zero, List.set_cons_succ, SmV, h1, h3, h9, h11, h12, h13, h14, h15, h16, h17, h18, e8, e9]; done) | (simp only [nzlFr, Act.put, List.setIfInBounds_toArray, List.set_cons_zero, List.set_cons_succ, SmV, h1, h3, h9, h11, h12, h13, h14, h15, h16, h17, h18, e8, e9]; rfl)
  -- 11: slot 77 := Op.load 33 t11
  refine And.intro ?_ ?_
  · rw [← hf]; clear hf
    refine ⟨by decide +kernel, fun x v => by kernel_rfl, fun x V hV hdep K hK => ?_⟩
    have e8 : x 8 = .bool true := depOf hdep 8 (by decide +kernel)
    clear hdep
    refine run_guard 8 74 (x 8) (by kernel_rfl) (by rw [hops]; exact nzl_dst_8) (by kernel_rfl) e8 ?_; clear hops
    unfold nzlFr
    obtain ⟨c10, c11, c12, c13, c14⟩ := cells5 hV.s1.1; obtain ⟨c20, c21, c22, c23, c24⟩ := cells5 hV.s2.1; obtain ⟨c30, c31, c32, c33, c34⟩ := cells5 hV.s3.1; obtain ⟨c40, c41, c42, c43, c44⟩ := cells5 hV.s4.1
    go_simp
    refine kfit (hK _ _ (Below.refl _ V) rfl) ?_
    first | (simp only [nzlFr, Act.put, List.setIfInBounds_toArray, List.set_cons_zero, List.set_cons_succ, SmV, h1, h3, h9, h11, h12, h13, h14, h15, h16, h17, h18, e8]; done) | (simp only [nzlFr, Act.put, List.setIfInBounds_toArray, List.set_cons_zero, List.set_cons_succ, SmV, h1, h3, h9, h11, h12, h13, h14, h15, h16, h17, h18, e8]; rfl)
  -- 12: slot 78 := Op.call { value (Operand.func 15), args := #[t77], argTypes 
  refine And.intro ?_ ?_
  · rw [← hf]; clear hf
    refine ⟨by decide +kernel, fun x v => by kernel_rfl, fun x V hV hdep K hK => ?_⟩
    have e8 : x 8 = .bool true := depOf hdep 8 (by decide +kernel)
    have e11 : x 11 = SmV t lc xs ta ca xa tc cc xc := depOf hdep 11 (by decide +kernel)
    clear hdep
    refine run_guard 8 74 (x 8) (by kernel_rfl) (by rw [hops]; exact nzl_dst_8) (by kernel_rfl) e8 ?_; clear hops
    unfold nzlFr
    try simp only [SmV] at e8
    try simp only [SmV] at e11
    obtain ⟨HC3, HC5, HC6, HC10, HC12, HC13, HC20, HC25, HC26, HC31, HC40, HC42, HC43, HC47, HC49, HC55, HC62⟩ := HC.out
    clear HC3 HC5 HC6 HC10 HC13 HC20 HC25 HC26 HC31 HC40 HC42 HC43 HC47 HC49 HC55 HC62
    have H := HC12 V hV
    try simp only [SmV] at H
    replace H := Lib.hid H; clear HC12
    go_simp
    go_at_call 15
    refine H.out.mono ?_
    rintro e Y ⟨⟨ra, rc, rfl, hq⟩, hb⟩; refine kfit (hK _ _ hb ⟨ra, rc, rfl, hq⟩) ?_
    first | (simp only [nzlFr, Act.put, List.setIfInBounds_toArray, List.set_cons_zero, List.set_cons_succ, SmV, h1, h3, h9, h11, h12, h13, h14, h15, h16, h17, h18, e8, e11]; done) | (simp only [nzlFr, Act.put, List.setIfInBounds_toArray, List.set_cons_zero, List.set_cons_succ, SmV, h1, h3, h9, h11, h12, h13, h14, h15, h16, h17, h18, e8, e11]; rfl)
  -- 13: slot 79 := Op.call { value (Operand.func 13), args := #[t76, t78], argT
  refine And.intro ?_ ?_
  · rw [← hf]; clear hf
    refine ⟨by decide +kernel, fun x v => by kernel_rfl, fun x V hV hdep K hK => ?_⟩
    have e8 : x 8 = .bool true := depOf hdep 8 (by decide +kernel)
    obtain ⟨ra10, rc10, e10, d10⟩ : ∃ ra10 rc10, x 10 = .slice ra10 fx.length rc10 ∧ TextsAt V (.slice ra10 fx.length rc10) fx := depOf hdep 10 (by decide +kernel)
    obtain ⟨ra12, rc12, e12, d12⟩ : ∃ ra12 rc12, x 12 = .slice ra12 fx.length rc12 ∧ TextsAt V (.slice ra12 fx.length rc12) fx := depOf hdep 12 (by decide +kernel)
    clear hdep
    refine run_guard 8 74 (x 8) (by kernel_rfl) (by rw [hops]; exact nzl_dst_8) (by kernel_rfl) e8 ?_; clear hops
    unfold nzlFr
    try simp only [SmV] at e8
    try simp only [SmV] at e10
    try simp only [SmV] at e12
    obtain ⟨HC3, HC5, HC6, HC10, HC12, HC13, HC20, HC25, HC26, HC31, HC40, HC42, HC43, HC47, HC49, HC55, HC62⟩ := HC.out
    clear HC3 HC5 HC6 HC10 HC12 HC20 HC25 HC26 HC31 HC40 HC42 HC43 HC47 HC49 HC55 HC62
    have H := HC13 V hV _ _ d10 _ _ d12
    try simp only [SmV] at H
    replace H := Lib.hid H; clear HC13
    go_simp
    go_at_call 13
    refine H.out.mono ?_
    rintro e Y ⟨rfl, hb⟩; refine kfit (hK _ _ hb rfl) ?_
    first | (simp only [nzlFr, Act.put, List.setIfInBounds_toArray, List.set_cons_zero, List.set_cons_succ, SmV, h1, h3, h9, h11, h12, h13, h14, h15, h16, h17, h18, e8, e10, e12]; done) | (simp only [nzlFr, Act.put, List.setIfInBounds_toArray, List.set_cons_zero, List.set_cons_succ, SmV, h1, h3, h9, h11, h12, h13, h14, h15, h16, h17, h18, e8, e10, e12]; rfl)
  -- 14: slot 80 := Op.pick t74 t79 (const (Value.bool false))
  refine And.intro ?_ ?_
  · rw [← hf]; clear hf
    refine ⟨by decide +kernel, fun x v => by kernel_rfl, fun x V hV hdep K hK => ?_⟩
    have e8 : x 8 = .bool true := depOf hdep 8 (by decide +kernel)
    have e13 : x 13 = .bool true := depOf hdep 13 (by decide +kernel)
    clear hdep
    refine run_bare (by kernel_rfl) ?_
    unfold nzlFr
    go_simp
    refine kfit (hK _ _ (Below.refl _ V) rfl) ?_
    first | (simp only [nzlFr, Act.put, List.setIfInBounds_toArray, List.set_cons_zero, List.set_cons_succ, SmV, h1, h3, h9, h11, h12, h13, h14, h15, h16, h17, h18, e8, e13]; done) | (simp only [nzlFr, Act.put, List.setIfInBounds_toArray, List.set_cons_zero, List.set_cons_succ, SmV, h1, h3, h9, h11, h12, h13, h14, h15, h16, h17, h18, e8, e13]; rfl)
  -- 15: slot 81 := Op.move t80
  refine And.intro ?_ ?_
  · rw [← hf]; clear hf
    refine ⟨by decide +kernel, fun x v => by kernel_rfl, fun x V hV hdep K hK => ?_⟩
    have e14 : x 14 = .bool true := depOf hdep 14 (by decide +kernel)
    clear hdep
    refine run_bare (by kernel_rfl) ?_
    unfold nzlFr
    go_simp
    refine kfit (hK _ _ (Below.refl _ V) rfl) ?_
    first | (simp only [nzlFr, Act.put, List.setIfInBounds_toArray, List.set_cons_zero, List.set_cons_succ, SmV, h1, h3, h9, h11, h12, h13, h14, h15, h16, h17, h18, e14]; done) | (simp only [nzlFr, Act.put, List.setIfInBounds_toArray, List.set_cons_zero, List.set_cons_succ, SmV, h1, h3, h9, h11, h12, h13, h14, h15, h16, h17, h18, e14]; rfl)
  -- 16: slot 82 := Op.move t13
  refine And.intro ?_ ?_
  · rw [← hf]; clear hf
    refine ⟨by decide +kernel, fun x v => by kernel_rfl, fun x V hV hdep K hK => ?_⟩
    have e15 : x 15 = .bool true := depOf hdep 15 (by decide +kernel)
    clear hdep
    refine run_guard 15 81 (x 15) (by kernel_rfl) (by rw [hops]; exact nzl_dst_15) (by kernel_rfl) e15 ?_; clear hops
    unfold nzlFr
    go_simp
    refine kfit (hK _ _ (Below.refl _ V) rfl) ?_
    first | (simp only [nzlFr, Act.put, List.setIfInBounds_toArray, List.set_cons_zero, List.set_cons_succ, SmV, h1, h3, h9, h11, h12, h13, h14, h15, h16, h17, h18, e15]; done) | (simp only [nzlFr, Act.put, List.setIfInBounds_toArray, List.set_cons_zero, List.set_cons_succ, SmV, h1, h3, h9, h11, h12, h13, h14, h15, h16, h17, h18, e15]; rfl)
  -- 17: slot 83 := Op.fieldAddr 33 t11 2
  refine And.intro ?_ ?_
  · rw [← hf]; clear hf
    refine ⟨by decide +kernel, fun x v => by kernel_rfl, fun x V hV hdep K hK => ?_⟩
    have e15 : x 15 = .bool true := depOf hdep 15 (by decide +kernel)
    clear hdep
    refine run_guard 15 81 (x 15) (by kernel_rfl) (by rw [hops]; exact nzl_dst_15) (by kernel_rfl) e15 ?_; clear hops
    unfold nzlFr
    go_simp
    refine kfit (hK _ _ (Below.refl _ V) rfl) ?_
    first | (simp only [nzlFr, Act.put, List.setIfInBounds_toArray, List.set_cons_zero, List.set_cons_succ, SmV, h1, h3, h9, h11, h12, h13, h14, h15, h16, h17, h18, e15]; done) | (simp only [nzlFr, Act.put, List.setIfInBounds_toArray, List.set_cons_zero, List.set_cons_succ, SmV, h1, h3, h9, h11, h12, h13, h14, h15, h16, h17, h18, e15]; rfl)
  -- 18: slot 84 := Op.load 31 t83
  refine And.intro ?_ ?_
  · rw [← hf]; clear hf
    refine ⟨by decide +kernel, fun x v => by kernel_rfl, fun x V hV hdep K hK => ?_⟩
    have e15 : x 15 = .bool true := depOf hdep 15 (by decide +kernel)
    have e17 : x 17 = .pointer (some ⟨b1, 2, none⟩) := depOf hdep 17 (by decide +kernel)
    clear hdep
    refine run_guard 15 81 (x 15) (by kernel_rfl) (by rw [hops]; exact nzl_dst_15) (by kernel_rfl) e15 ?_; clear hops
    unfold nzlFr
    obtain ⟨c10, c11, c12, c13, c14⟩ := cells5 hV.s1.1; obtain ⟨c20, c21, c22, c23, c24⟩ := cells5 hV.s2.1; obtain ⟨c30, c31, c32, c33, c34⟩ := cells5 hV.s3.1; obtain ⟨c40, c41, c42, c43, c44⟩ := cells5 hV.s4.1
    go_simp
    refine kfit (hK _ _ (Below.refl _ V) rfl) ?_
    first | (simp only [nzlFr, Act.put, List.setIfInBounds_toArray, List.set_cons_zero, List.set_cons_succ, SmV, h1, h3, h9, h11, h12, h13, h14, h15, h16, h17, h18, e15, e17]; done) | (simp only [nzlFr, Act.put, List.setIfInBounds_toArray, List.set_cons_zero, List.set_cons_succ, SmV, h1, h3, h9, h11, h12, h13, h14, h15, h16, h17, h18, e15, e17]; rfl)
  -- 19: slot 85 := Op.move t3
  refine And.intro ?_ ?_
  · rw [← hf]; clear hf
    refine ⟨by decide +kernel, fun x v => by kernel_rfl, fun x V hV hdep K hK => ?_⟩
    have e15 : x 15 = .bool true := depOf hdep 15 (by decide +kernel)
    clear hdep
    refine run_guard 15 81 (x 15) (by kernel_rfl) (by rw [hops]; exact nzl_dst_15) (by kernel_rfl) e15 ?_; clear hops
    unfold nzlFr
    go_simp
    refine kfit (hK _ _ (Below.refl _ V) rfl) ?_
    first | (simp only [nzlFr, Act.put, List.setIfInBounds_toArray, List.set_cons_zero, List.set_cons_succ, SmV, h1, h3, h9, h11, h12, h13, h14, h15, h16, h17, h18, e15]; done) | (simp only [nzlFr, Act.put, List.setIfInBounds_toArray, List.set_cons_zero, List.set_cons_succ, SmV, h1, h3, h9, h11, h12, h13, h14, h15, h16, h17, h18, e15]; rfl)
  -- 20: slot 86 := Op.call { value (Operand.func 16), args := #[t82, t84, t85],
  refine And.intro ?_ ?_
  · rw [← hf]; clear hf
    refine ⟨by decide +kernel, fun x v => by kernel_rfl, fun x V hV hdep K hK => ?_⟩
    have e15 : x 15 = .bool true := depOf hdep 15 (by decide +kernel)
    have e16 : x 16 = .slice pa lp.length pc := depOf hdep 16 (by decide +kernel)
    have e18 : x 18 = .agg #[.int .i64 (t).kind, .string (t).name, .slice ta (t).kids.length tc] := depOf hdep 18 (by decide +kernel)
    have e19 : x 19 = .slice na nt.length nc := depOf hdep 19 (by decide +kernel)
    clear hdep
    refine run_guard 15 81 (x 15) (by kernel_rfl) (by rw [hops]; exact nzl_dst_15) (by kernel_rfl) e15 ?_; clear hops
    unfold nzlFr
    try simp only [SmV] at e15
    try simp only [SmV] at e16
    try simp only [SmV] at e18
    try simp only [SmV] at e19
    obtain ⟨HC3, HC5, HC6, HC10, HC12, HC13, HC20, HC25, HC26, HC31, HC40, HC42, HC43, HC47, HC49, HC55, HC62⟩ := HC.out
    clear HC3 HC5 HC6 HC10 HC12 HC13 HC25 HC26 HC31 HC40 HC42 HC43 HC47 HC49 HC55 HC62
    have H := HC20 V hV
    try simp only [SmV] at H
    replace H := Lib.hid H; clear HC20
    go_simp
    go_at_call 16
    refine H.out.mono ?_
    rintro e Y ⟨⟨za, zb, zd, ze, zf, zg, rfl, hq⟩, hb⟩; refine kfit (hK _ _ hb ⟨za, zb, zd, ze, zf, zg, rfl, hq⟩) ?_
    first | (simp only [nzlFr, Act.put, List.setIfInBounds_toArray, List.set_cons_zero, List.set_cons_succ, SmV, h1, h3, h9, h11, h12, h13, h14, h15, h16, h17, h18, e15, e16, e18, e19]; done) | (simp only [nzlFr, Act.put, List.setIfInBounds_toArray, List.set_cons_zero, List.set_cons_succ, SmV, h1, h3, h9, h11, h12, h13, h14, h15, h16, h17, h18, e15, e16, e18, e19]; rfl)
  -- 21: slot 87 := Op.move t13
  refine And.intro ?_ ?_
  · rw [← hf]; clear hf
    refine ⟨by decide +kernel, fun x v => by kernel_rfl, fun x V hV hdep K hK => ?_⟩
    have e15 : x 15 = .bool true := depOf hdep 15 (by decide +kernel)
    clear hdep
    refine run_guard 15 81 (x 15) (by kernel_rfl) (by rw [hops]; exact nzl_dst_15) (by kernel_rfl) e15 ?_; clear hops
    unfold nzlFr
    go_simp
    refine kfit (hK _ _ (Below.refl _ V) rfl) ?_
    first | (simp only [nzlFr, Act.put, List.setIfInBounds_toArray, List.set_cons_zero, List.set_cons_succ, SmV, h1, h3, h9, h11, h12, h13, h14, h15, h16, h17, h18, e15]; done) | (simp only [nzlFr, Act.put, List.setIfInBounds_toArray, List.set_cons_zero, List.set_cons_succ, SmV, h1, h3, h9, h11, h12, h13, h14, h15, h16, h17, h18, e15]; rfl)
  -- 22: slot 88 := Op.fieldAddr 33 t11 2
  refine And.intro ?_ ?_
  · rw [← hf]; clear hf
    refine ⟨by decide +kernel, fun x v => by kernel_rfl, fun x V hV hdep K hK => ?_⟩
    have e15 : x 15 = .bool true := depOf hdep 15 (by decide +kernel)
    clear hdep
    refine run_guard 15 81 (x 15) (by kernel_rfl) (by rw [hops]; exact nzl_dst_15) (by kernel_rfl) e15 ?_; clear hops
    unfold nzlFr
    go_simp
    refine kfit (hK _ _ (Below.refl _ V) rfl) ?_
    first | (simp only [nzlFr, Act.put, List.setIfInBounds_toArray, List.set_cons_zero, List.set_cons_succ, SmV, h1, h3, h9, h11, h12, h13, h14, h15, h16, h17, h18, e15]; done) | (simp only [nzlFr, Act.put, List.setIfInBounds_toArray, List.set_cons_zero, List.set_cons_succ, SmV, h1, h3, h9, h11, h12, h13, h14, h15, h16, h17, h18, e15]; rfl)
  -- 23: slot 89 := Op.load 31 t88
  refine And.intro ?_ ?_
  · rw [← hf]; clear hf
    refine ⟨by decide +kernel, fun x v => by kernel_rfl, fun x V hV hdep K hK => ?_⟩
    have e15 : x 15 = .bool true := depOf hdep 15 (by decide +kernel)
    have e22 : x 22 = .pointer (some ⟨b1, 2, none⟩) := depOf hdep 22 (by decide +kernel)
    clear hdep
    refine run_guard 15 81 (x 15) (by kernel_rfl) (by rw [hops]; exact nzl_dst_15) (by kernel_rfl) e15 ?_; clear hops
    unfold nzlFr
    obtain ⟨c10, c11, c12, c13, c14⟩ := cells5 hV.s1.1; obtain ⟨c20, c21, c22, c23, c24⟩ := cells5 hV.s2.1; obtain ⟨c30, c31, c32, c33, c34⟩ := cells5 hV.s3.1; obtain ⟨c40, c41, c42, c43, c44⟩ := cells5 hV.s4.1
    go_simp
    refine kfit (hK _ _ (Below.refl _ V) rfl) ?_
    first | (simp only [nzlFr, Act.put, List.setIfInBounds_toArray, List.set_cons_zero, List.set_cons_succ, SmV, h1, h3, h9, h11, h12, h13, h14, h15, h16, h17, h18, e15, e22]; done) | (simp only [nzlFr, Act.put, List.setIfInBounds_toArray, List.set_cons_zero, List.set_cons_succ, SmV, h1, h3, h9, h11, h12, h13, h14, h15, h16, h17, h18, e15, e22]; rfl)
  -- 24: slot 90 := Op.move t3
  refine And.intro ?_ ?_
  · rw [← hf]; clear hf
    refine ⟨by decide +kernel, fun x v => by kernel_rfl, fun x V hV hdep K hK => ?_⟩
    have e15 : x 15 = .bool true := depOf hdep 15 (by decide +kernel)
    clear hdep
    refine run_guard 15 81 (x 15) (by kernel_rfl) (by rw [hops]; exact nzl_dst_15) (by kernel_rfl) e15 ?_; clear hops
    unfold nzlFr
    go_simp
    refine kfit (hK _ _ (Below.refl _ V) rfl) ?_
    first | (simp only [nzlFr, Act.put, List.setIfInBounds_toArray, List.set_cons_zero, List.set_cons_succ, SmV, h1, h3, h9, h11, h12, h13, h14, h15, h16, h17, h18, e15]; done) | (simp only [nzlFr, Act.put, List.setIfInBounds_toArray, List.set_cons_zero, List.set_cons_succ, SmV, h1, h3, h9, h11, h12, h13, h14, h15, h16, h17, h18, e15]; rfl)
  -- 25: slot 91 := Op.call { value (Operand.func 17), args := #[t87, t89, t90],
  refine And.intro ?_ ?_
  · rw [← hf]; clear hf
    refine ⟨by decide +kernel, fun x v => by kernel_rfl, fun x V hV hdep K hK => ?_⟩
    have e15 : x 15 = .bool true := depOf hdep 15 (by decide +kernel)
    have e21 : x 21 = .slice pa lp.length pc := depOf hdep 21 (by decide +kernel)
    have e23 : x 23 = .agg #[.int .i64 (t).kind, .string (t).name, .slice ta (t).kids.length tc] := depOf hdep 23 (by decide +kernel)
    have e24 : x 24 = .slice na nt.length nc := depOf hdep 24 (by decide +kernel)
    clear hdep
    refine run_guard 15 81 (x 15) (by kernel_rfl) (by rw [hops]; exact nzl_dst_15) (by kernel_rfl) e15 ?_; clear hops
    unfold nzlFr
    try simp only [SmV] at e15
    try simp only [SmV] at e21
    try simp only [SmV] at e23
    try simp only [SmV] at e24
    obtain ⟨HC3, HC5, HC6, HC10, HC12, HC13, HC20, HC25, HC26, HC31, HC40, HC42, HC43, HC47, HC49, HC55, HC62⟩ := HC.out
    clear HC3 HC5 HC6 HC10 HC12 HC13 HC20 HC26 HC31 HC40 HC42 HC43 HC47 HC49 HC55 HC62
    have H := HC25 V hV
    try simp only [SmV] at H
    replace H := Lib.hid H; clear HC25
    go_simp
    go_at_call 17
    refine H.out.mono ?_
    rintro e Y ⟨⟨za, zb, zd, ze, zf, zg, rfl, hq⟩, hb⟩; refine kfit (hK _ _ hb ⟨za, zb, zd, ze, zf, zg, rfl, hq⟩) ?_
    first | (simp only [nzlFr, Act.put, List.setIfInBounds_toArray, List.set_cons_zero, List.set_cons_succ, SmV, h1, h3, h9, h11, h12, h13, h14, h15, h16, h17, h18, e15, e21, e23, e24]; done) | (simp only [nzlFr, Act.put, List.setIfInBounds_toArray, List.set_cons_zero, List.set_cons_succ, SmV, h1, h3, h9, h11, h12, h13, h14, h15, h16, h17, h18, e15, e21, e23, e24]; rfl)
  -- 26: slot 92 := Op.call { value (Operand.func 10), args := #[t86, t91], argT
  refine And.intro ?_ ?_
  · rw [← hf]; clear hf
    refine ⟨by decide +kernel, fun x v => by kernel_rfl, fun x V hV hdep K hK => ?_⟩
    have e15 : x 15 = .bool true := depOf hdep 15 (by decide +kernel)
    obtain ⟨za20, zb20, zd20, ze20, zf20, zg20, e20, d20⟩ : ∃ za20 zb20 zd20 ze20 zf20 zg20, x 20 = SmV t lp cx za20 zb20 zd20 ze20 zf20 zg20 ∧ SmD t lp cx za20 zb20 zd20 ze20 zf20 zg20 V := depOf hdep 20 (by decide +kernel)
    obtain ⟨za25, zb25, zd25, ze25, zf25, zg25, e25, d25⟩ : ∃ za25 zb25 zd25 ze25 zf25 zg25, x 25 = SmV t lp cx za25 zb25 zd25 ze25 zf25 zg25 ∧ SmD t lp cx za25 zb25 zd25 ze25 zf25 zg25 V := depOf hdep 25 (by decide +kernel)
    clear hdep
    refine run_guard 15 81 (x 15) (by kernel_rfl) (by rw [hops]; exact nzl_dst_15) (by kernel_rfl) e15 ?_; clear hops
    unfold nzlFr
    try simp only [SmV] at e15
    try simp only [SmV] at e20
    try simp only [SmV] at e25
    obtain ⟨HC3, HC5, HC6, HC10, HC12, HC13, HC20, HC25, HC26, HC31, HC40, HC42, HC43, HC47, HC49, HC55, HC62⟩ := HC.out
    clear HC3 HC5 HC6 HC10 HC12 HC13 HC20 HC25 HC31 HC40 HC42 HC43 HC47 HC49 HC55 HC62
    have H := HC26 V hV _ _ _ _ _ _ d20 _ _ _ _ _ _ d25
    try simp only [SmV] at H
    replace H := Lib.hid H; clear HC26
    go_simp
    go_at_call 10
    refine H.out.mono ?_
    rintro e Y ⟨rfl, hb⟩; refine kfit (hK _ _ hb rfl) ?_
    first | (simp only [nzlFr, Act.put, List.setIfInBounds_toArray, List.set_cons_zero, List.set_cons_succ, SmV, h1, h3, h9, h11, h12, h13, h14, h15, h16, h17, h18, e15, e20, e25]; done) | (simp only [nzlFr, Act.put, List.setIfInBounds_toArray, List.set_cons_zero, List.set_cons_succ, SmV, h1, h3, h9, h11, h12, h13, h14, h15, h16, h17, h18, e15, e20, e25]; rfl)
  -- 27: slot 93 := Op.pick t81 t92 (const (Value.bool false))
  refine And.intro ?_ ?_
  · rw [← hf]; clear hf
    refine ⟨by decide +kernel, fun x v => by kernel_rfl, fun x V hV hdep K hK => ?_⟩
    have e15 : x 15 = .bool true := depOf hdep 15 (by decide +kernel)
    have e26 : x 26 = .bool true := depOf hdep 26 (by decide +kernel)
    clear hdep
    refine run_bare (by kernel_rfl) ?_
    unfold nzlFr
    go_simp
    refine kfit (hK _ _ (Below.refl _ V) rfl) ?_
    first | (simp only [nzlFr, Act.put, List.setIfInBounds_toArray, List.set_cons_zero, List.set_cons_succ, SmV, h1, h3, h9, h11, h12, h13, h14, h15, h16, h17, h18, e15, e26]; done) | (simp only [nzlFr, Act.put, List.setIfInBounds_toArray, List.set_cons_zero, List.set_cons_succ, SmV, h1, h3, h9, h11, h12, h13, h14, h15, h16, h17, h18, e15, e26]; rfl)
  -- 28: slot 94 := Op.move t93
  refine And.intro ?_ ?_
  · rw [← hf]; clear hf
    refine ⟨by decide +kernel, fun x v => by kernel_rfl, fun x V hV hdep K hK => ?_⟩
    have e27 : x 27 = .bool true := depOf hdep 27 (by decide +kernel)
    clear hdep
    refine run_bare (by kernel_rfl) ?_
    unfold nzlFr
    go_simp
    refine kfit (hK _ _ (Below.refl _ V) rfl) ?_
    first | (simp only [nzlFr, Act.put, List.setIfInBounds_toArray, List.set_cons_zero, List.set_cons_succ, SmV, h1, h3, h9, h11, h12, h13, h14, h15, h16, h17, h18, e27]; done) | (simp only [nzlFr, Act.put, List.setIfInBounds_toArray, List.set_cons_zero, List.set_cons_succ, SmV, h1, h3, h9, h11, h12, h13, h14, h15, h16, h17, h18, e27]; rfl)
  -- 29: slot 95 := Op.load 33 t14
  refine And.intro ?_ ?_
  · rw [← hf]; clear hf
    refine ⟨by decide +kernel, fun x v => by kernel_rfl, fun x V hV hdep K hK => ?_⟩
    have e28 : x 28 = .bool true := depOf hdep 28 (by decide +kernel)
    clear hdep
    refine run_guard 28 94 (x 28) (by kernel_rfl) (by rw [hops]; exact nzl_dst_28) (by kernel_rfl) e28 ?_; clear hops
    unfold nzlFr
    obtain ⟨c10, c11, c12, c13, c14⟩ := cells5 hV.s1.1; obtain ⟨c20, c21, c22, c23, c24⟩ := cells5 hV.s2.1; obtain ⟨c30, c31, c32, c33, c34⟩ := cells5 hV.s3.1; obtain ⟨c40, c41, c42, c43, c44⟩ := cells5 hV.s4.1
    go_simp
    refine kfit (hK _ _ (Below.refl _ V) rfl) ?_
    first | (simp only [nzlFr, Act.put, List.setIfInBounds_toArray, List.set_cons_zero, List.set_cons_succ, SmV, h1, h3, h9, h11, h12, h13, h14, h15, h16, h17, h18, e28]; done) | (simp only [nzlFr, Act.put, List.setIfInBounds_toArray, List.set_cons_zero, List.set_cons_succ, SmV, h1, h3, h9, h11, h12, h13, h14, h15, h16, h17, h18, e28]; rfl)
  -- 30: slot 96 := Op.load 33 t16
  refine And.intro ?_ ?_
  · rw [← hf]; clear hf
    refine ⟨by decide +kernel, fun x v => by kernel_rfl, fun x V hV hdep K hK => ?_⟩
    have e28 : x 28 = .bool true := depOf hdep 28 (by decide +kernel)
    clear hdep
    refine run_guard 28 94 (x 28) (by kernel_rfl) (by rw [hops]; exact nzl_dst_28) (by kernel_rfl) e28 ?_; clear hops
    unfold nzlFr
    obtain ⟨c10, c11, c12, c13, c14⟩ := cells5 hV.s1.1; obtain ⟨c20, c21, c22, c23, c24⟩ := cells5 hV.s2.1; obtain ⟨c30, c31, c32, c33, c34⟩ := cells5 hV.s3.1; obtain ⟨c40, c41, c42, c43, c44⟩ := cells5 hV.s4.1
    go_simp
    refine kfit (hK _ _ (Below.refl _ V) rfl) ?_
    first | (simp only [nzlFr, Act.put, List.setIfInBounds_toArray, List.set_cons_zero, List.set_cons_succ, SmV, h1, h3, h9, h11, h12, h13, h14, h15, h16, h17, h18, e28]; done) | (simp only [nzlFr, Act.put, List.setIfInBounds_toArray, List.set_cons_zero, List.set_cons_succ, SmV, h1, h3, h9, h11, h12, h13, h14, h15, h16, h17, h18, e28]; rfl)
  -- 31: slot 97 := Op.call { value (Operand.func 10), args := #[t95, t96], argT
  refine And.intro ?_ ?_
  · rw [← hf]; clear hf
    refine ⟨by decide +kernel, fun x v => by kernel_rfl, fun x V hV hdep K hK => ?_⟩
    have e28 : x 28 = .bool true := depOf hdep 28 (by decide +kernel)
    have e29 : x 29 = SmV vt lv gs fa ea ga fc ec gc := depOf hdep 29 (by decide +kernel)
    have e30 : x 30 = SmV vt lv gs ka ia ja kc ic jc := depOf hdep 30 (by decide +kernel)
    clear hdep
    refine run_guard 28 94 (x 28) (by kernel_rfl) (by rw [hops]; exact nzl_dst_28) (by kernel_rfl) e28 ?_; clear hops
    unfold nzlFr
    try simp only [SmV] at e28
    try simp only [SmV] at e29
    try simp only [SmV] at e30
    obtain ⟨HC3, HC5, HC6, HC10, HC12, HC13, HC20, HC25, HC26, HC31, HC40, HC42, HC43, HC47, HC49, HC55, HC62⟩ := HC.out
    clear HC3 HC5 HC6 HC10 HC12 HC13 HC20 HC25 HC26 HC40 HC42 HC43 HC47 HC49 HC55 HC62
    have H := HC31 V hV
    try simp only [SmV] at H
    replace H := Lib.hid H; clear HC31
    go_simp
    go_at_call 10
    refine H.out.mono ?_
    rintro e Y ⟨rfl, hb⟩; refine kfit (hK _ _ hb rfl) ?_
    first | (simp only [nzlFr, Act.put, List.setIfInBounds_toArray, List.set_cons_zero, List.set_cons_succ, SmV, h1, h3, h9, h11, h12, h13, h14, h15, h16, h17, h18, e28, e29, e30]; done) | (simp only [nzlFr, Act.put, List.setIfInBounds_toArray, List.set_cons_zero, List.set_cons_succ, SmV, h1, h3, h9, h11, h12, h13, h14, h15, h16, h17, h18, e28, e29, e30]; rfl)
  -- 32: slot 98 := Op.pick t94 t97 (const (Value.bool false))
  refine And.intro ?_ ?_
  · rw [← hf]; clear hf
    refine ⟨by decide +kernel, fun x v => by kernel_rfl, fun x V hV hdep K hK => ?_⟩
    have e28 : x 28 = .bool true := depOf hdep 28 (by decide +kernel)
    have e31 : x 31 = .bool true := depOf hdep 31 (by decide +kernel)
    clear hdep
    refine run_bare (by kernel_rfl) ?_
    unfold nzlFr
    go_simp
    refine kfit (hK _ _ (Below.refl _ V) rfl) ?_
    first | (simp only [nzlFr, Act.put, List.setIfInBounds_toArray, List.set_cons_zero, List.set_cons_succ, SmV, h1, h3, h9, h11, h12, h13, h14, h15, h16, h17, h18, e28, e31]; done) | (simp only [nzlFr, Act.put, List.setIfInBounds_toArray, List.set_cons_zero, List.set_cons_succ, SmV, h1, h3, h9, h11, h12, h13, h14, h15, h16, h17, h18, e28, e31]; rfl)
  -- 33: slot 99 := Op.move t98
  refine And.intro ?_ ?_
  · rw [← hf]; clear hf
    refine ⟨by decide +kernel, fun x v => by kernel_rfl, fun x V hV hdep K hK => ?_⟩
    have e32 : x 32 = .bool true := depOf hdep 32 (by decide +kernel)
    clear hdep
    refine run_bare (by kernel_rfl) ?_
    unfold nzlFr
    go_simp
    refine kfit (hK _ _ (Below.refl _ V) rfl) ?_
    first | (simp only [nzlFr, Act.put, List.setIfInBounds_toArray, List.set_cons_zero, List.set_cons_succ, SmV, h1, h3, h9, h11, h12, h13, h14, h15, h16, h17, h18, e32]; done) | (simp only [nzlFr, Act.put, List.setIfInBounds_toArray, List.set_cons_zero, List.set_cons_succ, SmV, h1, h3, h9, h11, h12, h13, h14, h15, h16, h17, h18, e32]; rfl)
  -- 34: slot 100 := Op.move t15
  refine And.intro ?_ ?_
  · rw [← hf]; clear hf
    refine ⟨by decide +kernel, fun x v => by kernel_rfl, fun x V hV hdep K hK => ?_⟩
    have e33 : x 33 = .bool true := depOf hdep 33 (by decide +kernel)
    clear hdep
    refine run_guard 33 99 (x 33) (by kernel_rfl) (by rw [hops]; exact nzl_dst_33) (by kernel_rfl) e33 ?_; clear hops
    unfold nzlFr
    go_simp
    refine kfit (hK _ _ (Below.refl _ V) rfl) ?_
    first | (simp only [nzlFr, Act.put, List.setIfInBounds_toArray, List.set_cons_zero, List.set_cons_succ, SmV, h1, h3, h9, h11, h12, h13, h14, h15, h16, h17, h18, e33]; done) | (simp only [nzlFr, Act.put, List.setIfInBounds_toArray, List.set_cons_zero, List.set_cons_succ, SmV, h1, h3, h9, h11, h12, h13, h14, h15, h16, h17, h18, e33]; rfl)
  -- 35: slot 101 := Op.move t17
  refine And.intro ?_ ?_
  · rw [← hf]; clear hf
    refine ⟨by decide +kernel, fun x v => by kernel_rfl, fun x V hV hdep K hK => ?_⟩
    have e33 : x 33 = .bool true := depOf hdep 33 (by decide +kernel)
    clear hdep
    refine run_guard 33 99 (x 33) (by kernel_rfl) (by rw [hops]; exact nzl_dst_33) (by kernel_rfl) e33 ?_; clear hops
    unfold nzlFr
    go_simp
    refine kfit (hK _ _ (Below.refl _ V) rfl) ?_
    first | (simp only [nzlFr, Act.put, List.setIfInBounds_toArray, List.set_cons_zero, List.set_cons_succ, SmV, h1, h3, h9, h11, h12, h13, h14, h15, h16, h17, h18, e33]; done) | (simp only [nzlFr, Act.put, List.setIfInBounds_toArray, List.set_cons_zero, List.set_cons_succ, SmV, h1, h3, h9, h11, h12, h13, h14, h15, h16, h17, h18, e33]; rfl)
  -- 36: slot 102 := Op.binOp BinOp.eql 3 t100 t101 3
  refine And.intro ?_ ?_
  · rw [← hf]; clear hf
    refine ⟨by decide +kernel, fun x v => by kernel_rfl, fun x V hV hdep K hK => ?_⟩
    have e33 : x 33 = .bool true := depOf hdep 33 (by decide +kernel)
    have e34 : x 34 = .int .i64 nx := depOf hdep 34 (by decide +kernel)
    have e35 : x 35 = .int .i64 nx := depOf hdep 35 (by decide +kernel)
    clear hdep
    refine run_guard 33 99 (x 33) (by kernel_rfl) (by rw [hops]; exact nzl_dst_33) (by kernel_rfl) e33 ?_; clear hops
    unfold nzlFr
    go_simp
    refine kfit (hK _ _ (Below.refl _ V) rfl) ?_
    first | (simp only [nzlFr, Act.put, List.setIfInBounds_toArray, List.set_cons_zero, List.set_cons_succ, SmV, h1, h3, h9, h11, h12, h13, h14, h15, h16, h17, h18, e33, e34, e35]; done) | (simp only [nzlFr, Act.put, List.setIfInBounds_toArray, List.set_cons_zero, List.set_cons_succ, SmV, h1, h3, h9, h11, h12, h13, h14, h15, h16, h17, h18, e33, e34, e35]; rfl)
  -- 37: slot 103 := Op.pick t99 t102 (const (Value.bool false))
  refine And.intro ?_ ?_
  · rw [← hf]; clear hf
    refine ⟨by decide +kernel, fun x v => by kernel_rfl, fun x V hV hdep K hK => ?_⟩
    have e33 : x 33 = .bool true := depOf hdep 33 (by decide +kernel)
    have e36 : x 36 = .bool true := depOf hdep 36 (by decide +kernel)
    clear hdep
    refine run_bare (by kernel_rfl) ?_
    unfold nzlFr
    go_simp
    refine kfit (hK _ _ (Below.refl _ V) rfl) ?_
    first | (simp only [nzlFr, Act.put, List.setIfInBounds_toArray, List.set_cons_zero, List.set_cons_succ, SmV, h1, h3, h9, h11, h12, h13, h14, h15, h16, h17, h18, e33, e36]; done) | (simp only [nzlFr, Act.put, List.setIfInBounds_toArray, List.set_cons_zero, List.set_cons_succ, SmV, h1, h3, h9, h11, h12, h13, h14, h15, h16, h17, h18, e33, e36]; rfl)
  -- 38: slot 104 := Op.move t103
  refine And.intro ?_ ?_
  · rw [← hf]; clear hf
    refine ⟨by decide +kernel, fun x v => by kernel_rfl, fun x V hV hdep K hK => ?_⟩
    have e37 : x 37 = .bool true := depOf hdep 37 (by decide +kernel)
    clear hdep
    refine run_bare (by kernel_rfl) ?_
    unfold nzlFr
    go_simp
    refine kfit (hK _ _ (Below.refl _ V) rfl) ?_
    first | (simp only [nzlFr, Act.put, List.setIfInBounds_toArray, List.set_cons_zero, List.set_cons_succ, SmV, h1, h3, h9, h11, h12, h13, h14, h15, h16, h17, h18, e37]; done) | (simp only [nzlFr, Act.put, List.setIfInBounds_toArray, List.set_cons_zero, List.set_cons_succ, SmV, h1, h3, h9, h11, h12, h13, h14, h15, h16, h17, h18, e37]; rfl)
  -- 39: slot 105 := Op.move t13
  refine And.intro ?_ ?_
  · rw [← hf]; clear hf
    refine ⟨by decide +kernel, fun x v => by kernel_rfl, fun x V hV hdep K hK => ?_⟩
    have e38 : x 38 = .bool true := depOf hdep 38 (by decide +kernel)
    clear hdep
    refine run_guard 38 104 (x 38) (by kernel_rfl) (by rw [hops]; exact nzl_dst_38) (by kernel_rfl) e38 ?_; clear hops
    unfold nzlFr
    go_simp
    refine kfit (hK _ _ (Below.refl _ V) rfl) ?_
    first | (simp only [nzlFr, Act.put, List.setIfInBounds_toArray, List.set_cons_zero, List.set_cons_succ, SmV, h1, h3, h9, h11, h12, h13, h14, h15, h16, h17, h18, e38]; done) | (simp only [nzlFr, Act.put, List.setIfInBounds_toArray, List.set_cons_zero, List.set_cons_succ, SmV, h1, h3, h9, h11, h12, h13, h14, h15, h16, h17, h18, e38]; rfl)
  -- 40: slot 106 := Op.call { value (Operand.func 19), args := #[t105], argTypes
  refine And.intro ?_ ?_
  · rw [← hf]; clear hf
    refine ⟨by decide +kernel, fun x v => by kernel_rfl, fun x V hV hdep K hK => ?_⟩
    have e38 : x 38 = .bool true := depOf hdep 38 (by decide +kernel)
    have e39 : x 39 = .slice pa lp.length pc := depOf hdep 39 (by decide +kernel)
    clear hdep
    refine run_guard 38 104 (x 38) (by kernel_rfl) (by rw [hops]; exact nzl_dst_38) (by kernel_rfl) e38 ?_; clear hops
    unfold nzlFr
    try simp only [SmV] at e38
    try simp only [SmV] at e39
    obtain ⟨HC3, HC5, HC6, HC10, HC12, HC13, HC20, HC25, HC26, HC31, HC40, HC42, HC43, HC47, HC49, HC55, HC62⟩ := HC.out
    clear HC3 HC5 HC6 HC10 HC12 HC13 HC20 HC25 HC26 HC31 HC42 HC43 HC47 HC49 HC55 HC62
    have H := HC40 V hV
    try simp only [SmV] at H
    replace H := Lib.hid H; clear HC40
    go_simp
    go_at_call 19
    refine H.out.mono ?_
    rintro e Y ⟨⟨ra, rc, rfl, hq⟩, hb⟩; refine kfit (hK _ _ hb ⟨ra, rc, rfl, hq⟩) ?_
    first | (simp only [nzlFr, Act.put, List.setIfInBounds_toArray, List.set_cons_zero, List.set_cons_succ, SmV, h1, h3, h9, h11, h12, h13, h14, h15, h16, h17, h18, e38, e39]; done) | (simp only [nzlFr, Act.put, List.setIfInBounds_toArray, List.set_cons_zero, List.set_cons_succ, SmV, h1, h3, h9, h11, h12, h13, h14, h15, h16, h17, h18, e38, e39]; rfl)
  -- 41: slot 107 := Op.move t13
  refine And.intro ?_ ?_
  · rw [← hf]; clear hf
    refine ⟨by decide +kernel, fun x v => by kernel_rfl, fun x V hV hdep K hK => ?_⟩
    have e38 : x 38 = .bool true := depOf hdep 38 (by decide +kernel)
    clear hdep
    refine run_guard 38 104 (x 38) (by kernel_rfl) (by rw [hops]; exact nzl_dst_38) (by kernel_rfl) e38 ?_; clear hops
    unfold nzlFr
    go_simp
    refine kfit (hK _ _ (Below.refl _ V) rfl) ?_
    first | (simp only [nzlFr, Act.put, List.setIfInBounds_toArray, List.set_cons_zero, List.set_cons_succ, SmV, h1, h3, h9, h11, h12, h13, h14, h15, h16, h17, h18, e38]; done) | (simp only [nzlFr, Act.put, List.setIfInBounds_toArray, List.set_cons_zero, List.set_cons_succ, SmV, h1, h3, h9, h11, h12, h13, h14, h15, h16, h17, h18, e38]; rfl)
  -- 42: slot 108 := Op.call { value (Operand.func 20), args := #[t107], argTypes
  refine And.intro ?_ ?_
  · rw [← hf]; clear hf
    refine ⟨by decide +kernel, fun x v => by kernel_rfl, fun x V hV hdep K hK => ?_⟩
    have e38 : x 38 = .bool true := depOf hdep 38 (by decide +kernel)
    have e41 : x 41 = .slice pa lp.length pc := depOf hdep 41 (by decide +kernel)
    clear hdep
    refine run_guard 38 104 (x 38) (by kernel_rfl) (by rw [hops]; exact nzl_dst_38) (by kernel_rfl) e38 ?_; clear hops
    unfold nzlFr
    try simp only [SmV] at e38
    try simp only [SmV] at e41
    obtain ⟨HC3, HC5, HC6, HC10, HC12, HC13, HC20, HC25, HC26, HC31, HC40, HC42, HC43, HC47, HC49, HC55, HC62⟩ := HC.out
    clear HC3 HC5 HC6 HC10 HC12 HC13 HC20 HC25 HC26 HC31 HC40 HC43 HC47 HC49 HC55 HC62
    have H := HC42 V hV
    try simp only [SmV] at H
    replace H := Lib.hid H; clear HC42
    go_simp
    go_at_call 20
    refine H.out.mono ?_
    rintro e Y ⟨⟨ra, rc, rfl, hq⟩, hb⟩; refine kfit (hK _ _ hb ⟨ra, rc, rfl, hq⟩) ?_
    first | (simp only [nzlFr, Act.put, List.setIfInBounds_toArray, List.set_cons_zero, List.set_cons_succ, SmV, h1, h3, h9, h11, h12, h13, h14, h15, h16, h17, h18, e38, e41]; done) | (simp only [nzlFr, Act.put, List.setIfInBounds_toArray, List.set_cons_zero, List.set_cons_succ, SmV, h1, h3, h9, h11, h12, h13, h14, h15, h16, h17, h18, e38, e41]; rfl)
  -- 43: slot 109 := Op.call { value (Operand.func 18), args := #[t106, t108], ar
  refine And.intro ?_ ?_
  · rw [← hf]; clear hf
    refine ⟨by decide +kernel, fun x v => by kernel_rfl, fun x V hV hdep K hK => ?_⟩
    have e38 : x 38 = .bool true := depOf hdep 38 (by decide +kernel)
    obtain ⟨ra40, rc40, e40, d40⟩ : ∃ ra40 rc40, x 40 = .slice ra40 lq.length rc40 ∧ PrsAt V (.slice ra40 lq.length rc40) lq := depOf hdep 40 (by decide +kernel)
    obtain ⟨ra42, rc42, e42, d42⟩ : ∃ ra42 rc42, x 42 = .slice ra42 lq.length rc42 ∧ PrsAt V (.slice ra42 lq.length rc42) lq := depOf hdep 42 (by decide +kernel)
    clear hdep
    refine run_guard 38 104 (x 38) (by kernel_rfl) (by rw [hops]; exact nzl_dst_38) (by kernel_rfl) e38 ?_; clear hops
    unfold nzlFr
    try simp only [SmV] at e38
    try simp only [SmV] at e40
    try simp only [SmV] at e42
    obtain ⟨HC3, HC5, HC6, HC10, HC12, HC13, HC20, HC25, HC26, HC31, HC40, HC42, HC43, HC47, HC49, HC55, HC62⟩ := HC.out
    clear HC3 HC5 HC6 HC10 HC12 HC13 HC20 HC25 HC26 HC31 HC40 HC42 HC47 HC49 HC55 HC62
    have H := HC43 V hV _ _ d40 _ _ d42
    try simp only [SmV] at H
    replace H := Lib.hid H; clear HC43
    go_simp
    go_at_call 18
    refine H.out.mono ?_
    rintro e Y ⟨rfl, hb⟩; refine kfit (hK _ _ hb rfl) ?_
    first | (simp only [nzlFr, Act.put, List.setIfInBounds_toArray, List.set_cons_zero, List.set_cons_succ, SmV, h1, h3, h9, h11, h12, h13, h14, h15, h16, h17, h18, e38, e40, e42]; done) | (simp only [nzlFr, Act.put, List.setIfInBounds_toArray, List.set_cons_zero, List.set_cons_succ, SmV, h1, h3, h9, h11, h12, h13, h14, h15, h16, h17, h18, e38, e40, e42]; rfl)
  -- 44: slot 110 := Op.pick t104 t109 (const (Value.bool false))
  refine And.intro ?_ ?_
  · rw [← hf]; clear hf
    refine ⟨by decide +kernel, fun x v => by kernel_rfl, fun x V hV hdep K hK => ?_⟩
    have e38 : x 38 = .bool true := depOf hdep 38 (by decide +kernel)
    have e43 : x 43 = .bool true := depOf hdep 43 (by decide +kernel)
    clear hdep
    refine run_bare (by kernel_rfl) ?_
    unfold nzlFr
    go_simp
    refine kfit (hK _ _ (Below.refl _ V) rfl) ?_
    first | (simp only [nzlFr, Act.put, List.setIfInBounds_toArray, List.set_cons_zero, List.set_cons_succ, SmV, h1, h3, h9, h11, h12, h13, h14, h15, h16, h17, h18, e38, e43]; done) | (simp only [nzlFr, Act.put, List.setIfInBounds_toArray, List.set_cons_zero, List.set_cons_succ, SmV, h1, h3, h9, h11, h12, h13, h14, h15, h16, h17, h18, e38, e43]; rfl)
  -- 45: slot 111 := Op.move t110
  refine And.intro ?_ ?_
  · rw [← hf]; clear hf
    refine ⟨by decide +kernel, fun x v => by kernel_rfl, fun x V hV hdep K hK => ?_⟩
    have e44 : x 44 = .bool true := depOf hdep 44 (by decide +kernel)
    clear hdep
    refine run_bare (by kernel_rfl) ?_
    unfold nzlFr
    go_simp
    refine kfit (hK _ _ (Below.refl _ V) rfl) ?_
    first | (simp only [nzlFr, Act.put, List.setIfInBounds_toArray, List.set_cons_zero, List.set_cons_succ, SmV, h1, h3, h9, h11, h12, h13, h14, h15, h16, h17, h18, e44]; done) | (simp only [nzlFr, Act.put, List.setIfInBounds_toArray, List.set_cons_zero, List.set_cons_succ, SmV, h1, h3, h9, h11, h12, h13, h14, h15, h16, h17, h18, e44]; rfl)
  -- 46: slot 112 := Op.move t1
  refine And.intro ?_ ?_
  · rw [← hf]; clear hf
    refine ⟨by decide +kernel, fun x v => by kernel_rfl, fun x V hV hdep K hK => ?_⟩
    have e45 : x 45 = .bool true := depOf hdep 45 (by decide +kernel)
    clear hdep
    refine run_guard 45 111 (x 45) (by kernel_rfl) (by rw [hops]; exact nzl_dst_45) (by kernel_rfl) e45 ?_; clear hops
    unfold nzlFr
    go_simp
    refine kfit (hK _ _ (Below.refl _ V) rfl) ?_
    first | (simp only [nzlFr, Act.put, List.setIfInBounds_toArray, List.set_cons_zero, List.set_cons_succ, SmV, h1, h3, h9, h11, h12, h13, h14, h15, h16, h17, h18, e45]; done) | (simp only [nzlFr, Act.put, List.setIfInBounds_toArray, List.set_cons_zero, List.set_cons_succ, SmV, h1, h3, h9, h11, h12, h13, h14, h15, h16, h17, h18, e45]; rfl)
  -- 47: slot 113 := Op.call { value (Operand.func 21), args := #[t112], argTypes
  refine And.intro ?_ ?_
  · rw [← hf]; clear hf
    refine ⟨by decide +kernel, fun x v => by kernel_rfl, fun x V hV hdep K hK => ?_⟩
    have e45 : x 45 = .bool true := depOf hdep 45 (by decide +kernel)
    have e46 : x 46 = .int .i64 zn := depOf hdep 46 (by decide +kernel)
    clear hdep
    refine run_guard 45 111 (x 45) (by kernel_rfl) (by rw [hops]; exact nzl_dst_45) (by kernel_rfl) e45 ?_; clear hops
    unfold nzlFr
    try simp only [SmV] at e45
    try simp only [SmV] at e46
    obtain ⟨HC3, HC5, HC6, HC10, HC12, HC13, HC20, HC25, HC26, HC31, HC40, HC42, HC43, HC47, HC49, HC55, HC62⟩ := HC.out
    clear HC3 HC5 HC6 HC10 HC12 HC13 HC20 HC25 HC26 HC31 HC40 HC42 HC43 HC49 HC55 HC62
    have H := HC47 V hV
    try simp only [SmV] at H
    replace H := Lib.hid H; clear HC47
    go_simp
    go_at_call 21
    refine H.out.mono ?_
    rintro e Y ⟨rfl, hb⟩; refine kfit (hK _ _ hb rfl) ?_
    first | (simp only [nzlFr, Act.put, List.setIfInBounds_toArray, List.set_cons_zero, List.set_cons_succ, SmV, h1, h3, h9, h11, h12, h13, h14, h15, h16, h17, h18, e45, e46]; done) | (simp only [nzlFr, Act.put, List.setIfInBounds_toArray, List.set_cons_zero, List.set_cons_succ, SmV, h1, h3, h9, h11, h12, h13, h14, h15, h16, h17, h18, e45, e46]; rfl)
  -- 48: slot 114 := Op.move t1
  refine And.intro ?_ ?_
  · rw [← hf]; clear hf
    refine ⟨by decide +kernel, fun x v => by kernel_rfl, fun x V hV hdep K hK => ?_⟩
    have e45 : x 45 = .bool true := depOf hdep 45 (by decide +kernel)
    clear hdep
    refine run_guard 45 111 (x 45) (by kernel_rfl) (by rw [hops]; exact nzl_dst_45) (by kernel_rfl) e45 ?_; clear hops
    unfold nzlFr
    go_simp
    refine kfit (hK _ _ (Below.refl _ V) rfl) ?_
    first | (simp only [nzlFr, Act.put, List.setIfInBounds_toArray, List.set_cons_zero, List.set_cons_succ, SmV, h1, h3, h9, h11, h12, h13, h14, h15, h16, h17, h18, e45]; done) | (simp only [nzlFr, Act.put, List.setIfInBounds_toArray, List.set_cons_zero, List.set_cons_succ, SmV, h1, h3, h9, h11, h12, h13, h14, h15, h16, h17, h18, e45]; rfl)
  -- 49: slot 115 := Op.call { value (Operand.func 22), args := #[t114], argTypes
  refine And.intro ?_ ?_
  · rw [← hf]; clear hf
    refine ⟨by decide +kernel, fun x v => by kernel_rfl, fun x V hV hdep K hK => ?_⟩
    have e45 : x 45 = .bool true := depOf hdep 45 (by decide +kernel)
    have e48 : x 48 = .int .i64 zn := depOf hdep 48 (by decide +kernel)
    clear hdep
    refine run_guard 45 111 (x 45) (by kernel_rfl) (by rw [hops]; exact nzl_dst_45) (by kernel_rfl) e45 ?_; clear hops
    unfold nzlFr
    try simp only [SmV] at e45
    try simp only [SmV] at e48
    obtain ⟨HC3, HC5, HC6, HC10, HC12, HC13, HC20, HC25, HC26, HC31, HC40, HC42, HC43, HC47, HC49, HC55, HC62⟩ := HC.out
    clear HC3 HC5 HC6 HC10 HC12 HC13 HC20 HC25 HC26 HC31 HC40 HC42 HC43 HC47 HC55 HC62
    have H := HC49 V hV
    try simp only [SmV] at H
    replace H := Lib.hid H; clear HC49
    go_simp
    go_at_call 22
    refine H.out.mono ?_
    rintro e Y ⟨rfl, hb⟩; refine kfit (hK _ _ hb rfl) ?_
    first | (simp only [nzlFr, Act.put, List.setIfInBounds_toArray, List.set_cons_zero, List.set_cons_succ, SmV, h1, h3, h9, h11, h12, h13, h14, h15, h16, h17, h18, e45, e48]; done) | (simp only [nzlFr, Act.put, List.setIfInBounds_toArray, List.set_cons_zero, List.set_cons_succ, SmV, h1, h3, h9, h11, h12, h13, h14, h15, h16, h17, h18, e45, e48]; rfl)
  -- 50: slot 116 := Op.binOp BinOp.eql 9 t113 t115 9
  refine And.intro ?_ ?_
  · rw [← hf]; clear hf
    refine ⟨by decide +kernel, fun x v => by kernel_rfl, fun x V hV hdep K hK => ?_⟩
    have e45 : x 45 = .bool true := depOf hdep 45 (by decide +kernel)
    have e47 : x 47 = .string nm := depOf hdep 47 (by decide +kernel)
    have e49 : x 49 = .string nm := depOf hdep 49 (by decide +kernel)
    clear hdep
    refine run_guard 45 111 (x 45) (by kernel_rfl) (by rw [hops]; exact nzl_dst_45) (by kernel_rfl) e45 ?_; clear hops
    unfold nzlFr
    go_simp
    refine kfit (hK _ _ (Below.refl _ V) rfl) ?_
    first | (simp only [nzlFr, Act.put, List.setIfInBounds_toArray, List.set_cons_zero, List.set_cons_succ, SmV, h1, h3, h9, h11, h12, h13, h14, h15, h16, h17, h18, e45, e47, e49]; done) | (simp only [nzlFr, Act.put, List.setIfInBounds_toArray, List.set_cons_zero, List.set_cons_succ, SmV, h1, h3, h9, h11, h12, h13, h14, h15, h16, h17, h18, e45, e47, e49]; rfl)
  -- 51: slot 117 := Op.pick t111 t116 (const (Value.bool false))
  refine And.intro ?_ ?_
  · rw [← hf]; clear hf
    refine ⟨by decide +kernel, fun x v => by kernel_rfl, fun x V hV hdep K hK => ?_⟩
    have e45 : x 45 = .bool true := depOf hdep 45 (by decide +kernel)
    have e50 : x 50 = .bool true := depOf hdep 50 (by decide +kernel)
    clear hdep
    refine run_bare (by kernel_rfl) ?_
    unfold nzlFr
    go_simp
    refine kfit (hK _ _ (Below.refl _ V) rfl) ?_
    first | (simp only [nzlFr, Act.put, List.setIfInBounds_toArray, List.set_cons_zero, List.set_cons_succ, SmV, h1, h3, h9, h11, h12, h13, h14, h15, h16, h17, h18, e45, e50]; done) | (simp only [nzlFr, Act.put, List.setIfInBounds_toArray, List.set_cons_zero, List.set_cons_succ, SmV, h1, h3, h9, h11, h12, h13, h14, h15, h16, h17, h18, e45, e50]; rfl)
  -- 52: slot 118 := Op.move t117
  refine And.intro ?_ ?_
  · rw [← hf]; clear hf
    refine ⟨by decide +kernel, fun x v => by kernel_rfl, fun x V hV hdep K hK => ?_⟩
    have e51 : x 51 = .bool true := depOf hdep 51 (by decide +kernel)
    clear hdep
    refine run_bare (by kernel_rfl) ?_
    unfold nzlFr
    go_simp
    refine kfit (hK _ _ (Below.refl _ V) rfl) ?_
    first | (simp only [nzlFr, Act.put, List.setIfInBounds_toArray, List.set_cons_zero, List.set_cons_succ, SmV, h1, h3, h9, h11, h12, h13, h14, h15, h16, h17, h18, e51]; done) | (simp only [nzlFr, Act.put, List.setIfInBounds_toArray, List.set_cons_zero, List.set_cons_succ, SmV, h1, h3, h9, h11, h12, h13, h14, h15, h16, h17, h18, e51]; rfl)
  -- 53: slot 119 := Op.load 33 t11
  refine And.intro ?_ ?_
  · rw [← hf]; clear hf
    refine ⟨by decide +kernel, fun x v => by kernel_rfl, fun x V hV hdep K hK => ?_⟩
    have e52 : x 52 = .bool true := depOf hdep 52 (by decide +kernel)
    clear hdep
    refine run_guard 52 118 (x 52) (by kernel_rfl) (by rw [hops]; exact nzl_dst_52) (by kernel_rfl) e52 ?_; clear hops
    unfold nzlFr
    obtain ⟨c10, c11, c12, c13, c14⟩ := cells5 hV.s1.1; obtain ⟨c20, c21, c22, c23, c24⟩ := cells5 hV.s2.1; obtain ⟨c30, c31, c32, c33, c34⟩ := cells5 hV.s3.1; obtain ⟨c40, c41, c42, c43, c44⟩ := cells5 hV.s4.1
    go_simp
    refine kfit (hK _ _ (Below.refl _ V) rfl) ?_
    first | (simp only [nzlFr, Act.put, List.setIfInBounds_toArray, List.set_cons_zero, List.set_cons_succ, SmV, h1, h3, h9, h11, h12, h13, h14, h15, h16, h17, h18, e52]; done) | (simp only [nzlFr, Act.put, List.setIfInBounds_toArray, List.set_cons_zero, List.set_cons_succ, SmV, h1, h3, h9, h11, h12, h13, h14, h15, h16, h17, h18, e52]; rfl)
  -- 54: slot 120 := Op.load 33 t12
  refine And.intro ?_ ?_
  · rw [← hf]; clear hf
    refine ⟨by decide +kernel, fun x v => by kernel_rfl, fun x V hV hdep K hK => ?_⟩
    have e52 : x 52 = .bool true := depOf hdep 52 (by decide +kernel)
    clear hdep
    refine run_guard 52 118 (x 52) (by kernel_rfl) (by rw [hops]; exact nzl_dst_52) (by kernel_rfl) e52 ?_; clear hops
    unfold nzlFr
    obtain ⟨c10, c11, c12, c13, c14⟩ := cells5 hV.s1.1; obtain ⟨c20, c21, c22, c23, c24⟩ := cells5 hV.s2.1; obtain ⟨c30, c31, c32, c33, c34⟩ := cells5 hV.s3.1; obtain ⟨c40, c41, c42, c43, c44⟩ := cells5 hV.s4.1
    go_simp
    refine kfit (hK _ _ (Below.refl _ V) rfl) ?_
    first | (simp only [nzlFr, Act.put, List.setIfInBounds_toArray, List.set_cons_zero, List.set_cons_succ, SmV, h1, h3, h9, h11, h12, h13, h14, h15, h16, h17, h18, e52]; done) | (simp only [nzlFr, Act.put, List.setIfInBounds_toArray, List.set_cons_zero, List.set_cons_succ, SmV, h1, h3, h9, h11, h12, h13, h14, h15, h16, h17, h18, e52]; rfl)
  -- 55: slot 121 := Op.call { value (Operand.func 23), args := #[t119, t120], ar
  refine And.intro ?_ ?_
  · rw [← hf]; clear hf
    refine ⟨by decide +kernel, fun x v => by kernel_rfl, fun x V hV hdep K hK => ?_⟩
    have e52 : x 52 = .bool true := depOf hdep 52 (by decide +kernel)
    have e53 : x 53 = SmV t lc xs ta ca xa tc cc xc := depOf hdep 53 (by decide +kernel)
    have e54 : x 54 = SmV s ld ys sa da ya sc dc yc := depOf hdep 54 (by decide +kernel)
    clear hdep
    refine run_guard 52 118 (x 52) (by kernel_rfl) (by rw [hops]; exact nzl_dst_52) (by kernel_rfl) e52 ?_; clear hops
    unfold nzlFr
    try simp only [SmV] at e52
    try simp only [SmV] at e53
    try simp only [SmV] at e54
    obtain ⟨HC3, HC5, HC6, HC10, HC12, HC13, HC20, HC25, HC26, HC31, HC40, HC42, HC43, HC47, HC49, HC55, HC62⟩ := HC.out
    clear HC3 HC5 HC6 HC10 HC12 HC13 HC20 HC25 HC26 HC31 HC40 HC42 HC43 HC47 HC49 HC62
    have H := HC55 V hV
    try simp only [SmV] at H
    replace H := Lib.hid H; clear HC55
    go_simp
    go_at_call 23
    refine H.out.mono ?_
    rintro e Y ⟨rfl, hb⟩; refine kfit (hK _ _ hb rfl) ?_
    first | (simp only [nzlFr, Act.put, List.setIfInBounds_toArray, List.set_cons_zero, List.set_cons_succ, SmV, h1, h3, h9, h11, h12, h13, h14, h15, h16, h17, h18, e52, e53, e54]; done) | (simp only [nzlFr, Act.put, List.setIfInBounds_toArray, List.set_cons_zero, List.set_cons_succ, SmV, h1, h3, h9, h11, h12, h13, h14, h15, h16, h17, h18, e52, e53, e54]; rfl)
  -- 56: slot 122 := Op.move t18
  refine And.intro ?_ ?_
  · rw [← hf]; clear hf
    refine ⟨by decide +kernel, fun x v => by kernel_rfl, fun x V hV hdep K hK => ?_⟩
    have e52 : x 52 = .bool true := depOf hdep 52 (by decide +kernel)
    clear hdep
    refine run_guard 52 118 (x 52) (by kernel_rfl) (by rw [hops]; exact nzl_dst_52) (by kernel_rfl) e52 ?_; clear hops
    unfold nzlFr
    go_simp
    refine kfit (hK _ _ (Below.refl _ V) rfl) ?_
    first | (simp only [nzlFr, Act.put, List.setIfInBounds_toArray, List.set_cons_zero, List.set_cons_succ, SmV, h1, h3, h9, h11, h12, h13, h14, h15, h16, h17, h18, e52]; done) | (simp only [nzlFr, Act.put, List.setIfInBounds_toArray, List.set_cons_zero, List.set_cons_succ, SmV, h1, h3, h9, h11, h12, h13, h14, h15, h16, h17, h18, e52]; rfl)
  -- 57: slot 123 := Op.binOp BinOp.eql 4 t121 t122 4
  refine And.intro ?_ ?_
  · rw [← hf]; clear hf
    refine ⟨by decide +kernel, fun x v => by kernel_rfl, fun x V hV hdep K hK => ?_⟩
    have e52 : x 52 = .bool true := depOf hdep 52 (by decide +kernel)
    have e55 : x 55 = .bool rs := depOf hdep 55 (by decide +kernel)
    have e56 : x 56 = .bool rs := depOf hdep 56 (by decide +kernel)
    clear hdep
    refine run_guard 52 118 (x 52) (by kernel_rfl) (by rw [hops]; exact nzl_dst_52) (by kernel_rfl) e52 ?_; clear hops
    unfold nzlFr
    go_simp
    refine kfit (hK _ _ (Below.refl _ V) rfl) ?_
    first | (simp only [nzlFr, Act.put, List.setIfInBounds_toArray, List.set_cons_zero, List.set_cons_succ, SmV, h1, h3, h9, h11, h12, h13, h14, h15, h16, h17, h18, e52, e55, e56]; done) | (simp only [nzlFr, Act.put, List.setIfInBounds_toArray, List.set_cons_zero, List.set_cons_succ, SmV, h1, h3, h9, h11, h12, h13, h14, h15, h16, h17, h18, e52, e55, e56]; rfl)
  -- 58: slot 124 := Op.pick t118 t123 (const (Value.bool false))
  refine And.intro ?_ ?_
  · rw [← hf]; clear hf
    refine ⟨by decide +kernel, fun x v => by kernel_rfl, fun x V hV hdep K hK => ?_⟩
    have e52 : x 52 = .bool true := depOf hdep 52 (by decide +kernel)
    have e57 : x 57 = .bool true := depOf hdep 57 (by decide +kernel)
    clear hdep
    refine run_bare (by kernel_rfl) ?_
    unfold nzlFr
    go_simp
    refine kfit (hK _ _ (Below.refl _ V) rfl) ?_
    first | (simp only [nzlFr, Act.put, List.setIfInBounds_toArray, List.set_cons_zero, List.set_cons_succ, SmV, h1, h3, h9, h11, h12, h13, h14, h15, h16, h17, h18, e52, e57]; done) | (simp only [nzlFr, Act.put, List.setIfInBounds_toArray, List.set_cons_zero, List.set_cons_succ, SmV, h1, h3, h9, h11, h12, h13, h14, h15, h16, h17, h18, e52, e57]; rfl)
  -- 59: slot 125 := Op.move t124
  refine And.intro ?_ ?_
  · rw [← hf]; clear hf
    refine ⟨by decide +kernel, fun x v => by kernel_rfl, fun x V hV hdep K hK => ?_⟩
    have e58 : x 58 = .bool true := depOf hdep 58 (by decide +kernel)
    clear hdep
    refine run_bare (by kernel_rfl) ?_
    unfold nzlFr
    go_simp
    refine kfit (hK _ _ (Below.refl _ V) rfl) ?_
    first | (simp only [nzlFr, Act.put, List.setIfInBounds_toArray, List.set_cons_zero, List.set_cons_succ, SmV, h1, h3, h9, h11, h12, h13, h14, h15, h16, h17, h18, e58]; done) | (simp only [nzlFr, Act.put, List.setIfInBounds_toArray, List.set_cons_zero, List.set_cons_succ, SmV, h1, h3, h9, h11, h12, h13, h14, h15, h16, h17, h18, e58]; rfl)
  -- 60: slot 126 := Op.load 33 t11
  refine And.intro ?_ ?_
  · rw [← hf]; clear hf
    refine ⟨by decide +kernel, fun x v => by kernel_rfl, fun x V hV hdep K hK => ?_⟩
    have e59 : x 59 = .bool true := depOf hdep 59 (by decide +kernel)
    clear hdep
    refine run_guard 59 125 (x 59) (by kernel_rfl) (by rw [hops]; exact nzl_dst_59) (by kernel_rfl) e59 ?_; clear hops
    unfold nzlFr
    obtain ⟨c10, c11, c12, c13, c14⟩ := cells5 hV.s1.1; obtain ⟨c20, c21, c22, c23, c24⟩ := cells5 hV.s2.1; obtain ⟨c30, c31, c32, c33, c34⟩ := cells5 hV.s3.1; obtain ⟨c40, c41, c42, c43, c44⟩ := cells5 hV.s4.1
    go_simp
    refine kfit (hK _ _ (Below.refl _ V) rfl) ?_
    first | (simp only [nzlFr, Act.put, List.setIfInBounds_toArray, List.set_cons_zero, List.set_cons_succ, SmV, h1, h3, h9, h11, h12, h13, h14, h15, h16, h17, h18, e59]; done) | (simp only [nzlFr, Act.put, List.setIfInBounds_toArray, List.set_cons_zero, List.set_cons_succ, SmV, h1, h3, h9, h11, h12, h13, h14, h15, h16, h17, h18, e59]; rfl)
  -- 61: slot 127 := Op.load 33 t11
  refine And.intro ?_ ?_
  · rw [← hf]; clear hf
    refine ⟨by decide +kernel, fun x v => by kernel_rfl, fun x V hV hdep K hK => ?_⟩
    have e59 : x 59 = .bool true := depOf hdep 59 (by decide +kernel)
    clear hdep
    refine run_guard 59 125 (x 59) (by kernel_rfl) (by rw [hops]; exact nzl_dst_59) (by kernel_rfl) e59 ?_; clear hops
    unfold nzlFr
    obtain ⟨c10, c11, c12, c13, c14⟩ := cells5 hV.s1.1; obtain ⟨c20, c21, c22, c23, c24⟩ := cells5 hV.s2.1; obtain ⟨c30, c31, c32, c33, c34⟩ := cells5 hV.s3.1; obtain ⟨c40, c41, c42, c43, c44⟩ := cells5 hV.s4.1
    go_simp
    refine kfit (hK _ _ (Below.refl _ V) rfl) ?_
    first | (simp only [nzlFr, Act.put, List.setIfInBounds_toArray, List.set_cons_zero, List.set_cons_succ, SmV, h1, h3, h9, h11, h12, h13, h14, h15, h16, h17, h18, e59]; done) | (simp only [nzlFr, Act.put, List.setIfInBounds_toArray, List.set_cons_zero, List.set_cons_succ, SmV, h1, h3, h9, h11, h12, h13, h14, h15, h16, h17, h18, e59]; rfl)
  -- 62: slot 128 := Op.call { value (Operand.func 23), args := #[t126, t127], ar
  refine And.intro ?_ ?_
  · rw [← hf]; clear hf
    refine ⟨by decide +kernel, fun x v => by kernel_rfl, fun x V hV hdep K hK => ?_⟩
    have e59 : x 59 = .bool true := depOf hdep 59 (by decide +kernel)
    have e60 : x 60 = SmV t lc xs ta ca xa tc cc xc := depOf hdep 60 (by decide +kernel)
    have e61 : x 61 = SmV t lc xs ta ca xa tc cc xc := depOf hdep 61 (by decide +kernel)
    clear hdep
    refine run_guard 59 125 (x 59) (by kernel_rfl) (by rw [hops]; exact nzl_dst_59) (by kernel_rfl) e59 ?_; clear hops
    unfold nzlFr
    try simp only [SmV] at e59
    try simp only [SmV] at e60
    try simp only [SmV] at e61
    obtain ⟨HC3, HC5, HC6, HC10, HC12, HC13, HC20, HC25, HC26, HC31, HC40, HC42, HC43, HC47, HC49, HC55, HC62⟩ := HC.out
    clear HC3 HC5 HC6 HC10 HC12 HC13 HC20 HC25 HC26 HC31 HC40 HC42 HC43 HC47 HC49 HC55
    have H := HC62 V hV
    try simp only [SmV] at H
    replace H := Lib.hid H; clear HC62
    go_simp
    go_at_call 23
    refine H.out.mono ?_
    rintro e Y ⟨rfl, hb⟩; refine kfit (hK _ _ hb rfl) ?_
    first | (simp only [nzlFr, Act.put, List.setIfInBounds_toArray, List.set_cons_zero, List.set_cons_succ, SmV, h1, h3, h9, h11, h12, h13, h14, h15, h16, h17, h18, e59, e60, e61]; done) | (simp only [nzlFr, Act.put, List.setIfInBounds_toArray, List.set_cons_zero, List.set_cons_succ, SmV, h1, h3, h9, h11, h12, h13, h14, h15, h16, h17, h18, e59, e60, e61]; rfl)
  -- 63: slot 129 := Op.pick t125 t128 (const (Value.bool false))
  refine And.intro ?_ ?_
  · rw [← hf]; clear hf
    refine ⟨by decide +kernel, fun x v => by kernel_rfl, fun x V hV hdep K hK => ?_⟩
    have e59 : x 59 = .bool true := depOf hdep 59 (by decide +kernel)
    have e62 : x 62 = .bool true := depOf hdep 62 (by decide +kernel)
    clear hdep
    refine run_bare (by kernel_rfl) ?_
    unfold nzlFr
    go_simp
    refine kfit (hK _ _ (Below.refl _ V) rfl) ?_
    first | (simp only [nzlFr, Act.put, List.setIfInBounds_toArray, List.set_cons_zero, List.set_cons_succ, SmV, h1, h3, h9, h11, h12, h13, h14, h15, h16, h17, h18, e59, e62]; done) | (simp only [nzlFr, Act.put, List.setIfInBounds_toArray, List.set_cons_zero, List.set_cons_succ, SmV, h1, h3, h9, h11, h12, h13, h14, h15, h16, h17, h18, e59, e62]; rfl)
  -- 64: slot 8 := Op.assign t129
  refine And.intro ?_ ?_
  · rw [← hf]; clear hf
    refine ⟨by decide +kernel, fun x v => by kernel_rfl, fun x V hV hdep K hK => ?_⟩
    have e63 : x 63 = .bool true := depOf hdep 63 (by decide +kernel)
    clear hdep
    refine run_bare (by kernel_rfl) ?_
    unfold nzlFr
    go_simp
    refine kfit (hK _ _ (Below.refl _ V) rfl) ?_
    first | (simp only [nzlFr, Act.put, List.setIfInBounds_toArray, List.set_cons_zero, List.set_cons_succ, SmV, h1, h3, h9, h11, h12, h13, h14, h15, h16, h17, h18, e63]; done) | (simp only [nzlFr, Act.put, List.setIfInBounds_toArray, List.set_cons_zero, List.set_cons_succ, SmV, h1, h3, h9, h11, h12, h13, h14, h15, h16, h17, h18, e63]; rfl)
  exact trivial
theorem nzl_here {w : World} {b1 b2 b3 b4 : Nat} {t s vt u : T} {lc ld lv lp l2 lq : List Pr} {xs ys gs nt zl fx cx : List ByteArray} {ta ca xa sa da ya fa ea ga ka ia ja pa na : Option Addr} {tc cc xc sc dc yc fc ec gc kc ic jc pc nc : Nat} {zn nx : Int} {nm : ByteArray} {rs : Bool}
    (HC3 : ∀ V, SzS w b1 b2 b3 b4 t s vt lc ld lv lp xs ys gs nt ta ca xa sa da ya fa ea ga ka ia ja pa na tc cc xc sc dc yc fc ec gc kc ic jc pc nc V → Calls Tryz.prog 12 #[SmV t lc xs ta ca xa tc cc xc] V fun e Y => (∃ za zb zd ze zf zg, e = .returned (SmV u l2 zl za zb zd ze zf zg) ∧ SmD u l2 zl za zb zd ze zf zg Y) ∧ Below V.heap.size V Y)
    (HC5 : ∀ V, SzS w b1 b2 b3 b4 t s vt lc ld lv lp xs ys gs nt ta ca xa sa da ya fa ea ga ka ia ja pa na tc cc xc sc dc yc fc ec gc kc ic jc pc nc V → Calls Tryz.prog 11 #[SmV t lc xs ta ca xa tc cc xc] V fun e Y => (∃ za zb zd ze zf zg, e = .returned (SmV u l2 zl za zb zd ze zf zg) ∧ SmD u l2 zl za zb zd ze zf zg Y) ∧ Below V.heap.size V Y)
    (HC6 : ∀ V, SzS w b1 b2 b3 b4 t s vt lc ld lv lp xs ys gs nt ta ca xa sa da ya fa ea ga ka ia ja pa na tc cc xc sc dc yc fc ec gc kc ic jc pc nc V → ∀ za3, ∀ zb3, ∀ zd3, ∀ ze3, ∀ zf3, ∀ zg3, SmD u l2 zl za3 zb3 zd3 ze3 zf3 zg3 V → ∀ za5, ∀ zb5, ∀ zd5, ∀ ze5, ∀ zf5, ∀ zg5, SmD u l2 zl za5 zb5 zd5 ze5 zf5 zg5 V → Calls Tryz.prog 10 #[SmV u l2 zl za3 zb3 zd3 ze3 zf3 zg3, SmV u l2 zl za5 zb5 zd5 ze5 zf5 zg5] V fun e Y => e = .returned (.bool true) ∧ Below V.heap.size V Y)
    (HC10 : ∀ V, SzS w b1 b2 b3 b4 t s vt lc ld lv lp xs ys gs nt ta ca xa sa da ya fa ea ga ka ia ja pa na tc cc xc sc dc yc fc ec gc kc ic jc pc nc V → Calls Tryz.prog 14 #[SmV t lc xs ta ca xa tc cc xc] V fun e Y => (∃ ra rc, e = .returned (.slice ra fx.length rc) ∧ TextsAt Y (.slice ra fx.length rc) fx) ∧ Below V.heap.size V Y)
    (HC12 : ∀ V, SzS w b1 b2 b3 b4 t s vt lc ld lv lp xs ys gs nt ta ca xa sa da ya fa ea ga ka ia ja pa na tc cc xc sc dc yc fc ec gc kc ic jc pc nc V → Calls Tryz.prog 15 #[SmV t lc xs ta ca xa tc cc xc] V fun e Y => (∃ ra rc, e = .returned (.slice ra fx.length rc) ∧ TextsAt Y (.slice ra fx.length rc) fx) ∧ Below V.heap.size V Y)
    (HC13 : ∀ V, SzS w b1 b2 b3 b4 t s vt lc ld lv lp xs ys gs nt ta ca xa sa da ya fa ea ga ka ia ja pa na tc cc xc sc dc yc fc ec gc kc ic jc pc nc V → ∀ ra10, ∀ rc10, TextsAt V (.slice ra10 fx.length rc10) fx → ∀ ra12, ∀ rc12, TextsAt V (.slice ra12 fx.length rc12) fx → Calls Tryz.prog 13 #[.slice ra10 fx.length rc10, .slice ra12 fx.length rc12] V fun e Y => e = .returned (.bool true) ∧ Below V.heap.size V Y)
    (HC20 : ∀ V, SzS w b1 b2 b3 b4 t s vt lc ld lv lp xs ys gs nt ta ca xa sa da ya fa ea ga ka ia ja pa na tc cc xc sc dc yc fc ec gc kc ic jc pc nc V → Calls Tryz.prog 16 #[.slice pa lp.length pc, .agg #[.int .i64 (t).kind, .string (t).name, .slice ta (t).kids.length tc], .slice na nt.length nc] V fun e Y => (∃ za zb zd ze zf zg, e = .returned (SmV t lp cx za zb zd ze zf zg) ∧ SmD t lp cx za zb zd ze zf zg Y) ∧ Below V.heap.size V Y)
    (HC25 : ∀ V, SzS w b1 b2 b3 b4 t s vt lc ld lv lp xs ys gs nt ta ca xa sa da ya fa ea ga ka ia ja pa na tc cc xc sc dc yc fc ec gc kc ic jc pc nc V → Calls Tryz.prog 17 #[.slice pa lp.length pc, .agg #[.int .i64 (t).kind, .string (t).name, .slice ta (t).kids.length tc], .slice na nt.length nc] V fun e Y => (∃ za zb zd ze zf zg, e = .returned (SmV t lp cx za zb zd ze zf zg) ∧ SmD t lp cx za zb zd ze zf zg Y) ∧ Below V.heap.size V Y)
    (HC26 : ∀ V, SzS w b1 b2 b3 b4 t s vt lc ld lv lp xs ys gs nt ta ca xa sa da ya fa ea ga ka ia ja pa na tc cc xc sc dc yc fc ec gc kc ic jc pc nc V → ∀ za20, ∀ zb20, ∀ zd20, ∀ ze20, ∀ zf20, ∀ zg20, SmD t lp cx za20 zb20 zd20 ze20 zf20 zg20 V → ∀ za25, ∀ zb25, ∀ zd25, ∀ ze25, ∀ zf25, ∀ zg25, SmD t lp cx za25 zb25 zd25 ze25 zf25 zg25 V → Calls Tryz.prog 10 #[SmV t lp cx za20 zb20 zd20 ze20 zf20 zg20, SmV t lp cx za25 zb25 zd25 ze25 zf25 zg25] V fun e Y => e = .returned (.bool true) ∧ Below V.heap.size V Y)
    (HC31 : ∀ V, SzS w b1 b2 b3 b4 t s vt lc ld lv lp xs ys gs nt ta ca xa sa da ya fa ea ga ka ia ja pa na tc cc xc sc dc yc fc ec gc kc ic jc pc nc V → Calls Tryz.prog 10 #[SmV vt lv gs fa ea ga fc ec gc, SmV vt lv gs ka ia ja kc ic jc] V fun e Y => e = .returned (.bool true) ∧ Below V.heap.size V Y)
    (HC40 : ∀ V, SzS w b1 b2 b3 b4 t s vt lc ld lv lp xs ys gs nt ta ca xa sa da ya fa ea ga ka ia ja pa na tc cc xc sc dc yc fc ec gc kc ic jc pc nc V → Calls Tryz.prog 19 #[.slice pa lp.length pc] V fun e Y => (∃ ra rc, e = .returned (.slice ra lq.length rc) ∧ PrsAt Y (.slice ra lq.length rc) lq) ∧ Below V.heap.size V Y)
    (HC42 : ∀ V, SzS w b1 b2 b3 b4 t s vt lc ld lv lp xs ys gs nt ta ca xa sa da ya fa ea ga ka ia ja pa na tc cc xc sc dc yc fc ec gc kc ic jc pc nc V → Calls Tryz.prog 20 #[.slice pa lp.length pc] V fun e Y => (∃ ra rc, e = .returned (.slice ra lq.length rc) ∧ PrsAt Y (.slice ra lq.length rc) lq) ∧ Below V.heap.size V Y)
    (HC43 : ∀ V, SzS w b1 b2 b3 b4 t s vt lc ld lv lp xs ys gs nt ta ca xa sa da ya fa ea ga ka ia ja pa na tc cc xc sc dc yc fc ec gc kc ic jc pc nc V → ∀ ra40, ∀ rc40, PrsAt V (.slice ra40 lq.length rc40) lq → ∀ ra42, ∀ rc42, PrsAt V (.slice ra42 lq.length rc42) lq → Calls Tryz.prog 18 #[.slice ra40 lq.length rc40, .slice ra42 lq.length rc42] V fun e Y => e = .returned (.bool true) ∧ Below V.heap.size V Y)
    (HC47 : ∀ V, SzS w b1 b2 b3 b4 t s vt lc ld lv lp xs ys gs nt ta ca xa sa da ya fa ea ga ka ia ja pa na tc cc xc sc dc yc fc ec gc kc ic jc pc nc V → Calls Tryz.prog 21 #[.int .i64 zn] V fun e Y => e = .returned (.string nm) ∧ Below V.heap.size V Y)
    (HC49 : ∀ V, SzS w b1 b2 b3 b4 t s vt lc ld lv lp xs ys gs nt ta ca xa sa da ya fa ea ga ka ia ja pa na tc cc xc sc dc yc fc ec gc kc ic jc pc nc V → Calls Tryz.prog 22 #[.int .i64 zn] V fun e Y => e = .returned (.string nm) ∧ Below V.heap.size V Y)
    (HC55 : ∀ V, SzS w b1 b2 b3 b4 t s vt lc ld lv lp xs ys gs nt ta ca xa sa da ya fa ea ga ka ia ja pa na tc cc xc sc dc yc fc ec gc kc ic jc pc nc V → Calls Tryz.prog 23 #[SmV t lc xs ta ca xa tc cc xc, SmV s ld ys sa da ya sc dc yc] V fun e Y => e = .returned (.bool rs) ∧ Below V.heap.size V Y)
    (HC62 : ∀ V, SzS w b1 b2 b3 b4 t s vt lc ld lv lp xs ys gs nt ta ca xa sa da ya fa ea ga ka ia ja pa na tc cc xc sc dc yc fc ec gc kc ic jc pc nc V → Calls Tryz.prog 23 #[SmV t lc xs ta ca xa tc cc xc, SmV t lc xs ta ca xa tc cc xc] V fun e Y => e = .returned (.bool true) ∧ Below V.heap.size V Y)
    {Q : Exit → Act → World → Prop} {ops : Array Oper} {a : Act} (X : World) (hops : ops = nzlOps)
    (h1 : a.tmps.getD 1 undef = .int .i64 zn) (h3 : a.tmps.getD 3 undef = .slice na nt.length nc) (h9 : a.tmps.getD 9 undef = .bool true) (h11 : a.tmps.getD 11 undef = .pointer (some ⟨b1, 0, none⟩)) (h12 : a.tmps.getD 12 undef = .pointer (some ⟨b2, 0, none⟩)) (h13 : a.tmps.getD 13 undef = .slice pa lp.length pc) (h14 : a.tmps.getD 14 undef = .pointer (some ⟨b3, 0, none⟩)) (h15 : a.tmps.getD 15 undef = .int .i64 nx) (h16 : a.tmps.getD 16 undef = .pointer (some ⟨b4, 0, none⟩)) (h17 : a.tmps.getD 17 undef = .int .i64 nx) (h18 : a.tmps.getD 18 undef = .bool rs)
    (ha : a = nzlFr (fun j => a.tmps.getD j undef) a.defers (fun i => a.tmps.getD (if i = 64 then 8 else 66 + i) undef)) (hS : SzS w b1 b2 b3 b4 t s vt lc ld lv lp xs ys gs nt ta ca xa sa da ya fa ea ga ka ia ja pa na tc cc xc sc dc yc fc ec gc kc ic jc pc nc X.drew)
    (hfin : ∀ x V, SzS w b1 b2 b3 b4 t s vt lc ld lv lp xs ys gs nt ta ca xa sa da ya fa ea ga ka ia ja pa na tc cc xc sc dc yc fc ec gc kc ic jc pc nc V → x 64 = .bool true → Q .normal (nzlFr (fun j => a.tmps.getD j undef) a.defers x) V) : (Code.region 17 ops true).wp Tryz.prog Q a X :=
  cast (congrArg (fun z => (Code.region 17 ops true).wp Tryz.prog Q z X) ha.symm) (nzl_region (b := fun j => a.tmps.getD j undef) (d := a.defers) h1 h3 h9 h11 h12 h13 h14 h15 h16 h17 h18 HC3 HC5 HC6 HC10 HC12 HC13 HC20 HC25 HC26 HC31 HC40 HC42 HC43 HC47 HC49 HC55 HC62 hops _ X hS hfin)
end Go.Proofs.YtdidgddcgjpokaaGreatDoor
/- SchemeSays: its last statement, a region of 6 operations that draws its order, by an invariant. (Made by a program.) -/
namespace Go.Proofs.YtdidgddcgjpokaaGreatDoor
open Go.RowKit Go.Sort Go.Lib
attribute [local go_sem] Oper.semAt_some

noncomputable def nzkOps : Array Oper := regionIn 16 (Tryz.f3.body.getD .skip)
def nzkFr (b : Nat → Value) (d : List Deferred) (x : Nat → Value) : Act := { tmps := #[b 0, b 1, b 2, b 3, b 4, b 5, b 6, b 7, b 8, b 9, b 10, b 11, b 12, b 13, b 14, b 15, b 16, b 17, x 5, b 19, b 20, b 21, b 22, b 23, b 24, b 25, b 26, b 27, b 28, b 29, b 30, b 31, b 32, b 33, b 34, b 35, b 36, b 37, b 38, b 39, b 40, b 41, b 42, b 43, b 44, b 45, b 46, b 47, b 48, b 49, b 50, b 51, b 52, b 53, b 54, b 55, b 56, b 57, b 58, b 59, b 60, x 0, x 1, x 2, x 3, x 4, b 66, b 67, b 68, b 69, b 70, b 71, b 72, b 73, b 74, b 75, b 76, b 77, b 78, b 79, b 80, b 81, b 82, b 83, b 84, b 85, b 86, b 87, b 88, b 89, b 90, b 91, b 92, b 93, b 94, b 95, b 96, b 97, b 98, b 99, b 100, b 101, b 102, b 103, b 104, b 105, b 106, b 107, b 108, b 109, b 110, b 111, b 112, b 113, b 114, b 115, b 116, b 117, b 118, b 119, b 120, b 121, b 122, b 123, b 124, b 125, b 126, b 127, b 128, b 129], defers := d }

def nzkVals (t s u u2 : T) (lc ld l2 m2 : List Pr) (xs ys zl yl : List ByteArray) (ta ca xa sa da ya : Option Addr) (tc cc xc sc dc yc : Nat) (rs : Bool) (i : Nat) (v : Value) (V : World) : Prop :=
  match i with
  | 0 => v = SmV t lc xs ta ca xa tc cc xc
  | 1 => ∃ za zb zd ze zf zg, v = SmV u l2 zl za zb zd ze zf zg ∧ SmD u l2 zl za zb zd ze zf zg V
  | 2 => v = SmV s ld ys sa da ya sc dc yc
  | 3 => ∃ za zb zd ze zf zg, v = SmV u2 m2 yl za zb zd ze zf zg ∧ SmD u2 m2 yl za zb zd ze zf zg V
  | 4 => v = .bool rs
  | 5 => v = .bool rs
  | _ => True

theorem nzkVals_keep {t s u u2 : T} {lc ld l2 m2 : List Pr} {xs ys zl yl : List ByteArray} {ta ca xa sa da ya : Option Addr} {tc cc xc sc dc yc : Nat} {rs : Bool} (i : Nat) (v : Value) (V Y : World) (h : nzkVals t s u u2 lc ld l2 m2 xs ys zl yl ta ca xa sa da ya tc cc xc sc dc yc rs i v V) (hb : Below V.heap.size V Y) : nzkVals t s u u2 lc ld l2 m2 xs ys zl yl ta ca xa sa da ya tc cc xc sc dc yc rs i v Y := by
  unfold nzkVals at *
  split at h <;> first
    | exact h
    | (obtain ⟨za, zb, zd, ze, zf, zg, e, h⟩ := h; exact ⟨za, zb, zd, ze, zf, zg, e, h.keepO (KeepO.of_below hb)⟩)

theorem nzk_size : nzkOps.size = 6 := by kernel_rfl
set_option linter.unusedSimpArgs false in
set_option maxRecDepth 100000 in
set_option maxHeartbeats 8000000 in
theorem nzk_region {w : World} {b1 b2 b3 b4 : Nat} {t s vt u u2 : T} {lc ld lv lp l2 m2 : List Pr} {xs ys gs nt zl yl : List ByteArray} {ta ca xa sa da ya fa ea ga ka ia ja pa na : Option Addr} {tc cc xc sc dc yc fc ec gc kc ic jc pc nc : Nat} {rs : Bool} {b : Nat → Value} {d : List Deferred}
    (h11 : b 11 = .pointer (some ⟨b1, 0, none⟩)) (h12 : b 12 = .pointer (some ⟨b2, 0, none⟩))
    (HC1 : ∀ V, SzS w b1 b2 b3 b4 t s vt lc ld lv lp xs ys gs nt ta ca xa sa da ya fa ea ga ka ia ja pa na tc cc xc sc dc yc fc ec gc kc ic jc pc nc V → Calls Tryz.prog 11 #[SmV t lc xs ta ca xa tc cc xc] V fun e Y => (∃ za zb zd ze zf zg, e = .returned (SmV u l2 zl za zb zd ze zf zg) ∧ SmD u l2 zl za zb zd ze zf zg Y) ∧ Below V.heap.size V Y)
    (HC3 : ∀ V, SzS w b1 b2 b3 b4 t s vt lc ld lv lp xs ys gs nt ta ca xa sa da ya fa ea ga ka ia ja pa na tc cc xc sc dc yc fc ec gc kc ic jc pc nc V → Calls Tryz.prog 11 #[SmV s ld ys sa da ya sc dc yc] V fun e Y => (∃ za zb zd ze zf zg, e = .returned (SmV u2 m2 yl za zb zd ze zf zg) ∧ SmD u2 m2 yl za zb zd ze zf zg Y) ∧ Below V.heap.size V Y)
    (HC4 : ∀ V, SzS w b1 b2 b3 b4 t s vt lc ld lv lp xs ys gs nt ta ca xa sa da ya fa ea ga ka ia ja pa na tc cc xc sc dc yc fc ec gc kc ic jc pc nc V → ∀ za1, ∀ zb1, ∀ zd1, ∀ ze1, ∀ zf1, ∀ zg1, SmD u l2 zl za1 zb1 zd1 ze1 zf1 zg1 V → ∀ za3, ∀ zb3, ∀ zd3, ∀ ze3, ∀ zf3, ∀ zg3, SmD u2 m2 yl za3 zb3 zd3 ze3 zf3 zg3 V → Calls Tryz.prog 10 #[SmV u l2 zl za1 zb1 zd1 ze1 zf1 zg1, SmV u2 m2 yl za3 zb3 zd3 ze3 zf3 zg3] V fun e Y => e = .returned (.bool rs) ∧ Below V.heap.size V Y)
    {Q : Exit → Act → World → Prop} {ops : Array Oper} (hops : ops = nzkOps) (x0 : Nat → Value) (X : World) (hS : SzS w b1 b2 b3 b4 t s vt lc ld lv lp xs ys gs nt ta ca xa sa da ya fa ea ga ka ia ja pa na tc cc xc sc dc yc fc ec gc kc ic jc pc nc X.drew)
    (hfin : ∀ x V, SzS w b1 b2 b3 b4 t s vt lc ld lv lp xs ys gs nt ta ca xa sa da ya fa ea ga ka ia ja pa na tc cc xc sc dc yc fc ec gc kc ic jc pc nc V → x 5 = .bool rs → Q .normal (nzkFr b d x) V) : (Code.region 16 ops true).wp Tryz.prog Q (nzkFr b d x0) X := by
  have HC := Lib.hid (And.intro HC1 (And.intro HC3 HC4))
  clear HC1 HC3 HC4
  refine region_inv (nzkFr b d) (fun V => SzS w b1 b2 b3 b4 t s vt lc ld lv lp xs ys gs nt ta ca xa sa da ya fa ea ga ka ia ja pa na tc cc xc sc dc yc fc ec gc kc ic jc pc nc V) (fun V Y => Below V.heap.size V Y) (nzkVals t s u u2 lc ld l2 m2 xs ys zl yl ta ca xa sa da ya tc cc xc sc dc yc rs) x0 (by kernel_rfl) rfl hS (fun V Y h hb => h.below hb) (fun i v V Y _ h hb => nzkVals_keep i v V Y h hb) ?_ (fun x V hV h => hfin x V hV (h 5 (by rw [hops, nzk_size]; decide)))
  clear hfin hS
  obtain ⟨f, hf⟩ : ∃ qq, StepAt Tryz.prog (nzkFr b d) (fun V => SzS w b1 b2 b3 b4 t s vt lc ld lv lp xs ys gs nt ta ca xa sa da ya fa ea ga ka ia ja pa na tc cc xc sc dc yc fc ec gc kc ic jc pc nc V) (fun V Y => Below V.heap.size V Y) (nzkVals t s u u2 lc ld l2 m2 xs ys zl yl ta ca xa sa da ya tc cc xc sc dc yc rs) ops Q = qq := ⟨_, rfl⟩
  rw [hf, hops]
  simp only [nzkOps, Tryz.f3, regionIn, Option.getD_some, Nat.reduceBEq, Bool.false_eq_true, if_false, if_true, beq_self_eq_true, Array.append_empty, Array.empty_append, List.append_eq, List.cons_append, List.nil_append, AllAt, Nat.reduceAdd, Nat.zero_add]
  -- 0: slot 61 := Op.load 33 t11
  refine And.intro ?_ ?_
  · rw [← hf]; clear hf
    refine ⟨by decide +kernel, fun x v => by kernel_rfl, fun x V hV hdep K hK => ?_⟩
    clear hdep
    refine run_bare (by kernel_rfl) ?_
    unfold nzkFr
    obtain ⟨c10, c11, c12, c13, c14⟩ := cells5 hV.s1.1; obtain ⟨c20, c21, c22, c23, c24⟩ := cells5 hV.s2.1
    go_simp
    refine kfit (hK _ _ (Below.refl _ V) rfl) ?_
    first | (simp only [nzkFr, Act.put, List.setIfInBounds_toArray, List.set_cons_zero, List.set_cons_succ, SmV, h11, h12]; done) | (simp only [nzkFr, Act.put, List.setIfInBounds_toArray, List.set_cons_zero, List.set_cons_succ, SmV, h11, h12]; rfl)
  -- 1: slot 62 := Op.call { value (Operand.func 11), args := #[t61], argTypes 
  refine And.intro ?_ ?_
  · rw [← hf]; clear hf
    refine ⟨by decide +kernel, fun x v => by kernel_rfl, fun x V hV hdep K hK => ?_⟩
    have e0 : x 0 = SmV t lc xs ta ca xa tc cc xc := depOf hdep 0 (by decide +kernel)
    clear hdep
    refine run_bare (by kernel_rfl) ?_
    unfold nzkFr
    try simp only [SmV] at e0
    obtain ⟨HC1, HC3, HC4⟩ := HC.out
    clear HC3 HC4
    have H := HC1 V hV
    try simp only [SmV] at H
    replace H := Lib.hid H; clear HC1
    go_simp
    go_at_call 11
    refine H.out.mono ?_
    rintro e Y ⟨⟨za, zb, zd, ze, zf, zg, rfl, hq⟩, hb⟩; refine kfit (hK _ _ hb ⟨za, zb, zd, ze, zf, zg, rfl, hq⟩) ?_
    first | (simp only [nzkFr, Act.put, List.setIfInBounds_toArray, List.set_cons_zero, List.set_cons_succ, SmV, h11, h12, e0]; done) | (simp only [nzkFr, Act.put, List.setIfInBounds_toArray, List.set_cons_zero, List.set_cons_succ, SmV, h11, h12, e0]; rfl)
  -- 2: slot 63 := Op.load 33 t12
  refine And.intro ?_ ?_
  · rw [← hf]; clear hf
    refine ⟨by decide +kernel, fun x v => by kernel_rfl, fun x V hV hdep K hK => ?_⟩
    clear hdep
    refine run_bare (by kernel_rfl) ?_
    unfold nzkFr
    obtain ⟨c10, c11, c12, c13, c14⟩ := cells5 hV.s1.1; obtain ⟨c20, c21, c22, c23, c24⟩ := cells5 hV.s2.1
    go_simp
    refine kfit (hK _ _ (Below.refl _ V) rfl) ?_
    first | (simp only [nzkFr, Act.put, List.setIfInBounds_toArray, List.set_cons_zero, List.set_cons_succ, SmV, h11, h12]; done) | (simp only [nzkFr, Act.put, List.setIfInBounds_toArray, List.set_cons_zero, List.set_cons_succ, SmV, h11, h12]; rfl)
  -- 3: slot 64 := Op.call { value (Operand.func 11), args := #[t63], argTypes 
  refine And.intro ?_ ?_
  · rw [← hf]; clear hf
    refine ⟨by decide +kernel, fun x v => by kernel_rfl, fun x V hV hdep K hK => ?_⟩
    have e2 : x 2 = SmV s ld ys sa da ya sc dc yc := depOf hdep 2 (by decide +kernel)
    clear hdep
    refine run_bare (by kernel_rfl) ?_
    unfold nzkFr
    try simp only [SmV] at e2
    obtain ⟨HC1, HC3, HC4⟩ := HC.out
    clear HC1 HC4
    have H := HC3 V hV
    try simp only [SmV] at H
    replace H := Lib.hid H; clear HC3
    go_simp
    go_at_call 11
    refine H.out.mono ?_
    rintro e Y ⟨⟨za, zb, zd, ze, zf, zg, rfl, hq⟩, hb⟩; refine kfit (hK _ _ hb ⟨za, zb, zd, ze, zf, zg, rfl, hq⟩) ?_
    first | (simp only [nzkFr, Act.put, List.setIfInBounds_toArray, List.set_cons_zero, List.set_cons_succ, SmV, h11, h12, e2]; done) | (simp only [nzkFr, Act.put, List.setIfInBounds_toArray, List.set_cons_zero, List.set_cons_succ, SmV, h11, h12, e2]; rfl)
  -- 4: slot 65 := Op.call { value (Operand.func 10), args := #[t62, t64], argT
  refine And.intro ?_ ?_
  · rw [← hf]; clear hf
    refine ⟨by decide +kernel, fun x v => by kernel_rfl, fun x V hV hdep K hK => ?_⟩
    obtain ⟨za1, zb1, zd1, ze1, zf1, zg1, e1, d1⟩ : ∃ za1 zb1 zd1 ze1 zf1 zg1, x 1 = SmV u l2 zl za1 zb1 zd1 ze1 zf1 zg1 ∧ SmD u l2 zl za1 zb1 zd1 ze1 zf1 zg1 V := depOf hdep 1 (by decide +kernel)
    obtain ⟨za3, zb3, zd3, ze3, zf3, zg3, e3, d3⟩ : ∃ za3 zb3 zd3 ze3 zf3 zg3, x 3 = SmV u2 m2 yl za3 zb3 zd3 ze3 zf3 zg3 ∧ SmD u2 m2 yl za3 zb3 zd3 ze3 zf3 zg3 V := depOf hdep 3 (by decide +kernel)
    clear hdep
    refine run_bare (by kernel_rfl) ?_
    unfold nzkFr
    try simp only [SmV] at e1
    try simp only [SmV] at e3
    obtain ⟨HC1, HC3, HC4⟩ := HC.out
    clear HC1 HC3
    have H := HC4 V hV _ _ _ _ _ _ d1 _ _ _ _ _ _ d3
    try simp only [SmV] at H
    replace H := Lib.hid H; clear HC4
    go_simp
    go_at_call 10
    refine H.out.mono ?_
    rintro e Y ⟨rfl, hb⟩; refine kfit (hK _ _ hb rfl) ?_
    first | (simp only [nzkFr, Act.put, List.setIfInBounds_toArray, List.set_cons_zero, List.set_cons_succ, SmV, h11, h12, e1, e3]; done) | (simp only [nzkFr, Act.put, List.setIfInBounds_toArray, List.set_cons_zero, List.set_cons_succ, SmV, h11, h12, e1, e3]; rfl)
  -- 5: slot 18 := Op.assign t65
  refine And.intro ?_ ?_
  · rw [← hf]; clear hf
    refine ⟨by decide +kernel, fun x v => by kernel_rfl, fun x V hV hdep K hK => ?_⟩
    have e4 : x 4 = .bool rs := depOf hdep 4 (by decide +kernel)
    clear hdep
    refine run_bare (by kernel_rfl) ?_
    unfold nzkFr
    go_simp
    refine kfit (hK _ _ (Below.refl _ V) rfl) ?_
    first | (simp only [nzkFr, Act.put, List.setIfInBounds_toArray, List.set_cons_zero, List.set_cons_succ, SmV, h11, h12, e4]; done) | (simp only [nzkFr, Act.put, List.setIfInBounds_toArray, List.set_cons_zero, List.set_cons_succ, SmV, h11, h12, e4]; rfl)
  exact trivial
theorem nzk_here {w : World} {b1 b2 b3 b4 : Nat} {t s vt u u2 : T} {lc ld lv lp l2 m2 : List Pr} {xs ys gs nt zl yl : List ByteArray} {ta ca xa sa da ya fa ea ga ka ia ja pa na : Option Addr} {tc cc xc sc dc yc fc ec gc kc ic jc pc nc : Nat} {rs : Bool}
    (HC1 : ∀ V, SzS w b1 b2 b3 b4 t s vt lc ld lv lp xs ys gs nt ta ca xa sa da ya fa ea ga ka ia ja pa na tc cc xc sc dc yc fc ec gc kc ic jc pc nc V → Calls Tryz.prog 11 #[SmV t lc xs ta ca xa tc cc xc] V fun e Y => (∃ za zb zd ze zf zg, e = .returned (SmV u l2 zl za zb zd ze zf zg) ∧ SmD u l2 zl za zb zd ze zf zg Y) ∧ Below V.heap.size V Y)
    (HC3 : ∀ V, SzS w b1 b2 b3 b4 t s vt lc ld lv lp xs ys gs nt ta ca xa sa da ya fa ea ga ka ia ja pa na tc cc xc sc dc yc fc ec gc kc ic jc pc nc V → Calls Tryz.prog 11 #[SmV s ld ys sa da ya sc dc yc] V fun e Y => (∃ za zb zd ze zf zg, e = .returned (SmV u2 m2 yl za zb zd ze zf zg) ∧ SmD u2 m2 yl za zb zd ze zf zg Y) ∧ Below V.heap.size V Y)
    (HC4 : ∀ V, SzS w b1 b2 b3 b4 t s vt lc ld lv lp xs ys gs nt ta ca xa sa da ya fa ea ga ka ia ja pa na tc cc xc sc dc yc fc ec gc kc ic jc pc nc V → ∀ za1, ∀ zb1, ∀ zd1, ∀ ze1, ∀ zf1, ∀ zg1, SmD u l2 zl za1 zb1 zd1 ze1 zf1 zg1 V → ∀ za3, ∀ zb3, ∀ zd3, ∀ ze3, ∀ zf3, ∀ zg3, SmD u2 m2 yl za3 zb3 zd3 ze3 zf3 zg3 V → Calls Tryz.prog 10 #[SmV u l2 zl za1 zb1 zd1 ze1 zf1 zg1, SmV u2 m2 yl za3 zb3 zd3 ze3 zf3 zg3] V fun e Y => e = .returned (.bool rs) ∧ Below V.heap.size V Y)
    {Q : Exit → Act → World → Prop} {ops : Array Oper} {a : Act} (X : World) (hops : ops = nzkOps)
    (h11 : a.tmps.getD 11 undef = .pointer (some ⟨b1, 0, none⟩)) (h12 : a.tmps.getD 12 undef = .pointer (some ⟨b2, 0, none⟩))
    (ha : a = nzkFr (fun j => a.tmps.getD j undef) a.defers (fun i => a.tmps.getD (if i = 5 then 18 else 61 + i) undef)) (hS : SzS w b1 b2 b3 b4 t s vt lc ld lv lp xs ys gs nt ta ca xa sa da ya fa ea ga ka ia ja pa na tc cc xc sc dc yc fc ec gc kc ic jc pc nc X.drew)
    (hfin : ∀ x V, SzS w b1 b2 b3 b4 t s vt lc ld lv lp xs ys gs nt ta ca xa sa da ya fa ea ga ka ia ja pa na tc cc xc sc dc yc fc ec gc kc ic jc pc nc V → x 5 = .bool rs → Q .normal (nzkFr (fun j => a.tmps.getD j undef) a.defers x) V) : (Code.region 16 ops true).wp Tryz.prog Q a X :=
  cast (congrArg (fun z => (Code.region 16 ops true).wp Tryz.prog Q z X) ha.symm) (nzk_region (b := fun j => a.tmps.getD j undef) (d := a.defers) h11 h12 HC1 HC3 HC4 hops _ X hS hfin)
end Go.Proofs.YtdidgddcgjpokaaGreatDoor
/- SchemeSays, walked. -/
namespace Go.Proofs.YtdidgddcgjpokaaGreatDoor
open Go.RowKit Go.Sort Go.Lib
attribute [local go_sem] Oper.semAt_some

theorem smD_mk {t : T} {lc : List Pr} {xs : List ByteArray} {ta ca xa : Option Addr} {tc cc xc : Nat} {V Y : World} {B p : Nat} {a : Option Addr} {n c k : Nat} (h : SmD t lc xs ta ca xa tc cc xc V) (hf : MkFr B p V Y) (hs : SeqAt B p a n c k V) : SmD t lc xs ta ca xa tc cc xc Y :=
  ⟨h.1.keep fun k cs fz hk => hf.2 k _ hk fun e => by subst e; have := hk.symm.trans hs.1.2; simp at this, h.2.1.keep (KeepT.of_mk hf hs) (keepPz_mk hf hs), h.2.2.keep (KeepT.of_mk hf hs)⟩
theorem nzB_mk {b : Nat} {t : T} {lc : List Pr} {xs : List ByteArray} {ta ca xa : Option Addr} {tc cc xc : Nat} {V Y : World} {B p : Nat} {a : Option Addr} {n c k : Nat} (h : NzB b t lc xs ta ca xa tc cc xc V) (hf : MkFr B p V Y) (hs : SeqAt B p a n c k V) (hb : b ≠ p) : NzB b t lc xs ta ca xa tc cc xc Y := ⟨hf.2 _ _ h.1 hb, smD_mk h.2 hf hs⟩
theorem sok_made {t : T} {lc : List Pr} (hlc : lc.length ≤ 3 ∧ ∀ q ∈ lc, (T.Good q.2 ∧ Fits q.2 ∧ (T.text q.2).length + 10 ≤ 14)) (hgt : T.Good t ∧ Fits t ∧ (T.text t).length + 10 ≤ 112) : SOK V3 t lc :=
  ⟨vok3Z, by have := hlc.1; omega, fun u hu => by
    rcases List.mem_cons.1 hu with rfl | hu
    · exact tok_goodZ hgt.1 (by have := size_text u hgt.1; have := hgt.2.2; omega)
    · obtain ⟨q, hq', rfl⟩ := List.mem_map.1 hu
      have h1 := hlc.2 q hq'
      exact tok_goodZ h1.1 (by have := size_text q.2 h1.1; have := h1.2.2; omega)⟩
theorem sok_preds {t : T} {lc lp : List Pr} (hok : SOK V3 t lc) (h5 : lp.length ≤ 5) (h : ∀ q ∈ lp, (T.Good q.2 ∧ Fits q.2 ∧ (T.text q.2).length + 10 ≤ 56)) : SOK V3 t lp :=
  ⟨vok3Z, by omega, fun u hu => by
    rcases List.mem_cons.1 hu with rfl | hu
    · exact hok.2.2 _ (List.mem_cons_self ..)
    · obtain ⟨q, hq', rfl⟩ := List.mem_map.1 hu
      have h1 := h q hq'
      exact tok_goodZ h1.1 (by have := size_text q.2 h1.1; have := h1.2.2; omega)⟩
theorem fresh_names (z n : Nat) : ∃ G : List ByteArray, G.length = n ∧ ∀ j (hj : j < G.length), G[j] = qn (z + j) := ⟨(List.range n).map fun j => qn (z + j), by simp, fun j hj => by simp⟩
theorem fresh_sizes {t : T} {lc : List Pr} {xs G : List ByteArray} (hl : G.length = xs.length) (h : tsize t ≤ 200 ∧ ∀ q ∈ lc, tsize q.2 ≤ 200) (h3 : lc.length ≤ 3) : tsize (app (prs xs G) t) ≤ 200 ∧ (∀ q ∈ appP (prs xs G) lc, tsize q.2 ≤ 200) ∧ (appP (prs xs G) lc).length ≤ 3 := by
  have hs : ∀ u, tsize (app (prs xs G) u) = tsize u := fun u => by
    rw [app_sub]
    refine size_subV u fun y _ => ?_
    by_cases hy : y ∈ xs
    · obtain ⟨z, _, e⟩ := ty_prs_in xs G y hl.symm hy; exact ⟨z, e⟩
    · exact ⟨y, ty_prs_out xs G y hy⟩
  refine ⟨by rw [hs]; exact h.1, fun q hq => ?_, by simpa [appP] using h3⟩
  obtain ⟨q0, h0, rfl⟩ := List.mem_map.1 hq
  show tsize (app (prs xs G) q0.2) ≤ 200
  rw [hs]; exact h.2 q0 h0
theorem nzB_fresh {xs G : List ByteArray} {v : T} {lc : List Pr} {d : List PR} {ga pa za : Option Addr} {gc pc zc : Nat} {W : World} (hl : G.length = xs.length) (h1 : TextsAt W (.slice ga xs.length gc) G) (h2 : PrsAt W (.slice pa lc.length pc) (appP d lc)) (h3 : TysAt W (.slice za v.kids.length zc) v.kids) :
    NzB W.heap.size v (appP d lc) G za pa ga zc pc gc (W.alloc (.cells #[.slice ga xs.length gc, .slice pa lc.length pc, .int .i64 v.kind, .string v.name, .slice za v.kids.length zc] 33)) := by
  have e : (appP d lc).length = lc.length := by simp [appP]
  have := NzB.new (V := W) (t := v) (lc := appP d lc) (xs := G) (ta := za) (ca := pa) (xa := ga) (tc := zc) (cc := pc) (xc := gc) ⟨by rw [hl]; exact h1, by rw [e]; exact h2, h3⟩
  rw [hl, e] at this
  exact this
set_option maxRecDepth 100000 in
set_option maxHeartbeats 16000000 in
theorem ssays_law (a1 : Option Addr) (n1 c1 : Nat) (z1 z2 : Int) (a3 : Option Addr) (c3 : Nat) (nt : List ByteArray) (w : World) (hl1 : IntsAt w.heap.size a1 n1 w) (hz2 : -9223372036854775808 ≤ z2 ∧ z2 ≤ 9223372036854775807) (hN : StrsP (.slice a3 nt.length c3) nt w) (hns : ∀ n ∈ nt, n.size ≤ maxLen) (hT : Tab w) :
    Calls Tryz.prog 3 #[.slice a1 n1 c1, .int .i64 z1, .int .i64 z2, .slice a3 nt.length c3] w fun e w' => e = .returned (.bool true) ∧ Below w.heap.size w w' := by
  have HL1 := Lib.hid hl1
  have HTab := Lib.hid hT
  have HN := Lib.hid hN
  have HNs := Lib.hid hns
  clear hl1 hT hN hns
  by_cases hb1 : n1 ≤ 200
  · have hn1 : n1 < 1152921504606846976 := by omega
    have hb1I : ¬ ((200 : Int) < (n1 : Int)) := by omega
    by_cases hb2 : nt.length ≤ 5
    · have hb2I : ¬ ((5 : Int) < (nt.length : Int)) := by omega
      have key : (z2 < 0 ∧ ∃ zf : Nat, zf < 100000 ∧ (-(z2 + 1).tmod 100000) = (zf : Int)) ∨ (¬ z2 < 0 ∧ ∃ zf : Nat, zf < 100000 ∧ z2 % 100000 = (zf : Int)) := by
        by_cases h : z2 < 0
        · left
          refine ⟨h, (-(z2 + 1).tmod 100000).toNat, ?_⟩
          have h1 := Int.tmod_nonneg 100000 (show 0 ≤ -(z2 + 1) by omega)
          have h2 := Int.tmod_lt_of_pos (-(z2 + 1)) (show (0 : Int) < 100000 by decide)
          rw [Int.neg_tmod] at h1 h2
          constructor <;> omega
        · right
          exact ⟨h, (z2 % 100000).toNat, by omega, by omega⟩
      rcases key with ⟨hz0, zf, hzf, hzE⟩ | ⟨hz0, zf, hzf, hzE⟩
      · have HzE := Lib.hid hzE
        clear hzE
        go_enter Tryz.func3, Tryz.ntmps3
        go_wp2_with (go_at_call 5; fail)
        refine (first8_any _).mono ?_
        rintro e w' ⟨rfl, rfl⟩
        go_wp2_with (go_at_call 6; fail)
        refine (make_schemeZ w.heap.size w.heap.size a1 n1 c1 0 _ (seq_new (Below.refl _ _) HL1.out) (by decide) hn1).mono ?_
        rintro e W1 ⟨⟨xs, lc, t, xa, ca, ta, xc, cc, tc, rfl, ⟨hxs, hlc, hgt⟩, hD⟩, ⟨k1, hk1, hs1⟩, hf1⟩
        have HB1 := Lib.hid (((Below.refl w.heap.size w).alloc (Nat.le_refl _) _).trans hf1.1)
        have HXs := Lib.hid hxs
        have HD1 := Lib.hid (NzB.new hD)
        have HS1 := Lib.hid (hs1.below (below_a W1 (.cells #[.slice xa xs.length xc, .slice ca lc.length cc, .int .i64 t.kind, .string t.name, .slice ta t.kids.length tc] 33)))
        have HOk := Lib.hid (sok_made hlc hgt)
        have hlc3 := hlc.1
        have hW1 : w.heap.size < W1.heap.size := hs1.lt
        clear hf1 hs1 hD hxs hlc hgt HL1
        go_wp2_with (go_at_call 6; fail)
        refine (make_schemeZ w.heap.size w.heap.size a1 n1 c1 k1 _ HS1.out (by omega) hn1).mono ?_
        rintro e W2 ⟨⟨ys, ld, s, ya, da, sa, yc, dc, sc, rfl, ⟨hys, hld, hgs⟩, hE⟩, ⟨k2, hk2, hs2⟩, hf2⟩
        have HD2 := Lib.hid (nzB_mk HD1.out hf2 HS1.out (by omega))
        have HE2 := Lib.hid (NzB.new hE)
        have HB2 := Lib.hid ((HB1.out.alloc HB1.out.size _).trans hf2.1)
        have HYs := Lib.hid hys
        have HS2 := Lib.hid (hs2.below (below_a W2 (.cells #[.slice ya ys.length yc, .slice da ld.length dc, .int .i64 s.kind, .string s.name, .slice sa s.kids.length sc] 33)))
        have HOk2 := Lib.hid (sok_made hld hgs)
        have hld3 := hld.1
        have hW2 : w.heap.size < W2.heap.size := hs2.lt
        clear hf2 hs2 hE hys hld hgs HB1 HD1 HS1
        go_wp2_with (go_at_call 7; fail)
        refine (make_predsG 5 2 8 56 (by decide) (by decide) w.heap.size w.heap.size a1 n1 c1 k2 _ HS2.out (by omega) (fun k W hs hk => make_n2 w.heap.size w.heap.size a1 n1 c1 k W hs (by omega) hn1) hn1).mono ?_
        rintro e W3 ⟨⟨lp, v, rfl, ⟨hlp5, hlp⟩, hp⟩, _, hf3⟩
        obtain ⟨pa, pc, rfl⟩ := hp.shape
        have HD3 := Lib.hid (nzB_mk (HD2.out.below (below_a W2 _)) hf3 HS2.out (by omega))
        have HE3 := Lib.hid (nzB_mk HE2.out hf3 HS2.out (by omega))
        have HB3 := Lib.hid ((HB2.out.alloc HB2.out.size _).trans hf3.1)
        have HP3 := Lib.hid hp
        have HTa3 := Lib.hid (HTab.out.below HB3.out)
        have HN3 := Lib.hid (HN.out.below HB3.out)
        have HLp := Lib.hid hlp
        obtain ⟨b1, hb1e⟩ : ∃ b, W1.heap.size = b := ⟨_, rfl⟩
        obtain ⟨b2, hb2e⟩ : ∃ b, W2.heap.size = b := ⟨_, rfl⟩
        rw [hb1e] at HD3
        rw [hb2e] at HE3
        rw [hb1e, hb2e]
        obtain ⟨c0, c1', c2, c3', c4⟩ := cells5 HD3.out.1
        obtain ⟨G, hGl, hG⟩ := fresh_names zf xs.length
        have hxl := HXs.out.1
        have HSz := Lib.hid (show tsize t ≤ 200 ∧ ∀ q ∈ lc, tsize q.2 ≤ 200 from ⟨(HOk.out.2.2 t (List.mem_cons_self ..)).2.2.1, fun q hq => (HOk.out.2.2 q.2 (List.mem_cons_of_mem _ (List.mem_map.2 ⟨q, hq, rfl⟩))).2.2.1⟩)
        have HFr := Lib.hid (fresh_any t xs G zf hzf hGl hG (by omega) (by have := HSz.out.1; omega) lc (fun q hq => by have := HSz.out.2 q hq; omega) (by omega) ca ta xa cc tc xc W3 HD3.out.2.2.2 HD3.out.2.1 HD3.out.2.2.1 HTa3.out)
        have HG := Lib.hid hG
        have HGl := Lib.hid hGl
        clear hb1e hb2e hf3 hp hlp hG hGl HD2 HE2 HB2 HS2
        go_wp2_with (go_at_call 8; fail)
        rw [HzE.out]
        refine HFr.out.mono ?_
        rintro e W4 ⟨⟨ga, gc, ea, ec, fa, fc, rfl, hg4, hp4, ht4⟩, hb4⟩
        have HNw := Lib.hid (nzB_fresh HGl.out hg4 hp4 ht4)
        have HD4 := Lib.hid (HD3.out.below hb4); have HE4 := Lib.hid (HE3.out.below hb4); have HP4 := Lib.hid (HP3.out.belowG hb4); have HTa4 := Lib.hid (HTa3.out.below hb4); have HN4 := Lib.hid (HN3.out.below hb4); have HB4 := Lib.hid (HB3.out.trans (hb4.mono HB3.out.size))
        obtain ⟨vt, hvt⟩ : ∃ u, app (prs xs G) t = u := ⟨_, rfl⟩
        obtain ⟨lv, hlv⟩ : ∃ l, appP (prs xs G) lc = l := ⟨_, rfl⟩
        have HVt := Lib.hid (show tsize vt ≤ 200 ∧ (∀ q ∈ lv, tsize q.2 ≤ 200) ∧ lv.length ≤ 3 from hvt ▸ hlv ▸ fresh_sizes HGl.out HSz.out hlc3)
        rw [hvt, hlv] at HNw
        rw [hvt]
        have HVE := Lib.hid (And.intro hvt hlv)
        have hb5 := below_a W4 (.cells #[.slice ga xs.length gc, .slice ea lc.length ec, .int .i64 vt.kind, .string vt.name, .slice fa vt.kids.length fc] 33)
        have hz5 : (W4.alloc (.cells #[.slice ga xs.length gc, .slice ea lc.length ec, .int .i64 vt.kind, .string vt.name, .slice fa vt.kids.length fc] 33)).heap.size = W4.heap.size + 1 := by simp
        have HD5 := Lib.hid (HD4.out.below hb5); have HE5 := Lib.hid (HE4.out.below hb5); have HP5 := Lib.hid (HP4.out.belowG hb5); have HTa5 := Lib.hid (HTa4.out.below hb5); have HN5 := Lib.hid (HN4.out.below hb5); have HB5 := Lib.hid (HB4.out.trans (hb5.mono HB4.out.size))
        have HRf := Lib.hid (rfresh_any t xs G zf hzf HGl.out HG.out (by omega) (by have := HSz.out.1; omega) lc (fun q hq => by have := HSz.out.2 q hq; omega) (by omega) ca ta xa cc tc xc _ HD5.out.2.2.2 HD5.out.2.1 HD5.out.2.2.1)
        clear c0 c1' c2 c3' c4
        obtain ⟨c0, c1', c2, c3', c4⟩ := cells5 HD4.out.1
        have hb14 : b1 < W4.heap.size := HD4.out.lt
        clear hb4 hg4 hp4 ht4 hvt hlv hb5 HD3 HE3 HP3 HTa3 HN3 HB3 HFr HD4 HE4 HP4 HTa4 HN4 HB4
        go_wp2_with (go_at_call 9; fail)
        refine HRf.out.mono ?_
        rintro e W5 ⟨⟨ja, jc, ia, ic, ka, kc, rfl, hg5, hp5, ht5⟩, hb5⟩
        have hnr := nzB_fresh HGl.out hg5 hp5 ht5
        rw [HVE.out.1, HVE.out.2] at hnr
        rw [HVE.out.1]
        have hb6 := below_a W5 (.cells #[.slice ja xs.length jc, .slice ia lc.length ic, .int .i64 vt.kind, .string vt.name, .slice ka vt.kids.length kc] 33)
        have HS6 := Lib.hid (show SzS w b1 b2 W4.heap.size W5.heap.size t s vt lc ld lv lp xs ys G nt ta ca xa sa da ya fa ea ga ka ia ja pa a3 tc cc xc sc dc yc fc ec gc kc ic jc pc c3 (W5.alloc (.cells #[.slice ja xs.length jc, .slice ia lc.length ic, .int .i64 vt.kind, .string vt.name, .slice ka vt.kids.length kc] 33)) from
          ⟨(HD5.out.below hb5).below hb6, (HE5.out.below hb5).below hb6, (HNw.out.below hb5).below hb6, hnr, (HP5.out.belowG hb5).belowG hb6, (HN5.out.below hb5).below hb6, (HTa5.out.below hb5).below hb6, (HB5.out.trans (hb5.mono HB5.out.size)).trans (hb6.mono (HB5.out.trans (hb5.mono HB5.out.size)).size)⟩)
        clear c0 c1' c2 c3' c4
        obtain ⟨c0, c1', c2, c3', c4⟩ := cells5 (HD5.out.below hb5).1
        have hb15 : b1 < W5.heap.size := (HD5.out.below hb5).lt
        clear hg5 hp5 ht5 hb5 hb6 hnr HD5 HE5 HNw HP5 HN5 HTa5 HB5 HRf hz5 hb14
        go_wp2_with fail
        generalize W4.heap.size = b3 at *
        generalize W5.alloc (.cells #[.slice ja xs.length jc, .slice ia lc.length ic, .int .i64 vt.kind, .string vt.name, .slice ka vt.kids.length kc] 33) = W6 at *
        generalize W5.heap.size = b4 at *
        obtain ⟨zl, u, l2, hcan1⟩ := canP_ex HOk.out xs
        obtain ⟨yl, u2, m2, hcan2⟩ := canP_ex HOk2.out ys
        have HC1 := Lib.hid hcan1
        have HC2 := Lib.hid hcan2
        have HK1 := Lib.hid (canP_ok HOk.out hcan1)
        obtain ⟨rs, hrs⟩ : ∃ r, smB zl yl l2 m2 u u2 = r := ⟨_, rfl⟩
        have HRs := Lib.hid hrs
        clear c0 c1' c2 c3' c4 hb15 hcan1 hcan2 hrs
        refine nzk_here (w := w) (b1 := b1) (b2 := b2) (b3 := b3) (b4 := b4) (t := t) (s := s) (vt := vt) (u := u) (u2 := u2) (lc := lc) (ld := ld) (lv := lv) (lp := lp) (l2 := l2) (m2 := m2) (xs := xs) (ys := ys) (gs := G) (nt := nt) (zl := zl) (yl := yl) (ta := ta) (ca := ca) (xa := xa) (sa := sa) (da := da) (ya := ya) (fa := fa) (ea := ea) (ga := ga) (ka := ka) (ia := ia) (ja := ja) (pa := pa) (na := a3) (tc := tc) (cc := cc) (xc := xc) (sc := sc) (dc := dc) (yc := yc) (fc := fc) (ec := ec) (gc := gc) (kc := kc) (ic := ic) (jc := jc) (pc := pc) (nc := c3) (rs := rs)
          (fun V h => rcanon_z HOk.out HXs.out HC1.out ta ca xa tc cc xc V h.s1.2)
          (fun V h => rcanon_z HOk2.out HYs.out HC2.out sa da ya sc dc yc V h.s2.2)
          (fun V h za3 zb3 zd3 ze3 zf3 zg3 d3 za5 zb5 zd5 ze5 zf5 zg5 d5 => by
            have := rsame_z (by have := HK1.out.1; omega) (fun q hq => by have := HK1.out.2.1 q hq; omega) (by have := HK1.out.2.2.1; omega) (by have := HK1.out.2.2.2; omega) za3 zb3 zd3 za5 zb5 zd5 ze3 zf3 zg3 ze5 zf5 zg5 V d3 d5
            rwa [HRs.out] at this)
          _ (by kernel_rfl) (by kernel_rfl) (by kernel_rfl) (by kernel_rfl) (HS6.out.below (below_d _)) ?_
        intro x9 W9 hV9 e65
        have HS9 := Lib.hid hV9
        clear hV9 HS6
        simp only [nzkFr, e65]
        simp only [Array.getD_eq_getD_getElem?, List.getElem?_toArray, List.getElem?_cons_succ, List.getElem?_cons_zero, Option.getD_some]
        obtain ⟨lq, hsq, hmq⟩ := srt_is lp
        have HLq := Lib.hid (And.intro hsq hmq)
        have HOkP := Lib.hid (sok_preds HOk.out hlp5 HLp.out)
        have HPz := Lib.hid (show ∀ q ∈ lp, tsize q.2 ≤ 200 from fun q hq => (HOkP.out.2.2 q.2 (List.mem_cons_of_mem _ (List.mem_map.2 ⟨q, hq, rfl⟩))).2.2.1)
        have HLz := Lib.hid (show (∀ q ∈ lq, tsize q.2 ≤ 200) ∧ lq.length ≤ 5 from ⟨fun q hq => HPz.out q ((hmq q).1 hq), Nat.le_trans (srtP_len hsq fun q h => (hmq q).1 h) hlp5⟩)
        obtain ⟨L2, hL2⟩ : ∃ l, fvs [] [] (t :: lp.map (·.2)) = l := ⟨_, rfl⟩
        have HL2 := Lib.hid hL2
        have HA2 := Lib.hid HOkP.out.all
        rw [hL2] at HA2
        have hcx : (lft nt L2).length ≤ 4 := Nat.le_trans (List.length_filter_le _ _) HA2.out.2.1
        have hfx : (osOf t lc xs).length ≤ 4 := Nat.le_trans (List.length_filter_le _ _) HOk.out.all.2.1
        have HZn := Lib.hid (show z1.tmod 100000 < 1000000000 from by have := Int.tmod_lt_of_pos z1 (show (0 : Int) < 100000 by decide); omega)
        clear hsq hmq hL2
        go_wp2_with fail
        refine nzl_here (w := w) (b1 := b1) (b2 := b2) (b3 := b3) (b4 := b4) (t := t) (s := s) (vt := vt) (u := u) (lc := lc) (ld := ld) (lv := lv) (lp := lp) (l2 := l2) (lq := lq) (xs := xs) (ys := ys) (gs := G) (nt := nt) (zl := zl) (fx := osOf t lc xs) (cx := lft nt L2) (ta := ta) (ca := ca) (xa := xa) (sa := sa) (da := da) (ya := ya) (fa := fa) (ea := ea) (ga := ga) (ka := ka) (ia := ia) (ja := ja) (pa := pa) (na := a3) (tc := tc) (cc := cc) (xc := xc) (sc := sc) (dc := dc) (yc := yc) (fc := fc) (ec := ec) (gc := gc) (kc := kc) (ic := ic) (jc := jc) (pc := pc) (nc := c3) (zn := z1.tmod 100000) (nx := (zf : Int) + (xs.length : Int)) (nm := nmI (z1.tmod 100000).toNat) (rs := rs)
          (fun V h => pcanon_z HOk.out HXs.out HC1.out ta ca xa tc cc xc V h.s1.2)
          (fun V h => rcanon_z HOk.out HXs.out HC1.out ta ca xa tc cc xc V h.s1.2)
          (fun V h za3 zb3 zd3 ze3 zf3 zg3 d3 za5 zb5 zd5 ze5 zf5 zg5 d5 => by
            have := rsame_z (by have := HK1.out.1; omega) (fun q hq => by have := HK1.out.2.1 q hq; omega) (by have := HK1.out.2.2.1; omega) (by have := HK1.out.2.2.2; omega) za3 zb3 zd3 za5 zb5 zd5 ze3 zf3 zg3 ze5 zf5 zg5 V d3 d5
            rwa [smB_self] at this)
          (fun V h => freeG_any V3 t lc xs HOk.out (fun n hn => by have := HXs.out.2 n hn; omega) (by omega) xa ca ta xc cc tc V h.s1.2.2.2 h.s1.2.1 h.s1.2.2.1)
          (fun V h => rfree_any xs (by omega) xa xc t lc _ rfl (by have := HOk.out.all.2.1; omega) (by have := HOk.out.all.2.2.2; omega) ta ca tc cc V h.s1.2.2.2 h.s1.2.2.1 (by omega) h.s1.2.1)
          (fun V h ra10 rc10 d10 ra12 rc12 d12 => by
            have := sameTexts_any (osOf t lc xs) (osOf t lc xs) (by omega) ra10 ra12 rc10 rc12 V d10 d12
            rwa [eqB_true rfl] at this)
          (fun V h => (closeS_any V3 t lp nt L2 HOkP.out HL2.out HNs.out (by omega) pa ta a3 pc tc c3 V h.s1.2.2.2 h.sn h.sp).mono fun e Y hq => by
            obtain ⟨⟨va, vc, zp, zq, za, zc, rfl, h1, h2, h3⟩, hb⟩ := hq
            exact ⟨⟨za, zp, va, zc, zq, vc, rfl, h1, h2, h3⟩, hb⟩)
          (fun V h => (rcloseS_any nt (by omega) a3 c3 t lp L2 HL2.out (by have := HA2.out.2.1; omega) (by have := HA2.out.2.2.2; rw [HL2.out.symm] at *; omega) ta pa tc pc V h.s1.2.2.2 h.sp (by omega) h.sn).mono fun e Y hq => by
            obtain ⟨⟨va, vc, rfl, h1⟩, hb⟩ := hq
            exact ⟨⟨ta, pa, va, tc, pc, vc, rfl, h1, h.sp.belowG hb, h.s1.2.2.2.keep (KeepT.of_below hb)⟩, hb⟩)
          (fun V h za3 zb3 zd3 ze3 zf3 zg3 d3 za5 zb5 zd5 ze5 zf5 zg5 d5 => by
            have := rsame_z (by have := HSz.out.1; omega) (fun q hq => by have := HPz.out q hq; omega) (by omega) (by omega) za3 zb3 zd3 za5 zb5 zd5 ze3 zf3 zg3 ze5 zf5 zg5 V d3 d5
            rwa [smB_self] at this)
          (fun V h => by
            have := rsame_z (by have := HVt.out.1; omega) (fun q hq => by have := HVt.out.2.1 q hq; omega) (by have := HVt.out.2.2; omega) (by have := HGl.out; omega) fa ea ga ka ia ja fc ec gc kc ic jc V h.s3.2 h.s4.2
            rwa [smB_self] at this)
          (fun V h => (sortPreds_any lp _ V h.sp (fun q hq => by have := HPz.out q hq; omega) (fun q hq => fits_small (by have := HPz.out q hq; omega)) (by omega)).mono fun e Y hq => by
            obtain ⟨⟨ks, ra, rc, rfl, hp1, hs1, hm1⟩, hb⟩ := hq
            have e1 : ks.map prOf = lq := srtP_one (srtP_of hs1) HLq.out.1 fun q => by rw [hm1, HLq.out.2]
            have e2 : lq.length = ks.length := by rw [← e1]; simp
            rw [e1] at hp1
            exact ⟨⟨ra, rc, by rw [e2], by rw [e2]; exact hp1⟩, hb⟩)
          (fun V h => rsortP_any lp lq HLq.out.1 HLq.out.2 (fun q hq => by have := HPz.out q hq; omega) (by omega) pa pc V h.sp)
          (fun V h ra10 rc10 d10 ra12 rc12 d12 => by
            have := samePreds_of lq lq (fun q hq => fits_small (by have := HLz.out.1 q hq; omega)) ra10 ra12 rc10 rc12 V d10 d12 (by have := HLz.out.2; omega)
            rwa [eqB_true rfl] at this)
          (fun V h => pname_int _ HZn.out V h.st)
          (fun V h => rname_int _ HZn.out V)
          (fun V h => by
            have := psame_z HOk.out HOk2.out HXs.out HYs.out HC1.out HC2.out ta ca xa sa da ya tc cc xc sc dc yc V h.s1.2 h.s2.2
            rwa [HRs.out] at this)
          (fun V h => by
            have := psame_z HOk.out HOk.out HXs.out HXs.out HC1.out HC1.out ta ca xa ta ca xa tc cc xc tc cc xc V h.s1.2 h.s1.2
            rwa [smB_self] at this)
          _ (by kernel_rfl) (by kernel_rfl) (by kernel_rfl) (by kernel_rfl) (by kernel_rfl) (by kernel_rfl) (by kernel_rfl) (by kernel_rfl) (by kernel_rfl) (by kernel_rfl) (by kernel_rfl) (by kernel_rfl) (by kernel_rfl) (HS9.out.below (below_d _)) ?_
        intro x V hV e64
        have HE := Lib.hid hV.sb
        clear hV HS9
        simp only [nzlFr, e64]
        simp only [Array.getD_eq_getD_getElem?, List.getElem?_toArray, List.getElem?_cons_succ, List.getElem?_cons_zero, Option.getD_some]
        go_wp2_with fail
        go_ret
        exact ⟨rfl, HE.out⟩
      · have HzE := Lib.hid hzE
        clear hzE
        go_enter Tryz.func3, Tryz.ntmps3
        go_wp2_with (go_at_call 5; fail)
        refine (first8_any _).mono ?_
        rintro e w' ⟨rfl, rfl⟩
        go_wp2_with (go_at_call 6; fail)
        refine (make_schemeZ w.heap.size w.heap.size a1 n1 c1 0 _ (seq_new (Below.refl _ _) HL1.out) (by decide) hn1).mono ?_
        rintro e W1 ⟨⟨xs, lc, t, xa, ca, ta, xc, cc, tc, rfl, ⟨hxs, hlc, hgt⟩, hD⟩, ⟨k1, hk1, hs1⟩, hf1⟩
        have HB1 := Lib.hid (((Below.refl w.heap.size w).alloc (Nat.le_refl _) _).trans hf1.1)
        have HXs := Lib.hid hxs
        have HD1 := Lib.hid (NzB.new hD)
        have HS1 := Lib.hid (hs1.below (below_a W1 (.cells #[.slice xa xs.length xc, .slice ca lc.length cc, .int .i64 t.kind, .string t.name, .slice ta t.kids.length tc] 33)))
        have HOk := Lib.hid (sok_made hlc hgt)
        have hlc3 := hlc.1
        have hW1 : w.heap.size < W1.heap.size := hs1.lt
        clear hf1 hs1 hD hxs hlc hgt HL1
        go_wp2_with (go_at_call 6; fail)
        refine (make_schemeZ w.heap.size w.heap.size a1 n1 c1 k1 _ HS1.out (by omega) hn1).mono ?_
        rintro e W2 ⟨⟨ys, ld, s, ya, da, sa, yc, dc, sc, rfl, ⟨hys, hld, hgs⟩, hE⟩, ⟨k2, hk2, hs2⟩, hf2⟩
        have HD2 := Lib.hid (nzB_mk HD1.out hf2 HS1.out (by omega))
        have HE2 := Lib.hid (NzB.new hE)
        have HB2 := Lib.hid ((HB1.out.alloc HB1.out.size _).trans hf2.1)
        have HYs := Lib.hid hys
        have HS2 := Lib.hid (hs2.below (below_a W2 (.cells #[.slice ya ys.length yc, .slice da ld.length dc, .int .i64 s.kind, .string s.name, .slice sa s.kids.length sc] 33)))
        have HOk2 := Lib.hid (sok_made hld hgs)
        have hld3 := hld.1
        have hW2 : w.heap.size < W2.heap.size := hs2.lt
        clear hf2 hs2 hE hys hld hgs HB1 HD1 HS1
        go_wp2_with (go_at_call 7; fail)
        refine (make_predsG 5 2 8 56 (by decide) (by decide) w.heap.size w.heap.size a1 n1 c1 k2 _ HS2.out (by omega) (fun k W hs hk => make_n2 w.heap.size w.heap.size a1 n1 c1 k W hs (by omega) hn1) hn1).mono ?_
        rintro e W3 ⟨⟨lp, v, rfl, ⟨hlp5, hlp⟩, hp⟩, _, hf3⟩
        obtain ⟨pa, pc, rfl⟩ := hp.shape
        have HD3 := Lib.hid (nzB_mk (HD2.out.below (below_a W2 _)) hf3 HS2.out (by omega))
        have HE3 := Lib.hid (nzB_mk HE2.out hf3 HS2.out (by omega))
        have HB3 := Lib.hid ((HB2.out.alloc HB2.out.size _).trans hf3.1)
        have HP3 := Lib.hid hp
        have HTa3 := Lib.hid (HTab.out.below HB3.out)
        have HN3 := Lib.hid (HN.out.below HB3.out)
        have HLp := Lib.hid hlp
        obtain ⟨b1, hb1e⟩ : ∃ b, W1.heap.size = b := ⟨_, rfl⟩
        obtain ⟨b2, hb2e⟩ : ∃ b, W2.heap.size = b := ⟨_, rfl⟩
        rw [hb1e] at HD3
        rw [hb2e] at HE3
        rw [hb1e, hb2e]
        obtain ⟨c0, c1', c2, c3', c4⟩ := cells5 HD3.out.1
        obtain ⟨G, hGl, hG⟩ := fresh_names zf xs.length
        have hxl := HXs.out.1
        have HSz := Lib.hid (show tsize t ≤ 200 ∧ ∀ q ∈ lc, tsize q.2 ≤ 200 from ⟨(HOk.out.2.2 t (List.mem_cons_self ..)).2.2.1, fun q hq => (HOk.out.2.2 q.2 (List.mem_cons_of_mem _ (List.mem_map.2 ⟨q, hq, rfl⟩))).2.2.1⟩)
        have HFr := Lib.hid (fresh_any t xs G zf hzf hGl hG (by omega) (by have := HSz.out.1; omega) lc (fun q hq => by have := HSz.out.2 q hq; omega) (by omega) ca ta xa cc tc xc W3 HD3.out.2.2.2 HD3.out.2.1 HD3.out.2.2.1 HTa3.out)
        have HG := Lib.hid hG
        have HGl := Lib.hid hGl
        clear hb1e hb2e hf3 hp hlp hG hGl HD2 HE2 HB2 HS2
        go_wp2_with (go_at_call 8; fail)
        rw [HzE.out]
        refine HFr.out.mono ?_
        rintro e W4 ⟨⟨ga, gc, ea, ec, fa, fc, rfl, hg4, hp4, ht4⟩, hb4⟩
        have HNw := Lib.hid (nzB_fresh HGl.out hg4 hp4 ht4)
        have HD4 := Lib.hid (HD3.out.below hb4); have HE4 := Lib.hid (HE3.out.below hb4); have HP4 := Lib.hid (HP3.out.belowG hb4); have HTa4 := Lib.hid (HTa3.out.below hb4); have HN4 := Lib.hid (HN3.out.below hb4); have HB4 := Lib.hid (HB3.out.trans (hb4.mono HB3.out.size))
        obtain ⟨vt, hvt⟩ : ∃ u, app (prs xs G) t = u := ⟨_, rfl⟩
        obtain ⟨lv, hlv⟩ : ∃ l, appP (prs xs G) lc = l := ⟨_, rfl⟩
        have HVt := Lib.hid (show tsize vt ≤ 200 ∧ (∀ q ∈ lv, tsize q.2 ≤ 200) ∧ lv.length ≤ 3 from hvt ▸ hlv ▸ fresh_sizes HGl.out HSz.out hlc3)
        rw [hvt, hlv] at HNw
        rw [hvt]
        have HVE := Lib.hid (And.intro hvt hlv)
        have hb5 := below_a W4 (.cells #[.slice ga xs.length gc, .slice ea lc.length ec, .int .i64 vt.kind, .string vt.name, .slice fa vt.kids.length fc] 33)
        have hz5 : (W4.alloc (.cells #[.slice ga xs.length gc, .slice ea lc.length ec, .int .i64 vt.kind, .string vt.name, .slice fa vt.kids.length fc] 33)).heap.size = W4.heap.size + 1 := by simp
        have HD5 := Lib.hid (HD4.out.below hb5); have HE5 := Lib.hid (HE4.out.below hb5); have HP5 := Lib.hid (HP4.out.belowG hb5); have HTa5 := Lib.hid (HTa4.out.below hb5); have HN5 := Lib.hid (HN4.out.below hb5); have HB5 := Lib.hid (HB4.out.trans (hb5.mono HB4.out.size))
        have HRf := Lib.hid (rfresh_any t xs G zf hzf HGl.out HG.out (by omega) (by have := HSz.out.1; omega) lc (fun q hq => by have := HSz.out.2 q hq; omega) (by omega) ca ta xa cc tc xc _ HD5.out.2.2.2 HD5.out.2.1 HD5.out.2.2.1)
        clear c0 c1' c2 c3' c4
        obtain ⟨c0, c1', c2, c3', c4⟩ := cells5 HD4.out.1
        have hb14 : b1 < W4.heap.size := HD4.out.lt
        clear hb4 hg4 hp4 ht4 hvt hlv hb5 HD3 HE3 HP3 HTa3 HN3 HB3 HFr HD4 HE4 HP4 HTa4 HN4 HB4
        go_wp2_with (go_at_call 9; fail)
        refine HRf.out.mono ?_
        rintro e W5 ⟨⟨ja, jc, ia, ic, ka, kc, rfl, hg5, hp5, ht5⟩, hb5⟩
        have hnr := nzB_fresh HGl.out hg5 hp5 ht5
        rw [HVE.out.1, HVE.out.2] at hnr
        rw [HVE.out.1]
        have hb6 := below_a W5 (.cells #[.slice ja xs.length jc, .slice ia lc.length ic, .int .i64 vt.kind, .string vt.name, .slice ka vt.kids.length kc] 33)
        have HS6 := Lib.hid (show SzS w b1 b2 W4.heap.size W5.heap.size t s vt lc ld lv lp xs ys G nt ta ca xa sa da ya fa ea ga ka ia ja pa a3 tc cc xc sc dc yc fc ec gc kc ic jc pc c3 (W5.alloc (.cells #[.slice ja xs.length jc, .slice ia lc.length ic, .int .i64 vt.kind, .string vt.name, .slice ka vt.kids.length kc] 33)) from
          ⟨(HD5.out.below hb5).below hb6, (HE5.out.below hb5).below hb6, (HNw.out.below hb5).below hb6, hnr, (HP5.out.belowG hb5).belowG hb6, (HN5.out.below hb5).below hb6, (HTa5.out.below hb5).below hb6, (HB5.out.trans (hb5.mono HB5.out.size)).trans (hb6.mono (HB5.out.trans (hb5.mono HB5.out.size)).size)⟩)
        clear c0 c1' c2 c3' c4
        obtain ⟨c0, c1', c2, c3', c4⟩ := cells5 (HD5.out.below hb5).1
        have hb15 : b1 < W5.heap.size := (HD5.out.below hb5).lt
        clear hg5 hp5 ht5 hb5 hb6 hnr HD5 HE5 HNw HP5 HN5 HTa5 HB5 HRf hz5 hb14
        go_wp2_with fail
        generalize W4.heap.size = b3 at *
        generalize W5.alloc (.cells #[.slice ja xs.length jc, .slice ia lc.length ic, .int .i64 vt.kind, .string vt.name, .slice ka vt.kids.length kc] 33) = W6 at *
        generalize W5.heap.size = b4 at *
        obtain ⟨zl, u, l2, hcan1⟩ := canP_ex HOk.out xs
        obtain ⟨yl, u2, m2, hcan2⟩ := canP_ex HOk2.out ys
        have HC1 := Lib.hid hcan1
        have HC2 := Lib.hid hcan2
        have HK1 := Lib.hid (canP_ok HOk.out hcan1)
        obtain ⟨rs, hrs⟩ : ∃ r, smB zl yl l2 m2 u u2 = r := ⟨_, rfl⟩
        have HRs := Lib.hid hrs
        clear c0 c1' c2 c3' c4 hb15 hcan1 hcan2 hrs
        refine nzk_here (w := w) (b1 := b1) (b2 := b2) (b3 := b3) (b4 := b4) (t := t) (s := s) (vt := vt) (u := u) (u2 := u2) (lc := lc) (ld := ld) (lv := lv) (lp := lp) (l2 := l2) (m2 := m2) (xs := xs) (ys := ys) (gs := G) (nt := nt) (zl := zl) (yl := yl) (ta := ta) (ca := ca) (xa := xa) (sa := sa) (da := da) (ya := ya) (fa := fa) (ea := ea) (ga := ga) (ka := ka) (ia := ia) (ja := ja) (pa := pa) (na := a3) (tc := tc) (cc := cc) (xc := xc) (sc := sc) (dc := dc) (yc := yc) (fc := fc) (ec := ec) (gc := gc) (kc := kc) (ic := ic) (jc := jc) (pc := pc) (nc := c3) (rs := rs)
          (fun V h => rcanon_z HOk.out HXs.out HC1.out ta ca xa tc cc xc V h.s1.2)
          (fun V h => rcanon_z HOk2.out HYs.out HC2.out sa da ya sc dc yc V h.s2.2)
          (fun V h za3 zb3 zd3 ze3 zf3 zg3 d3 za5 zb5 zd5 ze5 zf5 zg5 d5 => by
            have := rsame_z (by have := HK1.out.1; omega) (fun q hq => by have := HK1.out.2.1 q hq; omega) (by have := HK1.out.2.2.1; omega) (by have := HK1.out.2.2.2; omega) za3 zb3 zd3 za5 zb5 zd5 ze3 zf3 zg3 ze5 zf5 zg5 V d3 d5
            rwa [HRs.out] at this)
          _ (by kernel_rfl) (by kernel_rfl) (by kernel_rfl) (by kernel_rfl) (HS6.out.below (below_d _)) ?_
        intro x9 W9 hV9 e65
        have HS9 := Lib.hid hV9
        clear hV9 HS6
        simp only [nzkFr, e65]
        simp only [Array.getD_eq_getD_getElem?, List.getElem?_toArray, List.getElem?_cons_succ, List.getElem?_cons_zero, Option.getD_some]
        obtain ⟨lq, hsq, hmq⟩ := srt_is lp
        have HLq := Lib.hid (And.intro hsq hmq)
        have HOkP := Lib.hid (sok_preds HOk.out hlp5 HLp.out)
        have HPz := Lib.hid (show ∀ q ∈ lp, tsize q.2 ≤ 200 from fun q hq => (HOkP.out.2.2 q.2 (List.mem_cons_of_mem _ (List.mem_map.2 ⟨q, hq, rfl⟩))).2.2.1)
        have HLz := Lib.hid (show (∀ q ∈ lq, tsize q.2 ≤ 200) ∧ lq.length ≤ 5 from ⟨fun q hq => HPz.out q ((hmq q).1 hq), Nat.le_trans (srtP_len hsq fun q h => (hmq q).1 h) hlp5⟩)
        obtain ⟨L2, hL2⟩ : ∃ l, fvs [] [] (t :: lp.map (·.2)) = l := ⟨_, rfl⟩
        have HL2 := Lib.hid hL2
        have HA2 := Lib.hid HOkP.out.all
        rw [hL2] at HA2
        have hcx : (lft nt L2).length ≤ 4 := Nat.le_trans (List.length_filter_le _ _) HA2.out.2.1
        have hfx : (osOf t lc xs).length ≤ 4 := Nat.le_trans (List.length_filter_le _ _) HOk.out.all.2.1
        have HZn := Lib.hid (show z1.tmod 100000 < 1000000000 from by have := Int.tmod_lt_of_pos z1 (show (0 : Int) < 100000 by decide); omega)
        clear hsq hmq hL2
        go_wp2_with fail
        refine nzl_here (w := w) (b1 := b1) (b2 := b2) (b3 := b3) (b4 := b4) (t := t) (s := s) (vt := vt) (u := u) (lc := lc) (ld := ld) (lv := lv) (lp := lp) (l2 := l2) (lq := lq) (xs := xs) (ys := ys) (gs := G) (nt := nt) (zl := zl) (fx := osOf t lc xs) (cx := lft nt L2) (ta := ta) (ca := ca) (xa := xa) (sa := sa) (da := da) (ya := ya) (fa := fa) (ea := ea) (ga := ga) (ka := ka) (ia := ia) (ja := ja) (pa := pa) (na := a3) (tc := tc) (cc := cc) (xc := xc) (sc := sc) (dc := dc) (yc := yc) (fc := fc) (ec := ec) (gc := gc) (kc := kc) (ic := ic) (jc := jc) (pc := pc) (nc := c3) (zn := z1.tmod 100000) (nx := (zf : Int) + (xs.length : Int)) (nm := nmI (z1.tmod 100000).toNat) (rs := rs)
          (fun V h => pcanon_z HOk.out HXs.out HC1.out ta ca xa tc cc xc V h.s1.2)
          (fun V h => rcanon_z HOk.out HXs.out HC1.out ta ca xa tc cc xc V h.s1.2)
          (fun V h za3 zb3 zd3 ze3 zf3 zg3 d3 za5 zb5 zd5 ze5 zf5 zg5 d5 => by
            have := rsame_z (by have := HK1.out.1; omega) (fun q hq => by have := HK1.out.2.1 q hq; omega) (by have := HK1.out.2.2.1; omega) (by have := HK1.out.2.2.2; omega) za3 zb3 zd3 za5 zb5 zd5 ze3 zf3 zg3 ze5 zf5 zg5 V d3 d5
            rwa [smB_self] at this)
          (fun V h => freeG_any V3 t lc xs HOk.out (fun n hn => by have := HXs.out.2 n hn; omega) (by omega) xa ca ta xc cc tc V h.s1.2.2.2 h.s1.2.1 h.s1.2.2.1)
          (fun V h => rfree_any xs (by omega) xa xc t lc _ rfl (by have := HOk.out.all.2.1; omega) (by have := HOk.out.all.2.2.2; omega) ta ca tc cc V h.s1.2.2.2 h.s1.2.2.1 (by omega) h.s1.2.1)
          (fun V h ra10 rc10 d10 ra12 rc12 d12 => by
            have := sameTexts_any (osOf t lc xs) (osOf t lc xs) (by omega) ra10 ra12 rc10 rc12 V d10 d12
            rwa [eqB_true rfl] at this)
          (fun V h => (closeS_any V3 t lp nt L2 HOkP.out HL2.out HNs.out (by omega) pa ta a3 pc tc c3 V h.s1.2.2.2 h.sn h.sp).mono fun e Y hq => by
            obtain ⟨⟨va, vc, zp, zq, za, zc, rfl, h1, h2, h3⟩, hb⟩ := hq
            exact ⟨⟨za, zp, va, zc, zq, vc, rfl, h1, h2, h3⟩, hb⟩)
          (fun V h => (rcloseS_any nt (by omega) a3 c3 t lp L2 HL2.out (by have := HA2.out.2.1; omega) (by have := HA2.out.2.2.2; rw [HL2.out.symm] at *; omega) ta pa tc pc V h.s1.2.2.2 h.sp (by omega) h.sn).mono fun e Y hq => by
            obtain ⟨⟨va, vc, rfl, h1⟩, hb⟩ := hq
            exact ⟨⟨ta, pa, va, tc, pc, vc, rfl, h1, h.sp.belowG hb, h.s1.2.2.2.keep (KeepT.of_below hb)⟩, hb⟩)
          (fun V h za3 zb3 zd3 ze3 zf3 zg3 d3 za5 zb5 zd5 ze5 zf5 zg5 d5 => by
            have := rsame_z (by have := HSz.out.1; omega) (fun q hq => by have := HPz.out q hq; omega) (by omega) (by omega) za3 zb3 zd3 za5 zb5 zd5 ze3 zf3 zg3 ze5 zf5 zg5 V d3 d5
            rwa [smB_self] at this)
          (fun V h => by
            have := rsame_z (by have := HVt.out.1; omega) (fun q hq => by have := HVt.out.2.1 q hq; omega) (by have := HVt.out.2.2; omega) (by have := HGl.out; omega) fa ea ga ka ia ja fc ec gc kc ic jc V h.s3.2 h.s4.2
            rwa [smB_self] at this)
          (fun V h => (sortPreds_any lp _ V h.sp (fun q hq => by have := HPz.out q hq; omega) (fun q hq => fits_small (by have := HPz.out q hq; omega)) (by omega)).mono fun e Y hq => by
            obtain ⟨⟨ks, ra, rc, rfl, hp1, hs1, hm1⟩, hb⟩ := hq
            have e1 : ks.map prOf = lq := srtP_one (srtP_of hs1) HLq.out.1 fun q => by rw [hm1, HLq.out.2]
            have e2 : lq.length = ks.length := by rw [← e1]; simp
            rw [e1] at hp1
            exact ⟨⟨ra, rc, by rw [e2], by rw [e2]; exact hp1⟩, hb⟩)
          (fun V h => rsortP_any lp lq HLq.out.1 HLq.out.2 (fun q hq => by have := HPz.out q hq; omega) (by omega) pa pc V h.sp)
          (fun V h ra10 rc10 d10 ra12 rc12 d12 => by
            have := samePreds_of lq lq (fun q hq => fits_small (by have := HLz.out.1 q hq; omega)) ra10 ra12 rc10 rc12 V d10 d12 (by have := HLz.out.2; omega)
            rwa [eqB_true rfl] at this)
          (fun V h => pname_int _ HZn.out V h.st)
          (fun V h => rname_int _ HZn.out V)
          (fun V h => by
            have := psame_z HOk.out HOk2.out HXs.out HYs.out HC1.out HC2.out ta ca xa sa da ya tc cc xc sc dc yc V h.s1.2 h.s2.2
            rwa [HRs.out] at this)
          (fun V h => by
            have := psame_z HOk.out HOk.out HXs.out HXs.out HC1.out HC1.out ta ca xa ta ca xa tc cc xc tc cc xc V h.s1.2 h.s1.2
            rwa [smB_self] at this)
          _ (by kernel_rfl) (by kernel_rfl) (by kernel_rfl) (by kernel_rfl) (by kernel_rfl) (by kernel_rfl) (by kernel_rfl) (by kernel_rfl) (by kernel_rfl) (by kernel_rfl) (by kernel_rfl) (by kernel_rfl) (by kernel_rfl) (HS9.out.below (below_d _)) ?_
        intro x V hV e64
        have HE := Lib.hid hV.sb
        clear hV HS9
        simp only [nzlFr, e64]
        simp only [Array.getD_eq_getD_getElem?, List.getElem?_toArray, List.getElem?_cons_succ, List.getElem?_cons_zero, Option.getD_some]
        go_wp2_with fail
        go_ret
        exact ⟨rfl, HE.out⟩
    · have hb2I : (5 : Int) < (nt.length : Int) := by omega
      clear hz2
      go_enter Tryz.func3, Tryz.ntmps3
      go_wp2_with (go_at_call 5; refine (first8_any _).mono ?_; rintro e w' ⟨rfl, rfl⟩)
      go_ret
      exact ⟨rfl, Below.refl _ _⟩
  · have hb1I : (200 : Int) < (n1 : Int) := by omega
    clear hz2
    go_enter Tryz.func3, Tryz.ntmps3
    go_wp2_with (go_at_call 5; refine (first8_any _).mono ?_; rintro e w' ⟨rfl, rfl⟩)
    go_ret
    exact ⟨rfl, Below.refl _ _⟩
end Go.Proofs.YtdidgddcgjpokaaGreatDoor
/- SchemeSays: the table that its row lists. -/
namespace Go.Proofs.YtdidgddcgjpokaaGreatDoor
open Go.RowKit Go.Sort Go.Lib

set_option maxRecDepth 100000 in
theorem tab_data : (Rows.laid_internal_strconv_uint64pow10 : DataW Unit) = Lib.tabData .u64 Lib.pow10Tab := by kernel_rfl
set_option maxRecDepth 100000 in
theorem tab_of {W : World} (h : laidMetH Tryz.prog Rows.schemeSaysRow.laid W) : Tab W := by
  have h0 := (MakeChecks.laidMetH_plain _ _ _ (by kernel_rfl)).mp h
  have h1 : laidMet Tryz.prog (("math/bits.deBruijn32tab", Rows.laid_math_bits_deBruijn32tab) :: ("math/bits.deBruijn64tab", Rows.laid_math_bits_deBruijn64tab) :: ("internal/strconv.uint64pow10", Rows.laid_internal_strconv_uint64pow10) :: []) W := h0
  rw [tab_data] at h1
  exact Lib.tabIs_of_head (g := 0) (t := 147) (e := 89) (n := 20) (by kernel_rfl) (by kernel_rfl) (by kernel_rfl) (by kernel_rfl) (by kernel_rfl) (by kernel_rfl) h1.tail.tail
end Go.Proofs.YtdidgddcgjpokaaGreatDoor
/- What the plain rows of this seat share. -/
namespace Go.Proofs.YtdidgddcgjpokaaGreatDoor
open Go.ChangeShapes Go.WideShapes Go.ChangeAt Go.RowKit

theorem own : ownKnob Tryz.prog.godebug = none := by kernel_rfl
theorem laidOut : laidOutB Tryz.prog = true := by kernel_rfl
theorem bounds_i64 {z : Int} (h : (Lit.int .i64 z).wf = true) : -9223372036854775808 ≤ z ∧ z ≤ 9223372036854775807 := by
  have h1 : IntKind.i64.min = -9223372036854775808 := rfl
  have h2 : IntKind.i64.max = 9223372036854775807 := rfl
  simp only [Lit.wf, Bool.and_eq_true, decide_eq_true_eq] at h
  omega
end Go.Proofs.YtdidgddcgjpokaaGreatDoor
/- Slices of numbers that came in, for the plain rows. -/
namespace Go.Proofs.YtdidgddcgjpokaaGreatDoor
open Go.ChangeShapes Go.WideShapes Go.ChangeAt Go.RowKit

/-- A slice of numbers that came in, nil or not, holds some numbers. -/
theorem opened_ints {H : Type} {enc : TypeId × Value → H} {W : World} {a0 : Option Addr} {len cap : Nat} {d0 : DataW H} {p : List MemPlace}
    (h0 : DataW.Trod enc Tryz.prog W 0 (fun _ => true) true 22 (.slice a0 len cap) d0 p) : IntsAt W.heap.size a0 len W := by
  obtain ⟨fuel, hf⟩ := h0
  rcases open_ints Tryz.underlying22 Tryz.underlying3 (by kernel_rfl) hf with ⟨hcs, _⟩ | ⟨x, l, c, zs, hcs, _, hl, hm, hz, _, hcell, hwz⟩
  · simp [Value.cells] at hcs
    obtain ⟨rfl, rfl, rfl⟩ := hcs
    exact .inl rfl
  · simp [Value.cells] at hcs
    obtain ⟨rfl, rfl, rfl⟩ := hcs
    simp only [if_true] at hz
    by_cases h0 : len = 0
    · exact .inl h0
    · obtain ⟨b, o, spot⟩ := x
      have hc0 := hcell 0 (by omega)
      have hspot : spot = none := by simpa [Addr.add] using World.cell?_spot hc0
      subst hspot
      have ea : ∀ j, (⟨b, o, none⟩ : Addr).add j = ⟨b, o + j, none⟩ := fun j => by unfold Addr.add; split <;> simp_all
      refine .inr ⟨b, o, rfl, World.block_lt_of_cell? _ _ hc0, fun j hj => ?_⟩
      have hc := hcell j (by omega)
      rw [ea] at hc
      have hjz : j < zs.length := by omega
      exact ⟨zs[j], by rw [hc]; simp [List.getD, List.getElem?_eq_getElem hjz], bounds_i64 (hwz _ (List.getElem_mem hjz))⟩

end Go.Proofs.YtdidgddcgjpokaaGreatDoor
/- Slices of texts that came in, for the plain rows. -/
namespace Go.Proofs.YtdidgddcgjpokaaGreatDoor
open Go.ChangeShapes Go.WideShapes Go.ChangeAt Go.RowKit

/-- A slice of texts that came in, nil or not, holds some texts. -/
theorem opened_strsZ {H : Type} {enc : TypeId × Value → H} {W : World} {a0 : Option Addr} {len cap : Nat} {d0 : DataW H} {p : List MemPlace}
    (h0 : DataW.Trod enc Tryz.prog W 0 (fun _ => true) true 23 (.slice a0 len cap) d0 p) : ∃ F : List ByteArray, F.length = len ∧ StrsP (.slice a0 len cap) F W ∧ ∀ n ∈ F, n.size ≤ maxLen := by
  obtain ⟨fuel, hf⟩ := h0
  rcases Go.Deep.open_strs Tryz.underlying23 Tryz.underlying9 (by kernel_rfl) hf with ⟨hcs, _⟩ | ⟨x, l, c, m, S, hcs, _, hl, hm, hmm, _, hcell⟩
  · simp [Value.cells] at hcs
    obtain ⟨rfl, rfl, rfl⟩ := hcs
    exact ⟨[], rfl, .inl ⟨rfl, none, 0, rfl⟩, fun _ h => nomatch h⟩
  · simp [Value.cells] at hcs
    obtain ⟨rfl, rfl, rfl⟩ := hcs
    have hlm : len ≤ m := by rw [hmm]; split <;> omega
    refine ⟨(List.range len).map S, by simp, ?_, fun n hn => by
      obtain ⟨i, hi, rfl⟩ := List.mem_map.1 hn
      exact (hcell i (by have := List.mem_range.1 hi; omega)).2⟩
    by_cases h0 : len = 0
    · subst h0; exact .inl ⟨rfl, _, cap, rfl⟩
    · obtain ⟨b, o, spot⟩ := x
      have hc0 := (hcell 0 (by omega)).1
      have hspot : spot = none := by simpa [Addr.add] using World.cell?_spot hc0
      subst hspot
      have ea : ∀ j, (⟨b, o, none⟩ : Addr).add j = ⟨b, o + j, none⟩ := fun j => by unfold Addr.add; split <;> simp_all
      refine .inr ⟨b, o, cap, by simp, World.block_lt_of_cell? _ _ hc0, fun j hj => ?_⟩
      have hj' : j < len := by simpa using hj
      have hc := (hcell j (by omega)).1
      rw [ea] at hc
      rw [hc]
      simp [List.getD, hj']
end Go.Proofs.YtdidgddcgjpokaaGreatDoor
