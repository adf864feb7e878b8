/- Merged: NmRf, GvFreR, GvFree, NmU, NmL, PlainRow, IntsRow. -/
import Derived.Test.YtjnlchhikdfifaaGreatDoorVa8
import Derived.Test.YtjnlchhikdfifaaGreatDoorVa5
import Derived.Test.YtjnlchhikdfifaaGreatDoorVa7
import Derived.Test.YtjnlchhikdfifaaGreatDoorVa6
import Derived.Test.YtjnlchhikdfifaaGreatDoorRows
import Derived.ProofKit
import Derived.OpenShut
import Derived.Carry
import Derived.Test.YtjnlchhikdfifaaGreatDoorVa2
/- SchemeNames: the end: its last statement, a region of 29 operations that draws its order, by an invariant. (Made by a program.) -/
namespace Go.Proofs.YtjnlchhikdfifaaGreatDoor
open Go.RowKit Go.Sort Go.Lib
attribute [local go_sem] Oper.semAt_some

noncomputable def nmfOps : Array Oper := regionIn 33 (Tryz.f4.body.getD .skip)
def nmfFr (b : Nat → Value) (d : List Deferred) (x : Nat → Value) : Act := { tmps := #[b 0, b 1, b 2, b 3, x 28, b 5, b 6, b 7, b 8, b 9, b 10, b 11, b 12, b 13, b 14, b 15, b 16, b 17, b 18, b 19, b 20, b 21, b 22, b 23, b 24, b 25, b 26, b 27, b 28, b 29, b 30, b 31, b 32, b 33, b 34, b 35, b 36, b 37, b 38, b 39, b 40, b 41, b 42, b 43, b 44, b 45, b 46, b 47, b 48, b 49, b 50, b 51, b 52, b 53, b 54, b 55, b 56, b 57, b 58, b 59, b 60, b 61, b 62, b 63, b 64, b 65, b 66, b 67, b 68, b 69, b 70, b 71, b 72, b 73, b 74, b 75, b 76, b 77, b 78, b 79, b 80, b 81, b 82, b 83, b 84, b 85, b 86, b 87, b 88, b 89, b 90, b 91, b 92, b 93, b 94, b 95, b 96, b 97, b 98, b 99, b 100, b 101, b 102, b 103, b 104, b 105, b 106, b 107, b 108, b 109, b 110, b 111, b 112, b 113, b 114, b 115, b 116, b 117, b 118, b 119, b 120, x 0, x 1, x 2, x 3, x 4, x 5, x 6, x 7, x 8, x 9, x 10, x 11, x 12, x 13, x 14, x 15, x 16, x 17, x 18, x 19, x 20, x 21, x 22, x 23, x 24, x 25, x 26, x 27], defers := d }

def nmfVals (t s u : T) (lc ld l2 : List Pr) (F L zl : List ByteArray) (ta ca fa sa da la ua pa za : Option Addr) (tc cc fc sc dc lk uc pc zc : Nat) (i : Nat) (v : Value) (V : World) : Prop :=
  match i with
  | 0 => v = .bool true
  | 1 => v = .bool true
  | 2 => v = .bool false
  | 3 => v = .bool true
  | 4 => v = .bool true
  | 5 => ∃ qu, v = qu ∧ True
  | 6 => ∃ qu, v = qu ∧ True
  | 7 => ∃ qu, v = qu ∧ True
  | 8 => v = .bool true
  | 9 => v = .bool true
  | 10 => v = .bool true
  | 11 => v = .agg #[.slice za zl.length zc, .slice pa l2.length pc, .int .i64 u.kind, .string u.name, .slice ua u.kids.length uc]
  | 12 => ∃ ya yc yp yq yt yu, v = .agg #[.slice ya zl.length yc, .slice yp l2.length yq, .int .i64 u.kind, .string u.name, .slice yt u.kids.length yu] ∧ SmD u l2 zl yt yp ya yu yq yc V
  | 13 => v = .agg #[.slice za zl.length zc, .slice pa l2.length pc, .int .i64 u.kind, .string u.name, .slice ua u.kids.length uc]
  | 14 => v = .bool true
  | 15 => v = .bool true
  | 16 => v = .bool true
  | 17 => v = .agg #[.slice fa F.length fc, .slice ca lc.length cc, .int .i64 t.kind, .string t.name, .slice ta t.kids.length tc]
  | 18 => ∃ ya yc, v = .slice ya 0 yc ∧ True
  | 19 => v = .int .i64 0
  | 20 => v = .bool true
  | 21 => v = .bool true
  | 22 => v = .bool true
  | 23 => v = .agg #[.slice za zl.length zc, .slice pa l2.length pc, .int .i64 u.kind, .string u.name, .slice ua u.kids.length uc]
  | 24 => ∃ ya yc, v = .slice ya 0 yc ∧ True
  | 25 => v = .int .i64 0
  | 26 => v = .bool true
  | 27 => v = .bool true
  | 28 => v = .bool true
  | _ => True

theorem nmfVals_keep {t s u : T} {lc ld l2 : List Pr} {F L zl : List ByteArray} {ta ca fa sa da la ua pa za : Option Addr} {tc cc fc sc dc lk uc pc zc : Nat} (i : Nat) (v : Value) (V Y : World) (h : nmfVals t s u lc ld l2 F L zl ta ca fa sa da la ua pa za tc cc fc sc dc lk uc pc zc i v V) (hb : Below V.heap.size V Y) : nmfVals t s u lc ld l2 F L zl ta ca fa sa da la ua pa za tc cc fc sc dc lk uc pc zc i v Y := by
  unfold nmfVals at *
  split at h <;> first
    | exact h
    | (obtain ⟨qu, e, h⟩ := h; exact ⟨qu, e, h⟩)
    | (obtain ⟨ya, yc, yp, yq, yt, yu, e, h⟩ := h; exact ⟨ya, yc, yp, yq, yt, yu, e, h.keepO (KeepO.of_below hb)⟩)
    | (obtain ⟨ya, yc, e, h⟩ := h; exact ⟨ya, yc, e, h⟩)

theorem nmf_size : nmfOps.size = 29 := by kernel_rfl
theorem nmf_dst_1 : (nmfOps[1]?).bind (·.dst) = some 122 := by kernel_rfl
theorem nmf_dst_4 : (nmfOps[4]?).bind (·.dst) = some 125 := by kernel_rfl
theorem nmf_dst_10 : (nmfOps[10]?).bind (·.dst) = some 131 := by kernel_rfl
theorem nmf_dst_16 : (nmfOps[16]?).bind (·.dst) = some 137 := by kernel_rfl
theorem nmf_dst_22 : (nmfOps[22]?).bind (·.dst) = some 143 := by kernel_rfl
set_option linter.unusedSimpArgs false in
set_option maxRecDepth 100000 in
set_option maxHeartbeats 8000000 in
theorem nmf_region {w : World} {b9 b15 b16 : Nat} {t s u : T} {lc ld l2 : List Pr} {F L zl : List ByteArray} {ta ca fa sa da la ua pa za : Option Addr} {tc cc fc sc dc lk uc pc zc : Nat} {b : Nat → Value} {d : List Deferred}
    (h5 : b 5 = .bool true) (h9 : b 9 = .pointer (some ⟨b9, 0, none⟩)) (h15 : b 15 = .pointer (some ⟨b15, 0, none⟩)) (h16 : b 16 = .pointer (some ⟨b16, 0, none⟩)) (h17 : b 17 = .bool false)
    (HC12 : ∀ V, NmZ w b9 b15 b16 t s u lc ld l2 F L zl ta ca fa sa da la ua pa za tc cc fc sc dc lk uc pc zc V → Calls Tryz.prog 12 #[.agg #[.slice za zl.length zc, .slice pa l2.length pc, .int .i64 u.kind, .string u.name, .slice ua u.kids.length uc]] V fun e Y => (∃ ya yc yp yq yt yu, e = .returned (.agg #[.slice ya zl.length yc, .slice yp l2.length yq, .int .i64 u.kind, .string u.name, .slice yt u.kids.length yu]) ∧ SmD u l2 zl yt yp ya yu yq yc Y) ∧ Below V.heap.size V Y)
    (HC14 : ∀ V, NmZ w b9 b15 b16 t s u lc ld l2 F L zl ta ca fa sa da la ua pa za tc cc fc sc dc lk uc pc zc V → ∀ ya12, ∀ yc12, ∀ yp12, ∀ yq12, ∀ yt12, ∀ yu12, SmD u l2 zl yt12 yp12 ya12 yu12 yq12 yc12 V → Calls Tryz.prog 10 #[.agg #[.slice ya12 zl.length yc12, .slice yp12 l2.length yq12, .int .i64 u.kind, .string u.name, .slice yt12 u.kids.length yu12], .agg #[.slice za zl.length zc, .slice pa l2.length pc, .int .i64 u.kind, .string u.name, .slice ua u.kids.length uc]] V fun e Y => e = .returned (.bool true) ∧ Below V.heap.size V Y)
    (HC18 : ∀ V, NmZ w b9 b15 b16 t s u lc ld l2 F L zl ta ca fa sa da la ua pa za tc cc fc sc dc lk uc pc zc V → Calls Tryz.prog 14 #[.agg #[.slice fa F.length fc, .slice ca lc.length cc, .int .i64 t.kind, .string t.name, .slice ta t.kids.length tc]] V fun e Y => (∃ ya yc, e = .returned (.slice ya 0 yc) ∧ True) ∧ Below V.heap.size V Y)
    (HC24 : ∀ V, NmZ w b9 b15 b16 t s u lc ld l2 F L zl ta ca fa sa da la ua pa za tc cc fc sc dc lk uc pc zc V → Calls Tryz.prog 14 #[.agg #[.slice za zl.length zc, .slice pa l2.length pc, .int .i64 u.kind, .string u.name, .slice ua u.kids.length uc]] V fun e Y => (∃ ya yc, e = .returned (.slice ya 0 yc) ∧ True) ∧ Below V.heap.size V Y)
    {Q : Exit → Act → World → Prop} {ops : Array Oper} (hops : ops = nmfOps) (x0 : Nat → Value) (X : World) (hS : NmZ w b9 b15 b16 t s u lc ld l2 F L zl ta ca fa sa da la ua pa za tc cc fc sc dc lk uc pc zc X.drew)
    (hfin : ∀ x V, NmZ w b9 b15 b16 t s u lc ld l2 F L zl ta ca fa sa da la ua pa za tc cc fc sc dc lk uc pc zc V → x 28 = .bool true → Q .normal (nmfFr b d x) V) : (Code.region 33 ops true).wp Tryz.prog Q (nmfFr b d x0) X := by
  have HC := Lib.hid (And.intro HC12 (And.intro HC14 (And.intro HC18 HC24)))
  clear HC12 HC14 HC18 HC24
  refine region_inv (nmfFr b d) (fun V => NmZ w b9 b15 b16 t s u lc ld l2 F L zl ta ca fa sa da la ua pa za tc cc fc sc dc lk uc pc zc V) (fun V Y => Below V.heap.size V Y) (nmfVals t s u lc ld l2 F L zl ta ca fa sa da la ua pa za tc cc fc sc dc lk uc pc zc) x0 (by kernel_rfl) rfl hS (fun V Y h hb => h.below hb) (fun i v V Y _ h hb => nmfVals_keep i v V Y h hb) ?_ (fun x V hV h => hfin x V hV (h 28 (by rw [hops, nmf_size]; decide)))
  clear hfin hS
  obtain ⟨f, hf⟩ : ∃ qq, StepAt Tryz.prog (nmfFr b d) (fun V => NmZ w b9 b15 b16 t s u lc ld l2 F L zl ta ca fa sa da la ua pa za tc cc fc sc dc lk uc pc zc V) (fun V Y => Below V.heap.size V Y) (nmfVals t s u lc ld l2 F L zl ta ca fa sa da la ua pa za tc cc fc sc dc lk uc pc zc) ops Q = qq := ⟨_, rfl⟩
  rw [hf, hops]
  simp only [nmfOps, Tryz.f4, regionIn, Option.getD_some, Nat.reduceBEq, Bool.false_eq_true, if_false, if_true, beq_self_eq_true, Array.append_empty, Array.empty_append, List.append_eq, List.cons_append, List.nil_append, AllAt, Nat.reduceAdd, Nat.zero_add]
  -- 0: slot 121 := Op.move t5
  refine And.intro ?_ ?_
  · rw [← hf]; clear hf
    refine ⟨by decide +kernel, fun x v => by kernel_rfl, fun x V hV hdep K hK => ?_⟩
    clear hdep
    refine run_bare (by kernel_rfl) ?_
    unfold nmfFr
    go_simp
    refine kfit (hK _ _ (Below.refl _ V) rfl) ?_
    first | (simp only [nmfFr, Act.put, List.setIfInBounds_toArray, List.set_cons_zero, List.set_cons_succ, h5, h9, h15, h16, h17]; done) | (simp only [nmfFr, Act.put, List.setIfInBounds_toArray, List.set_cons_zero, List.set_cons_succ, h5, h9, h15, h16, h17]; rfl)
  -- 1: slot 122 := Op.move t121
  refine And.intro ?_ ?_
  · rw [← hf]; clear hf
    refine ⟨by decide +kernel, fun x v => by kernel_rfl, fun x V hV hdep K hK => ?_⟩
    have e0 : x 0 = .bool true := depOf hdep 0 (by decide +kernel)
    clear hdep
    refine run_bare (by kernel_rfl) ?_
    unfold nmfFr
    go_simp
    refine kfit (hK _ _ (Below.refl _ V) rfl) ?_
    first | (simp only [nmfFr, Act.put, List.setIfInBounds_toArray, List.set_cons_zero, List.set_cons_succ, h5, h9, h15, h16, h17, e0]; done) | (simp only [nmfFr, Act.put, List.setIfInBounds_toArray, List.set_cons_zero, List.set_cons_succ, h5, h9, h15, h16, h17, e0]; rfl)
  -- 2: slot 123 := Op.move t17
  refine And.intro ?_ ?_
  · rw [← hf]; clear hf
    refine ⟨by decide +kernel, fun x v => by kernel_rfl, fun x V hV hdep K hK => ?_⟩
    have e1 : x 1 = .bool true := depOf hdep 1 (by decide +kernel)
    clear hdep
    refine run_guard 1 122 (x 1) (by kernel_rfl) (by rw [hops]; exact nmf_dst_1) (by kernel_rfl) e1 ?_; clear hops
    unfold nmfFr
    go_simp
    refine kfit (hK _ _ (Below.refl _ V) rfl) ?_
    first | (simp only [nmfFr, Act.put, List.setIfInBounds_toArray, List.set_cons_zero, List.set_cons_succ, h5, h9, h15, h16, h17, e1]; done) | (simp only [nmfFr, Act.put, List.setIfInBounds_toArray, List.set_cons_zero, List.set_cons_succ, h5, h9, h15, h16, h17, e1]; rfl)
  -- 3: slot 124 := Op.unOp UnOp.not 4 t123
  refine And.intro ?_ ?_
  · rw [← hf]; clear hf
    refine ⟨by decide +kernel, fun x v => by kernel_rfl, fun x V hV hdep K hK => ?_⟩
    have e1 : x 1 = .bool true := depOf hdep 1 (by decide +kernel)
    have e2 : x 2 = .bool false := depOf hdep 2 (by decide +kernel)
    clear hdep
    refine run_guard 1 122 (x 1) (by kernel_rfl) (by rw [hops]; exact nmf_dst_1) (by kernel_rfl) e1 ?_; clear hops
    unfold nmfFr
    go_simp
    refine kfit (hK _ _ (Below.refl _ V) rfl) ?_
    first | (simp only [nmfFr, Act.put, List.setIfInBounds_toArray, List.set_cons_zero, List.set_cons_succ, h5, h9, h15, h16, h17, e1, e2]; done) | (simp only [nmfFr, Act.put, List.setIfInBounds_toArray, List.set_cons_zero, List.set_cons_succ, h5, h9, h15, h16, h17, e1, e2]; rfl)
  -- 4: slot 125 := Op.move t124
  refine And.intro ?_ ?_
  · rw [← hf]; clear hf
    refine ⟨by decide +kernel, fun x v => by kernel_rfl, fun x V hV hdep K hK => ?_⟩
    have e1 : x 1 = .bool true := depOf hdep 1 (by decide +kernel)
    have e3 : x 3 = .bool true := depOf hdep 3 (by decide +kernel)
    clear hdep
    refine run_guard 1 122 (x 1) (by kernel_rfl) (by rw [hops]; exact nmf_dst_1) (by kernel_rfl) e1 ?_; clear hops
    unfold nmfFr
    go_simp
    refine kfit (hK _ _ (Below.refl _ V) rfl) ?_
    first | (simp only [nmfFr, Act.put, List.setIfInBounds_toArray, List.set_cons_zero, List.set_cons_succ, h5, h9, h15, h16, h17, e1, e3]; done) | (simp only [nmfFr, Act.put, List.setIfInBounds_toArray, List.set_cons_zero, List.set_cons_succ, h5, h9, h15, h16, h17, e1, e3]; rfl)
  -- 5: slot 126 := Op.load 33 t9
  refine And.intro ?_ ?_
  · rw [← hf]; clear hf
    refine ⟨by decide +kernel, fun x v => by kernel_rfl, fun x V hV hdep K hK => ?_⟩
    have e4 : x 4 = .bool true := depOf hdep 4 (by decide +kernel)
    clear hdep
    refine run_skipF 4 125 (x 4) (by kernel_rfl) (by rw [hops]; exact nmf_dst_4) (by kernel_rfl) e4 ?_; clear hops
    exact hK _ _ (Below.refl _ V) ⟨_, rfl, trivial⟩
  -- 6: slot 127 := Op.load 33 t15
  refine And.intro ?_ ?_
  · rw [← hf]; clear hf
    refine ⟨by decide +kernel, fun x v => by kernel_rfl, fun x V hV hdep K hK => ?_⟩
    have e4 : x 4 = .bool true := depOf hdep 4 (by decide +kernel)
    clear hdep
    refine run_skipF 4 125 (x 4) (by kernel_rfl) (by rw [hops]; exact nmf_dst_4) (by kernel_rfl) e4 ?_; clear hops
    exact hK _ _ (Below.refl _ V) ⟨_, rfl, trivial⟩
  -- 7: slot 128 := Op.call { value (Operand.func 23), args := #[t126, t127], ar
  refine And.intro ?_ ?_
  · rw [← hf]; clear hf
    refine ⟨by decide +kernel, fun x v => by kernel_rfl, fun x V hV hdep K hK => ?_⟩
    have e4 : x 4 = .bool true := depOf hdep 4 (by decide +kernel)
    obtain ⟨qu5, e5, d5⟩ : ∃ qu5, x 5 = qu5 ∧ True := depOf hdep 5 (by decide +kernel)
    obtain ⟨qu6, e6, d6⟩ : ∃ qu6, x 6 = qu6 ∧ True := depOf hdep 6 (by decide +kernel)
    clear hdep
    refine run_skipF 4 125 (x 4) (by kernel_rfl) (by rw [hops]; exact nmf_dst_4) (by kernel_rfl) e4 ?_; clear hops
    exact hK _ _ (Below.refl _ V) ⟨_, rfl, trivial⟩
  -- 8: slot 129 := Op.pick t125 (const (Value.bool true)) t128
  refine And.intro ?_ ?_
  · rw [← hf]; clear hf
    refine ⟨by decide +kernel, fun x v => by kernel_rfl, fun x V hV hdep K hK => ?_⟩
    have e1 : x 1 = .bool true := depOf hdep 1 (by decide +kernel)
    have e4 : x 4 = .bool true := depOf hdep 4 (by decide +kernel)
    obtain ⟨qu7, e7, d7⟩ : ∃ qu7, x 7 = qu7 ∧ True := depOf hdep 7 (by decide +kernel)
    clear hdep
    refine run_guard 1 122 (x 1) (by kernel_rfl) (by rw [hops]; exact nmf_dst_1) (by kernel_rfl) e1 ?_; clear hops
    unfold nmfFr
    go_simp
    refine kfit (hK _ _ (Below.refl _ V) rfl) ?_
    first | (simp only [nmfFr, Act.put, List.setIfInBounds_toArray, List.set_cons_zero, List.set_cons_succ, h5, h9, h15, h16, h17, e1, e4, e7]; done) | (simp only [nmfFr, Act.put, List.setIfInBounds_toArray, List.set_cons_zero, List.set_cons_succ, h5, h9, h15, h16, h17, e1, e4, e7]; rfl)
  -- 9: slot 130 := Op.pick t122 t129 (const (Value.bool false))
  refine And.intro ?_ ?_
  · rw [← hf]; clear hf
    refine ⟨by decide +kernel, fun x v => by kernel_rfl, fun x V hV hdep K hK => ?_⟩
    have e1 : x 1 = .bool true := depOf hdep 1 (by decide +kernel)
    have e8 : x 8 = .bool true := depOf hdep 8 (by decide +kernel)
    clear hdep
    refine run_bare (by kernel_rfl) ?_
    unfold nmfFr
    go_simp
    refine kfit (hK _ _ (Below.refl _ V) rfl) ?_
    first | (simp only [nmfFr, Act.put, List.setIfInBounds_toArray, List.set_cons_zero, List.set_cons_succ, h5, h9, h15, h16, h17, e1, e8]; done) | (simp only [nmfFr, Act.put, List.setIfInBounds_toArray, List.set_cons_zero, List.set_cons_succ, h5, h9, h15, h16, h17, e1, e8]; rfl)
  -- 10: slot 131 := Op.move t130
  refine And.intro ?_ ?_
  · rw [← hf]; clear hf
    refine ⟨by decide +kernel, fun x v => by kernel_rfl, fun x V hV hdep K hK => ?_⟩
    have e9 : x 9 = .bool true := depOf hdep 9 (by decide +kernel)
    clear hdep
    refine run_bare (by kernel_rfl) ?_
    unfold nmfFr
    go_simp
    refine kfit (hK _ _ (Below.refl _ V) rfl) ?_
    first | (simp only [nmfFr, Act.put, List.setIfInBounds_toArray, List.set_cons_zero, List.set_cons_succ, h5, h9, h15, h16, h17, e9]; done) | (simp only [nmfFr, Act.put, List.setIfInBounds_toArray, List.set_cons_zero, List.set_cons_succ, h5, h9, h15, h16, h17, e9]; rfl)
  -- 11: slot 132 := Op.load 33 t16
  refine And.intro ?_ ?_
  · rw [← hf]; clear hf
    refine ⟨by decide +kernel, fun x v => by kernel_rfl, fun x V hV hdep K hK => ?_⟩
    have e10 : x 10 = .bool true := depOf hdep 10 (by decide +kernel)
    clear hdep
    refine run_guard 10 131 (x 10) (by kernel_rfl) (by rw [hops]; exact nmf_dst_10) (by kernel_rfl) e10 ?_; clear hops
    unfold nmfFr
    obtain ⟨y0, y1, y2, y3, y4⟩ := cells5 hV.1.1; obtain ⟨u0, u1, u2, u3, u4⟩ := cells5 hV.2.1.1; obtain ⟨v0, v1, v2, v3, v4⟩ := cells5 hV.2.2.1.1
    go_simp
    refine kfit (hK _ _ (Below.refl _ V) rfl) ?_
    first | (simp only [nmfFr, Act.put, List.setIfInBounds_toArray, List.set_cons_zero, List.set_cons_succ, h5, h9, h15, h16, h17, e10]; done) | (simp only [nmfFr, Act.put, List.setIfInBounds_toArray, List.set_cons_zero, List.set_cons_succ, h5, h9, h15, h16, h17, e10]; rfl)
  -- 12: slot 133 := Op.call { value (Operand.func 12), args := #[t132], argTypes
  refine And.intro ?_ ?_
  · rw [← hf]; clear hf
    refine ⟨by decide +kernel, fun x v => by kernel_rfl, fun x V hV hdep K hK => ?_⟩
    have e10 : x 10 = .bool true := depOf hdep 10 (by decide +kernel)
    have e11 : x 11 = .agg #[.slice za zl.length zc, .slice pa l2.length pc, .int .i64 u.kind, .string u.name, .slice ua u.kids.length uc] := depOf hdep 11 (by decide +kernel)
    clear hdep
    refine run_guard 10 131 (x 10) (by kernel_rfl) (by rw [hops]; exact nmf_dst_10) (by kernel_rfl) e10 ?_; clear hops
    unfold nmfFr
    obtain ⟨HC12, HC14, HC18, HC24⟩ := HC.out
    clear HC14 HC18 HC24
    have H := HC12 V hV
    replace H := Lib.hid H; clear HC12
    go_simp
    go_at_call 12
    refine H.out.mono ?_
    rintro e Y ⟨⟨ya, yc, yp, yq, yt, yu, rfl, hq⟩, hb⟩; refine kfit (hK _ _ hb ⟨ya, yc, yp, yq, yt, yu, rfl, hq⟩) ?_
    first | (simp only [nmfFr, Act.put, List.setIfInBounds_toArray, List.set_cons_zero, List.set_cons_succ, h5, h9, h15, h16, h17, e10, e11]; done) | (simp only [nmfFr, Act.put, List.setIfInBounds_toArray, List.set_cons_zero, List.set_cons_succ, h5, h9, h15, h16, h17, e10, e11]; rfl)
  -- 13: slot 134 := Op.load 33 t16
  refine And.intro ?_ ?_
  · rw [← hf]; clear hf
    refine ⟨by decide +kernel, fun x v => by kernel_rfl, fun x V hV hdep K hK => ?_⟩
    have e10 : x 10 = .bool true := depOf hdep 10 (by decide +kernel)
    clear hdep
    refine run_guard 10 131 (x 10) (by kernel_rfl) (by rw [hops]; exact nmf_dst_10) (by kernel_rfl) e10 ?_; clear hops
    unfold nmfFr
    obtain ⟨y0, y1, y2, y3, y4⟩ := cells5 hV.1.1; obtain ⟨u0, u1, u2, u3, u4⟩ := cells5 hV.2.1.1; obtain ⟨v0, v1, v2, v3, v4⟩ := cells5 hV.2.2.1.1
    go_simp
    refine kfit (hK _ _ (Below.refl _ V) rfl) ?_
    first | (simp only [nmfFr, Act.put, List.setIfInBounds_toArray, List.set_cons_zero, List.set_cons_succ, h5, h9, h15, h16, h17, e10]; done) | (simp only [nmfFr, Act.put, List.setIfInBounds_toArray, List.set_cons_zero, List.set_cons_succ, h5, h9, h15, h16, h17, e10]; rfl)
  -- 14: slot 135 := Op.call { value (Operand.func 10), args := #[t133, t134], ar
  refine And.intro ?_ ?_
  · rw [← hf]; clear hf
    refine ⟨by decide +kernel, fun x v => by kernel_rfl, fun x V hV hdep K hK => ?_⟩
    have e10 : x 10 = .bool true := depOf hdep 10 (by decide +kernel)
    obtain ⟨ya12, yc12, yp12, yq12, yt12, yu12, e12, d12⟩ : ∃ ya12 yc12 yp12 yq12 yt12 yu12, x 12 = .agg #[.slice ya12 zl.length yc12, .slice yp12 l2.length yq12, .int .i64 u.kind, .string u.name, .slice yt12 u.kids.length yu12] ∧ SmD u l2 zl yt12 yp12 ya12 yu12 yq12 yc12 V := depOf hdep 12 (by decide +kernel)
    have e13 : x 13 = .agg #[.slice za zl.length zc, .slice pa l2.length pc, .int .i64 u.kind, .string u.name, .slice ua u.kids.length uc] := depOf hdep 13 (by decide +kernel)
    clear hdep
    refine run_guard 10 131 (x 10) (by kernel_rfl) (by rw [hops]; exact nmf_dst_10) (by kernel_rfl) e10 ?_; clear hops
    unfold nmfFr
    obtain ⟨HC12, HC14, HC18, HC24⟩ := HC.out
    clear HC12 HC18 HC24
    have H := HC14 V hV _ _ _ _ _ _ d12
    replace H := Lib.hid H; clear HC14
    go_simp
    go_at_call 10
    refine H.out.mono ?_
    rintro e Y ⟨rfl, hb⟩; refine kfit (hK _ _ hb rfl) ?_
    first | (simp only [nmfFr, Act.put, List.setIfInBounds_toArray, List.set_cons_zero, List.set_cons_succ, h5, h9, h15, h16, h17, e10, e12, e13]; done) | (simp only [nmfFr, Act.put, List.setIfInBounds_toArray, List.set_cons_zero, List.set_cons_succ, h5, h9, h15, h16, h17, e10, e12, e13]; rfl)
  -- 15: slot 136 := Op.pick t131 t135 (const (Value.bool false))
  refine And.intro ?_ ?_
  · rw [← hf]; clear hf
    refine ⟨by decide +kernel, fun x v => by kernel_rfl, fun x V hV hdep K hK => ?_⟩
    have e10 : x 10 = .bool true := depOf hdep 10 (by decide +kernel)
    have e14 : x 14 = .bool true := depOf hdep 14 (by decide +kernel)
    clear hdep
    refine run_bare (by kernel_rfl) ?_
    unfold nmfFr
    go_simp
    refine kfit (hK _ _ (Below.refl _ V) rfl) ?_
    first | (simp only [nmfFr, Act.put, List.setIfInBounds_toArray, List.set_cons_zero, List.set_cons_succ, h5, h9, h15, h16, h17, e10, e14]; done) | (simp only [nmfFr, Act.put, List.setIfInBounds_toArray, List.set_cons_zero, List.set_cons_succ, h5, h9, h15, h16, h17, e10, e14]; rfl)
  -- 16: slot 137 := Op.move t136
  refine And.intro ?_ ?_
  · rw [← hf]; clear hf
    refine ⟨by decide +kernel, fun x v => by kernel_rfl, fun x V hV hdep K hK => ?_⟩
    have e15 : x 15 = .bool true := depOf hdep 15 (by decide +kernel)
    clear hdep
    refine run_bare (by kernel_rfl) ?_
    unfold nmfFr
    go_simp
    refine kfit (hK _ _ (Below.refl _ V) rfl) ?_
    first | (simp only [nmfFr, Act.put, List.setIfInBounds_toArray, List.set_cons_zero, List.set_cons_succ, h5, h9, h15, h16, h17, e15]; done) | (simp only [nmfFr, Act.put, List.setIfInBounds_toArray, List.set_cons_zero, List.set_cons_succ, h5, h9, h15, h16, h17, e15]; rfl)
  -- 17: slot 138 := Op.load 33 t9
  refine And.intro ?_ ?_
  · rw [← hf]; clear hf
    refine ⟨by decide +kernel, fun x v => by kernel_rfl, fun x V hV hdep K hK => ?_⟩
    have e16 : x 16 = .bool true := depOf hdep 16 (by decide +kernel)
    clear hdep
    refine run_guard 16 137 (x 16) (by kernel_rfl) (by rw [hops]; exact nmf_dst_16) (by kernel_rfl) e16 ?_; clear hops
    unfold nmfFr
    obtain ⟨y0, y1, y2, y3, y4⟩ := cells5 hV.1.1; obtain ⟨u0, u1, u2, u3, u4⟩ := cells5 hV.2.1.1; obtain ⟨v0, v1, v2, v3, v4⟩ := cells5 hV.2.2.1.1
    go_simp
    refine kfit (hK _ _ (Below.refl _ V) rfl) ?_
    first | (simp only [nmfFr, Act.put, List.setIfInBounds_toArray, List.set_cons_zero, List.set_cons_succ, h5, h9, h15, h16, h17, e16]; done) | (simp only [nmfFr, Act.put, List.setIfInBounds_toArray, List.set_cons_zero, List.set_cons_succ, h5, h9, h15, h16, h17, e16]; rfl)
  -- 18: slot 139 := Op.call { value (Operand.func 14), args := #[t138], argTypes
  refine And.intro ?_ ?_
  · rw [← hf]; clear hf
    refine ⟨by decide +kernel, fun x v => by kernel_rfl, fun x V hV hdep K hK => ?_⟩
    have e16 : x 16 = .bool true := depOf hdep 16 (by decide +kernel)
    have e17 : x 17 = .agg #[.slice fa F.length fc, .slice ca lc.length cc, .int .i64 t.kind, .string t.name, .slice ta t.kids.length tc] := depOf hdep 17 (by decide +kernel)
    clear hdep
    refine run_guard 16 137 (x 16) (by kernel_rfl) (by rw [hops]; exact nmf_dst_16) (by kernel_rfl) e16 ?_; clear hops
    unfold nmfFr
    obtain ⟨HC12, HC14, HC18, HC24⟩ := HC.out
    clear HC12 HC14 HC24
    have H := HC18 V hV
    replace H := Lib.hid H; clear HC18
    go_simp
    go_at_call 14
    refine H.out.mono ?_
    rintro e Y ⟨⟨ya, yc, rfl, hq⟩, hb⟩; refine kfit (hK _ _ hb ⟨ya, yc, rfl, hq⟩) ?_
    first | (simp only [nmfFr, Act.put, List.setIfInBounds_toArray, List.set_cons_zero, List.set_cons_succ, h5, h9, h15, h16, h17, e16, e17]; done) | (simp only [nmfFr, Act.put, List.setIfInBounds_toArray, List.set_cons_zero, List.set_cons_succ, h5, h9, h15, h16, h17, e16, e17]; rfl)
  -- 19: slot 140 := Op.call { builtin len, args := #[t139], argTypes := #[23] }
  refine And.intro ?_ ?_
  · rw [← hf]; clear hf
    refine ⟨by decide +kernel, fun x v => by kernel_rfl, fun x V hV hdep K hK => ?_⟩
    have e16 : x 16 = .bool true := depOf hdep 16 (by decide +kernel)
    obtain ⟨ya18, yc18, e18, d18⟩ : ∃ ya18 yc18, x 18 = .slice ya18 0 yc18 ∧ True := depOf hdep 18 (by decide +kernel)
    clear hdep
    refine run_guard 16 137 (x 16) (by kernel_rfl) (by rw [hops]; exact nmf_dst_16) (by kernel_rfl) e16 ?_; clear hops
    unfold nmfFr
    go_simp
    refine kfit (hK _ _ (Below.refl _ V) rfl) ?_
    first | (simp only [nmfFr, Act.put, List.setIfInBounds_toArray, List.set_cons_zero, List.set_cons_succ, h5, h9, h15, h16, h17, e16, e18]; done) | (simp only [nmfFr, Act.put, List.setIfInBounds_toArray, List.set_cons_zero, List.set_cons_succ, h5, h9, h15, h16, h17, e16, e18]; rfl)
  -- 20: slot 141 := Op.binOp BinOp.eql 3 t140 (const (0:i64)) 3
  refine And.intro ?_ ?_
  · rw [← hf]; clear hf
    refine ⟨by decide +kernel, fun x v => by kernel_rfl, fun x V hV hdep K hK => ?_⟩
    have e16 : x 16 = .bool true := depOf hdep 16 (by decide +kernel)
    have e19 : x 19 = .int .i64 0 := depOf hdep 19 (by decide +kernel)
    clear hdep
    refine run_guard 16 137 (x 16) (by kernel_rfl) (by rw [hops]; exact nmf_dst_16) (by kernel_rfl) e16 ?_; clear hops
    unfold nmfFr
    go_simp
    refine kfit (hK _ _ (Below.refl _ V) rfl) ?_
    first | (simp only [nmfFr, Act.put, List.setIfInBounds_toArray, List.set_cons_zero, List.set_cons_succ, h5, h9, h15, h16, h17, e16, e19]; done) | (simp only [nmfFr, Act.put, List.setIfInBounds_toArray, List.set_cons_zero, List.set_cons_succ, h5, h9, h15, h16, h17, e16, e19]; rfl)
  -- 21: slot 142 := Op.pick t137 t141 (const (Value.bool false))
  refine And.intro ?_ ?_
  · rw [← hf]; clear hf
    refine ⟨by decide +kernel, fun x v => by kernel_rfl, fun x V hV hdep K hK => ?_⟩
    have e16 : x 16 = .bool true := depOf hdep 16 (by decide +kernel)
    have e20 : x 20 = .bool true := depOf hdep 20 (by decide +kernel)
    clear hdep
    refine run_bare (by kernel_rfl) ?_
    unfold nmfFr
    go_simp
    refine kfit (hK _ _ (Below.refl _ V) rfl) ?_
    first | (simp only [nmfFr, Act.put, List.setIfInBounds_toArray, List.set_cons_zero, List.set_cons_succ, h5, h9, h15, h16, h17, e16, e20]; done) | (simp only [nmfFr, Act.put, List.setIfInBounds_toArray, List.set_cons_zero, List.set_cons_succ, h5, h9, h15, h16, h17, e16, e20]; rfl)
  -- 22: slot 143 := Op.move t142
  refine And.intro ?_ ?_
  · rw [← hf]; clear hf
    refine ⟨by decide +kernel, fun x v => by kernel_rfl, fun x V hV hdep K hK => ?_⟩
    have e21 : x 21 = .bool true := depOf hdep 21 (by decide +kernel)
    clear hdep
    refine run_bare (by kernel_rfl) ?_
    unfold nmfFr
    go_simp
    refine kfit (hK _ _ (Below.refl _ V) rfl) ?_
    first | (simp only [nmfFr, Act.put, List.setIfInBounds_toArray, List.set_cons_zero, List.set_cons_succ, h5, h9, h15, h16, h17, e21]; done) | (simp only [nmfFr, Act.put, List.setIfInBounds_toArray, List.set_cons_zero, List.set_cons_succ, h5, h9, h15, h16, h17, e21]; rfl)
  -- 23: slot 144 := Op.load 33 t16
  refine And.intro ?_ ?_
  · rw [← hf]; clear hf
    refine ⟨by decide +kernel, fun x v => by kernel_rfl, fun x V hV hdep K hK => ?_⟩
    have e22 : x 22 = .bool true := depOf hdep 22 (by decide +kernel)
    clear hdep
    refine run_guard 22 143 (x 22) (by kernel_rfl) (by rw [hops]; exact nmf_dst_22) (by kernel_rfl) e22 ?_; clear hops
    unfold nmfFr
    obtain ⟨y0, y1, y2, y3, y4⟩ := cells5 hV.1.1; obtain ⟨u0, u1, u2, u3, u4⟩ := cells5 hV.2.1.1; obtain ⟨v0, v1, v2, v3, v4⟩ := cells5 hV.2.2.1.1
    go_simp
    refine kfit (hK _ _ (Below.refl _ V) rfl) ?_
    first | (simp only [nmfFr, Act.put, List.setIfInBounds_toArray, List.set_cons_zero, List.set_cons_succ, h5, h9, h15, h16, h17, e22]; done) | (simp only [nmfFr, Act.put, List.setIfInBounds_toArray, List.set_cons_zero, List.set_cons_succ, h5, h9, h15, h16, h17, e22]; rfl)
  -- 24: slot 145 := Op.call { value (Operand.func 14), args := #[t144], argTypes
  refine And.intro ?_ ?_
  · rw [← hf]; clear hf
    refine ⟨by decide +kernel, fun x v => by kernel_rfl, fun x V hV hdep K hK => ?_⟩
    have e22 : x 22 = .bool true := depOf hdep 22 (by decide +kernel)
    have e23 : x 23 = .agg #[.slice za zl.length zc, .slice pa l2.length pc, .int .i64 u.kind, .string u.name, .slice ua u.kids.length uc] := depOf hdep 23 (by decide +kernel)
    clear hdep
    refine run_guard 22 143 (x 22) (by kernel_rfl) (by rw [hops]; exact nmf_dst_22) (by kernel_rfl) e22 ?_; clear hops
    unfold nmfFr
    obtain ⟨HC12, HC14, HC18, HC24⟩ := HC.out
    clear HC12 HC14 HC18
    have H := HC24 V hV
    replace H := Lib.hid H; clear HC24
    go_simp
    go_at_call 14
    refine H.out.mono ?_
    rintro e Y ⟨⟨ya, yc, rfl, hq⟩, hb⟩; refine kfit (hK _ _ hb ⟨ya, yc, rfl, hq⟩) ?_
    first | (simp only [nmfFr, Act.put, List.setIfInBounds_toArray, List.set_cons_zero, List.set_cons_succ, h5, h9, h15, h16, h17, e22, e23]; done) | (simp only [nmfFr, Act.put, List.setIfInBounds_toArray, List.set_cons_zero, List.set_cons_succ, h5, h9, h15, h16, h17, e22, e23]; rfl)
  -- 25: slot 146 := Op.call { builtin len, args := #[t145], argTypes := #[23] }
  refine And.intro ?_ ?_
  · rw [← hf]; clear hf
    refine ⟨by decide +kernel, fun x v => by kernel_rfl, fun x V hV hdep K hK => ?_⟩
    have e22 : x 22 = .bool true := depOf hdep 22 (by decide +kernel)
    obtain ⟨ya24, yc24, e24, d24⟩ : ∃ ya24 yc24, x 24 = .slice ya24 0 yc24 ∧ True := depOf hdep 24 (by decide +kernel)
    clear hdep
    refine run_guard 22 143 (x 22) (by kernel_rfl) (by rw [hops]; exact nmf_dst_22) (by kernel_rfl) e22 ?_; clear hops
    unfold nmfFr
    go_simp
    refine kfit (hK _ _ (Below.refl _ V) rfl) ?_
    first | (simp only [nmfFr, Act.put, List.setIfInBounds_toArray, List.set_cons_zero, List.set_cons_succ, h5, h9, h15, h16, h17, e22, e24]; done) | (simp only [nmfFr, Act.put, List.setIfInBounds_toArray, List.set_cons_zero, List.set_cons_succ, h5, h9, h15, h16, h17, e22, e24]; rfl)
  -- 26: slot 147 := Op.binOp BinOp.eql 3 t146 (const (0:i64)) 3
  refine And.intro ?_ ?_
  · rw [← hf]; clear hf
    refine ⟨by decide +kernel, fun x v => by kernel_rfl, fun x V hV hdep K hK => ?_⟩
    have e22 : x 22 = .bool true := depOf hdep 22 (by decide +kernel)
    have e25 : x 25 = .int .i64 0 := depOf hdep 25 (by decide +kernel)
    clear hdep
    refine run_guard 22 143 (x 22) (by kernel_rfl) (by rw [hops]; exact nmf_dst_22) (by kernel_rfl) e22 ?_; clear hops
    unfold nmfFr
    go_simp
    refine kfit (hK _ _ (Below.refl _ V) rfl) ?_
    first | (simp only [nmfFr, Act.put, List.setIfInBounds_toArray, List.set_cons_zero, List.set_cons_succ, h5, h9, h15, h16, h17, e22, e25]; done) | (simp only [nmfFr, Act.put, List.setIfInBounds_toArray, List.set_cons_zero, List.set_cons_succ, h5, h9, h15, h16, h17, e22, e25]; rfl)
  -- 27: slot 148 := Op.pick t143 t147 (const (Value.bool false))
  refine And.intro ?_ ?_
  · rw [← hf]; clear hf
    refine ⟨by decide +kernel, fun x v => by kernel_rfl, fun x V hV hdep K hK => ?_⟩
    have e22 : x 22 = .bool true := depOf hdep 22 (by decide +kernel)
    have e26 : x 26 = .bool true := depOf hdep 26 (by decide +kernel)
    clear hdep
    refine run_bare (by kernel_rfl) ?_
    unfold nmfFr
    go_simp
    refine kfit (hK _ _ (Below.refl _ V) rfl) ?_
    first | (simp only [nmfFr, Act.put, List.setIfInBounds_toArray, List.set_cons_zero, List.set_cons_succ, h5, h9, h15, h16, h17, e22, e26]; done) | (simp only [nmfFr, Act.put, List.setIfInBounds_toArray, List.set_cons_zero, List.set_cons_succ, h5, h9, h15, h16, h17, e22, e26]; rfl)
  -- 28: slot 4 := Op.assign t148
  refine And.intro ?_ ?_
  · rw [← hf]; clear hf
    refine ⟨by decide +kernel, fun x v => by kernel_rfl, fun x V hV hdep K hK => ?_⟩
    have e27 : x 27 = .bool true := depOf hdep 27 (by decide +kernel)
    clear hdep
    refine run_bare (by kernel_rfl) ?_
    unfold nmfFr
    go_simp
    refine kfit (hK _ _ (Below.refl _ V) rfl) ?_
    first | (simp only [nmfFr, Act.put, List.setIfInBounds_toArray, List.set_cons_zero, List.set_cons_succ, h5, h9, h15, h16, h17, e27]; done) | (simp only [nmfFr, Act.put, List.setIfInBounds_toArray, List.set_cons_zero, List.set_cons_succ, h5, h9, h15, h16, h17, e27]; rfl)
  exact trivial
theorem nmf_here {w : World} {b9 b15 b16 : Nat} {t s u : T} {lc ld l2 : List Pr} {F L zl : List ByteArray} {ta ca fa sa da la ua pa za : Option Addr} {tc cc fc sc dc lk uc pc zc : Nat}
    (HC12 : ∀ V, NmZ w b9 b15 b16 t s u lc ld l2 F L zl ta ca fa sa da la ua pa za tc cc fc sc dc lk uc pc zc V → Calls Tryz.prog 12 #[.agg #[.slice za zl.length zc, .slice pa l2.length pc, .int .i64 u.kind, .string u.name, .slice ua u.kids.length uc]] V fun e Y => (∃ ya yc yp yq yt yu, e = .returned (.agg #[.slice ya zl.length yc, .slice yp l2.length yq, .int .i64 u.kind, .string u.name, .slice yt u.kids.length yu]) ∧ SmD u l2 zl yt yp ya yu yq yc Y) ∧ Below V.heap.size V Y)
    (HC14 : ∀ V, NmZ w b9 b15 b16 t s u lc ld l2 F L zl ta ca fa sa da la ua pa za tc cc fc sc dc lk uc pc zc V → ∀ ya12, ∀ yc12, ∀ yp12, ∀ yq12, ∀ yt12, ∀ yu12, SmD u l2 zl yt12 yp12 ya12 yu12 yq12 yc12 V → Calls Tryz.prog 10 #[.agg #[.slice ya12 zl.length yc12, .slice yp12 l2.length yq12, .int .i64 u.kind, .string u.name, .slice yt12 u.kids.length yu12], .agg #[.slice za zl.length zc, .slice pa l2.length pc, .int .i64 u.kind, .string u.name, .slice ua u.kids.length uc]] V fun e Y => e = .returned (.bool true) ∧ Below V.heap.size V Y)
    (HC18 : ∀ V, NmZ w b9 b15 b16 t s u lc ld l2 F L zl ta ca fa sa da la ua pa za tc cc fc sc dc lk uc pc zc V → Calls Tryz.prog 14 #[.agg #[.slice fa F.length fc, .slice ca lc.length cc, .int .i64 t.kind, .string t.name, .slice ta t.kids.length tc]] V fun e Y => (∃ ya yc, e = .returned (.slice ya 0 yc) ∧ True) ∧ Below V.heap.size V Y)
    (HC24 : ∀ V, NmZ w b9 b15 b16 t s u lc ld l2 F L zl ta ca fa sa da la ua pa za tc cc fc sc dc lk uc pc zc V → Calls Tryz.prog 14 #[.agg #[.slice za zl.length zc, .slice pa l2.length pc, .int .i64 u.kind, .string u.name, .slice ua u.kids.length uc]] V fun e Y => (∃ ya yc, e = .returned (.slice ya 0 yc) ∧ True) ∧ Below V.heap.size V Y)
    {Q : Exit → Act → World → Prop} {ops : Array Oper} {a : Act} (X : World) (hops : ops = nmfOps)
    (h5 : a.tmps.getD 5 undef = .bool true) (h9 : a.tmps.getD 9 undef = .pointer (some ⟨b9, 0, none⟩)) (h15 : a.tmps.getD 15 undef = .pointer (some ⟨b15, 0, none⟩)) (h16 : a.tmps.getD 16 undef = .pointer (some ⟨b16, 0, none⟩)) (h17 : a.tmps.getD 17 undef = .bool false)
    (ha : a = nmfFr (fun j => a.tmps.getD j undef) a.defers (fun i => a.tmps.getD (if i = 28 then 4 else 121 + i) undef)) (hS : NmZ w b9 b15 b16 t s u lc ld l2 F L zl ta ca fa sa da la ua pa za tc cc fc sc dc lk uc pc zc X.drew)
    (hfin : ∀ x V, NmZ w b9 b15 b16 t s u lc ld l2 F L zl ta ca fa sa da la ua pa za tc cc fc sc dc lk uc pc zc V → x 28 = .bool true → Q .normal (nmfFr (fun j => a.tmps.getD j undef) a.defers x) V) : (Code.region 33 ops true).wp Tryz.prog Q a X :=
  cast (congrArg (fun z => (Code.region 33 ops true).wp Tryz.prog Q z X) ha.symm) (nmf_region (b := fun j => a.tmps.getD j undef) (d := a.defers) h5 h9 h15 h16 h17 HC12 HC14 HC18 HC24 hops _ X hS hfin)
end Go.Proofs.YtjnlchhikdfifaaGreatDoor
/- scheme: its last statement, a region of 13 operations that draws its order, by an invariant. (Made by a program.) -/
namespace Go.Proofs.YtjnlchhikdfifaaGreatDoor
open Go.RowKit Go.Sort Go.Lib
attribute [local go_sem] Oper.semAt_some

noncomputable def gfrOps : Array Oper := regionIn 1 (Tryz.f14.body.getD .skip)
def gfrFr (b : Nat → Value) (d : List Deferred) (x : Nat → Value) : Act := { tmps := #[b 0, b 1, b 2, x 11, x 12, x 8, x 0, x 1, x 2, x 3, x 4, x 5, x 6, x 7, x 9, x 10, b 16], defers := d }

def gfrVals (b1 : Nat) (xa ca ta : Option Addr) (xc cc tc : Nat) (xs L : List ByteArray) (lc : List Pr) (t : T) (i : Nat) (v : Value) (V : World) : Prop :=
  match i with
  | 0 => v = .pointer (some ⟨b1, 1, none⟩)
  | 1 => v = .slice ca lc.length cc
  | 2 => v = .pointer (some ⟨b1, 2, none⟩)
  | 3 => v = .agg #[.int .i64 (t).kind, .string (t).name, .slice ta (t).kids.length tc]
  | 4 => ∃ za zc, v = .slice za L.length zc ∧ TextsAt V (.slice za L.length zc) L
  | 5 => v = .pointer (some ⟨b1, 0, none⟩)
  | 6 => v = .slice xa xs.length xc
  | 7 => ∃ zi zp zo zq, v = .tuple #[.slice zi (L.filter (inB xs)).length zp, .slice zo (L.filter fun n => !inB xs n).length zq] ∧ (TextsAt V (.slice zi (L.filter (inB xs)).length zp) (L.filter (inB xs)) ∧ TextsAt V (.slice zo (L.filter fun n => !inB xs n).length zq) (L.filter fun n => !inB xs n))
  | 8 => ∃ zi zp zo zq, v = .tuple #[.slice zi (L.filter (inB xs)).length zp, .slice zo (L.filter fun n => !inB xs n).length zq] ∧ (TextsAt V (.slice zi (L.filter (inB xs)).length zp) (L.filter (inB xs)) ∧ TextsAt V (.slice zo (L.filter fun n => !inB xs n).length zq) (L.filter fun n => !inB xs n))
  | 9 => ∃ zi zp, v = .slice zi (L.filter (inB xs)).length zp ∧ TextsAt V (.slice zi (L.filter (inB xs)).length zp) (L.filter (inB xs))
  | 10 => ∃ zo zq, v = .slice zo (L.filter fun n => !inB xs n).length zq ∧ TextsAt V (.slice zo (L.filter fun n => !inB xs n).length zq) (L.filter fun n => !inB xs n)
  | 11 => ∃ zi zp, v = .slice zi (L.filter (inB xs)).length zp ∧ TextsAt V (.slice zi (L.filter (inB xs)).length zp) (L.filter (inB xs))
  | 12 => ∃ zo zq, v = .slice zo (L.filter fun n => !inB xs n).length zq ∧ TextsAt V (.slice zo (L.filter fun n => !inB xs n).length zq) (L.filter fun n => !inB xs n)
  | _ => True

theorem gfrVals_keep {b1 : Nat} {xa ca ta : Option Addr} {xc cc tc : Nat} {xs L : List ByteArray} {lc : List Pr} {t : T} (i : Nat) (v : Value) (V Y : World) (h : gfrVals b1 xa ca ta xc cc tc xs L lc t i v V) (hb : Below V.heap.size V Y) : gfrVals b1 xa ca ta xc cc tc xs L lc t i v Y := by
  unfold gfrVals at *
  split at h <;> first
    | exact h
    | (obtain ⟨za, zc, e, h⟩ := h; exact ⟨za, zc, e, h.below hb⟩)
    | (obtain ⟨zi, zp, zo, zq, e, h⟩ := h; exact ⟨zi, zp, zo, zq, e, ⟨h.1.below hb, h.2.below hb⟩⟩)
    | (obtain ⟨zi, zp, e, h⟩ := h; exact ⟨zi, zp, e, h.below hb⟩)
    | (obtain ⟨zo, zq, e, h⟩ := h; exact ⟨zo, zq, e, h.below hb⟩)

theorem gfr_size : gfrOps.size = 13 := by kernel_rfl
set_option linter.unusedSimpArgs false in
set_option maxRecDepth 100000 in
set_option maxHeartbeats 8000000 in
theorem gfr_region {w : World} {b1 : Nat} {xa ca ta : Option Addr} {xc cc tc : Nat} {xs L : List ByteArray} {lc : List Pr} {t : T} {b : Nat → Value} {d : List Deferred}
    (h1 : b 1 = .pointer (some ⟨b1, 0, none⟩))
    (HC4 : ∀ V, SFg w b1 xa xc xs ca cc lc t ta tc V → Calls Tryz.prog 38 #[.slice ca lc.length cc, .agg #[.int .i64 (t).kind, .string (t).name, .slice ta (t).kids.length tc]] V fun e Y => (∃ za zc, e = .returned (.slice za L.length zc) ∧ TextsAt Y (.slice za L.length zc) L) ∧ Below V.heap.size V Y)
    (HC7 : ∀ V, SFg w b1 xa xc xs ca cc lc t ta tc V → ∀ za4, ∀ zc4, TextsAt V (.slice za4 L.length zc4) L → Calls Tryz.prog 37 #[.slice za4 L.length zc4, .slice xa xs.length xc] V fun e Y => (∃ zi zp zo zq, e = .returned (.tuple #[.slice zi (L.filter (inB xs)).length zp, .slice zo (L.filter fun n => !inB xs n).length zq]) ∧ (TextsAt Y (.slice zi (L.filter (inB xs)).length zp) (L.filter (inB xs)) ∧ TextsAt Y (.slice zo (L.filter fun n => !inB xs n).length zq) (L.filter fun n => !inB xs n))) ∧ Below V.heap.size V Y)
    {Q : Exit → Act → World → Prop} {ops : Array Oper} (hops : ops = gfrOps) (x0 : Nat → Value) (X : World) (hS : SFg w b1 xa xc xs ca cc lc t ta tc X.drew)
    (hfin : ∀ (x : Nat → Value) V zi zp zo zq, SFg w b1 xa xc xs ca cc lc t ta tc V → x 11 = .slice zi (L.filter (inB xs)).length zp → x 12 = .slice zo (L.filter fun n => !inB xs n).length zq → TextsAt V (.slice zi (L.filter (inB xs)).length zp) (L.filter (inB xs)) → TextsAt V (.slice zo (L.filter fun n => !inB xs n).length zq) (L.filter fun n => !inB xs n) → Q .normal (gfrFr b d x) V) : (Code.region 1 ops true).wp Tryz.prog Q (gfrFr b d x0) X := by
  have HC := Lib.hid (And.intro HC4 HC7)
  clear HC4 HC7
  refine region_inv (gfrFr b d) (fun V => SFg w b1 xa xc xs ca cc lc t ta tc V) (fun V Y => Below V.heap.size V Y) (gfrVals b1 xa ca ta xc cc tc xs L lc t) x0 (by kernel_rfl) rfl hS (fun V Y h hb => h.below hb) (fun i v V Y _ h hb => gfrVals_keep i v V Y h hb) ?_ (fun x V hV h => by obtain ⟨zi, zp, e1, k1⟩ := h 11 (by rw [hops, gfr_size]; decide); obtain ⟨zo, zq, e2, k2⟩ := h 12 (by rw [hops, gfr_size]; decide); exact hfin x V zi zp zo zq hV e1 e2 k1 k2)
  clear hfin hS
  obtain ⟨f, hf⟩ : ∃ qq, StepAt Tryz.prog (gfrFr b d) (fun V => SFg w b1 xa xc xs ca cc lc t ta tc V) (fun V Y => Below V.heap.size V Y) (gfrVals b1 xa ca ta xc cc tc xs L lc t) ops Q = qq := ⟨_, rfl⟩
  rw [hf, hops]
  simp only [gfrOps, Tryz.f14, regionIn, Option.getD_some, Nat.reduceBEq, Bool.false_eq_true, if_false, if_true, beq_self_eq_true, Array.append_empty, Array.empty_append, List.append_eq, List.cons_append, List.nil_append, AllAt, Nat.reduceAdd, Nat.zero_add]
  -- 0: slot 6 := Op.fieldAddr 33 t1 1
  refine And.intro ?_ ?_
  · rw [← hf]; clear hf
    refine ⟨by decide +kernel, fun x v => by kernel_rfl, fun x V hV hdep K hK => ?_⟩
    clear hdep
    refine run_bare (by kernel_rfl) ?_
    unfold gfrFr
    go_simp
    refine kfit (hK _ _ (Below.refl _ V) rfl) ?_
    first | (simp only [gfrFr, Act.put, List.setIfInBounds_toArray, List.set_cons_zero, List.set_cons_succ, h1]; done) | (simp only [gfrFr, Act.put, List.setIfInBounds_toArray, List.set_cons_zero, List.set_cons_succ, h1]; rfl)
  -- 1: slot 7 := Op.load 28 t6
  refine And.intro ?_ ?_
  · rw [← hf]; clear hf
    refine ⟨by decide +kernel, fun x v => by kernel_rfl, fun x V hV hdep K hK => ?_⟩
    have e0 : x 0 = .pointer (some ⟨b1, 1, none⟩) := depOf hdep 0 (by decide +kernel)
    clear hdep
    refine run_bare (by kernel_rfl) ?_
    unfold gfrFr
    obtain ⟨y0, y1, y2, y3, y4⟩ := cells5 hV.1.1
    go_simp
    refine kfit (hK _ _ (Below.refl _ V) rfl) ?_
    first | (simp only [gfrFr, Act.put, List.setIfInBounds_toArray, List.set_cons_zero, List.set_cons_succ, h1, e0]; done) | (simp only [gfrFr, Act.put, List.setIfInBounds_toArray, List.set_cons_zero, List.set_cons_succ, h1, e0]; rfl)
  -- 2: slot 8 := Op.fieldAddr 33 t1 2
  refine And.intro ?_ ?_
  · rw [← hf]; clear hf
    refine ⟨by decide +kernel, fun x v => by kernel_rfl, fun x V hV hdep K hK => ?_⟩
    clear hdep
    refine run_bare (by kernel_rfl) ?_
    unfold gfrFr
    go_simp
    refine kfit (hK _ _ (Below.refl _ V) rfl) ?_
    first | (simp only [gfrFr, Act.put, List.setIfInBounds_toArray, List.set_cons_zero, List.set_cons_succ, h1]; done) | (simp only [gfrFr, Act.put, List.setIfInBounds_toArray, List.set_cons_zero, List.set_cons_succ, h1]; rfl)
  -- 3: slot 9 := Op.load 31 t8
  refine And.intro ?_ ?_
  · rw [← hf]; clear hf
    refine ⟨by decide +kernel, fun x v => by kernel_rfl, fun x V hV hdep K hK => ?_⟩
    have e2 : x 2 = .pointer (some ⟨b1, 2, none⟩) := depOf hdep 2 (by decide +kernel)
    clear hdep
    refine run_bare (by kernel_rfl) ?_
    unfold gfrFr
    obtain ⟨y0, y1, y2, y3, y4⟩ := cells5 hV.1.1
    go_simp
    refine kfit (hK _ _ (Below.refl _ V) rfl) ?_
    first | (simp only [gfrFr, Act.put, List.setIfInBounds_toArray, List.set_cons_zero, List.set_cons_succ, h1, e2]; done) | (simp only [gfrFr, Act.put, List.setIfInBounds_toArray, List.set_cons_zero, List.set_cons_succ, h1, e2]; rfl)
  -- 4: slot 10 := Op.call { value (Operand.func 38), args := #[t7, t9], argTyp
  refine And.intro ?_ ?_
  · rw [← hf]; clear hf
    refine ⟨by decide +kernel, fun x v => by kernel_rfl, fun x V hV hdep K hK => ?_⟩
    have e1 : x 1 = .slice ca lc.length cc := depOf hdep 1 (by decide +kernel)
    have e3 : x 3 = .agg #[.int .i64 (t).kind, .string (t).name, .slice ta (t).kids.length tc] := depOf hdep 3 (by decide +kernel)
    clear hdep
    refine run_bare (by kernel_rfl) ?_
    unfold gfrFr
    obtain ⟨HC4, HC7⟩ := HC.out
    clear HC7
    have H := HC4 V hV
    replace H := Lib.hid H; clear HC4
    go_simp
    go_at_call 38
    refine H.out.mono ?_
    rintro e Y ⟨⟨za, zc, rfl, hq⟩, hb⟩; refine kfit (hK _ _ hb ⟨za, zc, rfl, hq⟩) ?_
    first | (simp only [gfrFr, Act.put, List.setIfInBounds_toArray, List.set_cons_zero, List.set_cons_succ, h1, e1, e3]; done) | (simp only [gfrFr, Act.put, List.setIfInBounds_toArray, List.set_cons_zero, List.set_cons_succ, h1, e1, e3]; rfl)
  -- 5: slot 11 := Op.fieldAddr 33 t1 0
  refine And.intro ?_ ?_
  · rw [← hf]; clear hf
    refine ⟨by decide +kernel, fun x v => by kernel_rfl, fun x V hV hdep K hK => ?_⟩
    clear hdep
    refine run_bare (by kernel_rfl) ?_
    unfold gfrFr
    go_simp
    refine kfit (hK _ _ (Below.refl _ V) rfl) ?_
    first | (simp only [gfrFr, Act.put, List.setIfInBounds_toArray, List.set_cons_zero, List.set_cons_succ, h1]; done) | (simp only [gfrFr, Act.put, List.setIfInBounds_toArray, List.set_cons_zero, List.set_cons_succ, h1]; rfl)
  -- 6: slot 12 := Op.load 23 t11
  refine And.intro ?_ ?_
  · rw [← hf]; clear hf
    refine ⟨by decide +kernel, fun x v => by kernel_rfl, fun x V hV hdep K hK => ?_⟩
    have e5 : x 5 = .pointer (some ⟨b1, 0, none⟩) := depOf hdep 5 (by decide +kernel)
    clear hdep
    refine run_bare (by kernel_rfl) ?_
    unfold gfrFr
    obtain ⟨y0, y1, y2, y3, y4⟩ := cells5 hV.1.1
    go_simp
    refine kfit (hK _ _ (Below.refl _ V) rfl) ?_
    first | (simp only [gfrFr, Act.put, List.setIfInBounds_toArray, List.set_cons_zero, List.set_cons_succ, h1, e5]; done) | (simp only [gfrFr, Act.put, List.setIfInBounds_toArray, List.set_cons_zero, List.set_cons_succ, h1, e5]; rfl)
  -- 7: slot 13 := Op.call { value (Operand.func 37), args := #[t10, t12], argT
  refine And.intro ?_ ?_
  · rw [← hf]; clear hf
    refine ⟨by decide +kernel, fun x v => by kernel_rfl, fun x V hV hdep K hK => ?_⟩
    obtain ⟨za4, zc4, e4, d4⟩ : ∃ za4 zc4, x 4 = .slice za4 L.length zc4 ∧ TextsAt V (.slice za4 L.length zc4) L := depOf hdep 4 (by decide +kernel)
    have e6 : x 6 = .slice xa xs.length xc := depOf hdep 6 (by decide +kernel)
    clear hdep
    refine run_bare (by kernel_rfl) ?_
    unfold gfrFr
    obtain ⟨HC4, HC7⟩ := HC.out
    clear HC4
    have H := HC7 V hV _ _ d4
    replace H := Lib.hid H; clear HC7
    go_simp
    go_at_call 37
    refine H.out.mono ?_
    rintro e Y ⟨⟨zi, zp, zo, zq, rfl, hq⟩, hb⟩; refine kfit (hK _ _ hb ⟨zi, zp, zo, zq, rfl, hq⟩) ?_
    first | (simp only [gfrFr, Act.put, List.setIfInBounds_toArray, List.set_cons_zero, List.set_cons_succ, h1, e4, e6]; done) | (simp only [gfrFr, Act.put, List.setIfInBounds_toArray, List.set_cons_zero, List.set_cons_succ, h1, e4, e6]; rfl)
  -- 8: slot 5 := Op.move t13
  refine And.intro ?_ ?_
  · rw [← hf]; clear hf
    refine ⟨by decide +kernel, fun x v => by kernel_rfl, fun x V hV hdep K hK => ?_⟩
    obtain ⟨zi7, zp7, zo7, zq7, e7, d7⟩ : ∃ zi7 zp7 zo7 zq7, x 7 = .tuple #[.slice zi7 (L.filter (inB xs)).length zp7, .slice zo7 (L.filter fun n => !inB xs n).length zq7] ∧ (TextsAt V (.slice zi7 (L.filter (inB xs)).length zp7) (L.filter (inB xs)) ∧ TextsAt V (.slice zo7 (L.filter fun n => !inB xs n).length zq7) (L.filter fun n => !inB xs n)) := depOf hdep 7 (by decide +kernel)
    clear hdep
    refine run_bare (by kernel_rfl) ?_
    unfold gfrFr
    go_simp
    refine kfit (hK _ _ (Below.refl _ V) ⟨_, _, _, _, rfl, d7⟩) ?_
    first | (simp only [gfrFr, Act.put, List.setIfInBounds_toArray, List.set_cons_zero, List.set_cons_succ, h1, e7]; done) | (simp only [gfrFr, Act.put, List.setIfInBounds_toArray, List.set_cons_zero, List.set_cons_succ, h1, e7]; rfl)
  -- 9: slot 14 := Op.extract t5 0
  refine And.intro ?_ ?_
  · rw [← hf]; clear hf
    refine ⟨by decide +kernel, fun x v => by kernel_rfl, fun x V hV hdep K hK => ?_⟩
    obtain ⟨zi8, zp8, zo8, zq8, e8, d8⟩ : ∃ zi8 zp8 zo8 zq8, x 8 = .tuple #[.slice zi8 (L.filter (inB xs)).length zp8, .slice zo8 (L.filter fun n => !inB xs n).length zq8] ∧ (TextsAt V (.slice zi8 (L.filter (inB xs)).length zp8) (L.filter (inB xs)) ∧ TextsAt V (.slice zo8 (L.filter fun n => !inB xs n).length zq8) (L.filter fun n => !inB xs n)) := depOf hdep 8 (by decide +kernel)
    clear hdep
    refine run_bare (by kernel_rfl) ?_
    unfold gfrFr
    go_simp
    refine kfit (hK _ _ (Below.refl _ V) ⟨_, _, rfl, d8.1⟩) ?_
    first | (simp only [gfrFr, Act.put, List.setIfInBounds_toArray, List.set_cons_zero, List.set_cons_succ, h1, e8]; done) | (simp only [gfrFr, Act.put, List.setIfInBounds_toArray, List.set_cons_zero, List.set_cons_succ, h1, e8]; rfl)
  -- 10: slot 15 := Op.extract t5 1
  refine And.intro ?_ ?_
  · rw [← hf]; clear hf
    refine ⟨by decide +kernel, fun x v => by kernel_rfl, fun x V hV hdep K hK => ?_⟩
    obtain ⟨zi8, zp8, zo8, zq8, e8, d8⟩ : ∃ zi8 zp8 zo8 zq8, x 8 = .tuple #[.slice zi8 (L.filter (inB xs)).length zp8, .slice zo8 (L.filter fun n => !inB xs n).length zq8] ∧ (TextsAt V (.slice zi8 (L.filter (inB xs)).length zp8) (L.filter (inB xs)) ∧ TextsAt V (.slice zo8 (L.filter fun n => !inB xs n).length zq8) (L.filter fun n => !inB xs n)) := depOf hdep 8 (by decide +kernel)
    clear hdep
    refine run_bare (by kernel_rfl) ?_
    unfold gfrFr
    go_simp
    refine kfit (hK _ _ (Below.refl _ V) ⟨_, _, rfl, d8.2⟩) ?_
    first | (simp only [gfrFr, Act.put, List.setIfInBounds_toArray, List.set_cons_zero, List.set_cons_succ, h1, e8]; done) | (simp only [gfrFr, Act.put, List.setIfInBounds_toArray, List.set_cons_zero, List.set_cons_succ, h1, e8]; rfl)
  -- 11: slot 3 := Op.assign t14
  refine And.intro ?_ ?_
  · rw [← hf]; clear hf
    refine ⟨by decide +kernel, fun x v => by kernel_rfl, fun x V hV hdep K hK => ?_⟩
    obtain ⟨zi9, zp9, e9, d9⟩ : ∃ zi9 zp9, x 9 = .slice zi9 (L.filter (inB xs)).length zp9 ∧ TextsAt V (.slice zi9 (L.filter (inB xs)).length zp9) (L.filter (inB xs)) := depOf hdep 9 (by decide +kernel)
    clear hdep
    refine run_bare (by kernel_rfl) ?_
    unfold gfrFr
    go_simp
    refine kfit (hK _ _ (Below.refl _ V) ⟨_, _, rfl, d9⟩) ?_
    first | (simp only [gfrFr, Act.put, List.setIfInBounds_toArray, List.set_cons_zero, List.set_cons_succ, h1, e9]; done) | (simp only [gfrFr, Act.put, List.setIfInBounds_toArray, List.set_cons_zero, List.set_cons_succ, h1, e9]; rfl)
  -- 12: slot 4 := Op.assign t15
  refine And.intro ?_ ?_
  · rw [← hf]; clear hf
    refine ⟨by decide +kernel, fun x v => by kernel_rfl, fun x V hV hdep K hK => ?_⟩
    obtain ⟨zo10, zq10, e10, d10⟩ : ∃ zo10 zq10, x 10 = .slice zo10 (L.filter fun n => !inB xs n).length zq10 ∧ TextsAt V (.slice zo10 (L.filter fun n => !inB xs n).length zq10) (L.filter fun n => !inB xs n) := depOf hdep 10 (by decide +kernel)
    clear hdep
    refine run_bare (by kernel_rfl) ?_
    unfold gfrFr
    go_simp
    refine kfit (hK _ _ (Below.refl _ V) ⟨_, _, rfl, d10⟩) ?_
    first | (simp only [gfrFr, Act.put, List.setIfInBounds_toArray, List.set_cons_zero, List.set_cons_succ, h1, e10]; done) | (simp only [gfrFr, Act.put, List.setIfInBounds_toArray, List.set_cons_zero, List.set_cons_succ, h1, e10]; rfl)
  exact trivial
theorem gfr_here {w : World} {b1 : Nat} {xa ca ta : Option Addr} {xc cc tc : Nat} {xs L : List ByteArray} {lc : List Pr} {t : T}
    (HC4 : ∀ V, SFg w b1 xa xc xs ca cc lc t ta tc V → Calls Tryz.prog 38 #[.slice ca lc.length cc, .agg #[.int .i64 (t).kind, .string (t).name, .slice ta (t).kids.length tc]] V fun e Y => (∃ za zc, e = .returned (.slice za L.length zc) ∧ TextsAt Y (.slice za L.length zc) L) ∧ Below V.heap.size V Y)
    (HC7 : ∀ V, SFg w b1 xa xc xs ca cc lc t ta tc V → ∀ za4, ∀ zc4, TextsAt V (.slice za4 L.length zc4) L → Calls Tryz.prog 37 #[.slice za4 L.length zc4, .slice xa xs.length xc] V fun e Y => (∃ zi zp zo zq, e = .returned (.tuple #[.slice zi (L.filter (inB xs)).length zp, .slice zo (L.filter fun n => !inB xs n).length zq]) ∧ (TextsAt Y (.slice zi (L.filter (inB xs)).length zp) (L.filter (inB xs)) ∧ TextsAt Y (.slice zo (L.filter fun n => !inB xs n).length zq) (L.filter fun n => !inB xs n))) ∧ Below V.heap.size V Y)
    {Q : Exit → Act → World → Prop} {ops : Array Oper} {a : Act} (X : World) (hops : ops = gfrOps)
    (h1 : a.tmps.getD 1 undef = .pointer (some ⟨b1, 0, none⟩))
    (ha : a = gfrFr (fun j => a.tmps.getD j undef) a.defers (fun i => a.tmps.getD (if i = 8 then 5 else if i = 11 then 3 else if i = 12 then 4 else if i < 8 then 6 + i else 5 + i) undef)) (hS : SFg w b1 xa xc xs ca cc lc t ta tc X.drew)
    (hfin : ∀ (x : Nat → Value) V zi zp zo zq, SFg w b1 xa xc xs ca cc lc t ta tc V → x 11 = .slice zi (L.filter (inB xs)).length zp → x 12 = .slice zo (L.filter fun n => !inB xs n).length zq → TextsAt V (.slice zi (L.filter (inB xs)).length zp) (L.filter (inB xs)) → TextsAt V (.slice zo (L.filter fun n => !inB xs n).length zq) (L.filter fun n => !inB xs n) → Q .normal (gfrFr (fun j => a.tmps.getD j undef) a.defers x) V) : (Code.region 1 ops true).wp Tryz.prog Q a X :=
  cast (congrArg (fun z => (Code.region 1 ops true).wp Tryz.prog Q z X) ha.symm) (gfr_region (b := fun j => a.tmps.getD j undef) (d := a.defers) h1 HC4 HC7 hops _ X hS hfin)
end Go.Proofs.YtjnlchhikdfifaaGreatDoor
/- scheme.Free of a scheme with a context. -/
namespace Go.Proofs.YtjnlchhikdfifaaGreatDoor
open Go.RowKit Go.Sort Go.Lib
attribute [local go_sem] Oper.semAt_some

set_option maxRecDepth 100000 in
set_option maxHeartbeats 4000000 in
theorem freeG_any (V : List ByteArray) (t : T) (lc : List Pr) (xs : List ByteArray) (hok : SOK V t lc) (hxs : ∀ n ∈ xs, n.size ≤ 1000000) (hxl : xs.length ≤ 1000000) (xa ca ta : Option Addr) (xc cc tc : Nat) (w : World) (ht : TysAt w (.slice ta t.kids.length tc) t.kids) (hx : TextsAt w (.slice xa xs.length xc) xs) (hP : PrsAt w (.slice ca lc.length cc) lc) :
    Calls Tryz.prog 14 #[.agg #[.slice xa xs.length xc, .slice ca lc.length cc, .int .i64 t.kind, .string t.name, .slice ta t.kids.length tc]] w fun e w' =>
      (∃ va vc, e = .returned (.slice va (osOf t lc xs).length vc) ∧ TextsAt w' (.slice va (osOf t lc xs).length vc) (osOf t lc xs)) ∧ Below w.heap.size w w' := by
  have hb0 := (Below.refl w.heap.size w).alloc (Nat.le_refl _) (.cells #[.slice xa xs.length xc, .slice ca lc.length cc, .int .i64 t.kind, .string t.name, .slice ta t.kids.length tc] 33)
  have HS := Lib.hid (show SFg w w.heap.size xa xc xs ca cc lc t ta tc (w.alloc (.cells #[.slice xa xs.length xc, .slice ca lc.length cc, .int .i64 t.kind, .string t.name, .slice ta t.kids.length tc] 33)) from ⟨SchB.new ht, hx.below hb0, hP.belowG hb0, hb0⟩)
  have HOk := Lib.hid hok; have HXS := Lib.hid hxs
  clear hb0 ht hx hP hok hxs
  unfold osOf
  obtain ⟨L, hL⟩ : ∃ L, fvs [] [] (t :: lc.map (·.2)) = L := ⟨_, rfl⟩
  have HAll := Lib.hid HOk.out.all
  have HL := Lib.hid hL
  rw [hL] at HAll ⊢
  clear hL
  go_enter Tryz.func14, Tryz.ntmps14
  go_wp2_with (fail)
  refine gfr_here (w := w) (b1 := w.heap.size) (xa := xa) (ca := ca) (ta := ta) (xc := xc) (cc := cc) (tc := tc) (xs := xs) (lc := lc) (t := t) (L := L)
    (fun V h => by
      have := varsG_any t lc (fun u hu => (HOk.out.2.2 u hu).2.1) (by have := HOk.out.all.2.2.2; omega) (by have := HOk.out.2.1; omega) _ _ _ _ V h.1.2 h.2.2.1
      rw [HL.out] at this
      refine this.mono fun e Y hq => ?_
      obtain ⟨⟨v, rfl, hv⟩, hb⟩ := hq
      obtain ⟨a', c', rfl⟩ := hv.shape
      exact ⟨⟨a', c', rfl, hv⟩, hb⟩)
    (fun V h _ _ k => (split_any _ _ (by have := HAll.out.2.1; omega) hxl (fun n hn => by have := HAll.out.2.2.1 n hn; omega) HXS.out _ _ _ _ V k h.2.1).mono fun e Y hq => by
      obtain ⟨⟨vi, vo, rfl, hvi, hvo⟩, hb⟩ := hq
      obtain ⟨ia, ic, rfl⟩ := hvi.shape
      obtain ⟨oa, oc, rfl⟩ := hvo.shape
      exact ⟨⟨ia, ic, oa, oc, rfl, hvi, hvo⟩, hb⟩)
    _ (by kernel_rfl) (by kernel_rfl) (by kernel_rfl) (HS.out.below (below_d _)) ?_
  intro x V zi zp zo zq hV e11 e12 _ k2
  have HEnd := Lib.hid (And.intro k2 hV.2.2.2)
  clear k2 hV HXS HS HAll HOk HL
  simp only [gfrFr, e11, e12]
  simp only [Array.getD_eq_getD_getElem?, List.getElem?_toArray, List.getElem?_cons_succ, List.getElem?_cons_zero, Option.getD_some]
  generalize hL2 : (L.filter fun n => !inB xs n) = L2 at *
  go_wp2
  go_ret
  subst hL2
  exact ⟨⟨_, _, rfl, HEnd.out.1⟩, HEnd.out.2⟩
end Go.Proofs.YtjnlchhikdfifaaGreatDoor
/- SchemeNames: small facts of its walk. -/
namespace Go.Proofs.YtjnlchhikdfifaaGreatDoor
open Go.RowKit Go.Sort Go.Lib
attribute [local go_sem] Oper.semAt_some

theorem tys_lit {W : World} {t : T} {ta : Option Addr} {tc : Nat} (h : TysAt W (.slice ta t.kids.length tc) t.kids) : TysAt (W.alloc (.cells #[.int .i64 t.kind, .string t.name, .slice ta t.kids.length tc] 31)) (.slice (some ⟨W.heap.size, 0, none⟩) 1 1) [t] :=
  tys_own1 (base := 0) ⟨rfl, .inr ⟨W.heap.size, 1, _, rfl, Nat.zero_le _, alloc_new W _, Nat.le_refl _, by unfold maxLen; omega, rfl, rfl⟩⟩ (h.keep (keepT_alloc W _))
/-- The variables of one type. -/
theorem vars_one {t : T} (hs : tsize t ≤ 200) {ta : Option Addr} {tc : Nat} {W : World} (h : TysAt W (.slice ta t.kids.length tc) t.kids) :
    Calls Tryz.prog 28 #[.slice (some ⟨W.heap.size, 0, none⟩) 1 1] (W.alloc (.cells #[.int .i64 t.kind, .string t.name, .slice ta t.kids.length tc] 31)) fun e w' => (∃ va vc, e = .returned (.slice va (fvs [] [] [t]).length vc) ∧ TextsAt w' (.slice va (fvs [] [] [t]).length vc) (fvs [] [] [t])) ∧ Below W.heap.size W w' := by
  refine (rVars_any [t] (by simp [tsizes]; omega) (some ⟨W.heap.size, 0, none⟩) 1 _ (tys_lit h)).mono ?_
  rintro e w' ⟨⟨v, rfl, hv⟩, hb⟩
  obtain ⟨va, vc, rfl⟩ := hv.shape
  exact ⟨⟨va, vc, rfl, hv⟩, ((Below.refl _ W).alloc (Nat.le_refl _) _).trans (hb.mono (by simp))⟩
theorem fvs_one {t : T} (h : Plain3 t) (x : ByteArray) : x ∈ fvs [] [] [t] ↔ x ∈ vs t := by
  rw [fvs_inN [t] (fun u hu => by rw [List.mem_singleton.1 hu]; exact h.no) x]; simp
/-- The four rows of names. -/
theorem tab_row (W : World) (o : Obj) : ∀ nn, nn < 4 → TRow (W.heap.size + nn) (NL nn) (((((W.alloc (.cells #[.string ⟨#[120]⟩, .string ⟨#[121]⟩, .string ⟨#[122]⟩] 9)).alloc (.cells #[.string ⟨#[98]⟩, .string ⟨#[99]⟩, .string ⟨#[97]⟩] 9)).alloc (.cells #[.string ⟨#[99]⟩, .string ⟨#[97]⟩, .string ⟨#[98]⟩] 9)).alloc (.cells #[.string ⟨#[113, 49]⟩, .string ⟨#[97]⟩, .string ⟨#[122, 122]⟩] 9)).alloc o) := by
  have key : ∀ (g : Nat) (V : World) (a b c : ByteArray), V.heap[g]? = some (.cells #[.string a, .string b, .string c] 9 (0, 0)) → TRow g [a, b, c] V := fun g V a b c h => ⟨_, _, h, fun i hi => by
    match i, hi with
    | 0, _ => rfl
    | 1, _ => rfl
    | 2, _ => rfl
    | n + 3, hi => exact absurd hi (by simp)⟩
  have up : ∀ (V : World) (o : Obj) (k : Nat) (c : Obj), V.heap[k]? = some c → (V.alloc o).heap[k]? = some c := fun V o k c h => (Below.heap_alloc V o k (Array.getElem?_eq_some_iff.1 h).1).trans h
  intro nn hnn
  match nn, hnn with
  | 0, _ => exact key _ _ _ _ _ (up _ _ _ _ (up _ _ _ _ (up _ _ _ _ (up _ _ _ _ (alloc_new W _)))))
  | 1, _ => exact key _ _ _ _ _ (up _ _ _ _ (up _ _ _ _ (up _ _ _ _ (by have := alloc_new (W.alloc (.cells #[.string ⟨#[120]⟩, .string ⟨#[121]⟩, .string ⟨#[122]⟩] 9)) (.cells #[.string ⟨#[98]⟩, .string ⟨#[99]⟩, .string ⟨#[97]⟩] 9); simpa using this))))
  | 2, _ => exact key _ _ _ _ _ (up _ _ _ _ (up _ _ _ _ (by have := alloc_new ((W.alloc (.cells #[.string ⟨#[120]⟩, .string ⟨#[121]⟩, .string ⟨#[122]⟩] 9)).alloc (.cells #[.string ⟨#[98]⟩, .string ⟨#[99]⟩, .string ⟨#[97]⟩] 9)) (.cells #[.string ⟨#[99]⟩, .string ⟨#[97]⟩, .string ⟨#[98]⟩] 9); simpa using this)))
  | 3, _ => exact key _ _ _ _ _ (up _ _ _ _ (by have := alloc_new (((W.alloc (.cells #[.string ⟨#[120]⟩, .string ⟨#[121]⟩, .string ⟨#[122]⟩] 9)).alloc (.cells #[.string ⟨#[98]⟩, .string ⟨#[99]⟩, .string ⟨#[97]⟩] 9)).alloc (.cells #[.string ⟨#[99]⟩, .string ⟨#[97]⟩, .string ⟨#[98]⟩] 9)) (.cells #[.string ⟨#[113, 49]⟩, .string ⟨#[97]⟩, .string ⟨#[122, 122]⟩] 9); simpa using this))
  | n + 4, h => omega
theorem abc_at : ∀ ix, ix < 3 → (#[Value.string ⟨#[97]⟩, .string ⟨#[98]⟩, .string ⟨#[99]⟩] : Array Value)[ix]? = some (.string (V3.getD ix ⟨#[]⟩))
  | 0, _ => rfl
  | 1, _ => rfl
  | 2, _ => rfl
  | n + 3, h => by omega
/-- Backwards. -/
theorem rev_take {ps : List PR} {i k : Nat} (h : k + (i + 1) = ps.length) : ps.reverse.take (k + 1) = ps.reverse.take k ++ [ps.getD i noP] := by
  have hk : k < ps.reverse.length := by simp; omega
  rw [List.take_succ_eq_append_getElem hk, List.getElem_reverse]
  congr 2
  rw [show ps.getD i noP = ps[i]'(by omega) by simp [List.getD, show i < ps.length by omega]]
  congr 1
  omega
/-- A row that grows, beside all that was there. -/
def RvI (w : World) (ps : List PR) (k : Nat) (v : Value) (V : World) : Prop := V.ownsRow w.heap.size 55 4 v k (cellsP (ps.reverse.take k)) ∧ Below w.heap.size w V
/-- What is renamed has good types. -/
theorem sok_ren {t : T} {lc : List Pr} (nn : Nat) (h : SOK V3 t lc) : SOK (NL nn) (sub (rnS nn) t) (appP (prs V3 (NL nn)) lc.reverse) := by
  have hv : VOK (NL nn) := ⟨by rw [(nl_ok nn).1]; decide, (nl_ok nn).2.2⟩
  refine ⟨hv, by simpa [appP] using h.2.1, fun u hu => ?_⟩
  rcases List.mem_cons.1 hu with rfl | hu
  · exact tok_ren (h.2.2 t (List.mem_cons_self ..)) hv (rn_ok nn).1
  · obtain ⟨q, hq, rfl⟩ := List.mem_map.1 hu
    obtain ⟨q0, h0, rfl⟩ := List.mem_map.1 hq
    show TOK (NL nn) (app (prs V3 (NL nn)) q0.2)
    rw [app_sub]
    exact tok_ren (h.2.2 q0.2 (List.mem_cons_of_mem _ (List.mem_map.2 ⟨q0, List.mem_reverse.1 h0, rfl⟩))) hv (rn_ok nn).1
theorem mem_ren {lc : List Pr} (nn : Nat) (q : Pr) : q ∈ appP (prs V3 (NL nn)) lc.reverse ↔ ∃ q0 ∈ lc, q = (q0.1, sub (rnS nn) q0.2) := by
  unfold appP
  rw [List.mem_map]
  constructor
  · rintro ⟨q0, h0, rfl⟩; exact ⟨q0, List.mem_reverse.1 h0, by rw [app_sub]; rfl⟩
  · rintro ⟨q0, h0, rfl⟩; exact ⟨q0, List.mem_reverse.2 h0, by rw [app_sub]; rfl⟩
end Go.Proofs.YtjnlchhikdfifaaGreatDoor
/- SchemeNames, walked. -/
namespace Go.Proofs.YtjnlchhikdfifaaGreatDoor
open Go.RowKit Go.Sort Go.Lib
attribute [local go_sem] Oper.semAt_some

set_option maxRecDepth 100000 in
set_option maxHeartbeats 16000000 in
theorem snames_law (a1 : Option Addr) (n1 c1 : Nat) (z : Int) (w : World) (hl1 : IntsAt w.heap.size a1 n1 w) :
    Calls Tryz.prog 4 #[.slice a1 n1 c1, .int .i64 z] w fun e w' => e = .returned (.bool true) ∧ Below w.heap.size w w' := by
  have HL1 := Lib.hid hl1
  clear hl1
  by_cases hb1 : n1 ≤ 100
  · have hn1 : n1 < 1152921504606846976 := by omega
    have hb1I : ¬ ((100 : Int) < (n1 : Int)) := by omega
    obtain ⟨nn, hnn, hm⟩ := mod4S z
    go_enter Tryz.func4, Tryz.ntmps4
    go_wp2_with (go_at_call 5; refine (first8_any _).mono ?_; rintro e w' ⟨rfl, rfl⟩)
    refine (make_n3 w.heap.size w.heap.size a1 n1 c1 0 _ (seq_new (Below.refl _ _) HL1.out) (by decide) hn1).mono ?_
    rintro e W1 ⟨⟨t, u0, rfl, hg, hu⟩, ⟨k1, hk1, hs1⟩, hf1⟩
    obtain ⟨pa0, ca0, rfl⟩ := hu.shape
    have hts : tsize t ≤ 112 := by have := size_text t hg.1; have := hg.2.2; omega
    have HB1 := Lib.hid (((Below.refl w.heap.size w).alloc (Nat.le_refl _) _).trans hf1.1)
    have HT1 := Lib.hid hu.tys
    have HG := Lib.hid hg.1
    have HS1 := Lib.hid hs1
    have hW1 : w.heap.size < W1.heap.size := hs1.lt
    clear hu hf1 hg hs1 HL1
    simp only [tyV]
    go_wp2_with (go_at_call 7; fail)
    refine (make_predsG 4 0 2 14 (by decide) (by decide) w.heap.size w.heap.size a1 n1 c1 k1 _ (HS1.out.below ((Below.refl _ W1).alloc (Nat.le_refl _) _)) (by omega) (fun k W hs hk => make_n0 w.heap.size w.heap.size a1 n1 c1 k W hs (by omega) hn1) hn1).mono ?_
    rintro e W2 ⟨⟨lc, v, rfl, ⟨hl4, hq⟩, hp⟩, _, hf2⟩
    obtain ⟨va, vc, rfl⟩ := hp.shape
    have hx := hf2.2 _ _ (alloc_new W1 _) (by omega)
    obtain ⟨x0, x1, x2⟩ := three_cells hx
    have hT2 := HT1.out.keep ((keepT_alloc W1 _).trans (KeepT.of_mk hf2 (HS1.out.below ((Below.refl _ W1).alloc (Nat.le_refl _) _))))
    have HX2 := Lib.hid (And.intro hx hT2)
    have HB2 := Lib.hid ((HB1.out.alloc (by omega) _).trans hf2.1)
    have HP2 := Lib.hid hp
    have HOk := Lib.hid (show SOK V3 t lc from ⟨vok3, by omega, fun u hu => by
      rcases List.mem_cons.1 hu with rfl | hu
      · exact tok_good HG.out (by omega)
      · obtain ⟨q, hq', rfl⟩ := List.mem_map.1 hu
        have h1 := hq q hq'
        exact tok_good h1.1 (by have := size_text q.2 h1.1; have := h1.2.2; omega)⟩)
    have HLeaf := Lib.hid (show ∀ q ∈ lc, LeafT q.2 from fun q hq' => leaf_small (hq q hq').1 (by have := (hq q hq').2.2; omega))
    obtain ⟨F, hF⟩ : ∃ l, fvs [] [] (t :: lc.map (·.2)) = l := ⟨_, rfl⟩
    have HCF := Lib.hid (show ClosedBy t lc F from hF ▸ sok_closed HOk.out)
    have HFs := Lib.hid (show (∀ n ∈ F, n.size ≤ 1000) ∧ F.length ≤ 4 from hF ▸ ⟨HOk.out.all.2.2.1, HOk.out.all.2.1⟩)
    have HCl := Lib.hid (rclose_any t lc F hF (by have := HFs.out.2; omega) (by have := HOk.out.all.2.2.2; omega) pa0 va ca0 vc W2 hT2 hp (by omega))
    clear hx hp hq hF hf2 HT1 HS1 HB1 hT2
    go_wp2_with (go_at_call 17; fail)
    refine HCl.out.mono ?_
    rintro e W3 ⟨⟨fa, fc, rfl, hTx⟩, hb3⟩
    obtain ⟨W3b, hW3b⟩ : ∃ W, W3.alloc (.cells #[.slice fa F.length fc, .slice va lc.length vc, .int .i64 t.kind, .string t.name, .slice pa0 t.kids.length ca0] 33) = W := ⟨_, rfl⟩
    have hal := hb3.alloc hb3.size (.cells #[.slice fa F.length fc, .slice va lc.length vc, .int .i64 t.kind, .string t.name, .slice pa0 t.kids.length ca0] 33)
    have hal3 := (Below.refl _ W3).alloc (Nat.le_refl _) (.cells #[.slice fa F.length fc, .slice va lc.length vc, .int .i64 t.kind, .string t.name, .slice pa0 t.kids.length ca0] 33)
    have hn9 := alloc_new W3 (.cells #[.slice fa F.length fc, .slice va lc.length vc, .int .i64 t.kind, .string t.name, .slice pa0 t.kids.length ca0] 33)
    have hsz3 : (W3.alloc (.cells #[.slice fa F.length fc, .slice va lc.length vc, .int .i64 t.kind, .string t.name, .slice pa0 t.kids.length ca0] 33)).heap.size = W3.heap.size + 1 := by simp
    rw [hW3b] at hal hal3 hn9 hsz3
    -- all that is there, behind Close
    have H3 := Lib.hid (show NmB W3.heap.size t lc F pa0 va fa ca0 vc fc W3b ∧ BoxT W1.heap.size t pa0 ca0 W3b ∧ Below w.heap.size w W3b from
      ⟨⟨hn9, hTx.below hal3, HP2.out.belowG hal, HX2.out.2.keep (KeepT.of_below hal)⟩, ⟨(hal.block _ (Array.getElem?_eq_some_iff.1 HX2.out.1).1).trans HX2.out.1, HX2.out.2.keep (KeepT.of_below hal)⟩, HB2.out.trans (hal.mono HB2.out.size)⟩)
    have htab := tab_at (W3.heap.size + 1) nn hnn
    have hnnI : (nn : Int) < 4 := by omega
    have hnn0 : (0 : Int) ≤ (nn : Int) := by omega
    clear hal hal3 hn9 hTx hb3 HCl HX2 HP2 HB2 x0 x1 x2
    go_wp2_with fail
    have hrow := tab_row W3b (.cells #[.slice (some ⟨W3.heap.size + 1, 0, none⟩) 3 3, .slice (some ⟨W3.heap.size + 1 + 1, 0, none⟩) 3 3, .slice (some ⟨W3.heap.size + 1 + 1 + 1, 0, none⟩) 3 3, .slice (some ⟨W3.heap.size + 1 + 1 + 1 + 1, 0, none⟩) 3 3] 23) nn hnn
    have hb5 : Below W3b.heap.size W3b (((((W3b.alloc (.cells #[.string ⟨#[120]⟩, .string ⟨#[121]⟩, .string ⟨#[122]⟩] 9)).alloc (.cells #[.string ⟨#[98]⟩, .string ⟨#[99]⟩, .string ⟨#[97]⟩] 9)).alloc (.cells #[.string ⟨#[99]⟩, .string ⟨#[97]⟩, .string ⟨#[98]⟩] 9)).alloc (.cells #[.string ⟨#[113, 49]⟩, .string ⟨#[97]⟩, .string ⟨#[122, 122]⟩] 9)).alloc (.cells #[.slice (some ⟨W3.heap.size + 1, 0, none⟩) 3 3, .slice (some ⟨W3.heap.size + 1 + 1, 0, none⟩) 3 3, .slice (some ⟨W3.heap.size + 1 + 1 + 1, 0, none⟩) 3 3, .slice (some ⟨W3.heap.size + 1 + 1 + 1 + 1, 0, none⟩) 3 3] 23)) :=
      (((((Below.refl _ W3b).alloc (Nat.le_refl _) _).alloc (by simp) _).alloc (by simp; omega) _).alloc (by simp; omega) _).alloc (by simp; omega) _
    generalize (((((W3b.alloc (.cells #[.string ⟨#[120]⟩, .string ⟨#[121]⟩, .string ⟨#[122]⟩] 9)).alloc (.cells #[.string ⟨#[98]⟩, .string ⟨#[99]⟩, .string ⟨#[97]⟩] 9)).alloc (.cells #[.string ⟨#[99]⟩, .string ⟨#[97]⟩, .string ⟨#[98]⟩] 9)).alloc (.cells #[.string ⟨#[113, 49]⟩, .string ⟨#[97]⟩, .string ⟨#[122, 122]⟩] 9)).alloc (.cells #[.slice (some ⟨W3.heap.size + 1, 0, none⟩) 3 3, .slice (some ⟨W3.heap.size + 1 + 1, 0, none⟩) 3 3, .slice (some ⟨W3.heap.size + 1 + 1 + 1, 0, none⟩) 3 3, .slice (some ⟨W3.heap.size + 1 + 1 + 1 + 1, 0, none⟩) 3 3] 23)) = W5 at *
    rw [hsz3] at hrow
    have H5 := Lib.hid (And.intro (H3.out.1.below hb5) (And.intro (H3.out.2.1.below hb5) (And.intro (H3.out.2.2.trans (hb5.mono H3.out.2.2.size)) hrow)))
    obtain ⟨gN, hgN⟩ : ∃ g, W3.heap.size + 1 + nn = g := ⟨_, rfl⟩
    rw [hgN] at H5
    rw [hgN]
    have hN3 := (nl_ok nn).1
    clear hrow hb5 hgN htab hW3b hsz3 H3 hm
    go_loopw [11, 12] (fun vo vi wr => ∃ (i d : Nat) (b : Option Addr), i ≤ 3 ∧ vi = .int .i64 i ∧ vo = .slice b i d ∧ Hid (FrN W5 (NL nn) V3 i (.slice b i d) wr)) (fun _ vi _ => 3 - (intOf vi).toNat)
    case atStart => exact ⟨0, 0, none, Nat.zero_le _, rfl, rfl, Lib.hid (frn_start _ _ _)⟩
    case round =>
      obtain ⟨i, d, b, hi', rfl, rfl, hN⟩ := hrel
      by_cases hlt : i < 3
      · have hltI : (i : Int) < 3 := by omega
        have hi0 : (0 : Int) ≤ (i : Int) := by omega
        obtain ⟨ds, hds, hdp, hdo, hd0⟩ := hN.out
        have HSt := Lib.hid (And.intro (H5.out.2.2.2.below hdo.2) hdo)
        have HDp := Lib.hid (And.intro hds hdp)
        have hds3 : ds.length ≤ 1000 := by omega
        clear hdo hdp hds hd0 hN
        go_wp2_with fail
        refine nma_here (w1 := W5) (gN := gN) (ix := i) (N := NL nn) (fx := (NL nn).getD i ⟨#[]⟩) (pr := (⟨V3.getD i ⟨#[]⟩, .var ((NL nn).getD i ⟨#[]⟩), none, 0⟩ : PR)) (ds := ds) (lv := .slice b i d) (by omega) hlt (abc_at i hlt) (Lib.hid rfl) hi0 hltI hds3
          (fun V h => varX_any _ V)
          _ (by kernel_rfl) (by kernel_rfl) (by kernel_rfl) (by kernel_rfl) (by kernel_rfl) ⟨HSt.out.1.below (below_d _), HSt.out.2.below (below_d _)⟩ ?_
        intro x2 V2 g9 c9 w9 hV2 ho9 hg9
        have HN9 := Lib.hid (frn_next HDp.out.1 HDp.out.2 ⟨rfl, rfl⟩ hV2.2 ho9 hg9)
        have hdl : ds.length = i := HDp.out.1
        rw [hdl] at HN9
        rw [hdl]
        clear hdl hV2 ho9 hg9 HSt
        simp only [nmaFr, Act.put]
        simp only [Array.getD_eq_getD_getElem?, List.getElem?_toArray, List.getElem?_cons_zero, List.getElem?_cons_succ, Option.getD_some, List.setIfInBounds_toArray, List.set_cons_zero, List.set_cons_succ]
        go_wp2_with fail
        go_roundw
        case rel => exact ⟨i + 1, c9, _, by omega, by go_num, rfl, HN9⟩
        case measure => simp [intOf]; omega
      · obtain rfl : i = 3 := by omega
        rw [show ((3 : Nat) : Int) = (3 : Int) from rfl]
        obtain ⟨ds, hgv, hty, hdl, happ⟩ := frn_end (F := NL nn) (G := V3) (by rw [hN3]; decide) (by rw [hN3]; exact hN.out)
        have hbb : Below W5.heap.size W5 wr := by obtain ⟨_, _, _, h3, _⟩ := hN.out; exact h3.2
        have HDs := Lib.hid (And.intro hgv (And.intro hty (show ds.length = 3 by omega)))
        have HAp := Lib.hid happ
        have H6 := Lib.hid (And.intro (H5.out.1.below hbb) (And.intro (H5.out.2.1.below hbb) (H5.out.2.2.1.trans (hbb.mono H5.out.2.2.1.size))))
        obtain ⟨ps, hps, hpv⟩ := PV.of_prs H6.out.1.2.2.1
        have hpl : ps.length = lc.length := by rw [← hps]; simp
        have HPs := Lib.hid (And.intro hps (And.intro (hpl ▸ hpv) hpl))
        obtain ⟨m, hm⟩ : ∃ m, lc.length = m := ⟨_, rfl⟩
        have HM := Lib.hid hm
        have hm4 : m ≤ 4 := by omega
        have HPs2 := Lib.hid (show PV ps (.slice va ps.length vc) wr ∧ ps.length = m from ⟨hpl ▸ hpv, by omega⟩)
        rw [hm]
        clear hgv hty hdl happ hbb hps hpv hpl hm H5 hN
        obtain ⟨i0, hi, hz0, hz1, hz2⟩ := info_parts Tryz.infoPredZ
        go_wp2_with fail
        go_loopw [13, 14] (fun vo vi W => ∃ (k j e : Nat) (b2 : Option Addr), k + j = m ∧ vi = .int .i64 ((j : Int) - 1) ∧ vo = .slice b2 k e ∧ Hid (RvI wr ps k (.slice b2 k e) W)) (fun _ vi _ => (intOf vi + 1).toNat)
        case atStart => exact ⟨0, m, 0, none, by omega, rfl, rfl, Lib.hid ⟨World.ownsRow_nil _ _ _ _, Below.refl _ _⟩⟩
        case round =>
          rename World => W7
          obtain ⟨k, j, e, b2, hkj, rfl, rfl, hV⟩ := hrel
          cases j with
          | succ i =>
            rw [show (((i + 1 : Nat) : Int) - 1) = (i : Int) by omega]
            have hiI : (i : Int) < (m : Int) := by omega
            have hi0 : (0 : Int) ≤ (i : Int) := by omega
            have him : i < ps.length := by have := HPs2.out.2; omega
            have hkm : k ≤ 4 := by omega
            obtain ⟨g1, rfl, hc1, hr1⟩ := (HPs2.out.1.below hV.out.2).row (by omega)
            obtain ⟨x0, x1, x2, x3⟩ := hr1.cells him
            have lx := hr1.lt
            have HTk := Lib.hid (rev_take (ps := ps) (i := i) (k := k) (by have := HPs2.out.2; omega))
            have HR := Lib.hid hV.out.1
            have HBk := Lib.hid hV.out.2
            have hz7 := hV.out.2.size
            clear hr1 hV
            generalize ps.getD i noP = x at *
            go_wp2_with (at_builtin; refine wpList_append_lies _ rfl _ _ 28 rfl wr.heap.size 55 i0 (.agg #[.string ⟨#[]⟩, .int .i64 0, .string ⟨#[]⟩, .slice none 0 0]) 4 64 Tryz.underlying28 hi hz0 hz1 hz2 rfl (by decide) _ _ _ rfl (HR.out.alloc _) ⟨W7.heap.size, 0, none⟩ 1 1 (encP x) rfl rfl (cell_new4 _ _ _ _ _ _) (by simp [encP, Value.oneCell']) (by decide) ?p3 ?p4 ?p5 _ rfl ?_)
            case p3 => unfold maxLen; omega
            case p4 => omega
            case p5 => first | omega | (simp; omega)
            intro g3 cap3 W8 hown3 hgrow hat3 hlt3
            have HN8 := Lib.hid (show RvI wr ps (k + 1) (.slice (some ⟨g3, 0, none⟩) (k + 1) cap3) W8 from ⟨by rw [HTk.out, cellsP_snoc]; exact hown3, (HBk.out.alloc hz7 _).grown hgrow (by simp; omega) (fun j hj => (HR.out.lt j hj).1)⟩)
            clear hown3 hgrow hat3
            go_wp2
            go_roundw
            case rel => exact ⟨k + 1, i, cap3, some ⟨g3, 0, none⟩, by omega, by go_num, rfl, HN8⟩
            case measure => simp [intOf]
          | zero =>
            obtain rfl : k = m := by omega
            have hpm := HPs2.out.2
            have hrl : ps.reverse.length = k := by simp; omega
            have hrow := hV.out.1
            rw [show ps.reverse.take k = ps.reverse by rw [← hrl, List.take_length]] at hrow
            have hprs : PrsAt W7 (.slice b2 k e) lc.reverse := by
              have := prs_of_own (ls := ps.reverse) (by rw [hrl]; exact hrow) (fun x hx => (HPs2.out.1.1 x (List.mem_reverse.1 hx)).keep (KeepT.of_below hV.out.2))
              rw [List.map_reverse, HPs.out.1] at this
              exact this
            have HC := Lib.hid (show NmC W7 W1.heap.size k t pa0 b b2 ca0 3 d e ds lc.reverse W7 from ⟨H6.out.2.1.below hV.out.2, HDs.out.1.below hV.out.2, fun x hx => (HDs.out.2.1 x hx).keep (KeepT.of_below hV.out.2), hprs, Below.refl _ _⟩)
            have HB7 := Lib.hid hV.out.2
            have HOk2 := Lib.hid (sok_ren nn HOk.out)
            have HMem := Lib.hid (mem_ren (lc := lc) nn)
            have HLu := Lib.hid (show (appP (prs V3 (NL nn)) lc.reverse).length = k by simp [appP]; exact HM.out)
            have HAt := Lib.hid (app_sub (prs V3 (NL nn)) t)
            obtain ⟨lu, hlu⟩ : ∃ l, appP (prs V3 (NL nn)) lc.reverse = l := ⟨_, rfl⟩
            obtain ⟨s, hs⟩ : ∃ s, sub (rnS nn) t = s := ⟨_, rfl⟩
            rw [hlu] at HOk2 HMem HLu
            rw [hs] at HOk2
            have HS := Lib.hid hs
            have HLe := Lib.hid hlu
            obtain ⟨L, hL⟩ : ∃ L, fvs [] [] (s :: lu.map (·.2)) = L := ⟨_, rfl⟩
            have HL := Lib.hid hL
            have HCL := Lib.hid (show ClosedBy s lu L from hL ▸ sok_closed HOk2.out)
            have HLs := Lib.hid (show (∀ n ∈ L, n.size ≤ 1000) ∧ L.length ≤ 4 from hL ▸ ⟨HOk2.out.all.2.2.1, HOk2.out.all.2.1⟩)
            have HTs := Lib.hid hts
            clear hpm hrl hrow hprs hlu hs hL hV
            go_wp2_with fail
            refine nmb_here (w := W7) (b7 := W1.heap.size) (m := k) (t := t) (u := s) (pa := pa0) (ba := b) (ka := b2) (ca := ca0) (bn := 3) (bc := d) (kc := e) (ds := ds) (lr := lc.reverse) (lu := lu) (L := L)
              (fun V h => by
                have := rpreds_any (.slice b 3 d) _ ds lc.reverse V (by have := HDs.out.2.2; omega) h.2.1 h.2.2.1 h.2.2.2.1 (fun q hq => by have := (HOk.out.2.2 q.2 (List.mem_cons_of_mem _ (List.mem_map.2 ⟨q, List.mem_reverse.1 hq, rfl⟩))).2.2.1; omega) (by simp; omega)
                rw [show appP ds lc.reverse = lu by rw [← HLe.out]; unfold appP; exact List.map_congr_left fun q _ => by rw [HAp.out], List.length_reverse, HM.out] at this
                exact this)
              (fun V h => by
                have := rapp_big (d := ds) (v := .slice b 3 d) (t := t) (by have := HDs.out.2.2; omega) h.2.1 h.2.2.1 h.1.2 (by have := HTs.out; omega)
                rw [show app ds t = s by rw [HAp.out, HAt.out]; exact HS.out] at this
                exact this)
              (fun V h qa qc hp za zc ht => by
                have := rclose_any s lu L HL.out (by have := HLs.out.2; omega) (by have := HOk2.out.all.2.2.2; omega) za qa zc qc V ht (by rw [HLu.out]; exact hp) (by have := HLu.out; omega)
                rw [HLu.out] at this
                refine this.mono fun e Y hq => ?_
                obtain ⟨⟨xa, xc, rfl, hx⟩, hb⟩ := hq
                exact ⟨⟨xa, xc, qa, qc, za, zc, rfl, hx, hp.belowG hb, ht.keep (KeepT.of_below hb)⟩, hb⟩)
              _ (by kernel_rfl) (by kernel_rfl) (by kernel_rfl) (by kernel_rfl) (by kernel_rfl) (HC.out.below (below_d _)) ?_
            intro x V bk xa xc qa qc za zc hV2 e7 d7 d6
            have hZ5 := set5_block d7.1 (.slice xa L.length xc) (.slice qa k qc) (.int .i64 s.kind) (.string s.name) (.slice za s.kids.length zc)
            have hKO := KeepO.of_set5 (b := bk) ⟨_, d7.1⟩ (.slice xa L.length xc) (.slice qa k qc) (.int .i64 s.kind) (.string s.name) (.slice za s.kids.length zc)
            have hBZ := below_set5 hV2.2.2.2.2 d7.2 (.slice xa L.length xc) (.slice qa k qc) (.int .i64 s.kind) (.string s.name) (.slice za s.kids.length zc)
            have hDZ : SmD s lu L za qa xa zc qc xc V := ⟨d6.1, by rw [HLu.out]; exact d6.2.1, d6.2.2⟩
            have HZu := Lib.hid (show NmB bk s lu L za qa xa zc qc xc (set5 V bk (.slice xa L.length xc) (.slice qa k qc) (.int .i64 s.kind) (.string s.name) (.slice za s.kids.length zc)) from ⟨by rw [HLu.out]; exact hZ5, hDZ.keepO hKO⟩)
            have HBZ := Lib.hid (HB7.out.trans (hBZ.mono HB7.out.size))
            clear hZ5 hKO hBZ hDZ hV2 d7 d6 HC HB7
            generalize set5 V bk (.slice xa L.length xc) (.slice qa k qc) (.int .i64 s.kind) (.string s.name) (.slice za s.kids.length zc) = Z at *
            have H9 := Lib.hid (H6.out.1.below HBZ.out)
            obtain ⟨y0, y1, y2, y3, y4⟩ := cells5 H9.out.1
            simp only [nmbFr, e7]
            simp only [Array.getD_eq_getD_getElem?, List.getElem?_toArray, List.getElem?_cons_zero, List.getElem?_cons_succ, Option.getD_some]
            clear e7
            go_wp2_with (go_at_call 12; fail)
            refine (canonS_any V3 t lc F HOk.out (fun n hn => by have := HFs.out.1 n hn; omega) (by have := HFs.out.2; omega) _ _ _ _ _ _ Z H9.out.2).mono ?_
            rintro e9 W9 ⟨⟨ca, zn, cc, cp, cm, cq, ck, cs', ct, cj, cu, rfl, hP⟩, hb9⟩
            obtain ⟨zl, u1, l2, ⟨rfl, rfl, rfl, rfl, rfl⟩, hd, hcan⟩ := hP
            have hal := (Below.refl _ W9).alloc (Nat.le_refl _) (.cells #[.slice ca zl.length cc, .slice cp l2.length cq, .int .i64 u1.kind, .string u1.name, .slice ct u1.kids.length cu] 33)
            have hb10 := hb9.alloc hb9.size (.cells #[.slice ca zl.length cc, .slice cp l2.length cq, .int .i64 u1.kind, .string u1.name, .slice ct u1.kids.length cu] 33)
            have hZZ : NmZ w W3.heap.size bk W9.heap.size t s u1 lc lu l2 F L zl pa0 va fa za qa xa ct cp ca ca0 vc fc zc qc xc cu cq cc (W9.alloc (.cells #[.slice ca zl.length cc, .slice cp l2.length cq, .int .i64 u1.kind, .string u1.name, .slice ct u1.kids.length cu] 33)) :=
              ⟨H9.out.below hb10, HZu.out.below hb10, ⟨alloc_new W9 _, hd.keepO (KeepO.of_below hal)⟩, (H6.out.2.2.trans (HBZ.out.mono H6.out.2.2.size)).trans (hb10.mono (Nat.le_trans H6.out.2.2.size HBZ.out.size))⟩
            have HCan := Lib.hid hcan
            have HBt := Lib.hid ((H6.out.2.1.below HBZ.out).below hb10)
            have HPz := Lib.hid (And.intro ((HPs2.out.1.below HBZ.out).below hb10) HPs2.out.2)
            have HZZ := Lib.hid hZZ
            clear hal hZZ hd hcan hb9 HZu H9 H6 HPs2 HDs y0 y1 y2 y3 y4
            obtain ⟨x0, x1, x2⟩ := HBt.out.cells
            have lb7 : W1.heap.size < W9.heap.size + 1 := by have := (Array.getElem?_eq_some_iff.1 HBt.out.1).1; simpa using this
            go_wp2_with (go_at_call 28; fail)
            have HVt := Lib.hid (vars_one (t := t) (by have := HTs.out; omega) HBt.out.2)
            rw [show (W9.alloc (.cells #[.slice ca zl.length cc, .slice cp l2.length cq, .int .i64 u1.kind, .string u1.name, .slice ct u1.kids.length cu] 33)).heap.size = W9.heap.size + 1 by simp] at HVt
            refine HVt.out.mono ?_
            clear HVt
            rintro e11 W11 ⟨⟨oa, oc, rfl, ho⟩, hb11⟩
            rw [← show (W9.alloc (.cells #[.slice ca zl.length cc, .slice cp l2.length cq, .int .i64 u1.kind, .string u1.name, .slice ct u1.kids.length cu] 33)).heap.size = W9.heap.size + 1 by simp] at hb11
            have HZ11 := Lib.hid (HZZ.out.below hb11)
            have HP11 := Lib.hid (And.intro (HPz.out.1.below hb11) HPz.out.2)
            have HO := Lib.hid ho
            obtain ⟨O, hO⟩ : ∃ O, fvs [] [] [t] = O := ⟨_, rfl⟩
            have HOe := Lib.hid hO
            rw [hO] at HO ⊢
            have hol : O.length ≤ 1000000 := by
              have h1 := HOk.out.all.2.1
              have h2 : O.length ≤ 4 := by
                rw [← hO]
                exact Nat.le_trans (nodup_lenS (R := V3) (fvs_nodups [t] [] [] List.nodup_nil) fun n hn => (HOk.out.2.2 t (List.mem_cons_self ..)).2.2.2 n ((fvs_one (HOk.out.2.2 t (List.mem_cons_self ..)).1 n).1 hn)) (by decide)
              omega
            clear hb11 HZZ HPz HBt ho hO x0 x1 x2
            obtain ⟨b9, hb9⟩ : ∃ b, W3.heap.size = b := ⟨_, rfl⟩
            obtain ⟨b16, hb16⟩ : ∃ b, W9.heap.size = b := ⟨_, rfl⟩
            rw [hb9, hb16] at HZ11
            rw [hb9, hb16]
            go_wp2_with fail
            go_loopw [17, 19] (fun vb vi Y => ∃ (i : Nat) (fb : Bool), i ≤ k ∧ vi = .int .i64 i ∧ vb = .bool fb ∧ Hid (fb = true → ∀ j, j < i → ∀ x ∈ vs (ps.getD j noP).t, x ∈ vs t) ∧ Hid (Below W11.heap.size W11 Y)) (fun _ vi _ => k - (intOf vi).toNat)
            case atStart => exact ⟨0, true, Nat.zero_le _, rfl, rfl, Lib.hid (fun _ j hj => absurd hj (Nat.not_lt_zero _)), Lib.hid (Below.refl _ _)⟩
            case round =>
              rename World => W12
              obtain ⟨i, fb, hik, rfl, rfl, hI, hB⟩ := hrel
              by_cases hlt : i < k
              · have hltI : (i : Int) < (k : Int) := by omega
                have hi0 : (0 : Int) ≤ (i : Int) := by omega
                have him : i < ps.length := by have := HP11.out.2; omega
                obtain ⟨g1, rfl, hc1, hr1⟩ := (HP11.out.1.below hB.out).row (by omega)
                obtain ⟨x0, x1, x2, x3⟩ := hr1.cells him
                have lx := hr1.lt
                have hty := (HP11.out.1.1 _ (getD_memR him)).keep (KeepT.of_below hB.out)
                have hmem : prOf (ps.getD i noP) ∈ lc := by rw [← HPs.out.1]; exact List.mem_map.2 ⟨_, getD_memR him, rfl⟩
                have hpl := HOk.out.2.2 (prOf (ps.getD i noP)).2 (List.mem_cons_of_mem _ (List.mem_map.2 ⟨_, hmem, rfl⟩))
                obtain ⟨y, hy⟩ : ∃ y, ps.getD i noP = y := ⟨_, rfl⟩
                rw [hy] at x0 x1 x2 x3 hty hpl
                have HYe := Lib.hid hy
                have HPl := Lib.hid hpl
                have HVy := Lib.hid (vars_one (t := y.t) hpl.2.2.1 hty)
                clear hr1 hty hmem hpl hy
                go_wp2_with (go_at_call 28; fail)
                refine HVy.out.mono ?_
                rintro e13 W13 ⟨⟨qa', qc', rfl, hv⟩, hb13⟩
                obtain ⟨Vi, hVi⟩ : ∃ l, fvs [] [] [y.t] = l := ⟨_, rfl⟩
                have HVi := Lib.hid (show ∀ x, x ∈ Vi ↔ x ∈ vs y.t from fun x => by rw [← hVi]; exact fvs_one HPl.out.1 x)
                have hVl : Vi.length ≤ 4 := by
                  rw [← hVi]
                  exact Nat.le_trans (nodup_lenS (R := V3) (fvs_nodups [y.t] [] [] List.nodup_nil) fun n hn => HPl.out.2.2.2 n ((fvs_one HPl.out.1 n).1 hn)) (by decide)
                rw [hVi] at hv ⊢
                have HV := Lib.hid hv
                have HB13 := Lib.hid (hB.out.trans (hb13.mono hB.out.size))
                clear hVi hv hb13 HVy hB x0 x1 x2 x3
                go_wp2_with fail
                go_loopw [17, 21] (fun vb vi Y => ∃ (n : Nat) (gb : Bool), n ≤ Vi.length ∧ vi = .int .i64 n ∧ vb = .bool gb ∧ Hid (gb = true → (∀ j, j < i → ∀ x ∈ vs (ps.getD j noP).t, x ∈ vs t) ∧ ∀ x ∈ Vi.take n, x ∈ vs t) ∧ Hid (Below W13.heap.size W13 Y)) (fun _ vi _ => Vi.length - (intOf vi).toNat)
                case atStart => exact ⟨0, fb, Nat.zero_le _, rfl, rfl, Lib.hid (fun h => ⟨hI.out h, fun x hx => by simp at hx⟩), Lib.hid (Below.refl _ _)⟩
                case round =>
                  rename World => W14
                  obtain ⟨n, gb, hn', rfl, rfl, hJ, hB⟩ := hrel
                  by_cases hnl : n < Vi.length
                  · have hnI : (n : Int) < (Vi.length : Int) := by omega
                    obtain ⟨gv, rfl, hcv, hrv⟩ := TRow.of (HV.out.below hB.out) (by omega)
                    have xv := hrv.cell hnl
                    have lv := hrv.lt
                    have HOw := Lib.hid (hasR_any O (by omega) (Vi.getD n ⟨#[]⟩) oa oc W14 ((HO.out.below HB13.out).below hB.out))
                    have HTk := Lib.hid (show ∀ x, x ∈ Vi.take (n + 1) ↔ x ∈ Vi.take n ∨ x = Vi.getD n ⟨#[]⟩ from fun x => by
                      rw [List.take_succ_eq_append_getElem hnl, List.mem_append, List.mem_singleton, show Vi.getD n ⟨#[]⟩ = Vi[n] by simp [List.getD, hnl]])
                    clear hrv
                    obtain ⟨q, hq⟩ : ∃ q, Vi.getD n ⟨#[]⟩ = q := ⟨_, rfl⟩
                    rw [hq] at xv HOw HTk
                    clear hq
                    have hnx : n + 1 ≤ Vi.length := hnl
                    cases gb with
                    | false =>
                      clear HOw
                      go_wp2_with fail
                      go_roundw
                      case rel => exact ⟨n + 1, false, hnx, by go_num, rfl, Lib.hid (fun h => nomatch h), hB⟩
                      case measure => simp [intOf]; omega
                    | true =>
                      obtain ⟨r, hr⟩ : ∃ r, inB O q = r := ⟨_, rfl⟩
                      rw [hr] at HOw
                      have HRr := Lib.hid hr
                      clear hr
                      go_wp2_with (go_at_call 29; fail)
                      refine HOw.out.mono ?_
                      rintro e15 W15 ⟨rfl, rfl⟩
                      clear HOw
                      go_wp2_with fail
                      go_roundw
                      case rel => exact ⟨n + 1, r, hnx, by go_num, rfl, Lib.hid (fun h => ⟨(hJ.out (by first | rfl | trivial)).1, fun x hx => by
                        rcases (HTk.out x).1 hx with hx | rfl
                        · exact (hJ.out (by first | rfl | trivial)).2 x hx
                        · have h2 : x ∈ O := inB_iff.1 (HRr.out.trans h)
                          rw [← HOe.out] at h2
                          exact (fvs_one (HOk.out.2.2 t (List.mem_cons_self ..)).1 x).1 h2⟩), hB⟩
                      case measure => simp [intOf]; omega
                  · obtain rfl : n = Vi.length := by omega
                    have HE2 := Lib.hid (HB13.out.trans (hB.out.mono HB13.out.size))
                    have HI2 := Lib.hid (show gb = true → ∀ j, j < i + 1 → ∀ x ∈ vs (ps.getD j noP).t, x ∈ vs t from fun h j hj x hx => by
                      by_cases e : j = i
                      · subst e
                        rw [HYe.out] at hx
                        exact (hJ.out h).2 x (by rw [List.take_length]; exact (HVi.out x).2 hx)
                      · exact (hJ.out h).1 j (by omega) x hx)
                    clear hJ hB
                    go_wp2_with fail
                    go_roundw
                    case rel => exact ⟨i + 1, gb, by omega, by go_num, rfl, HI2, HE2⟩
                    case measure => simp [intOf]; omega
              · obtain rfl : i = k := by omega
                have HZ12 := Lib.hid (HZ11.out.below hB.out)
                obtain ⟨hs2, hcl2⟩ := canP_sok HOk.out HCF.out HCan.out
                have HSk := Lib.hid (And.intro hs2 hcl2)
                have HSm := Lib.hid (canP_ok HOk.out HCan.out)
                have hz1 : ∀ n ∈ zl, n.size ≤ 1000000 := fun n hn => by have := hs2.1.2 n hn; omega
                have hz2 : zl.length ≤ 1000000 := by have := hs2.1.1; omega
                have hF1 : ∀ n ∈ F, n.size ≤ 1000000 := fun n hn => by have := HFs.out.1 n hn; omega
                have hF2 : F.length ≤ 1000000 := by have := HFs.out.2; omega
                have hL1 : ∀ n ∈ L, n.size ≤ 1000000 := fun n hn => by have := HLs.out.1 n hn; omega
                have hL2 : L.length ≤ 1000000 := by have := HLs.out.2; omega
                have HNum := Lib.hid (And.intro hz1 (And.intro hz2 (And.intro hF1 (And.intro hF2 (And.intro hL1 hL2)))))
                have HCc := Lib.hid (fun (V : World) (h : SmD u1 l2 zl ct cp ca cu cq cc V) => (show Calls Tryz.prog 12 #[.agg #[.slice ca zl.length cc, .slice cp l2.length cq, .int .i64 u1.kind, .string u1.name, .slice ct u1.kids.length cu]] V fun e Y => (∃ (ya : Option Addr) (yc : Nat) (yp : Option Addr) (yq : Nat) (yt : Option Addr) (yu : Nat), e = .returned (.agg #[.slice ya zl.length yc, .slice yp l2.length yq, .int .i64 u1.kind, .string u1.name, .slice yt u1.kids.length yu]) ∧ SmD u1 l2 zl yt yp ya yu yq yc Y) ∧ Below V.heap.size V Y from by
                  refine (canonS_any zl u1 l2 zl HSk.out.1 HNum.out.1 HNum.out.2.1 ct cp ca cu cq cc V h).mono ?_
                  rintro e Y ⟨⟨ya, yn, yc, yp, ym, yq, yk, ys, yt, yj, yu, rfl, yl, v, m2, ⟨rfl, rfl, rfl, rfl, rfl⟩, hd, hc⟩, hb⟩
                  obtain ⟨rfl, rfl, rfl⟩ := canon_again HOk.out HCF.out HLeaf.out HCan.out hc
                  exact ⟨⟨ya, yc, yp, yq, yt, yu, rfl, hd⟩, hb⟩))
                have HCs := Lib.hid (fun (V : World) (h : SmD u1 l2 zl ct cp ca cu cq cc V) (ya : Option Addr) (yc : Nat) (yp : Option Addr) (yq : Nat) (yt : Option Addr) (yu : Nat) (h2 : SmD u1 l2 zl yt yp ya yu yq yc V) => refSame_any u1 l2 zl (fits_small (by have := HSm.out.1; omega)) (fun q hq => fits_small (by have := HSm.out.2.1 q hq; omega)) (by have := HSm.out.2.2.1; omega) HNum.out.2.1 yt yp ya ct cp ca yu yq yc cu cq cc V h2 h)
                have HF1 := Lib.hid (fun (V : World) (h : SmD t lc F pa0 va fa ca0 vc fc V) => (show Calls Tryz.prog 14 #[.agg #[.slice fa F.length fc, .slice va lc.length vc, .int .i64 t.kind, .string t.name, .slice pa0 t.kids.length ca0]] V fun e Y => (∃ (ya : Option Addr) (yc : Nat), e = .returned (.slice ya 0 yc) ∧ True) ∧ Below V.heap.size V Y from by
                  have := freeG_any V3 t lc F HOk.out HNum.out.2.2.1 HNum.out.2.2.2.1 fa va pa0 fc vc ca0 V h.2.2 h.1 h.2.1
                  rw [(closed_bs HOk.out HCF.out).2] at this
                  exact this.mono fun e Y hq => by obtain ⟨⟨ya, yc, e1, _⟩, hb⟩ := hq; exact ⟨⟨ya, yc, e1, trivial⟩, hb⟩))
                have HF2 := Lib.hid (fun (V : World) (h : SmD u1 l2 zl ct cp ca cu cq cc V) => (show Calls Tryz.prog 14 #[.agg #[.slice ca zl.length cc, .slice cp l2.length cq, .int .i64 u1.kind, .string u1.name, .slice ct u1.kids.length cu]] V fun e Y => (∃ (ya : Option Addr) (yc : Nat), e = .returned (.slice ya 0 yc) ∧ True) ∧ Below V.heap.size V Y from by
                  have := freeG_any zl u1 l2 zl HSk.out.1 HNum.out.1 HNum.out.2.1 ca cp ct cc cq cu V h.2.2 h.1 h.2.1
                  rw [(closed_bs HSk.out.1 HSk.out.2).2] at this
                  exact this.mono fun e Y hq => by obtain ⟨⟨ya, yc, e1, _⟩, hb⟩ := hq; exact ⟨⟨ya, yc, e1, trivial⟩, hb⟩))
                clear hs2 hcl2 hz1 hz2 hF1 hF2 hL1 hL2 hB
                cases fb with
                | true =>
                  have HIn := Lib.hid (show ∀ q ∈ lc, ∀ x ∈ vs q.2, x ∈ vs t from fun q hq x hx => by
                    rw [← HPs.out.1] at hq
                    obtain ⟨p, hp, rfl⟩ := List.mem_map.1 hq
                    obtain ⟨j, hj, rfl⟩ := mem_getD hp
                    exact hI.out rfl j (by have := HP11.out.2; omega) x hx)
                  have HSa := Lib.hid (fun (V : World) (h : SmD t lc F pa0 va fa ca0 vc fc V) (h2 : SmD s lu L za qa xa zc qc xc V) => (show Calls Tryz.prog 23 #[.agg #[.slice fa F.length fc, .slice va lc.length vc, .int .i64 t.kind, .string t.name, .slice pa0 t.kids.length ca0], .agg #[.slice xa L.length xc, .slice qa lu.length qc, .int .i64 s.kind, .string s.name, .slice za s.kids.length zc]] V fun e Y => e = .returned (.bool true) ∧ Below V.heap.size V Y from by
                    refine (sameG_any V3 (NL nn) t s lc lu F L HOk.out HOk2.out HNum.out.2.2.1 HNum.out.2.2.2.1 HNum.out.2.2.2.2.1 HNum.out.2.2.2.2.2 pa0 va fa za qa xa ca0 vc fc zc qc xc V h h2).mono ?_
                    rintro e Y ⟨⟨zl', yl, u', v, l', m2, rfl, hc1, hc2⟩, hb⟩
                    have hss := HS.out
                    subst hss
                    obtain ⟨rfl, rfl, rfl⟩ := names_same (σ := rnS nn) (ρ := rnF nn) HOk.out HOk2.out HCF.out HCL.out (fun x hx => ((rn_ok nn).1 x ((HOk.out.2.2 t (List.mem_cons_self ..)).2.2.2 x hx)).1) (fun x y hx hy => (rn_ok nn).2 x y ((HOk.out.2.2 t (List.mem_cons_self ..)).2.2.2 x hx) ((HOk.out.2.2 t (List.mem_cons_self ..)).2.2.2 y hy)) HMem.out HIn.out hc1 hc2
                    refine ⟨?_, hb⟩
                    rw [eqB_true rfl, eqB_true rfl, show (cmpT u' u' == 0) = true by rw [beq_iff_eq]; exact (cmp_zero u' u').2 rfl]
                    rfl))
                  clear hI
                  go_wp2_with fail
                  refine nmt_here (w := w) (b9 := b9) (b15 := bk) (b16 := b16) (t := t) (s := s) (u := u1) (lc := lc) (ld := lu) (l2 := l2) (F := F) (L := L) (zl := zl)
                    (fun V h => HSa.out V h.1.2 h.2.1.2) (fun V h => HCc.out V h.2.2.1.2) (fun V h ya yc yp yq yt yu h2 => HCs.out V h.2.2.1.2 ya yc yp yq yt yu h2) (fun V h => HF1.out V h.1.2) (fun V h => HF2.out V h.2.2.1.2)
                    _ (by kernel_rfl) (by kernel_rfl) (by kernel_rfl) (by kernel_rfl) (by kernel_rfl) (by kernel_rfl) (by kernel_rfl) (HZ12.out.below (below_d _)) ?_
                  intro x V hV hx
                  have HE := Lib.hid hV.2.2.2
                  clear hV HSa HCc HCs HF1 HF2
                  simp only [nmtFr, hx]
                  simp only [Array.getD_eq_getD_getElem?, List.getElem?_toArray, List.getElem?_cons_zero, List.getElem?_cons_succ, Option.getD_some]
                  go_wp2_with fail
                  exact bodyPost_ret (v := .bool true) (by simp [results, Tryz.results4, go_sem]) rfl ⟨rfl, HE.out⟩
                | false =>
                  clear hI
                  go_wp2_with fail
                  refine nmf_here (w := w) (b9 := b9) (b15 := bk) (b16 := b16) (t := t) (s := s) (u := u1) (lc := lc) (ld := lu) (l2 := l2) (F := F) (L := L) (zl := zl)
                    (fun V h => HCc.out V h.2.2.1.2) (fun V h ya yc yp yq yt yu h2 => HCs.out V h.2.2.1.2 ya yc yp yq yt yu h2) (fun V h => HF1.out V h.1.2) (fun V h => HF2.out V h.2.2.1.2)
                    _ (by kernel_rfl) (by kernel_rfl) (by kernel_rfl) (by kernel_rfl) (by kernel_rfl) (by kernel_rfl) (by kernel_rfl) (HZ12.out.below (below_d _)) ?_
                  intro x V hV hx
                  have HE := Lib.hid hV.2.2.2
                  clear hV HCc HCs HF1 HF2
                  simp only [nmfFr, hx]
                  simp only [Array.getD_eq_getD_getElem?, List.getElem?_toArray, List.getElem?_cons_zero, List.getElem?_cons_succ, Option.getD_some]
                  go_wp2_with fail
                  exact bodyPost_ret (v := .bool true) (by simp [results, Tryz.results4, go_sem]) rfl ⟨rfl, HE.out⟩
  · have hb1I : (100 : Int) < (n1 : Int) := by omega
    go_enter Tryz.func4, Tryz.ntmps4
    go_wp2_with (go_at_call 5; refine (first8_any _).mono ?_; rintro e w' ⟨rfl, rfl⟩)
    go_ret
    exact ⟨rfl, Below.refl _ _⟩
end Go.Proofs.YtjnlchhikdfifaaGreatDoor
/- What the plain rows of this seat share. -/
namespace Go.Proofs.YtjnlchhikdfifaaGreatDoor
open Go.ChangeShapes Go.WideShapes Go.ChangeAt Go.RowKit

theorem own : ownKnob Tryz.prog.godebug = none := by kernel_rfl
theorem laidOut : laidOutB Tryz.prog = true := by kernel_rfl
theorem bounds_i64 {z : Int} (h : (Lit.int .i64 z).wf = true) : -9223372036854775808 ≤ z ∧ z ≤ 9223372036854775807 := by
  have h1 : IntKind.i64.min = -9223372036854775808 := rfl
  have h2 : IntKind.i64.max = 9223372036854775807 := rfl
  simp only [Lit.wf, Bool.and_eq_true, decide_eq_true_eq] at h
  omega
end Go.Proofs.YtjnlchhikdfifaaGreatDoor
/- Slices of numbers that came in, for the plain rows. -/
namespace Go.Proofs.YtjnlchhikdfifaaGreatDoor
open Go.ChangeShapes Go.WideShapes Go.ChangeAt Go.RowKit

/-- A slice of numbers that came in, nil or not, holds some numbers. -/
theorem opened_ints {H : Type} {enc : TypeId × Value → H} {W : World} {a0 : Option Addr} {len cap : Nat} {d0 : DataW H} {p : List MemPlace}
    (h0 : DataW.Trod enc Tryz.prog W 0 (fun _ => true) true 22 (.slice a0 len cap) d0 p) : IntsAt W.heap.size a0 len W := by
  obtain ⟨fuel, hf⟩ := h0
  rcases open_ints Tryz.underlying22 Tryz.underlying3 (by kernel_rfl) hf with ⟨hcs, _⟩ | ⟨x, l, c, zs, hcs, _, hl, hm, hz, _, hcell, hwz⟩
  · simp [Value.cells] at hcs
    obtain ⟨rfl, rfl, rfl⟩ := hcs
    exact .inl rfl
  · simp [Value.cells] at hcs
    obtain ⟨rfl, rfl, rfl⟩ := hcs
    simp only [if_true] at hz
    by_cases h0 : len = 0
    · exact .inl h0
    · obtain ⟨b, o, spot⟩ := x
      have hc0 := hcell 0 (by omega)
      have hspot : spot = none := by simpa [Addr.add] using World.cell?_spot hc0
      subst hspot
      have ea : ∀ j, (⟨b, o, none⟩ : Addr).add j = ⟨b, o + j, none⟩ := fun j => by unfold Addr.add; split <;> simp_all
      refine .inr ⟨b, o, rfl, World.block_lt_of_cell? _ _ hc0, fun j hj => ?_⟩
      have hc := hcell j (by omega)
      rw [ea] at hc
      have hjz : j < zs.length := by omega
      exact ⟨zs[j], by rw [hc]; simp [List.getD, List.getElem?_eq_getElem hjz], bounds_i64 (hwz _ (List.getElem_mem hjz))⟩

end Go.Proofs.YtjnlchhikdfifaaGreatDoor
