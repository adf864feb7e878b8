/- Merged: UyR3, UyR4, UyR5, UyL, PlainRow, UfDoor, IntsRow. -/
import Derived.Test.YtdcfemojkdoakaaDoorVm9
import Derived.Test.YtdcfemojkdoakaaDoorRows
import Derived.ProofKit
import Derived.OpenShut
import Derived.Carry
import Derived.Test.YtdcfemojkdoakaaDoorVm7
import Derived.LaidMore
import Derived.ChangeOld
import Derived.Stop.Joined
import Derived.Stop.LaidTwo
import Derived.Test.YtdcfemojkdoakaaDoorVm3
/- UnifySays: its last statement, a region of 29 operations that draws its order, by an invariant. (Made by a program.) -/
namespace Go.Proofs.YtdcfemojkdoakaaDoor
open Go.RowKit Go.Sort Go.Lib
attribute [local go_sem] Oper.semAt_some

noncomputable def uscOps : Array Oper := regionIn 19 (Tryd.f3.body.getD .skip)
def uscFr (b : Nat → Value) (d : List Deferred) (x : Nat → Value) : Act := { tmps := #[b 0, b 1, x 28, b 3, b 4, b 5, b 6, b 7, b 8, b 9, b 10, b 11, b 12, b 13, b 14, b 15, b 16, b 17, b 18, b 19, b 20, b 21, b 22, b 23, b 24, b 25, b 26, b 27, b 28, b 29, b 30, b 31, b 32, b 33, b 34, b 35, b 36, b 37, b 38, b 39, b 40, b 41, b 42, b 43, b 44, b 45, b 46, b 47, b 48, b 49, b 50, b 51, b 52, b 53, b 54, b 55, b 56, b 57, b 58, b 59, b 60, b 61, b 62, b 63, b 64, b 65, b 66, b 67, b 68, b 69, b 70, b 71, b 72, b 73, b 74, b 75, b 76, b 77, b 78, b 79, b 80, b 81, b 82, b 83, b 84, b 85, b 86, b 87, b 88, b 89, b 90, b 91, x 0, x 1, x 2, x 3, x 4, x 5, x 6, x 7, x 8, x 9, x 10, x 11, x 12, x 13, x 14, x 15, x 16, x 17, x 18, x 19, x 20, x 21, x 22, x 23, x 24, x 25, x 26, x 27], defers := d }

def uscVals (ta tc : T) (pa pc : Option Addr) (ca cc : Nat) (xa : Option Addr) (xc : Nat) (l : List PR) (mv : Value) (τ : Sg) (i : Nat) (v : Value) (V : World) : Prop :=
  match i with
  | 0 => v = .bool true
  | 1 => v = .bool true
  | 2 => v = .nilIface
  | 3 => v = .int .i64 0
  | 4 => v = .bool true
  | 5 => v = .bool true
  | 6 => v = .bool true
  | 7 => v = .int .i64 0
  | 8 => v = .bool false
  | 9 => v = .bool false
  | 10 => v = .agg #[.slice xa l.length xc]
  | 11 => v = .agg #[.int .i64 (ta).kind, .string (ta).name, .slice pa (ta).kids.length ca]
  | 12 => ∃ za zc, v = .agg #[.int .i64 (sub τ ta).kind, .string (sub τ ta).name, .slice za (sub τ ta).kids.length zc] ∧ TysAt V (.slice za (sub τ ta).kids.length zc) (sub τ ta).kids
  | 13 => v = mv
  | 14 => v = .agg #[.int .i64 (ta).kind, .string (ta).name, .slice pa (ta).kids.length ca]
  | 15 => ∃ za zc, v = .agg #[.int .i64 (sub τ ta).kind, .string (sub τ ta).name, .slice za (sub τ ta).kids.length zc] ∧ TysAt V (.slice za (sub τ ta).kids.length zc) (sub τ ta).kids
  | 16 => v = .bool true
  | 17 => v = .bool true
  | 18 => v = .agg #[.slice xa l.length xc]
  | 19 => v = .agg #[.int .i64 (tc).kind, .string (tc).name, .slice pc (tc).kids.length cc]
  | 20 => ∃ za zc, v = .agg #[.int .i64 (sub τ tc).kind, .string (sub τ tc).name, .slice za (sub τ tc).kids.length zc] ∧ TysAt V (.slice za (sub τ tc).kids.length zc) (sub τ tc).kids
  | 21 => v = mv
  | 22 => v = .agg #[.int .i64 (tc).kind, .string (tc).name, .slice pc (tc).kids.length cc]
  | 23 => ∃ za zc, v = .agg #[.int .i64 (sub τ tc).kind, .string (sub τ tc).name, .slice za (sub τ tc).kids.length zc] ∧ TysAt V (.slice za (sub τ tc).kids.length zc) (sub τ tc).kids
  | 24 => v = .bool true
  | 25 => v = .bool true
  | 26 => v = .bool true
  | 27 => v = .bool true
  | 28 => v = .bool true
  | _ => True

theorem uscVals_keep {ta tc : T} {pa pc : Option Addr} {ca cc : Nat} {xa : Option Addr} {xc : Nat} {l : List PR} {mv : Value} {τ : Sg} (i : Nat) (v : Value) (V Y : World) (h : uscVals ta tc pa pc ca cc xa xc l mv τ i v V) (hb : Below V.heap.size V Y) : uscVals ta tc pa pc ca cc xa xc l mv τ i v Y := by
  unfold uscVals at *
  split at h <;> first
    | exact h
    | (obtain ⟨za, zc, e, h⟩ := h; exact ⟨za, zc, e, h.keep (KeepT.of_below hb)⟩)

theorem usc_size : uscOps.size = 29 := by kernel_rfl
theorem usc_dst_1 : (uscOps[1]?).bind (·.dst) = some 93 := by kernel_rfl
theorem usc_dst_6 : (uscOps[6]?).bind (·.dst) = some 98 := by kernel_rfl
theorem usc_dst_9 : (uscOps[9]?).bind (·.dst) = some 101 := by kernel_rfl
theorem usc_dst_17 : (uscOps[17]?).bind (·.dst) = some 109 := by kernel_rfl
set_option linter.unusedSimpArgs false in
set_option maxRecDepth 100000 in
set_option maxHeartbeats 8000000 in
theorem usc_region {w : World} {b5 b7 b13 : Nat} {ta tc : T} {pa pc : Option Addr} {ca cc : Nat} {xa : Option Addr} {xc : Nat} {l : List PR} {mv : Value} {q : List PR} {τ : Sg} {b : Nat → Value} {d : List Deferred}
    (h3 : b 3 = .bool true) (h5 : b 5 = .pointer (some ⟨b5, 0, none⟩)) (h7 : b 7 = .pointer (some ⟨b7, 0, none⟩)) (h13 : b 13 = .pointer (some ⟨b13, 0, none⟩)) (h14 : b 14 = .nilIface) (h15 : b 15 = mv) (h16 : b 16 = .int .i64 0)
    (HC4 : ∀ V, UZ w b5 b7 b13 ta tc pa pc ca cc xa xc l mv q V → Calls Tryd.prog 12 #[.nilIface, .int .i64 0] V fun e Y => e = .returned (.bool true) ∧ Below V.heap.size V Y)
    (HC12 : ∀ V, UZ w b5 b7 b13 ta tc pa pc ca cc xa xc l mv q V → Calls Tryd.prog 14 #[.agg #[.slice xa l.length xc], .agg #[.int .i64 (ta).kind, .string (ta).name, .slice pa (ta).kids.length ca]] V fun e Y => (∃ za zc, e = .returned (.agg #[.int .i64 (sub τ ta).kind, .string (sub τ ta).name, .slice za (sub τ ta).kids.length zc]) ∧ TysAt Y (.slice za (sub τ ta).kids.length zc) (sub τ ta).kids) ∧ Below V.heap.size V Y)
    (HC15 : ∀ V, UZ w b5 b7 b13 ta tc pa pc ca cc xa xc l mv q V → Calls Tryd.prog 15 #[mv, .agg #[.int .i64 (ta).kind, .string (ta).name, .slice pa (ta).kids.length ca]] V fun e Y => (∃ za zc, e = .returned (.agg #[.int .i64 (sub τ ta).kind, .string (sub τ ta).name, .slice za (sub τ ta).kids.length zc]) ∧ TysAt Y (.slice za (sub τ ta).kids.length zc) (sub τ ta).kids) ∧ Below V.heap.size V Y)
    (HC16 : ∀ V, UZ w b5 b7 b13 ta tc pa pc ca cc xa xc l mv q V → ∀ za12, ∀ zc12, TysAt V (.slice za12 (sub τ ta).kids.length zc12) (sub τ ta).kids → ∀ za15, ∀ zc15, TysAt V (.slice za15 (sub τ ta).kids.length zc15) (sub τ ta).kids → Calls Tryd.prog 13 #[.agg #[.int .i64 (sub τ ta).kind, .string (sub τ ta).name, .slice za12 (sub τ ta).kids.length zc12], .agg #[.int .i64 (sub τ ta).kind, .string (sub τ ta).name, .slice za15 (sub τ ta).kids.length zc15]] V fun e Y => e = .returned (.bool true) ∧ Below V.heap.size V Y)
    (HC20 : ∀ V, UZ w b5 b7 b13 ta tc pa pc ca cc xa xc l mv q V → Calls Tryd.prog 14 #[.agg #[.slice xa l.length xc], .agg #[.int .i64 (tc).kind, .string (tc).name, .slice pc (tc).kids.length cc]] V fun e Y => (∃ za zc, e = .returned (.agg #[.int .i64 (sub τ tc).kind, .string (sub τ tc).name, .slice za (sub τ tc).kids.length zc]) ∧ TysAt Y (.slice za (sub τ tc).kids.length zc) (sub τ tc).kids) ∧ Below V.heap.size V Y)
    (HC23 : ∀ V, UZ w b5 b7 b13 ta tc pa pc ca cc xa xc l mv q V → Calls Tryd.prog 15 #[mv, .agg #[.int .i64 (tc).kind, .string (tc).name, .slice pc (tc).kids.length cc]] V fun e Y => (∃ za zc, e = .returned (.agg #[.int .i64 (sub τ tc).kind, .string (sub τ tc).name, .slice za (sub τ tc).kids.length zc]) ∧ TysAt Y (.slice za (sub τ tc).kids.length zc) (sub τ tc).kids) ∧ Below V.heap.size V Y)
    (HC24 : ∀ V, UZ w b5 b7 b13 ta tc pa pc ca cc xa xc l mv q V → ∀ za20, ∀ zc20, TysAt V (.slice za20 (sub τ tc).kids.length zc20) (sub τ tc).kids → ∀ za23, ∀ zc23, TysAt V (.slice za23 (sub τ tc).kids.length zc23) (sub τ tc).kids → Calls Tryd.prog 13 #[.agg #[.int .i64 (sub τ tc).kind, .string (sub τ tc).name, .slice za20 (sub τ tc).kids.length zc20], .agg #[.int .i64 (sub τ tc).kind, .string (sub τ tc).name, .slice za23 (sub τ tc).kids.length zc23]] V fun e Y => e = .returned (.bool true) ∧ Below V.heap.size V Y)
    {Q : Exit → Act → World → Prop} {ops : Array Oper} (hops : ops = uscOps) (x0 : Nat → Value) (X : World) (hS : UZ w b5 b7 b13 ta tc pa pc ca cc xa xc l mv q X.drew)
    (hfin : ∀ x V, UZ w b5 b7 b13 ta tc pa pc ca cc xa xc l mv q V → x 28 = .bool true → Q .normal (uscFr b d x) V) : (Code.region 19 ops true).wp Tryd.prog Q (uscFr b d x0) X := by
  have HC := Lib.hid (And.intro HC4 (And.intro HC12 (And.intro HC15 (And.intro HC16 (And.intro HC20 (And.intro HC23 HC24))))))
  clear HC4 HC12 HC15 HC16 HC20 HC23 HC24
  refine region_inv (uscFr b d) (fun V => UZ w b5 b7 b13 ta tc pa pc ca cc xa xc l mv q V) (fun V Y => Below V.heap.size V Y) (uscVals ta tc pa pc ca cc xa xc l mv τ) x0 (by kernel_rfl) rfl hS (fun V Y h hb => h.below hb) (fun i v V Y _ h hb => uscVals_keep i v V Y h hb) ?_ (fun x V hV h => hfin x V hV (h 28 (by rw [hops, usc_size]; decide)))
  clear hfin hS
  obtain ⟨f, hf⟩ : ∃ qq, StepAt Tryd.prog (uscFr b d) (fun V => UZ w b5 b7 b13 ta tc pa pc ca cc xa xc l mv q V) (fun V Y => Below V.heap.size V Y) (uscVals ta tc pa pc ca cc xa xc l mv τ) ops Q = qq := ⟨_, rfl⟩
  rw [hf, hops]
  simp only [uscOps, Tryd.f3, regionIn, Option.getD_some, Nat.reduceBEq, Bool.false_eq_true, if_false, if_true, beq_self_eq_true, Array.append_empty, Array.empty_append, List.append_eq, List.cons_append, List.nil_append, AllAt, Nat.reduceAdd, Nat.zero_add]
  -- 0: slot 92 := Op.move t3
  refine And.intro ?_ ?_
  · rw [← hf]; clear hf
    refine ⟨by decide +kernel, fun x v => by kernel_rfl, fun x V hV hdep K hK => ?_⟩
    clear hdep
    refine run_bare (by kernel_rfl) ?_
    unfold uscFr
    go_simp
    refine kfit (hK _ _ (Below.refl _ V) rfl) ?_
    first | (simp only [uscFr, Act.put, List.setIfInBounds_toArray, List.set_cons_zero, List.set_cons_succ, h3, h5, h7, h13, h14, h15, h16]; done) | (simp only [uscFr, Act.put, List.setIfInBounds_toArray, List.set_cons_zero, List.set_cons_succ, h3, h5, h7, h13, h14, h15, h16]; rfl)
  -- 1: slot 93 := Op.move t92
  refine And.intro ?_ ?_
  · rw [← hf]; clear hf
    refine ⟨by decide +kernel, fun x v => by kernel_rfl, fun x V hV hdep K hK => ?_⟩
    have e0 : x 0 = .bool true := depOf hdep 0 (by decide +kernel)
    clear hdep
    refine run_bare (by kernel_rfl) ?_
    unfold uscFr
    go_simp
    refine kfit (hK _ _ (Below.refl _ V) rfl) ?_
    first | (simp only [uscFr, Act.put, List.setIfInBounds_toArray, List.set_cons_zero, List.set_cons_succ, h3, h5, h7, h13, h14, h15, h16, e0]; done) | (simp only [uscFr, Act.put, List.setIfInBounds_toArray, List.set_cons_zero, List.set_cons_succ, h3, h5, h7, h13, h14, h15, h16, e0]; rfl)
  -- 2: slot 94 := Op.move t14
  refine And.intro ?_ ?_
  · rw [← hf]; clear hf
    refine ⟨by decide +kernel, fun x v => by kernel_rfl, fun x V hV hdep K hK => ?_⟩
    have e1 : x 1 = .bool true := depOf hdep 1 (by decide +kernel)
    clear hdep
    refine run_guard 1 93 (x 1) (by kernel_rfl) (by rw [hops]; exact usc_dst_1) (by kernel_rfl) e1 ?_; clear hops
    unfold uscFr
    go_simp
    refine kfit (hK _ _ (Below.refl _ V) rfl) ?_
    first | (simp only [uscFr, Act.put, List.setIfInBounds_toArray, List.set_cons_zero, List.set_cons_succ, h3, h5, h7, h13, h14, h15, h16, e1]; done) | (simp only [uscFr, Act.put, List.setIfInBounds_toArray, List.set_cons_zero, List.set_cons_succ, h3, h5, h7, h13, h14, h15, h16, e1]; rfl)
  -- 3: slot 95 := Op.move t16
  refine And.intro ?_ ?_
  · rw [← hf]; clear hf
    refine ⟨by decide +kernel, fun x v => by kernel_rfl, fun x V hV hdep K hK => ?_⟩
    have e1 : x 1 = .bool true := depOf hdep 1 (by decide +kernel)
    clear hdep
    refine run_guard 1 93 (x 1) (by kernel_rfl) (by rw [hops]; exact usc_dst_1) (by kernel_rfl) e1 ?_; clear hops
    unfold uscFr
    go_simp
    refine kfit (hK _ _ (Below.refl _ V) rfl) ?_
    first | (simp only [uscFr, Act.put, List.setIfInBounds_toArray, List.set_cons_zero, List.set_cons_succ, h3, h5, h7, h13, h14, h15, h16, e1]; done) | (simp only [uscFr, Act.put, List.setIfInBounds_toArray, List.set_cons_zero, List.set_cons_succ, h3, h5, h7, h13, h14, h15, h16, e1]; rfl)
  -- 4: slot 96 := Op.call { value (Operand.func 12), args := #[t94, t95], argT
  refine And.intro ?_ ?_
  · rw [← hf]; clear hf
    refine ⟨by decide +kernel, fun x v => by kernel_rfl, fun x V hV hdep K hK => ?_⟩
    have e1 : x 1 = .bool true := depOf hdep 1 (by decide +kernel)
    have e2 : x 2 = .nilIface := depOf hdep 2 (by decide +kernel)
    have e3 : x 3 = .int .i64 0 := depOf hdep 3 (by decide +kernel)
    clear hdep
    refine run_guard 1 93 (x 1) (by kernel_rfl) (by rw [hops]; exact usc_dst_1) (by kernel_rfl) e1 ?_; clear hops
    unfold uscFr
    obtain ⟨HC4, HC12, HC15, HC16, HC20, HC23, HC24⟩ := HC.out
    clear HC12 HC15 HC16 HC20 HC23 HC24
    have H := HC4 V hV
    replace H := Lib.hid H; clear HC4
    go_simp
    go_at_call 12
    refine H.out.mono ?_
    rintro e Y ⟨rfl, hb⟩; refine kfit (hK _ _ hb rfl) ?_
    first | (simp only [uscFr, Act.put, List.setIfInBounds_toArray, List.set_cons_zero, List.set_cons_succ, h3, h5, h7, h13, h14, h15, h16, e1, e2, e3]; done) | (simp only [uscFr, Act.put, List.setIfInBounds_toArray, List.set_cons_zero, List.set_cons_succ, h3, h5, h7, h13, h14, h15, h16, e1, e2, e3]; rfl)
  -- 5: slot 97 := Op.pick t93 t96 (const (Value.bool false))
  refine And.intro ?_ ?_
  · rw [← hf]; clear hf
    refine ⟨by decide +kernel, fun x v => by kernel_rfl, fun x V hV hdep K hK => ?_⟩
    have e1 : x 1 = .bool true := depOf hdep 1 (by decide +kernel)
    have e4 : x 4 = .bool true := depOf hdep 4 (by decide +kernel)
    clear hdep
    refine run_bare (by kernel_rfl) ?_
    unfold uscFr
    go_simp
    refine kfit (hK _ _ (Below.refl _ V) rfl) ?_
    first | (simp only [uscFr, Act.put, List.setIfInBounds_toArray, List.set_cons_zero, List.set_cons_succ, h3, h5, h7, h13, h14, h15, h16, e1, e4]; done) | (simp only [uscFr, Act.put, List.setIfInBounds_toArray, List.set_cons_zero, List.set_cons_succ, h3, h5, h7, h13, h14, h15, h16, e1, e4]; rfl)
  -- 6: slot 98 := Op.move t97
  refine And.intro ?_ ?_
  · rw [← hf]; clear hf
    refine ⟨by decide +kernel, fun x v => by kernel_rfl, fun x V hV hdep K hK => ?_⟩
    have e5 : x 5 = .bool true := depOf hdep 5 (by decide +kernel)
    clear hdep
    refine run_bare (by kernel_rfl) ?_
    unfold uscFr
    go_simp
    refine kfit (hK _ _ (Below.refl _ V) rfl) ?_
    first | (simp only [uscFr, Act.put, List.setIfInBounds_toArray, List.set_cons_zero, List.set_cons_succ, h3, h5, h7, h13, h14, h15, h16, e5]; done) | (simp only [uscFr, Act.put, List.setIfInBounds_toArray, List.set_cons_zero, List.set_cons_succ, h3, h5, h7, h13, h14, h15, h16, e5]; rfl)
  -- 7: slot 99 := Op.move t16
  refine And.intro ?_ ?_
  · rw [← hf]; clear hf
    refine ⟨by decide +kernel, fun x v => by kernel_rfl, fun x V hV hdep K hK => ?_⟩
    have e6 : x 6 = .bool true := depOf hdep 6 (by decide +kernel)
    clear hdep
    refine run_guard 6 98 (x 6) (by kernel_rfl) (by rw [hops]; exact usc_dst_6) (by kernel_rfl) e6 ?_; clear hops
    unfold uscFr
    go_simp
    refine kfit (hK _ _ (Below.refl _ V) rfl) ?_
    first | (simp only [uscFr, Act.put, List.setIfInBounds_toArray, List.set_cons_zero, List.set_cons_succ, h3, h5, h7, h13, h14, h15, h16, e6]; done) | (simp only [uscFr, Act.put, List.setIfInBounds_toArray, List.set_cons_zero, List.set_cons_succ, h3, h5, h7, h13, h14, h15, h16, e6]; rfl)
  -- 8: slot 100 := Op.binOp BinOp.neq 3 t99 (const (0:i64)) 3
  refine And.intro ?_ ?_
  · rw [← hf]; clear hf
    refine ⟨by decide +kernel, fun x v => by kernel_rfl, fun x V hV hdep K hK => ?_⟩
    have e6 : x 6 = .bool true := depOf hdep 6 (by decide +kernel)
    have e7 : x 7 = .int .i64 0 := depOf hdep 7 (by decide +kernel)
    clear hdep
    refine run_guard 6 98 (x 6) (by kernel_rfl) (by rw [hops]; exact usc_dst_6) (by kernel_rfl) e6 ?_; clear hops
    unfold uscFr
    go_simp
    refine kfit (hK _ _ (Below.refl _ V) rfl) ?_
    first | (simp only [uscFr, Act.put, List.setIfInBounds_toArray, List.set_cons_zero, List.set_cons_succ, h3, h5, h7, h13, h14, h15, h16, e6, e7]; done) | (simp only [uscFr, Act.put, List.setIfInBounds_toArray, List.set_cons_zero, List.set_cons_succ, h3, h5, h7, h13, h14, h15, h16, e6, e7]; rfl)
  -- 9: slot 101 := Op.move t100
  refine And.intro ?_ ?_
  · rw [← hf]; clear hf
    refine ⟨by decide +kernel, fun x v => by kernel_rfl, fun x V hV hdep K hK => ?_⟩
    have e6 : x 6 = .bool true := depOf hdep 6 (by decide +kernel)
    have e8 : x 8 = .bool false := depOf hdep 8 (by decide +kernel)
    clear hdep
    refine run_guard 6 98 (x 6) (by kernel_rfl) (by rw [hops]; exact usc_dst_6) (by kernel_rfl) e6 ?_; clear hops
    unfold uscFr
    go_simp
    refine kfit (hK _ _ (Below.refl _ V) rfl) ?_
    first | (simp only [uscFr, Act.put, List.setIfInBounds_toArray, List.set_cons_zero, List.set_cons_succ, h3, h5, h7, h13, h14, h15, h16, e6, e8]; done) | (simp only [uscFr, Act.put, List.setIfInBounds_toArray, List.set_cons_zero, List.set_cons_succ, h3, h5, h7, h13, h14, h15, h16, e6, e8]; rfl)
  -- 10: slot 102 := Op.load 33 t13
  refine And.intro ?_ ?_
  · rw [← hf]; clear hf
    refine ⟨by decide +kernel, fun x v => by kernel_rfl, fun x V hV hdep K hK => ?_⟩
    have e9 : x 9 = .bool false := depOf hdep 9 (by decide +kernel)
    clear hdep
    refine run_guardF 9 101 (x 9) (by kernel_rfl) (by rw [hops]; exact usc_dst_9) (by kernel_rfl) e9 ?_; clear hops
    unfold uscFr
    obtain ⟨⟨y0, y1, y2⟩, ⟨y3, y4, y5⟩, y6⟩ := UZ.cells hV
    go_simp
    refine kfit (hK _ _ (Below.refl _ V) rfl) ?_
    first | (simp only [uscFr, Act.put, List.setIfInBounds_toArray, List.set_cons_zero, List.set_cons_succ, h3, h5, h7, h13, h14, h15, h16, e9]; done) | (simp only [uscFr, Act.put, List.setIfInBounds_toArray, List.set_cons_zero, List.set_cons_succ, h3, h5, h7, h13, h14, h15, h16, e9]; rfl)
  -- 11: slot 103 := Op.load 29 t5
  refine And.intro ?_ ?_
  · rw [← hf]; clear hf
    refine ⟨by decide +kernel, fun x v => by kernel_rfl, fun x V hV hdep K hK => ?_⟩
    have e9 : x 9 = .bool false := depOf hdep 9 (by decide +kernel)
    clear hdep
    refine run_guardF 9 101 (x 9) (by kernel_rfl) (by rw [hops]; exact usc_dst_9) (by kernel_rfl) e9 ?_; clear hops
    unfold uscFr
    obtain ⟨⟨y0, y1, y2⟩, ⟨y3, y4, y5⟩, y6⟩ := UZ.cells hV
    go_simp
    refine kfit (hK _ _ (Below.refl _ V) rfl) ?_
    first | (simp only [uscFr, Act.put, List.setIfInBounds_toArray, List.set_cons_zero, List.set_cons_succ, h3, h5, h7, h13, h14, h15, h16, e9]; done) | (simp only [uscFr, Act.put, List.setIfInBounds_toArray, List.set_cons_zero, List.set_cons_succ, h3, h5, h7, h13, h14, h15, h16, e9]; rfl)
  -- 12: slot 104 := Op.call { value (Operand.func 14), args := #[t102, t103], ar
  refine And.intro ?_ ?_
  · rw [← hf]; clear hf
    refine ⟨by decide +kernel, fun x v => by kernel_rfl, fun x V hV hdep K hK => ?_⟩
    have e9 : x 9 = .bool false := depOf hdep 9 (by decide +kernel)
    have e10 : x 10 = .agg #[.slice xa l.length xc] := depOf hdep 10 (by decide +kernel)
    have e11 : x 11 = .agg #[.int .i64 (ta).kind, .string (ta).name, .slice pa (ta).kids.length ca] := depOf hdep 11 (by decide +kernel)
    clear hdep
    refine run_guardF 9 101 (x 9) (by kernel_rfl) (by rw [hops]; exact usc_dst_9) (by kernel_rfl) e9 ?_; clear hops
    unfold uscFr
    obtain ⟨HC4, HC12, HC15, HC16, HC20, HC23, HC24⟩ := HC.out
    clear HC4 HC15 HC16 HC20 HC23 HC24
    have H := HC12 V hV
    replace H := Lib.hid H; clear HC12
    go_simp
    go_at_call 14
    refine H.out.mono ?_
    rintro e Y ⟨⟨za, zc, rfl, hq⟩, hb⟩; refine kfit (hK _ _ hb ⟨za, zc, rfl, hq⟩) ?_
    first | (simp only [uscFr, Act.put, List.setIfInBounds_toArray, List.set_cons_zero, List.set_cons_succ, h3, h5, h7, h13, h14, h15, h16, e9, e10, e11]; done) | (simp only [uscFr, Act.put, List.setIfInBounds_toArray, List.set_cons_zero, List.set_cons_succ, h3, h5, h7, h13, h14, h15, h16, e9, e10, e11]; rfl)
  -- 13: slot 105 := Op.move t15
  refine And.intro ?_ ?_
  · rw [← hf]; clear hf
    refine ⟨by decide +kernel, fun x v => by kernel_rfl, fun x V hV hdep K hK => ?_⟩
    have e9 : x 9 = .bool false := depOf hdep 9 (by decide +kernel)
    clear hdep
    refine run_guardF 9 101 (x 9) (by kernel_rfl) (by rw [hops]; exact usc_dst_9) (by kernel_rfl) e9 ?_; clear hops
    unfold uscFr
    go_simp
    refine kfit (hK _ _ (Below.refl _ V) rfl) ?_
    first | (simp only [uscFr, Act.put, List.setIfInBounds_toArray, List.set_cons_zero, List.set_cons_succ, h3, h5, h7, h13, h14, h15, h16, e9]; done) | (simp only [uscFr, Act.put, List.setIfInBounds_toArray, List.set_cons_zero, List.set_cons_succ, h3, h5, h7, h13, h14, h15, h16, e9]; rfl)
  -- 14: slot 106 := Op.load 29 t5
  refine And.intro ?_ ?_
  · rw [← hf]; clear hf
    refine ⟨by decide +kernel, fun x v => by kernel_rfl, fun x V hV hdep K hK => ?_⟩
    have e9 : x 9 = .bool false := depOf hdep 9 (by decide +kernel)
    clear hdep
    refine run_guardF 9 101 (x 9) (by kernel_rfl) (by rw [hops]; exact usc_dst_9) (by kernel_rfl) e9 ?_; clear hops
    unfold uscFr
    obtain ⟨⟨y0, y1, y2⟩, ⟨y3, y4, y5⟩, y6⟩ := UZ.cells hV
    go_simp
    refine kfit (hK _ _ (Below.refl _ V) rfl) ?_
    first | (simp only [uscFr, Act.put, List.setIfInBounds_toArray, List.set_cons_zero, List.set_cons_succ, h3, h5, h7, h13, h14, h15, h16, e9]; done) | (simp only [uscFr, Act.put, List.setIfInBounds_toArray, List.set_cons_zero, List.set_cons_succ, h3, h5, h7, h13, h14, h15, h16, e9]; rfl)
  -- 15: slot 107 := Op.call { value (Operand.func 15), args := #[t105, t106], ar
  refine And.intro ?_ ?_
  · rw [← hf]; clear hf
    refine ⟨by decide +kernel, fun x v => by kernel_rfl, fun x V hV hdep K hK => ?_⟩
    have e9 : x 9 = .bool false := depOf hdep 9 (by decide +kernel)
    have e13 : x 13 = mv := depOf hdep 13 (by decide +kernel)
    have e14 : x 14 = .agg #[.int .i64 (ta).kind, .string (ta).name, .slice pa (ta).kids.length ca] := depOf hdep 14 (by decide +kernel)
    clear hdep
    refine run_guardF 9 101 (x 9) (by kernel_rfl) (by rw [hops]; exact usc_dst_9) (by kernel_rfl) e9 ?_; clear hops
    unfold uscFr
    obtain ⟨HC4, HC12, HC15, HC16, HC20, HC23, HC24⟩ := HC.out
    clear HC4 HC12 HC16 HC20 HC23 HC24
    have H := HC15 V hV
    replace H := Lib.hid H; clear HC15
    go_simp
    go_at_call 15
    refine H.out.mono ?_
    rintro e Y ⟨⟨za, zc, rfl, hq⟩, hb⟩; refine kfit (hK _ _ hb ⟨za, zc, rfl, hq⟩) ?_
    first | (simp only [uscFr, Act.put, List.setIfInBounds_toArray, List.set_cons_zero, List.set_cons_succ, h3, h5, h7, h13, h14, h15, h16, e9, e13, e14]; done) | (simp only [uscFr, Act.put, List.setIfInBounds_toArray, List.set_cons_zero, List.set_cons_succ, h3, h5, h7, h13, h14, h15, h16, e9, e13, e14]; rfl)
  -- 16: slot 108 := Op.call { value (Operand.func 13), args := #[t104, t107], ar
  refine And.intro ?_ ?_
  · rw [← hf]; clear hf
    refine ⟨by decide +kernel, fun x v => by kernel_rfl, fun x V hV hdep K hK => ?_⟩
    have e9 : x 9 = .bool false := depOf hdep 9 (by decide +kernel)
    obtain ⟨za12, zc12, e12, d12⟩ : ∃ za12 zc12, x 12 = .agg #[.int .i64 (sub τ ta).kind, .string (sub τ ta).name, .slice za12 (sub τ ta).kids.length zc12] ∧ TysAt V (.slice za12 (sub τ ta).kids.length zc12) (sub τ ta).kids := depOf hdep 12 (by decide +kernel)
    obtain ⟨za15, zc15, e15, d15⟩ : ∃ za15 zc15, x 15 = .agg #[.int .i64 (sub τ ta).kind, .string (sub τ ta).name, .slice za15 (sub τ ta).kids.length zc15] ∧ TysAt V (.slice za15 (sub τ ta).kids.length zc15) (sub τ ta).kids := depOf hdep 15 (by decide +kernel)
    clear hdep
    refine run_guardF 9 101 (x 9) (by kernel_rfl) (by rw [hops]; exact usc_dst_9) (by kernel_rfl) e9 ?_; clear hops
    unfold uscFr
    obtain ⟨HC4, HC12, HC15, HC16, HC20, HC23, HC24⟩ := HC.out
    clear HC4 HC12 HC15 HC20 HC23 HC24
    have H := HC16 V hV _ _ d12 _ _ d15
    replace H := Lib.hid H; clear HC16
    go_simp
    go_at_call 13
    refine H.out.mono ?_
    rintro e Y ⟨rfl, hb⟩; refine kfit (hK _ _ hb rfl) ?_
    first | (simp only [uscFr, Act.put, List.setIfInBounds_toArray, List.set_cons_zero, List.set_cons_succ, h3, h5, h7, h13, h14, h15, h16, e9, e12, e15]; done) | (simp only [uscFr, Act.put, List.setIfInBounds_toArray, List.set_cons_zero, List.set_cons_succ, h3, h5, h7, h13, h14, h15, h16, e9, e12, e15]; rfl)
  -- 17: slot 109 := Op.move t108
  refine And.intro ?_ ?_
  · rw [← hf]; clear hf
    refine ⟨by decide +kernel, fun x v => by kernel_rfl, fun x V hV hdep K hK => ?_⟩
    have e9 : x 9 = .bool false := depOf hdep 9 (by decide +kernel)
    have e16 : x 16 = .bool true := depOf hdep 16 (by decide +kernel)
    clear hdep
    refine run_guardF 9 101 (x 9) (by kernel_rfl) (by rw [hops]; exact usc_dst_9) (by kernel_rfl) e9 ?_; clear hops
    unfold uscFr
    go_simp
    refine kfit (hK _ _ (Below.refl _ V) rfl) ?_
    first | (simp only [uscFr, Act.put, List.setIfInBounds_toArray, List.set_cons_zero, List.set_cons_succ, h3, h5, h7, h13, h14, h15, h16, e9, e16]; done) | (simp only [uscFr, Act.put, List.setIfInBounds_toArray, List.set_cons_zero, List.set_cons_succ, h3, h5, h7, h13, h14, h15, h16, e9, e16]; rfl)
  -- 18: slot 110 := Op.load 33 t13
  refine And.intro ?_ ?_
  · rw [← hf]; clear hf
    refine ⟨by decide +kernel, fun x v => by kernel_rfl, fun x V hV hdep K hK => ?_⟩
    have e17 : x 17 = .bool true := depOf hdep 17 (by decide +kernel)
    clear hdep
    refine run_guard 17 109 (x 17) (by kernel_rfl) (by rw [hops]; exact usc_dst_17) (by kernel_rfl) e17 ?_; clear hops
    unfold uscFr
    obtain ⟨⟨y0, y1, y2⟩, ⟨y3, y4, y5⟩, y6⟩ := UZ.cells hV
    go_simp
    refine kfit (hK _ _ (Below.refl _ V) rfl) ?_
    first | (simp only [uscFr, Act.put, List.setIfInBounds_toArray, List.set_cons_zero, List.set_cons_succ, h3, h5, h7, h13, h14, h15, h16, e17]; done) | (simp only [uscFr, Act.put, List.setIfInBounds_toArray, List.set_cons_zero, List.set_cons_succ, h3, h5, h7, h13, h14, h15, h16, e17]; rfl)
  -- 19: slot 111 := Op.load 29 t7
  refine And.intro ?_ ?_
  · rw [← hf]; clear hf
    refine ⟨by decide +kernel, fun x v => by kernel_rfl, fun x V hV hdep K hK => ?_⟩
    have e17 : x 17 = .bool true := depOf hdep 17 (by decide +kernel)
    clear hdep
    refine run_guard 17 109 (x 17) (by kernel_rfl) (by rw [hops]; exact usc_dst_17) (by kernel_rfl) e17 ?_; clear hops
    unfold uscFr
    obtain ⟨⟨y0, y1, y2⟩, ⟨y3, y4, y5⟩, y6⟩ := UZ.cells hV
    go_simp
    refine kfit (hK _ _ (Below.refl _ V) rfl) ?_
    first | (simp only [uscFr, Act.put, List.setIfInBounds_toArray, List.set_cons_zero, List.set_cons_succ, h3, h5, h7, h13, h14, h15, h16, e17]; done) | (simp only [uscFr, Act.put, List.setIfInBounds_toArray, List.set_cons_zero, List.set_cons_succ, h3, h5, h7, h13, h14, h15, h16, e17]; rfl)
  -- 20: slot 112 := Op.call { value (Operand.func 14), args := #[t110, t111], ar
  refine And.intro ?_ ?_
  · rw [← hf]; clear hf
    refine ⟨by decide +kernel, fun x v => by kernel_rfl, fun x V hV hdep K hK => ?_⟩
    have e17 : x 17 = .bool true := depOf hdep 17 (by decide +kernel)
    have e18 : x 18 = .agg #[.slice xa l.length xc] := depOf hdep 18 (by decide +kernel)
    have e19 : x 19 = .agg #[.int .i64 (tc).kind, .string (tc).name, .slice pc (tc).kids.length cc] := depOf hdep 19 (by decide +kernel)
    clear hdep
    refine run_guard 17 109 (x 17) (by kernel_rfl) (by rw [hops]; exact usc_dst_17) (by kernel_rfl) e17 ?_; clear hops
    unfold uscFr
    obtain ⟨HC4, HC12, HC15, HC16, HC20, HC23, HC24⟩ := HC.out
    clear HC4 HC12 HC15 HC16 HC23 HC24
    have H := HC20 V hV
    replace H := Lib.hid H; clear HC20
    go_simp
    go_at_call 14
    refine H.out.mono ?_
    rintro e Y ⟨⟨za, zc, rfl, hq⟩, hb⟩; refine kfit (hK _ _ hb ⟨za, zc, rfl, hq⟩) ?_
    first | (simp only [uscFr, Act.put, List.setIfInBounds_toArray, List.set_cons_zero, List.set_cons_succ, h3, h5, h7, h13, h14, h15, h16, e17, e18, e19]; done) | (simp only [uscFr, Act.put, List.setIfInBounds_toArray, List.set_cons_zero, List.set_cons_succ, h3, h5, h7, h13, h14, h15, h16, e17, e18, e19]; rfl)
  -- 21: slot 113 := Op.move t15
  refine And.intro ?_ ?_
  · rw [← hf]; clear hf
    refine ⟨by decide +kernel, fun x v => by kernel_rfl, fun x V hV hdep K hK => ?_⟩
    have e17 : x 17 = .bool true := depOf hdep 17 (by decide +kernel)
    clear hdep
    refine run_guard 17 109 (x 17) (by kernel_rfl) (by rw [hops]; exact usc_dst_17) (by kernel_rfl) e17 ?_; clear hops
    unfold uscFr
    go_simp
    refine kfit (hK _ _ (Below.refl _ V) rfl) ?_
    first | (simp only [uscFr, Act.put, List.setIfInBounds_toArray, List.set_cons_zero, List.set_cons_succ, h3, h5, h7, h13, h14, h15, h16, e17]; done) | (simp only [uscFr, Act.put, List.setIfInBounds_toArray, List.set_cons_zero, List.set_cons_succ, h3, h5, h7, h13, h14, h15, h16, e17]; rfl)
  -- 22: slot 114 := Op.load 29 t7
  refine And.intro ?_ ?_
  · rw [← hf]; clear hf
    refine ⟨by decide +kernel, fun x v => by kernel_rfl, fun x V hV hdep K hK => ?_⟩
    have e17 : x 17 = .bool true := depOf hdep 17 (by decide +kernel)
    clear hdep
    refine run_guard 17 109 (x 17) (by kernel_rfl) (by rw [hops]; exact usc_dst_17) (by kernel_rfl) e17 ?_; clear hops
    unfold uscFr
    obtain ⟨⟨y0, y1, y2⟩, ⟨y3, y4, y5⟩, y6⟩ := UZ.cells hV
    go_simp
    refine kfit (hK _ _ (Below.refl _ V) rfl) ?_
    first | (simp only [uscFr, Act.put, List.setIfInBounds_toArray, List.set_cons_zero, List.set_cons_succ, h3, h5, h7, h13, h14, h15, h16, e17]; done) | (simp only [uscFr, Act.put, List.setIfInBounds_toArray, List.set_cons_zero, List.set_cons_succ, h3, h5, h7, h13, h14, h15, h16, e17]; rfl)
  -- 23: slot 115 := Op.call { value (Operand.func 15), args := #[t113, t114], ar
  refine And.intro ?_ ?_
  · rw [← hf]; clear hf
    refine ⟨by decide +kernel, fun x v => by kernel_rfl, fun x V hV hdep K hK => ?_⟩
    have e17 : x 17 = .bool true := depOf hdep 17 (by decide +kernel)
    have e21 : x 21 = mv := depOf hdep 21 (by decide +kernel)
    have e22 : x 22 = .agg #[.int .i64 (tc).kind, .string (tc).name, .slice pc (tc).kids.length cc] := depOf hdep 22 (by decide +kernel)
    clear hdep
    refine run_guard 17 109 (x 17) (by kernel_rfl) (by rw [hops]; exact usc_dst_17) (by kernel_rfl) e17 ?_; clear hops
    unfold uscFr
    obtain ⟨HC4, HC12, HC15, HC16, HC20, HC23, HC24⟩ := HC.out
    clear HC4 HC12 HC15 HC16 HC20 HC24
    have H := HC23 V hV
    replace H := Lib.hid H; clear HC23
    go_simp
    go_at_call 15
    refine H.out.mono ?_
    rintro e Y ⟨⟨za, zc, rfl, hq⟩, hb⟩; refine kfit (hK _ _ hb ⟨za, zc, rfl, hq⟩) ?_
    first | (simp only [uscFr, Act.put, List.setIfInBounds_toArray, List.set_cons_zero, List.set_cons_succ, h3, h5, h7, h13, h14, h15, h16, e17, e21, e22]; done) | (simp only [uscFr, Act.put, List.setIfInBounds_toArray, List.set_cons_zero, List.set_cons_succ, h3, h5, h7, h13, h14, h15, h16, e17, e21, e22]; rfl)
  -- 24: slot 116 := Op.call { value (Operand.func 13), args := #[t112, t115], ar
  refine And.intro ?_ ?_
  · rw [← hf]; clear hf
    refine ⟨by decide +kernel, fun x v => by kernel_rfl, fun x V hV hdep K hK => ?_⟩
    have e17 : x 17 = .bool true := depOf hdep 17 (by decide +kernel)
    obtain ⟨za20, zc20, e20, d20⟩ : ∃ za20 zc20, x 20 = .agg #[.int .i64 (sub τ tc).kind, .string (sub τ tc).name, .slice za20 (sub τ tc).kids.length zc20] ∧ TysAt V (.slice za20 (sub τ tc).kids.length zc20) (sub τ tc).kids := depOf hdep 20 (by decide +kernel)
    obtain ⟨za23, zc23, e23, d23⟩ : ∃ za23 zc23, x 23 = .agg #[.int .i64 (sub τ tc).kind, .string (sub τ tc).name, .slice za23 (sub τ tc).kids.length zc23] ∧ TysAt V (.slice za23 (sub τ tc).kids.length zc23) (sub τ tc).kids := depOf hdep 23 (by decide +kernel)
    clear hdep
    refine run_guard 17 109 (x 17) (by kernel_rfl) (by rw [hops]; exact usc_dst_17) (by kernel_rfl) e17 ?_; clear hops
    unfold uscFr
    obtain ⟨HC4, HC12, HC15, HC16, HC20, HC23, HC24⟩ := HC.out
    clear HC4 HC12 HC15 HC16 HC20 HC23
    have H := HC24 V hV _ _ d20 _ _ d23
    replace H := Lib.hid H; clear HC24
    go_simp
    go_at_call 13
    refine H.out.mono ?_
    rintro e Y ⟨rfl, hb⟩; refine kfit (hK _ _ hb rfl) ?_
    first | (simp only [uscFr, Act.put, List.setIfInBounds_toArray, List.set_cons_zero, List.set_cons_succ, h3, h5, h7, h13, h14, h15, h16, e17, e20, e23]; done) | (simp only [uscFr, Act.put, List.setIfInBounds_toArray, List.set_cons_zero, List.set_cons_succ, h3, h5, h7, h13, h14, h15, h16, e17, e20, e23]; rfl)
  -- 25: slot 117 := Op.pick t109 t116 (const (Value.bool false))
  refine And.intro ?_ ?_
  · rw [← hf]; clear hf
    refine ⟨by decide +kernel, fun x v => by kernel_rfl, fun x V hV hdep K hK => ?_⟩
    have e9 : x 9 = .bool false := depOf hdep 9 (by decide +kernel)
    have e17 : x 17 = .bool true := depOf hdep 17 (by decide +kernel)
    have e24 : x 24 = .bool true := depOf hdep 24 (by decide +kernel)
    clear hdep
    refine run_guardF 9 101 (x 9) (by kernel_rfl) (by rw [hops]; exact usc_dst_9) (by kernel_rfl) e9 ?_; clear hops
    unfold uscFr
    go_simp
    refine kfit (hK _ _ (Below.refl _ V) rfl) ?_
    first | (simp only [uscFr, Act.put, List.setIfInBounds_toArray, List.set_cons_zero, List.set_cons_succ, h3, h5, h7, h13, h14, h15, h16, e9, e17, e24]; done) | (simp only [uscFr, Act.put, List.setIfInBounds_toArray, List.set_cons_zero, List.set_cons_succ, h3, h5, h7, h13, h14, h15, h16, e9, e17, e24]; rfl)
  -- 26: slot 118 := Op.pick t101 (const (Value.bool true)) t117
  refine And.intro ?_ ?_
  · rw [← hf]; clear hf
    refine ⟨by decide +kernel, fun x v => by kernel_rfl, fun x V hV hdep K hK => ?_⟩
    have e6 : x 6 = .bool true := depOf hdep 6 (by decide +kernel)
    have e9 : x 9 = .bool false := depOf hdep 9 (by decide +kernel)
    have e25 : x 25 = .bool true := depOf hdep 25 (by decide +kernel)
    clear hdep
    refine run_guard 6 98 (x 6) (by kernel_rfl) (by rw [hops]; exact usc_dst_6) (by kernel_rfl) e6 ?_; clear hops
    unfold uscFr
    go_simp
    refine kfit (hK _ _ (Below.refl _ V) rfl) ?_
    first | (simp only [uscFr, Act.put, List.setIfInBounds_toArray, List.set_cons_zero, List.set_cons_succ, h3, h5, h7, h13, h14, h15, h16, e6, e9, e25]; done) | (simp only [uscFr, Act.put, List.setIfInBounds_toArray, List.set_cons_zero, List.set_cons_succ, h3, h5, h7, h13, h14, h15, h16, e6, e9, e25]; rfl)
  -- 27: slot 119 := Op.pick t98 t118 (const (Value.bool false))
  refine And.intro ?_ ?_
  · rw [← hf]; clear hf
    refine ⟨by decide +kernel, fun x v => by kernel_rfl, fun x V hV hdep K hK => ?_⟩
    have e6 : x 6 = .bool true := depOf hdep 6 (by decide +kernel)
    have e26 : x 26 = .bool true := depOf hdep 26 (by decide +kernel)
    clear hdep
    refine run_bare (by kernel_rfl) ?_
    unfold uscFr
    go_simp
    refine kfit (hK _ _ (Below.refl _ V) rfl) ?_
    first | (simp only [uscFr, Act.put, List.setIfInBounds_toArray, List.set_cons_zero, List.set_cons_succ, h3, h5, h7, h13, h14, h15, h16, e6, e26]; done) | (simp only [uscFr, Act.put, List.setIfInBounds_toArray, List.set_cons_zero, List.set_cons_succ, h3, h5, h7, h13, h14, h15, h16, e6, e26]; rfl)
  -- 28: slot 2 := Op.assign t119
  refine And.intro ?_ ?_
  · rw [← hf]; clear hf
    refine ⟨by decide +kernel, fun x v => by kernel_rfl, fun x V hV hdep K hK => ?_⟩
    have e27 : x 27 = .bool true := depOf hdep 27 (by decide +kernel)
    clear hdep
    refine run_bare (by kernel_rfl) ?_
    unfold uscFr
    go_simp
    refine kfit (hK _ _ (Below.refl _ V) rfl) ?_
    first | (simp only [uscFr, Act.put, List.setIfInBounds_toArray, List.set_cons_zero, List.set_cons_succ, h3, h5, h7, h13, h14, h15, h16, e27]; done) | (simp only [uscFr, Act.put, List.setIfInBounds_toArray, List.set_cons_zero, List.set_cons_succ, h3, h5, h7, h13, h14, h15, h16, e27]; rfl)
  exact trivial
theorem usc_here {w : World} {b5 b7 b13 : Nat} {ta tc : T} {pa pc : Option Addr} {ca cc : Nat} {xa : Option Addr} {xc : Nat} {l : List PR} {mv : Value} {q : List PR} {τ : Sg}
    (HC4 : ∀ V, UZ w b5 b7 b13 ta tc pa pc ca cc xa xc l mv q V → Calls Tryd.prog 12 #[.nilIface, .int .i64 0] V fun e Y => e = .returned (.bool true) ∧ Below V.heap.size V Y)
    (HC12 : ∀ V, UZ w b5 b7 b13 ta tc pa pc ca cc xa xc l mv q V → Calls Tryd.prog 14 #[.agg #[.slice xa l.length xc], .agg #[.int .i64 (ta).kind, .string (ta).name, .slice pa (ta).kids.length ca]] V fun e Y => (∃ za zc, e = .returned (.agg #[.int .i64 (sub τ ta).kind, .string (sub τ ta).name, .slice za (sub τ ta).kids.length zc]) ∧ TysAt Y (.slice za (sub τ ta).kids.length zc) (sub τ ta).kids) ∧ Below V.heap.size V Y)
    (HC15 : ∀ V, UZ w b5 b7 b13 ta tc pa pc ca cc xa xc l mv q V → Calls Tryd.prog 15 #[mv, .agg #[.int .i64 (ta).kind, .string (ta).name, .slice pa (ta).kids.length ca]] V fun e Y => (∃ za zc, e = .returned (.agg #[.int .i64 (sub τ ta).kind, .string (sub τ ta).name, .slice za (sub τ ta).kids.length zc]) ∧ TysAt Y (.slice za (sub τ ta).kids.length zc) (sub τ ta).kids) ∧ Below V.heap.size V Y)
    (HC16 : ∀ V, UZ w b5 b7 b13 ta tc pa pc ca cc xa xc l mv q V → ∀ za12, ∀ zc12, TysAt V (.slice za12 (sub τ ta).kids.length zc12) (sub τ ta).kids → ∀ za15, ∀ zc15, TysAt V (.slice za15 (sub τ ta).kids.length zc15) (sub τ ta).kids → Calls Tryd.prog 13 #[.agg #[.int .i64 (sub τ ta).kind, .string (sub τ ta).name, .slice za12 (sub τ ta).kids.length zc12], .agg #[.int .i64 (sub τ ta).kind, .string (sub τ ta).name, .slice za15 (sub τ ta).kids.length zc15]] V fun e Y => e = .returned (.bool true) ∧ Below V.heap.size V Y)
    (HC20 : ∀ V, UZ w b5 b7 b13 ta tc pa pc ca cc xa xc l mv q V → Calls Tryd.prog 14 #[.agg #[.slice xa l.length xc], .agg #[.int .i64 (tc).kind, .string (tc).name, .slice pc (tc).kids.length cc]] V fun e Y => (∃ za zc, e = .returned (.agg #[.int .i64 (sub τ tc).kind, .string (sub τ tc).name, .slice za (sub τ tc).kids.length zc]) ∧ TysAt Y (.slice za (sub τ tc).kids.length zc) (sub τ tc).kids) ∧ Below V.heap.size V Y)
    (HC23 : ∀ V, UZ w b5 b7 b13 ta tc pa pc ca cc xa xc l mv q V → Calls Tryd.prog 15 #[mv, .agg #[.int .i64 (tc).kind, .string (tc).name, .slice pc (tc).kids.length cc]] V fun e Y => (∃ za zc, e = .returned (.agg #[.int .i64 (sub τ tc).kind, .string (sub τ tc).name, .slice za (sub τ tc).kids.length zc]) ∧ TysAt Y (.slice za (sub τ tc).kids.length zc) (sub τ tc).kids) ∧ Below V.heap.size V Y)
    (HC24 : ∀ V, UZ w b5 b7 b13 ta tc pa pc ca cc xa xc l mv q V → ∀ za20, ∀ zc20, TysAt V (.slice za20 (sub τ tc).kids.length zc20) (sub τ tc).kids → ∀ za23, ∀ zc23, TysAt V (.slice za23 (sub τ tc).kids.length zc23) (sub τ tc).kids → Calls Tryd.prog 13 #[.agg #[.int .i64 (sub τ tc).kind, .string (sub τ tc).name, .slice za20 (sub τ tc).kids.length zc20], .agg #[.int .i64 (sub τ tc).kind, .string (sub τ tc).name, .slice za23 (sub τ tc).kids.length zc23]] V fun e Y => e = .returned (.bool true) ∧ Below V.heap.size V Y)
    {Q : Exit → Act → World → Prop} {ops : Array Oper} {a : Act} (X : World) (hops : ops = uscOps)
    (h3 : a.tmps.getD 3 undef = .bool true) (h5 : a.tmps.getD 5 undef = .pointer (some ⟨b5, 0, none⟩)) (h7 : a.tmps.getD 7 undef = .pointer (some ⟨b7, 0, none⟩)) (h13 : a.tmps.getD 13 undef = .pointer (some ⟨b13, 0, none⟩)) (h14 : a.tmps.getD 14 undef = .nilIface) (h15 : a.tmps.getD 15 undef = mv) (h16 : a.tmps.getD 16 undef = .int .i64 0)
    (ha : a = uscFr (fun j => a.tmps.getD j undef) a.defers (fun i => a.tmps.getD (if i = 28 then 2 else 92 + i) undef)) (hS : UZ w b5 b7 b13 ta tc pa pc ca cc xa xc l mv q X.drew)
    (hfin : ∀ x V, UZ w b5 b7 b13 ta tc pa pc ca cc xa xc l mv q V → x 28 = .bool true → Q .normal (uscFr (fun j => a.tmps.getD j undef) a.defers x) V) : (Code.region 19 ops true).wp Tryd.prog Q a X :=
  cast (congrArg (fun z => (Code.region 19 ops true).wp Tryd.prog Q z X) ha.symm) (usc_region (b := fun j => a.tmps.getD j undef) (d := a.defers) h3 h5 h7 h13 h14 h15 h16 HC4 HC12 HC15 HC16 HC20 HC23 HC24 hops _ X hS hfin)
end Go.Proofs.YtdcfemojkdoakaaDoor
/- UnifySays: its last statement, a region of 29 operations that draws its order, by an invariant. (Made by a program.) -/
namespace Go.Proofs.YtdcfemojkdoakaaDoor
open Go.RowKit Go.Sort Go.Lib
attribute [local go_sem] Oper.semAt_some

noncomputable def usdOps : Array Oper := regionIn 19 (Tryd.f3.body.getD .skip)
def usdFr (b : Nat → Value) (d : List Deferred) (x : Nat → Value) : Act := { tmps := #[b 0, b 1, x 28, b 3, b 4, b 5, b 6, b 7, b 8, b 9, b 10, b 11, b 12, b 13, b 14, b 15, b 16, b 17, b 18, b 19, b 20, b 21, b 22, b 23, b 24, b 25, b 26, b 27, b 28, b 29, b 30, b 31, b 32, b 33, b 34, b 35, b 36, b 37, b 38, b 39, b 40, b 41, b 42, b 43, b 44, b 45, b 46, b 47, b 48, b 49, b 50, b 51, b 52, b 53, b 54, b 55, b 56, b 57, b 58, b 59, b 60, b 61, b 62, b 63, b 64, b 65, b 66, b 67, b 68, b 69, b 70, b 71, b 72, b 73, b 74, b 75, b 76, b 77, b 78, b 79, b 80, b 81, b 82, b 83, b 84, b 85, b 86, b 87, b 88, b 89, b 90, b 91, x 0, x 1, x 2, x 3, x 4, x 5, x 6, x 7, x 8, x 9, x 10, x 11, x 12, x 13, x 14, x 15, x 16, x 17, x 18, x 19, x 20, x 21, x 22, x 23, x 24, x 25, x 26, x 27], defers := d }

def usdVals (ev : Value) (i : Nat) (v : Value) (_ : World) : Prop :=
  match i with
  | 0 => v = .bool true
  | 1 => v = .bool true
  | 2 => v = ev
  | 3 => v = .int .i64 106
  | 4 => v = .bool true
  | 5 => v = .bool true
  | 6 => v = .bool true
  | 7 => v = .int .i64 106
  | 8 => v = .bool true
  | 9 => v = .bool true
  | 10 => ∃ zu, v = zu ∧ True
  | 11 => ∃ zu, v = zu ∧ True
  | 12 => ∃ zu, v = zu ∧ True
  | 13 => ∃ zu, v = zu ∧ True
  | 14 => ∃ zu, v = zu ∧ True
  | 15 => ∃ zu, v = zu ∧ True
  | 16 => ∃ zu, v = zu ∧ True
  | 17 => v = undef
  | 18 => ∃ zu, v = zu ∧ True
  | 19 => ∃ zu, v = zu ∧ True
  | 20 => ∃ zu, v = zu ∧ True
  | 21 => ∃ zu, v = zu ∧ True
  | 22 => ∃ zu, v = zu ∧ True
  | 23 => ∃ zu, v = zu ∧ True
  | 24 => ∃ zu, v = zu ∧ True
  | 25 => ∃ zu, v = zu ∧ True
  | 26 => v = .bool true
  | 27 => v = .bool true
  | 28 => v = .bool true
  | _ => True

theorem usdVals_keep {ev : Value} (i : Nat) (v : Value) (V Y : World) (h : usdVals ev i v V) (_ : Below V.heap.size V Y) : usdVals ev i v Y := by
  unfold usdVals at *
  split at h <;> first
    | exact h
    | (obtain ⟨zu, e, h⟩ := h; exact ⟨zu, e, h⟩)

theorem usd_size : usdOps.size = 29 := by kernel_rfl
theorem usd_dst_1 : (usdOps[1]?).bind (·.dst) = some 93 := by kernel_rfl
theorem usd_dst_6 : (usdOps[6]?).bind (·.dst) = some 98 := by kernel_rfl
theorem usd_dst_9 : (usdOps[9]?).bind (·.dst) = some 101 := by kernel_rfl
theorem usd_dst_17 : (usdOps[17]?).bind (·.dst) = some 109 := by kernel_rfl
set_option linter.unusedSimpArgs false in
set_option maxRecDepth 100000 in
set_option maxHeartbeats 8000000 in
theorem usd_region {w : World} {ev : Value} {b : Nat → Value} {d : List Deferred}
    (h3 : b 3 = .bool true) (h14 : b 14 = ev) (h16 : b 16 = .int .i64 106)
    (HC4 : ∀ V, Below w.heap.size w V → Calls Tryd.prog 12 #[ev, .int .i64 106] V fun e Y => e = .returned (.bool true) ∧ Below V.heap.size V Y)
    {Q : Exit → Act → World → Prop} {ops : Array Oper} (hops : ops = usdOps) (x0 : Nat → Value) (X : World) (hS : Below w.heap.size w X.drew)
    (hfin : ∀ x V, Below w.heap.size w V → x 28 = .bool true → Q .normal (usdFr b d x) V) : (Code.region 19 ops true).wp Tryd.prog Q (usdFr b d x0) X := by
  have HC := Lib.hid (HC4)
  clear HC4
  refine region_inv (usdFr b d) (fun V => Below w.heap.size w V) (fun V Y => Below V.heap.size V Y) (usdVals ev) x0 (by kernel_rfl) rfl hS (fun V Y h hb => h.trans (hb.mono h.size)) (fun i v V Y _ h hb => usdVals_keep i v V Y h hb) ?_ (fun x V hV h => hfin x V hV (h 28 (by rw [hops, usd_size]; decide)))
  clear hfin hS
  obtain ⟨f, hf⟩ : ∃ qq, StepAt Tryd.prog (usdFr b d) (fun V => Below w.heap.size w V) (fun V Y => Below V.heap.size V Y) (usdVals ev) ops Q = qq := ⟨_, rfl⟩
  rw [hf, hops]
  simp only [usdOps, Tryd.f3, regionIn, Option.getD_some, Nat.reduceBEq, Bool.false_eq_true, if_false, if_true, beq_self_eq_true, Array.append_empty, Array.empty_append, List.append_eq, List.cons_append, List.nil_append, AllAt, Nat.reduceAdd, Nat.zero_add]
  -- 0: slot 92 := Op.move t3
  refine And.intro ?_ ?_
  · rw [← hf]; clear hf
    refine ⟨by decide +kernel, fun x v => by kernel_rfl, fun x V hV hdep K hK => ?_⟩
    clear hdep
    refine run_bare (by kernel_rfl) ?_
    unfold usdFr
    go_simp
    refine kfit (hK _ _ (Below.refl _ V) rfl) ?_
    first | (simp only [usdFr, Act.put, List.setIfInBounds_toArray, List.set_cons_zero, List.set_cons_succ, h3, h14, h16]; done) | (simp only [usdFr, Act.put, List.setIfInBounds_toArray, List.set_cons_zero, List.set_cons_succ, h3, h14, h16]; rfl)
  -- 1: slot 93 := Op.move t92
  refine And.intro ?_ ?_
  · rw [← hf]; clear hf
    refine ⟨by decide +kernel, fun x v => by kernel_rfl, fun x V hV hdep K hK => ?_⟩
    have e0 : x 0 = .bool true := depOf hdep 0 (by decide +kernel)
    clear hdep
    refine run_bare (by kernel_rfl) ?_
    unfold usdFr
    go_simp
    refine kfit (hK _ _ (Below.refl _ V) rfl) ?_
    first | (simp only [usdFr, Act.put, List.setIfInBounds_toArray, List.set_cons_zero, List.set_cons_succ, h3, h14, h16, e0]; done) | (simp only [usdFr, Act.put, List.setIfInBounds_toArray, List.set_cons_zero, List.set_cons_succ, h3, h14, h16, e0]; rfl)
  -- 2: slot 94 := Op.move t14
  refine And.intro ?_ ?_
  · rw [← hf]; clear hf
    refine ⟨by decide +kernel, fun x v => by kernel_rfl, fun x V hV hdep K hK => ?_⟩
    have e1 : x 1 = .bool true := depOf hdep 1 (by decide +kernel)
    clear hdep
    refine run_guard 1 93 (x 1) (by kernel_rfl) (by rw [hops]; exact usd_dst_1) (by kernel_rfl) e1 ?_; clear hops
    unfold usdFr
    go_simp
    refine kfit (hK _ _ (Below.refl _ V) rfl) ?_
    first | (simp only [usdFr, Act.put, List.setIfInBounds_toArray, List.set_cons_zero, List.set_cons_succ, h3, h14, h16, e1]; done) | (simp only [usdFr, Act.put, List.setIfInBounds_toArray, List.set_cons_zero, List.set_cons_succ, h3, h14, h16, e1]; rfl)
  -- 3: slot 95 := Op.move t16
  refine And.intro ?_ ?_
  · rw [← hf]; clear hf
    refine ⟨by decide +kernel, fun x v => by kernel_rfl, fun x V hV hdep K hK => ?_⟩
    have e1 : x 1 = .bool true := depOf hdep 1 (by decide +kernel)
    clear hdep
    refine run_guard 1 93 (x 1) (by kernel_rfl) (by rw [hops]; exact usd_dst_1) (by kernel_rfl) e1 ?_; clear hops
    unfold usdFr
    go_simp
    refine kfit (hK _ _ (Below.refl _ V) rfl) ?_
    first | (simp only [usdFr, Act.put, List.setIfInBounds_toArray, List.set_cons_zero, List.set_cons_succ, h3, h14, h16, e1]; done) | (simp only [usdFr, Act.put, List.setIfInBounds_toArray, List.set_cons_zero, List.set_cons_succ, h3, h14, h16, e1]; rfl)
  -- 4: slot 96 := Op.call { value (Operand.func 12), args := #[t94, t95], argT
  refine And.intro ?_ ?_
  · rw [← hf]; clear hf
    refine ⟨by decide +kernel, fun x v => by kernel_rfl, fun x V hV hdep K hK => ?_⟩
    have e1 : x 1 = .bool true := depOf hdep 1 (by decide +kernel)
    have e2 : x 2 = ev := depOf hdep 2 (by decide +kernel)
    have e3 : x 3 = .int .i64 106 := depOf hdep 3 (by decide +kernel)
    clear hdep
    refine run_guard 1 93 (x 1) (by kernel_rfl) (by rw [hops]; exact usd_dst_1) (by kernel_rfl) e1 ?_; clear hops
    unfold usdFr
    have HC4 := HC.out
    have H := HC4 V hV
    replace H := Lib.hid H; clear HC4
    go_simp
    go_at_call 12
    refine H.out.mono ?_
    rintro e Y ⟨rfl, hb⟩; refine kfit (hK _ _ hb rfl) ?_
    first | (simp only [usdFr, Act.put, List.setIfInBounds_toArray, List.set_cons_zero, List.set_cons_succ, h3, h14, h16, e1, e2, e3]; done) | (simp only [usdFr, Act.put, List.setIfInBounds_toArray, List.set_cons_zero, List.set_cons_succ, h3, h14, h16, e1, e2, e3]; rfl)
  -- 5: slot 97 := Op.pick t93 t96 (const (Value.bool false))
  refine And.intro ?_ ?_
  · rw [← hf]; clear hf
    refine ⟨by decide +kernel, fun x v => by kernel_rfl, fun x V hV hdep K hK => ?_⟩
    have e1 : x 1 = .bool true := depOf hdep 1 (by decide +kernel)
    have e4 : x 4 = .bool true := depOf hdep 4 (by decide +kernel)
    clear hdep
    refine run_bare (by kernel_rfl) ?_
    unfold usdFr
    go_simp
    refine kfit (hK _ _ (Below.refl _ V) rfl) ?_
    first | (simp only [usdFr, Act.put, List.setIfInBounds_toArray, List.set_cons_zero, List.set_cons_succ, h3, h14, h16, e1, e4]; done) | (simp only [usdFr, Act.put, List.setIfInBounds_toArray, List.set_cons_zero, List.set_cons_succ, h3, h14, h16, e1, e4]; rfl)
  -- 6: slot 98 := Op.move t97
  refine And.intro ?_ ?_
  · rw [← hf]; clear hf
    refine ⟨by decide +kernel, fun x v => by kernel_rfl, fun x V hV hdep K hK => ?_⟩
    have e5 : x 5 = .bool true := depOf hdep 5 (by decide +kernel)
    clear hdep
    refine run_bare (by kernel_rfl) ?_
    unfold usdFr
    go_simp
    refine kfit (hK _ _ (Below.refl _ V) rfl) ?_
    first | (simp only [usdFr, Act.put, List.setIfInBounds_toArray, List.set_cons_zero, List.set_cons_succ, h3, h14, h16, e5]; done) | (simp only [usdFr, Act.put, List.setIfInBounds_toArray, List.set_cons_zero, List.set_cons_succ, h3, h14, h16, e5]; rfl)
  -- 7: slot 99 := Op.move t16
  refine And.intro ?_ ?_
  · rw [← hf]; clear hf
    refine ⟨by decide +kernel, fun x v => by kernel_rfl, fun x V hV hdep K hK => ?_⟩
    have e6 : x 6 = .bool true := depOf hdep 6 (by decide +kernel)
    clear hdep
    refine run_guard 6 98 (x 6) (by kernel_rfl) (by rw [hops]; exact usd_dst_6) (by kernel_rfl) e6 ?_; clear hops
    unfold usdFr
    go_simp
    refine kfit (hK _ _ (Below.refl _ V) rfl) ?_
    first | (simp only [usdFr, Act.put, List.setIfInBounds_toArray, List.set_cons_zero, List.set_cons_succ, h3, h14, h16, e6]; done) | (simp only [usdFr, Act.put, List.setIfInBounds_toArray, List.set_cons_zero, List.set_cons_succ, h3, h14, h16, e6]; rfl)
  -- 8: slot 100 := Op.binOp BinOp.neq 3 t99 (const (0:i64)) 3
  refine And.intro ?_ ?_
  · rw [← hf]; clear hf
    refine ⟨by decide +kernel, fun x v => by kernel_rfl, fun x V hV hdep K hK => ?_⟩
    have e6 : x 6 = .bool true := depOf hdep 6 (by decide +kernel)
    have e7 : x 7 = .int .i64 106 := depOf hdep 7 (by decide +kernel)
    clear hdep
    refine run_guard 6 98 (x 6) (by kernel_rfl) (by rw [hops]; exact usd_dst_6) (by kernel_rfl) e6 ?_; clear hops
    unfold usdFr
    go_simp
    refine kfit (hK _ _ (Below.refl _ V) rfl) ?_
    first | (simp only [usdFr, Act.put, List.setIfInBounds_toArray, List.set_cons_zero, List.set_cons_succ, h3, h14, h16, e6, e7]; done) | (simp only [usdFr, Act.put, List.setIfInBounds_toArray, List.set_cons_zero, List.set_cons_succ, h3, h14, h16, e6, e7]; rfl)
  -- 9: slot 101 := Op.move t100
  refine And.intro ?_ ?_
  · rw [← hf]; clear hf
    refine ⟨by decide +kernel, fun x v => by kernel_rfl, fun x V hV hdep K hK => ?_⟩
    have e6 : x 6 = .bool true := depOf hdep 6 (by decide +kernel)
    have e8 : x 8 = .bool true := depOf hdep 8 (by decide +kernel)
    clear hdep
    refine run_guard 6 98 (x 6) (by kernel_rfl) (by rw [hops]; exact usd_dst_6) (by kernel_rfl) e6 ?_; clear hops
    unfold usdFr
    go_simp
    refine kfit (hK _ _ (Below.refl _ V) rfl) ?_
    first | (simp only [usdFr, Act.put, List.setIfInBounds_toArray, List.set_cons_zero, List.set_cons_succ, h3, h14, h16, e6, e8]; done) | (simp only [usdFr, Act.put, List.setIfInBounds_toArray, List.set_cons_zero, List.set_cons_succ, h3, h14, h16, e6, e8]; rfl)
  -- 10: slot 102 := Op.load 33 t13
  refine And.intro ?_ ?_
  · rw [← hf]; clear hf
    refine ⟨by decide +kernel, fun x v => by kernel_rfl, fun x V hV hdep K hK => ?_⟩
    have e9 : x 9 = .bool true := depOf hdep 9 (by decide +kernel)
    clear hdep
    refine run_skipF 9 101 (x 9) (by kernel_rfl) (by rw [hops]; exact usd_dst_9) (by kernel_rfl) e9 ?_; clear hops
    exact hK _ _ (Below.refl _ V) ⟨_, rfl, trivial⟩
  -- 11: slot 103 := Op.load 29 t5
  refine And.intro ?_ ?_
  · rw [← hf]; clear hf
    refine ⟨by decide +kernel, fun x v => by kernel_rfl, fun x V hV hdep K hK => ?_⟩
    have e9 : x 9 = .bool true := depOf hdep 9 (by decide +kernel)
    clear hdep
    refine run_skipF 9 101 (x 9) (by kernel_rfl) (by rw [hops]; exact usd_dst_9) (by kernel_rfl) e9 ?_; clear hops
    exact hK _ _ (Below.refl _ V) ⟨_, rfl, trivial⟩
  -- 12: slot 104 := Op.call { value (Operand.func 14), args := #[t102, t103], ar
  refine And.intro ?_ ?_
  · rw [← hf]; clear hf
    refine ⟨by decide +kernel, fun x v => by kernel_rfl, fun x V hV hdep K hK => ?_⟩
    have e9 : x 9 = .bool true := depOf hdep 9 (by decide +kernel)
    obtain ⟨zu10, e10, d10⟩ : ∃ zu10, x 10 = zu10 ∧ True := depOf hdep 10 (by decide +kernel)
    obtain ⟨zu11, e11, d11⟩ : ∃ zu11, x 11 = zu11 ∧ True := depOf hdep 11 (by decide +kernel)
    clear hdep
    refine run_skipF 9 101 (x 9) (by kernel_rfl) (by rw [hops]; exact usd_dst_9) (by kernel_rfl) e9 ?_; clear hops
    exact hK _ _ (Below.refl _ V) ⟨_, rfl, trivial⟩
  -- 13: slot 105 := Op.move t15
  refine And.intro ?_ ?_
  · rw [← hf]; clear hf
    refine ⟨by decide +kernel, fun x v => by kernel_rfl, fun x V hV hdep K hK => ?_⟩
    have e9 : x 9 = .bool true := depOf hdep 9 (by decide +kernel)
    clear hdep
    refine run_skipF 9 101 (x 9) (by kernel_rfl) (by rw [hops]; exact usd_dst_9) (by kernel_rfl) e9 ?_; clear hops
    exact hK _ _ (Below.refl _ V) ⟨_, rfl, trivial⟩
  -- 14: slot 106 := Op.load 29 t5
  refine And.intro ?_ ?_
  · rw [← hf]; clear hf
    refine ⟨by decide +kernel, fun x v => by kernel_rfl, fun x V hV hdep K hK => ?_⟩
    have e9 : x 9 = .bool true := depOf hdep 9 (by decide +kernel)
    clear hdep
    refine run_skipF 9 101 (x 9) (by kernel_rfl) (by rw [hops]; exact usd_dst_9) (by kernel_rfl) e9 ?_; clear hops
    exact hK _ _ (Below.refl _ V) ⟨_, rfl, trivial⟩
  -- 15: slot 107 := Op.call { value (Operand.func 15), args := #[t105, t106], ar
  refine And.intro ?_ ?_
  · rw [← hf]; clear hf
    refine ⟨by decide +kernel, fun x v => by kernel_rfl, fun x V hV hdep K hK => ?_⟩
    have e9 : x 9 = .bool true := depOf hdep 9 (by decide +kernel)
    obtain ⟨zu13, e13, d13⟩ : ∃ zu13, x 13 = zu13 ∧ True := depOf hdep 13 (by decide +kernel)
    obtain ⟨zu14, e14, d14⟩ : ∃ zu14, x 14 = zu14 ∧ True := depOf hdep 14 (by decide +kernel)
    clear hdep
    refine run_skipF 9 101 (x 9) (by kernel_rfl) (by rw [hops]; exact usd_dst_9) (by kernel_rfl) e9 ?_; clear hops
    exact hK _ _ (Below.refl _ V) ⟨_, rfl, trivial⟩
  -- 16: slot 108 := Op.call { value (Operand.func 13), args := #[t104, t107], ar
  refine And.intro ?_ ?_
  · rw [← hf]; clear hf
    refine ⟨by decide +kernel, fun x v => by kernel_rfl, fun x V hV hdep K hK => ?_⟩
    have e9 : x 9 = .bool true := depOf hdep 9 (by decide +kernel)
    obtain ⟨zu12, e12, d12⟩ : ∃ zu12, x 12 = zu12 ∧ True := depOf hdep 12 (by decide +kernel)
    obtain ⟨zu15, e15, d15⟩ : ∃ zu15, x 15 = zu15 ∧ True := depOf hdep 15 (by decide +kernel)
    clear hdep
    refine run_skipF 9 101 (x 9) (by kernel_rfl) (by rw [hops]; exact usd_dst_9) (by kernel_rfl) e9 ?_; clear hops
    exact hK _ _ (Below.refl _ V) ⟨_, rfl, trivial⟩
  -- 17: slot 109 := Op.move t108
  refine And.intro ?_ ?_
  · rw [← hf]; clear hf
    refine ⟨by decide +kernel, fun x v => by kernel_rfl, fun x V hV hdep K hK => ?_⟩
    have e9 : x 9 = .bool true := depOf hdep 9 (by decide +kernel)
    obtain ⟨zu16, e16, d16⟩ : ∃ zu16, x 16 = zu16 ∧ True := depOf hdep 16 (by decide +kernel)
    clear hdep
    refine run_skipF 9 101 (x 9) (by kernel_rfl) (by rw [hops]; exact usd_dst_9) (by kernel_rfl) e9 ?_; clear hops
    exact hK _ _ (Below.refl _ V) rfl
  -- 18: slot 110 := Op.load 33 t13
  refine And.intro ?_ ?_
  · rw [← hf]; clear hf
    refine ⟨by decide +kernel, fun x v => by kernel_rfl, fun x V hV hdep K hK => ?_⟩
    have e17 : x 17 = undef := depOf hdep 17 (by decide +kernel)
    clear hdep
    refine run_skipU 17 109 (x 17) (by kernel_rfl) (by rw [hops]; exact usd_dst_17) (by kernel_rfl) e17 ?_; clear hops
    exact hK _ _ (Below.refl _ V) ⟨_, rfl, trivial⟩
  -- 19: slot 111 := Op.load 29 t7
  refine And.intro ?_ ?_
  · rw [← hf]; clear hf
    refine ⟨by decide +kernel, fun x v => by kernel_rfl, fun x V hV hdep K hK => ?_⟩
    have e17 : x 17 = undef := depOf hdep 17 (by decide +kernel)
    clear hdep
    refine run_skipU 17 109 (x 17) (by kernel_rfl) (by rw [hops]; exact usd_dst_17) (by kernel_rfl) e17 ?_; clear hops
    exact hK _ _ (Below.refl _ V) ⟨_, rfl, trivial⟩
  -- 20: slot 112 := Op.call { value (Operand.func 14), args := #[t110, t111], ar
  refine And.intro ?_ ?_
  · rw [← hf]; clear hf
    refine ⟨by decide +kernel, fun x v => by kernel_rfl, fun x V hV hdep K hK => ?_⟩
    have e17 : x 17 = undef := depOf hdep 17 (by decide +kernel)
    obtain ⟨zu18, e18, d18⟩ : ∃ zu18, x 18 = zu18 ∧ True := depOf hdep 18 (by decide +kernel)
    obtain ⟨zu19, e19, d19⟩ : ∃ zu19, x 19 = zu19 ∧ True := depOf hdep 19 (by decide +kernel)
    clear hdep
    refine run_skipU 17 109 (x 17) (by kernel_rfl) (by rw [hops]; exact usd_dst_17) (by kernel_rfl) e17 ?_; clear hops
    exact hK _ _ (Below.refl _ V) ⟨_, rfl, trivial⟩
  -- 21: slot 113 := Op.move t15
  refine And.intro ?_ ?_
  · rw [← hf]; clear hf
    refine ⟨by decide +kernel, fun x v => by kernel_rfl, fun x V hV hdep K hK => ?_⟩
    have e17 : x 17 = undef := depOf hdep 17 (by decide +kernel)
    clear hdep
    refine run_skipU 17 109 (x 17) (by kernel_rfl) (by rw [hops]; exact usd_dst_17) (by kernel_rfl) e17 ?_; clear hops
    exact hK _ _ (Below.refl _ V) ⟨_, rfl, trivial⟩
  -- 22: slot 114 := Op.load 29 t7
  refine And.intro ?_ ?_
  · rw [← hf]; clear hf
    refine ⟨by decide +kernel, fun x v => by kernel_rfl, fun x V hV hdep K hK => ?_⟩
    have e17 : x 17 = undef := depOf hdep 17 (by decide +kernel)
    clear hdep
    refine run_skipU 17 109 (x 17) (by kernel_rfl) (by rw [hops]; exact usd_dst_17) (by kernel_rfl) e17 ?_; clear hops
    exact hK _ _ (Below.refl _ V) ⟨_, rfl, trivial⟩
  -- 23: slot 115 := Op.call { value (Operand.func 15), args := #[t113, t114], ar
  refine And.intro ?_ ?_
  · rw [← hf]; clear hf
    refine ⟨by decide +kernel, fun x v => by kernel_rfl, fun x V hV hdep K hK => ?_⟩
    have e17 : x 17 = undef := depOf hdep 17 (by decide +kernel)
    obtain ⟨zu21, e21, d21⟩ : ∃ zu21, x 21 = zu21 ∧ True := depOf hdep 21 (by decide +kernel)
    obtain ⟨zu22, e22, d22⟩ : ∃ zu22, x 22 = zu22 ∧ True := depOf hdep 22 (by decide +kernel)
    clear hdep
    refine run_skipU 17 109 (x 17) (by kernel_rfl) (by rw [hops]; exact usd_dst_17) (by kernel_rfl) e17 ?_; clear hops
    exact hK _ _ (Below.refl _ V) ⟨_, rfl, trivial⟩
  -- 24: slot 116 := Op.call { value (Operand.func 13), args := #[t112, t115], ar
  refine And.intro ?_ ?_
  · rw [← hf]; clear hf
    refine ⟨by decide +kernel, fun x v => by kernel_rfl, fun x V hV hdep K hK => ?_⟩
    have e17 : x 17 = undef := depOf hdep 17 (by decide +kernel)
    obtain ⟨zu20, e20, d20⟩ : ∃ zu20, x 20 = zu20 ∧ True := depOf hdep 20 (by decide +kernel)
    obtain ⟨zu23, e23, d23⟩ : ∃ zu23, x 23 = zu23 ∧ True := depOf hdep 23 (by decide +kernel)
    clear hdep
    refine run_skipU 17 109 (x 17) (by kernel_rfl) (by rw [hops]; exact usd_dst_17) (by kernel_rfl) e17 ?_; clear hops
    exact hK _ _ (Below.refl _ V) ⟨_, rfl, trivial⟩
  -- 25: slot 117 := Op.pick t109 t116 (const (Value.bool false))
  refine And.intro ?_ ?_
  · rw [← hf]; clear hf
    refine ⟨by decide +kernel, fun x v => by kernel_rfl, fun x V hV hdep K hK => ?_⟩
    have e9 : x 9 = .bool true := depOf hdep 9 (by decide +kernel)
    have e17 : x 17 = undef := depOf hdep 17 (by decide +kernel)
    obtain ⟨zu24, e24, d24⟩ : ∃ zu24, x 24 = zu24 ∧ True := depOf hdep 24 (by decide +kernel)
    clear hdep
    refine run_skipF 9 101 (x 9) (by kernel_rfl) (by rw [hops]; exact usd_dst_9) (by kernel_rfl) e9 ?_; clear hops
    exact hK _ _ (Below.refl _ V) ⟨_, rfl, trivial⟩
  -- 26: slot 118 := Op.pick t101 (const (Value.bool true)) t117
  refine And.intro ?_ ?_
  · rw [← hf]; clear hf
    refine ⟨by decide +kernel, fun x v => by kernel_rfl, fun x V hV hdep K hK => ?_⟩
    have e6 : x 6 = .bool true := depOf hdep 6 (by decide +kernel)
    have e9 : x 9 = .bool true := depOf hdep 9 (by decide +kernel)
    obtain ⟨zu25, e25, d25⟩ : ∃ zu25, x 25 = zu25 ∧ True := depOf hdep 25 (by decide +kernel)
    clear hdep
    refine run_guard 6 98 (x 6) (by kernel_rfl) (by rw [hops]; exact usd_dst_6) (by kernel_rfl) e6 ?_; clear hops
    unfold usdFr
    go_simp
    refine kfit (hK _ _ (Below.refl _ V) rfl) ?_
    first | (simp only [usdFr, Act.put, List.setIfInBounds_toArray, List.set_cons_zero, List.set_cons_succ, h3, h14, h16, e6, e9, e25]; done) | (simp only [usdFr, Act.put, List.setIfInBounds_toArray, List.set_cons_zero, List.set_cons_succ, h3, h14, h16, e6, e9, e25]; rfl)
  -- 27: slot 119 := Op.pick t98 t118 (const (Value.bool false))
  refine And.intro ?_ ?_
  · rw [← hf]; clear hf
    refine ⟨by decide +kernel, fun x v => by kernel_rfl, fun x V hV hdep K hK => ?_⟩
    have e6 : x 6 = .bool true := depOf hdep 6 (by decide +kernel)
    have e26 : x 26 = .bool true := depOf hdep 26 (by decide +kernel)
    clear hdep
    refine run_bare (by kernel_rfl) ?_
    unfold usdFr
    go_simp
    refine kfit (hK _ _ (Below.refl _ V) rfl) ?_
    first | (simp only [usdFr, Act.put, List.setIfInBounds_toArray, List.set_cons_zero, List.set_cons_succ, h3, h14, h16, e6, e26]; done) | (simp only [usdFr, Act.put, List.setIfInBounds_toArray, List.set_cons_zero, List.set_cons_succ, h3, h14, h16, e6, e26]; rfl)
  -- 28: slot 2 := Op.assign t119
  refine And.intro ?_ ?_
  · rw [← hf]; clear hf
    refine ⟨by decide +kernel, fun x v => by kernel_rfl, fun x V hV hdep K hK => ?_⟩
    have e27 : x 27 = .bool true := depOf hdep 27 (by decide +kernel)
    clear hdep
    refine run_bare (by kernel_rfl) ?_
    unfold usdFr
    go_simp
    refine kfit (hK _ _ (Below.refl _ V) rfl) ?_
    first | (simp only [usdFr, Act.put, List.setIfInBounds_toArray, List.set_cons_zero, List.set_cons_succ, h3, h14, h16, e27]; done) | (simp only [usdFr, Act.put, List.setIfInBounds_toArray, List.set_cons_zero, List.set_cons_succ, h3, h14, h16, e27]; rfl)
  exact trivial
theorem usd_here {w : World} {ev : Value}
    (HC4 : ∀ V, Below w.heap.size w V → Calls Tryd.prog 12 #[ev, .int .i64 106] V fun e Y => e = .returned (.bool true) ∧ Below V.heap.size V Y)
    {Q : Exit → Act → World → Prop} {ops : Array Oper} {a : Act} (X : World) (hops : ops = usdOps)
    (h3 : a.tmps.getD 3 undef = .bool true) (h14 : a.tmps.getD 14 undef = ev) (h16 : a.tmps.getD 16 undef = .int .i64 106)
    (ha : a = usdFr (fun j => a.tmps.getD j undef) a.defers (fun i => a.tmps.getD (if i = 28 then 2 else 92 + i) undef)) (hS : Below w.heap.size w X.drew)
    (hfin : ∀ x V, Below w.heap.size w V → x 28 = .bool true → Q .normal (usdFr (fun j => a.tmps.getD j undef) a.defers x) V) : (Code.region 19 ops true).wp Tryd.prog Q a X :=
  cast (congrArg (fun z => (Code.region 19 ops true).wp Tryd.prog Q z X) ha.symm) (usd_region (b := fun j => a.tmps.getD j undef) (d := a.defers) h3 h14 h16 HC4 hops _ X hS hfin)
end Go.Proofs.YtdcfemojkdoakaaDoor
/- UnifySays: its last statement, a region of 29 operations that draws its order, by an invariant. (Made by a program.) -/
namespace Go.Proofs.YtdcfemojkdoakaaDoor
open Go.RowKit Go.Sort Go.Lib
attribute [local go_sem] Oper.semAt_some

noncomputable def useOps : Array Oper := regionIn 19 (Tryd.f3.body.getD .skip)
def useFr (b : Nat → Value) (d : List Deferred) (x : Nat → Value) : Act := { tmps := #[b 0, b 1, x 28, b 3, b 4, b 5, b 6, b 7, b 8, b 9, b 10, b 11, b 12, b 13, b 14, b 15, b 16, b 17, b 18, b 19, b 20, b 21, b 22, b 23, b 24, b 25, b 26, b 27, b 28, b 29, b 30, b 31, b 32, b 33, b 34, b 35, b 36, b 37, b 38, b 39, b 40, b 41, b 42, b 43, b 44, b 45, b 46, b 47, b 48, b 49, b 50, b 51, b 52, b 53, b 54, b 55, b 56, b 57, b 58, b 59, b 60, b 61, b 62, b 63, b 64, b 65, b 66, b 67, b 68, b 69, b 70, b 71, b 72, b 73, b 74, b 75, b 76, b 77, b 78, b 79, b 80, b 81, b 82, b 83, b 84, b 85, b 86, b 87, b 88, b 89, b 90, b 91, x 0, x 1, x 2, x 3, x 4, x 5, x 6, x 7, x 8, x 9, x 10, x 11, x 12, x 13, x 14, x 15, x 16, x 17, x 18, x 19, x 20, x 21, x 22, x 23, x 24, x 25, x 26, x 27], defers := d }

def useVals (ev : Value) (i : Nat) (v : Value) (_ : World) : Prop :=
  match i with
  | 0 => v = .bool true
  | 1 => v = .bool true
  | 2 => v = ev
  | 3 => v = .int .i64 107
  | 4 => v = .bool true
  | 5 => v = .bool true
  | 6 => v = .bool true
  | 7 => v = .int .i64 107
  | 8 => v = .bool true
  | 9 => v = .bool true
  | 10 => ∃ zu, v = zu ∧ True
  | 11 => ∃ zu, v = zu ∧ True
  | 12 => ∃ zu, v = zu ∧ True
  | 13 => ∃ zu, v = zu ∧ True
  | 14 => ∃ zu, v = zu ∧ True
  | 15 => ∃ zu, v = zu ∧ True
  | 16 => ∃ zu, v = zu ∧ True
  | 17 => v = undef
  | 18 => ∃ zu, v = zu ∧ True
  | 19 => ∃ zu, v = zu ∧ True
  | 20 => ∃ zu, v = zu ∧ True
  | 21 => ∃ zu, v = zu ∧ True
  | 22 => ∃ zu, v = zu ∧ True
  | 23 => ∃ zu, v = zu ∧ True
  | 24 => ∃ zu, v = zu ∧ True
  | 25 => ∃ zu, v = zu ∧ True
  | 26 => v = .bool true
  | 27 => v = .bool true
  | 28 => v = .bool true
  | _ => True

theorem useVals_keep {ev : Value} (i : Nat) (v : Value) (V Y : World) (h : useVals ev i v V) (_ : Below V.heap.size V Y) : useVals ev i v Y := by
  unfold useVals at *
  split at h <;> first
    | exact h
    | (obtain ⟨zu, e, h⟩ := h; exact ⟨zu, e, h⟩)

theorem use_size : useOps.size = 29 := by kernel_rfl
theorem use_dst_1 : (useOps[1]?).bind (·.dst) = some 93 := by kernel_rfl
theorem use_dst_6 : (useOps[6]?).bind (·.dst) = some 98 := by kernel_rfl
theorem use_dst_9 : (useOps[9]?).bind (·.dst) = some 101 := by kernel_rfl
theorem use_dst_17 : (useOps[17]?).bind (·.dst) = some 109 := by kernel_rfl
set_option linter.unusedSimpArgs false in
set_option maxRecDepth 100000 in
set_option maxHeartbeats 8000000 in
theorem use_region {w : World} {ev : Value} {b : Nat → Value} {d : List Deferred}
    (h3 : b 3 = .bool true) (h14 : b 14 = ev) (h16 : b 16 = .int .i64 107)
    (HC4 : ∀ V, Below w.heap.size w V → Calls Tryd.prog 12 #[ev, .int .i64 107] V fun e Y => e = .returned (.bool true) ∧ Below V.heap.size V Y)
    {Q : Exit → Act → World → Prop} {ops : Array Oper} (hops : ops = useOps) (x0 : Nat → Value) (X : World) (hS : Below w.heap.size w X.drew)
    (hfin : ∀ x V, Below w.heap.size w V → x 28 = .bool true → Q .normal (useFr b d x) V) : (Code.region 19 ops true).wp Tryd.prog Q (useFr b d x0) X := by
  have HC := Lib.hid (HC4)
  clear HC4
  refine region_inv (useFr b d) (fun V => Below w.heap.size w V) (fun V Y => Below V.heap.size V Y) (useVals ev) x0 (by kernel_rfl) rfl hS (fun V Y h hb => h.trans (hb.mono h.size)) (fun i v V Y _ h hb => useVals_keep i v V Y h hb) ?_ (fun x V hV h => hfin x V hV (h 28 (by rw [hops, use_size]; decide)))
  clear hfin hS
  obtain ⟨f, hf⟩ : ∃ qq, StepAt Tryd.prog (useFr b d) (fun V => Below w.heap.size w V) (fun V Y => Below V.heap.size V Y) (useVals ev) ops Q = qq := ⟨_, rfl⟩
  rw [hf, hops]
  simp only [useOps, Tryd.f3, regionIn, Option.getD_some, Nat.reduceBEq, Bool.false_eq_true, if_false, if_true, beq_self_eq_true, Array.append_empty, Array.empty_append, List.append_eq, List.cons_append, List.nil_append, AllAt, Nat.reduceAdd, Nat.zero_add]
  -- 0: slot 92 := Op.move t3
  refine And.intro ?_ ?_
  · rw [← hf]; clear hf
    refine ⟨by decide +kernel, fun x v => by kernel_rfl, fun x V hV hdep K hK => ?_⟩
    clear hdep
    refine run_bare (by kernel_rfl) ?_
    unfold useFr
    go_simp
    refine kfit (hK _ _ (Below.refl _ V) rfl) ?_
    first | (simp only [useFr, Act.put, List.setIfInBounds_toArray, List.set_cons_zero, List.set_cons_succ, h3, h14, h16]; done) | (simp only [useFr, Act.put, List.setIfInBounds_toArray, List.set_cons_zero, List.set_cons_succ, h3, h14, h16]; rfl)
  -- 1: slot 93 := Op.move t92
  refine And.intro ?_ ?_
  · rw [← hf]; clear hf
    refine ⟨by decide +kernel, fun x v => by kernel_rfl, fun x V hV hdep K hK => ?_⟩
    have e0 : x 0 = .bool true := depOf hdep 0 (by decide +kernel)
    clear hdep
    refine run_bare (by kernel_rfl) ?_
    unfold useFr
    go_simp
    refine kfit (hK _ _ (Below.refl _ V) rfl) ?_
    first | (simp only [useFr, Act.put, List.setIfInBounds_toArray, List.set_cons_zero, List.set_cons_succ, h3, h14, h16, e0]; done) | (simp only [useFr, Act.put, List.setIfInBounds_toArray, List.set_cons_zero, List.set_cons_succ, h3, h14, h16, e0]; rfl)
  -- 2: slot 94 := Op.move t14
  refine And.intro ?_ ?_
  · rw [← hf]; clear hf
    refine ⟨by decide +kernel, fun x v => by kernel_rfl, fun x V hV hdep K hK => ?_⟩
    have e1 : x 1 = .bool true := depOf hdep 1 (by decide +kernel)
    clear hdep
    refine run_guard 1 93 (x 1) (by kernel_rfl) (by rw [hops]; exact use_dst_1) (by kernel_rfl) e1 ?_; clear hops
    unfold useFr
    go_simp
    refine kfit (hK _ _ (Below.refl _ V) rfl) ?_
    first | (simp only [useFr, Act.put, List.setIfInBounds_toArray, List.set_cons_zero, List.set_cons_succ, h3, h14, h16, e1]; done) | (simp only [useFr, Act.put, List.setIfInBounds_toArray, List.set_cons_zero, List.set_cons_succ, h3, h14, h16, e1]; rfl)
  -- 3: slot 95 := Op.move t16
  refine And.intro ?_ ?_
  · rw [← hf]; clear hf
    refine ⟨by decide +kernel, fun x v => by kernel_rfl, fun x V hV hdep K hK => ?_⟩
    have e1 : x 1 = .bool true := depOf hdep 1 (by decide +kernel)
    clear hdep
    refine run_guard 1 93 (x 1) (by kernel_rfl) (by rw [hops]; exact use_dst_1) (by kernel_rfl) e1 ?_; clear hops
    unfold useFr
    go_simp
    refine kfit (hK _ _ (Below.refl _ V) rfl) ?_
    first | (simp only [useFr, Act.put, List.setIfInBounds_toArray, List.set_cons_zero, List.set_cons_succ, h3, h14, h16, e1]; done) | (simp only [useFr, Act.put, List.setIfInBounds_toArray, List.set_cons_zero, List.set_cons_succ, h3, h14, h16, e1]; rfl)
  -- 4: slot 96 := Op.call { value (Operand.func 12), args := #[t94, t95], argT
  refine And.intro ?_ ?_
  · rw [← hf]; clear hf
    refine ⟨by decide +kernel, fun x v => by kernel_rfl, fun x V hV hdep K hK => ?_⟩
    have e1 : x 1 = .bool true := depOf hdep 1 (by decide +kernel)
    have e2 : x 2 = ev := depOf hdep 2 (by decide +kernel)
    have e3 : x 3 = .int .i64 107 := depOf hdep 3 (by decide +kernel)
    clear hdep
    refine run_guard 1 93 (x 1) (by kernel_rfl) (by rw [hops]; exact use_dst_1) (by kernel_rfl) e1 ?_; clear hops
    unfold useFr
    have HC4 := HC.out
    have H := HC4 V hV
    replace H := Lib.hid H; clear HC4
    go_simp
    go_at_call 12
    refine H.out.mono ?_
    rintro e Y ⟨rfl, hb⟩; refine kfit (hK _ _ hb rfl) ?_
    first | (simp only [useFr, Act.put, List.setIfInBounds_toArray, List.set_cons_zero, List.set_cons_succ, h3, h14, h16, e1, e2, e3]; done) | (simp only [useFr, Act.put, List.setIfInBounds_toArray, List.set_cons_zero, List.set_cons_succ, h3, h14, h16, e1, e2, e3]; rfl)
  -- 5: slot 97 := Op.pick t93 t96 (const (Value.bool false))
  refine And.intro ?_ ?_
  · rw [← hf]; clear hf
    refine ⟨by decide +kernel, fun x v => by kernel_rfl, fun x V hV hdep K hK => ?_⟩
    have e1 : x 1 = .bool true := depOf hdep 1 (by decide +kernel)
    have e4 : x 4 = .bool true := depOf hdep 4 (by decide +kernel)
    clear hdep
    refine run_bare (by kernel_rfl) ?_
    unfold useFr
    go_simp
    refine kfit (hK _ _ (Below.refl _ V) rfl) ?_
    first | (simp only [useFr, Act.put, List.setIfInBounds_toArray, List.set_cons_zero, List.set_cons_succ, h3, h14, h16, e1, e4]; done) | (simp only [useFr, Act.put, List.setIfInBounds_toArray, List.set_cons_zero, List.set_cons_succ, h3, h14, h16, e1, e4]; rfl)
  -- 6: slot 98 := Op.move t97
  refine And.intro ?_ ?_
  · rw [← hf]; clear hf
    refine ⟨by decide +kernel, fun x v => by kernel_rfl, fun x V hV hdep K hK => ?_⟩
    have e5 : x 5 = .bool true := depOf hdep 5 (by decide +kernel)
    clear hdep
    refine run_bare (by kernel_rfl) ?_
    unfold useFr
    go_simp
    refine kfit (hK _ _ (Below.refl _ V) rfl) ?_
    first | (simp only [useFr, Act.put, List.setIfInBounds_toArray, List.set_cons_zero, List.set_cons_succ, h3, h14, h16, e5]; done) | (simp only [useFr, Act.put, List.setIfInBounds_toArray, List.set_cons_zero, List.set_cons_succ, h3, h14, h16, e5]; rfl)
  -- 7: slot 99 := Op.move t16
  refine And.intro ?_ ?_
  · rw [← hf]; clear hf
    refine ⟨by decide +kernel, fun x v => by kernel_rfl, fun x V hV hdep K hK => ?_⟩
    have e6 : x 6 = .bool true := depOf hdep 6 (by decide +kernel)
    clear hdep
    refine run_guard 6 98 (x 6) (by kernel_rfl) (by rw [hops]; exact use_dst_6) (by kernel_rfl) e6 ?_; clear hops
    unfold useFr
    go_simp
    refine kfit (hK _ _ (Below.refl _ V) rfl) ?_
    first | (simp only [useFr, Act.put, List.setIfInBounds_toArray, List.set_cons_zero, List.set_cons_succ, h3, h14, h16, e6]; done) | (simp only [useFr, Act.put, List.setIfInBounds_toArray, List.set_cons_zero, List.set_cons_succ, h3, h14, h16, e6]; rfl)
  -- 8: slot 100 := Op.binOp BinOp.neq 3 t99 (const (0:i64)) 3
  refine And.intro ?_ ?_
  · rw [← hf]; clear hf
    refine ⟨by decide +kernel, fun x v => by kernel_rfl, fun x V hV hdep K hK => ?_⟩
    have e6 : x 6 = .bool true := depOf hdep 6 (by decide +kernel)
    have e7 : x 7 = .int .i64 107 := depOf hdep 7 (by decide +kernel)
    clear hdep
    refine run_guard 6 98 (x 6) (by kernel_rfl) (by rw [hops]; exact use_dst_6) (by kernel_rfl) e6 ?_; clear hops
    unfold useFr
    go_simp
    refine kfit (hK _ _ (Below.refl _ V) rfl) ?_
    first | (simp only [useFr, Act.put, List.setIfInBounds_toArray, List.set_cons_zero, List.set_cons_succ, h3, h14, h16, e6, e7]; done) | (simp only [useFr, Act.put, List.setIfInBounds_toArray, List.set_cons_zero, List.set_cons_succ, h3, h14, h16, e6, e7]; rfl)
  -- 9: slot 101 := Op.move t100
  refine And.intro ?_ ?_
  · rw [← hf]; clear hf
    refine ⟨by decide +kernel, fun x v => by kernel_rfl, fun x V hV hdep K hK => ?_⟩
    have e6 : x 6 = .bool true := depOf hdep 6 (by decide +kernel)
    have e8 : x 8 = .bool true := depOf hdep 8 (by decide +kernel)
    clear hdep
    refine run_guard 6 98 (x 6) (by kernel_rfl) (by rw [hops]; exact use_dst_6) (by kernel_rfl) e6 ?_; clear hops
    unfold useFr
    go_simp
    refine kfit (hK _ _ (Below.refl _ V) rfl) ?_
    first | (simp only [useFr, Act.put, List.setIfInBounds_toArray, List.set_cons_zero, List.set_cons_succ, h3, h14, h16, e6, e8]; done) | (simp only [useFr, Act.put, List.setIfInBounds_toArray, List.set_cons_zero, List.set_cons_succ, h3, h14, h16, e6, e8]; rfl)
  -- 10: slot 102 := Op.load 33 t13
  refine And.intro ?_ ?_
  · rw [← hf]; clear hf
    refine ⟨by decide +kernel, fun x v => by kernel_rfl, fun x V hV hdep K hK => ?_⟩
    have e9 : x 9 = .bool true := depOf hdep 9 (by decide +kernel)
    clear hdep
    refine run_skipF 9 101 (x 9) (by kernel_rfl) (by rw [hops]; exact use_dst_9) (by kernel_rfl) e9 ?_; clear hops
    exact hK _ _ (Below.refl _ V) ⟨_, rfl, trivial⟩
  -- 11: slot 103 := Op.load 29 t5
  refine And.intro ?_ ?_
  · rw [← hf]; clear hf
    refine ⟨by decide +kernel, fun x v => by kernel_rfl, fun x V hV hdep K hK => ?_⟩
    have e9 : x 9 = .bool true := depOf hdep 9 (by decide +kernel)
    clear hdep
    refine run_skipF 9 101 (x 9) (by kernel_rfl) (by rw [hops]; exact use_dst_9) (by kernel_rfl) e9 ?_; clear hops
    exact hK _ _ (Below.refl _ V) ⟨_, rfl, trivial⟩
  -- 12: slot 104 := Op.call { value (Operand.func 14), args := #[t102, t103], ar
  refine And.intro ?_ ?_
  · rw [← hf]; clear hf
    refine ⟨by decide +kernel, fun x v => by kernel_rfl, fun x V hV hdep K hK => ?_⟩
    have e9 : x 9 = .bool true := depOf hdep 9 (by decide +kernel)
    obtain ⟨zu10, e10, d10⟩ : ∃ zu10, x 10 = zu10 ∧ True := depOf hdep 10 (by decide +kernel)
    obtain ⟨zu11, e11, d11⟩ : ∃ zu11, x 11 = zu11 ∧ True := depOf hdep 11 (by decide +kernel)
    clear hdep
    refine run_skipF 9 101 (x 9) (by kernel_rfl) (by rw [hops]; exact use_dst_9) (by kernel_rfl) e9 ?_; clear hops
    exact hK _ _ (Below.refl _ V) ⟨_, rfl, trivial⟩
  -- 13: slot 105 := Op.move t15
  refine And.intro ?_ ?_
  · rw [← hf]; clear hf
    refine ⟨by decide +kernel, fun x v => by kernel_rfl, fun x V hV hdep K hK => ?_⟩
    have e9 : x 9 = .bool true := depOf hdep 9 (by decide +kernel)
    clear hdep
    refine run_skipF 9 101 (x 9) (by kernel_rfl) (by rw [hops]; exact use_dst_9) (by kernel_rfl) e9 ?_; clear hops
    exact hK _ _ (Below.refl _ V) ⟨_, rfl, trivial⟩
  -- 14: slot 106 := Op.load 29 t5
  refine And.intro ?_ ?_
  · rw [← hf]; clear hf
    refine ⟨by decide +kernel, fun x v => by kernel_rfl, fun x V hV hdep K hK => ?_⟩
    have e9 : x 9 = .bool true := depOf hdep 9 (by decide +kernel)
    clear hdep
    refine run_skipF 9 101 (x 9) (by kernel_rfl) (by rw [hops]; exact use_dst_9) (by kernel_rfl) e9 ?_; clear hops
    exact hK _ _ (Below.refl _ V) ⟨_, rfl, trivial⟩
  -- 15: slot 107 := Op.call { value (Operand.func 15), args := #[t105, t106], ar
  refine And.intro ?_ ?_
  · rw [← hf]; clear hf
    refine ⟨by decide +kernel, fun x v => by kernel_rfl, fun x V hV hdep K hK => ?_⟩
    have e9 : x 9 = .bool true := depOf hdep 9 (by decide +kernel)
    obtain ⟨zu13, e13, d13⟩ : ∃ zu13, x 13 = zu13 ∧ True := depOf hdep 13 (by decide +kernel)
    obtain ⟨zu14, e14, d14⟩ : ∃ zu14, x 14 = zu14 ∧ True := depOf hdep 14 (by decide +kernel)
    clear hdep
    refine run_skipF 9 101 (x 9) (by kernel_rfl) (by rw [hops]; exact use_dst_9) (by kernel_rfl) e9 ?_; clear hops
    exact hK _ _ (Below.refl _ V) ⟨_, rfl, trivial⟩
  -- 16: slot 108 := Op.call { value (Operand.func 13), args := #[t104, t107], ar
  refine And.intro ?_ ?_
  · rw [← hf]; clear hf
    refine ⟨by decide +kernel, fun x v => by kernel_rfl, fun x V hV hdep K hK => ?_⟩
    have e9 : x 9 = .bool true := depOf hdep 9 (by decide +kernel)
    obtain ⟨zu12, e12, d12⟩ : ∃ zu12, x 12 = zu12 ∧ True := depOf hdep 12 (by decide +kernel)
    obtain ⟨zu15, e15, d15⟩ : ∃ zu15, x 15 = zu15 ∧ True := depOf hdep 15 (by decide +kernel)
    clear hdep
    refine run_skipF 9 101 (x 9) (by kernel_rfl) (by rw [hops]; exact use_dst_9) (by kernel_rfl) e9 ?_; clear hops
    exact hK _ _ (Below.refl _ V) ⟨_, rfl, trivial⟩
  -- 17: slot 109 := Op.move t108
  refine And.intro ?_ ?_
  · rw [← hf]; clear hf
    refine ⟨by decide +kernel, fun x v => by kernel_rfl, fun x V hV hdep K hK => ?_⟩
    have e9 : x 9 = .bool true := depOf hdep 9 (by decide +kernel)
    obtain ⟨zu16, e16, d16⟩ : ∃ zu16, x 16 = zu16 ∧ True := depOf hdep 16 (by decide +kernel)
    clear hdep
    refine run_skipF 9 101 (x 9) (by kernel_rfl) (by rw [hops]; exact use_dst_9) (by kernel_rfl) e9 ?_; clear hops
    exact hK _ _ (Below.refl _ V) rfl
  -- 18: slot 110 := Op.load 33 t13
  refine And.intro ?_ ?_
  · rw [← hf]; clear hf
    refine ⟨by decide +kernel, fun x v => by kernel_rfl, fun x V hV hdep K hK => ?_⟩
    have e17 : x 17 = undef := depOf hdep 17 (by decide +kernel)
    clear hdep
    refine run_skipU 17 109 (x 17) (by kernel_rfl) (by rw [hops]; exact use_dst_17) (by kernel_rfl) e17 ?_; clear hops
    exact hK _ _ (Below.refl _ V) ⟨_, rfl, trivial⟩
  -- 19: slot 111 := Op.load 29 t7
  refine And.intro ?_ ?_
  · rw [← hf]; clear hf
    refine ⟨by decide +kernel, fun x v => by kernel_rfl, fun x V hV hdep K hK => ?_⟩
    have e17 : x 17 = undef := depOf hdep 17 (by decide +kernel)
    clear hdep
    refine run_skipU 17 109 (x 17) (by kernel_rfl) (by rw [hops]; exact use_dst_17) (by kernel_rfl) e17 ?_; clear hops
    exact hK _ _ (Below.refl _ V) ⟨_, rfl, trivial⟩
  -- 20: slot 112 := Op.call { value (Operand.func 14), args := #[t110, t111], ar
  refine And.intro ?_ ?_
  · rw [← hf]; clear hf
    refine ⟨by decide +kernel, fun x v => by kernel_rfl, fun x V hV hdep K hK => ?_⟩
    have e17 : x 17 = undef := depOf hdep 17 (by decide +kernel)
    obtain ⟨zu18, e18, d18⟩ : ∃ zu18, x 18 = zu18 ∧ True := depOf hdep 18 (by decide +kernel)
    obtain ⟨zu19, e19, d19⟩ : ∃ zu19, x 19 = zu19 ∧ True := depOf hdep 19 (by decide +kernel)
    clear hdep
    refine run_skipU 17 109 (x 17) (by kernel_rfl) (by rw [hops]; exact use_dst_17) (by kernel_rfl) e17 ?_; clear hops
    exact hK _ _ (Below.refl _ V) ⟨_, rfl, trivial⟩
  -- 21: slot 113 := Op.move t15
  refine And.intro ?_ ?_
  · rw [← hf]; clear hf
    refine ⟨by decide +kernel, fun x v => by kernel_rfl, fun x V hV hdep K hK => ?_⟩
    have e17 : x 17 = undef := depOf hdep 17 (by decide +kernel)
    clear hdep
    refine run_skipU 17 109 (x 17) (by kernel_rfl) (by rw [hops]; exact use_dst_17) (by kernel_rfl) e17 ?_; clear hops
    exact hK _ _ (Below.refl _ V) ⟨_, rfl, trivial⟩
  -- 22: slot 114 := Op.load 29 t7
  refine And.intro ?_ ?_
  · rw [← hf]; clear hf
    refine ⟨by decide +kernel, fun x v => by kernel_rfl, fun x V hV hdep K hK => ?_⟩
    have e17 : x 17 = undef := depOf hdep 17 (by decide +kernel)
    clear hdep
    refine run_skipU 17 109 (x 17) (by kernel_rfl) (by rw [hops]; exact use_dst_17) (by kernel_rfl) e17 ?_; clear hops
    exact hK _ _ (Below.refl _ V) ⟨_, rfl, trivial⟩
  -- 23: slot 115 := Op.call { value (Operand.func 15), args := #[t113, t114], ar
  refine And.intro ?_ ?_
  · rw [← hf]; clear hf
    refine ⟨by decide +kernel, fun x v => by kernel_rfl, fun x V hV hdep K hK => ?_⟩
    have e17 : x 17 = undef := depOf hdep 17 (by decide +kernel)
    obtain ⟨zu21, e21, d21⟩ : ∃ zu21, x 21 = zu21 ∧ True := depOf hdep 21 (by decide +kernel)
    obtain ⟨zu22, e22, d22⟩ : ∃ zu22, x 22 = zu22 ∧ True := depOf hdep 22 (by decide +kernel)
    clear hdep
    refine run_skipU 17 109 (x 17) (by kernel_rfl) (by rw [hops]; exact use_dst_17) (by kernel_rfl) e17 ?_; clear hops
    exact hK _ _ (Below.refl _ V) ⟨_, rfl, trivial⟩
  -- 24: slot 116 := Op.call { value (Operand.func 13), args := #[t112, t115], ar
  refine And.intro ?_ ?_
  · rw [← hf]; clear hf
    refine ⟨by decide +kernel, fun x v => by kernel_rfl, fun x V hV hdep K hK => ?_⟩
    have e17 : x 17 = undef := depOf hdep 17 (by decide +kernel)
    obtain ⟨zu20, e20, d20⟩ : ∃ zu20, x 20 = zu20 ∧ True := depOf hdep 20 (by decide +kernel)
    obtain ⟨zu23, e23, d23⟩ : ∃ zu23, x 23 = zu23 ∧ True := depOf hdep 23 (by decide +kernel)
    clear hdep
    refine run_skipU 17 109 (x 17) (by kernel_rfl) (by rw [hops]; exact use_dst_17) (by kernel_rfl) e17 ?_; clear hops
    exact hK _ _ (Below.refl _ V) ⟨_, rfl, trivial⟩
  -- 25: slot 117 := Op.pick t109 t116 (const (Value.bool false))
  refine And.intro ?_ ?_
  · rw [← hf]; clear hf
    refine ⟨by decide +kernel, fun x v => by kernel_rfl, fun x V hV hdep K hK => ?_⟩
    have e9 : x 9 = .bool true := depOf hdep 9 (by decide +kernel)
    have e17 : x 17 = undef := depOf hdep 17 (by decide +kernel)
    obtain ⟨zu24, e24, d24⟩ : ∃ zu24, x 24 = zu24 ∧ True := depOf hdep 24 (by decide +kernel)
    clear hdep
    refine run_skipF 9 101 (x 9) (by kernel_rfl) (by rw [hops]; exact use_dst_9) (by kernel_rfl) e9 ?_; clear hops
    exact hK _ _ (Below.refl _ V) ⟨_, rfl, trivial⟩
  -- 26: slot 118 := Op.pick t101 (const (Value.bool true)) t117
  refine And.intro ?_ ?_
  · rw [← hf]; clear hf
    refine ⟨by decide +kernel, fun x v => by kernel_rfl, fun x V hV hdep K hK => ?_⟩
    have e6 : x 6 = .bool true := depOf hdep 6 (by decide +kernel)
    have e9 : x 9 = .bool true := depOf hdep 9 (by decide +kernel)
    obtain ⟨zu25, e25, d25⟩ : ∃ zu25, x 25 = zu25 ∧ True := depOf hdep 25 (by decide +kernel)
    clear hdep
    refine run_guard 6 98 (x 6) (by kernel_rfl) (by rw [hops]; exact use_dst_6) (by kernel_rfl) e6 ?_; clear hops
    unfold useFr
    go_simp
    refine kfit (hK _ _ (Below.refl _ V) rfl) ?_
    first | (simp only [useFr, Act.put, List.setIfInBounds_toArray, List.set_cons_zero, List.set_cons_succ, h3, h14, h16, e6, e9, e25]; done) | (simp only [useFr, Act.put, List.setIfInBounds_toArray, List.set_cons_zero, List.set_cons_succ, h3, h14, h16, e6, e9, e25]; rfl)
  -- 27: slot 119 := Op.pick t98 t118 (const (Value.bool false))
  refine And.intro ?_ ?_
  · rw [← hf]; clear hf
    refine ⟨by decide +kernel, fun x v => by kernel_rfl, fun x V hV hdep K hK => ?_⟩
    have e6 : x 6 = .bool true := depOf hdep 6 (by decide +kernel)
    have e26 : x 26 = .bool true := depOf hdep 26 (by decide +kernel)
    clear hdep
    refine run_bare (by kernel_rfl) ?_
    unfold useFr
    go_simp
    refine kfit (hK _ _ (Below.refl _ V) rfl) ?_
    first | (simp only [useFr, Act.put, List.setIfInBounds_toArray, List.set_cons_zero, List.set_cons_succ, h3, h14, h16, e6, e26]; done) | (simp only [useFr, Act.put, List.setIfInBounds_toArray, List.set_cons_zero, List.set_cons_succ, h3, h14, h16, e6, e26]; rfl)
  -- 28: slot 2 := Op.assign t119
  refine And.intro ?_ ?_
  · rw [← hf]; clear hf
    refine ⟨by decide +kernel, fun x v => by kernel_rfl, fun x V hV hdep K hK => ?_⟩
    have e27 : x 27 = .bool true := depOf hdep 27 (by decide +kernel)
    clear hdep
    refine run_bare (by kernel_rfl) ?_
    unfold useFr
    go_simp
    refine kfit (hK _ _ (Below.refl _ V) rfl) ?_
    first | (simp only [useFr, Act.put, List.setIfInBounds_toArray, List.set_cons_zero, List.set_cons_succ, h3, h14, h16, e27]; done) | (simp only [useFr, Act.put, List.setIfInBounds_toArray, List.set_cons_zero, List.set_cons_succ, h3, h14, h16, e27]; rfl)
  exact trivial
theorem use_here {w : World} {ev : Value}
    (HC4 : ∀ V, Below w.heap.size w V → Calls Tryd.prog 12 #[ev, .int .i64 107] V fun e Y => e = .returned (.bool true) ∧ Below V.heap.size V Y)
    {Q : Exit → Act → World → Prop} {ops : Array Oper} {a : Act} (X : World) (hops : ops = useOps)
    (h3 : a.tmps.getD 3 undef = .bool true) (h14 : a.tmps.getD 14 undef = ev) (h16 : a.tmps.getD 16 undef = .int .i64 107)
    (ha : a = useFr (fun j => a.tmps.getD j undef) a.defers (fun i => a.tmps.getD (if i = 28 then 2 else 92 + i) undef)) (hS : Below w.heap.size w X.drew)
    (hfin : ∀ x V, Below w.heap.size w V → x 28 = .bool true → Q .normal (useFr (fun j => a.tmps.getD j undef) a.defers x) V) : (Code.region 19 ops true).wp Tryd.prog Q a X :=
  cast (congrArg (fun z => (Code.region 19 ops true).wp Tryd.prog Q z X) ha.symm) (use_region (b := fun j => a.tmps.getD j undef) (d := a.defers) h3 h14 h16 HC4 hops _ X hS hfin)
end Go.Proofs.YtdcfemojkdoakaaDoor
/- UnifySays, walked. -/
namespace Go.Proofs.YtdcfemojkdoakaaDoor
open Go.RowKit Go.Sort Go.Lib
attribute [local go_sem] Oper.semAt_some

theorem o3_of {t : T} (h : uset3.O t) : Plain3 t ∧ ∀ y ∈ vs t, y.size ≤ 1000 ∧ y ∈ V3 := ⟨h.2.1, fun y hy => ⟨v3_small y (h.1 y hy), h.1 y hy⟩⟩
set_option maxRecDepth 100000 in
set_option maxHeartbeats 8000000 in
theorem usays_law (av : Nat → Addr) (a1 : Option Addr) (n1 c1 : Nat) (w : World) (hE : Errs av w) (hl1 : IntsAt w.heap.size a1 n1 w) :
    Calls Tryd.prog 3 #[.slice a1 n1 c1] w fun e w' => e = .returned (.bool true) ∧ Below w.heap.size w w' := by
  have hT : TwoE (av 5) (av 6) w := ⟨(hE.1 5 (by decide)).1, (hE.1 6 (by decide)).1⟩
  have HL1 := Lib.hid hl1; have HE := Lib.hid hE; have HT2 := Lib.hid hT
  have HF := Lib.hid (first_uni puni_ok (av 5) (av 6) w hT)
  clear hl1 hE hT
  by_cases hb1 : n1 ≤ 200
  · have hn1 : n1 < 1152921504606846976 := by omega
    have hb1I : ¬ ((200 : Int) < (n1 : Int)) := by omega
    go_enter Tryd.func3, Tryd.ntmps3
    go_wp2_with (go_at_call 8; refine HF.out.mono ?_; rintro e w1 ⟨rfl, h1⟩; have HB1 := Lib.hid h1; clear h1 HF)
    go_wp2_with (go_at_call 9; fail)
    have hS1 := seq_new (c := c1) HB1.out HL1.out
    have hB2 := HB1.out.alloc HB1.out.size (.cells #[.slice a1 n1 c1, .int .i64 0] 26)
    have HB2 := Lib.hid hB2
    clear hB2 HB1 HL1
    refine (make_n4 _ _ _ _ _ _ _ hS1 (by decide) hn1).mono ?_
    rintro e W1 ⟨⟨ta, u, rfl, hg, hu⟩, ⟨k1, hk1, hs1⟩, hf⟩
    obtain ⟨pa, ca, rfl⟩ := hu.shape
    have OA := Lib.hid (made_small hg (by decide))
    have hb3 := HB2.out.trans hf.1
    have HY1 := Lib.hid (show BoxT W1.heap.size ta pa ca (W1.alloc (.cells #[.int .i64 ta.kind, .string ta.name, .slice pa ta.kids.length ca] 29)) ∧ SeqAt w.heap.size w1.heap.size a1 n1 c1 k1 (W1.alloc (.cells #[.int .i64 ta.kind, .string ta.name, .slice pa ta.kids.length ca] 29)) ∧ Below w.heap.size w (W1.alloc (.cells #[.int .i64 ta.kind, .string ta.name, .slice pa ta.kids.length ca] 29)) from ⟨BoxT.new hu.tys, hs1.below (below_a _ _), hb3.alloc hb3.size _⟩)
    clear hu hf hg HB2 hS1 hb3 hs1
    generalize w1.heap.size = p at *
    simp only [tyV]
    go_wp2_with (go_at_call 9; fail)
    refine (make_n4 _ _ _ _ _ _ _ HY1.out.2.1 (by omega) hn1).mono ?_
    rintro e W2 ⟨⟨tb, u, rfl, hg, hu⟩, ⟨k2, hk2, hs2⟩, hf⟩
    obtain ⟨pb, cb, rfl⟩ := hu.shape
    have OB := Lib.hid (made_small hg (by decide))
    have hb4 := HY1.out.2.2.trans hf.1
    have hA2 := HY1.out.1.byMkU hf HY1.out.2.1
    have HY2 := Lib.hid (show (BoxT W1.heap.size ta pa ca (W2.alloc (.cells #[.int .i64 tb.kind, .string tb.name, .slice pb tb.kids.length cb] 29)) ∧ BoxT W2.heap.size tb pb cb (W2.alloc (.cells #[.int .i64 tb.kind, .string tb.name, .slice pb tb.kids.length cb] 29))) ∧ SeqAt w.heap.size p a1 n1 c1 k2 (W2.alloc (.cells #[.int .i64 tb.kind, .string tb.name, .slice pb tb.kids.length cb] 29)) ∧ Below w.heap.size w (W2.alloc (.cells #[.int .i64 tb.kind, .string tb.name, .slice pb tb.kids.length cb] 29)) from ⟨⟨hA2.alloc _, BoxT.new hu.tys⟩, hs2.below (below_a _ _), hb4.alloc hb4.size _⟩)
    clear hu hf hg hb4 hs2 hA2 HY1
    generalize W1.heap.size = b5 at *
    simp only [tyV]
    go_wp2_with (go_at_call 9; fail)
    refine (make_n4 _ _ _ _ _ _ _ HY2.out.2.1 (by omega) hn1).mono ?_
    rintro e W3 ⟨⟨tc, u, rfl, hg, hu⟩, ⟨k3, hk3, hs3⟩, hf⟩
    obtain ⟨pc, cc, rfl⟩ := hu.shape
    have OC := Lib.hid (made_small hg (by decide))
    have hb5 := HY2.out.2.2.trans hf.1
    have hA3 := HY2.out.1.1.byMkU hf HY2.out.2.1; have hB3 := HY2.out.1.2.byMkU hf HY2.out.2.1
    have hy3 : UY w p a1 n1 c1 k3 b5 W2.heap.size W3.heap.size ta tb tc pa pb pc ca cb cc (W3.alloc (.cells #[.int .i64 tc.kind, .string tc.name, .slice pc tc.kids.length cc] 29)) := ⟨⟨hA3.alloc _, hB3.alloc _, BoxT.new hu.tys⟩, hs3.below (below_a _ _), hb5.alloc hb5.size _⟩
    have hk3' : k3 ≤ 96 := by omega
    obtain ⟨x0, x1, x2⟩ := hA3.cells; have lx := hA3.lt; obtain ⟨z0, z1, z2⟩ := hB3.cells; have lz := hB3.lt
    have HY3 := Lib.hid hy3
    clear hu hf hg hb5 hs3 hA3 hB3 HY2 hy3 hk1 hk2 hk3
    generalize W2.heap.size = b6 at *
    simp only [tyV]
    go_wp2_with (go_at_call 10; fail)
    obtain ⟨r, hr, hrs⟩ := uni_start uset3 OA.out OB.out trivial
    have hHU := puni_ok uset3 (by decide) ta tb r pa pb ca cb _ (av 5) (av 6) hr OA.out OB.out trivial (HT2.out.below HY3.out.2.2) HY3.out.1.1.2 HY3.out.1.2.1.2
    have HR := Lib.hid hr; have HRs := Lib.hid hrs
    clear x0 x1 x2 lx z0 z1 z2 lz hr hrs
    refine hHU.mono ?_
    clear hHU
    rintro E W4 ⟨hres, hb⟩
    have HY4 := Lib.hid (HY3.out.below hb)
    clear hb HY3
    generalize W3.heap.size = b7 at *
    cases r with
    | ok τ =>
      obtain ⟨sv, l, rfl, hs, hp⟩ := hres
      obtain ⟨xa, xc, rfl⟩ := hs.shape
      obtain ⟨hi, _⟩ := HRs.out τ rfl
      obtain ⟨x0, x1, x2⟩ := HY4.out.1.1.cells; have lx := HY4.out.1.1.lt; obtain ⟨z0, z1, z2⟩ := HY4.out.1.2.1.cells; have lz := HY4.out.1.2.1.lt
      go_wp2_with (go_at_call 11; fail)
      have hy5 := HY4.out.below (below_a W4 (.cells #[.slice xa l.length xc] 33))
      have HY5 := Lib.hid (And.intro hy5 (BoxS.new hs))
      have HP := runify_any (S := uset3) (by decide) HR.out OA.out OB.out trivial hy5.1.1.2 hy5.1.2.1.2
      have HPi := Lib.hid hp; have HI := Lib.hid hi
      clear x0 x1 x2 lx z0 z1 z2 lz hy5 hs hp hi HY4
      refine HP.mono ?_
      clear HP
      rintro E W5 ⟨⟨mv, q, rfl, hg, hty, hq⟩, hb⟩
      have HY6 := Lib.hid (show UY w p a1 n1 c1 k3 b5 b6 b7 ta tb tc pa pb pc ca cb cc W5 ∧ BoxS W4.heap.size (.slice xa l.length xc) l W5 ∧ (GivenG 73 mv q W5 ∧ Typ q W5) from ⟨HY5.out.1.below hb, HY5.out.2.below hb, hg, hty⟩)
      have HQi := Lib.hid hq
      clear hb HY5 hg hty hq
      generalize W4.heap.size = b8 at *
      go_wp2_with (go_at_call 12; refine (is_ev (av := av) (c := 0) (v := .nilIface) (.inl ⟨rfl, rfl⟩) W5 (HE.out.below HY6.out.1.2.2)).mono ?_; rintro e W6 ⟨rfl, hb6⟩; have HY7 := Lib.hid (show UZ w b5 b7 b8 ta tc pa pc ca cc xa xc l mv q W6 ∧ UY w p a1 n1 c1 k3 b5 b6 b7 ta tb tc pa pb pc ca cb cc W6 from have hy := HY6.out.1.below hb6; ⟨⟨⟨hy.1.1, hy.1.2.2⟩, HY6.out.2.1.below hb6, ⟨HY6.out.2.2.1.below hb6, HY6.out.2.2.2.keep (KeepT.of_below hb6)⟩, hy.2.2⟩, hy⟩); clear hb6 HY6)
      have hza : tsize (sub τ ta) ≤ 900000000 := uset3.le τ HI.out.src HI.out.good ta OA.out
      have hzc : tsize (sub τ tc) ≤ 900000000 := uset3.le τ HI.out.src HI.out.good tc OC.out
      have hz0 : tsize ta ≤ 900000000 := by have := OA.out.2.2; omega
      have hz1 : tsize tc ≤ 900000000 := by have := OC.out.2.2; omega
      refine usa_here (w := w) (b5 := b5) (b7 := b7) (b8 := b8) (ta := ta) (tc := tc) (pa := pa) (pc := pc) (ca := ca) (cc := cc) (xa := xa) (xc := xc) (l := l) (mv := mv) (q := q) (τ := τ) (p := p) (sn := n1) (sc := c1) (k := k3) (b6 := b6) (sa := a1) (tb := tb) (pb := pb) (cb := cb)
        (fun V h => pap_ret h.1.2.1.2 HPi.out HI.out (by decide) hz0 rfl h.1.1.1.2) (fun V h => rap_ret h.1.2.2.1.1 h.1.2.2.1.2 HQi.out (by decide) hz0 rfl h.1.1.1.2) (fun V h _ _ k _ _ k' => sameU_ret hza k k')
        (fun V h => pap_ret h.1.2.1.2 HPi.out HI.out (by decide) hz1 rfl h.1.1.2.2) (fun V h => rap_ret h.1.2.2.1.1 h.1.2.2.1.2 HQi.out (by decide) hz1 rfl h.1.1.2.2) (fun V h _ _ k _ _ k' => sameU_ret hzc k k')
        _ (by kernel_rfl) (by kernel_rfl) (by kernel_rfl) (by kernel_rfl) (by kernel_rfl) (by kernel_rfl) (by kernel_rfl) ⟨HY7.out.1.below (below_d _), HY7.out.2.below (below_d _)⟩ ?_
      intro x V hV hx
      have HY := Lib.hid hV.2
      clear HY7 hV hza hzc hz0 hz1 HPi HQi HI HR HRs
      simp only [usaFr, hx]
      simp only [Array.getD_eq_getD_getElem?, List.getElem?_toArray, List.getElem?_cons_zero, List.getElem?_cons_succ, Option.getD_some]
      go_wp2_with (fail)
      refine usb_here (w := w) (p := p) (sn := n1) (sc := c1) (k := k3) (b5 := b5) (b6 := b6) (b7 := b7) (sa := a1) (ta := ta) (tb := tb) (tc := tc) (pa := pa) (pb := pb) (pc := pc) (ca := ca) (cb := cb) (cc := cc) (by omega) hn1 _ (by kernel_rfl) (by kernel_rfl) (by kernel_rfl) (by kernel_rfl) (by kernel_rfl) (by kernel_rfl) (UX.below ⟨HY.out.1, HY.out.2.2⟩ (below_d _)) (HY.out.2.1.below (below_d _)) ?_
      intro x V2 zg td pd cd hX e11 hrow hmade
      have OD := Lib.hid (made_small hmade.1 (by decide))
      have hP2 := p2_three hrow hX.1.1.2 hX.1.2.1.2 hX.1.2.2.2 hmade.2
      have hO : ∀ x ∈ ([((ta, pa, ca), (tb, pb, cb)), ((tb, pb, cb), (tc, pc, cc)), ((tc, pc, cc), (td, pd, cd))] : List (Tl × Tl)), uset3.O x.1.1 ∧ uset3.O x.2.1 := by
        intro x hx
        simp only [List.mem_cons, List.not_mem_nil, or_false] at hx
        rcases hx with rfl | rfl | rfl
        · exact ⟨OA.out, OB.out⟩
        · exact ⟨OB.out, OC.out⟩
        · exact ⟨OC.out, OD.out⟩
      obtain ⟨r2, hr2, hrs2⟩ := all_start uset3 [((ta, pa, ca), (tb, pb, cb)), ((tb, pb, cb), (tc, pc, cc)), ((tc, pc, cc), (td, pd, cd))] T.var (uinv_var uset3) (fun _ _ => rfl) (fun x hx => ⟨(hO x hx).1, (hO x hx).2, fun _ _ => trivial⟩)
      have hsz : tsumP (plainP ([((ta, pa, ca), (tb, pb, cb)), ((tb, pb, cb), (tc, pc, cc)), ((tc, pc, cc), (td, pd, cd))] : List (Tl × Tl))) ≤ 900000 := by
        have h1 := OA.out.2.2; have h2 := OB.out.2.2; have h3 := OC.out.2.2; have h4 := OD.out.2.2
        simp only [plainP, tsumP, List.map_cons, List.map_nil]
        omega
      have HAll := all_any found_ok V3 (by decide) [((ta, pa, ca), (tb, pb, cb)), ((tb, pb, cb), (tc, pc, cc)), ((tc, pc, cc), (td, pd, cd))] (by simp) (by simp) r2 _ V2 (av 5) (av 6) hr2 hsz (fun x hx => ⟨o3_of (hO x hx).1, o3_of (hO x hx).2⟩) (fun σ e x hx => (hrs2 σ e).1.var_le hx) (HT2.out.below hX.2) hP2
      have HX := Lib.hid hX; have HP2 := Lib.hid hP2; have HO := Lib.hid hO; have HR2 := Lib.hid hr2; have HRs2 := Lib.hid hrs2
      clear HY hX hrow hmade hP2 hO hr2 hrs2 hsz
      simp only [usbFr, e11]
      simp only [Array.getD_eq_getD_getElem?, List.getElem?_toArray, List.getElem?_cons_zero, List.getElem?_cons_succ, Option.getD_some]
      go_wp2_with (go_at_call 16; fail)
      refine HAll.mono ?_
      clear HAll
      rintro E V3w ⟨hres, hb⟩
      have HX3 := Lib.hid (HX.out.below hb); have HP3 := Lib.hid (HP2.out.below hb)
      clear hb HX HP2
      cases r2 with
      | ok σ =>
        obtain ⟨sv, d, rfl, hs, hd⟩ := hres
        obtain ⟨ya, yc, rfl⟩ := hs.shape
        obtain ⟨hi2, hout2⟩ := HRs2.out σ rfl
        have hpi := pinv_of (S := uset3) hs.1.2 hd hout2
        go_wp2_with (go_at_call 17; fail)
        have hb4 := below_a V3w (.cells #[.slice ya d.length yc] 33)
        have HRA := rall_uni (S := uset3) (by decide) [((ta, pa, ca), (tb, pb, cb)), ((tb, pb, cb), (tc, pc, cc)), ((tc, pc, cc), (td, pd, cd))] (by simp) (.ok σ) _ _ HR2.out (fun x hx => ⟨(HO.out x hx).1, (HO.out x hx).2, trivial⟩) (HP3.out.below hb4)
        have HX4 := Lib.hid (And.intro (HX3.out.below hb4) (BoxS.new hs))
        have HPi2 := Lib.hid hpi; have HI2 := Lib.hid hi2
        clear hs hd hout2 hpi hi2 hb4 HX3 HP3
        refine HRA.mono ?_
        clear HRA
        rintro E V5 ⟨⟨mw, z, rfl, hg, hty, hq⟩, hb⟩
        have HZ := Lib.hid (show UZ w b5 b7 V3w.heap.size ta tc pa pc ca cc ya yc d mw z V5 from ⟨⟨(HX4.out.1.below hb).1.1, (HX4.out.1.below hb).1.2.2⟩, HX4.out.2.below hb, ⟨hg, hty⟩, (HX4.out.1.below hb).2⟩)
        have HQ2 := Lib.hid hq
        clear hg hty hq hb HX4
        generalize V3w.heap.size = b13 at *
        go_wp2_with (fail)
        have hza : tsize (sub σ ta) ≤ 900000000 := uset3.le σ HI2.out.src HI2.out.good ta OA.out
        have hzc : tsize (sub σ tc) ≤ 900000000 := uset3.le σ HI2.out.src HI2.out.good tc OC.out
        have hz0 : tsize ta ≤ 900000000 := by have := OA.out.2.2; omega
        have hz1 : tsize tc ≤ 900000000 := by have := OC.out.2.2; omega
        refine usc_here (w := w) (b5 := b5) (b7 := b7) (b13 := b13) (ta := ta) (tc := tc) (pa := pa) (pc := pc) (ca := ca) (cc := cc) (xa := ya) (xc := yc) (l := d) (mv := mw) (q := z) (τ := σ)
          (fun V h => is_ev (av := av) (c := 0) (v := .nilIface) (.inl ⟨rfl, rfl⟩) V (HE.out.below h.2.2.2))
          (fun V h => pap_ret h.2.1.2 HPi2.out HI2.out (by decide) hz0 rfl h.1.1.2) (fun V h => rap_ret h.2.2.1.1 h.2.2.1.2 HQ2.out (by decide) hz0 rfl h.1.1.2) (fun V h _ _ k _ _ k' => sameU_ret hza k k')
          (fun V h => pap_ret h.2.1.2 HPi2.out HI2.out (by decide) hz1 rfl h.1.2.2) (fun V h => rap_ret h.2.2.1.1 h.2.2.1.2 HQ2.out (by decide) hz1 rfl h.1.2.2) (fun V h _ _ k _ _ k' => sameU_ret hzc k k')
          _ (by kernel_rfl) (by kernel_rfl) (by kernel_rfl) (by kernel_rfl) (by kernel_rfl) (by kernel_rfl) (by kernel_rfl) (by kernel_rfl) (by kernel_rfl) (HZ.out.below (below_d _)) ?_
        intro x V hV hx
        simp only [uscFr, hx]
        simp only [Array.getD_eq_getD_getElem?, List.getElem?_toArray, List.getElem?_cons_zero, List.getElem?_cons_succ, Option.getD_some]
        go_wp2
        go_ret
        exact ⟨rfl, hV.2.2.2⟩
      | bad e =>
        obtain ⟨ya, yc, rfl⟩ := hres
        cases e
        · go_wp2_with (go_at_call 17; fail)
          have hb4 := below_a V3w (.cells #[.slice ya 0 yc] 33)
          have HRA := rall_uni (S := uset3) (by decide) [((ta, pa, ca), (tb, pb, cb)), ((tb, pb, cb), (tc, pc, cc)), ((tc, pc, cc), (td, pd, cd))] (by simp) _ _ _ HR2.out (fun x hx => ⟨(HO.out x hx).1, (HO.out x hx).2, trivial⟩) (HP3.out.below hb4)
          have HX4 := Lib.hid (HX3.out.below hb4)
          clear hb4 HX3 HP3
          refine HRA.mono ?_
          clear HRA
          rintro E V5 ⟨hq, hb⟩
          simp only [RRes, if_true, Bool.false_eq_true, if_false] at hq
          subst hq
          have HX5 := Lib.hid (HX4.out.below hb)
          clear hb HX4
          simp only [if_true, Bool.false_eq_true, if_false]
          go_wp2_with (fail)
          have HIs := Lib.hid (fun (V : World) (hb : Below w.heap.size w V) => is_ev (av := av) (.inr ⟨5, by decide, (show (106 : Int) = 101 + ((5 : Nat) : Int) by decide), rfl⟩) V (HE.out.below hb))
          refine usd_here (w := w) (ev := errP (av 5)) (fun V h => HIs.out V h) _ (by kernel_rfl) (by kernel_rfl) (by kernel_rfl) (by kernel_rfl) (by kernel_rfl) ((HX5.out.below (below_d _)).2) ?_
          intro x V hV hx
          simp only [usdFr, hx]
          simp only [Array.getD_eq_getD_getElem?, List.getElem?_toArray, List.getElem?_cons_zero, List.getElem?_cons_succ, Option.getD_some]
          go_wp2
          go_ret
          exact ⟨rfl, hV⟩
        · go_wp2_with (go_at_call 17; fail)
          have hb4 := below_a V3w (.cells #[.slice ya 0 yc] 33)
          have HRA := rall_uni (S := uset3) (by decide) [((ta, pa, ca), (tb, pb, cb)), ((tb, pb, cb), (tc, pc, cc)), ((tc, pc, cc), (td, pd, cd))] (by simp) _ _ _ HR2.out (fun x hx => ⟨(HO.out x hx).1, (HO.out x hx).2, trivial⟩) (HP3.out.below hb4)
          have HX4 := Lib.hid (HX3.out.below hb4)
          clear hb4 HX3 HP3
          refine HRA.mono ?_
          clear HRA
          rintro E V5 ⟨hq, hb⟩
          simp only [RRes, if_true, Bool.false_eq_true, if_false] at hq
          subst hq
          have HX5 := Lib.hid (HX4.out.below hb)
          clear hb HX4
          simp only [if_true, Bool.false_eq_true, if_false]
          go_wp2_with (fail)
          have HIs := Lib.hid (fun (V : World) (hb : Below w.heap.size w V) => is_ev (av := av) (.inr ⟨6, by decide, (show (107 : Int) = 101 + ((6 : Nat) : Int) by decide), rfl⟩) V (HE.out.below hb))
          refine use_here (w := w) (ev := errP (av 6)) (fun V h => HIs.out V h) _ (by kernel_rfl) (by kernel_rfl) (by kernel_rfl) (by kernel_rfl) (by kernel_rfl) ((HX5.out.below (below_d _)).2) ?_
          intro x V hV hx
          simp only [useFr, hx]
          simp only [Array.getD_eq_getD_getElem?, List.getElem?_toArray, List.getElem?_cons_zero, List.getElem?_cons_succ, Option.getD_some]
          go_wp2
          go_ret
          exact ⟨rfl, hV⟩
    | bad e =>
      obtain ⟨xa, xc, rfl⟩ := hres
      cases e
      all_goals
        obtain ⟨x0, x1, x2⟩ := HY4.out.1.1.cells; have lx := HY4.out.1.1.lt; obtain ⟨z0, z1, z2⟩ := HY4.out.1.2.1.cells; have lz := HY4.out.1.2.1.lt
        go_wp2_with (go_at_call 11; fail)
        have hy5 := HY4.out.below (below_a W4 (.cells #[.slice xa 0 xc] 33))
        have HY5 := Lib.hid hy5
        have HP := runify_any (S := uset3) (by decide) HR.out OA.out OB.out trivial hy5.1.1.2 hy5.1.2.1.2
        clear x0 x1 x2 lx z0 z1 z2 lz hy5 HY4
        refine HP.mono ?_
        clear HP
        rintro E W5 ⟨hq, hb⟩
        simp only [RRes, if_true, Bool.false_eq_true, if_false] at hq
        subst hq
        have HY6 := Lib.hid (HY5.out.below hb)
        clear hb HY5
        simp only [if_true, Bool.false_eq_true, if_false]
        go_wp2_with (go_at_call 12; refine (is_ev (av := av) (.inr (by first | exact ⟨5, by decide, by decide, rfl⟩ | exact ⟨6, by decide, by decide, rfl⟩)) W5 (HE.out.below HY6.out.2.2)).mono ?_; rintro e W6 ⟨rfl, hb6⟩; have HY7 := Lib.hid (HY6.out.below hb6); clear hb6 HY6)
        go_quiet (fail)
        go_wp2_with (fail)
        have HY := Lib.hid (HY7.out.below (below_drewN (Below.refl _ W6) nq))
        clear HY7
        refine usb_here (w := w) (p := p) (sn := n1) (sc := c1) (k := k3) (b5 := b5) (b6 := b6) (b7 := b7) (sa := a1) (ta := ta) (tb := tb) (tc := tc) (pa := pa) (pb := pb) (pc := pc) (ca := ca) (cb := cb) (cc := cc) (by omega) hn1 _ (by kernel_rfl) (by kernel_rfl) (by kernel_rfl) (by kernel_rfl) (by kernel_rfl) (by kernel_rfl) (UX.below ⟨HY.out.1, HY.out.2.2⟩ (below_d _)) (HY.out.2.1.below (below_d _)) ?_
        intro x V2 zg td pd cd hX e11 hrow hmade
        have OD := Lib.hid (made_small hmade.1 (by decide))
        have hP2 := p2_three hrow hX.1.1.2 hX.1.2.1.2 hX.1.2.2.2 hmade.2
        have hO : ∀ x ∈ ([((ta, pa, ca), (tb, pb, cb)), ((tb, pb, cb), (tc, pc, cc)), ((tc, pc, cc), (td, pd, cd))] : List (Tl × Tl)), uset3.O x.1.1 ∧ uset3.O x.2.1 := by
          intro x hx
          simp only [List.mem_cons, List.not_mem_nil, or_false] at hx
          rcases hx with rfl | rfl | rfl
          · exact ⟨OA.out, OB.out⟩
          · exact ⟨OB.out, OC.out⟩
          · exact ⟨OC.out, OD.out⟩
        obtain ⟨r2, hr2, hrs2⟩ := all_start uset3 [((ta, pa, ca), (tb, pb, cb)), ((tb, pb, cb), (tc, pc, cc)), ((tc, pc, cc), (td, pd, cd))] T.var (uinv_var uset3) (fun _ _ => rfl) (fun x hx => ⟨(hO x hx).1, (hO x hx).2, fun _ _ => trivial⟩)
        have hsz : tsumP (plainP ([((ta, pa, ca), (tb, pb, cb)), ((tb, pb, cb), (tc, pc, cc)), ((tc, pc, cc), (td, pd, cd))] : List (Tl × Tl))) ≤ 900000 := by
          have h1 := OA.out.2.2; have h2 := OB.out.2.2; have h3 := OC.out.2.2; have h4 := OD.out.2.2
          simp only [plainP, tsumP, List.map_cons, List.map_nil]
          omega
        have HAll := all_any found_ok V3 (by decide) [((ta, pa, ca), (tb, pb, cb)), ((tb, pb, cb), (tc, pc, cc)), ((tc, pc, cc), (td, pd, cd))] (by simp) (by simp) r2 _ V2 (av 5) (av 6) hr2 hsz (fun x hx => ⟨o3_of (hO x hx).1, o3_of (hO x hx).2⟩) (fun σ e x hx => (hrs2 σ e).1.var_le hx) (HT2.out.below hX.2) hP2
        have HX := Lib.hid hX; have HP2 := Lib.hid hP2; have HO := Lib.hid hO; have HR2 := Lib.hid hr2; have HRs2 := Lib.hid hrs2
        clear HY hX hrow hmade hP2 hO hr2 hrs2 hsz
        simp only [usbFr, e11]
        simp only [Array.getD_eq_getD_getElem?, List.getElem?_toArray, List.getElem?_cons_zero, List.getElem?_cons_succ, Option.getD_some]
        go_wp2_with (go_at_call 16; fail)
        refine HAll.mono ?_
        clear HAll
        rintro E V3w ⟨hres, hb⟩
        have HX3 := Lib.hid (HX.out.below hb); have HP3 := Lib.hid (HP2.out.below hb)
        clear hb HX HP2
        cases r2 with
        | ok σ =>
          obtain ⟨sv, d, rfl, hs, hd⟩ := hres
          obtain ⟨ya, yc, rfl⟩ := hs.shape
          obtain ⟨hi2, hout2⟩ := HRs2.out σ rfl
          have hpi := pinv_of (S := uset3) hs.1.2 hd hout2
          go_wp2_with (go_at_call 17; fail)
          have hb4 := below_a V3w (.cells #[.slice ya d.length yc] 33)
          have HRA := rall_uni (S := uset3) (by decide) [((ta, pa, ca), (tb, pb, cb)), ((tb, pb, cb), (tc, pc, cc)), ((tc, pc, cc), (td, pd, cd))] (by simp) (.ok σ) _ _ HR2.out (fun x hx => ⟨(HO.out x hx).1, (HO.out x hx).2, trivial⟩) (HP3.out.below hb4)
          have HX4 := Lib.hid (And.intro (HX3.out.below hb4) (BoxS.new hs))
          have HPi2 := Lib.hid hpi; have HI2 := Lib.hid hi2
          clear hs hd hout2 hpi hi2 hb4 HX3 HP3
          refine HRA.mono ?_
          clear HRA
          rintro E V5 ⟨⟨mw, z, rfl, hg, hty, hq⟩, hb⟩
          have HZ := Lib.hid (show UZ w b5 b7 V3w.heap.size ta tc pa pc ca cc ya yc d mw z V5 from ⟨⟨(HX4.out.1.below hb).1.1, (HX4.out.1.below hb).1.2.2⟩, HX4.out.2.below hb, ⟨hg, hty⟩, (HX4.out.1.below hb).2⟩)
          have HQ2 := Lib.hid hq
          clear hg hty hq hb HX4
          generalize V3w.heap.size = b13 at *
          go_wp2_with (fail)
          have hza : tsize (sub σ ta) ≤ 900000000 := uset3.le σ HI2.out.src HI2.out.good ta OA.out
          have hzc : tsize (sub σ tc) ≤ 900000000 := uset3.le σ HI2.out.src HI2.out.good tc OC.out
          have hz0 : tsize ta ≤ 900000000 := by have := OA.out.2.2; omega
          have hz1 : tsize tc ≤ 900000000 := by have := OC.out.2.2; omega
          refine usc_here (w := w) (b5 := b5) (b7 := b7) (b13 := b13) (ta := ta) (tc := tc) (pa := pa) (pc := pc) (ca := ca) (cc := cc) (xa := ya) (xc := yc) (l := d) (mv := mw) (q := z) (τ := σ)
            (fun V h => is_ev (av := av) (c := 0) (v := .nilIface) (.inl ⟨rfl, rfl⟩) V (HE.out.below h.2.2.2))
            (fun V h => pap_ret h.2.1.2 HPi2.out HI2.out (by decide) hz0 rfl h.1.1.2) (fun V h => rap_ret h.2.2.1.1 h.2.2.1.2 HQ2.out (by decide) hz0 rfl h.1.1.2) (fun V h _ _ k _ _ k' => sameU_ret hza k k')
            (fun V h => pap_ret h.2.1.2 HPi2.out HI2.out (by decide) hz1 rfl h.1.2.2) (fun V h => rap_ret h.2.2.1.1 h.2.2.1.2 HQ2.out (by decide) hz1 rfl h.1.2.2) (fun V h _ _ k _ _ k' => sameU_ret hzc k k')
            _ (by kernel_rfl) (by kernel_rfl) (by kernel_rfl) (by kernel_rfl) (by kernel_rfl) (by kernel_rfl) (by kernel_rfl) (by kernel_rfl) (by kernel_rfl) (HZ.out.below (below_d _)) ?_
          intro x V hV hx
          simp only [uscFr, hx]
          simp only [Array.getD_eq_getD_getElem?, List.getElem?_toArray, List.getElem?_cons_zero, List.getElem?_cons_succ, Option.getD_some]
          go_wp2
          go_ret
          exact ⟨rfl, hV.2.2.2⟩
        | bad e =>
          obtain ⟨ya, yc, rfl⟩ := hres
          cases e
          · go_wp2_with (go_at_call 17; fail)
            have hb4 := below_a V3w (.cells #[.slice ya 0 yc] 33)
            have HRA := rall_uni (S := uset3) (by decide) [((ta, pa, ca), (tb, pb, cb)), ((tb, pb, cb), (tc, pc, cc)), ((tc, pc, cc), (td, pd, cd))] (by simp) _ _ _ HR2.out (fun x hx => ⟨(HO.out x hx).1, (HO.out x hx).2, trivial⟩) (HP3.out.below hb4)
            have HX4 := Lib.hid (HX3.out.below hb4)
            clear hb4 HX3 HP3
            refine HRA.mono ?_
            clear HRA
            rintro E V5 ⟨hq, hb⟩
            simp only [RRes, if_true, Bool.false_eq_true, if_false] at hq
            subst hq
            have HX5 := Lib.hid (HX4.out.below hb)
            clear hb HX4
            simp only [if_true, Bool.false_eq_true, if_false]
            go_wp2_with (fail)
            have HIs := Lib.hid (fun (V : World) (hb : Below w.heap.size w V) => is_ev (av := av) (.inr ⟨5, by decide, (show (106 : Int) = 101 + ((5 : Nat) : Int) by decide), rfl⟩) V (HE.out.below hb))
            refine usd_here (w := w) (ev := errP (av 5)) (fun V h => HIs.out V h) _ (by kernel_rfl) (by kernel_rfl) (by kernel_rfl) (by kernel_rfl) (by kernel_rfl) ((HX5.out.below (below_d _)).2) ?_
            intro x V hV hx
            simp only [usdFr, hx]
            simp only [Array.getD_eq_getD_getElem?, List.getElem?_toArray, List.getElem?_cons_zero, List.getElem?_cons_succ, Option.getD_some]
            go_wp2
            go_ret
            exact ⟨rfl, hV⟩
          · go_wp2_with (go_at_call 17; fail)
            have hb4 := below_a V3w (.cells #[.slice ya 0 yc] 33)
            have HRA := rall_uni (S := uset3) (by decide) [((ta, pa, ca), (tb, pb, cb)), ((tb, pb, cb), (tc, pc, cc)), ((tc, pc, cc), (td, pd, cd))] (by simp) _ _ _ HR2.out (fun x hx => ⟨(HO.out x hx).1, (HO.out x hx).2, trivial⟩) (HP3.out.below hb4)
            have HX4 := Lib.hid (HX3.out.below hb4)
            clear hb4 HX3 HP3
            refine HRA.mono ?_
            clear HRA
            rintro E V5 ⟨hq, hb⟩
            simp only [RRes, if_true, Bool.false_eq_true, if_false] at hq
            subst hq
            have HX5 := Lib.hid (HX4.out.below hb)
            clear hb HX4
            simp only [if_true, Bool.false_eq_true, if_false]
            go_wp2_with (fail)
            have HIs := Lib.hid (fun (V : World) (hb : Below w.heap.size w V) => is_ev (av := av) (.inr ⟨6, by decide, (show (107 : Int) = 101 + ((6 : Nat) : Int) by decide), rfl⟩) V (HE.out.below hb))
            refine use_here (w := w) (ev := errP (av 6)) (fun V h => HIs.out V h) _ (by kernel_rfl) (by kernel_rfl) (by kernel_rfl) (by kernel_rfl) (by kernel_rfl) ((HX5.out.below (below_d _)).2) ?_
            intro x V hV hx
            simp only [useFr, hx]
            simp only [Array.getD_eq_getD_getElem?, List.getElem?_toArray, List.getElem?_cons_zero, List.getElem?_cons_succ, Option.getD_some]
            go_wp2
            go_ret
            exact ⟨rfl, hV⟩
  · have hb1I : ((200 : Int) < (n1 : Int)) := by omega
    go_enter Tryd.func3, Tryd.ntmps3
    go_wp2_with (go_at_call 8; refine HF.out.mono ?_; rintro e w1 ⟨rfl, h1⟩; have HB1 := Lib.hid h1; clear h1 HF)
    go_ret
    exact ⟨rfl, HB1.out⟩
end Go.Proofs.YtdcfemojkdoakaaDoor
/- What the plain rows of this seat share. -/
namespace Go.Proofs.YtdcfemojkdoakaaDoor
open Go.ChangeShapes Go.WideShapes Go.ChangeAt Go.RowKit

theorem own : ownKnob Tryd.prog.godebug = none := by kernel_rfl
theorem laidOut : laidOutB Tryd.prog = true := by kernel_rfl
theorem bounds_i64 {z : Int} (h : (Lit.int .i64 z).wf = true) : -9223372036854775808 ≤ z ∧ z ≤ 9223372036854775807 := by
  have h1 : IntKind.i64.min = -9223372036854775808 := rfl
  have h2 : IntKind.i64.max = 9223372036854775807 := rfl
  simp only [Lit.wf, Bool.and_eq_true, decide_eq_true_eq] at h
  omega
end Go.Proofs.YtdcfemojkdoakaaDoor
/- What the rows of the laws with listed errors hand to the walks: where api's errors lie, each its own. -/
namespace Go.Proofs.YtdcfemojkdoakaaDoor
open Go.ChangeShapes Go.WideShapes Go.ChangeAt Go.RowKit

theorem cellsStr : Tryd.prog.cellsOf 9 = 1 := by kernel_rfl
theorem cellsErrStr : Tryd.prog.cellsOf 222 = 1 := by kernel_rfl
def errName : String := "*errors.errorString"
theorem star : errName = "*" ++ "errors.errorString" := by decide
theorem rowErr (u : TypeId) (h : Tryd.prog.typeName? 3 u = some errName) : u = 206 :=
  typeName_ptr_named (nm := "errors.errorString") (by rw [← star]; kernel_rfl) (by kernel_rfl) (by decide) u (by rw [← star]; exact h)
/-- A sentinel of the list's head, its block's row among what is never written. -/
theorem laid_one {P : Program} {n nm : String} {text : List UInt8} {r : List (String × DataW Unit)} {W : World} {g : Nat} {ti tp te ts : TypeId} {ms : Array (String × TypeId)} {f : Field}
    (h : laidMet P ((n, .iface nm (.ptr (.agg [.lit (.string text)]))) :: r) W)
    (hg : P.globalNamed n = some g) (ht : (P.globals[g]?).map (·.type) = some ti) (hi : P.underlying ti = some (.interface ms)) (hrow : ∀ u, P.typeName? 3 u = some nm → u = tp)
    (hp : P.underlying tp = some (.pointer te)) (he : P.underlying te = some (.struct #[f])) (hft : f.type = ts) (hfo : f.offset = 0) (hs : P.underlying ts = some .string) (hc : P.cellsOf te = 1) (hcs : P.cellsOf ts = 1) :
    ∃ (a : Addr) (s : ByteArray), W.var? P n = some #[.iface tp (.pointer (some a))] ∧ W.cell? a = some (.string s) ∧ s.data.toList = text ∧ ∃ c t, W.heap[a.block]? = some (.cells c t (0, 0)) := by
  obtain ⟨ps, ⟨g0, t0, cs0, f0, p0, q0, hg0, ht0, hv0, hd0, _, e0⟩, _, hrows⟩ := h
  obtain rfl := Option.some.inj (hg.symm.trans hg0)
  obtain rfl := Option.some.inj (ht.symm.trans ht0)
  subst e0
  obtain ⟨l0⟩ := cs0
  have ok0 : ∀ u v, l0 = [.iface u v] → Value.okWide P W .any 0 u v := fun u v e => by
    subst e
    exact (hrows g 0 (by simp [MemPlace.row])).2 u v (by simpa using World.var?_cell hg0 hv0 0)
  obtain ⟨a0, s0, rfl, hc0, hs0, hz0, rfl⟩ := errorString_of_trod hi hrow hp he hft hfo hs hc hcs hd0 ok0
  exact ⟨a0, s0, hv0, hc0, hs0, (hrows a0.block a0.off (by simp [MemPlace.row])).1⟩
/-- Where a listed error lies, and what is behind it. -/
def ErrIn (W : World) (g : Nat) (text : List UInt8) (a : Addr) : Prop := W.cell? ⟨g, 0, none⟩ = some (errP a) ∧ (∃ s : ByteArray, W.cell? a = some (.string s) ∧ s.data.toList = text) ∧ ∃ c t, W.heap[a.block]? = some (.cells c t (0, 0))
theorem err_in {r : List (String × DataW Unit)} {n : String} {text : List UInt8} {W : World} {g : Nat} (h : laidMet Tryd.prog ((n, .iface errName (.ptr (.agg [.lit (.string text)]))) :: r) W)
    (hg : Tryd.prog.globalNamed n = some g) (tg : (Tryd.prog.globals[g]?).map (·.type) = some 35) : (∃ a, ErrIn W g text a) ∧ laidMet Tryd.prog r W := by
  obtain ⟨a, s, hv, h1, h2, h3⟩ := laid_one h hg tg Tryd.underlying35 rowErr Tryd.underlying206 Tryd.underlying222 rfl rfl Tryd.underlying9 cellsErrStr cellsStr
  exact ⟨⟨a, by simpa [errP] using World.var?_cell hg hv 0, ⟨s, h1, h2⟩, h3⟩, h.tail⟩
/-- Errors that say unlike things lie in unlike places. -/
theorem errs_of {W : World} (L : List (Nat × List UInt8)) (av : Nat → Addr) (hL : L.map (·.1) = errGs) (h : ∀ i (hi : i < L.length), ErrIn W L[i].1 L[i].2 (av i)) (hn : (L.map (·.2)).Nodup) : Errs av W := by
  have hd : ∀ i j (hi : i < L.length) (hj : j < L.length), L[i].2 = L[j].2 → i = j := fun i j hi hj e => by
    have hp := List.pairwise_iff_getElem.1 hn
    rcases Nat.lt_trichotomy i j with h | h | h
    · exact absurd (by rw [List.getElem_map, List.getElem_map]; exact e) (hp i j (by simpa using hi) (by simpa using hj) h)
    · exact h
    · exact absurd (by rw [List.getElem_map, List.getElem_map]; exact e.symm) (hp j i (by simpa using hj) (by simpa using hi) h)
  have hlen : L.length = 15 := by have := congrArg List.length hL; simpa [errGs] using this
  refine ⟨fun i hi => ?_, fun i j hi hj e => ?_⟩
  · have hi' : i < L.length := by omega
    have e : errGs.getD i 0 = L[i].1 := by rw [← hL]; simp [List.getD, hi']
    rw [e]
    exact ⟨(h i hi').1, (h i hi').2.2⟩
  · have hi' : i < L.length := by omega
    have hj' : j < L.length := by omega
    obtain ⟨s, h1, h2⟩ := (h i hi').2.1
    obtain ⟨s', h3, h4⟩ := (h j hj').2.1
    rw [e, h3] at h1
    cases h1
    exact hd i j hi' hj' (h2.symm.trans h4)
end Go.Proofs.YtdcfemojkdoakaaDoor
/- Slices of numbers that came in, for the plain rows. -/
namespace Go.Proofs.YtdcfemojkdoakaaDoor
open Go.ChangeShapes Go.WideShapes Go.ChangeAt Go.RowKit

/-- A slice of numbers that came in, nil or not, holds some numbers. -/
theorem opened_ints {H : Type} {enc : TypeId × Value → H} {W : World} {a0 : Option Addr} {len cap : Nat} {d0 : DataW H} {p : List MemPlace}
    (h0 : DataW.Trod enc Tryd.prog W 0 (fun _ => true) true 22 (.slice a0 len cap) d0 p) : IntsAt W.heap.size a0 len W := by
  obtain ⟨fuel, hf⟩ := h0
  rcases open_ints Tryd.underlying22 Tryd.underlying3 (by kernel_rfl) hf with ⟨hcs, _⟩ | ⟨x, l, c, zs, hcs, _, hl, hm, hz, _, hcell, hwz⟩
  · simp [Value.cells] at hcs
    obtain ⟨rfl, rfl, rfl⟩ := hcs
    exact .inl rfl
  · simp [Value.cells] at hcs
    obtain ⟨rfl, rfl, rfl⟩ := hcs
    simp only [if_true] at hz
    by_cases h0 : len = 0
    · exact .inl h0
    · obtain ⟨b, o, spot⟩ := x
      have hc0 := hcell 0 (by omega)
      have hspot : spot = none := by simpa [Addr.add] using World.cell?_spot hc0
      subst hspot
      have ea : ∀ j, (⟨b, o, none⟩ : Addr).add j = ⟨b, o + j, none⟩ := fun j => by unfold Addr.add; split <;> simp_all
      refine .inr ⟨b, o, rfl, World.block_lt_of_cell? _ _ hc0, fun j hj => ?_⟩
      have hc := hcell j (by omega)
      rw [ea] at hc
      have hjz : j < zs.length := by omega
      exact ⟨zs[j], by rw [hc]; simp [List.getD, List.getElem?_eq_getElem hjz], bounds_i64 (hwz _ (List.getElem_mem hjz))⟩

end Go.Proofs.YtdcfemojkdoakaaDoor
