/- Merged: MoF, MoS. -/
import Derived.Test.YthpphjkoiipkkaaVo1
import Derived.Test.YthpphjkoiipkkaaVs1
/- MatchOnce: its last statement, a region of 39 operations that draws its order, by an invariant. (Made by a program.) -/
namespace Go.Proofs.Ythpphjkoiipkkaa
open Go.RowKit Go.Maps Go.Sort Go.Lib
attribute [local go_sem] Oper.semAt_some

noncomputable def mofOps : Array Oper := regionIn 14 (Try.f5.body.getD .skip)
def mofFr (b : Nat → Value) (d : List Deferred) (x : Nat → Value) : Act := { tmps := #[b 0, b 1, b 2, b 3, x 38, b 5, b 6, b 7, b 8, b 9, b 10, b 11, b 12, b 13, b 14, b 15, b 16, b 17, b 18, b 19, b 20, b 21, b 22, b 23, b 24, b 25, b 26, b 27, b 28, b 29, b 30, b 31, b 32, b 33, b 34, b 35, b 36, b 37, b 38, b 39, b 40, b 41, b 42, b 43, b 44, b 45, b 46, b 47, b 48, b 49, b 50, b 51, b 52, b 53, b 54, b 55, b 56, b 57, b 58, b 59, b 60, b 61, b 62, b 63, x 0, x 1, x 2, x 3, x 4, x 5, x 6, x 7, x 8, x 9, x 10, x 11, x 12, x 13, x 14, x 15, x 16, x 17, x 18, x 19, x 20, x 21, x 22, x 23, x 24, x 25, x 26, x 27, x 28, x 29, x 30, x 31, x 32, x 33, x 34, x 35, x 36, x 37], defers := d }

def mofVals (ta tx ty tw : T) (wa xa ya za sb : Option Addr) (wc xc yc zc sd : Nat) (k : List PR) (i : Nat) (v : Value) (V : World) : Prop :=
  match i with
  | 0 => v = .bool true
  | 1 => v = .bool true
  | 2 => v = .bool false
  | 3 => v = .agg #[.int .i64 (tx).kind, .string (tx).name, .slice xa (tx).kids.length xc]
  | 4 => v = .agg #[.int .i64 (ty).kind, .string (ty).name, .slice ya (ty).kids.length yc]
  | 5 => v = .bool false
  | 6 => v = .bool true
  | 7 => v = .bool true
  | 8 => v = .bool true
  | 9 => v = .bool false
  | 10 => v = .bool true
  | 11 => v = .bool true
  | 12 => ∃ zu, v = zu ∧ True
  | 13 => ∃ zu, v = zu ∧ True
  | 14 => ∃ zu, v = zu ∧ True
  | 15 => ∃ zu, v = zu ∧ True
  | 16 => ∃ zu, v = zu ∧ True
  | 17 => v = .bool true
  | 18 => v = .bool true
  | 19 => v = .bool true
  | 20 => v = .bool true
  | 21 => v = .bool true
  | 22 => v = .bool true
  | 23 => v = .agg #[.slice sb k.length sd]
  | 24 => v = .agg #[.int .i64 (ta).kind, .string (ta).name, .slice wa (ta).kids.length wc]
  | 25 => ∃ zu zv, v = .agg #[.int .i64 (tx).kind, .string (tx).name, .slice zu (tx).kids.length zv] ∧ TysAt V (.slice zu (tx).kids.length zv) (tx).kids
  | 26 => v = .agg #[.int .i64 (tx).kind, .string (tx).name, .slice xa (tx).kids.length xc]
  | 27 => v = .bool true
  | 28 => v = .bool true
  | 29 => v = .bool true
  | 30 => v = .bool false
  | 31 => v = .bool true
  | 32 => v = .bool true
  | 33 => v = .bool true
  | 34 => v = .agg #[.int .i64 (tw).kind, .string (tw).name, .slice za (tw).kids.length zc]
  | 35 => v = .int .i64 3
  | 36 => v = .bool true
  | 37 => v = .bool true
  | 38 => v = .bool true
  | _ => True

theorem mofVals_keep {ta tx ty tw : T} {wa xa ya za sb : Option Addr} {wc xc yc zc sd : Nat} {k : List PR} (i : Nat) (v : Value) (V Y : World) (h : mofVals ta tx ty tw wa xa ya za sb wc xc yc zc sd k i v V) (hb : Below V.heap.size V Y) : mofVals ta tx ty tw wa xa ya za sb wc xc yc zc sd k i v Y := by
  unfold mofVals at *
  split at h <;> first
    | exact h
    | (obtain ⟨zu, e, h⟩ := h; exact ⟨zu, e, h⟩)
    | (obtain ⟨zu, zv, e, h⟩ := h; exact ⟨zu, zv, e, h.keep (KeepT.of_below hb)⟩)

theorem mof_size : mofOps.size = 39 := by kernel_rfl
theorem mof_dst_1 : (mofOps[1]?).bind (·.dst) = some 65 := by kernel_rfl
theorem mof_dst_8 : (mofOps[8]?).bind (·.dst) = some 72 := by kernel_rfl
theorem mof_dst_11 : (mofOps[11]?).bind (·.dst) = some 75 := by kernel_rfl
theorem mof_dst_19 : (mofOps[19]?).bind (·.dst) = some 83 := by kernel_rfl
theorem mof_dst_22 : (mofOps[22]?).bind (·.dst) = some 86 := by kernel_rfl
theorem mof_dst_29 : (mofOps[29]?).bind (·.dst) = some 93 := by kernel_rfl
theorem mof_dst_33 : (mofOps[33]?).bind (·.dst) = some 97 := by kernel_rfl
set_option linter.unusedSimpArgs false in
set_option maxRecDepth 100000 in
set_option maxHeartbeats 8000000 in
theorem mof_region {w : World} {b6 b7 b8 b9 b11 b13 : Nat} {ta tx ty tw : T} {wa xa ya za sa sb : Option Addr} {wc xc yc zc sc sd : Nat} {l k : List PR} {b : Nat → Value} {d : List Deferred}
    (h5 : b 5 = .bool true) (h12 : b 12 = .bool false) (h14 : b 14 = .bool true) (h16 : b 16 = .bool false) (h6 : b 6 = .pointer (some ⟨b6, 0, none⟩)) (h7 : b 7 = .pointer (some ⟨b7, 0, none⟩)) (h8 : b 8 = .pointer (some ⟨b8, 0, none⟩)) (h9 : b 9 = .pointer (some ⟨b9, 0, none⟩)) (h11 : b 11 = .pointer (some ⟨b11, 0, none⟩)) (h13 : b 13 = .pointer (some ⟨b13, 0, none⟩))
    (HC5 : ∀ V, OQ w b6 b7 b8 b9 b11 b13 ta tx ty tw wa xa ya za wc xc yc zc sa sc l sb sd k V → Calls Try.prog 11 #[.agg #[.int .i64 (tx).kind, .string (tx).name, .slice xa (tx).kids.length xc], .agg #[.int .i64 (ty).kind, .string (ty).name, .slice ya (ty).kids.length yc]] V fun e Y => e = .returned (.bool false) ∧ Below V.heap.size V Y)
    (HC25 : ∀ V, OQ w b6 b7 b8 b9 b11 b13 ta tx ty tw wa xa ya za wc xc yc zc sa sc l sb sd k V → Calls Try.prog 12 #[.agg #[.slice sb k.length sd], .agg #[.int .i64 (ta).kind, .string (ta).name, .slice wa (ta).kids.length wc]] V fun e Y => (∃ zu zv, e = .returned (.agg #[.int .i64 (tx).kind, .string (tx).name, .slice zu (tx).kids.length zv]) ∧ TysAt Y (.slice zu (tx).kids.length zv) (tx).kids) ∧ Below V.heap.size V Y)
    (HC27 : ∀ V, OQ w b6 b7 b8 b9 b11 b13 ta tx ty tw wa xa ya za wc xc yc zc sa sc l sb sd k V → ∀ zu25, ∀ zv25, TysAt V (.slice zu25 (tx).kids.length zv25) (tx).kids → Calls Try.prog 11 #[.agg #[.int .i64 (tx).kind, .string (tx).name, .slice zu25 (tx).kids.length zv25], .agg #[.int .i64 (tx).kind, .string (tx).name, .slice xa (tx).kids.length xc]] V fun e Y => e = .returned (.bool true) ∧ Below V.heap.size V Y)
    (HC35 : ∀ V, OQ w b6 b7 b8 b9 b11 b13 ta tx ty tw wa xa ya za wc xc yc zc sa sc l sb sd k V → Calls Try.prog 15 #[.agg #[.int .i64 (tw).kind, .string (tw).name, .slice za (tw).kids.length zc]] V fun e Y => e = .returned (.int .i64 3) ∧ Below V.heap.size V Y)
    {Q : Exit → Act → World → Prop} {ops : Array Oper} (hops : ops = mofOps) (x0 : Nat → Value) (X : World) (hS : OQ w b6 b7 b8 b9 b11 b13 ta tx ty tw wa xa ya za wc xc yc zc sa sc l sb sd k X.drew)
    (hfin : ∀ x V, OQ w b6 b7 b8 b9 b11 b13 ta tx ty tw wa xa ya za wc xc yc zc sa sc l sb sd k V → x 38 = .bool true → Q .normal (mofFr b d x) V) : (Code.region 14 ops true).wp Try.prog Q (mofFr b d x0) X := by
  have HC := Lib.hid (And.intro HC5 (And.intro HC25 (And.intro HC27 HC35)))
  clear HC5 HC25 HC27 HC35
  refine region_inv (mofFr b d) (fun V => OQ w b6 b7 b8 b9 b11 b13 ta tx ty tw wa xa ya za wc xc yc zc sa sc l sb sd k V) (fun V Y => Below V.heap.size V Y) (mofVals ta tx ty tw wa xa ya za sb wc xc yc zc sd k) x0 (by kernel_rfl) rfl hS (fun V Y h hb => h.below hb) (fun i v V Y _ h hb => mofVals_keep i v V Y h hb) ?_ (fun x V hV h => hfin x V hV (h 38 (by rw [hops, mof_size]; decide)))
  clear hfin hS
  obtain ⟨f, hf⟩ : ∃ qq, StepAt Try.prog (mofFr b d) (fun V => OQ w b6 b7 b8 b9 b11 b13 ta tx ty tw wa xa ya za wc xc yc zc sa sc l sb sd k V) (fun V Y => Below V.heap.size V Y) (mofVals ta tx ty tw wa xa ya za sb wc xc yc zc sd k) ops Q = qq := ⟨_, rfl⟩
  rw [hf, hops]
  simp only [mofOps, Try.f5, regionIn, Option.getD_some, Nat.reduceBEq, Bool.false_eq_true, if_false, if_true, beq_self_eq_true, Array.append_empty, Array.empty_append, List.append_eq, List.cons_append, List.nil_append, AllAt, Nat.reduceAdd, Nat.zero_add]
  -- 0: slot 64 := Op.move t5
  refine And.intro ?_ ?_
  · rw [← hf]; clear hf
    refine ⟨by decide +kernel, fun x v => by kernel_rfl, fun x V hV hdep K hK => ?_⟩
    clear hdep
    refine run_bare (by kernel_rfl) ?_
    unfold mofFr
    go_simp
    refine kfit (hK _ _ (Below.refl _ V) rfl) ?_
    first | (simp only [mofFr, Act.put, List.setIfInBounds_toArray, List.set_cons_zero, List.set_cons_succ, h5, h12, h14, h16, h6, h7, h8, h9, h11, h13]; done) | (simp only [mofFr, Act.put, List.setIfInBounds_toArray, List.set_cons_zero, List.set_cons_succ, h5, h12, h14, h16, h6, h7, h8, h9, h11, h13]; rfl)
  -- 1: slot 65 := Op.move t64
  refine And.intro ?_ ?_
  · rw [← hf]; clear hf
    refine ⟨by decide +kernel, fun x v => by kernel_rfl, fun x V hV hdep K hK => ?_⟩
    have e0 : x 0 = .bool true := depOf hdep 0 (by decide +kernel)
    clear hdep
    refine run_bare (by kernel_rfl) ?_
    unfold mofFr
    go_simp
    refine kfit (hK _ _ (Below.refl _ V) rfl) ?_
    first | (simp only [mofFr, Act.put, List.setIfInBounds_toArray, List.set_cons_zero, List.set_cons_succ, h5, h12, h14, h16, h6, h7, h8, h9, h11, h13, e0]; done) | (simp only [mofFr, Act.put, List.setIfInBounds_toArray, List.set_cons_zero, List.set_cons_succ, h5, h12, h14, h16, h6, h7, h8, h9, h11, h13, e0]; rfl)
  -- 2: slot 66 := Op.move t12
  refine And.intro ?_ ?_
  · rw [← hf]; clear hf
    refine ⟨by decide +kernel, fun x v => by kernel_rfl, fun x V hV hdep K hK => ?_⟩
    have e1 : x 1 = .bool true := depOf hdep 1 (by decide +kernel)
    clear hdep
    refine run_guard 1 65 (x 1) (by kernel_rfl) (by rw [hops]; exact mof_dst_1) (by kernel_rfl) e1 ?_; clear hops
    unfold mofFr
    go_simp
    refine kfit (hK _ _ (Below.refl _ V) rfl) ?_
    first | (simp only [mofFr, Act.put, List.setIfInBounds_toArray, List.set_cons_zero, List.set_cons_succ, h5, h12, h14, h16, h6, h7, h8, h9, h11, h13, e1]; done) | (simp only [mofFr, Act.put, List.setIfInBounds_toArray, List.set_cons_zero, List.set_cons_succ, h5, h12, h14, h16, h6, h7, h8, h9, h11, h13, e1]; rfl)
  -- 3: slot 67 := Op.load 26 t7
  refine And.intro ?_ ?_
  · rw [← hf]; clear hf
    refine ⟨by decide +kernel, fun x v => by kernel_rfl, fun x V hV hdep K hK => ?_⟩
    have e1 : x 1 = .bool true := depOf hdep 1 (by decide +kernel)
    clear hdep
    refine run_guard 1 65 (x 1) (by kernel_rfl) (by rw [hops]; exact mof_dst_1) (by kernel_rfl) e1 ?_; clear hops
    unfold mofFr
    obtain ⟨⟨y0, y1, y2⟩, ⟨y3, y4, y5⟩, ⟨y6, y7, y8⟩, ⟨y9, y10, y11⟩, y12, y13⟩ := OQ.cells hV
    go_simp
    refine kfit (hK _ _ (Below.refl _ V) rfl) ?_
    first | (simp only [mofFr, Act.put, List.setIfInBounds_toArray, List.set_cons_zero, List.set_cons_succ, h5, h12, h14, h16, h6, h7, h8, h9, h11, h13, e1]; done) | (simp only [mofFr, Act.put, List.setIfInBounds_toArray, List.set_cons_zero, List.set_cons_succ, h5, h12, h14, h16, h6, h7, h8, h9, h11, h13, e1]; rfl)
  -- 4: slot 68 := Op.load 26 t8
  refine And.intro ?_ ?_
  · rw [← hf]; clear hf
    refine ⟨by decide +kernel, fun x v => by kernel_rfl, fun x V hV hdep K hK => ?_⟩
    have e1 : x 1 = .bool true := depOf hdep 1 (by decide +kernel)
    clear hdep
    refine run_guard 1 65 (x 1) (by kernel_rfl) (by rw [hops]; exact mof_dst_1) (by kernel_rfl) e1 ?_; clear hops
    unfold mofFr
    obtain ⟨⟨y0, y1, y2⟩, ⟨y3, y4, y5⟩, ⟨y6, y7, y8⟩, ⟨y9, y10, y11⟩, y12, y13⟩ := OQ.cells hV
    go_simp
    refine kfit (hK _ _ (Below.refl _ V) rfl) ?_
    first | (simp only [mofFr, Act.put, List.setIfInBounds_toArray, List.set_cons_zero, List.set_cons_succ, h5, h12, h14, h16, h6, h7, h8, h9, h11, h13, e1]; done) | (simp only [mofFr, Act.put, List.setIfInBounds_toArray, List.set_cons_zero, List.set_cons_succ, h5, h12, h14, h16, h6, h7, h8, h9, h11, h13, e1]; rfl)
  -- 5: slot 69 := Op.call { value (Operand.func 11), args := #[t67, t68], argT
  refine And.intro ?_ ?_
  · rw [← hf]; clear hf
    refine ⟨by decide +kernel, fun x v => by kernel_rfl, fun x V hV hdep K hK => ?_⟩
    have e1 : x 1 = .bool true := depOf hdep 1 (by decide +kernel)
    have e3 : x 3 = .agg #[.int .i64 (tx).kind, .string (tx).name, .slice xa (tx).kids.length xc] := depOf hdep 3 (by decide +kernel)
    have e4 : x 4 = .agg #[.int .i64 (ty).kind, .string (ty).name, .slice ya (ty).kids.length yc] := depOf hdep 4 (by decide +kernel)
    clear hdep
    refine run_guard 1 65 (x 1) (by kernel_rfl) (by rw [hops]; exact mof_dst_1) (by kernel_rfl) e1 ?_; clear hops
    unfold mofFr
    obtain ⟨HC5, HC25, HC27, HC35⟩ := HC.out
    clear HC25 HC27 HC35
    have H := HC5 V hV
    replace H := Lib.hid H; clear HC5
    go_simp
    go_at_call 11
    refine H.out.mono ?_
    rintro e Y ⟨rfl, hb⟩; refine kfit (hK _ _ hb rfl) ?_
    first | (simp only [mofFr, Act.put, List.setIfInBounds_toArray, List.set_cons_zero, List.set_cons_succ, h5, h12, h14, h16, h6, h7, h8, h9, h11, h13, e1, e3, e4]; done) | (simp only [mofFr, Act.put, List.setIfInBounds_toArray, List.set_cons_zero, List.set_cons_succ, h5, h12, h14, h16, h6, h7, h8, h9, h11, h13, e1, e3, e4]; rfl)
  -- 6: slot 70 := Op.binOp BinOp.eql 4 t66 t69 4
  refine And.intro ?_ ?_
  · rw [← hf]; clear hf
    refine ⟨by decide +kernel, fun x v => by kernel_rfl, fun x V hV hdep K hK => ?_⟩
    have e1 : x 1 = .bool true := depOf hdep 1 (by decide +kernel)
    have e2 : x 2 = .bool false := depOf hdep 2 (by decide +kernel)
    have e5 : x 5 = .bool false := depOf hdep 5 (by decide +kernel)
    clear hdep
    refine run_guard 1 65 (x 1) (by kernel_rfl) (by rw [hops]; exact mof_dst_1) (by kernel_rfl) e1 ?_; clear hops
    unfold mofFr
    go_simp
    refine kfit (hK _ _ (Below.refl _ V) rfl) ?_
    first | (simp only [mofFr, Act.put, List.setIfInBounds_toArray, List.set_cons_zero, List.set_cons_succ, h5, h12, h14, h16, h6, h7, h8, h9, h11, h13, e1, e2, e5]; done) | (simp only [mofFr, Act.put, List.setIfInBounds_toArray, List.set_cons_zero, List.set_cons_succ, h5, h12, h14, h16, h6, h7, h8, h9, h11, h13, e1, e2, e5]; rfl)
  -- 7: slot 71 := Op.pick t65 t70 (const (Value.bool false))
  refine And.intro ?_ ?_
  · rw [← hf]; clear hf
    refine ⟨by decide +kernel, fun x v => by kernel_rfl, fun x V hV hdep K hK => ?_⟩
    have e1 : x 1 = .bool true := depOf hdep 1 (by decide +kernel)
    have e6 : x 6 = .bool true := depOf hdep 6 (by decide +kernel)
    clear hdep
    refine run_bare (by kernel_rfl) ?_
    unfold mofFr
    go_simp
    refine kfit (hK _ _ (Below.refl _ V) rfl) ?_
    first | (simp only [mofFr, Act.put, List.setIfInBounds_toArray, List.set_cons_zero, List.set_cons_succ, h5, h12, h14, h16, h6, h7, h8, h9, h11, h13, e1, e6]; done) | (simp only [mofFr, Act.put, List.setIfInBounds_toArray, List.set_cons_zero, List.set_cons_succ, h5, h12, h14, h16, h6, h7, h8, h9, h11, h13, e1, e6]; rfl)
  -- 8: slot 72 := Op.move t71
  refine And.intro ?_ ?_
  · rw [← hf]; clear hf
    refine ⟨by decide +kernel, fun x v => by kernel_rfl, fun x V hV hdep K hK => ?_⟩
    have e7 : x 7 = .bool true := depOf hdep 7 (by decide +kernel)
    clear hdep
    refine run_bare (by kernel_rfl) ?_
    unfold mofFr
    go_simp
    refine kfit (hK _ _ (Below.refl _ V) rfl) ?_
    first | (simp only [mofFr, Act.put, List.setIfInBounds_toArray, List.set_cons_zero, List.set_cons_succ, h5, h12, h14, h16, h6, h7, h8, h9, h11, h13, e7]; done) | (simp only [mofFr, Act.put, List.setIfInBounds_toArray, List.set_cons_zero, List.set_cons_succ, h5, h12, h14, h16, h6, h7, h8, h9, h11, h13, e7]; rfl)
  -- 9: slot 73 := Op.move t12
  refine And.intro ?_ ?_
  · rw [← hf]; clear hf
    refine ⟨by decide +kernel, fun x v => by kernel_rfl, fun x V hV hdep K hK => ?_⟩
    have e8 : x 8 = .bool true := depOf hdep 8 (by decide +kernel)
    clear hdep
    refine run_guard 8 72 (x 8) (by kernel_rfl) (by rw [hops]; exact mof_dst_8) (by kernel_rfl) e8 ?_; clear hops
    unfold mofFr
    go_simp
    refine kfit (hK _ _ (Below.refl _ V) rfl) ?_
    first | (simp only [mofFr, Act.put, List.setIfInBounds_toArray, List.set_cons_zero, List.set_cons_succ, h5, h12, h14, h16, h6, h7, h8, h9, h11, h13, e8]; done) | (simp only [mofFr, Act.put, List.setIfInBounds_toArray, List.set_cons_zero, List.set_cons_succ, h5, h12, h14, h16, h6, h7, h8, h9, h11, h13, e8]; rfl)
  -- 10: slot 74 := Op.unOp UnOp.not 4 t73
  refine And.intro ?_ ?_
  · rw [← hf]; clear hf
    refine ⟨by decide +kernel, fun x v => by kernel_rfl, fun x V hV hdep K hK => ?_⟩
    have e8 : x 8 = .bool true := depOf hdep 8 (by decide +kernel)
    have e9 : x 9 = .bool false := depOf hdep 9 (by decide +kernel)
    clear hdep
    refine run_guard 8 72 (x 8) (by kernel_rfl) (by rw [hops]; exact mof_dst_8) (by kernel_rfl) e8 ?_; clear hops
    unfold mofFr
    go_simp
    refine kfit (hK _ _ (Below.refl _ V) rfl) ?_
    first | (simp only [mofFr, Act.put, List.setIfInBounds_toArray, List.set_cons_zero, List.set_cons_succ, h5, h12, h14, h16, h6, h7, h8, h9, h11, h13, e8, e9]; done) | (simp only [mofFr, Act.put, List.setIfInBounds_toArray, List.set_cons_zero, List.set_cons_succ, h5, h12, h14, h16, h6, h7, h8, h9, h11, h13, e8, e9]; rfl)
  -- 11: slot 75 := Op.move t74
  refine And.intro ?_ ?_
  · rw [← hf]; clear hf
    refine ⟨by decide +kernel, fun x v => by kernel_rfl, fun x V hV hdep K hK => ?_⟩
    have e8 : x 8 = .bool true := depOf hdep 8 (by decide +kernel)
    have e10 : x 10 = .bool true := depOf hdep 10 (by decide +kernel)
    clear hdep
    refine run_guard 8 72 (x 8) (by kernel_rfl) (by rw [hops]; exact mof_dst_8) (by kernel_rfl) e8 ?_; clear hops
    unfold mofFr
    go_simp
    refine kfit (hK _ _ (Below.refl _ V) rfl) ?_
    first | (simp only [mofFr, Act.put, List.setIfInBounds_toArray, List.set_cons_zero, List.set_cons_succ, h5, h12, h14, h16, h6, h7, h8, h9, h11, h13, e8, e10]; done) | (simp only [mofFr, Act.put, List.setIfInBounds_toArray, List.set_cons_zero, List.set_cons_succ, h5, h12, h14, h16, h6, h7, h8, h9, h11, h13, e8, e10]; rfl)
  -- 12: slot 76 := Op.load 33 t11
  refine And.intro ?_ ?_
  · rw [← hf]; clear hf
    refine ⟨by decide +kernel, fun x v => by kernel_rfl, fun x V hV hdep K hK => ?_⟩
    have e11 : x 11 = .bool true := depOf hdep 11 (by decide +kernel)
    clear hdep
    refine run_skipF 11 75 (x 11) (by kernel_rfl) (by rw [hops]; exact mof_dst_11) (by kernel_rfl) e11 ?_; clear hops
    exact hK _ _ (Below.refl _ V) ⟨_, rfl, trivial⟩
  -- 13: slot 77 := Op.load 26 t6
  refine And.intro ?_ ?_
  · rw [← hf]; clear hf
    refine ⟨by decide +kernel, fun x v => by kernel_rfl, fun x V hV hdep K hK => ?_⟩
    have e11 : x 11 = .bool true := depOf hdep 11 (by decide +kernel)
    clear hdep
    refine run_skipF 11 75 (x 11) (by kernel_rfl) (by rw [hops]; exact mof_dst_11) (by kernel_rfl) e11 ?_; clear hops
    exact hK _ _ (Below.refl _ V) ⟨_, rfl, trivial⟩
  -- 14: slot 78 := Op.call { value (Operand.func 12), args := #[t76, t77], argT
  refine And.intro ?_ ?_
  · rw [← hf]; clear hf
    refine ⟨by decide +kernel, fun x v => by kernel_rfl, fun x V hV hdep K hK => ?_⟩
    have e11 : x 11 = .bool true := depOf hdep 11 (by decide +kernel)
    obtain ⟨zu12, e12, d12⟩ : ∃ zu12, x 12 = zu12 ∧ True := depOf hdep 12 (by decide +kernel)
    obtain ⟨zu13, e13, d13⟩ : ∃ zu13, x 13 = zu13 ∧ True := depOf hdep 13 (by decide +kernel)
    clear hdep
    refine run_skipF 11 75 (x 11) (by kernel_rfl) (by rw [hops]; exact mof_dst_11) (by kernel_rfl) e11 ?_; clear hops
    exact hK _ _ (Below.refl _ V) ⟨_, rfl, trivial⟩
  -- 15: slot 79 := Op.load 26 t7
  refine And.intro ?_ ?_
  · rw [← hf]; clear hf
    refine ⟨by decide +kernel, fun x v => by kernel_rfl, fun x V hV hdep K hK => ?_⟩
    have e11 : x 11 = .bool true := depOf hdep 11 (by decide +kernel)
    clear hdep
    refine run_skipF 11 75 (x 11) (by kernel_rfl) (by rw [hops]; exact mof_dst_11) (by kernel_rfl) e11 ?_; clear hops
    exact hK _ _ (Below.refl _ V) ⟨_, rfl, trivial⟩
  -- 16: slot 80 := Op.call { value (Operand.func 11), args := #[t78, t79], argT
  refine And.intro ?_ ?_
  · rw [← hf]; clear hf
    refine ⟨by decide +kernel, fun x v => by kernel_rfl, fun x V hV hdep K hK => ?_⟩
    have e11 : x 11 = .bool true := depOf hdep 11 (by decide +kernel)
    obtain ⟨zu14, e14, d14⟩ : ∃ zu14, x 14 = zu14 ∧ True := depOf hdep 14 (by decide +kernel)
    obtain ⟨zu15, e15, d15⟩ : ∃ zu15, x 15 = zu15 ∧ True := depOf hdep 15 (by decide +kernel)
    clear hdep
    refine run_skipF 11 75 (x 11) (by kernel_rfl) (by rw [hops]; exact mof_dst_11) (by kernel_rfl) e11 ?_; clear hops
    exact hK _ _ (Below.refl _ V) ⟨_, rfl, trivial⟩
  -- 17: slot 81 := Op.pick t75 (const (Value.bool true)) t80
  refine And.intro ?_ ?_
  · rw [← hf]; clear hf
    refine ⟨by decide +kernel, fun x v => by kernel_rfl, fun x V hV hdep K hK => ?_⟩
    have e8 : x 8 = .bool true := depOf hdep 8 (by decide +kernel)
    have e11 : x 11 = .bool true := depOf hdep 11 (by decide +kernel)
    obtain ⟨zu16, e16, d16⟩ : ∃ zu16, x 16 = zu16 ∧ True := depOf hdep 16 (by decide +kernel)
    clear hdep
    refine run_guard 8 72 (x 8) (by kernel_rfl) (by rw [hops]; exact mof_dst_8) (by kernel_rfl) e8 ?_; clear hops
    unfold mofFr
    go_simp
    refine kfit (hK _ _ (Below.refl _ V) rfl) ?_
    first | (simp only [mofFr, Act.put, List.setIfInBounds_toArray, List.set_cons_zero, List.set_cons_succ, h5, h12, h14, h16, h6, h7, h8, h9, h11, h13, e8, e11, e16]; done) | (simp only [mofFr, Act.put, List.setIfInBounds_toArray, List.set_cons_zero, List.set_cons_succ, h5, h12, h14, h16, h6, h7, h8, h9, h11, h13, e8, e11, e16]; rfl)
  -- 18: slot 82 := Op.pick t72 t81 (const (Value.bool false))
  refine And.intro ?_ ?_
  · rw [← hf]; clear hf
    refine ⟨by decide +kernel, fun x v => by kernel_rfl, fun x V hV hdep K hK => ?_⟩
    have e8 : x 8 = .bool true := depOf hdep 8 (by decide +kernel)
    have e17 : x 17 = .bool true := depOf hdep 17 (by decide +kernel)
    clear hdep
    refine run_bare (by kernel_rfl) ?_
    unfold mofFr
    go_simp
    refine kfit (hK _ _ (Below.refl _ V) rfl) ?_
    first | (simp only [mofFr, Act.put, List.setIfInBounds_toArray, List.set_cons_zero, List.set_cons_succ, h5, h12, h14, h16, h6, h7, h8, h9, h11, h13, e8, e17]; done) | (simp only [mofFr, Act.put, List.setIfInBounds_toArray, List.set_cons_zero, List.set_cons_succ, h5, h12, h14, h16, h6, h7, h8, h9, h11, h13, e8, e17]; rfl)
  -- 19: slot 83 := Op.move t82
  refine And.intro ?_ ?_
  · rw [← hf]; clear hf
    refine ⟨by decide +kernel, fun x v => by kernel_rfl, fun x V hV hdep K hK => ?_⟩
    have e18 : x 18 = .bool true := depOf hdep 18 (by decide +kernel)
    clear hdep
    refine run_bare (by kernel_rfl) ?_
    unfold mofFr
    go_simp
    refine kfit (hK _ _ (Below.refl _ V) rfl) ?_
    first | (simp only [mofFr, Act.put, List.setIfInBounds_toArray, List.set_cons_zero, List.set_cons_succ, h5, h12, h14, h16, h6, h7, h8, h9, h11, h13, e18]; done) | (simp only [mofFr, Act.put, List.setIfInBounds_toArray, List.set_cons_zero, List.set_cons_succ, h5, h12, h14, h16, h6, h7, h8, h9, h11, h13, e18]; rfl)
  -- 20: slot 84 := Op.move t14
  refine And.intro ?_ ?_
  · rw [← hf]; clear hf
    refine ⟨by decide +kernel, fun x v => by kernel_rfl, fun x V hV hdep K hK => ?_⟩
    have e19 : x 19 = .bool true := depOf hdep 19 (by decide +kernel)
    clear hdep
    refine run_guard 19 83 (x 19) (by kernel_rfl) (by rw [hops]; exact mof_dst_19) (by kernel_rfl) e19 ?_; clear hops
    unfold mofFr
    go_simp
    refine kfit (hK _ _ (Below.refl _ V) rfl) ?_
    first | (simp only [mofFr, Act.put, List.setIfInBounds_toArray, List.set_cons_zero, List.set_cons_succ, h5, h12, h14, h16, h6, h7, h8, h9, h11, h13, e19]; done) | (simp only [mofFr, Act.put, List.setIfInBounds_toArray, List.set_cons_zero, List.set_cons_succ, h5, h12, h14, h16, h6, h7, h8, h9, h11, h13, e19]; rfl)
  -- 21: slot 85 := Op.pick t83 t84 (const (Value.bool false))
  refine And.intro ?_ ?_
  · rw [← hf]; clear hf
    refine ⟨by decide +kernel, fun x v => by kernel_rfl, fun x V hV hdep K hK => ?_⟩
    have e19 : x 19 = .bool true := depOf hdep 19 (by decide +kernel)
    have e20 : x 20 = .bool true := depOf hdep 20 (by decide +kernel)
    clear hdep
    refine run_bare (by kernel_rfl) ?_
    unfold mofFr
    go_simp
    refine kfit (hK _ _ (Below.refl _ V) rfl) ?_
    first | (simp only [mofFr, Act.put, List.setIfInBounds_toArray, List.set_cons_zero, List.set_cons_succ, h5, h12, h14, h16, h6, h7, h8, h9, h11, h13, e19, e20]; done) | (simp only [mofFr, Act.put, List.setIfInBounds_toArray, List.set_cons_zero, List.set_cons_succ, h5, h12, h14, h16, h6, h7, h8, h9, h11, h13, e19, e20]; rfl)
  -- 22: slot 86 := Op.move t85
  refine And.intro ?_ ?_
  · rw [← hf]; clear hf
    refine ⟨by decide +kernel, fun x v => by kernel_rfl, fun x V hV hdep K hK => ?_⟩
    have e21 : x 21 = .bool true := depOf hdep 21 (by decide +kernel)
    clear hdep
    refine run_bare (by kernel_rfl) ?_
    unfold mofFr
    go_simp
    refine kfit (hK _ _ (Below.refl _ V) rfl) ?_
    first | (simp only [mofFr, Act.put, List.setIfInBounds_toArray, List.set_cons_zero, List.set_cons_succ, h5, h12, h14, h16, h6, h7, h8, h9, h11, h13, e21]; done) | (simp only [mofFr, Act.put, List.setIfInBounds_toArray, List.set_cons_zero, List.set_cons_succ, h5, h12, h14, h16, h6, h7, h8, h9, h11, h13, e21]; rfl)
  -- 23: slot 87 := Op.load 33 t13
  refine And.intro ?_ ?_
  · rw [← hf]; clear hf
    refine ⟨by decide +kernel, fun x v => by kernel_rfl, fun x V hV hdep K hK => ?_⟩
    have e22 : x 22 = .bool true := depOf hdep 22 (by decide +kernel)
    clear hdep
    refine run_guard 22 86 (x 22) (by kernel_rfl) (by rw [hops]; exact mof_dst_22) (by kernel_rfl) e22 ?_; clear hops
    unfold mofFr
    obtain ⟨⟨y0, y1, y2⟩, ⟨y3, y4, y5⟩, ⟨y6, y7, y8⟩, ⟨y9, y10, y11⟩, y12, y13⟩ := OQ.cells hV
    go_simp
    refine kfit (hK _ _ (Below.refl _ V) rfl) ?_
    first | (simp only [mofFr, Act.put, List.setIfInBounds_toArray, List.set_cons_zero, List.set_cons_succ, h5, h12, h14, h16, h6, h7, h8, h9, h11, h13, e22]; done) | (simp only [mofFr, Act.put, List.setIfInBounds_toArray, List.set_cons_zero, List.set_cons_succ, h5, h12, h14, h16, h6, h7, h8, h9, h11, h13, e22]; rfl)
  -- 24: slot 88 := Op.load 26 t6
  refine And.intro ?_ ?_
  · rw [← hf]; clear hf
    refine ⟨by decide +kernel, fun x v => by kernel_rfl, fun x V hV hdep K hK => ?_⟩
    have e22 : x 22 = .bool true := depOf hdep 22 (by decide +kernel)
    clear hdep
    refine run_guard 22 86 (x 22) (by kernel_rfl) (by rw [hops]; exact mof_dst_22) (by kernel_rfl) e22 ?_; clear hops
    unfold mofFr
    obtain ⟨⟨y0, y1, y2⟩, ⟨y3, y4, y5⟩, ⟨y6, y7, y8⟩, ⟨y9, y10, y11⟩, y12, y13⟩ := OQ.cells hV
    go_simp
    refine kfit (hK _ _ (Below.refl _ V) rfl) ?_
    first | (simp only [mofFr, Act.put, List.setIfInBounds_toArray, List.set_cons_zero, List.set_cons_succ, h5, h12, h14, h16, h6, h7, h8, h9, h11, h13, e22]; done) | (simp only [mofFr, Act.put, List.setIfInBounds_toArray, List.set_cons_zero, List.set_cons_succ, h5, h12, h14, h16, h6, h7, h8, h9, h11, h13, e22]; rfl)
  -- 25: slot 89 := Op.call { value (Operand.func 12), args := #[t87, t88], argT
  refine And.intro ?_ ?_
  · rw [← hf]; clear hf
    refine ⟨by decide +kernel, fun x v => by kernel_rfl, fun x V hV hdep K hK => ?_⟩
    have e22 : x 22 = .bool true := depOf hdep 22 (by decide +kernel)
    have e23 : x 23 = .agg #[.slice sb k.length sd] := depOf hdep 23 (by decide +kernel)
    have e24 : x 24 = .agg #[.int .i64 (ta).kind, .string (ta).name, .slice wa (ta).kids.length wc] := depOf hdep 24 (by decide +kernel)
    clear hdep
    refine run_guard 22 86 (x 22) (by kernel_rfl) (by rw [hops]; exact mof_dst_22) (by kernel_rfl) e22 ?_; clear hops
    unfold mofFr
    obtain ⟨HC5, HC25, HC27, HC35⟩ := HC.out
    clear HC5 HC27 HC35
    have H := HC25 V hV
    replace H := Lib.hid H; clear HC25
    go_simp
    go_at_call 12
    refine H.out.mono ?_
    rintro e Y ⟨⟨zu, zv, rfl, hq⟩, hb⟩; refine kfit (hK _ _ hb ⟨zu, zv, rfl, hq⟩) ?_
    first | (simp only [mofFr, Act.put, List.setIfInBounds_toArray, List.set_cons_zero, List.set_cons_succ, h5, h12, h14, h16, h6, h7, h8, h9, h11, h13, e22, e23, e24]; done) | (simp only [mofFr, Act.put, List.setIfInBounds_toArray, List.set_cons_zero, List.set_cons_succ, h5, h12, h14, h16, h6, h7, h8, h9, h11, h13, e22, e23, e24]; rfl)
  -- 26: slot 90 := Op.load 26 t7
  refine And.intro ?_ ?_
  · rw [← hf]; clear hf
    refine ⟨by decide +kernel, fun x v => by kernel_rfl, fun x V hV hdep K hK => ?_⟩
    have e22 : x 22 = .bool true := depOf hdep 22 (by decide +kernel)
    clear hdep
    refine run_guard 22 86 (x 22) (by kernel_rfl) (by rw [hops]; exact mof_dst_22) (by kernel_rfl) e22 ?_; clear hops
    unfold mofFr
    obtain ⟨⟨y0, y1, y2⟩, ⟨y3, y4, y5⟩, ⟨y6, y7, y8⟩, ⟨y9, y10, y11⟩, y12, y13⟩ := OQ.cells hV
    go_simp
    refine kfit (hK _ _ (Below.refl _ V) rfl) ?_
    first | (simp only [mofFr, Act.put, List.setIfInBounds_toArray, List.set_cons_zero, List.set_cons_succ, h5, h12, h14, h16, h6, h7, h8, h9, h11, h13, e22]; done) | (simp only [mofFr, Act.put, List.setIfInBounds_toArray, List.set_cons_zero, List.set_cons_succ, h5, h12, h14, h16, h6, h7, h8, h9, h11, h13, e22]; rfl)
  -- 27: slot 91 := Op.call { value (Operand.func 11), args := #[t89, t90], argT
  refine And.intro ?_ ?_
  · rw [← hf]; clear hf
    refine ⟨by decide +kernel, fun x v => by kernel_rfl, fun x V hV hdep K hK => ?_⟩
    have e22 : x 22 = .bool true := depOf hdep 22 (by decide +kernel)
    obtain ⟨zu25, zv25, e25, d25⟩ : ∃ zu25 zv25, x 25 = .agg #[.int .i64 (tx).kind, .string (tx).name, .slice zu25 (tx).kids.length zv25] ∧ TysAt V (.slice zu25 (tx).kids.length zv25) (tx).kids := depOf hdep 25 (by decide +kernel)
    have e26 : x 26 = .agg #[.int .i64 (tx).kind, .string (tx).name, .slice xa (tx).kids.length xc] := depOf hdep 26 (by decide +kernel)
    clear hdep
    refine run_guard 22 86 (x 22) (by kernel_rfl) (by rw [hops]; exact mof_dst_22) (by kernel_rfl) e22 ?_; clear hops
    unfold mofFr
    obtain ⟨HC5, HC25, HC27, HC35⟩ := HC.out
    clear HC5 HC25 HC35
    have H := HC27 V hV _ _ d25
    replace H := Lib.hid H; clear HC27
    go_simp
    go_at_call 11
    refine H.out.mono ?_
    rintro e Y ⟨rfl, hb⟩; refine kfit (hK _ _ hb rfl) ?_
    first | (simp only [mofFr, Act.put, List.setIfInBounds_toArray, List.set_cons_zero, List.set_cons_succ, h5, h12, h14, h16, h6, h7, h8, h9, h11, h13, e22, e25, e26]; done) | (simp only [mofFr, Act.put, List.setIfInBounds_toArray, List.set_cons_zero, List.set_cons_succ, h5, h12, h14, h16, h6, h7, h8, h9, h11, h13, e22, e25, e26]; rfl)
  -- 28: slot 92 := Op.pick t86 t91 (const (Value.bool false))
  refine And.intro ?_ ?_
  · rw [← hf]; clear hf
    refine ⟨by decide +kernel, fun x v => by kernel_rfl, fun x V hV hdep K hK => ?_⟩
    have e22 : x 22 = .bool true := depOf hdep 22 (by decide +kernel)
    have e27 : x 27 = .bool true := depOf hdep 27 (by decide +kernel)
    clear hdep
    refine run_bare (by kernel_rfl) ?_
    unfold mofFr
    go_simp
    refine kfit (hK _ _ (Below.refl _ V) rfl) ?_
    first | (simp only [mofFr, Act.put, List.setIfInBounds_toArray, List.set_cons_zero, List.set_cons_succ, h5, h12, h14, h16, h6, h7, h8, h9, h11, h13, e22, e27]; done) | (simp only [mofFr, Act.put, List.setIfInBounds_toArray, List.set_cons_zero, List.set_cons_succ, h5, h12, h14, h16, h6, h7, h8, h9, h11, h13, e22, e27]; rfl)
  -- 29: slot 93 := Op.move t92
  refine And.intro ?_ ?_
  · rw [← hf]; clear hf
    refine ⟨by decide +kernel, fun x v => by kernel_rfl, fun x V hV hdep K hK => ?_⟩
    have e28 : x 28 = .bool true := depOf hdep 28 (by decide +kernel)
    clear hdep
    refine run_bare (by kernel_rfl) ?_
    unfold mofFr
    go_simp
    refine kfit (hK _ _ (Below.refl _ V) rfl) ?_
    first | (simp only [mofFr, Act.put, List.setIfInBounds_toArray, List.set_cons_zero, List.set_cons_succ, h5, h12, h14, h16, h6, h7, h8, h9, h11, h13, e28]; done) | (simp only [mofFr, Act.put, List.setIfInBounds_toArray, List.set_cons_zero, List.set_cons_succ, h5, h12, h14, h16, h6, h7, h8, h9, h11, h13, e28]; rfl)
  -- 30: slot 94 := Op.move t16
  refine And.intro ?_ ?_
  · rw [← hf]; clear hf
    refine ⟨by decide +kernel, fun x v => by kernel_rfl, fun x V hV hdep K hK => ?_⟩
    have e29 : x 29 = .bool true := depOf hdep 29 (by decide +kernel)
    clear hdep
    refine run_guard 29 93 (x 29) (by kernel_rfl) (by rw [hops]; exact mof_dst_29) (by kernel_rfl) e29 ?_; clear hops
    unfold mofFr
    go_simp
    refine kfit (hK _ _ (Below.refl _ V) rfl) ?_
    first | (simp only [mofFr, Act.put, List.setIfInBounds_toArray, List.set_cons_zero, List.set_cons_succ, h5, h12, h14, h16, h6, h7, h8, h9, h11, h13, e29]; done) | (simp only [mofFr, Act.put, List.setIfInBounds_toArray, List.set_cons_zero, List.set_cons_succ, h5, h12, h14, h16, h6, h7, h8, h9, h11, h13, e29]; rfl)
  -- 31: slot 95 := Op.unOp UnOp.not 4 t94
  refine And.intro ?_ ?_
  · rw [← hf]; clear hf
    refine ⟨by decide +kernel, fun x v => by kernel_rfl, fun x V hV hdep K hK => ?_⟩
    have e29 : x 29 = .bool true := depOf hdep 29 (by decide +kernel)
    have e30 : x 30 = .bool false := depOf hdep 30 (by decide +kernel)
    clear hdep
    refine run_guard 29 93 (x 29) (by kernel_rfl) (by rw [hops]; exact mof_dst_29) (by kernel_rfl) e29 ?_; clear hops
    unfold mofFr
    go_simp
    refine kfit (hK _ _ (Below.refl _ V) rfl) ?_
    first | (simp only [mofFr, Act.put, List.setIfInBounds_toArray, List.set_cons_zero, List.set_cons_succ, h5, h12, h14, h16, h6, h7, h8, h9, h11, h13, e29, e30]; done) | (simp only [mofFr, Act.put, List.setIfInBounds_toArray, List.set_cons_zero, List.set_cons_succ, h5, h12, h14, h16, h6, h7, h8, h9, h11, h13, e29, e30]; rfl)
  -- 32: slot 96 := Op.pick t93 t95 (const (Value.bool false))
  refine And.intro ?_ ?_
  · rw [← hf]; clear hf
    refine ⟨by decide +kernel, fun x v => by kernel_rfl, fun x V hV hdep K hK => ?_⟩
    have e29 : x 29 = .bool true := depOf hdep 29 (by decide +kernel)
    have e31 : x 31 = .bool true := depOf hdep 31 (by decide +kernel)
    clear hdep
    refine run_bare (by kernel_rfl) ?_
    unfold mofFr
    go_simp
    refine kfit (hK _ _ (Below.refl _ V) rfl) ?_
    first | (simp only [mofFr, Act.put, List.setIfInBounds_toArray, List.set_cons_zero, List.set_cons_succ, h5, h12, h14, h16, h6, h7, h8, h9, h11, h13, e29, e31]; done) | (simp only [mofFr, Act.put, List.setIfInBounds_toArray, List.set_cons_zero, List.set_cons_succ, h5, h12, h14, h16, h6, h7, h8, h9, h11, h13, e29, e31]; rfl)
  -- 33: slot 97 := Op.move t96
  refine And.intro ?_ ?_
  · rw [← hf]; clear hf
    refine ⟨by decide +kernel, fun x v => by kernel_rfl, fun x V hV hdep K hK => ?_⟩
    have e32 : x 32 = .bool true := depOf hdep 32 (by decide +kernel)
    clear hdep
    refine run_bare (by kernel_rfl) ?_
    unfold mofFr
    go_simp
    refine kfit (hK _ _ (Below.refl _ V) rfl) ?_
    first | (simp only [mofFr, Act.put, List.setIfInBounds_toArray, List.set_cons_zero, List.set_cons_succ, h5, h12, h14, h16, h6, h7, h8, h9, h11, h13, e32]; done) | (simp only [mofFr, Act.put, List.setIfInBounds_toArray, List.set_cons_zero, List.set_cons_succ, h5, h12, h14, h16, h6, h7, h8, h9, h11, h13, e32]; rfl)
  -- 34: slot 98 := Op.load 26 t9
  refine And.intro ?_ ?_
  · rw [← hf]; clear hf
    refine ⟨by decide +kernel, fun x v => by kernel_rfl, fun x V hV hdep K hK => ?_⟩
    have e33 : x 33 = .bool true := depOf hdep 33 (by decide +kernel)
    clear hdep
    refine run_guard 33 97 (x 33) (by kernel_rfl) (by rw [hops]; exact mof_dst_33) (by kernel_rfl) e33 ?_; clear hops
    unfold mofFr
    obtain ⟨⟨y0, y1, y2⟩, ⟨y3, y4, y5⟩, ⟨y6, y7, y8⟩, ⟨y9, y10, y11⟩, y12, y13⟩ := OQ.cells hV
    go_simp
    refine kfit (hK _ _ (Below.refl _ V) rfl) ?_
    first | (simp only [mofFr, Act.put, List.setIfInBounds_toArray, List.set_cons_zero, List.set_cons_succ, h5, h12, h14, h16, h6, h7, h8, h9, h11, h13, e33]; done) | (simp only [mofFr, Act.put, List.setIfInBounds_toArray, List.set_cons_zero, List.set_cons_succ, h5, h12, h14, h16, h6, h7, h8, h9, h11, h13, e33]; rfl)
  -- 35: slot 99 := Op.call { value (Operand.func 15), args := #[t98], argTypes 
  refine And.intro ?_ ?_
  · rw [← hf]; clear hf
    refine ⟨by decide +kernel, fun x v => by kernel_rfl, fun x V hV hdep K hK => ?_⟩
    have e33 : x 33 = .bool true := depOf hdep 33 (by decide +kernel)
    have e34 : x 34 = .agg #[.int .i64 (tw).kind, .string (tw).name, .slice za (tw).kids.length zc] := depOf hdep 34 (by decide +kernel)
    clear hdep
    refine run_guard 33 97 (x 33) (by kernel_rfl) (by rw [hops]; exact mof_dst_33) (by kernel_rfl) e33 ?_; clear hops
    unfold mofFr
    obtain ⟨HC5, HC25, HC27, HC35⟩ := HC.out
    clear HC5 HC25 HC27
    have H := HC35 V hV
    replace H := Lib.hid H; clear HC35
    go_simp
    go_at_call 15
    refine H.out.mono ?_
    rintro e Y ⟨rfl, hb⟩; refine kfit (hK _ _ hb rfl) ?_
    first | (simp only [mofFr, Act.put, List.setIfInBounds_toArray, List.set_cons_zero, List.set_cons_succ, h5, h12, h14, h16, h6, h7, h8, h9, h11, h13, e33, e34]; done) | (simp only [mofFr, Act.put, List.setIfInBounds_toArray, List.set_cons_zero, List.set_cons_succ, h5, h12, h14, h16, h6, h7, h8, h9, h11, h13, e33, e34]; rfl)
  -- 36: slot 100 := Op.binOp BinOp.eql 3 t99 (const (3:i64)) 3
  refine And.intro ?_ ?_
  · rw [← hf]; clear hf
    refine ⟨by decide +kernel, fun x v => by kernel_rfl, fun x V hV hdep K hK => ?_⟩
    have e33 : x 33 = .bool true := depOf hdep 33 (by decide +kernel)
    have e35 : x 35 = .int .i64 3 := depOf hdep 35 (by decide +kernel)
    clear hdep
    refine run_guard 33 97 (x 33) (by kernel_rfl) (by rw [hops]; exact mof_dst_33) (by kernel_rfl) e33 ?_; clear hops
    unfold mofFr
    go_simp
    refine kfit (hK _ _ (Below.refl _ V) rfl) ?_
    first | (simp only [mofFr, Act.put, List.setIfInBounds_toArray, List.set_cons_zero, List.set_cons_succ, h5, h12, h14, h16, h6, h7, h8, h9, h11, h13, e33, e35]; done) | (simp only [mofFr, Act.put, List.setIfInBounds_toArray, List.set_cons_zero, List.set_cons_succ, h5, h12, h14, h16, h6, h7, h8, h9, h11, h13, e33, e35]; rfl)
  -- 37: slot 101 := Op.pick t97 t100 (const (Value.bool false))
  refine And.intro ?_ ?_
  · rw [← hf]; clear hf
    refine ⟨by decide +kernel, fun x v => by kernel_rfl, fun x V hV hdep K hK => ?_⟩
    have e33 : x 33 = .bool true := depOf hdep 33 (by decide +kernel)
    have e36 : x 36 = .bool true := depOf hdep 36 (by decide +kernel)
    clear hdep
    refine run_bare (by kernel_rfl) ?_
    unfold mofFr
    go_simp
    refine kfit (hK _ _ (Below.refl _ V) rfl) ?_
    first | (simp only [mofFr, Act.put, List.setIfInBounds_toArray, List.set_cons_zero, List.set_cons_succ, h5, h12, h14, h16, h6, h7, h8, h9, h11, h13, e33, e36]; done) | (simp only [mofFr, Act.put, List.setIfInBounds_toArray, List.set_cons_zero, List.set_cons_succ, h5, h12, h14, h16, h6, h7, h8, h9, h11, h13, e33, e36]; rfl)
  -- 38: slot 4 := Op.assign t101
  refine And.intro ?_ ?_
  · rw [← hf]; clear hf
    refine ⟨by decide +kernel, fun x v => by kernel_rfl, fun x V hV hdep K hK => ?_⟩
    have e37 : x 37 = .bool true := depOf hdep 37 (by decide +kernel)
    clear hdep
    refine run_bare (by kernel_rfl) ?_
    unfold mofFr
    go_simp
    refine kfit (hK _ _ (Below.refl _ V) rfl) ?_
    first | (simp only [mofFr, Act.put, List.setIfInBounds_toArray, List.set_cons_zero, List.set_cons_succ, h5, h12, h14, h16, h6, h7, h8, h9, h11, h13, e37]; done) | (simp only [mofFr, Act.put, List.setIfInBounds_toArray, List.set_cons_zero, List.set_cons_succ, h5, h12, h14, h16, h6, h7, h8, h9, h11, h13, e37]; rfl)
  exact trivial
theorem mof_here {w : World} {b6 b7 b8 b9 b11 b13 : Nat} {ta tx ty tw : T} {wa xa ya za sa sb : Option Addr} {wc xc yc zc sc sd : Nat} {l k : List PR}
    (HC5 : ∀ V, OQ w b6 b7 b8 b9 b11 b13 ta tx ty tw wa xa ya za wc xc yc zc sa sc l sb sd k V → Calls Try.prog 11 #[.agg #[.int .i64 (tx).kind, .string (tx).name, .slice xa (tx).kids.length xc], .agg #[.int .i64 (ty).kind, .string (ty).name, .slice ya (ty).kids.length yc]] V fun e Y => e = .returned (.bool false) ∧ Below V.heap.size V Y)
    (HC25 : ∀ V, OQ w b6 b7 b8 b9 b11 b13 ta tx ty tw wa xa ya za wc xc yc zc sa sc l sb sd k V → Calls Try.prog 12 #[.agg #[.slice sb k.length sd], .agg #[.int .i64 (ta).kind, .string (ta).name, .slice wa (ta).kids.length wc]] V fun e Y => (∃ zu zv, e = .returned (.agg #[.int .i64 (tx).kind, .string (tx).name, .slice zu (tx).kids.length zv]) ∧ TysAt Y (.slice zu (tx).kids.length zv) (tx).kids) ∧ Below V.heap.size V Y)
    (HC27 : ∀ V, OQ w b6 b7 b8 b9 b11 b13 ta tx ty tw wa xa ya za wc xc yc zc sa sc l sb sd k V → ∀ zu25, ∀ zv25, TysAt V (.slice zu25 (tx).kids.length zv25) (tx).kids → Calls Try.prog 11 #[.agg #[.int .i64 (tx).kind, .string (tx).name, .slice zu25 (tx).kids.length zv25], .agg #[.int .i64 (tx).kind, .string (tx).name, .slice xa (tx).kids.length xc]] V fun e Y => e = .returned (.bool true) ∧ Below V.heap.size V Y)
    (HC35 : ∀ V, OQ w b6 b7 b8 b9 b11 b13 ta tx ty tw wa xa ya za wc xc yc zc sa sc l sb sd k V → Calls Try.prog 15 #[.agg #[.int .i64 (tw).kind, .string (tw).name, .slice za (tw).kids.length zc]] V fun e Y => e = .returned (.int .i64 3) ∧ Below V.heap.size V Y)
    {Q : Exit → Act → World → Prop} {ops : Array Oper} {a : Act} (X : World) (hops : ops = mofOps)
    (h5 : a.tmps.getD 5 undef = .bool true) (h12 : a.tmps.getD 12 undef = .bool false) (h14 : a.tmps.getD 14 undef = .bool true) (h16 : a.tmps.getD 16 undef = .bool false) (h6 : a.tmps.getD 6 undef = .pointer (some ⟨b6, 0, none⟩)) (h7 : a.tmps.getD 7 undef = .pointer (some ⟨b7, 0, none⟩)) (h8 : a.tmps.getD 8 undef = .pointer (some ⟨b8, 0, none⟩)) (h9 : a.tmps.getD 9 undef = .pointer (some ⟨b9, 0, none⟩)) (h11 : a.tmps.getD 11 undef = .pointer (some ⟨b11, 0, none⟩)) (h13 : a.tmps.getD 13 undef = .pointer (some ⟨b13, 0, none⟩))
    (ha : a = mofFr (fun j => a.tmps.getD j undef) a.defers (fun i => a.tmps.getD (if i = 38 then 4 else 64 + i) undef)) (hS : OQ w b6 b7 b8 b9 b11 b13 ta tx ty tw wa xa ya za wc xc yc zc sa sc l sb sd k X.drew)
    (hfin : ∀ x V, OQ w b6 b7 b8 b9 b11 b13 ta tx ty tw wa xa ya za wc xc yc zc sa sc l sb sd k V → x 38 = .bool true → Q .normal (mofFr (fun j => a.tmps.getD j undef) a.defers x) V) : (Code.region 14 ops true).wp Try.prog Q a X :=
  cast (congrArg (fun z => (Code.region 14 ops true).wp Try.prog Q z X) ha.symm) (mof_region (b := fun j => a.tmps.getD j undef) (d := a.defers) h5 h12 h14 h16 h6 h7 h8 h9 h11 h13 HC5 HC25 HC27 HC35 hops _ X hS hfin)
end Go.Proofs.Ythpphjkoiipkkaa
/- MatchOnce, walked. -/
namespace Go.Proofs.Ythpphjkoiipkkaa
open Go.RowKit Go.Maps Go.Sort Go.Lib
attribute [local go_sem] Oper.semAt_some

set_option maxRecDepth 100000 in
set_option maxHeartbeats 8000000 in
theorem monce_law (a1 a2 : Option Addr) (n1 n2 c1 c2 : Nat) (w : World) (hl1 : IntsAt w.heap.size a1 n1 w) (hl2 : IntsAt w.heap.size a2 n2 w) :
    Calls Try.prog 5 #[.slice a1 n1 c1, .slice a2 n2 c2] w fun e w' => e = .returned (.bool true) ∧ Below w.heap.size w w' := by
  have HL1 := Lib.hid hl1; have HL2 := Lib.hid hl2
  have HF := Lib.hid (mfirst_any w)
  clear hl1 hl2
  by_cases hb1 : n1 ≤ 60
  · have hb1I : ¬ ((60 : Int) < (n1 : Int)) := by omega
    by_cases hb2 : n2 ≤ 60
    · have hb2I : ¬ ((60 : Int) < (n2 : Int)) := by omega
      have hn1 : n1 < 1152921504606846976 := by omega
      have hn2 : n2 < 1152921504606846976 := by omega
      go_enter Try.func5, Try.ntmps5
      go_wp2_with (go_at_call 6; refine HF.out.mono ?_; rintro e w1 ⟨rfl, h1⟩; have HB1 := Lib.hid h1; clear h1 HF)
      have hA1 : BoxT w1.heap.size tA none 0 ((w1.alloc (.cells #[.int .i64 1, .string ⟨#[97]⟩, .slice none 0 0] 26)).alloc (.cells #[.slice a1 n1 c1, .int .i64 0] 30)) := (BoxT.new (t := tA) (TysAt.nil _ _ _)).alloc _
      have hS1 : SeqAt w.heap.size (w1.heap.size + 1) a1 n1 c1 0 ((w1.alloc (.cells #[.int .i64 1, .string ⟨#[97]⟩, .slice none 0 0] 26)).alloc (.cells #[.slice a1 n1 c1, .int .i64 0] 30)) := by
        have := seq_new (c := c1) (HB1.out.alloc HB1.out.size (.cells #[.int .i64 1, .string ⟨#[97]⟩, .slice none 0 0] 26)) HL1.out
        simpa using this
      have hB2 := (HB1.out.alloc HB1.out.size (.cells #[.int .i64 1, .string ⟨#[97]⟩, .slice none 0 0] 26)).alloc (by have := HB1.out.size; simp; omega) (.cells #[.slice a1 n1 c1, .int .i64 0] 30)
      have HA1 := Lib.hid hA1; have HB2 := Lib.hid hB2
      clear hA1 hB2 HB1 HL1
      refine (make_n3 _ _ _ _ _ _ _ hS1 (by decide) hn1).mono ?_
      rintro e W1 ⟨⟨t, u, rfl, hg, hu⟩, _, hf⟩
      obtain ⟨pa, ca, rfl⟩ := hu.shape
      have HB3 := Lib.hid (HB2.out.trans hf.1)
      have HA2 := Lib.hid (HA1.out.byMk7 hf hS1 (by omega))
      have HT := Lib.hid hu.tys; have HG := Lib.hid hg
      clear hu hf hg HB2 HA1 hS1
      simp only [tyV]
      have hX2 : BoxT W1.heap.size t pa ca ((W1.alloc (.cells #[.int .i64 t.kind, .string t.name, .slice pa t.kids.length ca] 26)).alloc (.cells #[.slice a2 n2 c2, .int .i64 0] 30)) := (BoxT.new HT.out).alloc _
      have hA3 := (HA2.out.alloc (.cells #[.int .i64 t.kind, .string t.name, .slice pa t.kids.length ca] 26)).alloc (.cells #[.slice a2 n2 c2, .int .i64 0] 30)
      have hAl := HA2.out.lt
      have hS2 : SeqAt w.heap.size (W1.heap.size + 1) a2 n2 c2 0 ((W1.alloc (.cells #[.int .i64 t.kind, .string t.name, .slice pa t.kids.length ca] 26)).alloc (.cells #[.slice a2 n2 c2, .int .i64 0] 30)) := by
        have := seq_new (c := c2) (HB3.out.alloc HB3.out.size (.cells #[.int .i64 t.kind, .string t.name, .slice pa t.kids.length ca] 26)) HL2.out
        simpa using this
      have hB4 := (HB3.out.alloc HB3.out.size (.cells #[.int .i64 t.kind, .string t.name, .slice pa t.kids.length ca] 26)).alloc (by have := HB3.out.size; simp; omega) (.cells #[.slice a2 n2 c2, .int .i64 0] 30)
      have HX2 := Lib.hid hX2; have HA3 := Lib.hid hA3; have HS2 := Lib.hid hS2; have HB4 := Lib.hid hB4
      clear hX2 hA3 hS2 hB4 HB3 HT HL2 HA2
      go_wp2_with (go_at_call 7; fail)
      refine (make_n3 _ _ _ _ _ _ _ HS2.out (by decide) hn2).mono ?_
      rintro e W3 ⟨⟨u, uv, rfl, hg, hu⟩, _, hf⟩
      obtain ⟨pb, cb, rfl⟩ := hu.shape
      have HB5 := Lib.hid (HB4.out.trans hf.1)
      have HX3 := Lib.hid (HX2.out.byMk7 hf HS2.out (by omega))
      have HA4 := Lib.hid (HA3.out.byMk7 hf HS2.out (by omega))
      have HT3 := Lib.hid hu.tys
      have HGU := Lib.hid hg
      clear hu hf hg HB4 HX2 HS2 HA3 hAl
      obtain ⟨x0, x1, x2⟩ := HX3.out.cells
      have lx := HX3.out.lt
      obtain ⟨z0, z1, z2⟩ := HA4.out.cells
      have lz := HA4.out.lt
      have lx1 : W1.heap.size < W3.heap.size + 1 := by omega
      have lx2 : W1.heap.size < W3.heap.size + 1 + 1 := by omega
      have lx3 : W1.heap.size < W3.heap.size + 1 + 1 + 1 := by omega
      simp only [tyV]
      go_wp2_with (go_at_call 8; fail)
      have htz : tsize t ≤ 51 := by have := tsize2_text t HG.out.1; have := HG.out.2.2; omega
      have huz : tsize u ≤ 51 := by have := tsize2_text u HGU.out.1; have := HGU.out.2.2; omega
      have htV := good_in t HG.out.1
      have huV := good_in u HGU.out.1
      have hY4 := BoxT.new HT3.out
      obtain ⟨hTw, hBo, hBe⟩ := two_boxes (n := W3.heap.size + 1) (HA4.out.alloc (.cells #[.int .i64 u.kind, .string u.name, .slice pb u.kids.length cb] 26)) (HX3.out.alloc (.cells #[.int .i64 u.kind, .string u.name, .slice pb u.kids.length cb] 26)) hY4 (by simp)
      have HP := pmatch_any (V := vA) (a := tTwo) (b := tBoth t u) (by rw [tTwo_size]; decide) (by rw [tBoth_size]; omega) tTwo_in (by decide) vA_short hTw.2 hBo.2
      unfold PMat at HP
      rw [mt_two] at HP
      obtain ⟨b, hb⟩ : ∃ b, eqB t u = b := ⟨_, rfl⟩
      rw [hb] at HP
      have HBB := Lib.hid hb
      have HU8 := Lib.hid (And.intro ((HA4.out.alloc (.cells #[.int .i64 u.kind, .string u.name, .slice pb u.kids.length cb] 26)).below hBe) (And.intro ((HX3.out.alloc (.cells #[.int .i64 u.kind, .string u.name, .slice pb u.kids.length cb] 26)).below hBe) (And.intro (hY4.below hBe) (And.intro hTw hBo))))
      have hB8 := (HB5.out.alloc HB5.out.size (.cells #[.int .i64 u.kind, .string u.name, .slice pb u.kids.length cb] 26)).trans (hBe.mono (by have := HB5.out.size; simp; omega))
      have HB8 := Lib.hid hB8
      clear x0 x1 x2 lx z0 z1 z2 lz lx1 lx2 lx3 hB8 hY4 hTw hBo hBe hb HT3 HX3 HA4 HB5
      refine HP.mono ?_
      clear HP
      rintro e W9 ⟨⟨sv, l, rfl, hs, hll, hap⟩, hb9⟩
      obtain ⟨sa, sc, rfl⟩ := hs.shape
      have HU9 := Lib.hid (And.intro (HU8.out.1.below hb9) (And.intro (HU8.out.2.1.below hb9) (And.intro (HU8.out.2.2.1.below hb9) (And.intro (HU8.out.2.2.2.1.below hb9) (HU8.out.2.2.2.2.below hb9)))))
      have HB9 := Lib.hid (HB8.out.trans (hb9.mono HB8.out.size))
      have HS9 := Lib.hid hs; have HAp := Lib.hid hap
      clear hs hap hb9 HU8 HB8
      obtain ⟨x0, x1, x2⟩ := HU9.out.2.1.cells
      have lx := HU9.out.2.1.lt
      obtain ⟨z0, z1, z2⟩ := HU9.out.1.cells
      have lz := HU9.out.1.lt
      go_wp2_with (go_at_call 8; fail)
      have hS10 := BoxS.new HS9.out
      have hb10 := (Below.refl W9.heap.size W9).alloc (Nat.le_refl _) (.cells #[.slice sa l.length sc] 33)
      have HP := pmatch_any (V := vA) (a := tA) (b := t) (by decide) (by omega) tA_in (by decide) vA_short (HU9.out.1.below hb10).2 (HU9.out.2.1.below hb10).2
      unfold PMat at HP
      rw [mt_a] at HP
      have HS10 := Lib.hid hS10
      clear x0 x1 x2 lx z0 z1 z2 lz hS10
      refine HP.mono ?_
      clear HP
      rintro e W11 ⟨⟨sv2, l2, rfl, hs, hll2, hap2⟩, hb11⟩
      obtain ⟨sb, sd, rfl⟩ := hs.shape
      have HU11 := Lib.hid (And.intro ((HU9.out.1.below hb10).below hb11) (And.intro ((HU9.out.2.1.below hb10).below hb11) (And.intro ((HU9.out.2.2.1.below hb10).below hb11) (And.intro ((HU9.out.2.2.2.1.below hb10).below hb11) ((HU9.out.2.2.2.2.below hb10).below hb11)))))
      have hB10 := HB9.out.trans (hb10.mono HB9.out.size)
      have HB11 := Lib.hid (hB10.trans (hb11.mono hB10.size))
      have HS11 := Lib.hid hs; have HAp2 := Lib.hid hap2; have HT11 := Lib.hid (HS10.out.below hb11)
      clear hs hap2 hb11 hb10 hB10 HU9 HB9 HS9 HS10
      obtain ⟨x0, x1, x2⟩ := HU11.out.2.2.2.2.cells
      have lx := HU11.out.2.2.2.2.lt
      obtain ⟨z0, z1, z2⟩ := HU11.out.1.cells
      have lz := HU11.out.1.lt
      go_wp2_with (go_at_call 8; fail)
      have hb12 := (Below.refl W11.heap.size W11).alloc (Nat.le_refl _) (.cells #[.slice sb l2.length sd] 33)
      have HP := pmatch_any (V := V3) (a := tBoth t u) (b := tA) (by rw [tBoth_size]; omega) (by decide) (tBoth_in htV huV) v3_few v3_short (HU11.out.2.2.2.2.below hb12).2 (HU11.out.1.below hb12).2
      unfold PMat at HP
      rw [mt_back] at HP
      have HS12 := Lib.hid (BoxS.new HS11.out)
      clear x0 x1 x2 lx z0 z1 z2 lz
      refine HP.mono ?_
      clear HP
      rintro e W13 ⟨⟨sv3, l3, rfl, hs, _, _⟩, hb13⟩
      obtain ⟨se, sf, rfl⟩ := hs.shape
      have hB12 := HB11.out.trans (hb12.mono HB11.out.size)
      have hOQ : OQ w w1.heap.size W1.heap.size W3.heap.size (W3.heap.size + 1 + 1) W9.heap.size W11.heap.size tA t u tTwo none pa pb (some ⟨W3.heap.size + 1, 0, none⟩) 0 ca cb 2 sa sc l sb sd l2 W13 :=
        ⟨⟨(HU11.out.1.below hb12).below hb13, (HU11.out.2.1.below hb12).below hb13, (HU11.out.2.2.1.below hb12).below hb13, (HU11.out.2.2.2.1.below hb12).below hb13⟩, ⟨(HT11.out.below hb12).below hb13, HS12.out.below hb13⟩, hB12.trans (hb13.mono hB12.size)⟩
      have HOQ := Lib.hid hOQ
      clear hs hOQ hB12 hb12 hb13 HU11 HB11 HS11 HS12 HT11
      go_wp2_with (go_at_call 8; fail)
      have hOQ := HOQ.out.below (below_a _ (.cells #[.slice se l3.length sf] 33))
      have happ2 : app l2 tA = t := (HAp2.out trivial).1
      have hsz2 : ∀ x ∈ l2, tsize x.t ≤ 1000000000 := fun x hx => by have := (HAp2.out trivial).2 x hx; omega
      cases b with
      | false =>
        have hne : eqB t u = false := HBB.out
        refine mof_here (w := w) (b6 := w1.heap.size) (b7 := W1.heap.size) (b8 := W3.heap.size) (b9 := W3.heap.size + 1 + 1) (b11 := W9.heap.size) (b13 := W11.heap.size) (ta := tA) (tx := t) (ty := u) (tw := tTwo) (wa := none) (xa := pa) (ya := pb) (za := some ⟨W3.heap.size + 1, 0, none⟩) (sa := sa) (sb := sb) (wc := 0) (xc := ca) (yc := cb) (zc := 2) (sc := sc) (sd := sd) (l := l) (k := l2)
          (fun V h => by have := sameType_any (t := t) (t' := u) (w := V) (fits_small (by omega)) h.1.2.1.2 h.1.2.2.1.2; rwa [hne] at this)
          (fun V h => papp_ret h.2.1.2.2 hll2 hsz2 (by decide) happ2 h.1.1.2) (fun V h zu zv k => same_ret7 (by omega) k h.1.2.1.2)
          (fun V h => by have := rsize_any (t := tTwo) (w := V) (by decide) h.1.2.2.2.2; rwa [tTwo_size] at this) _ (by kernel_rfl) (by kernel_rfl) (by kernel_rfl) (by kernel_rfl) (by kernel_rfl) (by kernel_rfl) (by kernel_rfl) (by kernel_rfl) (by kernel_rfl) (by kernel_rfl) (by kernel_rfl) (by kernel_rfl) (hOQ.below (below_d _)) ?_
        intro x V2 hV2 hx
        simp only [mofFr, hx]
        simp only [Array.getD_eq_getD_getElem?, List.getElem?_toArray, List.getElem?_cons_zero, List.getElem?_cons_succ, Option.getD_some]
        go_wp2
        go_ret
        exact ⟨rfl, hV2.2.2⟩
      | true =>
        have heq : eqB t u = true := HBB.out
        have happ : app l tA = t := two_app (HAp.out rfl).1
        have hsz : ∀ x ∈ l, tsize x.t ≤ 1000000000 := fun x hx => by have := (HAp.out rfl).2 x hx; rw [tBoth_size] at this; omega
        refine mon_here (w := w) (b6 := w1.heap.size) (b7 := W1.heap.size) (b8 := W3.heap.size) (b9 := W3.heap.size + 1 + 1) (b11 := W9.heap.size) (b13 := W11.heap.size) (ta := tA) (tx := t) (ty := u) (tw := tTwo) (wa := none) (xa := pa) (ya := pb) (za := some ⟨W3.heap.size + 1, 0, none⟩) (sa := sa) (sb := sb) (wc := 0) (xc := ca) (yc := cb) (zc := 2) (sc := sc) (sd := sd) (l := l) (k := l2)
          (fun V h => by have := sameType_any (t := t) (t' := u) (w := V) (fits_small (by omega)) h.1.2.1.2 h.1.2.2.1.2; rwa [heq] at this)
          (fun V h => papp_ret h.2.1.1.2 hll hsz (by decide) happ h.1.1.2) (fun V h zu zv k => same_ret7 (by omega) k h.1.2.1.2)
          (fun V h => papp_ret h.2.1.2.2 hll2 hsz2 (by decide) happ2 h.1.1.2) (fun V h zu zv k => same_ret7 (by omega) k h.1.2.1.2)
          (fun V h => by have := rsize_any (t := tTwo) (w := V) (by decide) h.1.2.2.2.2; rwa [tTwo_size] at this) _ (by kernel_rfl) (by kernel_rfl) (by kernel_rfl) (by kernel_rfl) (by kernel_rfl) (by kernel_rfl) (by kernel_rfl) (by kernel_rfl) (by kernel_rfl) (by kernel_rfl) (by kernel_rfl) (by kernel_rfl) (hOQ.below (below_d _)) ?_
        intro x V2 hV2 hx
        simp only [monFr, hx]
        simp only [Array.getD_eq_getD_getElem?, List.getElem?_toArray, List.getElem?_cons_zero, List.getElem?_cons_succ, Option.getD_some]
        go_wp2
        go_ret
        exact ⟨rfl, hV2.2.2⟩
    · have hb2I : ((60 : Int) < (n2 : Int)) := by omega
      go_enter Try.func5, Try.ntmps5
      go_wp2_with (go_at_call 6; refine HF.out.mono ?_; rintro e w1 ⟨rfl, h1⟩; have HB1 := Lib.hid h1; clear h1 HF)
      go_ret
      exact ⟨rfl, HB1.out⟩
  · have hb1I : ((60 : Int) < (n1 : Int)) := by omega
    go_enter Try.func5, Try.ntmps5
    go_wp2_with (go_at_call 6; refine HF.out.mono ?_; rintro e w1 ⟨rfl, h1⟩; have HB1 := Lib.hid h1; clear h1 HF)
    go_ret
    exact ⟨rfl, HB1.out⟩
end Go.Proofs.Ythpphjkoiipkkaa
