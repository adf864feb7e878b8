/- TypesFuns: its last statement, a region of 48 operations that draws its order, by an invariant. (Made by a program.) -/
import Derived.Test.YteoelcefjjmjiaaFunsA
namespace Go.Proofs.Yteoelcefjjmjiaa
open Go.RowKit
attribute [local go_sem] Oper.semAt_some

def regionIn : Nat → Code → Array Oper
  | n, .region id ops _ => if id == n then ops else #[]
  | n, .seq a b => regionIn n a ++ regionIn n b
  | n, .cond _ a b => regionIn n a ++ regionIn n b
  | n, .block _ b => regionIn n b
  | n, .loop b => regionIn n b
  | n, .rangeFunc _ _ a b => regionIn n a ++ regionIn n b
  | n, .scope b => regionIn n b
  | _, _ => #[]
theorem depOf {o : Oper} {Vals : Nat → Value → World → Prop} {x : Nat → Value} {V : World} (h : ∀ e ∈ o.after, Region.binds .any e = true → Vals e.on (x e.on) V) (j : Nat)
    (hj : (o.after.any fun e => Region.binds .any e && e.on == j) = true) : Vals j (x j) V := by
  rw [Array.any_eq_true'] at hj
  obtain ⟨e, he, hj⟩ := hj
  simp only [Bool.and_eq_true, beq_iff_eq] at hj
  have := h e he hj.1
  rw [hj.2] at this; exact this
theorem kfit {K : Act → World → Prop} {a a' : Act} {w : World} (h : K a w) (e : a = a') : K a' w := e ▸ h
theorem run_bare {P : Program} {o : Oper} {ops : Array Oper} {a : Act} {w : World} {K : Act → World → Prop} {Q : Exit → Act → World → Prop} {C : Prop} (hg : o.guard = none) (h : Oper.wp P o a w K Q) :
    if Region.wanted o (yielded ops a.tmps) = true then Oper.wp P o a w K Q else C := by
  rw [if_pos (by simp [Region.wanted, hg])]; exact h
theorem run_guard {P : Program} {o : Oper} {ops : Array Oper} {a : Act} {w : World} {K : Act → World → Prop} {Q : Exit → Act → World → Prop} {C : Prop} (g k : Nat) (v : Value) (hg : o.guard = some (g, true))
    (hk : (ops[g]?).bind (·.dst) = some k) (hv : a.tmps[k]? = some v) (e : v = .bool true) (h : Oper.wp P o a w K Q) :
    if Region.wanted o (yielded ops a.tmps) = true then Oper.wp P o a w K Q else C := by
  rw [if_pos (by simp [Region.wanted, hg, yielded, hk, hv, e])]; exact h
theorem below_a (X : World) (o : Obj) : Below X.heap.size X (X.alloc o) := (Below.refl _ X).alloc (Nat.le_refl _) o
theorem below_d (X : World) : Below X.heap.size X X.drew := (Below.refl _ X).drew

noncomputable def fnsOps : Array Oper := regionIn 21 (Try.f4.body.getD .skip)
def fnsFr (b : Nat → Value) (d : List Deferred) (x : Nat → Value) : Act := { tmps := #[b 0, b 1, b 2, b 3, x 47, b 5, b 6, b 7, b 8, b 9, b 10, b 11, b 12, b 13, b 14, b 15, b 16, b 17, b 18, b 19, b 20, b 21, b 22, b 23, b 24, b 25, b 26, b 27, b 28, b 29, b 30, b 31, b 32, b 33, b 34, b 35, b 36, b 37, b 38, b 39, b 40, b 41, b 42, b 43, b 44, b 45, b 46, b 47, b 48, b 49, b 50, b 51, b 52, b 53, b 54, b 55, b 56, b 57, b 58, b 59, b 60, b 61, b 62, x 0, x 1, x 2, x 3, x 4, x 5, x 6, x 7, x 8, x 9, x 10, x 11, x 12, x 13, x 14, x 15, x 16, x 17, x 18, x 19, x 20, x 21, x 22, x 23, x 24, x 25, x 26, x 27, x 28, x 29, x 30, x 31, x 32, x 33, x 34, x 35, x 36, x 37, x 38, x 39, x 40, x 41, x 42, x 43, x 44, x 45, x 46], defers := d }

def fnsVals (g b14 sz c : Nat) (l : List T) (tx tf : T) (xa fa ba pa : Option Addr) (xc fc bc pc : Nat) (i : Nat) (v : Value) (V : World) : Prop :=
  match i with
  | 0 => v = .bool true
  | 1 => v = .bool true
  | 2 => v = .slice pa l.length pc
  | 3 => v = .slice (some ⟨g, 0, none⟩) (l.length + 1) c
  | 4 => v = .int .i64 (l.length : Int)
  | 5 => v = .slice (some ⟨g, 0, none⟩) l.length c
  | 6 => v = .bool true
  | 7 => v = .bool true
  | 8 => v = .bool true
  | 9 => v = .agg #[.int .i64 (tx).kind, .string (tx).name, .slice ba (tx).kids.length bc]
  | 10 => v = .slice (some ⟨g, 0, none⟩) (l.length + 1) c
  | 11 => v = .int .i64 (l.length : Int)
  | 12 => v = .pointer (some ⟨g, l.length * 3, none⟩)
  | 13 => v = .agg #[.int .i64 (tx).kind, .string (tx).name, .slice xa (tx).kids.length xc]
  | 14 => v = .bool true
  | 15 => v = .bool true
  | 16 => v = .bool true
  | 17 => v = .agg #[.int .i64 (tf).kind, .string (tf).name, .slice fa (tf).kids.length fc]
  | 18 => v = .int .i64 ((sz : Int) + (l.length : Int))
  | 19 => v = .int .i64 (sz : Int)
  | 20 => v = .int .i64 (l.length : Int)
  | 21 => v = .int .i64 ((sz : Int) + (l.length : Int))
  | 22 => v = .bool true
  | 23 => v = .bool true
  | 24 => v = .bool true
  | 25 => v = .pointer (some ⟨b14, 0, none⟩)
  | 26 => v = .int .i64 2
  | 27 => v = .bool true
  | 28 => v = .bool true
  | 29 => v = .bool true
  | 30 => v = .pointer (some ⟨b14, 1, none⟩)
  | 31 => v = .string ⟨#[85, 110, 105, 116]⟩
  | 32 => v = .bool true
  | 33 => v = .bool true
  | 34 => v = .bool true
  | 35 => v = .slice (some ⟨g, 0, none⟩) (l.length + 1) c
  | 36 => v = .int .i64 (l.length : Int)
  | 37 => v = .pointer (some ⟨g, l.length * 3, none⟩)
  | 38 => v = .agg #[.int .i64 (tx).kind, .string (tx).name, .slice xa (tx).kids.length xc]
  | 39 => ∃ zg, v = .slice (some ⟨zg, 0, none⟩) 1 1 ∧ TysAt V (.slice (some ⟨zg, 0, none⟩) 1 1) [tx]
  | 40 => ∃ za zc, v = .agg #[.int .i64 (tx).kind, .string (tx).name, .slice za (tx).kids.length zc] ∧ TysAt V (.slice za (tx).kids.length zc) (tx).kids
  | 41 => v = .slice (some ⟨g, 0, none⟩) (l.length + 1) c
  | 42 => v = .int .i64 (l.length : Int)
  | 43 => v = .pointer (some ⟨g, l.length * 3, none⟩)
  | 44 => v = .agg #[.int .i64 (tx).kind, .string (tx).name, .slice xa (tx).kids.length xc]
  | 45 => v = .bool true
  | 46 => v = .bool true
  | 47 => v = .bool true
  | _ => True

theorem fnsVals_keep {g b14 sz c : Nat} {l : List T} {tx tf : T} {xa fa ba pa : Option Addr} {xc fc bc pc : Nat} (i : Nat) (v : Value) (V Y : World) (h : fnsVals g b14 sz c l tx tf xa fa ba pa xc fc bc pc i v V) (hb : Below V.heap.size V Y) : fnsVals g b14 sz c l tx tf xa fa ba pa xc fc bc pc i v Y := by
  unfold fnsVals at *
  split at h <;> first
    | exact h
    | (obtain ⟨zg, e, h⟩ := h; exact ⟨zg, e, h.keep (KeepT.of_below hb)⟩)
    | (obtain ⟨za, zc, e, h⟩ := h; exact ⟨za, zc, e, h.keep (KeepT.of_below hb)⟩)

theorem fns_size : fnsOps.size = 48 := by kernel_rfl
theorem fns_dst_1 : (fnsOps[1]?).bind (·.dst) = some 64 := by kernel_rfl
theorem fns_dst_8 : (fnsOps[8]?).bind (·.dst) = some 71 := by kernel_rfl
theorem fns_dst_16 : (fnsOps[16]?).bind (·.dst) = some 79 := by kernel_rfl
theorem fns_dst_24 : (fnsOps[24]?).bind (·.dst) = some 87 := by kernel_rfl
theorem fns_dst_29 : (fnsOps[29]?).bind (·.dst) = some 92 := by kernel_rfl
theorem fns_dst_34 : (fnsOps[34]?).bind (·.dst) = some 97 := by kernel_rfl
set_option linter.unusedSimpArgs false in
set_option maxRecDepth 100000 in
set_option maxHeartbeats 8000000 in
theorem fns_region {w : World} {g b11 b13 b14 sz c : Nat} {l : List T} {tx tf : T} {xa fa ba ua pa : Option Addr} {xc fc bc uc pc : Nat} {b : Nat → Value} {d : List Deferred}
    (h5 : b 5 = .bool true) (h12 : b 12 = .slice pa l.length pc) (h7 : b 7 = .slice (some ⟨g, 0, none⟩) (l.length + 1) c) (h1 : b 1 = .int .i64 (l.length : Int)) (h13 : b 13 = .pointer (some ⟨b13, 0, none⟩)) (h11 : b 11 = .pointer (some ⟨b11, 0, none⟩)) (h8 : b 8 = .int .i64 (sz : Int)) (h14 : b 14 = .pointer (some ⟨b14, 0, none⟩))
    (HC6 : ∀ V, (FT w g b11 b13 b14 l tx tf c xa fa ba xc fc bc ua uc pa pc V ∧ sz + l.length ≤ 1000000 ∧ l.length + 1 ≤ c) → Calls Try.prog 17 #[.slice pa l.length pc, .slice (some ⟨g, 0, none⟩) l.length c] V fun e Y => e = .returned (.bool true) ∧ Below V.heap.size V Y)
    (HC14 : ∀ V, (FT w g b11 b13 b14 l tx tf c xa fa ba xc fc bc ua uc pa pc V ∧ sz + l.length ≤ 1000000 ∧ l.length + 1 ≤ c) → Calls Try.prog 21 #[.agg #[.int .i64 (tx).kind, .string (tx).name, .slice ba (tx).kids.length bc], .agg #[.int .i64 (tx).kind, .string (tx).name, .slice xa (tx).kids.length xc]] V fun e Y => e = .returned (.bool true) ∧ Below V.heap.size V Y)
    (HC18 : ∀ V, (FT w g b11 b13 b14 l tx tf c xa fa ba xc fc bc ua uc pa pc V ∧ sz + l.length ≤ 1000000 ∧ l.length + 1 ≤ c) → Calls Try.prog 15 #[.agg #[.int .i64 (tf).kind, .string (tf).name, .slice fa (tf).kids.length fc]] V fun e Y => e = .returned (.int .i64 ((sz : Int) + (l.length : Int))) ∧ Below V.heap.size V Y)
    (HC40 : ∀ V, (FT w g b11 b13 b14 l tx tf c xa fa ba xc fc bc ua uc pa pc V ∧ sz + l.length ≤ 1000000 ∧ l.length + 1 ≤ c) → ∀ zg39, TysAt V (.slice (some ⟨zg39, 0, none⟩) 1 1) [tx] → Calls Try.prog 24 #[.slice (some ⟨zg39, 0, none⟩) 1 1] V fun e Y => (∃ za zc, e = .returned (.agg #[.int .i64 (tx).kind, .string (tx).name, .slice za (tx).kids.length zc]) ∧ TysAt Y (.slice za (tx).kids.length zc) (tx).kids) ∧ Below V.heap.size V Y)
    (HC45 : ∀ V, (FT w g b11 b13 b14 l tx tf c xa fa ba xc fc bc ua uc pa pc V ∧ sz + l.length ≤ 1000000 ∧ l.length + 1 ≤ c) → ∀ za40, ∀ zc40, TysAt V (.slice za40 (tx).kids.length zc40) (tx).kids → Calls Try.prog 21 #[.agg #[.int .i64 (tx).kind, .string (tx).name, .slice za40 (tx).kids.length zc40], .agg #[.int .i64 (tx).kind, .string (tx).name, .slice xa (tx).kids.length xc]] V fun e Y => e = .returned (.bool true) ∧ Below V.heap.size V Y)
    {Q : Exit → Act → World → Prop} {ops : Array Oper} (hops : ops = fnsOps) (x0 : Nat → Value) (X : World) (hS : (FT w g b11 b13 b14 l tx tf c xa fa ba xc fc bc ua uc pa pc X.drew ∧ sz + l.length ≤ 1000000 ∧ l.length + 1 ≤ c))
    (hfin : ∀ x V, (FT w g b11 b13 b14 l tx tf c xa fa ba xc fc bc ua uc pa pc V ∧ sz + l.length ≤ 1000000 ∧ l.length + 1 ≤ c) → x 47 = .bool true → Q .normal (fnsFr b d x) V) : (Code.region 21 ops true).wp Try.prog Q (fnsFr b d x0) X := by
  have HC := Lib.hid (And.intro HC6 (And.intro HC14 (And.intro HC18 (And.intro HC40 HC45))))
  clear HC6 HC14 HC18 HC40 HC45
  refine region_inv (fnsFr b d) (fun V => (FT w g b11 b13 b14 l tx tf c xa fa ba xc fc bc ua uc pa pc V ∧ sz + l.length ≤ 1000000 ∧ l.length + 1 ≤ c)) (fun V Y => Below V.heap.size V Y) (fnsVals g b14 sz c l tx tf xa fa ba pa xc fc bc pc) x0 (by kernel_rfl) rfl hS (fun V Y h hb => ⟨h.1.below hb, h.2⟩) (fun i v V Y _ h hb => fnsVals_keep i v V Y h hb) ?_ (fun x V hV h => hfin x V hV (h 47 (by rw [hops, fns_size]; decide)))
  clear hfin hS
  obtain ⟨f, hf⟩ : ∃ f, StepAt Try.prog (fnsFr b d) (fun V => (FT w g b11 b13 b14 l tx tf c xa fa ba xc fc bc ua uc pa pc V ∧ sz + l.length ≤ 1000000 ∧ l.length + 1 ≤ c)) (fun V Y => Below V.heap.size V Y) (fnsVals g b14 sz c l tx tf xa fa ba pa xc fc bc pc) ops Q = f := ⟨_, rfl⟩
  rw [hf, hops]
  simp only [fnsOps, Try.f4, regionIn, Option.getD_some, Nat.reduceBEq, Bool.false_eq_true, if_false, if_true, beq_self_eq_true, Array.append_empty, Array.empty_append, List.append_eq, List.cons_append, List.nil_append, AllAt, Nat.reduceAdd, Nat.zero_add]
  -- 0: slot 63 := Op.move t5
  refine And.intro ?_ ?_
  · rw [← hf]; clear hf
    refine ⟨by decide +kernel, fun x v => by kernel_rfl, fun x V hV hdep K hK => ?_⟩
    clear hdep
    refine run_bare (by kernel_rfl) ?_
    unfold fnsFr
    go_simp
    refine kfit (hK _ _ (Below.refl _ V) rfl) ?_
    first | (simp only [fnsFr, Act.put, List.setIfInBounds_toArray, List.set_cons_zero, List.set_cons_succ, h5, h12, h7, h1, h13, h11, h8, h14]; done) | (simp only [fnsFr, Act.put, List.setIfInBounds_toArray, List.set_cons_zero, List.set_cons_succ, h5, h12, h7, h1, h13, h11, h8, h14]; rfl)
  -- 1: slot 64 := Op.move t63
  refine And.intro ?_ ?_
  · rw [← hf]; clear hf
    refine ⟨by decide +kernel, fun x v => by kernel_rfl, fun x V hV hdep K hK => ?_⟩
    have e0 : x 0 = .bool true := depOf hdep 0 (by decide +kernel)
    clear hdep
    refine run_bare (by kernel_rfl) ?_
    unfold fnsFr
    go_simp
    refine kfit (hK _ _ (Below.refl _ V) rfl) ?_
    first | (simp only [fnsFr, Act.put, List.setIfInBounds_toArray, List.set_cons_zero, List.set_cons_succ, h5, h12, h7, h1, h13, h11, h8, h14, e0]; done) | (simp only [fnsFr, Act.put, List.setIfInBounds_toArray, List.set_cons_zero, List.set_cons_succ, h5, h12, h7, h1, h13, h11, h8, h14, e0]; rfl)
  -- 2: slot 65 := Op.move t12
  refine And.intro ?_ ?_
  · rw [← hf]; clear hf
    refine ⟨by decide +kernel, fun x v => by kernel_rfl, fun x V hV hdep K hK => ?_⟩
    have e1 : x 1 = .bool true := depOf hdep 1 (by decide +kernel)
    clear hdep
    refine run_guard 1 64 (x 1) (by kernel_rfl) (by rw [hops]; exact fns_dst_1) (by kernel_rfl) e1 ?_; clear hops
    unfold fnsFr
    go_simp
    refine kfit (hK _ _ (Below.refl _ V) rfl) ?_
    first | (simp only [fnsFr, Act.put, List.setIfInBounds_toArray, List.set_cons_zero, List.set_cons_succ, h5, h12, h7, h1, h13, h11, h8, h14, e1]; done) | (simp only [fnsFr, Act.put, List.setIfInBounds_toArray, List.set_cons_zero, List.set_cons_succ, h5, h12, h7, h1, h13, h11, h8, h14, e1]; rfl)
  -- 3: slot 66 := Op.move t7
  refine And.intro ?_ ?_
  · rw [← hf]; clear hf
    refine ⟨by decide +kernel, fun x v => by kernel_rfl, fun x V hV hdep K hK => ?_⟩
    have e1 : x 1 = .bool true := depOf hdep 1 (by decide +kernel)
    clear hdep
    refine run_guard 1 64 (x 1) (by kernel_rfl) (by rw [hops]; exact fns_dst_1) (by kernel_rfl) e1 ?_; clear hops
    unfold fnsFr
    go_simp
    refine kfit (hK _ _ (Below.refl _ V) rfl) ?_
    first | (simp only [fnsFr, Act.put, List.setIfInBounds_toArray, List.set_cons_zero, List.set_cons_succ, h5, h12, h7, h1, h13, h11, h8, h14, e1]; done) | (simp only [fnsFr, Act.put, List.setIfInBounds_toArray, List.set_cons_zero, List.set_cons_succ, h5, h12, h7, h1, h13, h11, h8, h14, e1]; rfl)
  -- 4: slot 67 := Op.move t1
  refine And.intro ?_ ?_
  · rw [← hf]; clear hf
    refine ⟨by decide +kernel, fun x v => by kernel_rfl, fun x V hV hdep K hK => ?_⟩
    have e1 : x 1 = .bool true := depOf hdep 1 (by decide +kernel)
    clear hdep
    refine run_guard 1 64 (x 1) (by kernel_rfl) (by rw [hops]; exact fns_dst_1) (by kernel_rfl) e1 ?_; clear hops
    unfold fnsFr
    go_simp
    refine kfit (hK _ _ (Below.refl _ V) rfl) ?_
    first | (simp only [fnsFr, Act.put, List.setIfInBounds_toArray, List.set_cons_zero, List.set_cons_succ, h5, h12, h7, h1, h13, h11, h8, h14, e1]; done) | (simp only [fnsFr, Act.put, List.setIfInBounds_toArray, List.set_cons_zero, List.set_cons_succ, h5, h12, h7, h1, h13, h11, h8, h14, e1]; rfl)
  -- 5: slot 68 := Op.slice 27 t66 none (some t67) none
  refine And.intro ?_ ?_
  · rw [← hf]; clear hf
    refine ⟨by decide +kernel, fun x v => by kernel_rfl, fun x V hV hdep K hK => ?_⟩
    have e1 : x 1 = .bool true := depOf hdep 1 (by decide +kernel)
    have e3 : x 3 = .slice (some ⟨g, 0, none⟩) (l.length + 1) c := depOf hdep 3 (by decide +kernel)
    have e4 : x 4 = .int .i64 (l.length : Int) := depOf hdep 4 (by decide +kernel)
    clear hdep
    refine run_guard 1 64 (x 1) (by kernel_rfl) (by rw [hops]; exact fns_dst_1) (by kernel_rfl) e1 ?_; clear hops
    unfold fnsFr
    have i3 : (l.length : Int) ≤ (c : Int) := by have := hV.2.2; omega
    go_simp
    refine kfit (hK _ _ (Below.refl _ V) (by first | rfl | simp)) ?_
    first | (simp only [fnsFr, Act.put, List.setIfInBounds_toArray, List.set_cons_zero, List.set_cons_succ, h5, h12, h7, h1, h13, h11, h8, h14, e1, e3, e4]; done) | (simp only [fnsFr, Act.put, List.setIfInBounds_toArray, List.set_cons_zero, List.set_cons_succ, h5, h12, h7, h1, h13, h11, h8, h14, e1, e3, e4]; rfl)
  -- 6: slot 69 := Op.call { value (Operand.func 17), args := #[t65, t68], argT
  refine And.intro ?_ ?_
  · rw [← hf]; clear hf
    refine ⟨by decide +kernel, fun x v => by kernel_rfl, fun x V hV hdep K hK => ?_⟩
    have e1 : x 1 = .bool true := depOf hdep 1 (by decide +kernel)
    have e2 : x 2 = .slice pa l.length pc := depOf hdep 2 (by decide +kernel)
    have e5 : x 5 = .slice (some ⟨g, 0, none⟩) l.length c := depOf hdep 5 (by decide +kernel)
    clear hdep
    refine run_guard 1 64 (x 1) (by kernel_rfl) (by rw [hops]; exact fns_dst_1) (by kernel_rfl) e1 ?_; clear hops
    unfold fnsFr
    obtain ⟨HC6, HC14, HC18, HC40, HC45⟩ := HC.out
    clear HC14 HC18 HC40 HC45
    have H := HC6 V hV
    replace H := Lib.hid H; clear HC6
    go_simp
    go_at_call 17
    refine H.out.mono ?_
    rintro e Y ⟨rfl, hb⟩; refine kfit (hK _ _ hb rfl) ?_
    first | (simp only [fnsFr, Act.put, List.setIfInBounds_toArray, List.set_cons_zero, List.set_cons_succ, h5, h12, h7, h1, h13, h11, h8, h14, e1, e2, e5]; done) | (simp only [fnsFr, Act.put, List.setIfInBounds_toArray, List.set_cons_zero, List.set_cons_succ, h5, h12, h7, h1, h13, h11, h8, h14, e1, e2, e5]; rfl)
  -- 7: slot 70 := Op.pick t64 t69 (const (Value.bool false))
  refine And.intro ?_ ?_
  · rw [← hf]; clear hf
    refine ⟨by decide +kernel, fun x v => by kernel_rfl, fun x V hV hdep K hK => ?_⟩
    have e1 : x 1 = .bool true := depOf hdep 1 (by decide +kernel)
    have e6 : x 6 = .bool true := depOf hdep 6 (by decide +kernel)
    clear hdep
    refine run_bare (by kernel_rfl) ?_
    unfold fnsFr
    go_simp
    refine kfit (hK _ _ (Below.refl _ V) rfl) ?_
    first | (simp only [fnsFr, Act.put, List.setIfInBounds_toArray, List.set_cons_zero, List.set_cons_succ, h5, h12, h7, h1, h13, h11, h8, h14, e1, e6]; done) | (simp only [fnsFr, Act.put, List.setIfInBounds_toArray, List.set_cons_zero, List.set_cons_succ, h5, h12, h7, h1, h13, h11, h8, h14, e1, e6]; rfl)
  -- 8: slot 71 := Op.move t70
  refine And.intro ?_ ?_
  · rw [← hf]; clear hf
    refine ⟨by decide +kernel, fun x v => by kernel_rfl, fun x V hV hdep K hK => ?_⟩
    have e7 : x 7 = .bool true := depOf hdep 7 (by decide +kernel)
    clear hdep
    refine run_bare (by kernel_rfl) ?_
    unfold fnsFr
    go_simp
    refine kfit (hK _ _ (Below.refl _ V) rfl) ?_
    first | (simp only [fnsFr, Act.put, List.setIfInBounds_toArray, List.set_cons_zero, List.set_cons_succ, h5, h12, h7, h1, h13, h11, h8, h14, e7]; done) | (simp only [fnsFr, Act.put, List.setIfInBounds_toArray, List.set_cons_zero, List.set_cons_succ, h5, h12, h7, h1, h13, h11, h8, h14, e7]; rfl)
  -- 9: slot 72 := Op.load 29 t13
  refine And.intro ?_ ?_
  · rw [← hf]; clear hf
    refine ⟨by decide +kernel, fun x v => by kernel_rfl, fun x V hV hdep K hK => ?_⟩
    have e8 : x 8 = .bool true := depOf hdep 8 (by decide +kernel)
    clear hdep
    refine run_guard 8 71 (x 8) (by kernel_rfl) (by rw [hops]; exact fns_dst_8) (by kernel_rfl) e8 ?_; clear hops
    unfold fnsFr
    obtain ⟨⟨⟨y0, y1, y2⟩, ⟨y3, y4, y5⟩⟩, ⟨y6, y7⟩, y8, y9, y10⟩ := FT.cells hV.1
    go_simp
    refine kfit (hK _ _ (Below.refl _ V) rfl) ?_
    first | (simp only [fnsFr, Act.put, List.setIfInBounds_toArray, List.set_cons_zero, List.set_cons_succ, h5, h12, h7, h1, h13, h11, h8, h14, e8]; done) | (simp only [fnsFr, Act.put, List.setIfInBounds_toArray, List.set_cons_zero, List.set_cons_succ, h5, h12, h7, h1, h13, h11, h8, h14, e8]; rfl)
  -- 10: slot 73 := Op.move t7
  refine And.intro ?_ ?_
  · rw [← hf]; clear hf
    refine ⟨by decide +kernel, fun x v => by kernel_rfl, fun x V hV hdep K hK => ?_⟩
    have e8 : x 8 = .bool true := depOf hdep 8 (by decide +kernel)
    clear hdep
    refine run_guard 8 71 (x 8) (by kernel_rfl) (by rw [hops]; exact fns_dst_8) (by kernel_rfl) e8 ?_; clear hops
    unfold fnsFr
    go_simp
    refine kfit (hK _ _ (Below.refl _ V) rfl) ?_
    first | (simp only [fnsFr, Act.put, List.setIfInBounds_toArray, List.set_cons_zero, List.set_cons_succ, h5, h12, h7, h1, h13, h11, h8, h14, e8]; done) | (simp only [fnsFr, Act.put, List.setIfInBounds_toArray, List.set_cons_zero, List.set_cons_succ, h5, h12, h7, h1, h13, h11, h8, h14, e8]; rfl)
  -- 11: slot 74 := Op.move t1
  refine And.intro ?_ ?_
  · rw [← hf]; clear hf
    refine ⟨by decide +kernel, fun x v => by kernel_rfl, fun x V hV hdep K hK => ?_⟩
    have e8 : x 8 = .bool true := depOf hdep 8 (by decide +kernel)
    clear hdep
    refine run_guard 8 71 (x 8) (by kernel_rfl) (by rw [hops]; exact fns_dst_8) (by kernel_rfl) e8 ?_; clear hops
    unfold fnsFr
    go_simp
    refine kfit (hK _ _ (Below.refl _ V) rfl) ?_
    first | (simp only [fnsFr, Act.put, List.setIfInBounds_toArray, List.set_cons_zero, List.set_cons_succ, h5, h12, h7, h1, h13, h11, h8, h14, e8]; done) | (simp only [fnsFr, Act.put, List.setIfInBounds_toArray, List.set_cons_zero, List.set_cons_succ, h5, h12, h7, h1, h13, h11, h8, h14, e8]; rfl)
  -- 12: slot 75 := Op.indexAddr 27 t73 t74
  refine And.intro ?_ ?_
  · rw [← hf]; clear hf
    refine ⟨by decide +kernel, fun x v => by kernel_rfl, fun x V hV hdep K hK => ?_⟩
    have e8 : x 8 = .bool true := depOf hdep 8 (by decide +kernel)
    have e10 : x 10 = .slice (some ⟨g, 0, none⟩) (l.length + 1) c := depOf hdep 10 (by decide +kernel)
    have e11 : x 11 = .int .i64 (l.length : Int) := depOf hdep 11 (by decide +kernel)
    clear hdep
    refine run_guard 8 71 (x 8) (by kernel_rfl) (by rw [hops]; exact fns_dst_8) (by kernel_rfl) e8 ?_; clear hops
    unfold fnsFr
    have i1 : ((l.length : Int) < ((l.length + 1 : Nat) : Int)) := by omega
    have i2 : ((l.length : Int) < (l.length : Int) + 1) := by omega
    go_simp
    refine kfit (hK _ _ (Below.refl _ V) (by first | rfl | simp)) ?_
    first | (simp only [fnsFr, Act.put, List.setIfInBounds_toArray, List.set_cons_zero, List.set_cons_succ, h5, h12, h7, h1, h13, h11, h8, h14, e8, e10, e11]; done) | (simp only [fnsFr, Act.put, List.setIfInBounds_toArray, List.set_cons_zero, List.set_cons_succ, h5, h12, h7, h1, h13, h11, h8, h14, e8, e10, e11]; rfl)
  -- 13: slot 76 := Op.load 29 t75
  refine And.intro ?_ ?_
  · rw [← hf]; clear hf
    refine ⟨by decide +kernel, fun x v => by kernel_rfl, fun x V hV hdep K hK => ?_⟩
    have e8 : x 8 = .bool true := depOf hdep 8 (by decide +kernel)
    have e12 : x 12 = .pointer (some ⟨g, l.length * 3, none⟩) := depOf hdep 12 (by decide +kernel)
    clear hdep
    refine run_guard 8 71 (x 8) (by kernel_rfl) (by rw [hops]; exact fns_dst_8) (by kernel_rfl) e8 ?_; clear hops
    unfold fnsFr
    obtain ⟨⟨⟨y0, y1, y2⟩, ⟨y3, y4, y5⟩⟩, ⟨y6, y7⟩, y8, y9, y10⟩ := FT.cells hV.1
    go_simp
    refine kfit (hK _ _ (Below.refl _ V) rfl) ?_
    first | (simp only [fnsFr, Act.put, List.setIfInBounds_toArray, List.set_cons_zero, List.set_cons_succ, h5, h12, h7, h1, h13, h11, h8, h14, e8, e12]; done) | (simp only [fnsFr, Act.put, List.setIfInBounds_toArray, List.set_cons_zero, List.set_cons_succ, h5, h12, h7, h1, h13, h11, h8, h14, e8, e12]; rfl)
  -- 14: slot 77 := Op.call { value (Operand.func 21), args := #[t72, t76], argT
  refine And.intro ?_ ?_
  · rw [← hf]; clear hf
    refine ⟨by decide +kernel, fun x v => by kernel_rfl, fun x V hV hdep K hK => ?_⟩
    have e8 : x 8 = .bool true := depOf hdep 8 (by decide +kernel)
    have e9 : x 9 = .agg #[.int .i64 (tx).kind, .string (tx).name, .slice ba (tx).kids.length bc] := depOf hdep 9 (by decide +kernel)
    have e13 : x 13 = .agg #[.int .i64 (tx).kind, .string (tx).name, .slice xa (tx).kids.length xc] := depOf hdep 13 (by decide +kernel)
    clear hdep
    refine run_guard 8 71 (x 8) (by kernel_rfl) (by rw [hops]; exact fns_dst_8) (by kernel_rfl) e8 ?_; clear hops
    unfold fnsFr
    obtain ⟨HC6, HC14, HC18, HC40, HC45⟩ := HC.out
    clear HC6 HC18 HC40 HC45
    have H := HC14 V hV
    replace H := Lib.hid H; clear HC14
    go_simp
    go_at_call 21
    refine H.out.mono ?_
    rintro e Y ⟨rfl, hb⟩; refine kfit (hK _ _ hb rfl) ?_
    first | (simp only [fnsFr, Act.put, List.setIfInBounds_toArray, List.set_cons_zero, List.set_cons_succ, h5, h12, h7, h1, h13, h11, h8, h14, e8, e9, e13]; done) | (simp only [fnsFr, Act.put, List.setIfInBounds_toArray, List.set_cons_zero, List.set_cons_succ, h5, h12, h7, h1, h13, h11, h8, h14, e8, e9, e13]; rfl)
  -- 15: slot 78 := Op.pick t71 t77 (const (Value.bool false))
  refine And.intro ?_ ?_
  · rw [← hf]; clear hf
    refine ⟨by decide +kernel, fun x v => by kernel_rfl, fun x V hV hdep K hK => ?_⟩
    have e8 : x 8 = .bool true := depOf hdep 8 (by decide +kernel)
    have e14 : x 14 = .bool true := depOf hdep 14 (by decide +kernel)
    clear hdep
    refine run_bare (by kernel_rfl) ?_
    unfold fnsFr
    go_simp
    refine kfit (hK _ _ (Below.refl _ V) rfl) ?_
    first | (simp only [fnsFr, Act.put, List.setIfInBounds_toArray, List.set_cons_zero, List.set_cons_succ, h5, h12, h7, h1, h13, h11, h8, h14, e8, e14]; done) | (simp only [fnsFr, Act.put, List.setIfInBounds_toArray, List.set_cons_zero, List.set_cons_succ, h5, h12, h7, h1, h13, h11, h8, h14, e8, e14]; rfl)
  -- 16: slot 79 := Op.move t78
  refine And.intro ?_ ?_
  · rw [← hf]; clear hf
    refine ⟨by decide +kernel, fun x v => by kernel_rfl, fun x V hV hdep K hK => ?_⟩
    have e15 : x 15 = .bool true := depOf hdep 15 (by decide +kernel)
    clear hdep
    refine run_bare (by kernel_rfl) ?_
    unfold fnsFr
    go_simp
    refine kfit (hK _ _ (Below.refl _ V) rfl) ?_
    first | (simp only [fnsFr, Act.put, List.setIfInBounds_toArray, List.set_cons_zero, List.set_cons_succ, h5, h12, h7, h1, h13, h11, h8, h14, e15]; done) | (simp only [fnsFr, Act.put, List.setIfInBounds_toArray, List.set_cons_zero, List.set_cons_succ, h5, h12, h7, h1, h13, h11, h8, h14, e15]; rfl)
  -- 17: slot 80 := Op.load 29 t11
  refine And.intro ?_ ?_
  · rw [← hf]; clear hf
    refine ⟨by decide +kernel, fun x v => by kernel_rfl, fun x V hV hdep K hK => ?_⟩
    have e16 : x 16 = .bool true := depOf hdep 16 (by decide +kernel)
    clear hdep
    refine run_guard 16 79 (x 16) (by kernel_rfl) (by rw [hops]; exact fns_dst_16) (by kernel_rfl) e16 ?_; clear hops
    unfold fnsFr
    obtain ⟨⟨⟨y0, y1, y2⟩, ⟨y3, y4, y5⟩⟩, ⟨y6, y7⟩, y8, y9, y10⟩ := FT.cells hV.1
    go_simp
    refine kfit (hK _ _ (Below.refl _ V) rfl) ?_
    first | (simp only [fnsFr, Act.put, List.setIfInBounds_toArray, List.set_cons_zero, List.set_cons_succ, h5, h12, h7, h1, h13, h11, h8, h14, e16]; done) | (simp only [fnsFr, Act.put, List.setIfInBounds_toArray, List.set_cons_zero, List.set_cons_succ, h5, h12, h7, h1, h13, h11, h8, h14, e16]; rfl)
  -- 18: slot 81 := Op.call { value (Operand.func 15), args := #[t80], argTypes 
  refine And.intro ?_ ?_
  · rw [← hf]; clear hf
    refine ⟨by decide +kernel, fun x v => by kernel_rfl, fun x V hV hdep K hK => ?_⟩
    have e16 : x 16 = .bool true := depOf hdep 16 (by decide +kernel)
    have e17 : x 17 = .agg #[.int .i64 (tf).kind, .string (tf).name, .slice fa (tf).kids.length fc] := depOf hdep 17 (by decide +kernel)
    clear hdep
    refine run_guard 16 79 (x 16) (by kernel_rfl) (by rw [hops]; exact fns_dst_16) (by kernel_rfl) e16 ?_; clear hops
    unfold fnsFr
    obtain ⟨HC6, HC14, HC18, HC40, HC45⟩ := HC.out
    clear HC6 HC14 HC40 HC45
    have H := HC18 V hV
    replace H := Lib.hid H; clear HC18
    go_simp
    go_at_call 15
    refine H.out.mono ?_
    rintro e Y ⟨rfl, hb⟩; refine kfit (hK _ _ hb rfl) ?_
    first | (simp only [fnsFr, Act.put, List.setIfInBounds_toArray, List.set_cons_zero, List.set_cons_succ, h5, h12, h7, h1, h13, h11, h8, h14, e16, e17]; done) | (simp only [fnsFr, Act.put, List.setIfInBounds_toArray, List.set_cons_zero, List.set_cons_succ, h5, h12, h7, h1, h13, h11, h8, h14, e16, e17]; rfl)
  -- 19: slot 82 := Op.move t8
  refine And.intro ?_ ?_
  · rw [← hf]; clear hf
    refine ⟨by decide +kernel, fun x v => by kernel_rfl, fun x V hV hdep K hK => ?_⟩
    have e16 : x 16 = .bool true := depOf hdep 16 (by decide +kernel)
    clear hdep
    refine run_guard 16 79 (x 16) (by kernel_rfl) (by rw [hops]; exact fns_dst_16) (by kernel_rfl) e16 ?_; clear hops
    unfold fnsFr
    go_simp
    refine kfit (hK _ _ (Below.refl _ V) rfl) ?_
    first | (simp only [fnsFr, Act.put, List.setIfInBounds_toArray, List.set_cons_zero, List.set_cons_succ, h5, h12, h7, h1, h13, h11, h8, h14, e16]; done) | (simp only [fnsFr, Act.put, List.setIfInBounds_toArray, List.set_cons_zero, List.set_cons_succ, h5, h12, h7, h1, h13, h11, h8, h14, e16]; rfl)
  -- 20: slot 83 := Op.move t1
  refine And.intro ?_ ?_
  · rw [← hf]; clear hf
    refine ⟨by decide +kernel, fun x v => by kernel_rfl, fun x V hV hdep K hK => ?_⟩
    have e16 : x 16 = .bool true := depOf hdep 16 (by decide +kernel)
    clear hdep
    refine run_guard 16 79 (x 16) (by kernel_rfl) (by rw [hops]; exact fns_dst_16) (by kernel_rfl) e16 ?_; clear hops
    unfold fnsFr
    go_simp
    refine kfit (hK _ _ (Below.refl _ V) rfl) ?_
    first | (simp only [fnsFr, Act.put, List.setIfInBounds_toArray, List.set_cons_zero, List.set_cons_succ, h5, h12, h7, h1, h13, h11, h8, h14, e16]; done) | (simp only [fnsFr, Act.put, List.setIfInBounds_toArray, List.set_cons_zero, List.set_cons_succ, h5, h12, h7, h1, h13, h11, h8, h14, e16]; rfl)
  -- 21: slot 84 := Op.binOp BinOp.add 3 t82 t83 3
  refine And.intro ?_ ?_
  · rw [← hf]; clear hf
    refine ⟨by decide +kernel, fun x v => by kernel_rfl, fun x V hV hdep K hK => ?_⟩
    have e16 : x 16 = .bool true := depOf hdep 16 (by decide +kernel)
    have e19 : x 19 = .int .i64 (sz : Int) := depOf hdep 19 (by decide +kernel)
    have e20 : x 20 = .int .i64 (l.length : Int) := depOf hdep 20 (by decide +kernel)
    clear hdep
    refine run_guard 16 79 (x 16) (by kernel_rfl) (by rw [hops]; exact fns_dst_16) (by kernel_rfl) e16 ?_; clear hops
    unfold fnsFr
    have i4 := hV.2.1
    have i5 : IntKind.i64.wrap ((sz : Int) + (l.length : Int)) = (sz : Int) + (l.length : Int) := IntWalk.i64_in _ (by omega)
    go_simp
    try rw [i5]
    refine kfit (hK _ _ (Below.refl _ V) rfl) ?_
    first | (simp only [fnsFr, Act.put, List.setIfInBounds_toArray, List.set_cons_zero, List.set_cons_succ, h5, h12, h7, h1, h13, h11, h8, h14, e16, e19, e20]; done) | (simp only [fnsFr, Act.put, List.setIfInBounds_toArray, List.set_cons_zero, List.set_cons_succ, h5, h12, h7, h1, h13, h11, h8, h14, e16, e19, e20]; rfl)
  -- 22: slot 85 := Op.binOp BinOp.eql 3 t81 t84 3
  refine And.intro ?_ ?_
  · rw [← hf]; clear hf
    refine ⟨by decide +kernel, fun x v => by kernel_rfl, fun x V hV hdep K hK => ?_⟩
    have e16 : x 16 = .bool true := depOf hdep 16 (by decide +kernel)
    have e18 : x 18 = .int .i64 ((sz : Int) + (l.length : Int)) := depOf hdep 18 (by decide +kernel)
    have e21 : x 21 = .int .i64 ((sz : Int) + (l.length : Int)) := depOf hdep 21 (by decide +kernel)
    clear hdep
    refine run_guard 16 79 (x 16) (by kernel_rfl) (by rw [hops]; exact fns_dst_16) (by kernel_rfl) e16 ?_; clear hops
    unfold fnsFr
    go_simp
    refine kfit (hK _ _ (Below.refl _ V) (by first | rfl | simp)) ?_
    first | (simp only [fnsFr, Act.put, List.setIfInBounds_toArray, List.set_cons_zero, List.set_cons_succ, h5, h12, h7, h1, h13, h11, h8, h14, e16, e18, e21]; done) | (simp only [fnsFr, Act.put, List.setIfInBounds_toArray, List.set_cons_zero, List.set_cons_succ, h5, h12, h7, h1, h13, h11, h8, h14, e16, e18, e21]; rfl)
  -- 23: slot 86 := Op.pick t79 t85 (const (Value.bool false))
  refine And.intro ?_ ?_
  · rw [← hf]; clear hf
    refine ⟨by decide +kernel, fun x v => by kernel_rfl, fun x V hV hdep K hK => ?_⟩
    have e16 : x 16 = .bool true := depOf hdep 16 (by decide +kernel)
    have e22 : x 22 = .bool true := depOf hdep 22 (by decide +kernel)
    clear hdep
    refine run_bare (by kernel_rfl) ?_
    unfold fnsFr
    go_simp
    refine kfit (hK _ _ (Below.refl _ V) rfl) ?_
    first | (simp only [fnsFr, Act.put, List.setIfInBounds_toArray, List.set_cons_zero, List.set_cons_succ, h5, h12, h7, h1, h13, h11, h8, h14, e16, e22]; done) | (simp only [fnsFr, Act.put, List.setIfInBounds_toArray, List.set_cons_zero, List.set_cons_succ, h5, h12, h7, h1, h13, h11, h8, h14, e16, e22]; rfl)
  -- 24: slot 87 := Op.move t86
  refine And.intro ?_ ?_
  · rw [← hf]; clear hf
    refine ⟨by decide +kernel, fun x v => by kernel_rfl, fun x V hV hdep K hK => ?_⟩
    have e23 : x 23 = .bool true := depOf hdep 23 (by decide +kernel)
    clear hdep
    refine run_bare (by kernel_rfl) ?_
    unfold fnsFr
    go_simp
    refine kfit (hK _ _ (Below.refl _ V) rfl) ?_
    first | (simp only [fnsFr, Act.put, List.setIfInBounds_toArray, List.set_cons_zero, List.set_cons_succ, h5, h12, h7, h1, h13, h11, h8, h14, e23]; done) | (simp only [fnsFr, Act.put, List.setIfInBounds_toArray, List.set_cons_zero, List.set_cons_succ, h5, h12, h7, h1, h13, h11, h8, h14, e23]; rfl)
  -- 25: slot 88 := Op.fieldAddr 29 t14 0
  refine And.intro ?_ ?_
  · rw [← hf]; clear hf
    refine ⟨by decide +kernel, fun x v => by kernel_rfl, fun x V hV hdep K hK => ?_⟩
    have e24 : x 24 = .bool true := depOf hdep 24 (by decide +kernel)
    clear hdep
    refine run_guard 24 87 (x 24) (by kernel_rfl) (by rw [hops]; exact fns_dst_24) (by kernel_rfl) e24 ?_; clear hops
    unfold fnsFr
    go_simp
    refine kfit (hK _ _ (Below.refl _ V) rfl) ?_
    first | (simp only [fnsFr, Act.put, List.setIfInBounds_toArray, List.set_cons_zero, List.set_cons_succ, h5, h12, h7, h1, h13, h11, h8, h14, e24]; done) | (simp only [fnsFr, Act.put, List.setIfInBounds_toArray, List.set_cons_zero, List.set_cons_succ, h5, h12, h7, h1, h13, h11, h8, h14, e24]; rfl)
  -- 26: slot 89 := Op.load 3 t88
  refine And.intro ?_ ?_
  · rw [← hf]; clear hf
    refine ⟨by decide +kernel, fun x v => by kernel_rfl, fun x V hV hdep K hK => ?_⟩
    have e24 : x 24 = .bool true := depOf hdep 24 (by decide +kernel)
    have e25 : x 25 = .pointer (some ⟨b14, 0, none⟩) := depOf hdep 25 (by decide +kernel)
    clear hdep
    refine run_guard 24 87 (x 24) (by kernel_rfl) (by rw [hops]; exact fns_dst_24) (by kernel_rfl) e24 ?_; clear hops
    unfold fnsFr
    obtain ⟨⟨⟨y0, y1, y2⟩, ⟨y3, y4, y5⟩⟩, ⟨y6, y7⟩, y8, y9, y10⟩ := FT.cells hV.1
    go_simp
    refine kfit (hK _ _ (Below.refl _ V) rfl) ?_
    first | (simp only [fnsFr, Act.put, List.setIfInBounds_toArray, List.set_cons_zero, List.set_cons_succ, h5, h12, h7, h1, h13, h11, h8, h14, e24, e25]; done) | (simp only [fnsFr, Act.put, List.setIfInBounds_toArray, List.set_cons_zero, List.set_cons_succ, h5, h12, h7, h1, h13, h11, h8, h14, e24, e25]; rfl)
  -- 27: slot 90 := Op.binOp BinOp.eql 3 t89 (const (2:i64)) 3
  refine And.intro ?_ ?_
  · rw [← hf]; clear hf
    refine ⟨by decide +kernel, fun x v => by kernel_rfl, fun x V hV hdep K hK => ?_⟩
    have e24 : x 24 = .bool true := depOf hdep 24 (by decide +kernel)
    have e26 : x 26 = .int .i64 2 := depOf hdep 26 (by decide +kernel)
    clear hdep
    refine run_guard 24 87 (x 24) (by kernel_rfl) (by rw [hops]; exact fns_dst_24) (by kernel_rfl) e24 ?_; clear hops
    unfold fnsFr
    go_simp
    refine kfit (hK _ _ (Below.refl _ V) (by first | rfl | simp)) ?_
    first | (simp only [fnsFr, Act.put, List.setIfInBounds_toArray, List.set_cons_zero, List.set_cons_succ, h5, h12, h7, h1, h13, h11, h8, h14, e24, e26]; done) | (simp only [fnsFr, Act.put, List.setIfInBounds_toArray, List.set_cons_zero, List.set_cons_succ, h5, h12, h7, h1, h13, h11, h8, h14, e24, e26]; rfl)
  -- 28: slot 91 := Op.pick t87 t90 (const (Value.bool false))
  refine And.intro ?_ ?_
  · rw [← hf]; clear hf
    refine ⟨by decide +kernel, fun x v => by kernel_rfl, fun x V hV hdep K hK => ?_⟩
    have e24 : x 24 = .bool true := depOf hdep 24 (by decide +kernel)
    have e27 : x 27 = .bool true := depOf hdep 27 (by decide +kernel)
    clear hdep
    refine run_bare (by kernel_rfl) ?_
    unfold fnsFr
    go_simp
    refine kfit (hK _ _ (Below.refl _ V) rfl) ?_
    first | (simp only [fnsFr, Act.put, List.setIfInBounds_toArray, List.set_cons_zero, List.set_cons_succ, h5, h12, h7, h1, h13, h11, h8, h14, e24, e27]; done) | (simp only [fnsFr, Act.put, List.setIfInBounds_toArray, List.set_cons_zero, List.set_cons_succ, h5, h12, h7, h1, h13, h11, h8, h14, e24, e27]; rfl)
  -- 29: slot 92 := Op.move t91
  refine And.intro ?_ ?_
  · rw [← hf]; clear hf
    refine ⟨by decide +kernel, fun x v => by kernel_rfl, fun x V hV hdep K hK => ?_⟩
    have e28 : x 28 = .bool true := depOf hdep 28 (by decide +kernel)
    clear hdep
    refine run_bare (by kernel_rfl) ?_
    unfold fnsFr
    go_simp
    refine kfit (hK _ _ (Below.refl _ V) rfl) ?_
    first | (simp only [fnsFr, Act.put, List.setIfInBounds_toArray, List.set_cons_zero, List.set_cons_succ, h5, h12, h7, h1, h13, h11, h8, h14, e28]; done) | (simp only [fnsFr, Act.put, List.setIfInBounds_toArray, List.set_cons_zero, List.set_cons_succ, h5, h12, h7, h1, h13, h11, h8, h14, e28]; rfl)
  -- 30: slot 93 := Op.fieldAddr 29 t14 1
  refine And.intro ?_ ?_
  · rw [← hf]; clear hf
    refine ⟨by decide +kernel, fun x v => by kernel_rfl, fun x V hV hdep K hK => ?_⟩
    have e29 : x 29 = .bool true := depOf hdep 29 (by decide +kernel)
    clear hdep
    refine run_guard 29 92 (x 29) (by kernel_rfl) (by rw [hops]; exact fns_dst_29) (by kernel_rfl) e29 ?_; clear hops
    unfold fnsFr
    go_simp
    refine kfit (hK _ _ (Below.refl _ V) rfl) ?_
    first | (simp only [fnsFr, Act.put, List.setIfInBounds_toArray, List.set_cons_zero, List.set_cons_succ, h5, h12, h7, h1, h13, h11, h8, h14, e29]; done) | (simp only [fnsFr, Act.put, List.setIfInBounds_toArray, List.set_cons_zero, List.set_cons_succ, h5, h12, h7, h1, h13, h11, h8, h14, e29]; rfl)
  -- 31: slot 94 := Op.load 9 t93
  refine And.intro ?_ ?_
  · rw [← hf]; clear hf
    refine ⟨by decide +kernel, fun x v => by kernel_rfl, fun x V hV hdep K hK => ?_⟩
    have e29 : x 29 = .bool true := depOf hdep 29 (by decide +kernel)
    have e30 : x 30 = .pointer (some ⟨b14, 1, none⟩) := depOf hdep 30 (by decide +kernel)
    clear hdep
    refine run_guard 29 92 (x 29) (by kernel_rfl) (by rw [hops]; exact fns_dst_29) (by kernel_rfl) e29 ?_; clear hops
    unfold fnsFr
    obtain ⟨⟨⟨y0, y1, y2⟩, ⟨y3, y4, y5⟩⟩, ⟨y6, y7⟩, y8, y9, y10⟩ := FT.cells hV.1
    go_simp
    refine kfit (hK _ _ (Below.refl _ V) rfl) ?_
    first | (simp only [fnsFr, Act.put, List.setIfInBounds_toArray, List.set_cons_zero, List.set_cons_succ, h5, h12, h7, h1, h13, h11, h8, h14, e29, e30]; done) | (simp only [fnsFr, Act.put, List.setIfInBounds_toArray, List.set_cons_zero, List.set_cons_succ, h5, h12, h7, h1, h13, h11, h8, h14, e29, e30]; rfl)
  -- 32: slot 95 := Op.binOp BinOp.eql 9 t94 (const (Value.string { data := #[85
  refine And.intro ?_ ?_
  · rw [← hf]; clear hf
    refine ⟨by decide +kernel, fun x v => by kernel_rfl, fun x V hV hdep K hK => ?_⟩
    have e29 : x 29 = .bool true := depOf hdep 29 (by decide +kernel)
    have e31 : x 31 = .string ⟨#[85, 110, 105, 116]⟩ := depOf hdep 31 (by decide +kernel)
    clear hdep
    refine run_guard 29 92 (x 29) (by kernel_rfl) (by rw [hops]; exact fns_dst_29) (by kernel_rfl) e29 ?_; clear hops
    unfold fnsFr
    go_simp
    refine kfit (hK _ _ (Below.refl _ V) (by first | rfl | simp)) ?_
    first | (simp only [fnsFr, Act.put, List.setIfInBounds_toArray, List.set_cons_zero, List.set_cons_succ, h5, h12, h7, h1, h13, h11, h8, h14, e29, e31]; done) | (simp only [fnsFr, Act.put, List.setIfInBounds_toArray, List.set_cons_zero, List.set_cons_succ, h5, h12, h7, h1, h13, h11, h8, h14, e29, e31]; rfl)
  -- 33: slot 96 := Op.pick t92 t95 (const (Value.bool false))
  refine And.intro ?_ ?_
  · rw [← hf]; clear hf
    refine ⟨by decide +kernel, fun x v => by kernel_rfl, fun x V hV hdep K hK => ?_⟩
    have e29 : x 29 = .bool true := depOf hdep 29 (by decide +kernel)
    have e32 : x 32 = .bool true := depOf hdep 32 (by decide +kernel)
    clear hdep
    refine run_bare (by kernel_rfl) ?_
    unfold fnsFr
    go_simp
    refine kfit (hK _ _ (Below.refl _ V) rfl) ?_
    first | (simp only [fnsFr, Act.put, List.setIfInBounds_toArray, List.set_cons_zero, List.set_cons_succ, h5, h12, h7, h1, h13, h11, h8, h14, e29, e32]; done) | (simp only [fnsFr, Act.put, List.setIfInBounds_toArray, List.set_cons_zero, List.set_cons_succ, h5, h12, h7, h1, h13, h11, h8, h14, e29, e32]; rfl)
  -- 34: slot 97 := Op.move t96
  refine And.intro ?_ ?_
  · rw [← hf]; clear hf
    refine ⟨by decide +kernel, fun x v => by kernel_rfl, fun x V hV hdep K hK => ?_⟩
    have e33 : x 33 = .bool true := depOf hdep 33 (by decide +kernel)
    clear hdep
    refine run_bare (by kernel_rfl) ?_
    unfold fnsFr
    go_simp
    refine kfit (hK _ _ (Below.refl _ V) rfl) ?_
    first | (simp only [fnsFr, Act.put, List.setIfInBounds_toArray, List.set_cons_zero, List.set_cons_succ, h5, h12, h7, h1, h13, h11, h8, h14, e33]; done) | (simp only [fnsFr, Act.put, List.setIfInBounds_toArray, List.set_cons_zero, List.set_cons_succ, h5, h12, h7, h1, h13, h11, h8, h14, e33]; rfl)
  -- 35: slot 98 := Op.move t7
  refine And.intro ?_ ?_
  · rw [← hf]; clear hf
    refine ⟨by decide +kernel, fun x v => by kernel_rfl, fun x V hV hdep K hK => ?_⟩
    have e34 : x 34 = .bool true := depOf hdep 34 (by decide +kernel)
    clear hdep
    refine run_guard 34 97 (x 34) (by kernel_rfl) (by rw [hops]; exact fns_dst_34) (by kernel_rfl) e34 ?_; clear hops
    unfold fnsFr
    go_simp
    refine kfit (hK _ _ (Below.refl _ V) rfl) ?_
    first | (simp only [fnsFr, Act.put, List.setIfInBounds_toArray, List.set_cons_zero, List.set_cons_succ, h5, h12, h7, h1, h13, h11, h8, h14, e34]; done) | (simp only [fnsFr, Act.put, List.setIfInBounds_toArray, List.set_cons_zero, List.set_cons_succ, h5, h12, h7, h1, h13, h11, h8, h14, e34]; rfl)
  -- 36: slot 99 := Op.move t1
  refine And.intro ?_ ?_
  · rw [← hf]; clear hf
    refine ⟨by decide +kernel, fun x v => by kernel_rfl, fun x V hV hdep K hK => ?_⟩
    have e34 : x 34 = .bool true := depOf hdep 34 (by decide +kernel)
    clear hdep
    refine run_guard 34 97 (x 34) (by kernel_rfl) (by rw [hops]; exact fns_dst_34) (by kernel_rfl) e34 ?_; clear hops
    unfold fnsFr
    go_simp
    refine kfit (hK _ _ (Below.refl _ V) rfl) ?_
    first | (simp only [fnsFr, Act.put, List.setIfInBounds_toArray, List.set_cons_zero, List.set_cons_succ, h5, h12, h7, h1, h13, h11, h8, h14, e34]; done) | (simp only [fnsFr, Act.put, List.setIfInBounds_toArray, List.set_cons_zero, List.set_cons_succ, h5, h12, h7, h1, h13, h11, h8, h14, e34]; rfl)
  -- 37: slot 100 := Op.indexAddr 27 t98 t99
  refine And.intro ?_ ?_
  · rw [← hf]; clear hf
    refine ⟨by decide +kernel, fun x v => by kernel_rfl, fun x V hV hdep K hK => ?_⟩
    have e34 : x 34 = .bool true := depOf hdep 34 (by decide +kernel)
    have e35 : x 35 = .slice (some ⟨g, 0, none⟩) (l.length + 1) c := depOf hdep 35 (by decide +kernel)
    have e36 : x 36 = .int .i64 (l.length : Int) := depOf hdep 36 (by decide +kernel)
    clear hdep
    refine run_guard 34 97 (x 34) (by kernel_rfl) (by rw [hops]; exact fns_dst_34) (by kernel_rfl) e34 ?_; clear hops
    unfold fnsFr
    have i1 : ((l.length : Int) < ((l.length + 1 : Nat) : Int)) := by omega
    have i2 : ((l.length : Int) < (l.length : Int) + 1) := by omega
    go_simp
    refine kfit (hK _ _ (Below.refl _ V) (by first | rfl | simp)) ?_
    first | (simp only [fnsFr, Act.put, List.setIfInBounds_toArray, List.set_cons_zero, List.set_cons_succ, h5, h12, h7, h1, h13, h11, h8, h14, e34, e35, e36]; done) | (simp only [fnsFr, Act.put, List.setIfInBounds_toArray, List.set_cons_zero, List.set_cons_succ, h5, h12, h7, h1, h13, h11, h8, h14, e34, e35, e36]; rfl)
  -- 38: slot 101 := Op.load 29 t100
  refine And.intro ?_ ?_
  · rw [← hf]; clear hf
    refine ⟨by decide +kernel, fun x v => by kernel_rfl, fun x V hV hdep K hK => ?_⟩
    have e34 : x 34 = .bool true := depOf hdep 34 (by decide +kernel)
    have e37 : x 37 = .pointer (some ⟨g, l.length * 3, none⟩) := depOf hdep 37 (by decide +kernel)
    clear hdep
    refine run_guard 34 97 (x 34) (by kernel_rfl) (by rw [hops]; exact fns_dst_34) (by kernel_rfl) e34 ?_; clear hops
    unfold fnsFr
    obtain ⟨⟨⟨y0, y1, y2⟩, ⟨y3, y4, y5⟩⟩, ⟨y6, y7⟩, y8, y9, y10⟩ := FT.cells hV.1
    go_simp
    refine kfit (hK _ _ (Below.refl _ V) rfl) ?_
    first | (simp only [fnsFr, Act.put, List.setIfInBounds_toArray, List.set_cons_zero, List.set_cons_succ, h5, h12, h7, h1, h13, h11, h8, h14, e34, e37]; done) | (simp only [fnsFr, Act.put, List.setIfInBounds_toArray, List.set_cons_zero, List.set_cons_succ, h5, h12, h7, h1, h13, h11, h8, h14, e34, e37]; rfl)
  -- 39: slot 102 := Op.buildSlice 27 1 #[(0, t101)]
  refine And.intro ?_ ?_
  · rw [← hf]; clear hf
    refine ⟨by decide +kernel, fun x v => by kernel_rfl, fun x V hV hdep K hK => ?_⟩
    have e34 : x 34 = .bool true := depOf hdep 34 (by decide +kernel)
    have e38 : x 38 = .agg #[.int .i64 (tx).kind, .string (tx).name, .slice xa (tx).kids.length xc] := depOf hdep 38 (by decide +kernel)
    clear hdep
    refine run_guard 34 97 (x 34) (by kernel_rfl) (by rw [hops]; exact fns_dst_34) (by kernel_rfl) e34 ?_; clear hops
    unfold fnsFr
    go_simp
    refine kfit (hK _ _ (below_a _ _) ⟨_, rfl, TysAt.one rfl (TyAt.mk tx hV.1.1.2.2.1)⟩) ?_
    first | (simp only [fnsFr, Act.put, List.setIfInBounds_toArray, List.set_cons_zero, List.set_cons_succ, h5, h12, h7, h1, h13, h11, h8, h14, e34, e38]; done) | (simp only [fnsFr, Act.put, List.setIfInBounds_toArray, List.set_cons_zero, List.set_cons_succ, h5, h12, h7, h1, h13, h11, h8, h14, e34, e38]; rfl)
  -- 40: slot 103 := Op.call { value (Operand.func 24), args := #[t102], argTypes
  refine And.intro ?_ ?_
  · rw [← hf]; clear hf
    refine ⟨by decide +kernel, fun x v => by kernel_rfl, fun x V hV hdep K hK => ?_⟩
    have e34 : x 34 = .bool true := depOf hdep 34 (by decide +kernel)
    obtain ⟨zg39, e39, d39⟩ : ∃ zg39, x 39 = .slice (some ⟨zg39, 0, none⟩) 1 1 ∧ TysAt V (.slice (some ⟨zg39, 0, none⟩) 1 1) [tx] := depOf hdep 39 (by decide +kernel)
    clear hdep
    refine run_guard 34 97 (x 34) (by kernel_rfl) (by rw [hops]; exact fns_dst_34) (by kernel_rfl) e34 ?_; clear hops
    unfold fnsFr
    obtain ⟨HC6, HC14, HC18, HC40, HC45⟩ := HC.out
    clear HC6 HC14 HC18 HC45
    have H := HC40 V hV _ d39
    replace H := Lib.hid H; clear HC40
    go_simp
    go_at_call 24
    refine H.out.mono ?_
    rintro e Y ⟨⟨za, zc, rfl, hq⟩, hb⟩; refine kfit (hK _ _ hb ⟨za, zc, rfl, hq⟩) ?_
    first | (simp only [fnsFr, Act.put, List.setIfInBounds_toArray, List.set_cons_zero, List.set_cons_succ, h5, h12, h7, h1, h13, h11, h8, h14, e34, e39]; done) | (simp only [fnsFr, Act.put, List.setIfInBounds_toArray, List.set_cons_zero, List.set_cons_succ, h5, h12, h7, h1, h13, h11, h8, h14, e34, e39]; rfl)
  -- 41: slot 104 := Op.move t7
  refine And.intro ?_ ?_
  · rw [← hf]; clear hf
    refine ⟨by decide +kernel, fun x v => by kernel_rfl, fun x V hV hdep K hK => ?_⟩
    have e34 : x 34 = .bool true := depOf hdep 34 (by decide +kernel)
    clear hdep
    refine run_guard 34 97 (x 34) (by kernel_rfl) (by rw [hops]; exact fns_dst_34) (by kernel_rfl) e34 ?_; clear hops
    unfold fnsFr
    go_simp
    refine kfit (hK _ _ (Below.refl _ V) rfl) ?_
    first | (simp only [fnsFr, Act.put, List.setIfInBounds_toArray, List.set_cons_zero, List.set_cons_succ, h5, h12, h7, h1, h13, h11, h8, h14, e34]; done) | (simp only [fnsFr, Act.put, List.setIfInBounds_toArray, List.set_cons_zero, List.set_cons_succ, h5, h12, h7, h1, h13, h11, h8, h14, e34]; rfl)
  -- 42: slot 105 := Op.move t1
  refine And.intro ?_ ?_
  · rw [← hf]; clear hf
    refine ⟨by decide +kernel, fun x v => by kernel_rfl, fun x V hV hdep K hK => ?_⟩
    have e34 : x 34 = .bool true := depOf hdep 34 (by decide +kernel)
    clear hdep
    refine run_guard 34 97 (x 34) (by kernel_rfl) (by rw [hops]; exact fns_dst_34) (by kernel_rfl) e34 ?_; clear hops
    unfold fnsFr
    go_simp
    refine kfit (hK _ _ (Below.refl _ V) rfl) ?_
    first | (simp only [fnsFr, Act.put, List.setIfInBounds_toArray, List.set_cons_zero, List.set_cons_succ, h5, h12, h7, h1, h13, h11, h8, h14, e34]; done) | (simp only [fnsFr, Act.put, List.setIfInBounds_toArray, List.set_cons_zero, List.set_cons_succ, h5, h12, h7, h1, h13, h11, h8, h14, e34]; rfl)
  -- 43: slot 106 := Op.indexAddr 27 t104 t105
  refine And.intro ?_ ?_
  · rw [← hf]; clear hf
    refine ⟨by decide +kernel, fun x v => by kernel_rfl, fun x V hV hdep K hK => ?_⟩
    have e34 : x 34 = .bool true := depOf hdep 34 (by decide +kernel)
    have e41 : x 41 = .slice (some ⟨g, 0, none⟩) (l.length + 1) c := depOf hdep 41 (by decide +kernel)
    have e42 : x 42 = .int .i64 (l.length : Int) := depOf hdep 42 (by decide +kernel)
    clear hdep
    refine run_guard 34 97 (x 34) (by kernel_rfl) (by rw [hops]; exact fns_dst_34) (by kernel_rfl) e34 ?_; clear hops
    unfold fnsFr
    have i1 : ((l.length : Int) < ((l.length + 1 : Nat) : Int)) := by omega
    have i2 : ((l.length : Int) < (l.length : Int) + 1) := by omega
    go_simp
    refine kfit (hK _ _ (Below.refl _ V) (by first | rfl | simp)) ?_
    first | (simp only [fnsFr, Act.put, List.setIfInBounds_toArray, List.set_cons_zero, List.set_cons_succ, h5, h12, h7, h1, h13, h11, h8, h14, e34, e41, e42]; done) | (simp only [fnsFr, Act.put, List.setIfInBounds_toArray, List.set_cons_zero, List.set_cons_succ, h5, h12, h7, h1, h13, h11, h8, h14, e34, e41, e42]; rfl)
  -- 44: slot 107 := Op.load 29 t106
  refine And.intro ?_ ?_
  · rw [← hf]; clear hf
    refine ⟨by decide +kernel, fun x v => by kernel_rfl, fun x V hV hdep K hK => ?_⟩
    have e34 : x 34 = .bool true := depOf hdep 34 (by decide +kernel)
    have e43 : x 43 = .pointer (some ⟨g, l.length * 3, none⟩) := depOf hdep 43 (by decide +kernel)
    clear hdep
    refine run_guard 34 97 (x 34) (by kernel_rfl) (by rw [hops]; exact fns_dst_34) (by kernel_rfl) e34 ?_; clear hops
    unfold fnsFr
    obtain ⟨⟨⟨y0, y1, y2⟩, ⟨y3, y4, y5⟩⟩, ⟨y6, y7⟩, y8, y9, y10⟩ := FT.cells hV.1
    go_simp
    refine kfit (hK _ _ (Below.refl _ V) rfl) ?_
    first | (simp only [fnsFr, Act.put, List.setIfInBounds_toArray, List.set_cons_zero, List.set_cons_succ, h5, h12, h7, h1, h13, h11, h8, h14, e34, e43]; done) | (simp only [fnsFr, Act.put, List.setIfInBounds_toArray, List.set_cons_zero, List.set_cons_succ, h5, h12, h7, h1, h13, h11, h8, h14, e34, e43]; rfl)
  -- 45: slot 108 := Op.call { value (Operand.func 21), args := #[t103, t107], ar
  refine And.intro ?_ ?_
  · rw [← hf]; clear hf
    refine ⟨by decide +kernel, fun x v => by kernel_rfl, fun x V hV hdep K hK => ?_⟩
    have e34 : x 34 = .bool true := depOf hdep 34 (by decide +kernel)
    obtain ⟨za40, zc40, e40, d40⟩ : ∃ za40 zc40, x 40 = .agg #[.int .i64 (tx).kind, .string (tx).name, .slice za40 (tx).kids.length zc40] ∧ TysAt V (.slice za40 (tx).kids.length zc40) (tx).kids := depOf hdep 40 (by decide +kernel)
    have e44 : x 44 = .agg #[.int .i64 (tx).kind, .string (tx).name, .slice xa (tx).kids.length xc] := depOf hdep 44 (by decide +kernel)
    clear hdep
    refine run_guard 34 97 (x 34) (by kernel_rfl) (by rw [hops]; exact fns_dst_34) (by kernel_rfl) e34 ?_; clear hops
    unfold fnsFr
    obtain ⟨HC6, HC14, HC18, HC40, HC45⟩ := HC.out
    clear HC6 HC14 HC18 HC40
    have H := HC45 V hV _ _ d40
    replace H := Lib.hid H; clear HC45
    go_simp
    go_at_call 21
    refine H.out.mono ?_
    rintro e Y ⟨rfl, hb⟩; refine kfit (hK _ _ hb rfl) ?_
    first | (simp only [fnsFr, Act.put, List.setIfInBounds_toArray, List.set_cons_zero, List.set_cons_succ, h5, h12, h7, h1, h13, h11, h8, h14, e34, e40, e44]; done) | (simp only [fnsFr, Act.put, List.setIfInBounds_toArray, List.set_cons_zero, List.set_cons_succ, h5, h12, h7, h1, h13, h11, h8, h14, e34, e40, e44]; rfl)
  -- 46: slot 109 := Op.pick t97 t108 (const (Value.bool false))
  refine And.intro ?_ ?_
  · rw [← hf]; clear hf
    refine ⟨by decide +kernel, fun x v => by kernel_rfl, fun x V hV hdep K hK => ?_⟩
    have e34 : x 34 = .bool true := depOf hdep 34 (by decide +kernel)
    have e45 : x 45 = .bool true := depOf hdep 45 (by decide +kernel)
    clear hdep
    refine run_bare (by kernel_rfl) ?_
    unfold fnsFr
    go_simp
    refine kfit (hK _ _ (Below.refl _ V) rfl) ?_
    first | (simp only [fnsFr, Act.put, List.setIfInBounds_toArray, List.set_cons_zero, List.set_cons_succ, h5, h12, h7, h1, h13, h11, h8, h14, e34, e45]; done) | (simp only [fnsFr, Act.put, List.setIfInBounds_toArray, List.set_cons_zero, List.set_cons_succ, h5, h12, h7, h1, h13, h11, h8, h14, e34, e45]; rfl)
  -- 47: slot 4 := Op.assign t109
  refine And.intro ?_ ?_
  · rw [← hf]; clear hf
    refine ⟨by decide +kernel, fun x v => by kernel_rfl, fun x V hV hdep K hK => ?_⟩
    have e46 : x 46 = .bool true := depOf hdep 46 (by decide +kernel)
    clear hdep
    refine run_bare (by kernel_rfl) ?_
    unfold fnsFr
    go_simp
    refine kfit (hK _ _ (Below.refl _ V) rfl) ?_
    first | (simp only [fnsFr, Act.put, List.setIfInBounds_toArray, List.set_cons_zero, List.set_cons_succ, h5, h12, h7, h1, h13, h11, h8, h14, e46]; done) | (simp only [fnsFr, Act.put, List.setIfInBounds_toArray, List.set_cons_zero, List.set_cons_succ, h5, h12, h7, h1, h13, h11, h8, h14, e46]; rfl)
  exact trivial
theorem fns_here {w : World} {g b11 b13 b14 sz c : Nat} {l : List T} {tx tf : T} {xa fa ba ua pa : Option Addr} {xc fc bc uc pc : Nat}
    (HC6 : ∀ V, (FT w g b11 b13 b14 l tx tf c xa fa ba xc fc bc ua uc pa pc V ∧ sz + l.length ≤ 1000000 ∧ l.length + 1 ≤ c) → Calls Try.prog 17 #[.slice pa l.length pc, .slice (some ⟨g, 0, none⟩) l.length c] V fun e Y => e = .returned (.bool true) ∧ Below V.heap.size V Y)
    (HC14 : ∀ V, (FT w g b11 b13 b14 l tx tf c xa fa ba xc fc bc ua uc pa pc V ∧ sz + l.length ≤ 1000000 ∧ l.length + 1 ≤ c) → Calls Try.prog 21 #[.agg #[.int .i64 (tx).kind, .string (tx).name, .slice ba (tx).kids.length bc], .agg #[.int .i64 (tx).kind, .string (tx).name, .slice xa (tx).kids.length xc]] V fun e Y => e = .returned (.bool true) ∧ Below V.heap.size V Y)
    (HC18 : ∀ V, (FT w g b11 b13 b14 l tx tf c xa fa ba xc fc bc ua uc pa pc V ∧ sz + l.length ≤ 1000000 ∧ l.length + 1 ≤ c) → Calls Try.prog 15 #[.agg #[.int .i64 (tf).kind, .string (tf).name, .slice fa (tf).kids.length fc]] V fun e Y => e = .returned (.int .i64 ((sz : Int) + (l.length : Int))) ∧ Below V.heap.size V Y)
    (HC40 : ∀ V, (FT w g b11 b13 b14 l tx tf c xa fa ba xc fc bc ua uc pa pc V ∧ sz + l.length ≤ 1000000 ∧ l.length + 1 ≤ c) → ∀ zg39, TysAt V (.slice (some ⟨zg39, 0, none⟩) 1 1) [tx] → Calls Try.prog 24 #[.slice (some ⟨zg39, 0, none⟩) 1 1] V fun e Y => (∃ za zc, e = .returned (.agg #[.int .i64 (tx).kind, .string (tx).name, .slice za (tx).kids.length zc]) ∧ TysAt Y (.slice za (tx).kids.length zc) (tx).kids) ∧ Below V.heap.size V Y)
    (HC45 : ∀ V, (FT w g b11 b13 b14 l tx tf c xa fa ba xc fc bc ua uc pa pc V ∧ sz + l.length ≤ 1000000 ∧ l.length + 1 ≤ c) → ∀ za40, ∀ zc40, TysAt V (.slice za40 (tx).kids.length zc40) (tx).kids → Calls Try.prog 21 #[.agg #[.int .i64 (tx).kind, .string (tx).name, .slice za40 (tx).kids.length zc40], .agg #[.int .i64 (tx).kind, .string (tx).name, .slice xa (tx).kids.length xc]] V fun e Y => e = .returned (.bool true) ∧ Below V.heap.size V Y)
    {Q : Exit → Act → World → Prop} {ops : Array Oper} {a : Act} (X : World) (hops : ops = fnsOps)
    (h5 : a.tmps.getD 5 undef = .bool true) (h12 : a.tmps.getD 12 undef = .slice pa l.length pc) (h7 : a.tmps.getD 7 undef = .slice (some ⟨g, 0, none⟩) (l.length + 1) c) (h1 : a.tmps.getD 1 undef = .int .i64 (l.length : Int)) (h13 : a.tmps.getD 13 undef = .pointer (some ⟨b13, 0, none⟩)) (h11 : a.tmps.getD 11 undef = .pointer (some ⟨b11, 0, none⟩)) (h8 : a.tmps.getD 8 undef = .int .i64 (sz : Int)) (h14 : a.tmps.getD 14 undef = .pointer (some ⟨b14, 0, none⟩))
    (ha : a = fnsFr (fun j => a.tmps.getD j undef) a.defers (fun i => a.tmps.getD (if i = 47 then 4 else 63 + i) undef)) (hS : (FT w g b11 b13 b14 l tx tf c xa fa ba xc fc bc ua uc pa pc X.drew ∧ sz + l.length ≤ 1000000 ∧ l.length + 1 ≤ c))
    (hfin : ∀ x V, (FT w g b11 b13 b14 l tx tf c xa fa ba xc fc bc ua uc pa pc V ∧ sz + l.length ≤ 1000000 ∧ l.length + 1 ≤ c) → x 47 = .bool true → Q .normal (fnsFr (fun j => a.tmps.getD j undef) a.defers x) V) : (Code.region 21 ops true).wp Try.prog Q a X :=
  cast (congrArg (fun z => (Code.region 21 ops true).wp Try.prog Q z X) ha.symm) (fns_region (b := fun j => a.tmps.getD j undef) (d := a.defers) h5 h12 h7 h1 h13 h11 h8 h14 HC6 HC14 HC18 HC40 HC45 hops _ X hS hfin)
end Go.Proofs.Yteoelcefjjmjiaa
