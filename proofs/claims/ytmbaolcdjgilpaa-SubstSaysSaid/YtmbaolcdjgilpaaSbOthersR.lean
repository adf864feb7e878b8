/- SubstOthers: its last statement, a region of 42 operations that draws its order, by an invariant. (Made by a program.) -/
import Derived.Test.YtmbaolcdjgilpaaSbOthersA
namespace Go.Proofs.Ytmbaolcdjgilpaa
open Go.RowKit Go.Sort Go.Lib
attribute [local go_sem] Oper.semAt_some

def regionIn : Nat → Code → Array Oper
  | n, .region id ops _ => if id == n then ops else #[]
  | n, .seq a b => regionIn n a ++ regionIn n b
  | n, .cond _ a b => regionIn n a ++ regionIn n b
  | n, .block _ b => regionIn n b
  | n, .loop b => regionIn n b
  | n, .rangeFunc _ _ a b => regionIn n a ++ regionIn n b
  | n, .scope b => regionIn n b
  | _, _ => #[]
theorem depOf {o : Oper} {Vals : Nat → Value → World → Prop} {x : Nat → Value} {V : World} (h : ∀ e ∈ o.after, Region.binds .any e = true → Vals e.on (x e.on) V) (j : Nat)
    (hj : (o.after.any fun e => Region.binds .any e && e.on == j) = true) : Vals j (x j) V := by
  rw [Array.any_eq_true'] at hj
  obtain ⟨e, he, hj⟩ := hj
  simp only [Bool.and_eq_true, beq_iff_eq] at hj
  have := h e he hj.1
  rw [hj.2] at this; exact this
theorem kfit {K : Act → World → Prop} {a a' : Act} {w : World} (h : K a w) (e : a = a') : K a' w := e ▸ h
theorem run_bare {P : Program} {o : Oper} {ops : Array Oper} {a : Act} {w : World} {K : Act → World → Prop} {Q : Exit → Act → World → Prop} {C : Prop} (hg : o.guard = none) (h : Oper.wp P o a w K Q) :
    if Region.wanted o (yielded ops a.tmps) = true then Oper.wp P o a w K Q else C := by
  rw [if_pos (by simp [Region.wanted, hg])]; exact h
theorem run_guard {P : Program} {o : Oper} {ops : Array Oper} {a : Act} {w : World} {K : Act → World → Prop} {Q : Exit → Act → World → Prop} {C : Prop} (g k : Nat) (v : Value) (hg : o.guard = some (g, true))
    (hk : (ops[g]?).bind (·.dst) = some k) (hv : a.tmps[k]? = some v) (e : v = .bool true) (h : Oper.wp P o a w K Q) :
    if Region.wanted o (yielded ops a.tmps) = true then Oper.wp P o a w K Q else C := by
  rw [if_pos (by simp [Region.wanted, hg, yielded, hk, hv, e])]; exact h
theorem below_a (X : World) (o : Obj) : Below X.heap.size X (X.alloc o) := (Below.refl _ X).alloc (Nat.le_refl _) o
theorem below_d (X : World) : Below X.heap.size X X.drew := (Below.refl _ X).drew

noncomputable def othOps : Array Oper := regionIn 15 (Try.f6.body.getD .skip)
def othFr (b : Nat → Value) (d : List Deferred) (x : Nat → Value) : Act := { tmps := #[b 0, b 1, x 41, b 3, b 4, b 5, b 6, b 7, b 8, b 9, b 10, b 11, b 12, b 13, b 14, b 15, b 16, b 17, b 18, b 19, b 20, b 21, b 22, b 23, b 24, b 25, b 26, b 27, b 28, b 29, b 30, b 31, b 32, b 33, b 34, b 35, b 36, b 37, b 38, b 39, b 40, b 41, x 0, x 1, x 2, x 3, x 4, x 5, x 6, x 7, x 8, x 9, x 10, x 11, x 12, x 13, x 14, x 15, x 16, x 17, x 18, x 19, x 20, x 21, x 22, x 23, x 24, x 25, x 26, x 27, x 28, x 29, x 30, x 31, x 32, x 33, x 34, x 35, x 36, x 37, x 38, x 39, x 40], defers := d }

def othVals (t sw r1 : T) (pa pw : Option Addr) (ca cw : Nat) (sv uv frv tov : Value) (ts : Nat) (i : Nat) (v : Value) (V : World) : Prop :=
  match i with
  | 0 => v = .bool true
  | 1 => v = .bool true
  | 2 => v = .agg #[sv]
  | 3 => v = .agg #[.int .i64 (sw).kind, .string (sw).name, .slice pw (sw).kids.length cw]
  | 4 => ∃ za zc, v = .agg #[.int .i64 (t).kind, .string (t).name, .slice za (t).kids.length zc] ∧ TysAt V (.slice za (t).kids.length zc) (t).kids
  | 5 => v = .agg #[.int .i64 (t).kind, .string (t).name, .slice pa (t).kids.length ca]
  | 6 => v = .bool true
  | 7 => v = .bool true
  | 8 => v = .bool true
  | 9 => v = .agg #[uv]
  | 10 => v = .agg #[.int .i64 (t).kind, .string (t).name, .slice pa (t).kids.length ca]
  | 11 => ∃ za zc, v = .agg #[.int .i64 (t).kind, .string (t).name, .slice za (t).kids.length zc] ∧ TysAt V (.slice za (t).kids.length zc) (t).kids
  | 12 => v = .agg #[.int .i64 (t).kind, .string (t).name, .slice pa (t).kids.length ca]
  | 13 => v = .bool true
  | 14 => v = .bool true
  | 15 => v = .bool true
  | 16 => v = .agg #[.int .i64 (t).kind, .string (t).name, .slice pa (t).kids.length ca]
  | 17 => v = frv
  | 18 => v = tov
  | 19 => ∃ za zc, v = .agg #[.int .i64 (r1).kind, .string (r1).name, .slice za (r1).kids.length zc] ∧ TysAt V (.slice za (r1).kids.length zc) (r1).kids
  | 20 => v = tov
  | 21 => v = frv
  | 22 => ∃ za zc, v = .agg #[.int .i64 (t).kind, .string (t).name, .slice za (t).kids.length zc] ∧ TysAt V (.slice za (t).kids.length zc) (t).kids
  | 23 => v = .agg #[.int .i64 (t).kind, .string (t).name, .slice pa (t).kids.length ca]
  | 24 => v = .bool true
  | 25 => v = .bool true
  | 26 => v = .bool true
  | 27 => v = .agg #[.int .i64 (t).kind, .string (t).name, .slice pa (t).kids.length ca]
  | 28 => ∃ zk, v = .slice (some ⟨zk, 0, none⟩) 2 2 ∧ StrsP (.slice (some ⟨zk, 0, none⟩) 2 2) [⟨#[97]⟩, ⟨#[98]⟩] V
  | 29 => ∃ zk, v = .slice (some ⟨zk, 0, none⟩) 2 2 ∧ StrsP (.slice (some ⟨zk, 0, none⟩) 2 2) [⟨#[98]⟩, ⟨#[97]⟩] V
  | 30 => ∃ za zc, v = .agg #[.int .i64 (sw).kind, .string (sw).name, .slice za (sw).kids.length zc] ∧ TysAt V (.slice za (sw).kids.length zc) (sw).kids
  | 31 => v = .agg #[.int .i64 (sw).kind, .string (sw).name, .slice pw (sw).kids.length cw]
  | 32 => v = .bool true
  | 33 => v = .bool true
  | 34 => v = .bool true
  | 35 => v = .agg #[.int .i64 (sw).kind, .string (sw).name, .slice pw (sw).kids.length cw]
  | 36 => v = .int .i64 (ts : Nat)
  | 37 => v = .agg #[.int .i64 (t).kind, .string (t).name, .slice pa (t).kids.length ca]
  | 38 => v = .int .i64 (ts : Nat)
  | 39 => v = .bool true
  | 40 => v = .bool true
  | 41 => v = .bool true
  | _ => True

theorem othVals_keep {t sw r1 : T} {pa pw : Option Addr} {ca cw : Nat} {sv uv frv tov : Value} {ts : Nat} (i : Nat) (v : Value) (V Y : World) (h : othVals t sw r1 pa pw ca cw sv uv frv tov ts i v V) (hb : Below V.heap.size V Y) : othVals t sw r1 pa pw ca cw sv uv frv tov ts i v Y := by
  unfold othVals at *
  split at h <;> first
    | exact h
    | (obtain ⟨za, zc, e, h⟩ := h; exact ⟨za, zc, e, h.keep (KeepT.of_below hb)⟩)
    | (obtain ⟨zk, e, h⟩ := h; exact ⟨zk, e, h.below hb⟩)

theorem oth_size : othOps.size = 42 := by kernel_rfl
theorem oth_dst_1 : (othOps[1]?).bind (·.dst) = some 43 := by kernel_rfl
theorem oth_dst_8 : (othOps[8]?).bind (·.dst) = some 50 := by kernel_rfl
theorem oth_dst_15 : (othOps[15]?).bind (·.dst) = some 57 := by kernel_rfl
theorem oth_dst_26 : (othOps[26]?).bind (·.dst) = some 68 := by kernel_rfl
theorem oth_dst_34 : (othOps[34]?).bind (·.dst) = some 76 := by kernel_rfl
set_option linter.unusedSimpArgs false in
set_option maxRecDepth 100000 in
set_option maxHeartbeats 8000000 in
theorem oth_region {w : World} {b5 b8 b9 b12 : Nat} {t sw r1 : T} {pa pw : Option Addr} {ca cw : Nat} {sv uv frv tov : Value} {ls lu : List PR} {ts : Nat} {b : Nat → Value} {d : List Deferred}
    (h3 : b 3 = .bool true) (h5 : b 5 = .pointer (some ⟨b5, 0, none⟩)) (h8 : b 8 = .pointer (some ⟨b8, 0, none⟩)) (h9 : b 9 = .pointer (some ⟨b9, 0, none⟩)) (h10 : b 10 = frv) (h11 : b 11 = tov) (h12 : b 12 = .pointer (some ⟨b12, 0, none⟩))
    (HC4 : ∀ V, SO w b5 b8 b9 b12 t sw pa pw ca cw sv uv frv tov ls lu V → Calls Try.prog 16 #[.agg #[sv], .agg #[.int .i64 (sw).kind, .string (sw).name, .slice pw (sw).kids.length cw]] V fun e Y => (∃ za zc, e = .returned (.agg #[.int .i64 (t).kind, .string (t).name, .slice za (t).kids.length zc]) ∧ TysAt Y (.slice za (t).kids.length zc) (t).kids) ∧ Below V.heap.size V Y)
    (HC6 : ∀ V, SO w b5 b8 b9 b12 t sw pa pw ca cw sv uv frv tov ls lu V → ∀ za4, ∀ zc4, TysAt V (.slice za4 (t).kids.length zc4) (t).kids → Calls Try.prog 15 #[.agg #[.int .i64 (t).kind, .string (t).name, .slice za4 (t).kids.length zc4], .agg #[.int .i64 (t).kind, .string (t).name, .slice pa (t).kids.length ca]] V fun e Y => e = .returned (.bool true) ∧ Below V.heap.size V Y)
    (HC11 : ∀ V, SO w b5 b8 b9 b12 t sw pa pw ca cw sv uv frv tov ls lu V → Calls Try.prog 16 #[.agg #[uv], .agg #[.int .i64 (t).kind, .string (t).name, .slice pa (t).kids.length ca]] V fun e Y => (∃ za zc, e = .returned (.agg #[.int .i64 (t).kind, .string (t).name, .slice za (t).kids.length zc]) ∧ TysAt Y (.slice za (t).kids.length zc) (t).kids) ∧ Below V.heap.size V Y)
    (HC13 : ∀ V, SO w b5 b8 b9 b12 t sw pa pw ca cw sv uv frv tov ls lu V → ∀ za11, ∀ zc11, TysAt V (.slice za11 (t).kids.length zc11) (t).kids → Calls Try.prog 15 #[.agg #[.int .i64 (t).kind, .string (t).name, .slice za11 (t).kids.length zc11], .agg #[.int .i64 (t).kind, .string (t).name, .slice pa (t).kids.length ca]] V fun e Y => e = .returned (.bool true) ∧ Below V.heap.size V Y)
    (HC19 : ∀ V, SO w b5 b8 b9 b12 t sw pa pw ca cw sv uv frv tov ls lu V → Calls Try.prog 21 #[.agg #[.int .i64 (t).kind, .string (t).name, .slice pa (t).kids.length ca], frv, tov] V fun e Y => (∃ za zc, e = .returned (.agg #[.int .i64 (r1).kind, .string (r1).name, .slice za (r1).kids.length zc]) ∧ TysAt Y (.slice za (r1).kids.length zc) (r1).kids) ∧ Below V.heap.size V Y)
    (HC22 : ∀ V, SO w b5 b8 b9 b12 t sw pa pw ca cw sv uv frv tov ls lu V → ∀ za19, ∀ zc19, TysAt V (.slice za19 (r1).kids.length zc19) (r1).kids → Calls Try.prog 21 #[.agg #[.int .i64 (r1).kind, .string (r1).name, .slice za19 (r1).kids.length zc19], tov, frv] V fun e Y => (∃ za zc, e = .returned (.agg #[.int .i64 (t).kind, .string (t).name, .slice za (t).kids.length zc]) ∧ TysAt Y (.slice za (t).kids.length zc) (t).kids) ∧ Below V.heap.size V Y)
    (HC24 : ∀ V, SO w b5 b8 b9 b12 t sw pa pw ca cw sv uv frv tov ls lu V → ∀ za22, ∀ zc22, TysAt V (.slice za22 (t).kids.length zc22) (t).kids → Calls Try.prog 15 #[.agg #[.int .i64 (t).kind, .string (t).name, .slice za22 (t).kids.length zc22], .agg #[.int .i64 (t).kind, .string (t).name, .slice pa (t).kids.length ca]] V fun e Y => e = .returned (.bool true) ∧ Below V.heap.size V Y)
    (HC30 : ∀ V, SO w b5 b8 b9 b12 t sw pa pw ca cw sv uv frv tov ls lu V → ∀ zk28, StrsP (.slice (some ⟨zk28, 0, none⟩) 2 2) [⟨#[97]⟩, ⟨#[98]⟩] V → ∀ zk29, StrsP (.slice (some ⟨zk29, 0, none⟩) 2 2) [⟨#[98]⟩, ⟨#[97]⟩] V → Calls Try.prog 21 #[.agg #[.int .i64 (t).kind, .string (t).name, .slice pa (t).kids.length ca], .slice (some ⟨zk28, 0, none⟩) 2 2, .slice (some ⟨zk29, 0, none⟩) 2 2] V fun e Y => (∃ za zc, e = .returned (.agg #[.int .i64 (sw).kind, .string (sw).name, .slice za (sw).kids.length zc]) ∧ TysAt Y (.slice za (sw).kids.length zc) (sw).kids) ∧ Below V.heap.size V Y)
    (HC32 : ∀ V, SO w b5 b8 b9 b12 t sw pa pw ca cw sv uv frv tov ls lu V → ∀ za30, ∀ zc30, TysAt V (.slice za30 (sw).kids.length zc30) (sw).kids → Calls Try.prog 15 #[.agg #[.int .i64 (sw).kind, .string (sw).name, .slice za30 (sw).kids.length zc30], .agg #[.int .i64 (sw).kind, .string (sw).name, .slice pw (sw).kids.length cw]] V fun e Y => e = .returned (.bool true) ∧ Below V.heap.size V Y)
    (HC36 : ∀ V, SO w b5 b8 b9 b12 t sw pa pw ca cw sv uv frv tov ls lu V → Calls Try.prog 24 #[.agg #[.int .i64 (sw).kind, .string (sw).name, .slice pw (sw).kids.length cw]] V fun e Y => e = .returned (.int .i64 (ts : Nat)) ∧ Below V.heap.size V Y)
    (HC38 : ∀ V, SO w b5 b8 b9 b12 t sw pa pw ca cw sv uv frv tov ls lu V → Calls Try.prog 24 #[.agg #[.int .i64 (t).kind, .string (t).name, .slice pa (t).kids.length ca]] V fun e Y => e = .returned (.int .i64 (ts : Nat)) ∧ Below V.heap.size V Y)
    {Q : Exit → Act → World → Prop} {ops : Array Oper} (hops : ops = othOps) (x0 : Nat → Value) (X : World) (hS : SO w b5 b8 b9 b12 t sw pa pw ca cw sv uv frv tov ls lu X.drew)
    (hfin : ∀ x V, SO w b5 b8 b9 b12 t sw pa pw ca cw sv uv frv tov ls lu V → x 41 = .bool true → Q .normal (othFr b d x) V) : (Code.region 15 ops true).wp Try.prog Q (othFr b d x0) X := by
  have HC := Lib.hid (And.intro HC4 (And.intro HC6 (And.intro HC11 (And.intro HC13 (And.intro HC19 (And.intro HC22 (And.intro HC24 (And.intro HC30 (And.intro HC32 (And.intro HC36 HC38))))))))))
  clear HC4 HC6 HC11 HC13 HC19 HC22 HC24 HC30 HC32 HC36 HC38
  refine region_inv (othFr b d) (fun V => SO w b5 b8 b9 b12 t sw pa pw ca cw sv uv frv tov ls lu V) (fun V Y => Below V.heap.size V Y) (othVals t sw r1 pa pw ca cw sv uv frv tov ts) x0 (by kernel_rfl) rfl hS (fun V Y h hb => h.below hb) (fun i v V Y _ h hb => othVals_keep i v V Y h hb) ?_ (fun x V hV h => hfin x V hV (h 41 (by rw [hops, oth_size]; decide)))
  clear hfin hS
  obtain ⟨f, hf⟩ : ∃ f, StepAt Try.prog (othFr b d) (fun V => SO w b5 b8 b9 b12 t sw pa pw ca cw sv uv frv tov ls lu V) (fun V Y => Below V.heap.size V Y) (othVals t sw r1 pa pw ca cw sv uv frv tov ts) ops Q = f := ⟨_, rfl⟩
  rw [hf, hops]
  simp only [othOps, Try.f6, regionIn, Option.getD_some, Nat.reduceBEq, Bool.false_eq_true, if_false, if_true, beq_self_eq_true, Array.append_empty, Array.empty_append, List.append_eq, List.cons_append, List.nil_append, AllAt, Nat.reduceAdd, Nat.zero_add]
  -- 0: slot 42 := Op.move t3
  refine And.intro ?_ ?_
  · rw [← hf]; clear hf
    refine ⟨by decide +kernel, fun x v => by kernel_rfl, fun x V hV hdep K hK => ?_⟩
    clear hdep
    refine run_bare (by kernel_rfl) ?_
    unfold othFr
    go_simp
    refine kfit (hK _ _ (Below.refl _ V) rfl) ?_
    first | (simp only [othFr, Act.put, List.setIfInBounds_toArray, List.set_cons_zero, List.set_cons_succ, h3, h5, h8, h9, h10, h11, h12]; done) | (simp only [othFr, Act.put, List.setIfInBounds_toArray, List.set_cons_zero, List.set_cons_succ, h3, h5, h8, h9, h10, h11, h12]; rfl)
  -- 1: slot 43 := Op.move t42
  refine And.intro ?_ ?_
  · rw [← hf]; clear hf
    refine ⟨by decide +kernel, fun x v => by kernel_rfl, fun x V hV hdep K hK => ?_⟩
    have e0 : x 0 = .bool true := depOf hdep 0 (by decide +kernel)
    clear hdep
    refine run_bare (by kernel_rfl) ?_
    unfold othFr
    go_simp
    refine kfit (hK _ _ (Below.refl _ V) rfl) ?_
    first | (simp only [othFr, Act.put, List.setIfInBounds_toArray, List.set_cons_zero, List.set_cons_succ, h3, h5, h8, h9, h10, h11, h12, e0]; done) | (simp only [othFr, Act.put, List.setIfInBounds_toArray, List.set_cons_zero, List.set_cons_succ, h3, h5, h8, h9, h10, h11, h12, e0]; rfl)
  -- 2: slot 44 := Op.load 39 t8
  refine And.intro ?_ ?_
  · rw [← hf]; clear hf
    refine ⟨by decide +kernel, fun x v => by kernel_rfl, fun x V hV hdep K hK => ?_⟩
    have e1 : x 1 = .bool true := depOf hdep 1 (by decide +kernel)
    clear hdep
    refine run_guard 1 43 (x 1) (by kernel_rfl) (by rw [hops]; exact oth_dst_1) (by kernel_rfl) e1 ?_; clear hops
    unfold othFr
    obtain ⟨⟨y0, y1, y2⟩, ⟨y3, y4, y5⟩, y6, y7⟩ := SO.cells hV
    go_simp
    refine kfit (hK _ _ (Below.refl _ V) rfl) ?_
    first | (simp only [othFr, Act.put, List.setIfInBounds_toArray, List.set_cons_zero, List.set_cons_succ, h3, h5, h8, h9, h10, h11, h12, e1]; done) | (simp only [othFr, Act.put, List.setIfInBounds_toArray, List.set_cons_zero, List.set_cons_succ, h3, h5, h8, h9, h10, h11, h12, e1]; rfl)
  -- 3: slot 45 := Op.load 34 t12
  refine And.intro ?_ ?_
  · rw [← hf]; clear hf
    refine ⟨by decide +kernel, fun x v => by kernel_rfl, fun x V hV hdep K hK => ?_⟩
    have e1 : x 1 = .bool true := depOf hdep 1 (by decide +kernel)
    clear hdep
    refine run_guard 1 43 (x 1) (by kernel_rfl) (by rw [hops]; exact oth_dst_1) (by kernel_rfl) e1 ?_; clear hops
    unfold othFr
    obtain ⟨⟨y0, y1, y2⟩, ⟨y3, y4, y5⟩, y6, y7⟩ := SO.cells hV
    go_simp
    refine kfit (hK _ _ (Below.refl _ V) rfl) ?_
    first | (simp only [othFr, Act.put, List.setIfInBounds_toArray, List.set_cons_zero, List.set_cons_succ, h3, h5, h8, h9, h10, h11, h12, e1]; done) | (simp only [othFr, Act.put, List.setIfInBounds_toArray, List.set_cons_zero, List.set_cons_succ, h3, h5, h8, h9, h10, h11, h12, e1]; rfl)
  -- 4: slot 46 := Op.call { value (Operand.func 16), args := #[t44, t45], argT
  refine And.intro ?_ ?_
  · rw [← hf]; clear hf
    refine ⟨by decide +kernel, fun x v => by kernel_rfl, fun x V hV hdep K hK => ?_⟩
    have e1 : x 1 = .bool true := depOf hdep 1 (by decide +kernel)
    have e2 : x 2 = .agg #[sv] := depOf hdep 2 (by decide +kernel)
    have e3 : x 3 = .agg #[.int .i64 (sw).kind, .string (sw).name, .slice pw (sw).kids.length cw] := depOf hdep 3 (by decide +kernel)
    clear hdep
    refine run_guard 1 43 (x 1) (by kernel_rfl) (by rw [hops]; exact oth_dst_1) (by kernel_rfl) e1 ?_; clear hops
    unfold othFr
    obtain ⟨HC4, HC6, HC11, HC13, HC19, HC22, HC24, HC30, HC32, HC36, HC38⟩ := HC.out
    clear HC6 HC11 HC13 HC19 HC22 HC24 HC30 HC32 HC36 HC38
    have H := HC4 V hV
    replace H := Lib.hid H; clear HC4
    go_simp
    go_at_call 16
    refine H.out.mono ?_
    rintro e Y ⟨⟨za, zc, rfl, hq⟩, hb⟩; refine kfit (hK _ _ hb ⟨za, zc, rfl, hq⟩) ?_
    first | (simp only [othFr, Act.put, List.setIfInBounds_toArray, List.set_cons_zero, List.set_cons_succ, h3, h5, h8, h9, h10, h11, h12, e1, e2, e3]; done) | (simp only [othFr, Act.put, List.setIfInBounds_toArray, List.set_cons_zero, List.set_cons_succ, h3, h5, h8, h9, h10, h11, h12, e1, e2, e3]; rfl)
  -- 5: slot 47 := Op.load 34 t5
  refine And.intro ?_ ?_
  · rw [← hf]; clear hf
    refine ⟨by decide +kernel, fun x v => by kernel_rfl, fun x V hV hdep K hK => ?_⟩
    have e1 : x 1 = .bool true := depOf hdep 1 (by decide +kernel)
    clear hdep
    refine run_guard 1 43 (x 1) (by kernel_rfl) (by rw [hops]; exact oth_dst_1) (by kernel_rfl) e1 ?_; clear hops
    unfold othFr
    obtain ⟨⟨y0, y1, y2⟩, ⟨y3, y4, y5⟩, y6, y7⟩ := SO.cells hV
    go_simp
    refine kfit (hK _ _ (Below.refl _ V) rfl) ?_
    first | (simp only [othFr, Act.put, List.setIfInBounds_toArray, List.set_cons_zero, List.set_cons_succ, h3, h5, h8, h9, h10, h11, h12, e1]; done) | (simp only [othFr, Act.put, List.setIfInBounds_toArray, List.set_cons_zero, List.set_cons_succ, h3, h5, h8, h9, h10, h11, h12, e1]; rfl)
  -- 6: slot 48 := Op.call { value (Operand.func 15), args := #[t46, t47], argT
  refine And.intro ?_ ?_
  · rw [← hf]; clear hf
    refine ⟨by decide +kernel, fun x v => by kernel_rfl, fun x V hV hdep K hK => ?_⟩
    have e1 : x 1 = .bool true := depOf hdep 1 (by decide +kernel)
    obtain ⟨za4, zc4, e4, d4⟩ : ∃ za4 zc4, x 4 = .agg #[.int .i64 (t).kind, .string (t).name, .slice za4 (t).kids.length zc4] ∧ TysAt V (.slice za4 (t).kids.length zc4) (t).kids := depOf hdep 4 (by decide +kernel)
    have e5 : x 5 = .agg #[.int .i64 (t).kind, .string (t).name, .slice pa (t).kids.length ca] := depOf hdep 5 (by decide +kernel)
    clear hdep
    refine run_guard 1 43 (x 1) (by kernel_rfl) (by rw [hops]; exact oth_dst_1) (by kernel_rfl) e1 ?_; clear hops
    unfold othFr
    obtain ⟨HC4, HC6, HC11, HC13, HC19, HC22, HC24, HC30, HC32, HC36, HC38⟩ := HC.out
    clear HC4 HC11 HC13 HC19 HC22 HC24 HC30 HC32 HC36 HC38
    have H := HC6 V hV _ _ d4
    replace H := Lib.hid H; clear HC6
    go_simp
    go_at_call 15
    refine H.out.mono ?_
    rintro e Y ⟨rfl, hb⟩; refine kfit (hK _ _ hb rfl) ?_
    first | (simp only [othFr, Act.put, List.setIfInBounds_toArray, List.set_cons_zero, List.set_cons_succ, h3, h5, h8, h9, h10, h11, h12, e1, e4, e5]; done) | (simp only [othFr, Act.put, List.setIfInBounds_toArray, List.set_cons_zero, List.set_cons_succ, h3, h5, h8, h9, h10, h11, h12, e1, e4, e5]; rfl)
  -- 7: slot 49 := Op.pick t43 t48 (const (Value.bool false))
  refine And.intro ?_ ?_
  · rw [← hf]; clear hf
    refine ⟨by decide +kernel, fun x v => by kernel_rfl, fun x V hV hdep K hK => ?_⟩
    have e1 : x 1 = .bool true := depOf hdep 1 (by decide +kernel)
    have e6 : x 6 = .bool true := depOf hdep 6 (by decide +kernel)
    clear hdep
    refine run_bare (by kernel_rfl) ?_
    unfold othFr
    go_simp
    refine kfit (hK _ _ (Below.refl _ V) rfl) ?_
    first | (simp only [othFr, Act.put, List.setIfInBounds_toArray, List.set_cons_zero, List.set_cons_succ, h3, h5, h8, h9, h10, h11, h12, e1, e6]; done) | (simp only [othFr, Act.put, List.setIfInBounds_toArray, List.set_cons_zero, List.set_cons_succ, h3, h5, h8, h9, h10, h11, h12, e1, e6]; rfl)
  -- 8: slot 50 := Op.move t49
  refine And.intro ?_ ?_
  · rw [← hf]; clear hf
    refine ⟨by decide +kernel, fun x v => by kernel_rfl, fun x V hV hdep K hK => ?_⟩
    have e7 : x 7 = .bool true := depOf hdep 7 (by decide +kernel)
    clear hdep
    refine run_bare (by kernel_rfl) ?_
    unfold othFr
    go_simp
    refine kfit (hK _ _ (Below.refl _ V) rfl) ?_
    first | (simp only [othFr, Act.put, List.setIfInBounds_toArray, List.set_cons_zero, List.set_cons_succ, h3, h5, h8, h9, h10, h11, h12, e7]; done) | (simp only [othFr, Act.put, List.setIfInBounds_toArray, List.set_cons_zero, List.set_cons_succ, h3, h5, h8, h9, h10, h11, h12, e7]; rfl)
  -- 9: slot 51 := Op.load 39 t9
  refine And.intro ?_ ?_
  · rw [← hf]; clear hf
    refine ⟨by decide +kernel, fun x v => by kernel_rfl, fun x V hV hdep K hK => ?_⟩
    have e8 : x 8 = .bool true := depOf hdep 8 (by decide +kernel)
    clear hdep
    refine run_guard 8 50 (x 8) (by kernel_rfl) (by rw [hops]; exact oth_dst_8) (by kernel_rfl) e8 ?_; clear hops
    unfold othFr
    obtain ⟨⟨y0, y1, y2⟩, ⟨y3, y4, y5⟩, y6, y7⟩ := SO.cells hV
    go_simp
    refine kfit (hK _ _ (Below.refl _ V) rfl) ?_
    first | (simp only [othFr, Act.put, List.setIfInBounds_toArray, List.set_cons_zero, List.set_cons_succ, h3, h5, h8, h9, h10, h11, h12, e8]; done) | (simp only [othFr, Act.put, List.setIfInBounds_toArray, List.set_cons_zero, List.set_cons_succ, h3, h5, h8, h9, h10, h11, h12, e8]; rfl)
  -- 10: slot 52 := Op.load 34 t5
  refine And.intro ?_ ?_
  · rw [← hf]; clear hf
    refine ⟨by decide +kernel, fun x v => by kernel_rfl, fun x V hV hdep K hK => ?_⟩
    have e8 : x 8 = .bool true := depOf hdep 8 (by decide +kernel)
    clear hdep
    refine run_guard 8 50 (x 8) (by kernel_rfl) (by rw [hops]; exact oth_dst_8) (by kernel_rfl) e8 ?_; clear hops
    unfold othFr
    obtain ⟨⟨y0, y1, y2⟩, ⟨y3, y4, y5⟩, y6, y7⟩ := SO.cells hV
    go_simp
    refine kfit (hK _ _ (Below.refl _ V) rfl) ?_
    first | (simp only [othFr, Act.put, List.setIfInBounds_toArray, List.set_cons_zero, List.set_cons_succ, h3, h5, h8, h9, h10, h11, h12, e8]; done) | (simp only [othFr, Act.put, List.setIfInBounds_toArray, List.set_cons_zero, List.set_cons_succ, h3, h5, h8, h9, h10, h11, h12, e8]; rfl)
  -- 11: slot 53 := Op.call { value (Operand.func 16), args := #[t51, t52], argT
  refine And.intro ?_ ?_
  · rw [← hf]; clear hf
    refine ⟨by decide +kernel, fun x v => by kernel_rfl, fun x V hV hdep K hK => ?_⟩
    have e8 : x 8 = .bool true := depOf hdep 8 (by decide +kernel)
    have e9 : x 9 = .agg #[uv] := depOf hdep 9 (by decide +kernel)
    have e10 : x 10 = .agg #[.int .i64 (t).kind, .string (t).name, .slice pa (t).kids.length ca] := depOf hdep 10 (by decide +kernel)
    clear hdep
    refine run_guard 8 50 (x 8) (by kernel_rfl) (by rw [hops]; exact oth_dst_8) (by kernel_rfl) e8 ?_; clear hops
    unfold othFr
    obtain ⟨HC4, HC6, HC11, HC13, HC19, HC22, HC24, HC30, HC32, HC36, HC38⟩ := HC.out
    clear HC4 HC6 HC13 HC19 HC22 HC24 HC30 HC32 HC36 HC38
    have H := HC11 V hV
    replace H := Lib.hid H; clear HC11
    go_simp
    go_at_call 16
    refine H.out.mono ?_
    rintro e Y ⟨⟨za, zc, rfl, hq⟩, hb⟩; refine kfit (hK _ _ hb ⟨za, zc, rfl, hq⟩) ?_
    first | (simp only [othFr, Act.put, List.setIfInBounds_toArray, List.set_cons_zero, List.set_cons_succ, h3, h5, h8, h9, h10, h11, h12, e8, e9, e10]; done) | (simp only [othFr, Act.put, List.setIfInBounds_toArray, List.set_cons_zero, List.set_cons_succ, h3, h5, h8, h9, h10, h11, h12, e8, e9, e10]; rfl)
  -- 12: slot 54 := Op.load 34 t5
  refine And.intro ?_ ?_
  · rw [← hf]; clear hf
    refine ⟨by decide +kernel, fun x v => by kernel_rfl, fun x V hV hdep K hK => ?_⟩
    have e8 : x 8 = .bool true := depOf hdep 8 (by decide +kernel)
    clear hdep
    refine run_guard 8 50 (x 8) (by kernel_rfl) (by rw [hops]; exact oth_dst_8) (by kernel_rfl) e8 ?_; clear hops
    unfold othFr
    obtain ⟨⟨y0, y1, y2⟩, ⟨y3, y4, y5⟩, y6, y7⟩ := SO.cells hV
    go_simp
    refine kfit (hK _ _ (Below.refl _ V) rfl) ?_
    first | (simp only [othFr, Act.put, List.setIfInBounds_toArray, List.set_cons_zero, List.set_cons_succ, h3, h5, h8, h9, h10, h11, h12, e8]; done) | (simp only [othFr, Act.put, List.setIfInBounds_toArray, List.set_cons_zero, List.set_cons_succ, h3, h5, h8, h9, h10, h11, h12, e8]; rfl)
  -- 13: slot 55 := Op.call { value (Operand.func 15), args := #[t53, t54], argT
  refine And.intro ?_ ?_
  · rw [← hf]; clear hf
    refine ⟨by decide +kernel, fun x v => by kernel_rfl, fun x V hV hdep K hK => ?_⟩
    have e8 : x 8 = .bool true := depOf hdep 8 (by decide +kernel)
    obtain ⟨za11, zc11, e11, d11⟩ : ∃ za11 zc11, x 11 = .agg #[.int .i64 (t).kind, .string (t).name, .slice za11 (t).kids.length zc11] ∧ TysAt V (.slice za11 (t).kids.length zc11) (t).kids := depOf hdep 11 (by decide +kernel)
    have e12 : x 12 = .agg #[.int .i64 (t).kind, .string (t).name, .slice pa (t).kids.length ca] := depOf hdep 12 (by decide +kernel)
    clear hdep
    refine run_guard 8 50 (x 8) (by kernel_rfl) (by rw [hops]; exact oth_dst_8) (by kernel_rfl) e8 ?_; clear hops
    unfold othFr
    obtain ⟨HC4, HC6, HC11, HC13, HC19, HC22, HC24, HC30, HC32, HC36, HC38⟩ := HC.out
    clear HC4 HC6 HC11 HC19 HC22 HC24 HC30 HC32 HC36 HC38
    have H := HC13 V hV _ _ d11
    replace H := Lib.hid H; clear HC13
    go_simp
    go_at_call 15
    refine H.out.mono ?_
    rintro e Y ⟨rfl, hb⟩; refine kfit (hK _ _ hb rfl) ?_
    first | (simp only [othFr, Act.put, List.setIfInBounds_toArray, List.set_cons_zero, List.set_cons_succ, h3, h5, h8, h9, h10, h11, h12, e8, e11, e12]; done) | (simp only [othFr, Act.put, List.setIfInBounds_toArray, List.set_cons_zero, List.set_cons_succ, h3, h5, h8, h9, h10, h11, h12, e8, e11, e12]; rfl)
  -- 14: slot 56 := Op.pick t50 t55 (const (Value.bool false))
  refine And.intro ?_ ?_
  · rw [← hf]; clear hf
    refine ⟨by decide +kernel, fun x v => by kernel_rfl, fun x V hV hdep K hK => ?_⟩
    have e8 : x 8 = .bool true := depOf hdep 8 (by decide +kernel)
    have e13 : x 13 = .bool true := depOf hdep 13 (by decide +kernel)
    clear hdep
    refine run_bare (by kernel_rfl) ?_
    unfold othFr
    go_simp
    refine kfit (hK _ _ (Below.refl _ V) rfl) ?_
    first | (simp only [othFr, Act.put, List.setIfInBounds_toArray, List.set_cons_zero, List.set_cons_succ, h3, h5, h8, h9, h10, h11, h12, e8, e13]; done) | (simp only [othFr, Act.put, List.setIfInBounds_toArray, List.set_cons_zero, List.set_cons_succ, h3, h5, h8, h9, h10, h11, h12, e8, e13]; rfl)
  -- 15: slot 57 := Op.move t56
  refine And.intro ?_ ?_
  · rw [← hf]; clear hf
    refine ⟨by decide +kernel, fun x v => by kernel_rfl, fun x V hV hdep K hK => ?_⟩
    have e14 : x 14 = .bool true := depOf hdep 14 (by decide +kernel)
    clear hdep
    refine run_bare (by kernel_rfl) ?_
    unfold othFr
    go_simp
    refine kfit (hK _ _ (Below.refl _ V) rfl) ?_
    first | (simp only [othFr, Act.put, List.setIfInBounds_toArray, List.set_cons_zero, List.set_cons_succ, h3, h5, h8, h9, h10, h11, h12, e14]; done) | (simp only [othFr, Act.put, List.setIfInBounds_toArray, List.set_cons_zero, List.set_cons_succ, h3, h5, h8, h9, h10, h11, h12, e14]; rfl)
  -- 16: slot 58 := Op.load 34 t5
  refine And.intro ?_ ?_
  · rw [← hf]; clear hf
    refine ⟨by decide +kernel, fun x v => by kernel_rfl, fun x V hV hdep K hK => ?_⟩
    have e15 : x 15 = .bool true := depOf hdep 15 (by decide +kernel)
    clear hdep
    refine run_guard 15 57 (x 15) (by kernel_rfl) (by rw [hops]; exact oth_dst_15) (by kernel_rfl) e15 ?_; clear hops
    unfold othFr
    obtain ⟨⟨y0, y1, y2⟩, ⟨y3, y4, y5⟩, y6, y7⟩ := SO.cells hV
    go_simp
    refine kfit (hK _ _ (Below.refl _ V) rfl) ?_
    first | (simp only [othFr, Act.put, List.setIfInBounds_toArray, List.set_cons_zero, List.set_cons_succ, h3, h5, h8, h9, h10, h11, h12, e15]; done) | (simp only [othFr, Act.put, List.setIfInBounds_toArray, List.set_cons_zero, List.set_cons_succ, h3, h5, h8, h9, h10, h11, h12, e15]; rfl)
  -- 17: slot 59 := Op.move t10
  refine And.intro ?_ ?_
  · rw [← hf]; clear hf
    refine ⟨by decide +kernel, fun x v => by kernel_rfl, fun x V hV hdep K hK => ?_⟩
    have e15 : x 15 = .bool true := depOf hdep 15 (by decide +kernel)
    clear hdep
    refine run_guard 15 57 (x 15) (by kernel_rfl) (by rw [hops]; exact oth_dst_15) (by kernel_rfl) e15 ?_; clear hops
    unfold othFr
    go_simp
    refine kfit (hK _ _ (Below.refl _ V) rfl) ?_
    first | (simp only [othFr, Act.put, List.setIfInBounds_toArray, List.set_cons_zero, List.set_cons_succ, h3, h5, h8, h9, h10, h11, h12, e15]; done) | (simp only [othFr, Act.put, List.setIfInBounds_toArray, List.set_cons_zero, List.set_cons_succ, h3, h5, h8, h9, h10, h11, h12, e15]; rfl)
  -- 18: slot 60 := Op.move t11
  refine And.intro ?_ ?_
  · rw [← hf]; clear hf
    refine ⟨by decide +kernel, fun x v => by kernel_rfl, fun x V hV hdep K hK => ?_⟩
    have e15 : x 15 = .bool true := depOf hdep 15 (by decide +kernel)
    clear hdep
    refine run_guard 15 57 (x 15) (by kernel_rfl) (by rw [hops]; exact oth_dst_15) (by kernel_rfl) e15 ?_; clear hops
    unfold othFr
    go_simp
    refine kfit (hK _ _ (Below.refl _ V) rfl) ?_
    first | (simp only [othFr, Act.put, List.setIfInBounds_toArray, List.set_cons_zero, List.set_cons_succ, h3, h5, h8, h9, h10, h11, h12, e15]; done) | (simp only [othFr, Act.put, List.setIfInBounds_toArray, List.set_cons_zero, List.set_cons_succ, h3, h5, h8, h9, h10, h11, h12, e15]; rfl)
  -- 19: slot 61 := Op.call { value (Operand.func 21), args := #[t58, t59, t60],
  refine And.intro ?_ ?_
  · rw [← hf]; clear hf
    refine ⟨by decide +kernel, fun x v => by kernel_rfl, fun x V hV hdep K hK => ?_⟩
    have e15 : x 15 = .bool true := depOf hdep 15 (by decide +kernel)
    have e16 : x 16 = .agg #[.int .i64 (t).kind, .string (t).name, .slice pa (t).kids.length ca] := depOf hdep 16 (by decide +kernel)
    have e17 : x 17 = frv := depOf hdep 17 (by decide +kernel)
    have e18 : x 18 = tov := depOf hdep 18 (by decide +kernel)
    clear hdep
    refine run_guard 15 57 (x 15) (by kernel_rfl) (by rw [hops]; exact oth_dst_15) (by kernel_rfl) e15 ?_; clear hops
    unfold othFr
    obtain ⟨HC4, HC6, HC11, HC13, HC19, HC22, HC24, HC30, HC32, HC36, HC38⟩ := HC.out
    clear HC4 HC6 HC11 HC13 HC22 HC24 HC30 HC32 HC36 HC38
    have H := HC19 V hV
    replace H := Lib.hid H; clear HC19
    go_simp
    go_at_call 21
    refine H.out.mono ?_
    rintro e Y ⟨⟨za, zc, rfl, hq⟩, hb⟩; refine kfit (hK _ _ hb ⟨za, zc, rfl, hq⟩) ?_
    first | (simp only [othFr, Act.put, List.setIfInBounds_toArray, List.set_cons_zero, List.set_cons_succ, h3, h5, h8, h9, h10, h11, h12, e15, e16, e17, e18]; done) | (simp only [othFr, Act.put, List.setIfInBounds_toArray, List.set_cons_zero, List.set_cons_succ, h3, h5, h8, h9, h10, h11, h12, e15, e16, e17, e18]; rfl)
  -- 20: slot 62 := Op.move t11
  refine And.intro ?_ ?_
  · rw [← hf]; clear hf
    refine ⟨by decide +kernel, fun x v => by kernel_rfl, fun x V hV hdep K hK => ?_⟩
    have e15 : x 15 = .bool true := depOf hdep 15 (by decide +kernel)
    clear hdep
    refine run_guard 15 57 (x 15) (by kernel_rfl) (by rw [hops]; exact oth_dst_15) (by kernel_rfl) e15 ?_; clear hops
    unfold othFr
    go_simp
    refine kfit (hK _ _ (Below.refl _ V) rfl) ?_
    first | (simp only [othFr, Act.put, List.setIfInBounds_toArray, List.set_cons_zero, List.set_cons_succ, h3, h5, h8, h9, h10, h11, h12, e15]; done) | (simp only [othFr, Act.put, List.setIfInBounds_toArray, List.set_cons_zero, List.set_cons_succ, h3, h5, h8, h9, h10, h11, h12, e15]; rfl)
  -- 21: slot 63 := Op.move t10
  refine And.intro ?_ ?_
  · rw [← hf]; clear hf
    refine ⟨by decide +kernel, fun x v => by kernel_rfl, fun x V hV hdep K hK => ?_⟩
    have e15 : x 15 = .bool true := depOf hdep 15 (by decide +kernel)
    clear hdep
    refine run_guard 15 57 (x 15) (by kernel_rfl) (by rw [hops]; exact oth_dst_15) (by kernel_rfl) e15 ?_; clear hops
    unfold othFr
    go_simp
    refine kfit (hK _ _ (Below.refl _ V) rfl) ?_
    first | (simp only [othFr, Act.put, List.setIfInBounds_toArray, List.set_cons_zero, List.set_cons_succ, h3, h5, h8, h9, h10, h11, h12, e15]; done) | (simp only [othFr, Act.put, List.setIfInBounds_toArray, List.set_cons_zero, List.set_cons_succ, h3, h5, h8, h9, h10, h11, h12, e15]; rfl)
  -- 22: slot 64 := Op.call { value (Operand.func 21), args := #[t61, t62, t63],
  refine And.intro ?_ ?_
  · rw [← hf]; clear hf
    refine ⟨by decide +kernel, fun x v => by kernel_rfl, fun x V hV hdep K hK => ?_⟩
    have e15 : x 15 = .bool true := depOf hdep 15 (by decide +kernel)
    obtain ⟨za19, zc19, e19, d19⟩ : ∃ za19 zc19, x 19 = .agg #[.int .i64 (r1).kind, .string (r1).name, .slice za19 (r1).kids.length zc19] ∧ TysAt V (.slice za19 (r1).kids.length zc19) (r1).kids := depOf hdep 19 (by decide +kernel)
    have e20 : x 20 = tov := depOf hdep 20 (by decide +kernel)
    have e21 : x 21 = frv := depOf hdep 21 (by decide +kernel)
    clear hdep
    refine run_guard 15 57 (x 15) (by kernel_rfl) (by rw [hops]; exact oth_dst_15) (by kernel_rfl) e15 ?_; clear hops
    unfold othFr
    obtain ⟨HC4, HC6, HC11, HC13, HC19, HC22, HC24, HC30, HC32, HC36, HC38⟩ := HC.out
    clear HC4 HC6 HC11 HC13 HC19 HC24 HC30 HC32 HC36 HC38
    have H := HC22 V hV _ _ d19
    replace H := Lib.hid H; clear HC22
    go_simp
    go_at_call 21
    refine H.out.mono ?_
    rintro e Y ⟨⟨za, zc, rfl, hq⟩, hb⟩; refine kfit (hK _ _ hb ⟨za, zc, rfl, hq⟩) ?_
    first | (simp only [othFr, Act.put, List.setIfInBounds_toArray, List.set_cons_zero, List.set_cons_succ, h3, h5, h8, h9, h10, h11, h12, e15, e19, e20, e21]; done) | (simp only [othFr, Act.put, List.setIfInBounds_toArray, List.set_cons_zero, List.set_cons_succ, h3, h5, h8, h9, h10, h11, h12, e15, e19, e20, e21]; rfl)
  -- 23: slot 65 := Op.load 34 t5
  refine And.intro ?_ ?_
  · rw [← hf]; clear hf
    refine ⟨by decide +kernel, fun x v => by kernel_rfl, fun x V hV hdep K hK => ?_⟩
    have e15 : x 15 = .bool true := depOf hdep 15 (by decide +kernel)
    clear hdep
    refine run_guard 15 57 (x 15) (by kernel_rfl) (by rw [hops]; exact oth_dst_15) (by kernel_rfl) e15 ?_; clear hops
    unfold othFr
    obtain ⟨⟨y0, y1, y2⟩, ⟨y3, y4, y5⟩, y6, y7⟩ := SO.cells hV
    go_simp
    refine kfit (hK _ _ (Below.refl _ V) rfl) ?_
    first | (simp only [othFr, Act.put, List.setIfInBounds_toArray, List.set_cons_zero, List.set_cons_succ, h3, h5, h8, h9, h10, h11, h12, e15]; done) | (simp only [othFr, Act.put, List.setIfInBounds_toArray, List.set_cons_zero, List.set_cons_succ, h3, h5, h8, h9, h10, h11, h12, e15]; rfl)
  -- 24: slot 66 := Op.call { value (Operand.func 15), args := #[t64, t65], argT
  refine And.intro ?_ ?_
  · rw [← hf]; clear hf
    refine ⟨by decide +kernel, fun x v => by kernel_rfl, fun x V hV hdep K hK => ?_⟩
    have e15 : x 15 = .bool true := depOf hdep 15 (by decide +kernel)
    obtain ⟨za22, zc22, e22, d22⟩ : ∃ za22 zc22, x 22 = .agg #[.int .i64 (t).kind, .string (t).name, .slice za22 (t).kids.length zc22] ∧ TysAt V (.slice za22 (t).kids.length zc22) (t).kids := depOf hdep 22 (by decide +kernel)
    have e23 : x 23 = .agg #[.int .i64 (t).kind, .string (t).name, .slice pa (t).kids.length ca] := depOf hdep 23 (by decide +kernel)
    clear hdep
    refine run_guard 15 57 (x 15) (by kernel_rfl) (by rw [hops]; exact oth_dst_15) (by kernel_rfl) e15 ?_; clear hops
    unfold othFr
    obtain ⟨HC4, HC6, HC11, HC13, HC19, HC22, HC24, HC30, HC32, HC36, HC38⟩ := HC.out
    clear HC4 HC6 HC11 HC13 HC19 HC22 HC30 HC32 HC36 HC38
    have H := HC24 V hV _ _ d22
    replace H := Lib.hid H; clear HC24
    go_simp
    go_at_call 15
    refine H.out.mono ?_
    rintro e Y ⟨rfl, hb⟩; refine kfit (hK _ _ hb rfl) ?_
    first | (simp only [othFr, Act.put, List.setIfInBounds_toArray, List.set_cons_zero, List.set_cons_succ, h3, h5, h8, h9, h10, h11, h12, e15, e22, e23]; done) | (simp only [othFr, Act.put, List.setIfInBounds_toArray, List.set_cons_zero, List.set_cons_succ, h3, h5, h8, h9, h10, h11, h12, e15, e22, e23]; rfl)
  -- 25: slot 67 := Op.pick t57 t66 (const (Value.bool false))
  refine And.intro ?_ ?_
  · rw [← hf]; clear hf
    refine ⟨by decide +kernel, fun x v => by kernel_rfl, fun x V hV hdep K hK => ?_⟩
    have e15 : x 15 = .bool true := depOf hdep 15 (by decide +kernel)
    have e24 : x 24 = .bool true := depOf hdep 24 (by decide +kernel)
    clear hdep
    refine run_bare (by kernel_rfl) ?_
    unfold othFr
    go_simp
    refine kfit (hK _ _ (Below.refl _ V) rfl) ?_
    first | (simp only [othFr, Act.put, List.setIfInBounds_toArray, List.set_cons_zero, List.set_cons_succ, h3, h5, h8, h9, h10, h11, h12, e15, e24]; done) | (simp only [othFr, Act.put, List.setIfInBounds_toArray, List.set_cons_zero, List.set_cons_succ, h3, h5, h8, h9, h10, h11, h12, e15, e24]; rfl)
  -- 26: slot 68 := Op.move t67
  refine And.intro ?_ ?_
  · rw [← hf]; clear hf
    refine ⟨by decide +kernel, fun x v => by kernel_rfl, fun x V hV hdep K hK => ?_⟩
    have e25 : x 25 = .bool true := depOf hdep 25 (by decide +kernel)
    clear hdep
    refine run_bare (by kernel_rfl) ?_
    unfold othFr
    go_simp
    refine kfit (hK _ _ (Below.refl _ V) rfl) ?_
    first | (simp only [othFr, Act.put, List.setIfInBounds_toArray, List.set_cons_zero, List.set_cons_succ, h3, h5, h8, h9, h10, h11, h12, e25]; done) | (simp only [othFr, Act.put, List.setIfInBounds_toArray, List.set_cons_zero, List.set_cons_succ, h3, h5, h8, h9, h10, h11, h12, e25]; rfl)
  -- 27: slot 69 := Op.load 34 t5
  refine And.intro ?_ ?_
  · rw [← hf]; clear hf
    refine ⟨by decide +kernel, fun x v => by kernel_rfl, fun x V hV hdep K hK => ?_⟩
    have e26 : x 26 = .bool true := depOf hdep 26 (by decide +kernel)
    clear hdep
    refine run_guard 26 68 (x 26) (by kernel_rfl) (by rw [hops]; exact oth_dst_26) (by kernel_rfl) e26 ?_; clear hops
    unfold othFr
    obtain ⟨⟨y0, y1, y2⟩, ⟨y3, y4, y5⟩, y6, y7⟩ := SO.cells hV
    go_simp
    refine kfit (hK _ _ (Below.refl _ V) rfl) ?_
    first | (simp only [othFr, Act.put, List.setIfInBounds_toArray, List.set_cons_zero, List.set_cons_succ, h3, h5, h8, h9, h10, h11, h12, e26]; done) | (simp only [othFr, Act.put, List.setIfInBounds_toArray, List.set_cons_zero, List.set_cons_succ, h3, h5, h8, h9, h10, h11, h12, e26]; rfl)
  -- 28: slot 70 := Op.buildSlice 23 2 #[(0, const (Value.string { data := #[97]
  refine And.intro ?_ ?_
  · rw [← hf]; clear hf
    refine ⟨by decide +kernel, fun x v => by kernel_rfl, fun x V hV hdep K hK => ?_⟩
    have e26 : x 26 = .bool true := depOf hdep 26 (by decide +kernel)
    clear hdep
    refine run_guard 26 68 (x 26) (by kernel_rfl) (by rw [hops]; exact oth_dst_26) (by kernel_rfl) e26 ?_; clear hops
    unfold othFr
    go_simp
    refine kfit (hK _ _ (below_a _ _) ⟨_, rfl, strs_two _ _ _⟩) ?_
    first | (simp only [othFr, Act.put, List.setIfInBounds_toArray, List.set_cons_zero, List.set_cons_succ, h3, h5, h8, h9, h10, h11, h12, e26]; done) | (simp only [othFr, Act.put, List.setIfInBounds_toArray, List.set_cons_zero, List.set_cons_succ, h3, h5, h8, h9, h10, h11, h12, e26]; rfl)
  -- 29: slot 71 := Op.buildSlice 23 2 #[(0, const (Value.string { data := #[98]
  refine And.intro ?_ ?_
  · rw [← hf]; clear hf
    refine ⟨by decide +kernel, fun x v => by kernel_rfl, fun x V hV hdep K hK => ?_⟩
    have e26 : x 26 = .bool true := depOf hdep 26 (by decide +kernel)
    clear hdep
    refine run_guard 26 68 (x 26) (by kernel_rfl) (by rw [hops]; exact oth_dst_26) (by kernel_rfl) e26 ?_; clear hops
    unfold othFr
    go_simp
    refine kfit (hK _ _ (below_a _ _) ⟨_, rfl, strs_two _ _ _⟩) ?_
    first | (simp only [othFr, Act.put, List.setIfInBounds_toArray, List.set_cons_zero, List.set_cons_succ, h3, h5, h8, h9, h10, h11, h12, e26]; done) | (simp only [othFr, Act.put, List.setIfInBounds_toArray, List.set_cons_zero, List.set_cons_succ, h3, h5, h8, h9, h10, h11, h12, e26]; rfl)
  -- 30: slot 72 := Op.call { value (Operand.func 21), args := #[t69, t70, t71],
  refine And.intro ?_ ?_
  · rw [← hf]; clear hf
    refine ⟨by decide +kernel, fun x v => by kernel_rfl, fun x V hV hdep K hK => ?_⟩
    have e26 : x 26 = .bool true := depOf hdep 26 (by decide +kernel)
    have e27 : x 27 = .agg #[.int .i64 (t).kind, .string (t).name, .slice pa (t).kids.length ca] := depOf hdep 27 (by decide +kernel)
    obtain ⟨zk28, e28, d28⟩ : ∃ zk28, x 28 = .slice (some ⟨zk28, 0, none⟩) 2 2 ∧ StrsP (.slice (some ⟨zk28, 0, none⟩) 2 2) [⟨#[97]⟩, ⟨#[98]⟩] V := depOf hdep 28 (by decide +kernel)
    obtain ⟨zk29, e29, d29⟩ : ∃ zk29, x 29 = .slice (some ⟨zk29, 0, none⟩) 2 2 ∧ StrsP (.slice (some ⟨zk29, 0, none⟩) 2 2) [⟨#[98]⟩, ⟨#[97]⟩] V := depOf hdep 29 (by decide +kernel)
    clear hdep
    refine run_guard 26 68 (x 26) (by kernel_rfl) (by rw [hops]; exact oth_dst_26) (by kernel_rfl) e26 ?_; clear hops
    unfold othFr
    obtain ⟨HC4, HC6, HC11, HC13, HC19, HC22, HC24, HC30, HC32, HC36, HC38⟩ := HC.out
    clear HC4 HC6 HC11 HC13 HC19 HC22 HC24 HC32 HC36 HC38
    have H := HC30 V hV _ d28 _ d29
    replace H := Lib.hid H; clear HC30
    go_simp
    go_at_call 21
    refine H.out.mono ?_
    rintro e Y ⟨⟨za, zc, rfl, hq⟩, hb⟩; refine kfit (hK _ _ hb ⟨za, zc, rfl, hq⟩) ?_
    first | (simp only [othFr, Act.put, List.setIfInBounds_toArray, List.set_cons_zero, List.set_cons_succ, h3, h5, h8, h9, h10, h11, h12, e26, e27, e28, e29]; done) | (simp only [othFr, Act.put, List.setIfInBounds_toArray, List.set_cons_zero, List.set_cons_succ, h3, h5, h8, h9, h10, h11, h12, e26, e27, e28, e29]; rfl)
  -- 31: slot 73 := Op.load 34 t12
  refine And.intro ?_ ?_
  · rw [← hf]; clear hf
    refine ⟨by decide +kernel, fun x v => by kernel_rfl, fun x V hV hdep K hK => ?_⟩
    have e26 : x 26 = .bool true := depOf hdep 26 (by decide +kernel)
    clear hdep
    refine run_guard 26 68 (x 26) (by kernel_rfl) (by rw [hops]; exact oth_dst_26) (by kernel_rfl) e26 ?_; clear hops
    unfold othFr
    obtain ⟨⟨y0, y1, y2⟩, ⟨y3, y4, y5⟩, y6, y7⟩ := SO.cells hV
    go_simp
    refine kfit (hK _ _ (Below.refl _ V) rfl) ?_
    first | (simp only [othFr, Act.put, List.setIfInBounds_toArray, List.set_cons_zero, List.set_cons_succ, h3, h5, h8, h9, h10, h11, h12, e26]; done) | (simp only [othFr, Act.put, List.setIfInBounds_toArray, List.set_cons_zero, List.set_cons_succ, h3, h5, h8, h9, h10, h11, h12, e26]; rfl)
  -- 32: slot 74 := Op.call { value (Operand.func 15), args := #[t72, t73], argT
  refine And.intro ?_ ?_
  · rw [← hf]; clear hf
    refine ⟨by decide +kernel, fun x v => by kernel_rfl, fun x V hV hdep K hK => ?_⟩
    have e26 : x 26 = .bool true := depOf hdep 26 (by decide +kernel)
    obtain ⟨za30, zc30, e30, d30⟩ : ∃ za30 zc30, x 30 = .agg #[.int .i64 (sw).kind, .string (sw).name, .slice za30 (sw).kids.length zc30] ∧ TysAt V (.slice za30 (sw).kids.length zc30) (sw).kids := depOf hdep 30 (by decide +kernel)
    have e31 : x 31 = .agg #[.int .i64 (sw).kind, .string (sw).name, .slice pw (sw).kids.length cw] := depOf hdep 31 (by decide +kernel)
    clear hdep
    refine run_guard 26 68 (x 26) (by kernel_rfl) (by rw [hops]; exact oth_dst_26) (by kernel_rfl) e26 ?_; clear hops
    unfold othFr
    obtain ⟨HC4, HC6, HC11, HC13, HC19, HC22, HC24, HC30, HC32, HC36, HC38⟩ := HC.out
    clear HC4 HC6 HC11 HC13 HC19 HC22 HC24 HC30 HC36 HC38
    have H := HC32 V hV _ _ d30
    replace H := Lib.hid H; clear HC32
    go_simp
    go_at_call 15
    refine H.out.mono ?_
    rintro e Y ⟨rfl, hb⟩; refine kfit (hK _ _ hb rfl) ?_
    first | (simp only [othFr, Act.put, List.setIfInBounds_toArray, List.set_cons_zero, List.set_cons_succ, h3, h5, h8, h9, h10, h11, h12, e26, e30, e31]; done) | (simp only [othFr, Act.put, List.setIfInBounds_toArray, List.set_cons_zero, List.set_cons_succ, h3, h5, h8, h9, h10, h11, h12, e26, e30, e31]; rfl)
  -- 33: slot 75 := Op.pick t68 t74 (const (Value.bool false))
  refine And.intro ?_ ?_
  · rw [← hf]; clear hf
    refine ⟨by decide +kernel, fun x v => by kernel_rfl, fun x V hV hdep K hK => ?_⟩
    have e26 : x 26 = .bool true := depOf hdep 26 (by decide +kernel)
    have e32 : x 32 = .bool true := depOf hdep 32 (by decide +kernel)
    clear hdep
    refine run_bare (by kernel_rfl) ?_
    unfold othFr
    go_simp
    refine kfit (hK _ _ (Below.refl _ V) rfl) ?_
    first | (simp only [othFr, Act.put, List.setIfInBounds_toArray, List.set_cons_zero, List.set_cons_succ, h3, h5, h8, h9, h10, h11, h12, e26, e32]; done) | (simp only [othFr, Act.put, List.setIfInBounds_toArray, List.set_cons_zero, List.set_cons_succ, h3, h5, h8, h9, h10, h11, h12, e26, e32]; rfl)
  -- 34: slot 76 := Op.move t75
  refine And.intro ?_ ?_
  · rw [← hf]; clear hf
    refine ⟨by decide +kernel, fun x v => by kernel_rfl, fun x V hV hdep K hK => ?_⟩
    have e33 : x 33 = .bool true := depOf hdep 33 (by decide +kernel)
    clear hdep
    refine run_bare (by kernel_rfl) ?_
    unfold othFr
    go_simp
    refine kfit (hK _ _ (Below.refl _ V) rfl) ?_
    first | (simp only [othFr, Act.put, List.setIfInBounds_toArray, List.set_cons_zero, List.set_cons_succ, h3, h5, h8, h9, h10, h11, h12, e33]; done) | (simp only [othFr, Act.put, List.setIfInBounds_toArray, List.set_cons_zero, List.set_cons_succ, h3, h5, h8, h9, h10, h11, h12, e33]; rfl)
  -- 35: slot 77 := Op.load 34 t12
  refine And.intro ?_ ?_
  · rw [← hf]; clear hf
    refine ⟨by decide +kernel, fun x v => by kernel_rfl, fun x V hV hdep K hK => ?_⟩
    have e34 : x 34 = .bool true := depOf hdep 34 (by decide +kernel)
    clear hdep
    refine run_guard 34 76 (x 34) (by kernel_rfl) (by rw [hops]; exact oth_dst_34) (by kernel_rfl) e34 ?_; clear hops
    unfold othFr
    obtain ⟨⟨y0, y1, y2⟩, ⟨y3, y4, y5⟩, y6, y7⟩ := SO.cells hV
    go_simp
    refine kfit (hK _ _ (Below.refl _ V) rfl) ?_
    first | (simp only [othFr, Act.put, List.setIfInBounds_toArray, List.set_cons_zero, List.set_cons_succ, h3, h5, h8, h9, h10, h11, h12, e34]; done) | (simp only [othFr, Act.put, List.setIfInBounds_toArray, List.set_cons_zero, List.set_cons_succ, h3, h5, h8, h9, h10, h11, h12, e34]; rfl)
  -- 36: slot 78 := Op.call { value (Operand.func 24), args := #[t77], argTypes 
  refine And.intro ?_ ?_
  · rw [← hf]; clear hf
    refine ⟨by decide +kernel, fun x v => by kernel_rfl, fun x V hV hdep K hK => ?_⟩
    have e34 : x 34 = .bool true := depOf hdep 34 (by decide +kernel)
    have e35 : x 35 = .agg #[.int .i64 (sw).kind, .string (sw).name, .slice pw (sw).kids.length cw] := depOf hdep 35 (by decide +kernel)
    clear hdep
    refine run_guard 34 76 (x 34) (by kernel_rfl) (by rw [hops]; exact oth_dst_34) (by kernel_rfl) e34 ?_; clear hops
    unfold othFr
    obtain ⟨HC4, HC6, HC11, HC13, HC19, HC22, HC24, HC30, HC32, HC36, HC38⟩ := HC.out
    clear HC4 HC6 HC11 HC13 HC19 HC22 HC24 HC30 HC32 HC38
    have H := HC36 V hV
    replace H := Lib.hid H; clear HC36
    go_simp
    go_at_call 24
    refine H.out.mono ?_
    rintro e Y ⟨rfl, hb⟩; refine kfit (hK _ _ hb rfl) ?_
    first | (simp only [othFr, Act.put, List.setIfInBounds_toArray, List.set_cons_zero, List.set_cons_succ, h3, h5, h8, h9, h10, h11, h12, e34, e35]; done) | (simp only [othFr, Act.put, List.setIfInBounds_toArray, List.set_cons_zero, List.set_cons_succ, h3, h5, h8, h9, h10, h11, h12, e34, e35]; rfl)
  -- 37: slot 79 := Op.load 34 t5
  refine And.intro ?_ ?_
  · rw [← hf]; clear hf
    refine ⟨by decide +kernel, fun x v => by kernel_rfl, fun x V hV hdep K hK => ?_⟩
    have e34 : x 34 = .bool true := depOf hdep 34 (by decide +kernel)
    clear hdep
    refine run_guard 34 76 (x 34) (by kernel_rfl) (by rw [hops]; exact oth_dst_34) (by kernel_rfl) e34 ?_; clear hops
    unfold othFr
    obtain ⟨⟨y0, y1, y2⟩, ⟨y3, y4, y5⟩, y6, y7⟩ := SO.cells hV
    go_simp
    refine kfit (hK _ _ (Below.refl _ V) rfl) ?_
    first | (simp only [othFr, Act.put, List.setIfInBounds_toArray, List.set_cons_zero, List.set_cons_succ, h3, h5, h8, h9, h10, h11, h12, e34]; done) | (simp only [othFr, Act.put, List.setIfInBounds_toArray, List.set_cons_zero, List.set_cons_succ, h3, h5, h8, h9, h10, h11, h12, e34]; rfl)
  -- 38: slot 80 := Op.call { value (Operand.func 24), args := #[t79], argTypes 
  refine And.intro ?_ ?_
  · rw [← hf]; clear hf
    refine ⟨by decide +kernel, fun x v => by kernel_rfl, fun x V hV hdep K hK => ?_⟩
    have e34 : x 34 = .bool true := depOf hdep 34 (by decide +kernel)
    have e37 : x 37 = .agg #[.int .i64 (t).kind, .string (t).name, .slice pa (t).kids.length ca] := depOf hdep 37 (by decide +kernel)
    clear hdep
    refine run_guard 34 76 (x 34) (by kernel_rfl) (by rw [hops]; exact oth_dst_34) (by kernel_rfl) e34 ?_; clear hops
    unfold othFr
    obtain ⟨HC4, HC6, HC11, HC13, HC19, HC22, HC24, HC30, HC32, HC36, HC38⟩ := HC.out
    clear HC4 HC6 HC11 HC13 HC19 HC22 HC24 HC30 HC32 HC36
    have H := HC38 V hV
    replace H := Lib.hid H; clear HC38
    go_simp
    go_at_call 24
    refine H.out.mono ?_
    rintro e Y ⟨rfl, hb⟩; refine kfit (hK _ _ hb rfl) ?_
    first | (simp only [othFr, Act.put, List.setIfInBounds_toArray, List.set_cons_zero, List.set_cons_succ, h3, h5, h8, h9, h10, h11, h12, e34, e37]; done) | (simp only [othFr, Act.put, List.setIfInBounds_toArray, List.set_cons_zero, List.set_cons_succ, h3, h5, h8, h9, h10, h11, h12, e34, e37]; rfl)
  -- 39: slot 81 := Op.binOp BinOp.eql 3 t78 t80 3
  refine And.intro ?_ ?_
  · rw [← hf]; clear hf
    refine ⟨by decide +kernel, fun x v => by kernel_rfl, fun x V hV hdep K hK => ?_⟩
    have e34 : x 34 = .bool true := depOf hdep 34 (by decide +kernel)
    have e36 : x 36 = .int .i64 (ts : Nat) := depOf hdep 36 (by decide +kernel)
    have e38 : x 38 = .int .i64 (ts : Nat) := depOf hdep 38 (by decide +kernel)
    clear hdep
    refine run_guard 34 76 (x 34) (by kernel_rfl) (by rw [hops]; exact oth_dst_34) (by kernel_rfl) e34 ?_; clear hops
    unfold othFr
    go_simp
    refine kfit (hK _ _ (Below.refl _ V) rfl) ?_
    first | (simp only [othFr, Act.put, List.setIfInBounds_toArray, List.set_cons_zero, List.set_cons_succ, h3, h5, h8, h9, h10, h11, h12, e34, e36, e38]; done) | (simp only [othFr, Act.put, List.setIfInBounds_toArray, List.set_cons_zero, List.set_cons_succ, h3, h5, h8, h9, h10, h11, h12, e34, e36, e38]; rfl)
  -- 40: slot 82 := Op.pick t76 t81 (const (Value.bool false))
  refine And.intro ?_ ?_
  · rw [← hf]; clear hf
    refine ⟨by decide +kernel, fun x v => by kernel_rfl, fun x V hV hdep K hK => ?_⟩
    have e34 : x 34 = .bool true := depOf hdep 34 (by decide +kernel)
    have e39 : x 39 = .bool true := depOf hdep 39 (by decide +kernel)
    clear hdep
    refine run_bare (by kernel_rfl) ?_
    unfold othFr
    go_simp
    refine kfit (hK _ _ (Below.refl _ V) rfl) ?_
    first | (simp only [othFr, Act.put, List.setIfInBounds_toArray, List.set_cons_zero, List.set_cons_succ, h3, h5, h8, h9, h10, h11, h12, e34, e39]; done) | (simp only [othFr, Act.put, List.setIfInBounds_toArray, List.set_cons_zero, List.set_cons_succ, h3, h5, h8, h9, h10, h11, h12, e34, e39]; rfl)
  -- 41: slot 2 := Op.assign t82
  refine And.intro ?_ ?_
  · rw [← hf]; clear hf
    refine ⟨by decide +kernel, fun x v => by kernel_rfl, fun x V hV hdep K hK => ?_⟩
    have e40 : x 40 = .bool true := depOf hdep 40 (by decide +kernel)
    clear hdep
    refine run_bare (by kernel_rfl) ?_
    unfold othFr
    go_simp
    refine kfit (hK _ _ (Below.refl _ V) rfl) ?_
    first | (simp only [othFr, Act.put, List.setIfInBounds_toArray, List.set_cons_zero, List.set_cons_succ, h3, h5, h8, h9, h10, h11, h12, e40]; done) | (simp only [othFr, Act.put, List.setIfInBounds_toArray, List.set_cons_zero, List.set_cons_succ, h3, h5, h8, h9, h10, h11, h12, e40]; rfl)
  exact trivial
theorem oth_here {w : World} {b5 b8 b9 b12 : Nat} {t sw r1 : T} {pa pw : Option Addr} {ca cw : Nat} {sv uv frv tov : Value} {ls lu : List PR} {ts : Nat}
    (HC4 : ∀ V, SO w b5 b8 b9 b12 t sw pa pw ca cw sv uv frv tov ls lu V → Calls Try.prog 16 #[.agg #[sv], .agg #[.int .i64 (sw).kind, .string (sw).name, .slice pw (sw).kids.length cw]] V fun e Y => (∃ za zc, e = .returned (.agg #[.int .i64 (t).kind, .string (t).name, .slice za (t).kids.length zc]) ∧ TysAt Y (.slice za (t).kids.length zc) (t).kids) ∧ Below V.heap.size V Y)
    (HC6 : ∀ V, SO w b5 b8 b9 b12 t sw pa pw ca cw sv uv frv tov ls lu V → ∀ za4, ∀ zc4, TysAt V (.slice za4 (t).kids.length zc4) (t).kids → Calls Try.prog 15 #[.agg #[.int .i64 (t).kind, .string (t).name, .slice za4 (t).kids.length zc4], .agg #[.int .i64 (t).kind, .string (t).name, .slice pa (t).kids.length ca]] V fun e Y => e = .returned (.bool true) ∧ Below V.heap.size V Y)
    (HC11 : ∀ V, SO w b5 b8 b9 b12 t sw pa pw ca cw sv uv frv tov ls lu V → Calls Try.prog 16 #[.agg #[uv], .agg #[.int .i64 (t).kind, .string (t).name, .slice pa (t).kids.length ca]] V fun e Y => (∃ za zc, e = .returned (.agg #[.int .i64 (t).kind, .string (t).name, .slice za (t).kids.length zc]) ∧ TysAt Y (.slice za (t).kids.length zc) (t).kids) ∧ Below V.heap.size V Y)
    (HC13 : ∀ V, SO w b5 b8 b9 b12 t sw pa pw ca cw sv uv frv tov ls lu V → ∀ za11, ∀ zc11, TysAt V (.slice za11 (t).kids.length zc11) (t).kids → Calls Try.prog 15 #[.agg #[.int .i64 (t).kind, .string (t).name, .slice za11 (t).kids.length zc11], .agg #[.int .i64 (t).kind, .string (t).name, .slice pa (t).kids.length ca]] V fun e Y => e = .returned (.bool true) ∧ Below V.heap.size V Y)
    (HC19 : ∀ V, SO w b5 b8 b9 b12 t sw pa pw ca cw sv uv frv tov ls lu V → Calls Try.prog 21 #[.agg #[.int .i64 (t).kind, .string (t).name, .slice pa (t).kids.length ca], frv, tov] V fun e Y => (∃ za zc, e = .returned (.agg #[.int .i64 (r1).kind, .string (r1).name, .slice za (r1).kids.length zc]) ∧ TysAt Y (.slice za (r1).kids.length zc) (r1).kids) ∧ Below V.heap.size V Y)
    (HC22 : ∀ V, SO w b5 b8 b9 b12 t sw pa pw ca cw sv uv frv tov ls lu V → ∀ za19, ∀ zc19, TysAt V (.slice za19 (r1).kids.length zc19) (r1).kids → Calls Try.prog 21 #[.agg #[.int .i64 (r1).kind, .string (r1).name, .slice za19 (r1).kids.length zc19], tov, frv] V fun e Y => (∃ za zc, e = .returned (.agg #[.int .i64 (t).kind, .string (t).name, .slice za (t).kids.length zc]) ∧ TysAt Y (.slice za (t).kids.length zc) (t).kids) ∧ Below V.heap.size V Y)
    (HC24 : ∀ V, SO w b5 b8 b9 b12 t sw pa pw ca cw sv uv frv tov ls lu V → ∀ za22, ∀ zc22, TysAt V (.slice za22 (t).kids.length zc22) (t).kids → Calls Try.prog 15 #[.agg #[.int .i64 (t).kind, .string (t).name, .slice za22 (t).kids.length zc22], .agg #[.int .i64 (t).kind, .string (t).name, .slice pa (t).kids.length ca]] V fun e Y => e = .returned (.bool true) ∧ Below V.heap.size V Y)
    (HC30 : ∀ V, SO w b5 b8 b9 b12 t sw pa pw ca cw sv uv frv tov ls lu V → ∀ zk28, StrsP (.slice (some ⟨zk28, 0, none⟩) 2 2) [⟨#[97]⟩, ⟨#[98]⟩] V → ∀ zk29, StrsP (.slice (some ⟨zk29, 0, none⟩) 2 2) [⟨#[98]⟩, ⟨#[97]⟩] V → Calls Try.prog 21 #[.agg #[.int .i64 (t).kind, .string (t).name, .slice pa (t).kids.length ca], .slice (some ⟨zk28, 0, none⟩) 2 2, .slice (some ⟨zk29, 0, none⟩) 2 2] V fun e Y => (∃ za zc, e = .returned (.agg #[.int .i64 (sw).kind, .string (sw).name, .slice za (sw).kids.length zc]) ∧ TysAt Y (.slice za (sw).kids.length zc) (sw).kids) ∧ Below V.heap.size V Y)
    (HC32 : ∀ V, SO w b5 b8 b9 b12 t sw pa pw ca cw sv uv frv tov ls lu V → ∀ za30, ∀ zc30, TysAt V (.slice za30 (sw).kids.length zc30) (sw).kids → Calls Try.prog 15 #[.agg #[.int .i64 (sw).kind, .string (sw).name, .slice za30 (sw).kids.length zc30], .agg #[.int .i64 (sw).kind, .string (sw).name, .slice pw (sw).kids.length cw]] V fun e Y => e = .returned (.bool true) ∧ Below V.heap.size V Y)
    (HC36 : ∀ V, SO w b5 b8 b9 b12 t sw pa pw ca cw sv uv frv tov ls lu V → Calls Try.prog 24 #[.agg #[.int .i64 (sw).kind, .string (sw).name, .slice pw (sw).kids.length cw]] V fun e Y => e = .returned (.int .i64 (ts : Nat)) ∧ Below V.heap.size V Y)
    (HC38 : ∀ V, SO w b5 b8 b9 b12 t sw pa pw ca cw sv uv frv tov ls lu V → Calls Try.prog 24 #[.agg #[.int .i64 (t).kind, .string (t).name, .slice pa (t).kids.length ca]] V fun e Y => e = .returned (.int .i64 (ts : Nat)) ∧ Below V.heap.size V Y)
    {Q : Exit → Act → World → Prop} {ops : Array Oper} {a : Act} (X : World) (hops : ops = othOps)
    (h3 : a.tmps.getD 3 undef = .bool true) (h5 : a.tmps.getD 5 undef = .pointer (some ⟨b5, 0, none⟩)) (h8 : a.tmps.getD 8 undef = .pointer (some ⟨b8, 0, none⟩)) (h9 : a.tmps.getD 9 undef = .pointer (some ⟨b9, 0, none⟩)) (h10 : a.tmps.getD 10 undef = frv) (h11 : a.tmps.getD 11 undef = tov) (h12 : a.tmps.getD 12 undef = .pointer (some ⟨b12, 0, none⟩))
    (ha : a = othFr (fun j => a.tmps.getD j undef) a.defers (fun i => a.tmps.getD (if i = 41 then 2 else 42 + i) undef)) (hS : SO w b5 b8 b9 b12 t sw pa pw ca cw sv uv frv tov ls lu X.drew)
    (hfin : ∀ x V, SO w b5 b8 b9 b12 t sw pa pw ca cw sv uv frv tov ls lu V → x 41 = .bool true → Q .normal (othFr (fun j => a.tmps.getD j undef) a.defers x) V) : (Code.region 15 ops true).wp Try.prog Q a X :=
  cast (congrArg (fun z => (Code.region 15 ops true).wp Try.prog Q z X) ha.symm) (oth_region (b := fun j => a.tmps.getD j undef) (d := a.defers) h3 h5 h8 h9 h10 h11 h12 HC4 HC6 HC11 HC13 HC19 HC22 HC24 HC30 HC32 HC36 HC38 hops _ X hS hfin)
end Go.Proofs.Ytmbaolcdjgilpaa
