/- group.rings: its last statement, a region of 11 operations that draws its order, by an invariant. (Made by a program.) -/
import Derived.Test.YtlpifioneafciaaGrRingA
namespace Go.Proofs.Ytlpifioneafciaa
open Go.RowKit Go.Maps Go.Lib
attribute [local go_sem] Oper.semAt_some

def regionIn : Nat → Code → Array Oper
  | n, .region id ops _ => if id == n then ops else #[]
  | n, .seq a b => regionIn n a ++ regionIn n b
  | n, .cond _ a b => regionIn n a ++ regionIn n b
  | n, .block _ b => regionIn n b
  | n, .loop b => regionIn n b
  | n, .rangeFunc _ _ a b => regionIn n a ++ regionIn n b
  | n, .scope b => regionIn n b
  | _, _ => #[]
theorem depOf {o : Oper} {Vals : Nat → Value → World → Prop} {x : Nat → Value} {V : World} (h : ∀ e ∈ o.after, Region.binds .any e = true → Vals e.on (x e.on) V) (j : Nat)
    (hj : (o.after.any fun e => Region.binds .any e && e.on == j) = true) : Vals j (x j) V := by
  rw [Array.any_eq_true'] at hj
  obtain ⟨e, he, hj⟩ := hj
  simp only [Bool.and_eq_true, beq_iff_eq] at hj
  have := h e he hj.1
  rw [hj.2] at this; exact this
theorem kfit {K : Act → World → Prop} {a a' : Act} {w : World} (h : K a w) (e : a = a') : K a' w := e ▸ h
theorem run_bare {P : Program} {o : Oper} {ops : Array Oper} {a : Act} {w : World} {K : Act → World → Prop} {Q : Exit → Act → World → Prop} {C : Prop} (hg : o.guard = none) (h : Oper.wp P o a w K Q) :
    if Region.wanted o (yielded ops a.tmps) = true then Oper.wp P o a w K Q else C := by
  rw [if_pos (by simp [Region.wanted, hg])]; exact h
theorem run_guard {P : Program} {o : Oper} {ops : Array Oper} {a : Act} {w : World} {K : Act → World → Prop} {Q : Exit → Act → World → Prop} {C : Prop} (g k : Nat) (v : Value) (hg : o.guard = some (g, true))
    (hk : (ops[g]?).bind (·.dst) = some k) (hv : a.tmps[k]? = some v) (e : v = .bool true) (h : Oper.wp P o a w K Q) :
    if Region.wanted o (yielded ops a.tmps) = true then Oper.wp P o a w K Q else C := by
  rw [if_pos (by simp [Region.wanted, hg, yielded, hk, hv, e])]; exact h
theorem below_a (X : World) (o : Obj) : Below X.heap.size X (X.alloc o) := (Below.refl _ X).alloc (Nat.le_refl _) o
theorem below_d (X : World) : Below X.heap.size X X.drew := (Below.refl _ X).drew

noncomputable def grrOps : Array Oper := regionIn 2 (Try.f17.body.getD .skip)
def grrFr (b : Nat → Value) (d : List Deferred) (x : Nat → Value) : Act := { tmps := #[b 0, b 1, b 2, b 3, b 4, x 9, b 6, b 7, b 8, x 0, x 1, x 2, x 3, x 4, x 5, x 6, x 7, x 8, b 18, b 19, b 20, b 21, b 22, b 23, b 24, b 25, b 26, b 27, b 28, b 29, b 30, b 31, b 32, b 33, b 34], defers := d }

def grrVals (B n gn cap : Nat) (needs : Nat → List Nat) (i : Nat) (v : Value) (V : World) : Prop :=
  match i with
  | 0 => v = .slice (some ⟨gn, 0, none⟩) n cap
  | 1 => ∃ gq gc, v = .slice (some ⟨gq, 0, none⟩) n gc ∧ (B ≤ gq ∧ RestAt B gq n needs V)
  | 2 => v = .int .i64 (n : Int)
  | 3 => ∃ gq, v = .slice (some ⟨gq, 0, none⟩) n n ∧ OwnI B (.slice (some ⟨gq, 0, none⟩) n n) ((List.range n).map fun _ => 0) V
  | 4 => v = .int .i64 (n : Int)
  | 5 => ∃ gq, v = .slice (some ⟨gq, 0, none⟩) n n ∧ OwnI B (.slice (some ⟨gq, 0, none⟩) n n) ((List.range n).map fun _ => 0) V
  | 6 => v = .int .i64 (n : Int)
  | 7 => ∃ gq, v = .slice (some ⟨gq, 0, none⟩) n n ∧ OwnI B (.slice (some ⟨gq, 0, none⟩) n n) ((List.range n).map fun _ => 0) V
  | 8 => ∃ zu, v = zu ∧ True
  | 9 => ∃ zu, v = zu ∧ True
  | 10 => ∃ zu, v = zu ∧ True
  | _ => True

theorem grrVals_keep {B n gn cap : Nat} {needs : Nat → List Nat} (i : Nat) (v : Value) (V Y : World) (h : grrVals B n gn cap needs i v V) (hb : Below V.heap.size V Y) : grrVals B n gn cap needs i v Y := by
  unfold grrVals at *
  split at h <;> first
    | exact h
    | (obtain ⟨gq, gc, e, h⟩ := h; exact ⟨gq, gc, e, ⟨h.1, h.2.keepB hb⟩⟩)
    | (obtain ⟨gq, e, h⟩ := h; exact ⟨gq, e, h.below hb⟩)
    | (obtain ⟨zu, e, h⟩ := h; exact ⟨zu, e, h⟩)

theorem grrVals_butP {B n gn cap : Nat} {needs : Nat → List Nat} {p : Nat} (i : Nat) (v : Value) (V Y : World) (h : grrVals B n gn cap needs i v V) (hb : ButP B p V Y) : grrVals B n gn cap needs i v Y := by
  unfold grrVals at *
  split at h <;> first
    | exact h
    | (obtain ⟨gq, gc, e, h⟩ := h; exact ⟨gq, gc, e, h.1, h.2.butP hb⟩)
    | (obtain ⟨gq, e, h⟩ := h; exact ⟨gq, e, h.butP hb⟩)

theorem grr_size : grrOps.size = 11 := by kernel_rfl
set_option linter.unusedSimpArgs false in
set_option maxRecDepth 100000 in
set_option maxHeartbeats 8000000 in
theorem grr_region {w : World} {B n gn cap : Nat} {needs : Nat → List Nat} (hn0 : 0 ≤ n) (hn1 : n ≤ 100000000) {b : Nat → Value} {d : List Deferred}
    (h0 : b 0 = .slice (some ⟨gn, 0, none⟩) n cap) (h4 : b 4 = .int .i64 (n : Int))
    
    {Q : Exit → Act → World → Prop} {ops : Array Oper} (hops : ops = grrOps) (x0 : Nat → Value) (X : World) (hS : (RowsAt B gn n needs X.drew ∧ B ≤ X.drew.heap.size ∧ Below B w X.drew))
    (hfin : ∀ (x : Nat → Value) V p qs cs qm ql qr, x 9 = .pointer (some ⟨p, 0, none⟩) → SM B p n qs cs qm ql qr nilS nilS (grInit needs) V → Below B w V → Q .normal (grrFr b d x) V) : (Code.region 2 ops true).wp Try.prog Q (grrFr b d x0) X := by
  refine region_mark (grrFr b d) (fun V => (RowsAt B gn n needs V ∧ B ≤ V.heap.size ∧ Below B w V)) (fun V Y => Below V.heap.size V Y) (grrVals B n gn cap needs) (fun L x V => MkR B n needs L x V) (fun i => i == 1 || i == 3 || i == 5 || i == 7 || i == 8 || i == 9 || i == 10) x0 (by kernel_rfl) rfl hS (MkR.start B n needs _ _) (fun V Y h hb => ⟨h.1.below hb h.2.1, Nat.le_trans h.2.1 hb.size, h.2.2.trans (hb.mono h.2.1)⟩) (fun i v V Y _ h hb => grrVals_keep  i v V Y h hb) (fun i L x v w' w'' hs _ hM hr => hM.keep (by simp only [Bool.or_eq_false_iff, beq_eq_false_iff_ne] at hs; exact ⟨hs.1.1.1.1.1.1, hs.1.1.1.1.1.2, hs.1.1.1.1.2, hs.1.1.1.2, hs.1.1.2, hs.1.2, hs.2⟩) hr) ?_ (fun L x V hS hall hM => by obtain ⟨_, _, p, qs, cs, qm, ql, qr, e1, e2⟩ := hM.l10 (hall 10 (by rw [hops, grr_size]; decide)).1; exact hfin x V p qs cs qm ql qr e1 e2 hS.2.2)
  clear hfin hS
  obtain ⟨f, hf⟩ : ∃ qq, (fun i o => ((fun i => i == 1 || i == 3 || i == 5 || i == 7 || i == 8 || i == 9 || i == 10) i = false → StepAt Try.prog (grrFr b d) (fun V => (RowsAt B gn n needs V ∧ B ≤ V.heap.size ∧ Below B w V)) (fun V Y => Below V.heap.size V Y) (grrVals B n gn cap needs) ops Q i o) ∧ ((fun i => i == 1 || i == 3 || i == 5 || i == 7 || i == 8 || i == 9 || i == 10) i = true → MarkAt Try.prog (grrFr b d) (fun V => (RowsAt B gn n needs V ∧ B ≤ V.heap.size ∧ Below B w V)) (grrVals B n gn cap needs) (fun L x V => MkR B n needs L x V) ops Q i o)) = qq := ⟨_, rfl⟩
  rw [hf, hops]
  simp only [grrOps, Try.f17, regionIn, Option.getD_some, Nat.reduceBEq, Bool.false_eq_true, if_false, if_true, beq_self_eq_true, Array.append_empty, Array.empty_append, List.append_eq, List.cons_append, List.nil_append, AllAt, Nat.reduceAdd, Nat.zero_add]
  -- 0: slot 9 := Op.move t0
  refine And.intro ?_ ?_
  · rw [← hf]; clear hf
    refine ⟨fun _ => ⟨by decide +kernel, fun x v => by kernel_rfl, fun x V hV hdep K hK => ?_⟩, fun h => absurd h (by decide)⟩
    clear hdep
    refine run_bare (by kernel_rfl) ?_
    unfold grrFr
    go_simp
    refine kfit (hK _ _ (Below.refl _ V) rfl) ?_
    first | (simp only [grrFr, Act.put, List.setIfInBounds_toArray, List.set_cons_zero, List.set_cons_succ, h0, h4]; done) | (simp only [grrFr, Act.put, List.setIfInBounds_toArray, List.set_cons_zero, List.set_cons_succ, h0, h4]; rfl)
  -- 1: slot 10 := Op.call { value (Operand.func 23), args := #[t9], argTypes :
  refine And.intro ?_ ?_
  · rw [← hf]; clear hf
    refine ⟨fun h => absurd h (by decide), fun _ => ⟨by decide +kernel, fun x v => by kernel_rfl, fun L x V hV hVs hMk hLi hdep K hK => ?_⟩⟩
    have e0 : x 0 = .slice (some ⟨gn, 0, none⟩) n cap := hVs 0 (depL hdep 0 (by decide +kernel))
    have H := Lib.hid (clone_rowsB (cap := cap) V hV.1 hn0 hn1 hV.2.1)
    have HVs := Lib.hid hVs
    have HMk := Lib.hid hMk
    have HV := Lib.hid hV
    clear hVs hMk hV hdep
    refine run_bare (by kernel_rfl) ?_
    unfold grrFr at hK ⊢
    go_simp
    go_at_call 23
    refine H.out.mono ?_
    rintro e Y ⟨⟨q, c, rfl, hq, hr⟩, hb⟩
    have hV := HV.out
    refine kfit (hK _ _ ⟨hV.1.below hb hV.2.1, Nat.le_trans hV.2.1 hb.size, hV.2.2.trans (hb |>.mono hV.2.1)⟩ (fun j hj => grrVals_keep j _ V _ (HVs.out j hj) hb) ⟨q, c, rfl, hq, hr⟩ (HMk.out.s1 hLi hb)) ?_
    first | (simp only [grrFr, Act.put, List.setIfInBounds_toArray, List.set_cons_zero, List.set_cons_succ, h0, h4, e0]; done) | (simp only [grrFr, Act.put, List.setIfInBounds_toArray, List.set_cons_zero, List.set_cons_succ, h0, h4, e0]; rfl)
  -- 2: slot 11 := Op.move t4
  refine And.intro ?_ ?_
  · rw [← hf]; clear hf
    refine ⟨fun _ => ⟨by decide +kernel, fun x v => by kernel_rfl, fun x V hV hdep K hK => ?_⟩, fun h => absurd h (by decide)⟩
    clear hdep
    refine run_bare (by kernel_rfl) ?_
    unfold grrFr
    go_simp
    refine kfit (hK _ _ (Below.refl _ V) rfl) ?_
    first | (simp only [grrFr, Act.put, List.setIfInBounds_toArray, List.set_cons_zero, List.set_cons_succ, h0, h4]; done) | (simp only [grrFr, Act.put, List.setIfInBounds_toArray, List.set_cons_zero, List.set_cons_succ, h0, h4]; rfl)
  -- 3: slot 12 := Op.makeSlice 22 t11 t11
  refine And.intro ?_ ?_
  · rw [← hf]; clear hf
    refine ⟨fun h => absurd h (by decide), fun _ => ⟨by decide +kernel, fun x v => by kernel_rfl, fun L x V hV hVs hMk hLi hdep K hK => ?_⟩⟩
    have e2 : x 2 = .int .i64 (n : Int) := hVs 2 (depL hdep 2 (by decide +kernel))
    have hb := below_allocG V (.cells (madeCells #[.int .i64 0] n) 3)
    have hz := own_zeros V n (by omega) hV.2.1
    have hmk := make_ints n n (Nat.le_refl _) (by omega) V
    have H := Lib.hid (hMk.s3 (c := n) (o := .cells (madeCells #[.int .i64 0] n) 3) hLi)
    have HVs := Lib.hid hVs
    have HV := Lib.hid hV
    have HB := Lib.hid hb
    have HZ := Lib.hid hz
    clear hVs hMk hV hdep hb hz
    refine run_bare (by kernel_rfl) ?_
    unfold grrFr at hK ⊢
    go_simp
    have hV := HV.out
    refine kfit (hK _ _ ⟨hV.1.below HB.out hV.2.1, Nat.le_trans hV.2.1 HB.out.size, hV.2.2.trans (HB.out |>.mono hV.2.1)⟩ (fun j hj => grrVals_keep j _ V _ (HVs.out j hj) HB.out) ⟨_, rfl, HZ.out⟩ H.out) ?_
    first | (simp only [grrFr, Act.put, List.setIfInBounds_toArray, List.set_cons_zero, List.set_cons_succ, h0, h4, e2]; done) | (simp only [grrFr, Act.put, List.setIfInBounds_toArray, List.set_cons_zero, List.set_cons_succ, h0, h4, e2]; rfl)
  -- 4: slot 13 := Op.move t4
  refine And.intro ?_ ?_
  · rw [← hf]; clear hf
    refine ⟨fun _ => ⟨by decide +kernel, fun x v => by kernel_rfl, fun x V hV hdep K hK => ?_⟩, fun h => absurd h (by decide)⟩
    clear hdep
    refine run_bare (by kernel_rfl) ?_
    unfold grrFr
    go_simp
    refine kfit (hK _ _ (Below.refl _ V) rfl) ?_
    first | (simp only [grrFr, Act.put, List.setIfInBounds_toArray, List.set_cons_zero, List.set_cons_succ, h0, h4]; done) | (simp only [grrFr, Act.put, List.setIfInBounds_toArray, List.set_cons_zero, List.set_cons_succ, h0, h4]; rfl)
  -- 5: slot 14 := Op.makeSlice 22 t13 t13
  refine And.intro ?_ ?_
  · rw [← hf]; clear hf
    refine ⟨fun h => absurd h (by decide), fun _ => ⟨by decide +kernel, fun x v => by kernel_rfl, fun L x V hV hVs hMk hLi hdep K hK => ?_⟩⟩
    have e4 : x 4 = .int .i64 (n : Int) := hVs 4 (depL hdep 4 (by decide +kernel))
    have hb := below_allocG V (.cells (madeCells #[.int .i64 0] n) 3)
    have hz := own_zeros V n (by omega) hV.2.1
    have hmk := make_ints n n (Nat.le_refl _) (by omega) V
    have H := Lib.hid (hMk.s5 (c := n) (o := .cells (madeCells #[.int .i64 0] n) 3) hLi)
    have HVs := Lib.hid hVs
    have HV := Lib.hid hV
    have HB := Lib.hid hb
    have HZ := Lib.hid hz
    clear hVs hMk hV hdep hb hz
    refine run_bare (by kernel_rfl) ?_
    unfold grrFr at hK ⊢
    go_simp
    have hV := HV.out
    refine kfit (hK _ _ ⟨hV.1.below HB.out hV.2.1, Nat.le_trans hV.2.1 HB.out.size, hV.2.2.trans (HB.out |>.mono hV.2.1)⟩ (fun j hj => grrVals_keep j _ V _ (HVs.out j hj) HB.out) ⟨_, rfl, HZ.out⟩ H.out) ?_
    first | (simp only [grrFr, Act.put, List.setIfInBounds_toArray, List.set_cons_zero, List.set_cons_succ, h0, h4, e4]; done) | (simp only [grrFr, Act.put, List.setIfInBounds_toArray, List.set_cons_zero, List.set_cons_succ, h0, h4, e4]; rfl)
  -- 6: slot 15 := Op.move t4
  refine And.intro ?_ ?_
  · rw [← hf]; clear hf
    refine ⟨fun _ => ⟨by decide +kernel, fun x v => by kernel_rfl, fun x V hV hdep K hK => ?_⟩, fun h => absurd h (by decide)⟩
    clear hdep
    refine run_bare (by kernel_rfl) ?_
    unfold grrFr
    go_simp
    refine kfit (hK _ _ (Below.refl _ V) rfl) ?_
    first | (simp only [grrFr, Act.put, List.setIfInBounds_toArray, List.set_cons_zero, List.set_cons_succ, h0, h4]; done) | (simp only [grrFr, Act.put, List.setIfInBounds_toArray, List.set_cons_zero, List.set_cons_succ, h0, h4]; rfl)
  -- 7: slot 16 := Op.makeSlice 22 t15 t15
  refine And.intro ?_ ?_
  · rw [← hf]; clear hf
    refine ⟨fun h => absurd h (by decide), fun _ => ⟨by decide +kernel, fun x v => by kernel_rfl, fun L x V hV hVs hMk hLi hdep K hK => ?_⟩⟩
    have e6 : x 6 = .int .i64 (n : Int) := hVs 6 (depL hdep 6 (by decide +kernel))
    have hb := below_allocG V (.cells (madeCells #[.int .i64 0] n) 3)
    have hz := own_zeros V n (by omega) hV.2.1
    have hmk := make_ints n n (Nat.le_refl _) (by omega) V
    have H := Lib.hid (hMk.s7 (c := n) (o := .cells (madeCells #[.int .i64 0] n) 3) hLi)
    have HVs := Lib.hid hVs
    have HV := Lib.hid hV
    have HB := Lib.hid hb
    have HZ := Lib.hid hz
    clear hVs hMk hV hdep hb hz
    refine run_bare (by kernel_rfl) ?_
    unfold grrFr at hK ⊢
    go_simp
    have hV := HV.out
    refine kfit (hK _ _ ⟨hV.1.below HB.out hV.2.1, Nat.le_trans hV.2.1 HB.out.size, hV.2.2.trans (HB.out |>.mono hV.2.1)⟩ (fun j hj => grrVals_keep j _ V _ (HVs.out j hj) HB.out) ⟨_, rfl, HZ.out⟩ H.out) ?_
    first | (simp only [grrFr, Act.put, List.setIfInBounds_toArray, List.set_cons_zero, List.set_cons_succ, h0, h4, e6]; done) | (simp only [grrFr, Act.put, List.setIfInBounds_toArray, List.set_cons_zero, List.set_cons_succ, h0, h4, e6]; rfl)
  -- 8: slot 17 := Op.build 72 #[(0, t10), (1, t12), (2, t14), (3, t16)]
  refine And.intro ?_ ?_
  · rw [← hf]; clear hf
    refine ⟨fun h => absurd h (by decide), fun _ => ⟨by decide +kernel, fun x v => by kernel_rfl, fun L x V hV hVs hMk hLi hdep K hK => ?_⟩⟩
    have q1 := depL hdep 1 (by decide +kernel)
    have q3 := depL hdep 3 (by decide +kernel)
    have q5 := depL hdep 5 (by decide +kernel)
    have q7 := depL hdep 7 (by decide +kernel)
    obtain ⟨ga, gc, e1, r1⟩ : ∃ ga gc, x 1 = .slice (some ⟨ga, 0, none⟩) n gc ∧ (B ≤ ga ∧ RestAt B ga n needs V) := hVs 1 q1
    obtain ⟨gb, e3, r3⟩ : ∃ gq, x 3 = .slice (some ⟨gq, 0, none⟩) n n ∧ OwnI B (.slice (some ⟨gq, 0, none⟩) n n) ((List.range n).map fun _ => 0) V := hVs 3 q3
    obtain ⟨gd, e5, r5⟩ : ∃ gq, x 5 = .slice (some ⟨gq, 0, none⟩) n n ∧ OwnI B (.slice (some ⟨gq, 0, none⟩) n n) ((List.range n).map fun _ => 0) V := hVs 5 q5
    obtain ⟨ge, e7, r7⟩ : ∃ gq, x 7 = .slice (some ⟨gq, 0, none⟩) n n ∧ OwnI B (.slice (some ⟨gq, 0, none⟩) n n) ((List.range n).map fun _ => 0) V := hVs 7 q7
    have H := hMk.s8 hLi q1 q3 q5 q7
    rw [e1, e3, e5, e7] at H
    replace H := Lib.hid H
    have HVs := Lib.hid hVs
    have HV := Lib.hid hV
    clear hVs hMk hV hdep r1 r3 r5 r7
    refine run_bare (by kernel_rfl) ?_
    unfold grrFr at hK ⊢
    unfold nilS at H
    go_simp
    refine kfit (hK _ _ HV.out HVs.out ⟨_, rfl, trivial⟩ H.out) ?_
    first | (simp only [grrFr, Act.put, List.setIfInBounds_toArray, List.set_cons_zero, List.set_cons_succ, h0, h4, e1, e3, e5, e7]; done) | (simp only [grrFr, Act.put, List.setIfInBounds_toArray, List.set_cons_zero, List.set_cons_succ, h0, h4, e1, e3, e5, e7]; rfl)
  -- 9: slot 5 := Op.alloc 72
  refine And.intro ?_ ?_
  · rw [← hf]; clear hf
    refine ⟨fun h => absurd h (by decide), fun _ => ⟨by decide +kernel, fun x v => by kernel_rfl, fun L x V hV hVs hMk hLi hdep K hK => ?_⟩⟩
    have H := Lib.hid (hMk.s9 hLi hV.2.1)
    have HVs := Lib.hid hVs
    have HV := Lib.hid hV
    have HB := Lib.hid (below_allocG V (.cells #[nilS, nilS, nilS, nilS, nilS, nilS, .int .i64 0, .int .i64 0] 72))
    clear hVs hMk hV hdep
    refine run_bare (by kernel_rfl) ?_
    unfold grrFr at hK ⊢
    unfold nilS at H HB
    go_simp
    have hV := HV.out
    refine kfit (hK _ _ ⟨hV.1.below HB.out hV.2.1, Nat.le_trans hV.2.1 HB.out.size, hV.2.2.trans (HB.out |>.mono hV.2.1)⟩ (fun j hj => grrVals_keep j _ V _ (HVs.out j hj) HB.out) ⟨_, rfl, trivial⟩ H.out) ?_
    first | (simp only [grrFr, Act.put, List.setIfInBounds_toArray, List.set_cons_zero, List.set_cons_succ, h0, h4]; done) | (simp only [grrFr, Act.put, List.setIfInBounds_toArray, List.set_cons_zero, List.set_cons_succ, h0, h4]; rfl)
  -- 10: slot none := Op.store 72 t5 t17
  refine And.intro ?_ ?_
  · rw [← hf]; clear hf
    refine ⟨fun h => absurd h (by decide), fun _ => ⟨by decide +kernel, fun x v => by kernel_rfl, fun L x V hV hVs hMk hLi hdep K hK => ?_⟩⟩
    have q8 := depL hdep 8 (by decide +kernel)
    have q9 := depL hdep 9 (by decide +kernel)
    obtain ⟨q1, q3, q5, q7, e8⟩ := hMk.l8 q8
    obtain ⟨ga, gc, e1, r1⟩ : ∃ ga gc, x 1 = .slice (some ⟨ga, 0, none⟩) n gc ∧ (B ≤ ga ∧ RestAt B ga n needs V) := hVs 1 q1
    obtain ⟨gb, e3, r3⟩ : ∃ gq, x 3 = .slice (some ⟨gq, 0, none⟩) n n ∧ OwnI B (.slice (some ⟨gq, 0, none⟩) n n) ((List.range n).map fun _ => 0) V := hVs 3 q3
    obtain ⟨gd, e5, r5⟩ : ∃ gq, x 5 = .slice (some ⟨gq, 0, none⟩) n n ∧ OwnI B (.slice (some ⟨gq, 0, none⟩) n n) ((List.range n).map fun _ => 0) V := hVs 5 q5
    obtain ⟨ge, e7, r7⟩ : ∃ gq, x 7 = .slice (some ⟨gq, 0, none⟩) n n ∧ OwnI B (.slice (some ⟨gq, 0, none⟩) n n) ((List.range n).map fun _ => 0) V := hVs 7 q7
    obtain ⟨p, e9, hBp, hp⟩ := hMk.l9 q9 hLi
    rw [e1, e3, e5, e7] at e8
    have d1 := hMk.d35 q3 q5; rw [e3, e5] at d1
    have d2 := hMk.d37 q3 q7; rw [e3, e7] at d2
    have d3 := hMk.d57 q5 q7; rw [e5, e7] at d3
    have hm := made_search (cs := gc) hp hBp r1.1 r1.2 r3 r5 r7 d1 d2 d3
    have hbp : ButP B p V _ := ⟨⟨_, hp⟩, hBp, fun k hk => set8_other V p (.slice (some ⟨ga, 0, none⟩) n gc) (.slice (some ⟨gb, 0, none⟩) n n) (.slice (some ⟨gd, 0, none⟩) n n) (.slice (some ⟨ge, 0, none⟩) n n) nilS nilS (.int .i64 0) (.int .i64 0) hk⟩
    have hz : V.heap.size ≤ (set8 V p (.slice (some ⟨ga, 0, none⟩) n gc) (.slice (some ⟨gb, 0, none⟩) n n) (.slice (some ⟨gd, 0, none⟩) n n) (.slice (some ⟨ge, 0, none⟩) n n) nilS nilS (.int .i64 0) (.int .i64 0)).heap.size := by unfold set8; simp only [size_set]; exact Nat.le_refl _
    have H := Lib.hid (hK undef _ ⟨hV.1.butP hbp, Nat.le_trans hV.2.1 hz, below_set8 hV.2.2 hBp _ _ _ _ _ _ _ _⟩ (fun j hj => grrVals_butP j _ V _ (hVs j hj) hbp) ⟨undef, rfl, trivial⟩ (hMk.s10 (v := undef) q8 q9 e9 hz hm))
    obtain ⟨v0, v1, v2, v3, v4, v5, v6, v7⟩ := cells8 hp
    have f0 := Lib.frozen_of_heap hp 0; have f1 := Lib.frozen_of_heap hp 1; have f2 := Lib.frozen_of_heap hp 2; have f3 := Lib.frozen_of_heap hp 3; have f4 := Lib.frozen_of_heap hp 4; have f5 := Lib.frozen_of_heap hp 5; have f6 := Lib.frozen_of_heap hp 6; have f7 := Lib.frozen_of_heap hp 7
    clear hVs hMk hV hdep hK r1 r3 r5 r7 hp hm hbp hz
    refine run_bare (by kernel_rfl) ?_
    unfold set8 at H
    unfold grrFr at H ⊢
    unfold nilS at *
    go_simp
    refine kfit H.out ?_
    first | (simp only [grrFr, Act.put, List.setIfInBounds_toArray, List.set_cons_zero, List.set_cons_succ, h0, h4, e1, e3, e5, e7, e8, e9]; done) | (simp only [grrFr, Act.put, List.setIfInBounds_toArray, List.set_cons_zero, List.set_cons_succ, h0, h4, e1, e3, e5, e7, e8, e9]; rfl)
  exact trivial
theorem grr_here {w : World} {B n gn cap : Nat} {needs : Nat → List Nat} (hn0 : 0 ≤ n) (hn1 : n ≤ 100000000)
    
    {Q : Exit → Act → World → Prop} {ops : Array Oper} {a : Act} (X : World) (hops : ops = grrOps)
    (h0 : a.tmps.getD 0 undef = .slice (some ⟨gn, 0, none⟩) n cap) (h4 : a.tmps.getD 4 undef = .int .i64 (n : Int))
    (ha : a = grrFr (fun j => a.tmps.getD j undef) a.defers (fun i => a.tmps.getD (if i = 9 then 5 else 9 + i) undef)) (hS : (RowsAt B gn n needs X.drew ∧ B ≤ X.drew.heap.size ∧ Below B w X.drew))
    (hfin : ∀ (x : Nat → Value) V p qs cs qm ql qr, x 9 = .pointer (some ⟨p, 0, none⟩) → SM B p n qs cs qm ql qr nilS nilS (grInit needs) V → Below B w V → Q .normal (grrFr (fun j => a.tmps.getD j undef) a.defers x) V) : (Code.region 2 ops true).wp Try.prog Q a X :=
  cast (congrArg (fun z => (Code.region 2 ops true).wp Try.prog Q z X) ha.symm) (grr_region hn0 hn1 (b := fun j => a.tmps.getD j undef) (d := a.defers) h0 h4  hops _ X hS hfin)
end Go.Proofs.Ytlpifioneafciaa
