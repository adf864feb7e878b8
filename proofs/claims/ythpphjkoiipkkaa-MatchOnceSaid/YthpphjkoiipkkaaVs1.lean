/- Merged: MlA, MlR, MlS. -/
import Derived.Test.YthpphjkoiipkkaaVm10
import Derived.Test.YthpphjkoiipkkaaVm5
import Derived.Test.YthpphjkoiipkkaaVm4
import Derived.Test.YthpphjkoiipkkaaVm6
/- The laws of matching: their example; what their last statements keep. -/
namespace Go.Proofs.Ythpphjkoiipkkaa
open Go.RowKit Go.Maps Go.Sort Go.Lib
attribute [local go_sem] Oper.semAt_some

theorem run_guardF {P : Program} {o : Oper} {ops : Array Oper} {a : Act} {w : World} {K : Act → World → Prop} {Q : Exit → Act → World → Prop} {C : Prop} (g k : Nat) (v : Value) (hg : o.guard = some (g, false))
    (hk : (ops[g]?).bind (·.dst) = some k) (hv : a.tmps[k]? = some v) (e : v = .bool false) (h : Oper.wp P o a w K Q) :
    if Region.wanted o (yielded ops a.tmps) = true then Oper.wp P o a w K Q else C := by
  rw [if_pos (by simp [Region.wanted, hg, yielded, hk, hv, e])]; exact h
theorem run_skip {P : Program} {o : Oper} {ops : Array Oper} {a : Act} {w : World} {K : Act → World → Prop} {Q : Exit → Act → World → Prop} {C : Prop} (g k : Nat) (v : Value) (hg : o.guard = some (g, true))
    (hk : (ops[g]?).bind (·.dst) = some k) (hv : a.tmps[k]? = some v) (e : v = .bool false) (h : C) :
    if Region.wanted o (yielded ops a.tmps) = true then Oper.wp P o a w K Q else C := by
  rw [if_neg (by simp [Region.wanted, hg, yielded, hk, hv, e])]; exact h
theorem run_skipF {P : Program} {o : Oper} {ops : Array Oper} {a : Act} {w : World} {K : Act → World → Prop} {Q : Exit → Act → World → Prop} {C : Prop} (g k : Nat) (v : Value) (hg : o.guard = some (g, false))
    (hk : (ops[g]?).bind (·.dst) = some k) (hv : a.tmps[k]? = some v) (e : v = .bool true) (h : C) :
    if Region.wanted o (yielded ops a.tmps) = true then Oper.wp P o a w K Q else C := by
  rw [if_neg (by simp [Region.wanted, hg, yielded, hk, hv, e])]; exact h
theorem mt_yes : (mt (tsize tA) [] tA tInt).isSome = true := by
  rw [show tsize tA = 0 + 1 from rfl, mt, if_pos (show tA.kind = 1 from rfl)]; rfl
theorem mt_no : (mt (tsize tInt) [] tInt tA).isSome = false := by
  rw [show tsize tInt = 0 + 1 from rfl, mt, if_neg (by decide), if_neg (fun h => by have := h.1; exact absurd this (by decide))]; rfl
def vA : List ByteArray := [⟨#[97]⟩]
theorem tA_in : TIn vA tA := fun x hx => by simpa [vs, tA, vA] using hx
theorem tInt_in : TIn vA tInt := fun x hx => by simp [vs, vss, tInt] at hx
theorem vA_short : ∀ x ∈ vA, x.size ≤ 1000 := by decide
set_option maxRecDepth 100000 in
set_option maxHeartbeats 2000000 in
theorem mfirst_any (w : World) : Calls Try.prog 6 #[] w fun e w' => e = .returned (.bool true) ∧ Below w.heap.size w w' := by
  have H1 := Lib.hid (fun W : World => pmatch_any (a := tA) (b := tInt) (V := vA) (w := W) (pa := none) (pb := none) (ca := 0) (cb := 0) (by decide) (by decide) tA_in (by decide) vA_short (TysAt.nil _ _ _) (TysAt.nil _ _ _))
  have H2 := Lib.hid (fun W : World => pmatch_any (a := tInt) (b := tA) (V := vA) (w := W) (pa := none) (pb := none) (ca := 0) (cb := 0) (by decide) (by decide) tInt_in (by decide) vA_short (TysAt.nil _ _ _) (TysAt.nil _ _ _))
  unfold PMat at H1 H2
  rw [mt_yes] at H1
  rw [mt_no] at H2
  simp only [show tA.kind = 1 from rfl, show tA.name = ⟨#[97]⟩ from rfl, show tA.kids = [] from rfl, show tInt.kind = 2 from rfl, show tInt.name = ⟨#[73, 110, 116]⟩ from rfl, show tInt.kids = [] from rfl, List.length_nil] at H1 H2
  go_enter Try.func6, Try.ntmps6
  go_wp2_with (first
    | (go_at_call 8; refine (H1.out _).mono ?_; rintro e w1 ⟨⟨sv, l, rfl, hs, _⟩, hb1⟩; obtain ⟨sa, sc, rfl⟩ := hs.shape; have HB1 := Lib.hid hb1; clear hs hb1 H1)
    | (go_at_call 8; refine (H2.out _).mono ?_; rintro e w2 ⟨⟨sv2, l2, rfl, hs, _⟩, hb2⟩; obtain ⟨sa2, sc2, rfl⟩ := hs.shape; have HB2 := Lib.hid hb2; clear hs hb2))
  go_ret
  exact ⟨rfl, ((HB1.out.alloc HB1.out.size _).trans (HB2.out.mono (by simp; have := HB1.out.size; omega))).alloc (by have := HB1.out.size; have := HB2.out.size; simp at this; omega) _⟩
/-- Both types, and what was found by each. -/
def UQ (w : World) (b6 b7 b8 : Nat) (t u : T) (pa pb : Option Addr) (ca cb : Nat) (sa : Option Addr) (sc : Nat) (l q : List PR) (mv : Value) (V : World) : Prop :=
  (BoxT b6 t pa ca V ∧ BoxT b7 u pb cb V) ∧ BoxS b8 (.slice sa l.length sc) l V ∧ (GivenG 63 mv q V ∧ Typ q V) ∧ Below w.heap.size w V
theorem UQ.below {w : World} {b6 b7 b8 : Nat} {t u : T} {pa pb : Option Addr} {ca cb : Nat} {sa : Option Addr} {sc : Nat} {l q : List PR} {mv : Value} {X Y : World} (h : UQ w b6 b7 b8 t u pa pb ca cb sa sc l q mv X) (hb : Below X.heap.size X Y) : UQ w b6 b7 b8 t u pa pb ca cb sa sc l q mv Y :=
  ⟨⟨h.1.1.below hb, h.1.2.below hb⟩, h.2.1.below hb, ⟨h.2.2.1.1.below hb, h.2.2.1.2.keep (KeepT.of_below hb)⟩, h.2.2.2.trans (hb.mono h.2.2.2.size)⟩
theorem UQ.cells {w : World} {b6 b7 b8 : Nat} {t u : T} {pa pb : Option Addr} {ca cb : Nat} {sa : Option Addr} {sc : Nat} {l q : List PR} {mv : Value} {X : World} (h : UQ w b6 b7 b8 t u pa pb ca cb sa sc l q mv X) :
    (X.cell? ⟨b6, 0, none⟩ = some (.int .i64 t.kind) ∧ X.cell? ⟨b6, 1, none⟩ = some (.string t.name) ∧ X.cell? ⟨b6, 2, none⟩ = some (.slice pa t.kids.length ca)) ∧
    (X.cell? ⟨b7, 0, none⟩ = some (.int .i64 u.kind) ∧ X.cell? ⟨b7, 1, none⟩ = some (.string u.name) ∧ X.cell? ⟨b7, 2, none⟩ = some (.slice pb u.kids.length cb)) ∧ X.cell? ⟨b8, 0, none⟩ = some (.slice sa l.length sc) :=
  ⟨h.1.1.cells, h.1.2.cells, h.2.1.cell⟩
/-- Apply of what was found. -/
theorem papp_ret {l : List PR} {t u : T} {sv : Value} {a : Option Addr} {c : Nat} {w : World} (hs : SubAt sv l w) (hl : l.length < 20) (hz : ∀ x ∈ l, tsize x.t ≤ 1000000000) (ht : tsize t ≤ 1000000000) (e : app l t = u) (hT : TysAt w (.slice a t.kids.length c) t.kids) :
    Calls Try.prog 12 #[.agg #[sv], .agg #[.int .i64 t.kind, .string t.name, .slice a t.kids.length c]] w fun E Y => (∃ za zc, E = .returned (.agg #[.int .i64 u.kind, .string u.name, .slice za u.kids.length zc]) ∧ TysAt Y (.slice za u.kids.length zc) u.kids) ∧ Below w.heap.size w Y := by
  subst e
  refine (apply_any (d := l) (t := t) (by omega) hz ht hs hT).mono ?_
  rintro E Y ⟨⟨za, zc, rfl, hin⟩, hb⟩
  exact ⟨⟨za, zc, rfl, hin.tys⟩, hb⟩
theorem rapp_ret7 {q : List PR} {t u : T} {mv : Value} {a : Option Addr} {c : Nat} {w : World} (hg : GivenG 63 mv q w) (ht : Typ q w) (hq : q.length < 1000000) (hz : tsize t ≤ 1000000000) (e : app q t = u) (hT : TysAt w (.slice a t.kids.length c) t.kids) :
    Calls Try.prog 13 #[mv, .agg #[.int .i64 t.kind, .string t.name, .slice a t.kids.length c]] w fun E Y => (∃ za zc, E = .returned (.agg #[.int .i64 u.kind, .string u.name, .slice za u.kids.length zc]) ∧ TysAt Y (.slice za u.kids.length zc) u.kids) ∧ Below w.heap.size w Y := by
  subst e
  exact rapp_big hq hg ht hT hz
theorem same_ret7 {t : T} (ht : tsize t ≤ 1000000000) {a b : Option Addr} {c d : Nat} {w : World} (h : TysAt w (.slice a t.kids.length c) t.kids) (h' : TysAt w (.slice b t.kids.length d) t.kids) :
    Calls Try.prog 11 #[.agg #[.int .i64 t.kind, .string t.name, .slice a t.kids.length c], .agg #[.int .i64 t.kind, .string t.name, .slice b t.kids.length d]] w fun e Y => e = .returned (.bool true) ∧ Below w.heap.size w Y := by
  have := sameType_any (t := t) (t' := t) (w := w) (fits_small ht) h h'
  rwa [eqB_true rfl] at this
end Go.Proofs.Ythpphjkoiipkkaa
/- MatchSays: its last statement, a region of 20 operations that draws its order, by an invariant. (Made by a program.) -/
namespace Go.Proofs.Ythpphjkoiipkkaa
open Go.RowKit Go.Maps Go.Sort Go.Lib
attribute [local go_sem] Oper.semAt_some

noncomputable def msyOps : Array Oper := regionIn 13 (Try.f3.body.getD .skip)
def msyFr (b : Nat → Value) (d : List Deferred) (x : Nat → Value) : Act := { tmps := #[b 0, b 1, b 2, b 3, x 19, b 5, b 6, b 7, b 8, b 9, b 10, b 11, b 12, b 13, b 14, b 15, b 16, b 17, b 18, b 19, b 20, b 21, b 22, b 23, b 24, b 25, b 26, b 27, b 28, b 29, b 30, b 31, b 32, b 33, b 34, b 35, b 36, b 37, b 38, b 39, b 40, b 41, b 42, b 43, b 44, b 45, b 46, b 47, b 48, b 49, b 50, b 51, b 52, b 53, b 54, b 55, b 56, b 57, b 58, b 59, b 60, b 61, b 62, b 63, b 64, x 0, x 1, x 2, x 3, x 4, x 5, x 6, x 7, x 8, x 9, x 10, x 11, x 12, x 13, x 14, x 15, x 16, x 17, x 18], defers := d }

def msyVals (tx ty : T) (xa ya sa : Option Addr) (xc yc sc : Nat) (l : List PR) (mv : Value) (i : Nat) (v : Value) (V : World) : Prop :=
  match i with
  | 0 => v = .bool true
  | 1 => v = .bool true
  | 2 => v = .bool true
  | 3 => v = .bool false
  | 4 => v = .bool false
  | 5 => v = .agg #[.slice sa l.length sc]
  | 6 => v = .agg #[.int .i64 (tx).kind, .string (tx).name, .slice xa (tx).kids.length xc]
  | 7 => ∃ zu zv, v = .agg #[.int .i64 (ty).kind, .string (ty).name, .slice zu (ty).kids.length zv] ∧ TysAt V (.slice zu (ty).kids.length zv) (ty).kids
  | 8 => v = .agg #[.int .i64 (ty).kind, .string (ty).name, .slice ya (ty).kids.length yc]
  | 9 => v = .bool true
  | 10 => v = .bool true
  | 11 => v = mv
  | 12 => v = .agg #[.int .i64 (tx).kind, .string (tx).name, .slice xa (tx).kids.length xc]
  | 13 => ∃ zu zv, v = .agg #[.int .i64 (ty).kind, .string (ty).name, .slice zu (ty).kids.length zv] ∧ TysAt V (.slice zu (ty).kids.length zv) (ty).kids
  | 14 => v = .agg #[.int .i64 (ty).kind, .string (ty).name, .slice ya (ty).kids.length yc]
  | 15 => v = .bool true
  | 16 => v = .bool true
  | 17 => v = .bool true
  | 18 => v = .bool true
  | 19 => v = .bool true
  | _ => True

theorem msyVals_keep {tx ty : T} {xa ya sa : Option Addr} {xc yc sc : Nat} {l : List PR} {mv : Value} (i : Nat) (v : Value) (V Y : World) (h : msyVals tx ty xa ya sa xc yc sc l mv i v V) (hb : Below V.heap.size V Y) : msyVals tx ty xa ya sa xc yc sc l mv i v Y := by
  unfold msyVals at *
  split at h <;> first
    | exact h
    | (obtain ⟨zu, zv, e, h⟩ := h; exact ⟨zu, zv, e, h.keep (KeepT.of_below hb)⟩)

theorem msy_size : msyOps.size = 20 := by kernel_rfl
theorem msy_dst_1 : (msyOps[1]?).bind (·.dst) = some 66 := by kernel_rfl
theorem msy_dst_4 : (msyOps[4]?).bind (·.dst) = some 69 := by kernel_rfl
theorem msy_dst_10 : (msyOps[10]?).bind (·.dst) = some 75 := by kernel_rfl
set_option linter.unusedSimpArgs false in
set_option maxRecDepth 100000 in
set_option maxHeartbeats 8000000 in
theorem msy_region {w : World} {b6 b7 b8 : Nat} {tx ty : T} {xa ya sa : Option Addr} {xc yc sc : Nat} {l q : List PR} {mv : Value} {b : Nat → Value} {d : List Deferred}
    (h5 : b 5 = .bool true) (h9 : b 9 = .bool true) (h10 : b 10 = mv) (h6 : b 6 = .pointer (some ⟨b6, 0, none⟩)) (h7 : b 7 = .pointer (some ⟨b7, 0, none⟩)) (h8 : b 8 = .pointer (some ⟨b8, 0, none⟩))
    (HC7 : ∀ V, UQ w b6 b7 b8 tx ty xa ya xc yc sa sc l q mv V → Calls Try.prog 12 #[.agg #[.slice sa l.length sc], .agg #[.int .i64 (tx).kind, .string (tx).name, .slice xa (tx).kids.length xc]] V fun e Y => (∃ zu zv, e = .returned (.agg #[.int .i64 (ty).kind, .string (ty).name, .slice zu (ty).kids.length zv]) ∧ TysAt Y (.slice zu (ty).kids.length zv) (ty).kids) ∧ Below V.heap.size V Y)
    (HC9 : ∀ V, UQ w b6 b7 b8 tx ty xa ya xc yc sa sc l q mv V → ∀ zu7, ∀ zv7, TysAt V (.slice zu7 (ty).kids.length zv7) (ty).kids → Calls Try.prog 11 #[.agg #[.int .i64 (ty).kind, .string (ty).name, .slice zu7 (ty).kids.length zv7], .agg #[.int .i64 (ty).kind, .string (ty).name, .slice ya (ty).kids.length yc]] V fun e Y => e = .returned (.bool true) ∧ Below V.heap.size V Y)
    (HC13 : ∀ V, UQ w b6 b7 b8 tx ty xa ya xc yc sa sc l q mv V → Calls Try.prog 13 #[mv, .agg #[.int .i64 (tx).kind, .string (tx).name, .slice xa (tx).kids.length xc]] V fun e Y => (∃ zu zv, e = .returned (.agg #[.int .i64 (ty).kind, .string (ty).name, .slice zu (ty).kids.length zv]) ∧ TysAt Y (.slice zu (ty).kids.length zv) (ty).kids) ∧ Below V.heap.size V Y)
    (HC15 : ∀ V, UQ w b6 b7 b8 tx ty xa ya xc yc sa sc l q mv V → ∀ zu13, ∀ zv13, TysAt V (.slice zu13 (ty).kids.length zv13) (ty).kids → Calls Try.prog 11 #[.agg #[.int .i64 (ty).kind, .string (ty).name, .slice zu13 (ty).kids.length zv13], .agg #[.int .i64 (ty).kind, .string (ty).name, .slice ya (ty).kids.length yc]] V fun e Y => e = .returned (.bool true) ∧ Below V.heap.size V Y)
    {Q : Exit → Act → World → Prop} {ops : Array Oper} (hops : ops = msyOps) (x0 : Nat → Value) (X : World) (hS : UQ w b6 b7 b8 tx ty xa ya xc yc sa sc l q mv X.drew)
    (hfin : ∀ x V, UQ w b6 b7 b8 tx ty xa ya xc yc sa sc l q mv V → x 19 = .bool true → Q .normal (msyFr b d x) V) : (Code.region 13 ops true).wp Try.prog Q (msyFr b d x0) X := by
  have HC := Lib.hid (And.intro HC7 (And.intro HC9 (And.intro HC13 HC15)))
  clear HC7 HC9 HC13 HC15
  refine region_inv (msyFr b d) (fun V => UQ w b6 b7 b8 tx ty xa ya xc yc sa sc l q mv V) (fun V Y => Below V.heap.size V Y) (msyVals tx ty xa ya sa xc yc sc l mv) x0 (by kernel_rfl) rfl hS (fun V Y h hb => h.below hb) (fun i v V Y _ h hb => msyVals_keep i v V Y h hb) ?_ (fun x V hV h => hfin x V hV (h 19 (by rw [hops, msy_size]; decide)))
  clear hfin hS
  obtain ⟨f, hf⟩ : ∃ qq, StepAt Try.prog (msyFr b d) (fun V => UQ w b6 b7 b8 tx ty xa ya xc yc sa sc l q mv V) (fun V Y => Below V.heap.size V Y) (msyVals tx ty xa ya sa xc yc sc l mv) ops Q = qq := ⟨_, rfl⟩
  rw [hf, hops]
  simp only [msyOps, Try.f3, regionIn, Option.getD_some, Nat.reduceBEq, Bool.false_eq_true, if_false, if_true, beq_self_eq_true, Array.append_empty, Array.empty_append, List.append_eq, List.cons_append, List.nil_append, AllAt, Nat.reduceAdd, Nat.zero_add]
  -- 0: slot 65 := Op.move t5
  refine And.intro ?_ ?_
  · rw [← hf]; clear hf
    refine ⟨by decide +kernel, fun x v => by kernel_rfl, fun x V hV hdep K hK => ?_⟩
    clear hdep
    refine run_bare (by kernel_rfl) ?_
    unfold msyFr
    go_simp
    refine kfit (hK _ _ (Below.refl _ V) rfl) ?_
    first | (simp only [msyFr, Act.put, List.setIfInBounds_toArray, List.set_cons_zero, List.set_cons_succ, h5, h9, h10, h6, h7, h8]; done) | (simp only [msyFr, Act.put, List.setIfInBounds_toArray, List.set_cons_zero, List.set_cons_succ, h5, h9, h10, h6, h7, h8]; rfl)
  -- 1: slot 66 := Op.move t65
  refine And.intro ?_ ?_
  · rw [← hf]; clear hf
    refine ⟨by decide +kernel, fun x v => by kernel_rfl, fun x V hV hdep K hK => ?_⟩
    have e0 : x 0 = .bool true := depOf hdep 0 (by decide +kernel)
    clear hdep
    refine run_bare (by kernel_rfl) ?_
    unfold msyFr
    go_simp
    refine kfit (hK _ _ (Below.refl _ V) rfl) ?_
    first | (simp only [msyFr, Act.put, List.setIfInBounds_toArray, List.set_cons_zero, List.set_cons_succ, h5, h9, h10, h6, h7, h8, e0]; done) | (simp only [msyFr, Act.put, List.setIfInBounds_toArray, List.set_cons_zero, List.set_cons_succ, h5, h9, h10, h6, h7, h8, e0]; rfl)
  -- 2: slot 67 := Op.move t9
  refine And.intro ?_ ?_
  · rw [← hf]; clear hf
    refine ⟨by decide +kernel, fun x v => by kernel_rfl, fun x V hV hdep K hK => ?_⟩
    have e1 : x 1 = .bool true := depOf hdep 1 (by decide +kernel)
    clear hdep
    refine run_guard 1 66 (x 1) (by kernel_rfl) (by rw [hops]; exact msy_dst_1) (by kernel_rfl) e1 ?_; clear hops
    unfold msyFr
    go_simp
    refine kfit (hK _ _ (Below.refl _ V) rfl) ?_
    first | (simp only [msyFr, Act.put, List.setIfInBounds_toArray, List.set_cons_zero, List.set_cons_succ, h5, h9, h10, h6, h7, h8, e1]; done) | (simp only [msyFr, Act.put, List.setIfInBounds_toArray, List.set_cons_zero, List.set_cons_succ, h5, h9, h10, h6, h7, h8, e1]; rfl)
  -- 3: slot 68 := Op.unOp UnOp.not 4 t67
  refine And.intro ?_ ?_
  · rw [← hf]; clear hf
    refine ⟨by decide +kernel, fun x v => by kernel_rfl, fun x V hV hdep K hK => ?_⟩
    have e1 : x 1 = .bool true := depOf hdep 1 (by decide +kernel)
    have e2 : x 2 = .bool true := depOf hdep 2 (by decide +kernel)
    clear hdep
    refine run_guard 1 66 (x 1) (by kernel_rfl) (by rw [hops]; exact msy_dst_1) (by kernel_rfl) e1 ?_; clear hops
    unfold msyFr
    go_simp
    refine kfit (hK _ _ (Below.refl _ V) rfl) ?_
    first | (simp only [msyFr, Act.put, List.setIfInBounds_toArray, List.set_cons_zero, List.set_cons_succ, h5, h9, h10, h6, h7, h8, e1, e2]; done) | (simp only [msyFr, Act.put, List.setIfInBounds_toArray, List.set_cons_zero, List.set_cons_succ, h5, h9, h10, h6, h7, h8, e1, e2]; rfl)
  -- 4: slot 69 := Op.move t68
  refine And.intro ?_ ?_
  · rw [← hf]; clear hf
    refine ⟨by decide +kernel, fun x v => by kernel_rfl, fun x V hV hdep K hK => ?_⟩
    have e1 : x 1 = .bool true := depOf hdep 1 (by decide +kernel)
    have e3 : x 3 = .bool false := depOf hdep 3 (by decide +kernel)
    clear hdep
    refine run_guard 1 66 (x 1) (by kernel_rfl) (by rw [hops]; exact msy_dst_1) (by kernel_rfl) e1 ?_; clear hops
    unfold msyFr
    go_simp
    refine kfit (hK _ _ (Below.refl _ V) rfl) ?_
    first | (simp only [msyFr, Act.put, List.setIfInBounds_toArray, List.set_cons_zero, List.set_cons_succ, h5, h9, h10, h6, h7, h8, e1, e3]; done) | (simp only [msyFr, Act.put, List.setIfInBounds_toArray, List.set_cons_zero, List.set_cons_succ, h5, h9, h10, h6, h7, h8, e1, e3]; rfl)
  -- 5: slot 70 := Op.load 33 t8
  refine And.intro ?_ ?_
  · rw [← hf]; clear hf
    refine ⟨by decide +kernel, fun x v => by kernel_rfl, fun x V hV hdep K hK => ?_⟩
    have e4 : x 4 = .bool false := depOf hdep 4 (by decide +kernel)
    clear hdep
    refine run_guardF 4 69 (x 4) (by kernel_rfl) (by rw [hops]; exact msy_dst_4) (by kernel_rfl) e4 ?_; clear hops
    unfold msyFr
    obtain ⟨⟨y0, y1, y2⟩, ⟨y3, y4, y5⟩, y6⟩ := UQ.cells hV
    go_simp
    refine kfit (hK _ _ (Below.refl _ V) rfl) ?_
    first | (simp only [msyFr, Act.put, List.setIfInBounds_toArray, List.set_cons_zero, List.set_cons_succ, h5, h9, h10, h6, h7, h8, e4]; done) | (simp only [msyFr, Act.put, List.setIfInBounds_toArray, List.set_cons_zero, List.set_cons_succ, h5, h9, h10, h6, h7, h8, e4]; rfl)
  -- 6: slot 71 := Op.load 26 t6
  refine And.intro ?_ ?_
  · rw [← hf]; clear hf
    refine ⟨by decide +kernel, fun x v => by kernel_rfl, fun x V hV hdep K hK => ?_⟩
    have e4 : x 4 = .bool false := depOf hdep 4 (by decide +kernel)
    clear hdep
    refine run_guardF 4 69 (x 4) (by kernel_rfl) (by rw [hops]; exact msy_dst_4) (by kernel_rfl) e4 ?_; clear hops
    unfold msyFr
    obtain ⟨⟨y0, y1, y2⟩, ⟨y3, y4, y5⟩, y6⟩ := UQ.cells hV
    go_simp
    refine kfit (hK _ _ (Below.refl _ V) rfl) ?_
    first | (simp only [msyFr, Act.put, List.setIfInBounds_toArray, List.set_cons_zero, List.set_cons_succ, h5, h9, h10, h6, h7, h8, e4]; done) | (simp only [msyFr, Act.put, List.setIfInBounds_toArray, List.set_cons_zero, List.set_cons_succ, h5, h9, h10, h6, h7, h8, e4]; rfl)
  -- 7: slot 72 := Op.call { value (Operand.func 12), args := #[t70, t71], argT
  refine And.intro ?_ ?_
  · rw [← hf]; clear hf
    refine ⟨by decide +kernel, fun x v => by kernel_rfl, fun x V hV hdep K hK => ?_⟩
    have e4 : x 4 = .bool false := depOf hdep 4 (by decide +kernel)
    have e5 : x 5 = .agg #[.slice sa l.length sc] := depOf hdep 5 (by decide +kernel)
    have e6 : x 6 = .agg #[.int .i64 (tx).kind, .string (tx).name, .slice xa (tx).kids.length xc] := depOf hdep 6 (by decide +kernel)
    clear hdep
    refine run_guardF 4 69 (x 4) (by kernel_rfl) (by rw [hops]; exact msy_dst_4) (by kernel_rfl) e4 ?_; clear hops
    unfold msyFr
    obtain ⟨HC7, HC9, HC13, HC15⟩ := HC.out
    clear HC9 HC13 HC15
    have H := HC7 V hV
    replace H := Lib.hid H; clear HC7
    go_simp
    go_at_call 12
    refine H.out.mono ?_
    rintro e Y ⟨⟨zu, zv, rfl, hq⟩, hb⟩; refine kfit (hK _ _ hb ⟨zu, zv, rfl, hq⟩) ?_
    first | (simp only [msyFr, Act.put, List.setIfInBounds_toArray, List.set_cons_zero, List.set_cons_succ, h5, h9, h10, h6, h7, h8, e4, e5, e6]; done) | (simp only [msyFr, Act.put, List.setIfInBounds_toArray, List.set_cons_zero, List.set_cons_succ, h5, h9, h10, h6, h7, h8, e4, e5, e6]; rfl)
  -- 8: slot 73 := Op.load 26 t7
  refine And.intro ?_ ?_
  · rw [← hf]; clear hf
    refine ⟨by decide +kernel, fun x v => by kernel_rfl, fun x V hV hdep K hK => ?_⟩
    have e4 : x 4 = .bool false := depOf hdep 4 (by decide +kernel)
    clear hdep
    refine run_guardF 4 69 (x 4) (by kernel_rfl) (by rw [hops]; exact msy_dst_4) (by kernel_rfl) e4 ?_; clear hops
    unfold msyFr
    obtain ⟨⟨y0, y1, y2⟩, ⟨y3, y4, y5⟩, y6⟩ := UQ.cells hV
    go_simp
    refine kfit (hK _ _ (Below.refl _ V) rfl) ?_
    first | (simp only [msyFr, Act.put, List.setIfInBounds_toArray, List.set_cons_zero, List.set_cons_succ, h5, h9, h10, h6, h7, h8, e4]; done) | (simp only [msyFr, Act.put, List.setIfInBounds_toArray, List.set_cons_zero, List.set_cons_succ, h5, h9, h10, h6, h7, h8, e4]; rfl)
  -- 9: slot 74 := Op.call { value (Operand.func 11), args := #[t72, t73], argT
  refine And.intro ?_ ?_
  · rw [← hf]; clear hf
    refine ⟨by decide +kernel, fun x v => by kernel_rfl, fun x V hV hdep K hK => ?_⟩
    have e4 : x 4 = .bool false := depOf hdep 4 (by decide +kernel)
    obtain ⟨zu7, zv7, e7, d7⟩ : ∃ zu7 zv7, x 7 = .agg #[.int .i64 (ty).kind, .string (ty).name, .slice zu7 (ty).kids.length zv7] ∧ TysAt V (.slice zu7 (ty).kids.length zv7) (ty).kids := depOf hdep 7 (by decide +kernel)
    have e8 : x 8 = .agg #[.int .i64 (ty).kind, .string (ty).name, .slice ya (ty).kids.length yc] := depOf hdep 8 (by decide +kernel)
    clear hdep
    refine run_guardF 4 69 (x 4) (by kernel_rfl) (by rw [hops]; exact msy_dst_4) (by kernel_rfl) e4 ?_; clear hops
    unfold msyFr
    obtain ⟨HC7, HC9, HC13, HC15⟩ := HC.out
    clear HC7 HC13 HC15
    have H := HC9 V hV _ _ d7
    replace H := Lib.hid H; clear HC9
    go_simp
    go_at_call 11
    refine H.out.mono ?_
    rintro e Y ⟨rfl, hb⟩; refine kfit (hK _ _ hb rfl) ?_
    first | (simp only [msyFr, Act.put, List.setIfInBounds_toArray, List.set_cons_zero, List.set_cons_succ, h5, h9, h10, h6, h7, h8, e4, e7, e8]; done) | (simp only [msyFr, Act.put, List.setIfInBounds_toArray, List.set_cons_zero, List.set_cons_succ, h5, h9, h10, h6, h7, h8, e4, e7, e8]; rfl)
  -- 10: slot 75 := Op.move t74
  refine And.intro ?_ ?_
  · rw [← hf]; clear hf
    refine ⟨by decide +kernel, fun x v => by kernel_rfl, fun x V hV hdep K hK => ?_⟩
    have e4 : x 4 = .bool false := depOf hdep 4 (by decide +kernel)
    have e9 : x 9 = .bool true := depOf hdep 9 (by decide +kernel)
    clear hdep
    refine run_guardF 4 69 (x 4) (by kernel_rfl) (by rw [hops]; exact msy_dst_4) (by kernel_rfl) e4 ?_; clear hops
    unfold msyFr
    go_simp
    refine kfit (hK _ _ (Below.refl _ V) rfl) ?_
    first | (simp only [msyFr, Act.put, List.setIfInBounds_toArray, List.set_cons_zero, List.set_cons_succ, h5, h9, h10, h6, h7, h8, e4, e9]; done) | (simp only [msyFr, Act.put, List.setIfInBounds_toArray, List.set_cons_zero, List.set_cons_succ, h5, h9, h10, h6, h7, h8, e4, e9]; rfl)
  -- 11: slot 76 := Op.move t10
  refine And.intro ?_ ?_
  · rw [← hf]; clear hf
    refine ⟨by decide +kernel, fun x v => by kernel_rfl, fun x V hV hdep K hK => ?_⟩
    have e10 : x 10 = .bool true := depOf hdep 10 (by decide +kernel)
    clear hdep
    refine run_guard 10 75 (x 10) (by kernel_rfl) (by rw [hops]; exact msy_dst_10) (by kernel_rfl) e10 ?_; clear hops
    unfold msyFr
    go_simp
    refine kfit (hK _ _ (Below.refl _ V) rfl) ?_
    first | (simp only [msyFr, Act.put, List.setIfInBounds_toArray, List.set_cons_zero, List.set_cons_succ, h5, h9, h10, h6, h7, h8, e10]; done) | (simp only [msyFr, Act.put, List.setIfInBounds_toArray, List.set_cons_zero, List.set_cons_succ, h5, h9, h10, h6, h7, h8, e10]; rfl)
  -- 12: slot 77 := Op.load 26 t6
  refine And.intro ?_ ?_
  · rw [← hf]; clear hf
    refine ⟨by decide +kernel, fun x v => by kernel_rfl, fun x V hV hdep K hK => ?_⟩
    have e10 : x 10 = .bool true := depOf hdep 10 (by decide +kernel)
    clear hdep
    refine run_guard 10 75 (x 10) (by kernel_rfl) (by rw [hops]; exact msy_dst_10) (by kernel_rfl) e10 ?_; clear hops
    unfold msyFr
    obtain ⟨⟨y0, y1, y2⟩, ⟨y3, y4, y5⟩, y6⟩ := UQ.cells hV
    go_simp
    refine kfit (hK _ _ (Below.refl _ V) rfl) ?_
    first | (simp only [msyFr, Act.put, List.setIfInBounds_toArray, List.set_cons_zero, List.set_cons_succ, h5, h9, h10, h6, h7, h8, e10]; done) | (simp only [msyFr, Act.put, List.setIfInBounds_toArray, List.set_cons_zero, List.set_cons_succ, h5, h9, h10, h6, h7, h8, e10]; rfl)
  -- 13: slot 78 := Op.call { value (Operand.func 13), args := #[t76, t77], argT
  refine And.intro ?_ ?_
  · rw [← hf]; clear hf
    refine ⟨by decide +kernel, fun x v => by kernel_rfl, fun x V hV hdep K hK => ?_⟩
    have e10 : x 10 = .bool true := depOf hdep 10 (by decide +kernel)
    have e11 : x 11 = mv := depOf hdep 11 (by decide +kernel)
    have e12 : x 12 = .agg #[.int .i64 (tx).kind, .string (tx).name, .slice xa (tx).kids.length xc] := depOf hdep 12 (by decide +kernel)
    clear hdep
    refine run_guard 10 75 (x 10) (by kernel_rfl) (by rw [hops]; exact msy_dst_10) (by kernel_rfl) e10 ?_; clear hops
    unfold msyFr
    obtain ⟨HC7, HC9, HC13, HC15⟩ := HC.out
    clear HC7 HC9 HC15
    have H := HC13 V hV
    replace H := Lib.hid H; clear HC13
    go_simp
    go_at_call 13
    refine H.out.mono ?_
    rintro e Y ⟨⟨zu, zv, rfl, hq⟩, hb⟩; refine kfit (hK _ _ hb ⟨zu, zv, rfl, hq⟩) ?_
    first | (simp only [msyFr, Act.put, List.setIfInBounds_toArray, List.set_cons_zero, List.set_cons_succ, h5, h9, h10, h6, h7, h8, e10, e11, e12]; done) | (simp only [msyFr, Act.put, List.setIfInBounds_toArray, List.set_cons_zero, List.set_cons_succ, h5, h9, h10, h6, h7, h8, e10, e11, e12]; rfl)
  -- 14: slot 79 := Op.load 26 t7
  refine And.intro ?_ ?_
  · rw [← hf]; clear hf
    refine ⟨by decide +kernel, fun x v => by kernel_rfl, fun x V hV hdep K hK => ?_⟩
    have e10 : x 10 = .bool true := depOf hdep 10 (by decide +kernel)
    clear hdep
    refine run_guard 10 75 (x 10) (by kernel_rfl) (by rw [hops]; exact msy_dst_10) (by kernel_rfl) e10 ?_; clear hops
    unfold msyFr
    obtain ⟨⟨y0, y1, y2⟩, ⟨y3, y4, y5⟩, y6⟩ := UQ.cells hV
    go_simp
    refine kfit (hK _ _ (Below.refl _ V) rfl) ?_
    first | (simp only [msyFr, Act.put, List.setIfInBounds_toArray, List.set_cons_zero, List.set_cons_succ, h5, h9, h10, h6, h7, h8, e10]; done) | (simp only [msyFr, Act.put, List.setIfInBounds_toArray, List.set_cons_zero, List.set_cons_succ, h5, h9, h10, h6, h7, h8, e10]; rfl)
  -- 15: slot 80 := Op.call { value (Operand.func 11), args := #[t78, t79], argT
  refine And.intro ?_ ?_
  · rw [← hf]; clear hf
    refine ⟨by decide +kernel, fun x v => by kernel_rfl, fun x V hV hdep K hK => ?_⟩
    have e10 : x 10 = .bool true := depOf hdep 10 (by decide +kernel)
    obtain ⟨zu13, zv13, e13, d13⟩ : ∃ zu13 zv13, x 13 = .agg #[.int .i64 (ty).kind, .string (ty).name, .slice zu13 (ty).kids.length zv13] ∧ TysAt V (.slice zu13 (ty).kids.length zv13) (ty).kids := depOf hdep 13 (by decide +kernel)
    have e14 : x 14 = .agg #[.int .i64 (ty).kind, .string (ty).name, .slice ya (ty).kids.length yc] := depOf hdep 14 (by decide +kernel)
    clear hdep
    refine run_guard 10 75 (x 10) (by kernel_rfl) (by rw [hops]; exact msy_dst_10) (by kernel_rfl) e10 ?_; clear hops
    unfold msyFr
    obtain ⟨HC7, HC9, HC13, HC15⟩ := HC.out
    clear HC7 HC9 HC13
    have H := HC15 V hV _ _ d13
    replace H := Lib.hid H; clear HC15
    go_simp
    go_at_call 11
    refine H.out.mono ?_
    rintro e Y ⟨rfl, hb⟩; refine kfit (hK _ _ hb rfl) ?_
    first | (simp only [msyFr, Act.put, List.setIfInBounds_toArray, List.set_cons_zero, List.set_cons_succ, h5, h9, h10, h6, h7, h8, e10, e13, e14]; done) | (simp only [msyFr, Act.put, List.setIfInBounds_toArray, List.set_cons_zero, List.set_cons_succ, h5, h9, h10, h6, h7, h8, e10, e13, e14]; rfl)
  -- 16: slot 81 := Op.pick t75 t80 (const (Value.bool false))
  refine And.intro ?_ ?_
  · rw [← hf]; clear hf
    refine ⟨by decide +kernel, fun x v => by kernel_rfl, fun x V hV hdep K hK => ?_⟩
    have e4 : x 4 = .bool false := depOf hdep 4 (by decide +kernel)
    have e10 : x 10 = .bool true := depOf hdep 10 (by decide +kernel)
    have e15 : x 15 = .bool true := depOf hdep 15 (by decide +kernel)
    clear hdep
    refine run_guardF 4 69 (x 4) (by kernel_rfl) (by rw [hops]; exact msy_dst_4) (by kernel_rfl) e4 ?_; clear hops
    unfold msyFr
    go_simp
    refine kfit (hK _ _ (Below.refl _ V) rfl) ?_
    first | (simp only [msyFr, Act.put, List.setIfInBounds_toArray, List.set_cons_zero, List.set_cons_succ, h5, h9, h10, h6, h7, h8, e4, e10, e15]; done) | (simp only [msyFr, Act.put, List.setIfInBounds_toArray, List.set_cons_zero, List.set_cons_succ, h5, h9, h10, h6, h7, h8, e4, e10, e15]; rfl)
  -- 17: slot 82 := Op.pick t69 (const (Value.bool true)) t81
  refine And.intro ?_ ?_
  · rw [← hf]; clear hf
    refine ⟨by decide +kernel, fun x v => by kernel_rfl, fun x V hV hdep K hK => ?_⟩
    have e1 : x 1 = .bool true := depOf hdep 1 (by decide +kernel)
    have e4 : x 4 = .bool false := depOf hdep 4 (by decide +kernel)
    have e16 : x 16 = .bool true := depOf hdep 16 (by decide +kernel)
    clear hdep
    refine run_guard 1 66 (x 1) (by kernel_rfl) (by rw [hops]; exact msy_dst_1) (by kernel_rfl) e1 ?_; clear hops
    unfold msyFr
    go_simp
    refine kfit (hK _ _ (Below.refl _ V) rfl) ?_
    first | (simp only [msyFr, Act.put, List.setIfInBounds_toArray, List.set_cons_zero, List.set_cons_succ, h5, h9, h10, h6, h7, h8, e1, e4, e16]; done) | (simp only [msyFr, Act.put, List.setIfInBounds_toArray, List.set_cons_zero, List.set_cons_succ, h5, h9, h10, h6, h7, h8, e1, e4, e16]; rfl)
  -- 18: slot 83 := Op.pick t66 t82 (const (Value.bool false))
  refine And.intro ?_ ?_
  · rw [← hf]; clear hf
    refine ⟨by decide +kernel, fun x v => by kernel_rfl, fun x V hV hdep K hK => ?_⟩
    have e1 : x 1 = .bool true := depOf hdep 1 (by decide +kernel)
    have e17 : x 17 = .bool true := depOf hdep 17 (by decide +kernel)
    clear hdep
    refine run_bare (by kernel_rfl) ?_
    unfold msyFr
    go_simp
    refine kfit (hK _ _ (Below.refl _ V) rfl) ?_
    first | (simp only [msyFr, Act.put, List.setIfInBounds_toArray, List.set_cons_zero, List.set_cons_succ, h5, h9, h10, h6, h7, h8, e1, e17]; done) | (simp only [msyFr, Act.put, List.setIfInBounds_toArray, List.set_cons_zero, List.set_cons_succ, h5, h9, h10, h6, h7, h8, e1, e17]; rfl)
  -- 19: slot 4 := Op.assign t83
  refine And.intro ?_ ?_
  · rw [← hf]; clear hf
    refine ⟨by decide +kernel, fun x v => by kernel_rfl, fun x V hV hdep K hK => ?_⟩
    have e18 : x 18 = .bool true := depOf hdep 18 (by decide +kernel)
    clear hdep
    refine run_bare (by kernel_rfl) ?_
    unfold msyFr
    go_simp
    refine kfit (hK _ _ (Below.refl _ V) rfl) ?_
    first | (simp only [msyFr, Act.put, List.setIfInBounds_toArray, List.set_cons_zero, List.set_cons_succ, h5, h9, h10, h6, h7, h8, e18]; done) | (simp only [msyFr, Act.put, List.setIfInBounds_toArray, List.set_cons_zero, List.set_cons_succ, h5, h9, h10, h6, h7, h8, e18]; rfl)
  exact trivial
theorem msy_here {w : World} {b6 b7 b8 : Nat} {tx ty : T} {xa ya sa : Option Addr} {xc yc sc : Nat} {l q : List PR} {mv : Value}
    (HC7 : ∀ V, UQ w b6 b7 b8 tx ty xa ya xc yc sa sc l q mv V → Calls Try.prog 12 #[.agg #[.slice sa l.length sc], .agg #[.int .i64 (tx).kind, .string (tx).name, .slice xa (tx).kids.length xc]] V fun e Y => (∃ zu zv, e = .returned (.agg #[.int .i64 (ty).kind, .string (ty).name, .slice zu (ty).kids.length zv]) ∧ TysAt Y (.slice zu (ty).kids.length zv) (ty).kids) ∧ Below V.heap.size V Y)
    (HC9 : ∀ V, UQ w b6 b7 b8 tx ty xa ya xc yc sa sc l q mv V → ∀ zu7, ∀ zv7, TysAt V (.slice zu7 (ty).kids.length zv7) (ty).kids → Calls Try.prog 11 #[.agg #[.int .i64 (ty).kind, .string (ty).name, .slice zu7 (ty).kids.length zv7], .agg #[.int .i64 (ty).kind, .string (ty).name, .slice ya (ty).kids.length yc]] V fun e Y => e = .returned (.bool true) ∧ Below V.heap.size V Y)
    (HC13 : ∀ V, UQ w b6 b7 b8 tx ty xa ya xc yc sa sc l q mv V → Calls Try.prog 13 #[mv, .agg #[.int .i64 (tx).kind, .string (tx).name, .slice xa (tx).kids.length xc]] V fun e Y => (∃ zu zv, e = .returned (.agg #[.int .i64 (ty).kind, .string (ty).name, .slice zu (ty).kids.length zv]) ∧ TysAt Y (.slice zu (ty).kids.length zv) (ty).kids) ∧ Below V.heap.size V Y)
    (HC15 : ∀ V, UQ w b6 b7 b8 tx ty xa ya xc yc sa sc l q mv V → ∀ zu13, ∀ zv13, TysAt V (.slice zu13 (ty).kids.length zv13) (ty).kids → Calls Try.prog 11 #[.agg #[.int .i64 (ty).kind, .string (ty).name, .slice zu13 (ty).kids.length zv13], .agg #[.int .i64 (ty).kind, .string (ty).name, .slice ya (ty).kids.length yc]] V fun e Y => e = .returned (.bool true) ∧ Below V.heap.size V Y)
    {Q : Exit → Act → World → Prop} {ops : Array Oper} {a : Act} (X : World) (hops : ops = msyOps)
    (h5 : a.tmps.getD 5 undef = .bool true) (h9 : a.tmps.getD 9 undef = .bool true) (h10 : a.tmps.getD 10 undef = mv) (h6 : a.tmps.getD 6 undef = .pointer (some ⟨b6, 0, none⟩)) (h7 : a.tmps.getD 7 undef = .pointer (some ⟨b7, 0, none⟩)) (h8 : a.tmps.getD 8 undef = .pointer (some ⟨b8, 0, none⟩))
    (ha : a = msyFr (fun j => a.tmps.getD j undef) a.defers (fun i => a.tmps.getD (if i = 19 then 4 else 65 + i) undef)) (hS : UQ w b6 b7 b8 tx ty xa ya xc yc sa sc l q mv X.drew)
    (hfin : ∀ x V, UQ w b6 b7 b8 tx ty xa ya xc yc sa sc l q mv V → x 19 = .bool true → Q .normal (msyFr (fun j => a.tmps.getD j undef) a.defers x) V) : (Code.region 13 ops true).wp Try.prog Q a X :=
  cast (congrArg (fun z => (Code.region 13 ops true).wp Try.prog Q z X) ha.symm) (msy_region (b := fun j => a.tmps.getD j undef) (d := a.defers) h5 h9 h10 h6 h7 h8 HC7 HC9 HC13 HC15 hops _ X hS hfin)
end Go.Proofs.Ythpphjkoiipkkaa
/- MatchSays, walked. -/
namespace Go.Proofs.Ythpphjkoiipkkaa
open Go.RowKit Go.Maps Go.Sort Go.Lib
attribute [local go_sem] Oper.semAt_some

theorem v3_few : V3.length < 20 := by decide
theorem v3_short : ∀ x ∈ V3, x.size ≤ 1000 := by decide
theorem BoxT.byMk7 {b B p : Nat} {t : T} {a : Option Addr} {c : Nat} {a2 : Option Addr} {n2 c2 k : Nat} {w W : World} (h : BoxT b t a c w) (hf : MkFr B p w W) (hs : SeqAt B p a2 n2 c2 k w) (hne : b ≠ p) : BoxT b t a c W :=
  ⟨hf.2 b _ h.1 hne, h.2.keep (KeepT.of_mk hf hs)⟩
set_option maxRecDepth 100000 in
set_option maxHeartbeats 8000000 in
theorem msays_law (a1 a2 : Option Addr) (n1 n2 c1 c2 : Nat) (w : World) (hl1 : IntsAt w.heap.size a1 n1 w) (hl2 : IntsAt w.heap.size a2 n2 w) :
    Calls Try.prog 3 #[.slice a1 n1 c1, .slice a2 n2 c2] w fun e w' => e = .returned (.bool true) ∧ Below w.heap.size w w' := by
  have HL1 := Lib.hid hl1; have HL2 := Lib.hid hl2
  have HF := Lib.hid (mfirst_any w)
  clear hl1 hl2
  by_cases hb1 : n1 ≤ 100
  · have hb1I : ¬ ((100 : Int) < (n1 : Int)) := by omega
    by_cases hb2 : n2 ≤ 100
    · have hb2I : ¬ ((100 : Int) < (n2 : Int)) := by omega
      have hn1 : n1 < 1152921504606846976 := by omega
      have hn2 : n2 < 1152921504606846976 := by omega
      go_enter Try.func3, Try.ntmps3
      go_wp2_with (go_at_call 6; refine HF.out.mono ?_; rintro e w1 ⟨rfl, h1⟩; have HB1 := Lib.hid h1; clear h1 HF)
      refine (make_n3 _ _ _ _ _ _ _ (seq_new HB1.out HL1.out) (by decide) hn1).mono ?_
      rintro e W1 ⟨⟨t, u, rfl, hg, hu⟩, _, hf⟩
      obtain ⟨pa, ca, rfl⟩ := hu.shape
      have HB2 := Lib.hid ((HB1.out.alloc HB1.out.size _).trans hf.1)
      have HT := Lib.hid hu.tys; have HG := Lib.hid hg
      clear hu hf hg HB1 HL1
      simp only [tyV]
      have hX2 : BoxT W1.heap.size t pa ca ((W1.alloc (.cells #[.int .i64 t.kind, .string t.name, .slice pa t.kids.length ca] 26)).alloc (.cells #[.slice a2 n2 c2, .int .i64 0] 30)) := (BoxT.new HT.out).alloc _
      have hS2 : SeqAt w.heap.size (W1.heap.size + 1) a2 n2 c2 0 ((W1.alloc (.cells #[.int .i64 t.kind, .string t.name, .slice pa t.kids.length ca] 26)).alloc (.cells #[.slice a2 n2 c2, .int .i64 0] 30)) := by
        have := seq_new (c := c2) (HB2.out.alloc HB2.out.size (.cells #[.int .i64 t.kind, .string t.name, .slice pa t.kids.length ca] 26)) HL2.out
        simpa using this
      have hB3 := (HB2.out.alloc HB2.out.size (.cells #[.int .i64 t.kind, .string t.name, .slice pa t.kids.length ca] 26)).alloc (by have := HB2.out.size; simp; omega) (.cells #[.slice a2 n2 c2, .int .i64 0] 30)
      have HX2 := Lib.hid hX2; have HS2 := Lib.hid hS2; have HB3 := Lib.hid hB3
      clear hX2 hS2 hB3 HB2 HT HL2
      go_wp2_with (go_at_call 7; refine (make_n4 _ _ _ _ _ _ _ HS2.out (by decide) hn2).mono ?_; rintro e W3 ⟨⟨u, uv, rfl, hg, hu⟩, _, hf⟩; obtain ⟨pb, cb, rfl⟩ := hu.shape; have HB4 := Lib.hid (HB3.out.trans hf.1); have HX3 := Lib.hid (HX2.out.byMk7 hf HS2.out (by omega)); have HT3 := Lib.hid hu.tys; have HGU := Lib.hid hg; clear hu hf hg HB3 HX2 HS2; obtain ⟨x0, x1, x2⟩ := HX3.out.cells; have lx := HX3.out.lt; simp only [tyV])
      have htz : tsize t ≤ 51 := by have := tsize2_text t HG.out.1; have := HG.out.2.2; omega
      have huz : tsize u ≤ 107 := by have := tsize2_text u HGU.out.1; have := HGU.out.2.2; omega
      have htV := good_in t HG.out.1
      have huV := good_in u HGU.out.1
      have hX4 := HX3.out.alloc (.cells #[.int .i64 u.kind, .string u.name, .slice pb u.kids.length cb] 26)
      have hY4 := BoxT.new HT3.out
      have hB4 := HB4.out.alloc HB4.out.size (.cells #[.int .i64 u.kind, .string u.name, .slice pb u.kids.length cb] 26)
      obtain ⟨W4, hW4⟩ : ∃ W4, W3.alloc (.cells #[.int .i64 u.kind, .string u.name, .slice pb u.kids.length cb] 26) = W4 := ⟨_, rfl⟩
      rw [hW4] at hX4 hY4 hB4 ⊢
      have HP := pmatch_any (V := V3) (w := W4) (a := t) (b := u) (by omega) (by omega) htV v3_few v3_short hX4.2 hY4.2
      have hR1 := fun (W : World) (hb : Below W4.heap.size W4 W) => rmatch_any (a := t) (b := u) (w := W) (by omega) (fits_small (by omega)) (hX4.below hb).2 (hY4.below hb).2
      have hR2 := fun (W : World) (hb : Below W4.heap.size W4 W) => rmatch_any (a := u) (b := t) (w := W) (by omega) (fits_small (by omega)) (hY4.below hb).2 (hX4.below hb).2
      have hBo := fun (W : World) (hb : Below W4.heap.size W4 W) => pboth_any (V := V3) (a := t) (b := u) (w := W) (by omega) (by omega) htV huV v3_short (hX4.below hb).2 (hY4.below hb).2
      have happ := fun q h => mt_app (f := tsize t) (a := t) (b := u) (q := q) (V := V3) h htV
      unfold PMat at HP
      obtain ⟨m1, hm1⟩ : ∃ m, mt (tsize t) [] t u = m := ⟨_, rfl⟩
      obtain ⟨b1, hb1⟩ : ∃ b, m1.isSome = b := ⟨_, rfl⟩
      obtain ⟨b2, hb2'⟩ : ∃ b, (mt (tsize u) [] u t).isSome = b := ⟨_, rfl⟩
      rw [hm1] at HP hR1 hBo happ
      rw [hb1] at HP hR1 hBo
      rw [hb2'] at hR2 hBo
      have HR1 := Lib.hid hR1; have HR2 := Lib.hid hR2; have HBo := Lib.hid hBo; have HApp := Lib.hid happ; have HBB := Lib.hid hb1; have HB4' := Lib.hid hB4
      refine HP.mono ?_
      rintro e W5 ⟨⟨sv, l, rfl, hs, hll, hap⟩, hb5⟩
      obtain ⟨sa, sc, rfl⟩ := hs.shape
      have HB6 := Lib.hid ((hb5).alloc hb5.size (.cells #[.slice sa l.length sc] 33))
      have HX6 := Lib.hid ((hX4.below hb5).alloc (.cells #[.slice sa l.length sc] 33)); have HX7 := Lib.hid ((hY4.below hb5).alloc (.cells #[.slice sa l.length sc] 33)); have HX8 := Lib.hid (BoxS.new hs); have HAp := Lib.hid hap
      clear x0 x1 x2 lx
      obtain ⟨x0, x1, x2⟩ := (hX4.below hb5).cells
      have lx := (hX4.below hb5).lt
      obtain ⟨y0, y1, y2⟩ := (hY4.below hb5).cells
      have ly := (hY4.below hb5).lt
      clear HP hR1 hR2 hBo happ hm1 hb1 hb2' hs hap hX4 hY4 hB4 hb5 hW4 HX3 HT3 HB4
      cases b1 with
      | false =>
        cases b2 with
        | false =>
          go_wp2_with (go_at_call 9; refine (HR1.out _ HB6.out).mono ?_; rintro e W7 ⟨⟨mv, rfl, hq⟩, hb7⟩; have HQ := Lib.hid hq; have HB7 := Lib.hid (HB6.out.trans (hb7.mono HB6.out.size)); have HU7 := Lib.hid (And.intro (HX6.out.below hb7) (And.intro (HX7.out.below hb7) (HX8.out.below hb7))); clear x0 x1 x2 lx y0 y1 y2 ly hq hb7 HR1 HX6 HX7 HX8; obtain ⟨x0, x1, x2⟩ := HU7.out.1.cells; have lx := HU7.out.1.lt; obtain ⟨y0, y1, y2⟩ := HU7.out.2.1.cells; have ly := HU7.out.2.1.lt)
          refine (HR2.out _ HB7.out).mono ?_
          rintro e W8 ⟨⟨mv2, rfl, _⟩, hb8⟩
          have HQ8 := Lib.hid (fun q (h1 : GivenG 63 mv q W7) (h2 : Typ q W7) => And.intro (h1.below hb8) (h2.keep (KeepT.of_below hb8)))
          have HB8 := Lib.hid (HB7.out.trans (hb8.mono HB7.out.size))
          have HU8 := Lib.hid (And.intro (HU7.out.1.below hb8) (And.intro (HU7.out.2.1.below hb8) (HU7.out.2.2.below hb8)))
          clear x0 x1 x2 lx y0 y1 y2 ly hb8 HR2 HU7
          obtain ⟨x0, x1, x2⟩ := HU8.out.1.cells
          have lx := HU8.out.1.lt
          obtain ⟨y0, y1, y2⟩ := HU8.out.2.1.cells
          have ly := HU8.out.2.1.lt
          go_wp2_with (go_at_call 10; refine (HBo.out _ HB8.out).mono ?_; rintro e W9 ⟨rfl, hb9⟩; have HB9 := Lib.hid (HB8.out.trans (hb9.mono HB8.out.size)); have HU9 := Lib.hid (And.intro (HU8.out.1.below hb9) (And.intro (HU8.out.2.1.below hb9) (HU8.out.2.2.below hb9))); have HQ9 := Lib.hid (fun q (h1 : GivenG 63 mv q W7) (h2 : Typ q W7) => And.intro ((HQ8.out q h1 h2).1.below hb9) ((HQ8.out q h1 h2).2.keep (KeepT.of_below hb9))); clear x0 x1 x2 lx y0 y1 y2 ly hb9 HU8)
          go_region
          all_goals go_wp2
          go_ret
          have hbe := HB4'.out.trans (HB9.out.mono HB4'.out.size)
          exact ⟨rfl, hbe.trans ((below_d _).mono hbe.size)⟩
        | true =>
          go_wp2_with (go_at_call 9; refine (HR1.out _ HB6.out).mono ?_; rintro e W7 ⟨⟨mv, rfl, hq⟩, hb7⟩; have HQ := Lib.hid hq; have HB7 := Lib.hid (HB6.out.trans (hb7.mono HB6.out.size)); have HU7 := Lib.hid (And.intro (HX6.out.below hb7) (And.intro (HX7.out.below hb7) (HX8.out.below hb7))); clear x0 x1 x2 lx y0 y1 y2 ly hq hb7 HR1 HX6 HX7 HX8; obtain ⟨x0, x1, x2⟩ := HU7.out.1.cells; have lx := HU7.out.1.lt; obtain ⟨y0, y1, y2⟩ := HU7.out.2.1.cells; have ly := HU7.out.2.1.lt)
          refine (HR2.out _ HB7.out).mono ?_
          rintro e W8 ⟨⟨mv2, rfl, _⟩, hb8⟩
          have HQ8 := Lib.hid (fun q (h1 : GivenG 63 mv q W7) (h2 : Typ q W7) => And.intro (h1.below hb8) (h2.keep (KeepT.of_below hb8)))
          have HB8 := Lib.hid (HB7.out.trans (hb8.mono HB7.out.size))
          have HU8 := Lib.hid (And.intro (HU7.out.1.below hb8) (And.intro (HU7.out.2.1.below hb8) (HU7.out.2.2.below hb8)))
          clear x0 x1 x2 lx y0 y1 y2 ly hb8 HR2 HU7
          obtain ⟨x0, x1, x2⟩ := HU8.out.1.cells
          have lx := HU8.out.1.lt
          obtain ⟨y0, y1, y2⟩ := HU8.out.2.1.cells
          have ly := HU8.out.2.1.lt
          go_wp2_with (go_at_call 10; refine (HBo.out _ HB8.out).mono ?_; rintro e W9 ⟨rfl, hb9⟩; have HB9 := Lib.hid (HB8.out.trans (hb9.mono HB8.out.size)); have HU9 := Lib.hid (And.intro (HU8.out.1.below hb9) (And.intro (HU8.out.2.1.below hb9) (HU8.out.2.2.below hb9))); have HQ9 := Lib.hid (fun q (h1 : GivenG 63 mv q W7) (h2 : Typ q W7) => And.intro ((HQ8.out q h1 h2).1.below hb9) ((HQ8.out q h1 h2).2.keep (KeepT.of_below hb9))); clear x0 x1 x2 lx y0 y1 y2 ly hb9 HU8)
          go_region
          all_goals go_wp2
          go_ret
          have hbe := HB4'.out.trans (HB9.out.mono HB4'.out.size)
          exact ⟨rfl, hbe.trans ((below_d _).mono hbe.size)⟩
      | true =>
        cases b2 with
        | false =>
          go_wp2_with (go_at_call 9; refine (HR1.out _ HB6.out).mono ?_; rintro e W7 ⟨⟨mv, rfl, hq⟩, hb7⟩; have HQ := Lib.hid hq; have HB7 := Lib.hid (HB6.out.trans (hb7.mono HB6.out.size)); have HU7 := Lib.hid (And.intro (HX6.out.below hb7) (And.intro (HX7.out.below hb7) (HX8.out.below hb7))); clear x0 x1 x2 lx y0 y1 y2 ly hq hb7 HR1 HX6 HX7 HX8; obtain ⟨x0, x1, x2⟩ := HU7.out.1.cells; have lx := HU7.out.1.lt; obtain ⟨y0, y1, y2⟩ := HU7.out.2.1.cells; have ly := HU7.out.2.1.lt)
          refine (HR2.out _ HB7.out).mono ?_
          rintro e W8 ⟨⟨mv2, rfl, _⟩, hb8⟩
          have HQ8 := Lib.hid (fun q (h1 : GivenG 63 mv q W7) (h2 : Typ q W7) => And.intro (h1.below hb8) (h2.keep (KeepT.of_below hb8)))
          have HB8 := Lib.hid (HB7.out.trans (hb8.mono HB7.out.size))
          have HU8 := Lib.hid (And.intro (HU7.out.1.below hb8) (And.intro (HU7.out.2.1.below hb8) (HU7.out.2.2.below hb8)))
          clear x0 x1 x2 lx y0 y1 y2 ly hb8 HR2 HU7
          obtain ⟨x0, x1, x2⟩ := HU8.out.1.cells
          have lx := HU8.out.1.lt
          obtain ⟨y0, y1, y2⟩ := HU8.out.2.1.cells
          have ly := HU8.out.2.1.lt
          go_wp2_with (go_at_call 10; refine (HBo.out _ HB8.out).mono ?_; rintro e W9 ⟨rfl, hb9⟩; have HB9 := Lib.hid (HB8.out.trans (hb9.mono HB8.out.size)); have HU9 := Lib.hid (And.intro (HU8.out.1.below hb9) (And.intro (HU8.out.2.1.below hb9) (HU8.out.2.2.below hb9))); have HQ9 := Lib.hid (fun q (h1 : GivenG 63 mv q W7) (h2 : Typ q W7) => And.intro ((HQ8.out q h1 h2).1.below hb9) ((HQ8.out q h1 h2).2.keep (KeepT.of_below hb9))); clear x0 x1 x2 lx y0 y1 y2 ly hb9 HU8)
          have hsm := HBB.out
          cases m1 with
          | none => exact nomatch hsm
          | some s' =>
            obtain ⟨q, hq1, hq2, hq3, hq4, hq5⟩ := HQ.out s' rfl
            obtain ⟨hqapp, hqlen⟩ := HApp.out q (by rw [hq3])
            have happ := (HAp.out trivial).1
            have hsz : ∀ x ∈ l, tsize x.t ≤ 1000000000 := fun x hx => by have := (HAp.out trivial).2 x hx; omega
            have hv3 := v3_few
            have hUQ : UQ w W1.heap.size W3.heap.size W5.heap.size t u pa pb ca cb sa sc l q mv W9 := ⟨⟨HU9.out.1, HU9.out.2.1⟩, HU9.out.2.2, HQ9.out q hq1 hq2, HB4'.out.trans (HB9.out.mono HB4'.out.size)⟩
            refine msy_here (w := w) (b6 := W1.heap.size) (b7 := W3.heap.size) (b8 := W5.heap.size) (tx := t) (ty := u) (xa := pa) (ya := pb) (sa := sa) (xc := ca) (yc := cb) (sc := sc) (l := l) (q := q) (mv := mv) (fun V h => papp_ret h.2.1.2 hll hsz (by omega) happ h.1.1.2) (fun V h zu zv k => same_ret7 (by omega) k h.1.2.2) (fun V h => rapp_ret7 h.2.2.1.1 h.2.2.1.2 (by omega) (by omega) hqapp h.1.1.2) (fun V h zu zv k => same_ret7 (by omega) k h.1.2.2) _ (by kernel_rfl) (by kernel_rfl) (by kernel_rfl) (by kernel_rfl) (by kernel_rfl) (by kernel_rfl) (by kernel_rfl) (by kernel_rfl) (hUQ.below (below_d _)) ?_
            intro x V2 hV2 hx
            simp only [msyFr, hx]
            simp only [Array.getD_eq_getD_getElem?, List.getElem?_toArray, List.getElem?_cons_zero, List.getElem?_cons_succ, Option.getD_some]
            go_wp2
            go_ret
            exact ⟨rfl, hV2.2.2.2⟩
        | true =>
          go_wp2_with (go_at_call 9; refine (HR1.out _ HB6.out).mono ?_; rintro e W7 ⟨⟨mv, rfl, hq⟩, hb7⟩; have HQ := Lib.hid hq; have HB7 := Lib.hid (HB6.out.trans (hb7.mono HB6.out.size)); have HU7 := Lib.hid (And.intro (HX6.out.below hb7) (And.intro (HX7.out.below hb7) (HX8.out.below hb7))); clear x0 x1 x2 lx y0 y1 y2 ly hq hb7 HR1 HX6 HX7 HX8; obtain ⟨x0, x1, x2⟩ := HU7.out.1.cells; have lx := HU7.out.1.lt; obtain ⟨y0, y1, y2⟩ := HU7.out.2.1.cells; have ly := HU7.out.2.1.lt)
          refine (HR2.out _ HB7.out).mono ?_
          rintro e W8 ⟨⟨mv2, rfl, _⟩, hb8⟩
          have HQ8 := Lib.hid (fun q (h1 : GivenG 63 mv q W7) (h2 : Typ q W7) => And.intro (h1.below hb8) (h2.keep (KeepT.of_below hb8)))
          have HB8 := Lib.hid (HB7.out.trans (hb8.mono HB7.out.size))
          have HU8 := Lib.hid (And.intro (HU7.out.1.below hb8) (And.intro (HU7.out.2.1.below hb8) (HU7.out.2.2.below hb8)))
          clear x0 x1 x2 lx y0 y1 y2 ly hb8 HR2 HU7
          obtain ⟨x0, x1, x2⟩ := HU8.out.1.cells
          have lx := HU8.out.1.lt
          obtain ⟨y0, y1, y2⟩ := HU8.out.2.1.cells
          have ly := HU8.out.2.1.lt
          go_wp2_with (go_at_call 10; refine (HBo.out _ HB8.out).mono ?_; rintro e W9 ⟨rfl, hb9⟩; have HB9 := Lib.hid (HB8.out.trans (hb9.mono HB8.out.size)); have HU9 := Lib.hid (And.intro (HU8.out.1.below hb9) (And.intro (HU8.out.2.1.below hb9) (HU8.out.2.2.below hb9))); have HQ9 := Lib.hid (fun q (h1 : GivenG 63 mv q W7) (h2 : Typ q W7) => And.intro ((HQ8.out q h1 h2).1.below hb9) ((HQ8.out q h1 h2).2.keep (KeepT.of_below hb9))); clear x0 x1 x2 lx y0 y1 y2 ly hb9 HU8)
          have hsm := HBB.out
          cases m1 with
          | none => exact nomatch hsm
          | some s' =>
            obtain ⟨q, hq1, hq2, hq3, hq4, hq5⟩ := HQ.out s' rfl
            obtain ⟨hqapp, hqlen⟩ := HApp.out q (by rw [hq3])
            have happ := (HAp.out trivial).1
            have hsz : ∀ x ∈ l, tsize x.t ≤ 1000000000 := fun x hx => by have := (HAp.out trivial).2 x hx; omega
            have hv3 := v3_few
            have hUQ : UQ w W1.heap.size W3.heap.size W5.heap.size t u pa pb ca cb sa sc l q mv W9 := ⟨⟨HU9.out.1, HU9.out.2.1⟩, HU9.out.2.2, HQ9.out q hq1 hq2, HB4'.out.trans (HB9.out.mono HB4'.out.size)⟩
            refine msy_here (w := w) (b6 := W1.heap.size) (b7 := W3.heap.size) (b8 := W5.heap.size) (tx := t) (ty := u) (xa := pa) (ya := pb) (sa := sa) (xc := ca) (yc := cb) (sc := sc) (l := l) (q := q) (mv := mv) (fun V h => papp_ret h.2.1.2 hll hsz (by omega) happ h.1.1.2) (fun V h zu zv k => same_ret7 (by omega) k h.1.2.2) (fun V h => rapp_ret7 h.2.2.1.1 h.2.2.1.2 (by omega) (by omega) hqapp h.1.1.2) (fun V h zu zv k => same_ret7 (by omega) k h.1.2.2) _ (by kernel_rfl) (by kernel_rfl) (by kernel_rfl) (by kernel_rfl) (by kernel_rfl) (by kernel_rfl) (by kernel_rfl) (by kernel_rfl) (hUQ.below (below_d _)) ?_
            intro x V2 hV2 hx
            simp only [msyFr, hx]
            simp only [Array.getD_eq_getD_getElem?, List.getElem?_toArray, List.getElem?_cons_zero, List.getElem?_cons_succ, Option.getD_some]
            go_wp2
            go_ret
            exact ⟨rfl, hV2.2.2.2⟩
    · have hb2I : ((100 : Int) < (n2 : Int)) := by omega
      go_enter Try.func3, Try.ntmps3
      go_wp2_with (go_at_call 6; refine HF.out.mono ?_; rintro e w1 ⟨rfl, h1⟩; have HB1 := Lib.hid h1; clear h1 HF)
      go_ret
      exact ⟨rfl, HB1.out⟩
  · have hb1I : ((100 : Int) < (n1 : Int)) := by omega
    go_enter Try.func3, Try.ntmps3
    go_wp2_with (go_at_call 6; refine HF.out.mono ?_; rintro e w1 ⟨rfl, h1⟩; have HB1 := Lib.hid h1; clear h1 HF)
    go_ret
    exact ⟨rfl, HB1.out⟩
end Go.Proofs.Ythpphjkoiipkkaa
