/- Merged: ScFive, ScCloR, ScFreR, ScRenR, ScRen, ScClo, ScCanR, ScCanS, ScCan, UfPure. -/
import Derived.Test.YtdcfemojkdoakaaDoorVs2
import Derived.Test.YtdcfemojkdoakaaDoorVs3
import Derived.Test.YtdcfemojkdoakaaDoorVs1
/- Schemes in memory: their five cells. -/
namespace Go.Proofs.YtdcfemojkdoakaaDoor
open Go.RowKit Go.Sort Go.Lib
attribute [local go_sem] Oper.semAt_some

def set5 (W : World) (r : Nat) (x y z u v : Value) : World := ((((W.setCell ⟨r, 0, none⟩ x).setCell ⟨r, 1, none⟩ y).setCell ⟨r, 2, none⟩ z).setCell ⟨r, 3, none⟩ u).setCell ⟨r, 4, none⟩ v
theorem cells5 {w : World} {p : Nat} {x y z u v : Value} {T : TypeId} {fz : Nat × Nat} (h : w.heap[p]? = some (.cells #[x, y, z, u, v] T fz)) : w.cell? ⟨p, 0, none⟩ = some x ∧ w.cell? ⟨p, 1, none⟩ = some y ∧ w.cell? ⟨p, 2, none⟩ = some z ∧ w.cell? ⟨p, 3, none⟩ = some u ∧ w.cell? ⟨p, 4, none⟩ = some v := by
  refine ⟨?_, ?_, ?_, ?_, ?_⟩ <;> (rw [Lib.cell_of_heap h]; rfl)
theorem set5_block {W : World} {r : Nat} {x0 y0 z0 u0 v0 : Value} {T : TypeId} (h : W.heap[r]? = some (.cells #[x0, y0, z0, u0, v0] T (0, 0))) (x y z u v : Value) : (set5 W r x y z u v).heap[r]? = some (.cells #[x, y, z, u, v] T (0, 0)) :=
  blk_set (o := 4) (blk_set (o := 3) (blk_set (o := 2) (blk_set (o := 1) (blk_set (o := 0) h x) y) z) u) v
theorem set5_other (W : World) (r : Nat) (x y z u v : Value) {k : Nat} (hk : k ≠ r) : (set5 W r x y z u v).heap[k]? = W.heap[k]? :=
  (Below.heap_setCell _ ⟨r, 4, none⟩ _ k hk).trans ((Below.heap_setCell _ ⟨r, 3, none⟩ _ k hk).trans ((Below.heap_setCell _ ⟨r, 2, none⟩ _ k hk).trans ((Below.heap_setCell _ ⟨r, 1, none⟩ _ k hk).trans (Below.heap_setCell _ ⟨r, 0, none⟩ _ k hk))))
theorem below_set5 {B : Nat} {w W : World} (h : Below B w W) {r : Nat} (hB : B ≤ r) (x y z u v : Value) : Below B w (set5 W r x y z u v) :=
  ((((h.setCell (p := ⟨r, 0, none⟩) hB x).setCell (p := ⟨r, 1, none⟩) hB y).setCell (p := ⟨r, 2, none⟩) hB z).setCell (p := ⟨r, 3, none⟩) hB u).setCell (p := ⟨r, 4, none⟩) hB v
theorem TextsAt.strs {w : World} {v : Value} {l : List ByteArray} (h : TextsAt w v l) : StrsP v l w := by
  obtain ⟨a, cap, rfl, h⟩ := h
  rcases h with rfl | ⟨g, rfl, hc, cs, fz, hg, hr⟩
  · exact .inl ⟨rfl, a, cap, rfl⟩
  · refine .inr ⟨g, 0, cap, rfl, (Array.getElem?_eq_some_iff.1 hg).1, fun i hi => ?_⟩
    rw [Nat.zero_add, Lib.cell_of_heap hg, show (cs[(⟨g, i, none⟩ : Addr).off]? : Option Value) = cs[i]? from rfl, hr i hi]
    simp [List.getD, hi]
/-- Block b holds a scheme: its variables, its context, its type. -/
def SchB (b : Nat) (xv cv : Value) (t : T) (ta : Option Addr) (tc : Nat) (V : World) : Prop := V.heap[b]? = some (.cells #[xv, cv, .int .i64 t.kind, .string t.name, .slice ta t.kids.length tc] 66 (0, 0)) ∧ TysAt V (.slice ta t.kids.length tc) t.kids
theorem SchB.below {b : Nat} {xv cv : Value} {t : T} {ta : Option Addr} {tc : Nat} {V Y : World} (h : SchB b xv cv t ta tc V) (hb : Below V.heap.size V Y) : SchB b xv cv t ta tc Y := ⟨(hb.block b (Array.getElem?_eq_some_iff.1 h.1).1).trans h.1, h.2.keep (KeepT.of_below hb)⟩
theorem SchB.lt {b : Nat} {xv cv : Value} {t : T} {ta : Option Addr} {tc : Nat} {V : World} (h : SchB b xv cv t ta tc V) : b < V.heap.size := (Array.getElem?_eq_some_iff.1 h.1).1
theorem SchB.new {xv cv : Value} {t : T} {ta : Option Addr} {tc : Nat} {V : World} (h : TysAt V (.slice ta t.kids.length tc) t.kids) : SchB V.heap.size xv cv t ta tc (V.alloc (.cells #[xv, cv, .int .i64 t.kind, .string t.name, .slice ta t.kids.length tc] 66)) := ⟨alloc_new V _, h.keep (keepT_alloc V _)⟩
/-- A block that is to hold a scheme. -/
def Sch0 (b : Nat) (V : World) : Prop := V.heap[b]? = some (.cells #[.slice none 0 0, .slice none 0 0, .int .i64 0, .string ⟨#[]⟩, .slice none 0 0] 66 (0, 0))
theorem Sch0.below {b : Nat} {V Y : World} (h : Sch0 b V) (hb : Below V.heap.size V Y) : Sch0 b Y := (hb.block b (Array.getElem?_eq_some_iff.1 h).1).trans h
/-- What rename's last statement keeps. -/
def SR (w : World) (b3 b6 b10 : Nat) (xv cv : Value) (t : T) (ta : Option Addr) (tc : Nat) (sa : Option Addr) (sc : Nat) (l : List PR) (V : World) : Prop :=
  SchB b3 xv cv t ta tc V ∧ Sch0 b6 V ∧ BoxS b10 (.slice sa l.length sc) l V ∧ Below w.heap.size w V
theorem SR.below {w : World} {b3 b6 b10 : Nat} {xv cv : Value} {t : T} {ta : Option Addr} {tc : Nat} {sa : Option Addr} {sc : Nat} {l : List PR} {V Y : World} (h : SR w b3 b6 b10 xv cv t ta tc sa sc l V) (hb : Below V.heap.size V Y) : SR w b3 b6 b10 xv cv t ta tc sa sc l Y :=
  ⟨h.1.below hb, h.2.1.below hb, h.2.2.1.below hb, h.2.2.2.trans (hb.mono h.2.2.2.size)⟩
/-- What Close's last statement keeps. -/
def SC (w : World) (b4 b6 b9 : Nat) (t : T) (ta : Option Addr) (tc : Nat) (V : World) : Prop := BoxT b4 t ta tc V ∧ Sch0 b6 V ∧ BoxS b9 (.slice none 0 0) [] V ∧ Below w.heap.size w V
theorem SC.below {w : World} {b4 b6 b9 : Nat} {t : T} {ta : Option Addr} {tc : Nat} {V Y : World} (h : SC w b4 b6 b9 t ta tc V) (hb : Below V.heap.size V Y) : SC w b4 b6 b9 t ta tc Y :=
  ⟨h.1.below hb, h.2.1.below hb, h.2.2.1.below hb, h.2.2.2.trans (hb.mono h.2.2.2.size)⟩
/-- A scheme without a context, and its variables. -/
def SF (w : World) (b1 : Nat) (xa : Option Addr) (xc : Nat) (xs : List ByteArray) (ca : Option Addr) (cc : Nat) (t : T) (ta : Option Addr) (tc : Nat) (V : World) : Prop :=
  SchB b1 (.slice xa xs.length xc) (.slice ca 0 cc) t ta tc V ∧ TextsAt V (.slice xa xs.length xc) xs ∧ Below w.heap.size w V
theorem SF.below {w : World} {b1 : Nat} {xa : Option Addr} {xc : Nat} {xs : List ByteArray} {ca : Option Addr} {cc : Nat} {t : T} {ta : Option Addr} {tc : Nat} {V Y : World} (h : SF w b1 xa xc xs ca cc t ta tc V) (hb : Below V.heap.size V Y) : SF w b1 xa xc xs ca cc t ta tc Y :=
  ⟨h.1.below hb, h.2.1.below hb, h.2.2.trans (hb.mono h.2.2.size)⟩
/-- A scheme, the variables that are named anew, and those that are free. -/
def SN (w : World) (b1 b2 : Nat) (xa : Option Addr) (xn xc : Nat) (ca : Option Addr) (cc : Nat) (t : T) (ta : Option Addr) (tc : Nat) (ba : Option Addr) (bc : Nat) (oa : Option Addr) (oc : Nat) (bs os : List ByteArray) (V : World) : Prop :=
  SchB b1 (.slice xa xn xc) (.slice ca 0 cc) t ta tc V ∧ Sch0 b2 V ∧ (TextsAt V (.slice ba bs.length bc) bs ∧ TextsAt V (.slice oa os.length oc) os) ∧ Below w.heap.size w V
theorem SN.below {w : World} {b1 b2 : Nat} {xa : Option Addr} {xn xc : Nat} {ca : Option Addr} {cc : Nat} {t : T} {ta : Option Addr} {tc : Nat} {ba : Option Addr} {bc : Nat} {oa : Option Addr} {oc : Nat} {bs os : List ByteArray} {V Y : World} (h : SN w b1 b2 xa xn xc ca cc t ta tc ba bc oa oc bs os V) (hb : Below V.heap.size V Y) : SN w b1 b2 xa xn xc ca cc t ta tc ba bc oa oc bs os Y :=
  ⟨h.1.below hb, h.2.1.below hb, ⟨h.2.2.1.1.below hb, h.2.2.1.2.below hb⟩, h.2.2.2.trans (hb.mono h.2.2.2.size)⟩
end Go.Proofs.YtdcfemojkdoakaaDoor
/- scheme: its last statement, a region of 9 operations that draws its order, by an invariant. (Made by a program.) -/
namespace Go.Proofs.YtdcfemojkdoakaaDoor
open Go.RowKit Go.Sort Go.Lib
attribute [local go_sem] Oper.semAt_some

noncomputable def sclOps : Array Oper := regionIn 3 (Tryd.f32.body.getD .skip)
def sclFr (b : Nat → Value) (d : List Deferred) (x : Nat → Value) : Act := { tmps := #[b 0, b 1, b 2, b 3, b 4, b 5, b 6, b 7, b 8, b 9, b 10, b 11, b 12, b 13, b 14, b 15, b 16, b 17, b 18, x 0, x 1, x 2, x 3, x 4, x 5, x 6, x 7], defers := d }

def sclVals (xa ta : Option Addr) (xc tc : Nat) (t : T) (ga : Option Addr) (gn gc : Nat) (i : Nat) (v : Value) (V : World) : Prop :=
  match i with
  | 0 => v = .slice ga gn gc
  | 1 => v = .agg #[.slice none 0 0]
  | 2 => v = .slice xa 0 xc
  | 3 => ∃ zp, v = .slice (some zp) 0 0 ∧ True
  | 4 => v = .agg #[.slice none 0 0]
  | 5 => v = .agg #[.int .i64 (t).kind, .string (t).name, .slice ta (t).kids.length tc]
  | 6 => ∃ za zc, v = .agg #[.int .i64 (t).kind, .string (t).name, .slice za (t).kids.length zc] ∧ TysAt V (.slice za t.kids.length zc) t.kids
  | 7 => ∃ zp za zc, v = .agg #[.slice ga gn gc, .slice (some zp) 0 0, .int .i64 t.kind, .string t.name, .slice za t.kids.length zc] ∧ TysAt V (.slice za t.kids.length zc) t.kids
  | _ => True

theorem sclVals_keep {xa ta : Option Addr} {xc tc : Nat} {t : T} {ga : Option Addr} {gn gc : Nat} (i : Nat) (v : Value) (V Y : World) (h : sclVals xa ta xc tc t ga gn gc i v V) (hb : Below V.heap.size V Y) : sclVals xa ta xc tc t ga gn gc i v Y := by
  unfold sclVals at *
  split at h <;> first
    | exact h
    | (obtain ⟨zp, e, h⟩ := h; exact ⟨zp, e, h⟩)
    | (obtain ⟨za, zc, e, h⟩ := h; exact ⟨za, zc, e, h.keep (KeepT.of_below hb)⟩)
    | (obtain ⟨zp, za, zc, e, h⟩ := h; exact ⟨zp, za, zc, e, h.keep (KeepT.of_below hb)⟩)

theorem scl_size : sclOps.size = 9 := by kernel_rfl
theorem scl_cov : covered sclOps 8 = true := by kernel_rfl
set_option linter.unusedSimpArgs false in
set_option maxRecDepth 100000 in
set_option maxHeartbeats 8000000 in
theorem scl_region {w : World} {b4 b6 b9 : Nat} {xa ta ga : Option Addr} {xc tc gn gc : Nat} {t : T} {gxs : List ByteArray} {b : Nat → Value} {d : List Deferred}
    (h0 : b 0 = .slice xa 0 xc) (h4 : b 4 = .pointer (some ⟨b4, 0, none⟩)) (h6 : b 6 = .pointer (some ⟨b6, 0, none⟩)) (h8 : b 8 = .slice ga gn gc) (h9 : b 9 = .pointer (some ⟨b9, 0, none⟩))
    (HC3 : ∀ V, (SC w b4 b6 b9 t ta tc V ∧ TextsAt V (.slice ga gn gc) gxs) → Calls Tryd.prog 53 #[.agg #[.slice none 0 0], .slice xa 0 xc] V fun e Y => (∃ zp, e = .returned (.slice (some zp) 0 0) ∧ True) ∧ Below V.heap.size V Y)
    (HC6 : ∀ V, (SC w b4 b6 b9 t ta tc V ∧ TextsAt V (.slice ga gn gc) gxs) → Calls Tryd.prog 14 #[.agg #[.slice none 0 0], .agg #[.int .i64 (t).kind, .string (t).name, .slice ta (t).kids.length tc]] V fun e Y => (∃ za zc, e = .returned (.agg #[.int .i64 (t).kind, .string (t).name, .slice za (t).kids.length zc]) ∧ TysAt Y (.slice za t.kids.length zc) t.kids) ∧ Below V.heap.size V Y)
    {Q : Exit → Act → World → Prop} {ops : Array Oper} (hops : ops = sclOps) (x0 : Nat → Value) (X : World) (hS : (SC w b4 b6 b9 t ta tc X.drew ∧ TextsAt X.drew (.slice ga gn gc) gxs))
    (hfin : ∀ (x : Nat → Value) V zp za zc, (SC w b4 b6 b9 t ta tc V ∧ TextsAt V (.slice ga gn gc) gxs) → TysAt V (.slice za t.kids.length zc) t.kids → Q .normal (sclFr b d x) (set5 V b6 (.slice ga gn gc) (.slice (some zp) 0 0) (.int .i64 t.kind) (.string t.name) (.slice za t.kids.length zc))) : (Code.region 3 ops true).wp Tryd.prog Q (sclFr b d x0) X := by
  have HC := Lib.hid (And.intro HC3 HC6)
  clear HC3 HC6
  have hszo : ops.size = 8 + 1 := by rw [hops]; exact scl_size
  have hcovo : covered ops 8 = true := by rw [hops]; exact scl_cov
  refine region_last (sclFr b d) (fun V => (SC w b4 b6 b9 t ta tc V ∧ TextsAt V (.slice ga gn gc) gxs)) (fun V Y => Below V.heap.size V Y) (sclVals xa ta xc tc t ga gn gc) x0 8 (by kernel_rfl) rfl hS hszo hcovo (fun V Y h hb => ⟨h.1.below hb, h.2.below hb⟩) (fun i v V Y _ h hb => sclVals_keep i v V Y h hb) ?_
  have HFIN := Lib.hid hfin
  clear hfin hS hszo hcovo
  obtain ⟨gl, hgl⟩ : ∃ qq, LastAt Tryd.prog (sclFr b d) (fun V => (SC w b4 b6 b9 t ta tc V ∧ TextsAt V (.slice ga gn gc) gxs)) (sclVals xa ta xc tc t ga gn gc) ops Q 8 = qq := ⟨_, rfl⟩
  rw [hgl]
  obtain ⟨f, hf⟩ : ∃ qq, StepAt Tryd.prog (sclFr b d) (fun V => (SC w b4 b6 b9 t ta tc V ∧ TextsAt V (.slice ga gn gc) gxs)) (fun V Y => Below V.heap.size V Y) (sclVals xa ta xc tc t ga gn gc) ops Q = qq := ⟨_, rfl⟩
  rw [hf, hops]
  simp only [sclOps, Tryd.f32, regionIn, Option.getD_some, Nat.reduceBEq, Bool.false_eq_true, if_false, if_true, beq_self_eq_true, Array.append_empty, Array.empty_append, List.append_eq, List.cons_append, List.nil_append, AllBut, Nat.reduceAdd, Nat.zero_add]
  -- 0: slot 19 := Op.move t8
  refine And.intro ?_ ?_
  · clear HFIN hgl
    rw [← hf]; clear hf
    refine ⟨by decide +kernel, fun x v => by kernel_rfl, fun x V hV hdep K hK => ?_⟩
    clear hdep
    refine run_bare (by kernel_rfl) ?_
    unfold sclFr
    go_simp
    refine kfit (hK _ _ (Below.refl _ V) rfl) ?_
    first | (simp only [sclFr, Act.put, List.setIfInBounds_toArray, List.set_cons_zero, List.set_cons_succ, h0, h4, h6, h8, h9]; done) | (simp only [sclFr, Act.put, List.setIfInBounds_toArray, List.set_cons_zero, List.set_cons_succ, h0, h4, h6, h8, h9]; rfl)
  -- 1: slot 20 := Op.load 33 t9
  refine And.intro ?_ ?_
  · clear HFIN hgl
    rw [← hf]; clear hf
    refine ⟨by decide +kernel, fun x v => by kernel_rfl, fun x V hV hdep K hK => ?_⟩
    clear hdep
    refine run_bare (by kernel_rfl) ?_
    unfold sclFr
    obtain ⟨y0, y1, y2⟩ := hV.1.1.cells; have y5 := hV.1.2.2.1.cell
    go_simp
    refine kfit (hK _ _ (Below.refl _ V) rfl) ?_
    first | (simp only [sclFr, Act.put, List.setIfInBounds_toArray, List.set_cons_zero, List.set_cons_succ, h0, h4, h6, h8, h9]; done) | (simp only [sclFr, Act.put, List.setIfInBounds_toArray, List.set_cons_zero, List.set_cons_succ, h0, h4, h6, h8, h9]; rfl)
  -- 2: slot 21 := Op.move t0
  refine And.intro ?_ ?_
  · clear HFIN hgl
    rw [← hf]; clear hf
    refine ⟨by decide +kernel, fun x v => by kernel_rfl, fun x V hV hdep K hK => ?_⟩
    clear hdep
    refine run_bare (by kernel_rfl) ?_
    unfold sclFr
    go_simp
    refine kfit (hK _ _ (Below.refl _ V) rfl) ?_
    first | (simp only [sclFr, Act.put, List.setIfInBounds_toArray, List.set_cons_zero, List.set_cons_succ, h0, h4, h6, h8, h9]; done) | (simp only [sclFr, Act.put, List.setIfInBounds_toArray, List.set_cons_zero, List.set_cons_succ, h0, h4, h6, h8, h9]; rfl)
  -- 3: slot 22 := Op.call { value (Operand.func 53), args := #[t20, t21], argT
  refine And.intro ?_ ?_
  · clear HFIN hgl
    rw [← hf]; clear hf
    refine ⟨by decide +kernel, fun x v => by kernel_rfl, fun x V hV hdep K hK => ?_⟩
    have e1 : x 1 = .agg #[.slice none 0 0] := depOf hdep 1 (by decide +kernel)
    have e2 : x 2 = .slice xa 0 xc := depOf hdep 2 (by decide +kernel)
    clear hdep
    refine run_bare (by kernel_rfl) ?_
    unfold sclFr
    obtain ⟨HC3, HC6⟩ := HC.out
    clear HC6
    have H := HC3 V hV
    replace H := Lib.hid H; clear HC3
    go_simp
    go_at_call 53
    refine H.out.mono ?_
    rintro e Y ⟨⟨zp, rfl, hq⟩, hb⟩; refine kfit (hK _ _ hb ⟨zp, rfl, hq⟩) ?_
    first | (simp only [sclFr, Act.put, List.setIfInBounds_toArray, List.set_cons_zero, List.set_cons_succ, h0, h4, h6, h8, h9, e1, e2]; done) | (simp only [sclFr, Act.put, List.setIfInBounds_toArray, List.set_cons_zero, List.set_cons_succ, h0, h4, h6, h8, h9, e1, e2]; rfl)
  -- 4: slot 23 := Op.load 33 t9
  refine And.intro ?_ ?_
  · clear HFIN hgl
    rw [← hf]; clear hf
    refine ⟨by decide +kernel, fun x v => by kernel_rfl, fun x V hV hdep K hK => ?_⟩
    clear hdep
    refine run_bare (by kernel_rfl) ?_
    unfold sclFr
    obtain ⟨y0, y1, y2⟩ := hV.1.1.cells; have y5 := hV.1.2.2.1.cell
    go_simp
    refine kfit (hK _ _ (Below.refl _ V) rfl) ?_
    first | (simp only [sclFr, Act.put, List.setIfInBounds_toArray, List.set_cons_zero, List.set_cons_succ, h0, h4, h6, h8, h9]; done) | (simp only [sclFr, Act.put, List.setIfInBounds_toArray, List.set_cons_zero, List.set_cons_succ, h0, h4, h6, h8, h9]; rfl)
  -- 5: slot 24 := Op.load 29 t4
  refine And.intro ?_ ?_
  · clear HFIN hgl
    rw [← hf]; clear hf
    refine ⟨by decide +kernel, fun x v => by kernel_rfl, fun x V hV hdep K hK => ?_⟩
    clear hdep
    refine run_bare (by kernel_rfl) ?_
    unfold sclFr
    obtain ⟨y0, y1, y2⟩ := hV.1.1.cells; have y5 := hV.1.2.2.1.cell
    go_simp
    refine kfit (hK _ _ (Below.refl _ V) rfl) ?_
    first | (simp only [sclFr, Act.put, List.setIfInBounds_toArray, List.set_cons_zero, List.set_cons_succ, h0, h4, h6, h8, h9]; done) | (simp only [sclFr, Act.put, List.setIfInBounds_toArray, List.set_cons_zero, List.set_cons_succ, h0, h4, h6, h8, h9]; rfl)
  -- 6: slot 25 := Op.call { value (Operand.func 14), args := #[t23, t24], argT
  refine And.intro ?_ ?_
  · clear HFIN hgl
    rw [← hf]; clear hf
    refine ⟨by decide +kernel, fun x v => by kernel_rfl, fun x V hV hdep K hK => ?_⟩
    have e4 : x 4 = .agg #[.slice none 0 0] := depOf hdep 4 (by decide +kernel)
    have e5 : x 5 = .agg #[.int .i64 (t).kind, .string (t).name, .slice ta (t).kids.length tc] := depOf hdep 5 (by decide +kernel)
    clear hdep
    refine run_bare (by kernel_rfl) ?_
    unfold sclFr
    obtain ⟨HC3, HC6⟩ := HC.out
    clear HC3
    have H := HC6 V hV
    replace H := Lib.hid H; clear HC6
    go_simp
    go_at_call 14
    refine H.out.mono ?_
    rintro e Y ⟨⟨za, zc, rfl, hq⟩, hb⟩; refine kfit (hK _ _ hb ⟨za, zc, rfl, hq⟩) ?_
    first | (simp only [sclFr, Act.put, List.setIfInBounds_toArray, List.set_cons_zero, List.set_cons_succ, h0, h4, h6, h8, h9, e4, e5]; done) | (simp only [sclFr, Act.put, List.setIfInBounds_toArray, List.set_cons_zero, List.set_cons_succ, h0, h4, h6, h8, h9, e4, e5]; rfl)
  -- 7: slot 26 := Op.build 66 #[(0, t19), (1, t22), (2, t25)]
  refine And.intro ?_ ?_
  · clear HFIN hgl
    rw [← hf]; clear hf
    refine ⟨by decide +kernel, fun x v => by kernel_rfl, fun x V hV hdep K hK => ?_⟩
    have e0 : x 0 = .slice ga gn gc := depOf hdep 0 (by decide +kernel)
    obtain ⟨zp3, e3, d3⟩ : ∃ zp3, x 3 = .slice (some zp3) 0 0 ∧ True := depOf hdep 3 (by decide +kernel)
    obtain ⟨za6, zc6, e6, d6⟩ : ∃ za6 zc6, x 6 = .agg #[.int .i64 (t).kind, .string (t).name, .slice za6 (t).kids.length zc6] ∧ TysAt V (.slice za6 t.kids.length zc6) t.kids := depOf hdep 6 (by decide +kernel)
    clear hdep
    refine run_bare (by kernel_rfl) ?_
    unfold sclFr
    go_simp
    refine kfit (hK _ _ (Below.refl _ V) ⟨zp3, za6, zc6, rfl, d6⟩) ?_
    first | (simp only [sclFr, Act.put, List.setIfInBounds_toArray, List.set_cons_zero, List.set_cons_succ, h0, h4, h6, h8, h9, e0, e3, e6]; done) | (simp only [sclFr, Act.put, List.setIfInBounds_toArray, List.set_cons_zero, List.set_cons_succ, h0, h4, h6, h8, h9, e0, e3, e6]; rfl)
  -- 8: slot none := Op.store 66 t6 t26
  · clear HC
    rw [← hgl]; clear hgl
    refine ⟨by decide +kernel, fun x V hV hall K hK => ?_⟩
    obtain ⟨zp, za, zc, e7, d7⟩ : ∃ (zp : Addr) (za : Option Addr) (zc : Nat), x 7 = .agg #[.slice ga gn gc, .slice (some zp) 0 0, .int .i64 t.kind, .string t.name, .slice za t.kids.length zc] ∧ TysAt V (.slice za t.kids.length zc) t.kids := hall 7 (by decide)
    clear hall
    refine run_bare (by kernel_rfl) ?_
    unfold sclFr
    obtain ⟨v0, v1, v2, v3, v4⟩ := cells5 hV.1.2.1
    have f0 := Lib.frozen_of_heap hV.1.2.1 0; have f1 := Lib.frozen_of_heap hV.1.2.1 1; have f2 := Lib.frozen_of_heap hV.1.2.1 2; have f3 := Lib.frozen_of_heap hV.1.2.1 3; have f4 := Lib.frozen_of_heap hV.1.2.1 4
    have H := Lib.hid (HFIN.out x V zp za zc hV d7)
    clear HFIN hV d7
    go_simp
    refine kfit (hK undef _ H.out) ?_
    first | (simp only [sclFr, Act.put, List.setIfInBounds_toArray, List.set_cons_zero, List.set_cons_succ, h0, h4, h6, h8, h9, e7]; done) | (simp only [sclFr, Act.put, List.setIfInBounds_toArray, List.set_cons_zero, List.set_cons_succ, h0, h4, h6, h8, h9, e7]; rfl)
theorem scl_here {w : World} {b4 b6 b9 : Nat} {xa ta ga : Option Addr} {xc tc gn gc : Nat} {t : T} {gxs : List ByteArray}
    (HC3 : ∀ V, (SC w b4 b6 b9 t ta tc V ∧ TextsAt V (.slice ga gn gc) gxs) → Calls Tryd.prog 53 #[.agg #[.slice none 0 0], .slice xa 0 xc] V fun e Y => (∃ zp, e = .returned (.slice (some zp) 0 0) ∧ True) ∧ Below V.heap.size V Y)
    (HC6 : ∀ V, (SC w b4 b6 b9 t ta tc V ∧ TextsAt V (.slice ga gn gc) gxs) → Calls Tryd.prog 14 #[.agg #[.slice none 0 0], .agg #[.int .i64 (t).kind, .string (t).name, .slice ta (t).kids.length tc]] V fun e Y => (∃ za zc, e = .returned (.agg #[.int .i64 (t).kind, .string (t).name, .slice za (t).kids.length zc]) ∧ TysAt Y (.slice za t.kids.length zc) t.kids) ∧ Below V.heap.size V Y)
    {Q : Exit → Act → World → Prop} {ops : Array Oper} {a : Act} (X : World) (hops : ops = sclOps)
    (h0 : a.tmps.getD 0 undef = .slice xa 0 xc) (h4 : a.tmps.getD 4 undef = .pointer (some ⟨b4, 0, none⟩)) (h6 : a.tmps.getD 6 undef = .pointer (some ⟨b6, 0, none⟩)) (h8 : a.tmps.getD 8 undef = .slice ga gn gc) (h9 : a.tmps.getD 9 undef = .pointer (some ⟨b9, 0, none⟩))
    (ha : a = sclFr (fun j => a.tmps.getD j undef) a.defers (fun i => a.tmps.getD (19 + i) undef)) (hS : (SC w b4 b6 b9 t ta tc X.drew ∧ TextsAt X.drew (.slice ga gn gc) gxs))
    (hfin : ∀ (x : Nat → Value) V zp za zc, (SC w b4 b6 b9 t ta tc V ∧ TextsAt V (.slice ga gn gc) gxs) → TysAt V (.slice za t.kids.length zc) t.kids → Q .normal (sclFr (fun j => a.tmps.getD j undef) a.defers x) (set5 V b6 (.slice ga gn gc) (.slice (some zp) 0 0) (.int .i64 t.kind) (.string t.name) (.slice za t.kids.length zc))) : (Code.region 3 ops true).wp Tryd.prog Q a X :=
  cast (congrArg (fun z => (Code.region 3 ops true).wp Tryd.prog Q z X) ha.symm) (scl_region (b := fun j => a.tmps.getD j undef) (d := a.defers) h0 h4 h6 h8 h9 HC3 HC6 hops _ X hS hfin)
end Go.Proofs.YtdcfemojkdoakaaDoor
/- scheme: its last statement, a region of 13 operations that draws its order, by an invariant. (Made by a program.) -/
namespace Go.Proofs.YtdcfemojkdoakaaDoor
open Go.RowKit Go.Sort Go.Lib
attribute [local go_sem] Oper.semAt_some

noncomputable def sfrOps : Array Oper := regionIn 1 (Tryd.f35.body.getD .skip)
def sfrFr (b : Nat → Value) (d : List Deferred) (x : Nat → Value) : Act := { tmps := #[b 0, b 1, b 2, x 11, x 12, x 8, x 0, x 1, x 2, x 3, x 4, x 5, x 6, x 7, x 9, x 10, b 16], defers := d }

def sfrVals (b1 : Nat) (xa ca ta : Option Addr) (xc cc tc : Nat) (xs : List ByteArray) (t : T) (i : Nat) (v : Value) (V : World) : Prop :=
  match i with
  | 0 => v = .pointer (some ⟨b1, 1, none⟩)
  | 1 => v = .slice ca 0 cc
  | 2 => v = .pointer (some ⟨b1, 2, none⟩)
  | 3 => v = .agg #[.int .i64 (t).kind, .string (t).name, .slice ta (t).kids.length tc]
  | 4 => ∃ za zc, v = .slice za (fvs [] [] [t]).length zc ∧ TextsAt V (.slice za (fvs [] [] [t]).length zc) (fvs [] [] [t])
  | 5 => v = .pointer (some ⟨b1, 0, none⟩)
  | 6 => v = .slice xa xs.length xc
  | 7 => ∃ zi zp zo zq, v = .tuple #[.slice zi ((fvs [] [] [t]).filter (inB xs)).length zp, .slice zo ((fvs [] [] [t]).filter fun n => !inB xs n).length zq] ∧ (TextsAt V (.slice zi ((fvs [] [] [t]).filter (inB xs)).length zp) ((fvs [] [] [t]).filter (inB xs)) ∧ TextsAt V (.slice zo ((fvs [] [] [t]).filter fun n => !inB xs n).length zq) ((fvs [] [] [t]).filter fun n => !inB xs n))
  | 8 => ∃ zi zp zo zq, v = .tuple #[.slice zi ((fvs [] [] [t]).filter (inB xs)).length zp, .slice zo ((fvs [] [] [t]).filter fun n => !inB xs n).length zq] ∧ (TextsAt V (.slice zi ((fvs [] [] [t]).filter (inB xs)).length zp) ((fvs [] [] [t]).filter (inB xs)) ∧ TextsAt V (.slice zo ((fvs [] [] [t]).filter fun n => !inB xs n).length zq) ((fvs [] [] [t]).filter fun n => !inB xs n))
  | 9 => ∃ zi zp, v = .slice zi ((fvs [] [] [t]).filter (inB xs)).length zp ∧ TextsAt V (.slice zi ((fvs [] [] [t]).filter (inB xs)).length zp) ((fvs [] [] [t]).filter (inB xs))
  | 10 => ∃ zo zq, v = .slice zo ((fvs [] [] [t]).filter fun n => !inB xs n).length zq ∧ TextsAt V (.slice zo ((fvs [] [] [t]).filter fun n => !inB xs n).length zq) ((fvs [] [] [t]).filter fun n => !inB xs n)
  | 11 => ∃ zi zp, v = .slice zi ((fvs [] [] [t]).filter (inB xs)).length zp ∧ TextsAt V (.slice zi ((fvs [] [] [t]).filter (inB xs)).length zp) ((fvs [] [] [t]).filter (inB xs))
  | 12 => ∃ zo zq, v = .slice zo ((fvs [] [] [t]).filter fun n => !inB xs n).length zq ∧ TextsAt V (.slice zo ((fvs [] [] [t]).filter fun n => !inB xs n).length zq) ((fvs [] [] [t]).filter fun n => !inB xs n)
  | _ => True

theorem sfrVals_keep {b1 : Nat} {xa ca ta : Option Addr} {xc cc tc : Nat} {xs : List ByteArray} {t : T} (i : Nat) (v : Value) (V Y : World) (h : sfrVals b1 xa ca ta xc cc tc xs t i v V) (hb : Below V.heap.size V Y) : sfrVals b1 xa ca ta xc cc tc xs t i v Y := by
  unfold sfrVals at *
  split at h <;> first
    | exact h
    | (obtain ⟨za, zc, e, h⟩ := h; exact ⟨za, zc, e, h.below hb⟩)
    | (obtain ⟨zi, zp, zo, zq, e, h⟩ := h; exact ⟨zi, zp, zo, zq, e, ⟨h.1.below hb, h.2.below hb⟩⟩)
    | (obtain ⟨zi, zp, e, h⟩ := h; exact ⟨zi, zp, e, h.below hb⟩)
    | (obtain ⟨zo, zq, e, h⟩ := h; exact ⟨zo, zq, e, h.below hb⟩)

theorem sfr_size : sfrOps.size = 13 := by kernel_rfl
set_option linter.unusedSimpArgs false in
set_option maxRecDepth 100000 in
set_option maxHeartbeats 8000000 in
theorem sfr_region {w : World} {b1 : Nat} {xa ca ta : Option Addr} {xc cc tc : Nat} {xs : List ByteArray} {t : T} {b : Nat → Value} {d : List Deferred}
    (h1 : b 1 = .pointer (some ⟨b1, 0, none⟩))
    (HC4 : ∀ V, SF w b1 xa xc xs ca cc t ta tc V → Calls Tryd.prog 64 #[.slice ca 0 cc, .agg #[.int .i64 (t).kind, .string (t).name, .slice ta (t).kids.length tc]] V fun e Y => (∃ za zc, e = .returned (.slice za (fvs [] [] [t]).length zc) ∧ TextsAt Y (.slice za (fvs [] [] [t]).length zc) (fvs [] [] [t])) ∧ Below V.heap.size V Y)
    (HC7 : ∀ V, SF w b1 xa xc xs ca cc t ta tc V → ∀ za4, ∀ zc4, TextsAt V (.slice za4 (fvs [] [] [t]).length zc4) (fvs [] [] [t]) → Calls Tryd.prog 63 #[.slice za4 (fvs [] [] [t]).length zc4, .slice xa xs.length xc] V fun e Y => (∃ zi zp zo zq, e = .returned (.tuple #[.slice zi ((fvs [] [] [t]).filter (inB xs)).length zp, .slice zo ((fvs [] [] [t]).filter fun n => !inB xs n).length zq]) ∧ (TextsAt Y (.slice zi ((fvs [] [] [t]).filter (inB xs)).length zp) ((fvs [] [] [t]).filter (inB xs)) ∧ TextsAt Y (.slice zo ((fvs [] [] [t]).filter fun n => !inB xs n).length zq) ((fvs [] [] [t]).filter fun n => !inB xs n))) ∧ Below V.heap.size V Y)
    {Q : Exit → Act → World → Prop} {ops : Array Oper} (hops : ops = sfrOps) (x0 : Nat → Value) (X : World) (hS : SF w b1 xa xc xs ca cc t ta tc X.drew)
    (hfin : ∀ (x : Nat → Value) V zi zp zo zq, SF w b1 xa xc xs ca cc t ta tc V → x 11 = .slice zi ((fvs [] [] [t]).filter (inB xs)).length zp → x 12 = .slice zo ((fvs [] [] [t]).filter fun n => !inB xs n).length zq → TextsAt V (.slice zi ((fvs [] [] [t]).filter (inB xs)).length zp) ((fvs [] [] [t]).filter (inB xs)) → TextsAt V (.slice zo ((fvs [] [] [t]).filter fun n => !inB xs n).length zq) ((fvs [] [] [t]).filter fun n => !inB xs n) → Q .normal (sfrFr b d x) V) : (Code.region 1 ops true).wp Tryd.prog Q (sfrFr b d x0) X := by
  have HC := Lib.hid (And.intro HC4 HC7)
  clear HC4 HC7
  refine region_inv (sfrFr b d) (fun V => SF w b1 xa xc xs ca cc t ta tc V) (fun V Y => Below V.heap.size V Y) (sfrVals b1 xa ca ta xc cc tc xs t) x0 (by kernel_rfl) rfl hS (fun V Y h hb => h.below hb) (fun i v V Y _ h hb => sfrVals_keep i v V Y h hb) ?_ (fun x V hV h => by obtain ⟨zi, zp, e1, k1⟩ := h 11 (by rw [hops, sfr_size]; decide); obtain ⟨zo, zq, e2, k2⟩ := h 12 (by rw [hops, sfr_size]; decide); exact hfin x V zi zp zo zq hV e1 e2 k1 k2)
  clear hfin hS
  obtain ⟨f, hf⟩ : ∃ qq, StepAt Tryd.prog (sfrFr b d) (fun V => SF w b1 xa xc xs ca cc t ta tc V) (fun V Y => Below V.heap.size V Y) (sfrVals b1 xa ca ta xc cc tc xs t) ops Q = qq := ⟨_, rfl⟩
  rw [hf, hops]
  simp only [sfrOps, Tryd.f35, regionIn, Option.getD_some, Nat.reduceBEq, Bool.false_eq_true, if_false, if_true, beq_self_eq_true, Array.append_empty, Array.empty_append, List.append_eq, List.cons_append, List.nil_append, AllAt, Nat.reduceAdd, Nat.zero_add]
  -- 0: slot 6 := Op.fieldAddr 66 t1 1
  refine And.intro ?_ ?_
  · rw [← hf]; clear hf
    refine ⟨by decide +kernel, fun x v => by kernel_rfl, fun x V hV hdep K hK => ?_⟩
    clear hdep
    refine run_bare (by kernel_rfl) ?_
    unfold sfrFr
    go_simp
    refine kfit (hK _ _ (Below.refl _ V) rfl) ?_
    first | (simp only [sfrFr, Act.put, List.setIfInBounds_toArray, List.set_cons_zero, List.set_cons_succ, h1]; done) | (simp only [sfrFr, Act.put, List.setIfInBounds_toArray, List.set_cons_zero, List.set_cons_succ, h1]; rfl)
  -- 1: slot 7 := Op.load 55 t6
  refine And.intro ?_ ?_
  · rw [← hf]; clear hf
    refine ⟨by decide +kernel, fun x v => by kernel_rfl, fun x V hV hdep K hK => ?_⟩
    have e0 : x 0 = .pointer (some ⟨b1, 1, none⟩) := depOf hdep 0 (by decide +kernel)
    clear hdep
    refine run_bare (by kernel_rfl) ?_
    unfold sfrFr
    obtain ⟨y0, y1, y2, y3, y4⟩ := cells5 hV.1.1
    go_simp
    refine kfit (hK _ _ (Below.refl _ V) rfl) ?_
    first | (simp only [sfrFr, Act.put, List.setIfInBounds_toArray, List.set_cons_zero, List.set_cons_succ, h1, e0]; done) | (simp only [sfrFr, Act.put, List.setIfInBounds_toArray, List.set_cons_zero, List.set_cons_succ, h1, e0]; rfl)
  -- 2: slot 8 := Op.fieldAddr 66 t1 2
  refine And.intro ?_ ?_
  · rw [← hf]; clear hf
    refine ⟨by decide +kernel, fun x v => by kernel_rfl, fun x V hV hdep K hK => ?_⟩
    clear hdep
    refine run_bare (by kernel_rfl) ?_
    unfold sfrFr
    go_simp
    refine kfit (hK _ _ (Below.refl _ V) rfl) ?_
    first | (simp only [sfrFr, Act.put, List.setIfInBounds_toArray, List.set_cons_zero, List.set_cons_succ, h1]; done) | (simp only [sfrFr, Act.put, List.setIfInBounds_toArray, List.set_cons_zero, List.set_cons_succ, h1]; rfl)
  -- 3: slot 9 := Op.load 29 t8
  refine And.intro ?_ ?_
  · rw [← hf]; clear hf
    refine ⟨by decide +kernel, fun x v => by kernel_rfl, fun x V hV hdep K hK => ?_⟩
    have e2 : x 2 = .pointer (some ⟨b1, 2, none⟩) := depOf hdep 2 (by decide +kernel)
    clear hdep
    refine run_bare (by kernel_rfl) ?_
    unfold sfrFr
    obtain ⟨y0, y1, y2, y3, y4⟩ := cells5 hV.1.1
    go_simp
    refine kfit (hK _ _ (Below.refl _ V) rfl) ?_
    first | (simp only [sfrFr, Act.put, List.setIfInBounds_toArray, List.set_cons_zero, List.set_cons_succ, h1, e2]; done) | (simp only [sfrFr, Act.put, List.setIfInBounds_toArray, List.set_cons_zero, List.set_cons_succ, h1, e2]; rfl)
  -- 4: slot 10 := Op.call { value (Operand.func 64), args := #[t7, t9], argTyp
  refine And.intro ?_ ?_
  · rw [← hf]; clear hf
    refine ⟨by decide +kernel, fun x v => by kernel_rfl, fun x V hV hdep K hK => ?_⟩
    have e1 : x 1 = .slice ca 0 cc := depOf hdep 1 (by decide +kernel)
    have e3 : x 3 = .agg #[.int .i64 (t).kind, .string (t).name, .slice ta (t).kids.length tc] := depOf hdep 3 (by decide +kernel)
    clear hdep
    refine run_bare (by kernel_rfl) ?_
    unfold sfrFr
    obtain ⟨HC4, HC7⟩ := HC.out
    clear HC7
    have H := HC4 V hV
    replace H := Lib.hid H; clear HC4
    go_simp
    go_at_call 64
    refine H.out.mono ?_
    rintro e Y ⟨⟨za, zc, rfl, hq⟩, hb⟩; refine kfit (hK _ _ hb ⟨za, zc, rfl, hq⟩) ?_
    first | (simp only [sfrFr, Act.put, List.setIfInBounds_toArray, List.set_cons_zero, List.set_cons_succ, h1, e1, e3]; done) | (simp only [sfrFr, Act.put, List.setIfInBounds_toArray, List.set_cons_zero, List.set_cons_succ, h1, e1, e3]; rfl)
  -- 5: slot 11 := Op.fieldAddr 66 t1 0
  refine And.intro ?_ ?_
  · rw [← hf]; clear hf
    refine ⟨by decide +kernel, fun x v => by kernel_rfl, fun x V hV hdep K hK => ?_⟩
    clear hdep
    refine run_bare (by kernel_rfl) ?_
    unfold sfrFr
    go_simp
    refine kfit (hK _ _ (Below.refl _ V) rfl) ?_
    first | (simp only [sfrFr, Act.put, List.setIfInBounds_toArray, List.set_cons_zero, List.set_cons_succ, h1]; done) | (simp only [sfrFr, Act.put, List.setIfInBounds_toArray, List.set_cons_zero, List.set_cons_succ, h1]; rfl)
  -- 6: slot 12 := Op.load 64 t11
  refine And.intro ?_ ?_
  · rw [← hf]; clear hf
    refine ⟨by decide +kernel, fun x v => by kernel_rfl, fun x V hV hdep K hK => ?_⟩
    have e5 : x 5 = .pointer (some ⟨b1, 0, none⟩) := depOf hdep 5 (by decide +kernel)
    clear hdep
    refine run_bare (by kernel_rfl) ?_
    unfold sfrFr
    obtain ⟨y0, y1, y2, y3, y4⟩ := cells5 hV.1.1
    go_simp
    refine kfit (hK _ _ (Below.refl _ V) rfl) ?_
    first | (simp only [sfrFr, Act.put, List.setIfInBounds_toArray, List.set_cons_zero, List.set_cons_succ, h1, e5]; done) | (simp only [sfrFr, Act.put, List.setIfInBounds_toArray, List.set_cons_zero, List.set_cons_succ, h1, e5]; rfl)
  -- 7: slot 13 := Op.call { value (Operand.func 63), args := #[t10, t12], argT
  refine And.intro ?_ ?_
  · rw [← hf]; clear hf
    refine ⟨by decide +kernel, fun x v => by kernel_rfl, fun x V hV hdep K hK => ?_⟩
    obtain ⟨za4, zc4, e4, d4⟩ : ∃ za4 zc4, x 4 = .slice za4 (fvs [] [] [t]).length zc4 ∧ TextsAt V (.slice za4 (fvs [] [] [t]).length zc4) (fvs [] [] [t]) := depOf hdep 4 (by decide +kernel)
    have e6 : x 6 = .slice xa xs.length xc := depOf hdep 6 (by decide +kernel)
    clear hdep
    refine run_bare (by kernel_rfl) ?_
    unfold sfrFr
    obtain ⟨HC4, HC7⟩ := HC.out
    clear HC4
    have H := HC7 V hV _ _ d4
    replace H := Lib.hid H; clear HC7
    go_simp
    go_at_call 63
    refine H.out.mono ?_
    rintro e Y ⟨⟨zi, zp, zo, zq, rfl, hq⟩, hb⟩; refine kfit (hK _ _ hb ⟨zi, zp, zo, zq, rfl, hq⟩) ?_
    first | (simp only [sfrFr, Act.put, List.setIfInBounds_toArray, List.set_cons_zero, List.set_cons_succ, h1, e4, e6]; done) | (simp only [sfrFr, Act.put, List.setIfInBounds_toArray, List.set_cons_zero, List.set_cons_succ, h1, e4, e6]; rfl)
  -- 8: slot 5 := Op.move t13
  refine And.intro ?_ ?_
  · rw [← hf]; clear hf
    refine ⟨by decide +kernel, fun x v => by kernel_rfl, fun x V hV hdep K hK => ?_⟩
    obtain ⟨zi7, zp7, zo7, zq7, e7, d7⟩ : ∃ zi7 zp7 zo7 zq7, x 7 = .tuple #[.slice zi7 ((fvs [] [] [t]).filter (inB xs)).length zp7, .slice zo7 ((fvs [] [] [t]).filter fun n => !inB xs n).length zq7] ∧ (TextsAt V (.slice zi7 ((fvs [] [] [t]).filter (inB xs)).length zp7) ((fvs [] [] [t]).filter (inB xs)) ∧ TextsAt V (.slice zo7 ((fvs [] [] [t]).filter fun n => !inB xs n).length zq7) ((fvs [] [] [t]).filter fun n => !inB xs n)) := depOf hdep 7 (by decide +kernel)
    clear hdep
    refine run_bare (by kernel_rfl) ?_
    unfold sfrFr
    go_simp
    refine kfit (hK _ _ (Below.refl _ V) ⟨_, _, _, _, rfl, d7⟩) ?_
    first | (simp only [sfrFr, Act.put, List.setIfInBounds_toArray, List.set_cons_zero, List.set_cons_succ, h1, e7]; done) | (simp only [sfrFr, Act.put, List.setIfInBounds_toArray, List.set_cons_zero, List.set_cons_succ, h1, e7]; rfl)
  -- 9: slot 14 := Op.extract t5 0
  refine And.intro ?_ ?_
  · rw [← hf]; clear hf
    refine ⟨by decide +kernel, fun x v => by kernel_rfl, fun x V hV hdep K hK => ?_⟩
    obtain ⟨zi8, zp8, zo8, zq8, e8, d8⟩ : ∃ zi8 zp8 zo8 zq8, x 8 = .tuple #[.slice zi8 ((fvs [] [] [t]).filter (inB xs)).length zp8, .slice zo8 ((fvs [] [] [t]).filter fun n => !inB xs n).length zq8] ∧ (TextsAt V (.slice zi8 ((fvs [] [] [t]).filter (inB xs)).length zp8) ((fvs [] [] [t]).filter (inB xs)) ∧ TextsAt V (.slice zo8 ((fvs [] [] [t]).filter fun n => !inB xs n).length zq8) ((fvs [] [] [t]).filter fun n => !inB xs n)) := depOf hdep 8 (by decide +kernel)
    clear hdep
    refine run_bare (by kernel_rfl) ?_
    unfold sfrFr
    go_simp
    refine kfit (hK _ _ (Below.refl _ V) ⟨_, _, rfl, d8.1⟩) ?_
    first | (simp only [sfrFr, Act.put, List.setIfInBounds_toArray, List.set_cons_zero, List.set_cons_succ, h1, e8]; done) | (simp only [sfrFr, Act.put, List.setIfInBounds_toArray, List.set_cons_zero, List.set_cons_succ, h1, e8]; rfl)
  -- 10: slot 15 := Op.extract t5 1
  refine And.intro ?_ ?_
  · rw [← hf]; clear hf
    refine ⟨by decide +kernel, fun x v => by kernel_rfl, fun x V hV hdep K hK => ?_⟩
    obtain ⟨zi8, zp8, zo8, zq8, e8, d8⟩ : ∃ zi8 zp8 zo8 zq8, x 8 = .tuple #[.slice zi8 ((fvs [] [] [t]).filter (inB xs)).length zp8, .slice zo8 ((fvs [] [] [t]).filter fun n => !inB xs n).length zq8] ∧ (TextsAt V (.slice zi8 ((fvs [] [] [t]).filter (inB xs)).length zp8) ((fvs [] [] [t]).filter (inB xs)) ∧ TextsAt V (.slice zo8 ((fvs [] [] [t]).filter fun n => !inB xs n).length zq8) ((fvs [] [] [t]).filter fun n => !inB xs n)) := depOf hdep 8 (by decide +kernel)
    clear hdep
    refine run_bare (by kernel_rfl) ?_
    unfold sfrFr
    go_simp
    refine kfit (hK _ _ (Below.refl _ V) ⟨_, _, rfl, d8.2⟩) ?_
    first | (simp only [sfrFr, Act.put, List.setIfInBounds_toArray, List.set_cons_zero, List.set_cons_succ, h1, e8]; done) | (simp only [sfrFr, Act.put, List.setIfInBounds_toArray, List.set_cons_zero, List.set_cons_succ, h1, e8]; rfl)
  -- 11: slot 3 := Op.assign t14
  refine And.intro ?_ ?_
  · rw [← hf]; clear hf
    refine ⟨by decide +kernel, fun x v => by kernel_rfl, fun x V hV hdep K hK => ?_⟩
    obtain ⟨zi9, zp9, e9, d9⟩ : ∃ zi9 zp9, x 9 = .slice zi9 ((fvs [] [] [t]).filter (inB xs)).length zp9 ∧ TextsAt V (.slice zi9 ((fvs [] [] [t]).filter (inB xs)).length zp9) ((fvs [] [] [t]).filter (inB xs)) := depOf hdep 9 (by decide +kernel)
    clear hdep
    refine run_bare (by kernel_rfl) ?_
    unfold sfrFr
    go_simp
    refine kfit (hK _ _ (Below.refl _ V) ⟨_, _, rfl, d9⟩) ?_
    first | (simp only [sfrFr, Act.put, List.setIfInBounds_toArray, List.set_cons_zero, List.set_cons_succ, h1, e9]; done) | (simp only [sfrFr, Act.put, List.setIfInBounds_toArray, List.set_cons_zero, List.set_cons_succ, h1, e9]; rfl)
  -- 12: slot 4 := Op.assign t15
  refine And.intro ?_ ?_
  · rw [← hf]; clear hf
    refine ⟨by decide +kernel, fun x v => by kernel_rfl, fun x V hV hdep K hK => ?_⟩
    obtain ⟨zo10, zq10, e10, d10⟩ : ∃ zo10 zq10, x 10 = .slice zo10 ((fvs [] [] [t]).filter fun n => !inB xs n).length zq10 ∧ TextsAt V (.slice zo10 ((fvs [] [] [t]).filter fun n => !inB xs n).length zq10) ((fvs [] [] [t]).filter fun n => !inB xs n) := depOf hdep 10 (by decide +kernel)
    clear hdep
    refine run_bare (by kernel_rfl) ?_
    unfold sfrFr
    go_simp
    refine kfit (hK _ _ (Below.refl _ V) ⟨_, _, rfl, d10⟩) ?_
    first | (simp only [sfrFr, Act.put, List.setIfInBounds_toArray, List.set_cons_zero, List.set_cons_succ, h1, e10]; done) | (simp only [sfrFr, Act.put, List.setIfInBounds_toArray, List.set_cons_zero, List.set_cons_succ, h1, e10]; rfl)
  exact trivial
theorem sfr_here {w : World} {b1 : Nat} {xa ca ta : Option Addr} {xc cc tc : Nat} {xs : List ByteArray} {t : T}
    (HC4 : ∀ V, SF w b1 xa xc xs ca cc t ta tc V → Calls Tryd.prog 64 #[.slice ca 0 cc, .agg #[.int .i64 (t).kind, .string (t).name, .slice ta (t).kids.length tc]] V fun e Y => (∃ za zc, e = .returned (.slice za (fvs [] [] [t]).length zc) ∧ TextsAt Y (.slice za (fvs [] [] [t]).length zc) (fvs [] [] [t])) ∧ Below V.heap.size V Y)
    (HC7 : ∀ V, SF w b1 xa xc xs ca cc t ta tc V → ∀ za4, ∀ zc4, TextsAt V (.slice za4 (fvs [] [] [t]).length zc4) (fvs [] [] [t]) → Calls Tryd.prog 63 #[.slice za4 (fvs [] [] [t]).length zc4, .slice xa xs.length xc] V fun e Y => (∃ zi zp zo zq, e = .returned (.tuple #[.slice zi ((fvs [] [] [t]).filter (inB xs)).length zp, .slice zo ((fvs [] [] [t]).filter fun n => !inB xs n).length zq]) ∧ (TextsAt Y (.slice zi ((fvs [] [] [t]).filter (inB xs)).length zp) ((fvs [] [] [t]).filter (inB xs)) ∧ TextsAt Y (.slice zo ((fvs [] [] [t]).filter fun n => !inB xs n).length zq) ((fvs [] [] [t]).filter fun n => !inB xs n))) ∧ Below V.heap.size V Y)
    {Q : Exit → Act → World → Prop} {ops : Array Oper} {a : Act} (X : World) (hops : ops = sfrOps)
    (h1 : a.tmps.getD 1 undef = .pointer (some ⟨b1, 0, none⟩))
    (ha : a = sfrFr (fun j => a.tmps.getD j undef) a.defers (fun i => a.tmps.getD (if i = 8 then 5 else if i = 11 then 3 else if i = 12 then 4 else if i < 8 then 6 + i else 5 + i) undef)) (hS : SF w b1 xa xc xs ca cc t ta tc X.drew)
    (hfin : ∀ (x : Nat → Value) V zi zp zo zq, SF w b1 xa xc xs ca cc t ta tc V → x 11 = .slice zi ((fvs [] [] [t]).filter (inB xs)).length zp → x 12 = .slice zo ((fvs [] [] [t]).filter fun n => !inB xs n).length zq → TextsAt V (.slice zi ((fvs [] [] [t]).filter (inB xs)).length zp) ((fvs [] [] [t]).filter (inB xs)) → TextsAt V (.slice zo ((fvs [] [] [t]).filter fun n => !inB xs n).length zq) ((fvs [] [] [t]).filter fun n => !inB xs n) → Q .normal (sfrFr (fun j => a.tmps.getD j undef) a.defers x) V) : (Code.region 1 ops true).wp Tryd.prog Q a X :=
  cast (congrArg (fun z => (Code.region 1 ops true).wp Tryd.prog Q z X) ha.symm) (sfr_region (b := fun j => a.tmps.getD j undef) (d := a.defers) h1 HC4 HC7 hops _ X hS hfin)
end Go.Proofs.YtdcfemojkdoakaaDoor
/- scheme.rename: its last statement, a region of 11 operations that draws its order, by an invariant. (Made by a program.) -/
namespace Go.Proofs.YtdcfemojkdoakaaDoor
open Go.RowKit Go.Sort Go.Lib
attribute [local go_sem] Oper.semAt_some

noncomputable def srnOps : Array Oper := regionIn 8 (Tryd.f61.body.getD .skip)
def srnFr (b : Nat → Value) (d : List Deferred) (x : Nat → Value) : Act := { tmps := #[b 0, b 1, b 2, b 3, b 4, b 5, b 6, b 7, b 8, b 9, b 10, b 11, b 12, b 13, b 14, b 15, b 16, b 17, b 18, b 19, b 20, b 21, b 22, b 23, b 24, b 25, b 26, b 27, b 28, b 29, b 30, b 31, b 32, b 33, x 0, x 1, x 2, x 3, x 4, x 5, x 6, x 7, x 8, x 9], defers := d }

def srnVals (b3 : Nat) (xa ta sa : Option Addr) (xc tc sc : Nat) (t : T) (l : List PR) (ga : Option Addr) (gn gc : Nat) (i : Nat) (v : Value) (V : World) : Prop :=
  match i with
  | 0 => v = .slice ga gn gc
  | 1 => v = .agg #[.slice sa l.length sc]
  | 2 => v = .pointer (some ⟨b3, 1, none⟩)
  | 3 => v = .slice xa 0 xc
  | 4 => ∃ zp, v = .slice (some zp) 0 0 ∧ True
  | 5 => v = .agg #[.slice sa l.length sc]
  | 6 => v = .pointer (some ⟨b3, 2, none⟩)
  | 7 => v = .agg #[.int .i64 (t).kind, .string (t).name, .slice ta (t).kids.length tc]
  | 8 => ∃ za zc, v = .agg #[.int .i64 (app l t).kind, .string (app l t).name, .slice za (app l t).kids.length zc] ∧ TysAt V (.slice za (app l t).kids.length zc) (app l t).kids
  | 9 => ∃ zp za zc, v = .agg #[.slice ga gn gc, .slice (some zp) 0 0, .int .i64 (app l t).kind, .string (app l t).name, .slice za (app l t).kids.length zc] ∧ TysAt V (.slice za (app l t).kids.length zc) (app l t).kids
  | _ => True

theorem srnVals_keep {b3 : Nat} {xa ta sa : Option Addr} {xc tc sc : Nat} {t : T} {l : List PR} {ga : Option Addr} {gn gc : Nat} (i : Nat) (v : Value) (V Y : World) (h : srnVals b3 xa ta sa xc tc sc t l ga gn gc i v V) (hb : Below V.heap.size V Y) : srnVals b3 xa ta sa xc tc sc t l ga gn gc i v Y := by
  unfold srnVals at *
  split at h <;> first
    | exact h
    | (obtain ⟨zp, e, h⟩ := h; exact ⟨zp, e, h⟩)
    | (obtain ⟨za, zc, e, h⟩ := h; exact ⟨za, zc, e, h.keep (KeepT.of_below hb)⟩)
    | (obtain ⟨zp, za, zc, e, h⟩ := h; exact ⟨zp, za, zc, e, h.keep (KeepT.of_below hb)⟩)

theorem srn_size : srnOps.size = 11 := by kernel_rfl
theorem srn_cov : covered srnOps 10 = true := by kernel_rfl
set_option linter.unusedSimpArgs false in
set_option maxRecDepth 100000 in
set_option maxHeartbeats 8000000 in
theorem srn_region {w : World} {b3 b6 b10 : Nat} {xv : Value} {xa ta sa ga : Option Addr} {xc tc sc gn gc : Nat} {t : T} {l : List PR} {b : Nat → Value} {d : List Deferred}
    (h2 : b 2 = .slice ga gn gc) (h3 : b 3 = .pointer (some ⟨b3, 0, none⟩)) (h6 : b 6 = .pointer (some ⟨b6, 0, none⟩)) (h10 : b 10 = .pointer (some ⟨b10, 0, none⟩))
    (HC4 : ∀ V, SR w b3 b6 b10 xv (.slice xa 0 xc) t ta tc sa sc l V → Calls Tryd.prog 53 #[.agg #[.slice sa l.length sc], .slice xa 0 xc] V fun e Y => (∃ zp, e = .returned (.slice (some zp) 0 0) ∧ True) ∧ Below V.heap.size V Y)
    (HC8 : ∀ V, SR w b3 b6 b10 xv (.slice xa 0 xc) t ta tc sa sc l V → Calls Tryd.prog 14 #[.agg #[.slice sa l.length sc], .agg #[.int .i64 (t).kind, .string (t).name, .slice ta (t).kids.length tc]] V fun e Y => (∃ za zc, e = .returned (.agg #[.int .i64 (app l t).kind, .string (app l t).name, .slice za (app l t).kids.length zc]) ∧ TysAt Y (.slice za (app l t).kids.length zc) (app l t).kids) ∧ Below V.heap.size V Y)
    {Q : Exit → Act → World → Prop} {ops : Array Oper} (hops : ops = srnOps) (x0 : Nat → Value) (X : World) (hS : SR w b3 b6 b10 xv (.slice xa 0 xc) t ta tc sa sc l X.drew)
    (hfin : ∀ (x : Nat → Value) V zp za zc, SR w b3 b6 b10 xv (.slice xa 0 xc) t ta tc sa sc l V → TysAt V (.slice za (app l t).kids.length zc) (app l t).kids → Q .normal (srnFr b d x) (set5 V b6 (.slice ga gn gc) (.slice (some zp) 0 0) (.int .i64 (app l t).kind) (.string (app l t).name) (.slice za (app l t).kids.length zc))) : (Code.region 8 ops true).wp Tryd.prog Q (srnFr b d x0) X := by
  have HC := Lib.hid (And.intro HC4 HC8)
  clear HC4 HC8
  have hszo : ops.size = 10 + 1 := by rw [hops]; exact srn_size
  have hcovo : covered ops 10 = true := by rw [hops]; exact srn_cov
  refine region_last (srnFr b d) (fun V => SR w b3 b6 b10 xv (.slice xa 0 xc) t ta tc sa sc l V) (fun V Y => Below V.heap.size V Y) (srnVals b3 xa ta sa xc tc sc t l ga gn gc) x0 10 (by kernel_rfl) rfl hS hszo hcovo (fun V Y h hb => h.below hb) (fun i v V Y _ h hb => srnVals_keep i v V Y h hb) ?_
  have HFIN := Lib.hid hfin
  clear hfin hS hszo hcovo
  obtain ⟨gl, hgl⟩ : ∃ qq, LastAt Tryd.prog (srnFr b d) (fun V => SR w b3 b6 b10 xv (.slice xa 0 xc) t ta tc sa sc l V) (srnVals b3 xa ta sa xc tc sc t l ga gn gc) ops Q 10 = qq := ⟨_, rfl⟩
  rw [hgl]
  obtain ⟨f, hf⟩ : ∃ qq, StepAt Tryd.prog (srnFr b d) (fun V => SR w b3 b6 b10 xv (.slice xa 0 xc) t ta tc sa sc l V) (fun V Y => Below V.heap.size V Y) (srnVals b3 xa ta sa xc tc sc t l ga gn gc) ops Q = qq := ⟨_, rfl⟩
  rw [hf, hops]
  simp only [srnOps, Tryd.f61, regionIn, Option.getD_some, Nat.reduceBEq, Bool.false_eq_true, if_false, if_true, beq_self_eq_true, Array.append_empty, Array.empty_append, List.append_eq, List.cons_append, List.nil_append, AllBut, Nat.reduceAdd, Nat.zero_add]
  -- 0: slot 34 := Op.move t2
  refine And.intro ?_ ?_
  · clear HFIN hgl
    rw [← hf]; clear hf
    refine ⟨by decide +kernel, fun x v => by kernel_rfl, fun x V hV hdep K hK => ?_⟩
    clear hdep
    refine run_bare (by kernel_rfl) ?_
    unfold srnFr
    go_simp
    refine kfit (hK _ _ (Below.refl _ V) rfl) ?_
    first | (simp only [srnFr, Act.put, List.setIfInBounds_toArray, List.set_cons_zero, List.set_cons_succ, h2, h3, h6, h10]; done) | (simp only [srnFr, Act.put, List.setIfInBounds_toArray, List.set_cons_zero, List.set_cons_succ, h2, h3, h6, h10]; rfl)
  -- 1: slot 35 := Op.load 33 t10
  refine And.intro ?_ ?_
  · clear HFIN hgl
    rw [← hf]; clear hf
    refine ⟨by decide +kernel, fun x v => by kernel_rfl, fun x V hV hdep K hK => ?_⟩
    clear hdep
    refine run_bare (by kernel_rfl) ?_
    unfold srnFr
    obtain ⟨y0, y1, y2, y3, y4⟩ := cells5 hV.1.1; have y5 := hV.2.2.1.cell
    go_simp
    refine kfit (hK _ _ (Below.refl _ V) rfl) ?_
    first | (simp only [srnFr, Act.put, List.setIfInBounds_toArray, List.set_cons_zero, List.set_cons_succ, h2, h3, h6, h10]; done) | (simp only [srnFr, Act.put, List.setIfInBounds_toArray, List.set_cons_zero, List.set_cons_succ, h2, h3, h6, h10]; rfl)
  -- 2: slot 36 := Op.fieldAddr 66 t3 1
  refine And.intro ?_ ?_
  · clear HFIN hgl
    rw [← hf]; clear hf
    refine ⟨by decide +kernel, fun x v => by kernel_rfl, fun x V hV hdep K hK => ?_⟩
    clear hdep
    refine run_bare (by kernel_rfl) ?_
    unfold srnFr
    go_simp
    refine kfit (hK _ _ (Below.refl _ V) rfl) ?_
    first | (simp only [srnFr, Act.put, List.setIfInBounds_toArray, List.set_cons_zero, List.set_cons_succ, h2, h3, h6, h10]; done) | (simp only [srnFr, Act.put, List.setIfInBounds_toArray, List.set_cons_zero, List.set_cons_succ, h2, h3, h6, h10]; rfl)
  -- 3: slot 37 := Op.load 55 t36
  refine And.intro ?_ ?_
  · clear HFIN hgl
    rw [← hf]; clear hf
    refine ⟨by decide +kernel, fun x v => by kernel_rfl, fun x V hV hdep K hK => ?_⟩
    have e2 : x 2 = .pointer (some ⟨b3, 1, none⟩) := depOf hdep 2 (by decide +kernel)
    clear hdep
    refine run_bare (by kernel_rfl) ?_
    unfold srnFr
    obtain ⟨y0, y1, y2, y3, y4⟩ := cells5 hV.1.1; have y5 := hV.2.2.1.cell
    go_simp
    refine kfit (hK _ _ (Below.refl _ V) rfl) ?_
    first | (simp only [srnFr, Act.put, List.setIfInBounds_toArray, List.set_cons_zero, List.set_cons_succ, h2, h3, h6, h10, e2]; done) | (simp only [srnFr, Act.put, List.setIfInBounds_toArray, List.set_cons_zero, List.set_cons_succ, h2, h3, h6, h10, e2]; rfl)
  -- 4: slot 38 := Op.call { value (Operand.func 53), args := #[t35, t37], argT
  refine And.intro ?_ ?_
  · clear HFIN hgl
    rw [← hf]; clear hf
    refine ⟨by decide +kernel, fun x v => by kernel_rfl, fun x V hV hdep K hK => ?_⟩
    have e1 : x 1 = .agg #[.slice sa l.length sc] := depOf hdep 1 (by decide +kernel)
    have e3 : x 3 = .slice xa 0 xc := depOf hdep 3 (by decide +kernel)
    clear hdep
    refine run_bare (by kernel_rfl) ?_
    unfold srnFr
    obtain ⟨HC4, HC8⟩ := HC.out
    clear HC8
    have H := HC4 V hV
    replace H := Lib.hid H; clear HC4
    go_simp
    go_at_call 53
    refine H.out.mono ?_
    rintro e Y ⟨⟨zp, rfl, hq⟩, hb⟩; refine kfit (hK _ _ hb ⟨zp, rfl, hq⟩) ?_
    first | (simp only [srnFr, Act.put, List.setIfInBounds_toArray, List.set_cons_zero, List.set_cons_succ, h2, h3, h6, h10, e1, e3]; done) | (simp only [srnFr, Act.put, List.setIfInBounds_toArray, List.set_cons_zero, List.set_cons_succ, h2, h3, h6, h10, e1, e3]; rfl)
  -- 5: slot 39 := Op.load 33 t10
  refine And.intro ?_ ?_
  · clear HFIN hgl
    rw [← hf]; clear hf
    refine ⟨by decide +kernel, fun x v => by kernel_rfl, fun x V hV hdep K hK => ?_⟩
    clear hdep
    refine run_bare (by kernel_rfl) ?_
    unfold srnFr
    obtain ⟨y0, y1, y2, y3, y4⟩ := cells5 hV.1.1; have y5 := hV.2.2.1.cell
    go_simp
    refine kfit (hK _ _ (Below.refl _ V) rfl) ?_
    first | (simp only [srnFr, Act.put, List.setIfInBounds_toArray, List.set_cons_zero, List.set_cons_succ, h2, h3, h6, h10]; done) | (simp only [srnFr, Act.put, List.setIfInBounds_toArray, List.set_cons_zero, List.set_cons_succ, h2, h3, h6, h10]; rfl)
  -- 6: slot 40 := Op.fieldAddr 66 t3 2
  refine And.intro ?_ ?_
  · clear HFIN hgl
    rw [← hf]; clear hf
    refine ⟨by decide +kernel, fun x v => by kernel_rfl, fun x V hV hdep K hK => ?_⟩
    clear hdep
    refine run_bare (by kernel_rfl) ?_
    unfold srnFr
    go_simp
    refine kfit (hK _ _ (Below.refl _ V) rfl) ?_
    first | (simp only [srnFr, Act.put, List.setIfInBounds_toArray, List.set_cons_zero, List.set_cons_succ, h2, h3, h6, h10]; done) | (simp only [srnFr, Act.put, List.setIfInBounds_toArray, List.set_cons_zero, List.set_cons_succ, h2, h3, h6, h10]; rfl)
  -- 7: slot 41 := Op.load 29 t40
  refine And.intro ?_ ?_
  · clear HFIN hgl
    rw [← hf]; clear hf
    refine ⟨by decide +kernel, fun x v => by kernel_rfl, fun x V hV hdep K hK => ?_⟩
    have e6 : x 6 = .pointer (some ⟨b3, 2, none⟩) := depOf hdep 6 (by decide +kernel)
    clear hdep
    refine run_bare (by kernel_rfl) ?_
    unfold srnFr
    obtain ⟨y0, y1, y2, y3, y4⟩ := cells5 hV.1.1; have y5 := hV.2.2.1.cell
    go_simp
    refine kfit (hK _ _ (Below.refl _ V) rfl) ?_
    first | (simp only [srnFr, Act.put, List.setIfInBounds_toArray, List.set_cons_zero, List.set_cons_succ, h2, h3, h6, h10, e6]; done) | (simp only [srnFr, Act.put, List.setIfInBounds_toArray, List.set_cons_zero, List.set_cons_succ, h2, h3, h6, h10, e6]; rfl)
  -- 8: slot 42 := Op.call { value (Operand.func 14), args := #[t39, t41], argT
  refine And.intro ?_ ?_
  · clear HFIN hgl
    rw [← hf]; clear hf
    refine ⟨by decide +kernel, fun x v => by kernel_rfl, fun x V hV hdep K hK => ?_⟩
    have e5 : x 5 = .agg #[.slice sa l.length sc] := depOf hdep 5 (by decide +kernel)
    have e7 : x 7 = .agg #[.int .i64 (t).kind, .string (t).name, .slice ta (t).kids.length tc] := depOf hdep 7 (by decide +kernel)
    clear hdep
    refine run_bare (by kernel_rfl) ?_
    unfold srnFr
    obtain ⟨HC4, HC8⟩ := HC.out
    clear HC4
    have H := HC8 V hV
    replace H := Lib.hid H; clear HC8
    go_simp
    go_at_call 14
    refine H.out.mono ?_
    rintro e Y ⟨⟨za, zc, rfl, hq⟩, hb⟩; refine kfit (hK _ _ hb ⟨za, zc, rfl, hq⟩) ?_
    first | (simp only [srnFr, Act.put, List.setIfInBounds_toArray, List.set_cons_zero, List.set_cons_succ, h2, h3, h6, h10, e5, e7]; done) | (simp only [srnFr, Act.put, List.setIfInBounds_toArray, List.set_cons_zero, List.set_cons_succ, h2, h3, h6, h10, e5, e7]; rfl)
  -- 9: slot 43 := Op.build 66 #[(0, t34), (1, t38), (2, t42)]
  refine And.intro ?_ ?_
  · clear HFIN hgl
    rw [← hf]; clear hf
    refine ⟨by decide +kernel, fun x v => by kernel_rfl, fun x V hV hdep K hK => ?_⟩
    have e0 : x 0 = .slice ga gn gc := depOf hdep 0 (by decide +kernel)
    obtain ⟨zp4, e4, d4⟩ : ∃ zp4, x 4 = .slice (some zp4) 0 0 ∧ True := depOf hdep 4 (by decide +kernel)
    obtain ⟨za8, zc8, e8, d8⟩ : ∃ za8 zc8, x 8 = .agg #[.int .i64 (app l t).kind, .string (app l t).name, .slice za8 (app l t).kids.length zc8] ∧ TysAt V (.slice za8 (app l t).kids.length zc8) (app l t).kids := depOf hdep 8 (by decide +kernel)
    clear hdep
    refine run_bare (by kernel_rfl) ?_
    unfold srnFr
    go_simp
    refine kfit (hK _ _ (Below.refl _ V) ⟨zp4, za8, zc8, rfl, d8⟩) ?_
    first | (simp only [srnFr, Act.put, List.setIfInBounds_toArray, List.set_cons_zero, List.set_cons_succ, h2, h3, h6, h10, e0, e4, e8]; done) | (simp only [srnFr, Act.put, List.setIfInBounds_toArray, List.set_cons_zero, List.set_cons_succ, h2, h3, h6, h10, e0, e4, e8]; rfl)
  -- 10: slot none := Op.store 66 t6 t43
  · clear HC
    rw [← hgl]; clear hgl
    refine ⟨by decide +kernel, fun x V hV hall K hK => ?_⟩
    obtain ⟨zp, za, zc, e9, d9⟩ : ∃ (zp : Addr) (za : Option Addr) (zc : Nat), x 9 = .agg #[.slice ga gn gc, .slice (some zp) 0 0, .int .i64 (app l t).kind, .string (app l t).name, .slice za (app l t).kids.length zc] ∧ TysAt V (.slice za (app l t).kids.length zc) (app l t).kids := hall 9 (by decide)
    clear hall
    refine run_bare (by kernel_rfl) ?_
    unfold srnFr
    obtain ⟨v0, v1, v2, v3, v4⟩ := cells5 hV.2.1
    have f0 := Lib.frozen_of_heap hV.2.1 0; have f1 := Lib.frozen_of_heap hV.2.1 1; have f2 := Lib.frozen_of_heap hV.2.1 2; have f3 := Lib.frozen_of_heap hV.2.1 3; have f4 := Lib.frozen_of_heap hV.2.1 4
    have H := Lib.hid (HFIN.out x V zp za zc hV d9)
    clear HFIN hV d9
    go_simp
    refine kfit (hK undef _ H.out) ?_
    first | (simp only [srnFr, Act.put, List.setIfInBounds_toArray, List.set_cons_zero, List.set_cons_succ, h2, h3, h6, h10, e9]; done) | (simp only [srnFr, Act.put, List.setIfInBounds_toArray, List.set_cons_zero, List.set_cons_succ, h2, h3, h6, h10, e9]; rfl)
theorem srn_here {w : World} {b3 b6 b10 : Nat} {xv : Value} {xa ta sa ga : Option Addr} {xc tc sc gn gc : Nat} {t : T} {l : List PR}
    (HC4 : ∀ V, SR w b3 b6 b10 xv (.slice xa 0 xc) t ta tc sa sc l V → Calls Tryd.prog 53 #[.agg #[.slice sa l.length sc], .slice xa 0 xc] V fun e Y => (∃ zp, e = .returned (.slice (some zp) 0 0) ∧ True) ∧ Below V.heap.size V Y)
    (HC8 : ∀ V, SR w b3 b6 b10 xv (.slice xa 0 xc) t ta tc sa sc l V → Calls Tryd.prog 14 #[.agg #[.slice sa l.length sc], .agg #[.int .i64 (t).kind, .string (t).name, .slice ta (t).kids.length tc]] V fun e Y => (∃ za zc, e = .returned (.agg #[.int .i64 (app l t).kind, .string (app l t).name, .slice za (app l t).kids.length zc]) ∧ TysAt Y (.slice za (app l t).kids.length zc) (app l t).kids) ∧ Below V.heap.size V Y)
    {Q : Exit → Act → World → Prop} {ops : Array Oper} {a : Act} (X : World) (hops : ops = srnOps)
    (h2 : a.tmps.getD 2 undef = .slice ga gn gc) (h3 : a.tmps.getD 3 undef = .pointer (some ⟨b3, 0, none⟩)) (h6 : a.tmps.getD 6 undef = .pointer (some ⟨b6, 0, none⟩)) (h10 : a.tmps.getD 10 undef = .pointer (some ⟨b10, 0, none⟩))
    (ha : a = srnFr (fun j => a.tmps.getD j undef) a.defers (fun i => a.tmps.getD (34 + i) undef)) (hS : SR w b3 b6 b10 xv (.slice xa 0 xc) t ta tc sa sc l X.drew)
    (hfin : ∀ (x : Nat → Value) V zp za zc, SR w b3 b6 b10 xv (.slice xa 0 xc) t ta tc sa sc l V → TysAt V (.slice za (app l t).kids.length zc) (app l t).kids → Q .normal (srnFr (fun j => a.tmps.getD j undef) a.defers x) (set5 V b6 (.slice ga gn gc) (.slice (some zp) 0 0) (.int .i64 (app l t).kind) (.string (app l t).name) (.slice za (app l t).kids.length zc))) : (Code.region 8 ops true).wp Tryd.prog Q a X :=
  cast (congrArg (fun z => (Code.region 8 ops true).wp Tryd.prog Q z X) ha.symm) (srn_region (b := fun j => a.tmps.getD j undef) (d := a.defers) h2 h3 h6 h10 HC4 HC8 hops _ X hS hfin)
end Go.Proofs.YtdcfemojkdoakaaDoor
/- scheme.rename: names in variables' places, in a scheme without a context. -/
namespace Go.Proofs.YtdcfemojkdoakaaDoor
open Go.RowKit Go.Sort Go.Lib
attribute [local go_sem] Oper.semAt_some

set_option maxRecDepth 100000 in
set_option maxHeartbeats 8000000 in
theorem sren_any (t : T) (F G : List ByteArray) (hFG : F.length = G.length) (hl : F.length < 20) (hsz : tsize t ≤ 1000000000) (xv : Value) (xa ta fa ga : Option Addr) (xc tc fc gc : Nat) (w : World) (ht : TysAt w (.slice ta t.kids.length tc) t.kids) (hF : StrsP (.slice fa F.length fc) F w) (hG : StrsP (.slice ga G.length gc) G w) :
    Calls Tryd.prog 61 #[.agg #[xv, .slice xa 0 xc, .int .i64 t.kind, .string t.name, .slice ta t.kids.length tc], .slice fa F.length fc, .slice ga G.length gc] w fun e w' =>
      (∃ pa pc za zc, e = .returned (.agg #[.slice ga G.length gc, .slice pa 0 pc, .int .i64 (app (prs F G) t).kind, .string (app (prs F G) t).name, .slice za (app (prs F G) t).kids.length zc]) ∧ TysAt w' (.slice za (app (prs F G) t).kids.length zc) (app (prs F G) t).kids) ∧ Below w.heap.size w w' := by
  obtain ⟨k, hk⟩ : ∃ k, F.length = k := ⟨_, rfl⟩
  have hmk := make_row4 k (by omega)
  have HT := Lib.hid ht; have HF := Lib.hid hF; have HG := Lib.hid hG
  have hGk : G.length = k := by omega
  rw [hk] at HF
  rw [hGk] at HG
  have HK := Lib.hid (And.intro hk hGk)
  rw [hk, hGk]
  have hk20 : k < 20 := by omega
  clear ht hF hG hFG hk hGk
  go_enter Tryd.func61, Tryd.ntmps61
  go_wp2
  go_loopw [16] (fun vi wr => ∃ (i : Nat) (ls : List PR), i ≤ k ∧ vi = .int .i64 i ∧ Hid (ls.length = i ∧ ∀ j, j < i → (ls.getD j noP).n = F.getD j ⟨#[]⟩ ∧ (ls.getD j noP).t = .var (G.getD j ⟨#[]⟩)) ∧ Hid (RowK (w.heap.size + 1 + 1) k ls wr) ∧ Hid (Below w.heap.size w wr) ∧
    Hid (wr.heap[w.heap.size]? = some (.cells #[xv, .slice xa 0 xc, .int .i64 t.kind, .string t.name, .slice ta t.kids.length tc] 66 (0, 0)) ∧ wr.heap[w.heap.size + 1]? = some (.cells #[.slice none 0 0, .slice none 0 0, .int .i64 0, .string ⟨#[]⟩, .slice none 0 0] 66 (0, 0)))) (fun vi _ => k - (intOf vi).toNat)
  case atStart =>
    obtain ⟨n1, n2, n3⟩ := new_three w (.cells #[xv, .slice xa 0 xc, .int .i64 t.kind, .string t.name, .slice ta t.kids.length tc] 66) (.cells #[.slice none 0 0, .slice none 0 0, .int .i64 0, .string ⟨#[]⟩, .slice none 0 0] 66) (.cells (zeros4 k) 119)
    exact ⟨0, [], Nat.zero_le _, rfl, Lib.hid ⟨rfl, fun j hj => absurd hj (Nat.not_lt_zero _)⟩, Lib.hid (RowK.start _ _ _ n3), Lib.hid (below_three w _ _ _), Lib.hid ⟨n1, n2⟩⟩
  case round =>
    obtain ⟨i, ls, hi, rfl, hL, hRow, hB, hbx⟩ := hrel
    have lG := hRow.out.lt
    by_cases hlt : i < k
    · obtain ⟨gF, oF, rfl, lF, cF⟩ := HF.out.at (by have := HK.out.1; omega)
      obtain ⟨gG, oG, rfl, lG', cG⟩ := HG.out.at (by have := HK.out.2; omega)
      have xF := (hB.out.cell (p := ⟨gF, oF + i, none⟩) lF).trans (cF i (by have := HK.out.1; omega))
      have xG := (hB.out.cell (p := ⟨gG, oG + i, none⟩) lG').trans (cG i (by have := HK.out.2; omega))
      have HL := Lib.hid (fun (x : PR) (h1 : x.n = F.getD i ⟨#[]⟩) (h2 : x.t = .var (G.getD i ⟨#[]⟩)) => (show (ls ++ [x]).length = i + 1 ∧ ∀ j, j < i + 1 → ((ls ++ [x]).getD j noP).n = F.getD j ⟨#[]⟩ ∧ ((ls ++ [x]).getD j noP).t = .var (G.getD j ⟨#[]⟩) from
        ⟨by simp [hL.out.1], fun j hj => by
          by_cases e : j = i
          · subst e
            have e2 : (ls ++ [x]).getD j noP = x := by simp [List.getD, ← hL.out.1]
            rw [e2]; exact ⟨h1, h2⟩
          · have hj' : j < ls.length := by rw [hL.out.1]; omega
            have e2 : (ls ++ [x]).getD j noP = ls.getD j noP := by simp [List.getD, List.getElem?_append_left hj']
            rw [e2]; exact hL.out.2 j (by omega)⟩))
      generalize F.getD i ⟨#[]⟩ = f at xF HL
      generalize G.getD i ⟨#[]⟩ = q at xG HL
      have HV := Lib.hid (fun W => tvar_any q W)
      have hiz : (i : Int) < (k : Int) := by omega
      have hll := Lib.hid hL.out.1
      clear cF cG hmk
      simp only [tyV] at HV
      go_wp2_with (go_at_call 87; fail)
      refine (HV.out _).mono ?_
      rintro e w4 ⟨⟨u, rfl, hu⟩, hb4⟩
      obtain ⟨ua, uc, rfl⟩ := hu.shape
      have HB4 := Lib.hid hb4
      have hR4 := Lib.hid (hRow.out.below hb4)
      obtain ⟨o0, o1, o2, o3, c0, c1, c2, c3⟩ := hR4.out.cells hlt
      have f0 := hR4.out.row.free (i * 4); have f1 := hR4.out.row.free (i * 4 + 1); have f2 := hR4.out.row.free (i * 4 + 2); have f3 := hR4.out.row.free (i * 4 + 3)
      clear hb4 hu
      go_wp2
      have HP := hR4.out.push (by have := hll.out; omega) (⟨f, .var q, ua, uc⟩ : PR)
      rw [hll.out] at HP
      have HF4 := Lib.hid ((Fr.of_below (g := w.heap.size + 1 + 1) HB4.out).trans (Fr.set4 (w.heap.size + 1 + 1) i w4 (⟨f, .var q, ua, uc⟩ : PR)))
      go_roundw
      case rel => exact ⟨i + 1, ls ++ [⟨f, .var q, ua, uc⟩], by omega, by go_num, Lib.hid (HL.out _ rfl rfl), Lib.hid HP, Lib.hid (hB.out.trans (HF4.out.below (by omega) hB.out.size)), Lib.hid ⟨(HF4.out.2 _ (by omega) (by omega)).trans hbx.out.1, (HF4.out.2 _ (by omega) (by omega)).trans hbx.out.2⟩⟩
      case measure => simp [intOf]; omega
    · have hki : i = k := by omega
      subst hki
      have hll := hL.out.1
      have HCp : Hid (Copy ls (prs F G)) := Lib.hid ⟨by rw [hll, prs_len]; have h1 := HK.out.1; have h2 := HK.out.2; omega, fun j hj => by
        have hj' : j < i := by rw [← hll]; exact hj
        obtain ⟨e1, e2⟩ := prs_get F G j (by have h1 := HK.out.1; have h2 := HK.out.2; omega)
        rw [e1, e2]; exact hL.out.2 j hj'⟩
      have HV : Hid (∀ x ∈ ls, ∃ q, x.t = .var q) := Lib.hid fun x hx => by
        obtain ⟨j, hj, rfl⟩ := List.mem_iff_getElem.1 hx
        have := (hL.out.2 j (by rw [← hll]; exact hj)).2
        exact ⟨_, by simpa [List.getD, hj] using this⟩
      have HSz : Hid (SizedAll ls ∧ FitsAll ls) := Lib.hid ⟨fun x hx => by obtain ⟨q, e⟩ := HV.out x hx; rw [e]; exact (by decide : (1 : Nat) ≤ 1000000000), fun x hx => by obtain ⟨q, e⟩ := HV.out x hx; rw [e]; exact .mk _ (show (0 : Nat) < 1152921504606846976 by decide) (fun k hk => by cases hk)⟩
      have HTy : Hid (∀ W, Typ ls W) := Lib.hid fun W x hx => by obtain ⟨q, e⟩ := HV.out x hx; rw [e]; exact TysAt.nil _ _ _
      have hof := of_all (w.heap.size + 1 + 1) i ls wr hRow.out.row (HTy.out _) HSz.out.2 HSz.out.1 (by have h1 := HK.out.1; have h2 := HK.out.2; omega)
      rw [hll] at hof
      have HOf := Lib.hid hof
      have HTw := Lib.hid (HT.out.keep (KeepT.of_below hB.out))
      have HE := Lib.hid (fun (l : List PR) (hg : Made ls l) => app_congr (d := l) (d' := prs F G) (fun n => by rw [hg.same n]; unfold ty; rw [HCp.out.lk]) t)
      have HLen := Lib.hid hll
      clear hmk hL HV HF HG HT hof hll
      go_wp2_with (go_at_call 81; fail)
      refine HOf.out.mono ?_
      rintro e w4 ⟨⟨sv, l, rfl, hs, hm⟩, hb4⟩
      obtain ⟨sa, sc, rfl⟩ := hs.shape
      have hb5 := hb4.alloc hb4.size (.cells #[.slice sa l.length sc] 33)
      have hx0 := (hb5.block w.heap.size (by omega)).trans hbx.out.1
      have hx1 := (hb5.block (w.heap.size + 1) (by omega)).trans hbx.out.2
      have hS := (show SR w w.heap.size (w.heap.size + 1) w4.heap.size xv (.slice xa 0 xc) t ta tc sa sc l (w4.alloc (.cells #[.slice sa l.length sc] 33)) from ⟨⟨hx0, HTw.out.keep (KeepT.of_below hb5)⟩, hx1, BoxS.new hs, hB.out.trans (hb5.mono hB.out.size)⟩)
      have HS := Lib.hid hS; have HM := Lib.hid hm
      have hz5 : w.heap.size + 1 + 1 < w4.heap.size := Nat.lt_of_lt_of_le lG hb4.size
      clear hs hm hb4 hb5 hx0 hx1 hbx hRow HTw HTy HOf hB HCp hS
      go_wp2_with (fail)
      refine srn_here (w := w) (b3 := w.heap.size) (b6 := w.heap.size + 1) (b10 := w4.heap.size) (xv := xv) (xa := xa) (ta := ta) (sa := sa) (ga := ga) (xc := xc) (tc := tc) (sc := sc) (gn := i) (gc := gc) (t := t) (l := l)
        (fun V h => (preds0_any (.slice sa l.length sc) xa xc V).mono fun e Y hq => by
          obtain ⟨⟨a', rfl⟩, hb⟩ := hq
          exact ⟨⟨a', rfl, trivial⟩, hb⟩)
        (fun V h => (apply_any (d := l) (t := t) (s := .slice sa l.length sc) (w := V) (by have := HM.out.len; have h1 := HK.out.1; have := HLen.out; omega) (fun x hx => by obtain ⟨y, hy, _, e⟩ := HM.out.sub x hx; rw [e]; exact HSz.out.1 y hy) hsz h.2.2.1.2 h.1.2).mono fun e Y hq => by
          obtain ⟨⟨za, zc, rfl, hin⟩, hb⟩ := hq
          exact ⟨⟨za, zc, rfl, hin.tys⟩, hb⟩)
        _ (by kernel_rfl) (by kernel_rfl) (by kernel_rfl) (by kernel_rfl) (by kernel_rfl) (by kernel_rfl) (HS.out.below (below_d _)) ?_
      intro x V zp za zc hV hT
      have HE2 := HE.out l HM.out
      have hc := cells5 (set5_block hV.2.1 (.slice ga i gc) (.slice (some zp) 0 0) (.int .i64 (app l t).kind) (.string (app l t).name) (.slice za (app l t).kids.length zc))
      have hkt : KeepT V (set5 V (w.heap.size + 1) (.slice ga i gc) (.slice (some zp) 0 0) (.int .i64 (app l t).kind) (.string (app l t).name) (.slice za (app l t).kids.length zc)) := fun k cs fz hk => (set5_other _ _ _ _ _ _ _ (fun e => by subst e; rw [hV.2.1] at hk; simp at hk)).trans hk
      have HEnd := Lib.hid (And.intro (hT.keep hkt) (below_set5 hV.2.2.2 (show w.heap.size ≤ w.heap.size + 1 by omega) (.slice ga i gc) (.slice (some zp) 0 0) (.int .i64 (app l t).kind) (.string (app l t).name) (.slice za (app l t).kids.length zc)))
      generalize set5 V (w.heap.size + 1) (.slice ga i gc) (.slice (some zp) 0 0) (.int .i64 (app l t).kind) (.string (app l t).name) (.slice za (app l t).kids.length zc) = Z at *
      rw [HE2] at hc HEnd
      clear hkt hV hT
      simp only [srnFr]
      simp only [Array.getD_eq_getD_getElem?, List.getElem?_toArray, List.getElem?_cons_succ, List.getElem?_cons_zero, Option.getD_some]
      go_wp2
      exact bodyPost_ret (v := .agg #[.slice ga i gc, .slice (some zp) 0 0, .int .i64 (app (prs F G) t).kind, .string (app (prs F G) t).name, .slice za (app (prs F G) t).kids.length zc]) (by simp [results, Tryd.results61, go_sem, hc.1, hc.2.1, hc.2.2.1, hc.2.2.2.1, hc.2.2.2.2]) rfl ⟨⟨_, _, _, _, rfl, HEnd.out.1⟩, HEnd.out.2⟩
end Go.Proofs.YtdcfemojkdoakaaDoor
/- scheme.Close of a type without a context; scheme.Free. -/
namespace Go.Proofs.YtdcfemojkdoakaaDoor
open Go.RowKit Go.Sort Go.Lib
attribute [local go_sem] Oper.semAt_some

theorem filter_size {l : List ByteArray} {p : ByteArray → Bool} {N : Nat} (h : ∀ n ∈ l, n.size ≤ N) : ∀ n ∈ l.filter p, n.size ≤ N := fun n hn => h n (List.mem_filter.1 hn).1
set_option maxRecDepth 100000 in
set_option maxHeartbeats 4000000 in
theorem clos_any (t : T) (xs : List ByteArray) (hn : Nm t) (hs : tsize t ≤ 90000000) (hv : ∀ n ∈ fvs [] [] [t], n.size ≤ 1000000) (hvl : (fvs [] [] [t]).length ≤ 1000000) (hxs : ∀ n ∈ xs, n.size ≤ 1000000) (hxl : xs.length ≤ 1000000) (xa ta na : Option Addr) (xc tc nc : Nat) (w : World) (ht : TysAt w (.slice ta t.kids.length tc) t.kids) (hN : TextsAt w (.slice na xs.length nc) xs) :
    Calls Tryd.prog 32 #[.slice xa 0 xc, .agg #[.int .i64 t.kind, .string t.name, .slice ta t.kids.length tc], .slice na xs.length nc] w fun e w' =>
      (∃ va vc zp za zc, e = .returned (.agg #[.slice va ((fvs [] [] [t]).filter fun n => !inB xs n).length vc, .slice (some zp) 0 0, .int .i64 t.kind, .string t.name, .slice za t.kids.length zc]) ∧ TextsAt w' (.slice va ((fvs [] [] [t]).filter fun n => !inB xs n).length vc) ((fvs [] [] [t]).filter fun n => !inB xs n) ∧ TysAt w' (.slice za t.kids.length zc) t.kids) ∧ Below w.heap.size w w' := by
  have hb0 := below_two w (.cells #[.int .i64 t.kind, .string t.name, .slice ta t.kids.length tc] 29) (.cells #[.slice none 0 0, .slice none 0 0, .int .i64 0, .string ⟨#[]⟩, .slice none 0 0] 66)
  have hB0 := (BoxT.new ht).alloc (.cells #[.slice none 0 0, .slice none 0 0, .int .i64 0, .string ⟨#[]⟩, .slice none 0 0] 66)
  have hZ0 := new_two w (.cells #[.int .i64 t.kind, .string t.name, .slice ta t.kids.length tc] 29) (.cells #[.slice none 0 0, .slice none 0 0, .int .i64 0, .string ⟨#[]⟩, .slice none 0 0] 66)
  have H0 := Lib.hid (And.intro hB0 (And.intro (show Sch0 (w.heap.size + 1) _ from hZ0) (And.intro (hN.below hb0) hb0)))
  have HNm := Lib.hid hn
  have HV := Lib.hid hv; have HXS := Lib.hid hxs
  clear hb0 hB0 hZ0 ht hN hn hv hxs
  go_enter Tryd.func32, Tryd.ntmps32
  go_wp2_with (go_at_call 64; fail)
  refine (vars1_any t HNm.out hs _ _ _ _ _ H0.out.1.2).mono ?_
  rintro e w1 ⟨⟨v, rfl, hv1⟩, hb1⟩
  obtain ⟨va, vc, rfl⟩ := hv1.shape
  have H1 := Lib.hid (And.intro (H0.out.1.below hb1) (And.intro (H0.out.2.1.below hb1) (And.intro (H0.out.2.2.1.below hb1) (And.intro (H0.out.2.2.2.trans (hb1.mono H0.out.2.2.2.size)) hv1))))
  clear hb1 hv1 H0
  go_wp2_with (go_at_call 63; fail)
  refine (split_any _ _ hvl hxl HV.out HXS.out _ _ _ _ _ H1.out.2.2.2.2 H1.out.2.2.1).mono ?_
  rintro e w2 ⟨⟨vi, vo, rfl, hvi, hvo⟩, hb2⟩
  obtain ⟨ia, ic, rfl⟩ := hvi.shape
  obtain ⟨oa, oc, rfl⟩ := hvo.shape
  have hb3 := hb2.alloc hb2.size (.cells #[.slice none 0 0] 33)
  have HS := Lib.hid (show SC w w.heap.size (w.heap.size + 1) w2.heap.size t ta tc (w2.alloc (.cells #[.slice none 0 0] 33)) from ⟨H1.out.1.below hb3, H1.out.2.1.below hb3, BoxS.new (sub_nil w2 none 0 (fun _ => rfl)), H1.out.2.2.2.1.trans (hb3.mono H1.out.2.2.2.1.size)⟩)
  have HO := Lib.hid (hvo.below ((Below.refl _ w2).alloc (Nat.le_refl _) (.cells #[.slice none 0 0] 33)))
  clear hvi hvo hb2 hb3 H1 HV HXS HNm
  obtain ⟨L2, hL2⟩ : ∃ L, ((fvs [] [] [t]).filter fun n => !inB xs n) = L := ⟨_, rfl⟩
  rw [hL2] at HO
  go_wp2_with (fail)
  refine scl_here (w := w) (b4 := w.heap.size) (b6 := w.heap.size + 1) (b9 := w2.heap.size) (xa := xa) (ta := ta) (ga := oa) (xc := xc) (tc := tc) (gn := L2.length) (gc := oc) (t := t) (gxs := L2)
    (fun V h => (preds0_any (.slice none 0 0) xa xc V).mono fun e Y hq => by
      obtain ⟨⟨a', rfl⟩, hb⟩ := hq
      exact ⟨⟨a', rfl, trivial⟩, hb⟩)
    (fun V h => (apply_any (d := []) (t := t) (s := .slice none 0 0) (w := V) (by decide) (fun x hx => nomatch hx) (by omega) h.1.2.2.1.2 h.1.1.2).mono fun e Y hq => by
      obtain ⟨⟨za, zc, rfl, hin⟩, hb⟩ := hq
      rw [app_nil] at hin ⊢
      exact ⟨⟨za, zc, rfl, hin.tys⟩, hb⟩)
    _ (by kernel_rfl) (by kernel_rfl) (by kernel_rfl) (by kernel_rfl) (by kernel_rfl) (by kernel_rfl) (by kernel_rfl) ⟨HS.out.below (below_d _), HO.out.below (below_d _)⟩ ?_
  intro x V zp za zc hV hT
  have hc := cells5 (set5_block hV.1.2.1 (.slice oa L2.length oc) (.slice (some zp) 0 0) (.int .i64 t.kind) (.string t.name) (.slice za t.kids.length zc))
  have hkt : KeepT V (set5 V (w.heap.size + 1) (.slice oa L2.length oc) (.slice (some zp) 0 0) (.int .i64 t.kind) (.string t.name) (.slice za t.kids.length zc)) := fun k cs fz hk => (set5_other _ _ _ _ _ _ _ (fun e => by subst e; rw [hV.1.2.1] at hk; simp at hk)).trans hk
  have hks : TextsAt (set5 V (w.heap.size + 1) (.slice oa L2.length oc) (.slice (some zp) 0 0) (.int .i64 t.kind) (.string t.name) (.slice za t.kids.length zc)) (.slice oa L2.length oc) L2 := hV.2.keep fun k cs fz hk => (set5_other _ _ _ _ _ _ _ (fun e => by subst e; rw [hV.1.2.1] at hk; simp at hk)).trans hk
  have HEnd := Lib.hid (And.intro hks (And.intro (hT.keep hkt) (below_set5 hV.1.2.2.2 (show w.heap.size ≤ w.heap.size + 1 by omega) (.slice oa L2.length oc) (.slice (some zp) 0 0) (.int .i64 t.kind) (.string t.name) (.slice za t.kids.length zc))))
  generalize set5 V (w.heap.size + 1) (.slice oa L2.length oc) (.slice (some zp) 0 0) (.int .i64 t.kind) (.string t.name) (.slice za t.kids.length zc) = Z at *
  clear hkt hks hV hT HO HS
  simp only [sclFr]
  simp only [Array.getD_eq_getD_getElem?, List.getElem?_toArray, List.getElem?_cons_succ, List.getElem?_cons_zero, Option.getD_some]
  go_wp2
  subst hL2
  exact bodyPost_ret (v := .agg #[.slice oa ((fvs [] [] [t]).filter fun n => !inB xs n).length oc, .slice (some zp) 0 0, .int .i64 t.kind, .string t.name, .slice za t.kids.length zc]) (by simp [results, Tryd.results32, go_sem, hc.1, hc.2.1, hc.2.2.1, hc.2.2.2.1, hc.2.2.2.2]) rfl ⟨⟨_, _, _, _, _, rfl, HEnd.out.1, HEnd.out.2.1⟩, HEnd.out.2.2⟩
set_option maxRecDepth 100000 in
set_option maxHeartbeats 4000000 in
theorem free_any (t : T) (xs : List ByteArray) (hn : Nm t) (hs : tsize t ≤ 90000000) (hv : ∀ n ∈ fvs [] [] [t], n.size ≤ 1000000) (hvl : (fvs [] [] [t]).length ≤ 1000000) (hxs : ∀ n ∈ xs, n.size ≤ 1000000) (hxl : xs.length ≤ 1000000) (xa ca ta : Option Addr) (xc cc tc : Nat) (w : World) (ht : TysAt w (.slice ta t.kids.length tc) t.kids) (hx : TextsAt w (.slice xa xs.length xc) xs) :
    Calls Tryd.prog 35 #[.agg #[.slice xa xs.length xc, .slice ca 0 cc, .int .i64 t.kind, .string t.name, .slice ta t.kids.length tc]] w fun e w' =>
      (∃ va vc, e = .returned (.slice va ((fvs [] [] [t]).filter fun n => !inB xs n).length vc) ∧ TextsAt w' (.slice va ((fvs [] [] [t]).filter fun n => !inB xs n).length vc) ((fvs [] [] [t]).filter fun n => !inB xs n)) ∧ Below w.heap.size w w' := by
  have hb0 := (Below.refl w.heap.size w).alloc (Nat.le_refl _) (.cells #[.slice xa xs.length xc, .slice ca 0 cc, .int .i64 t.kind, .string t.name, .slice ta t.kids.length tc] 66)
  have HS := Lib.hid (show SF w w.heap.size xa xc xs ca cc t ta tc (w.alloc (.cells #[.slice xa xs.length xc, .slice ca 0 cc, .int .i64 t.kind, .string t.name, .slice ta t.kids.length tc] 66)) from ⟨SchB.new ht, hx.below hb0, hb0⟩)
  have HNm := Lib.hid hn
  have HV := Lib.hid hv; have HXS := Lib.hid hxs
  clear hb0 ht hx hn hv hxs
  go_enter Tryd.func35, Tryd.ntmps35
  go_wp2_with (fail)
  refine sfr_here (w := w) (b1 := w.heap.size) (xa := xa) (ca := ca) (ta := ta) (xc := xc) (cc := cc) (tc := tc) (xs := xs) (t := t)
    (fun V h => (vars1_any t HNm.out hs _ _ _ _ V h.1.2).mono fun e Y hq => by
      obtain ⟨⟨v, rfl, hv⟩, hb⟩ := hq
      obtain ⟨a', c', rfl⟩ := hv.shape
      exact ⟨⟨a', c', rfl, hv⟩, hb⟩)
    (fun V h _ _ k => (split_any _ _ hvl hxl HV.out HXS.out _ _ _ _ V k h.2.1).mono fun e Y hq => by
      obtain ⟨⟨vi, vo, rfl, hvi, hvo⟩, hb⟩ := hq
      obtain ⟨ia, ic, rfl⟩ := hvi.shape
      obtain ⟨oa, oc, rfl⟩ := hvo.shape
      exact ⟨⟨ia, ic, oa, oc, rfl, hvi, hvo⟩, hb⟩)
    _ (by kernel_rfl) (by kernel_rfl) (by kernel_rfl) (HS.out.below (below_d _)) ?_
  intro x V zi zp zo zq hV e11 e12 _ k2
  have HEnd := Lib.hid (And.intro k2 hV.2.2)
  clear k2 hV HV HXS HNm HS
  simp only [sfrFr, e11, e12]
  simp only [Array.getD_eq_getD_getElem?, List.getElem?_toArray, List.getElem?_cons_succ, List.getElem?_cons_zero, Option.getD_some]
  generalize hL2 : ((fvs [] [] [t]).filter fun n => !inB xs n) = L2 at *
  go_wp2
  go_ret
  subst hL2
  exact ⟨⟨_, _, rfl, HEnd.out.1⟩, HEnd.out.2⟩
end Go.Proofs.YtdcfemojkdoakaaDoor
/- scheme: its last statement, a region of 13 operations that draws its order, by an invariant. (Made by a program.) -/
namespace Go.Proofs.YtdcfemojkdoakaaDoor
open Go.RowKit Go.Sort Go.Lib
attribute [local go_sem] Oper.semAt_some

noncomputable def scnOps : Array Oper := regionIn 2 (Tryd.f33.body.getD .skip)
def scnFr (b : Nat → Value) (d : List Deferred) (x : Nat → Value) : Act := { tmps := #[b 0, b 1, b 2, x 11, x 12, b 5, b 6, b 7, b 8, x 8, x 0, x 1, x 2, x 3, x 4, x 5, x 6, x 7, x 9, x 10, b 20, b 21, b 22, b 23, b 24, b 25, b 26, b 27, b 28, b 29, b 30, b 31], defers := d }

def scnVals (b1 : Nat) (xa ca ta : Option Addr) (xc cc tc : Nat) (xs : List ByteArray) (t : T) (i : Nat) (v : Value) (V : World) : Prop :=
  match i with
  | 0 => v = .pointer (some ⟨b1, 1, none⟩)
  | 1 => v = .slice ca 0 cc
  | 2 => v = .pointer (some ⟨b1, 2, none⟩)
  | 3 => v = .agg #[.int .i64 (t).kind, .string (t).name, .slice ta (t).kids.length tc]
  | 4 => ∃ za zc, v = .slice za (fvs [] [] [t]).length zc ∧ TextsAt V (.slice za (fvs [] [] [t]).length zc) (fvs [] [] [t])
  | 5 => v = .pointer (some ⟨b1, 0, none⟩)
  | 6 => v = .slice xa xs.length xc
  | 7 => ∃ zi zp zo zq, v = .tuple #[.slice zi ((fvs [] [] [t]).filter (inB xs)).length zp, .slice zo ((fvs [] [] [t]).filter fun n => !inB xs n).length zq] ∧ (TextsAt V (.slice zi ((fvs [] [] [t]).filter (inB xs)).length zp) ((fvs [] [] [t]).filter (inB xs)) ∧ TextsAt V (.slice zo ((fvs [] [] [t]).filter fun n => !inB xs n).length zq) ((fvs [] [] [t]).filter fun n => !inB xs n))
  | 8 => ∃ zi zp zo zq, v = .tuple #[.slice zi ((fvs [] [] [t]).filter (inB xs)).length zp, .slice zo ((fvs [] [] [t]).filter fun n => !inB xs n).length zq] ∧ (TextsAt V (.slice zi ((fvs [] [] [t]).filter (inB xs)).length zp) ((fvs [] [] [t]).filter (inB xs)) ∧ TextsAt V (.slice zo ((fvs [] [] [t]).filter fun n => !inB xs n).length zq) ((fvs [] [] [t]).filter fun n => !inB xs n))
  | 9 => ∃ zi zp, v = .slice zi ((fvs [] [] [t]).filter (inB xs)).length zp ∧ TextsAt V (.slice zi ((fvs [] [] [t]).filter (inB xs)).length zp) ((fvs [] [] [t]).filter (inB xs))
  | 10 => ∃ zo zq, v = .slice zo ((fvs [] [] [t]).filter fun n => !inB xs n).length zq ∧ TextsAt V (.slice zo ((fvs [] [] [t]).filter fun n => !inB xs n).length zq) ((fvs [] [] [t]).filter fun n => !inB xs n)
  | 11 => ∃ zi zp, v = .slice zi ((fvs [] [] [t]).filter (inB xs)).length zp ∧ TextsAt V (.slice zi ((fvs [] [] [t]).filter (inB xs)).length zp) ((fvs [] [] [t]).filter (inB xs))
  | 12 => ∃ zo zq, v = .slice zo ((fvs [] [] [t]).filter fun n => !inB xs n).length zq ∧ TextsAt V (.slice zo ((fvs [] [] [t]).filter fun n => !inB xs n).length zq) ((fvs [] [] [t]).filter fun n => !inB xs n)
  | _ => True

theorem scnVals_keep {b1 : Nat} {xa ca ta : Option Addr} {xc cc tc : Nat} {xs : List ByteArray} {t : T} (i : Nat) (v : Value) (V Y : World) (h : scnVals b1 xa ca ta xc cc tc xs t i v V) (hb : Below V.heap.size V Y) : scnVals b1 xa ca ta xc cc tc xs t i v Y := by
  unfold scnVals at *
  split at h <;> first
    | exact h
    | (obtain ⟨za, zc, e, h⟩ := h; exact ⟨za, zc, e, h.below hb⟩)
    | (obtain ⟨zi, zp, zo, zq, e, h⟩ := h; exact ⟨zi, zp, zo, zq, e, ⟨h.1.below hb, h.2.below hb⟩⟩)
    | (obtain ⟨zi, zp, e, h⟩ := h; exact ⟨zi, zp, e, h.below hb⟩)
    | (obtain ⟨zo, zq, e, h⟩ := h; exact ⟨zo, zq, e, h.below hb⟩)

theorem scn_size : scnOps.size = 13 := by kernel_rfl
set_option linter.unusedSimpArgs false in
set_option maxRecDepth 100000 in
set_option maxHeartbeats 8000000 in
theorem scn_region {w : World} {b1 : Nat} {xa ca ta : Option Addr} {xc cc tc : Nat} {xs : List ByteArray} {t : T} {b : Nat → Value} {d : List Deferred}
    (h1 : b 1 = .pointer (some ⟨b1, 0, none⟩))
    (HC4 : ∀ V, SF w b1 xa xc xs ca cc t ta tc V → Calls Tryd.prog 64 #[.slice ca 0 cc, .agg #[.int .i64 (t).kind, .string (t).name, .slice ta (t).kids.length tc]] V fun e Y => (∃ za zc, e = .returned (.slice za (fvs [] [] [t]).length zc) ∧ TextsAt Y (.slice za (fvs [] [] [t]).length zc) (fvs [] [] [t])) ∧ Below V.heap.size V Y)
    (HC7 : ∀ V, SF w b1 xa xc xs ca cc t ta tc V → ∀ za4, ∀ zc4, TextsAt V (.slice za4 (fvs [] [] [t]).length zc4) (fvs [] [] [t]) → Calls Tryd.prog 63 #[.slice za4 (fvs [] [] [t]).length zc4, .slice xa xs.length xc] V fun e Y => (∃ zi zp zo zq, e = .returned (.tuple #[.slice zi ((fvs [] [] [t]).filter (inB xs)).length zp, .slice zo ((fvs [] [] [t]).filter fun n => !inB xs n).length zq]) ∧ (TextsAt Y (.slice zi ((fvs [] [] [t]).filter (inB xs)).length zp) ((fvs [] [] [t]).filter (inB xs)) ∧ TextsAt Y (.slice zo ((fvs [] [] [t]).filter fun n => !inB xs n).length zq) ((fvs [] [] [t]).filter fun n => !inB xs n))) ∧ Below V.heap.size V Y)
    {Q : Exit → Act → World → Prop} {ops : Array Oper} (hops : ops = scnOps) (x0 : Nat → Value) (X : World) (hS : SF w b1 xa xc xs ca cc t ta tc X.drew)
    (hfin : ∀ (x : Nat → Value) V zi zp zo zq, SF w b1 xa xc xs ca cc t ta tc V → x 11 = .slice zi ((fvs [] [] [t]).filter (inB xs)).length zp → x 12 = .slice zo ((fvs [] [] [t]).filter fun n => !inB xs n).length zq → TextsAt V (.slice zi ((fvs [] [] [t]).filter (inB xs)).length zp) ((fvs [] [] [t]).filter (inB xs)) → TextsAt V (.slice zo ((fvs [] [] [t]).filter fun n => !inB xs n).length zq) ((fvs [] [] [t]).filter fun n => !inB xs n) → Q .normal (scnFr b d x) V) : (Code.region 2 ops true).wp Tryd.prog Q (scnFr b d x0) X := by
  have HC := Lib.hid (And.intro HC4 HC7)
  clear HC4 HC7
  refine region_inv (scnFr b d) (fun V => SF w b1 xa xc xs ca cc t ta tc V) (fun V Y => Below V.heap.size V Y) (scnVals b1 xa ca ta xc cc tc xs t) x0 (by kernel_rfl) rfl hS (fun V Y h hb => h.below hb) (fun i v V Y _ h hb => scnVals_keep i v V Y h hb) ?_ (fun x V hV h => by obtain ⟨zi, zp, e1, k1⟩ := h 11 (by rw [hops, scn_size]; decide); obtain ⟨zo, zq, e2, k2⟩ := h 12 (by rw [hops, scn_size]; decide); exact hfin x V zi zp zo zq hV e1 e2 k1 k2)
  clear hfin hS
  obtain ⟨f, hf⟩ : ∃ qq, StepAt Tryd.prog (scnFr b d) (fun V => SF w b1 xa xc xs ca cc t ta tc V) (fun V Y => Below V.heap.size V Y) (scnVals b1 xa ca ta xc cc tc xs t) ops Q = qq := ⟨_, rfl⟩
  rw [hf, hops]
  simp only [scnOps, Tryd.f33, regionIn, Option.getD_some, Nat.reduceBEq, Bool.false_eq_true, if_false, if_true, beq_self_eq_true, Array.append_empty, Array.empty_append, List.append_eq, List.cons_append, List.nil_append, AllAt, Nat.reduceAdd, Nat.zero_add]
  -- 0: slot 10 := Op.fieldAddr 66 t1 1
  refine And.intro ?_ ?_
  · rw [← hf]; clear hf
    refine ⟨by decide +kernel, fun x v => by kernel_rfl, fun x V hV hdep K hK => ?_⟩
    clear hdep
    refine run_bare (by kernel_rfl) ?_
    unfold scnFr
    go_simp
    refine kfit (hK _ _ (Below.refl _ V) rfl) ?_
    first | (simp only [scnFr, Act.put, List.setIfInBounds_toArray, List.set_cons_zero, List.set_cons_succ, h1]; done) | (simp only [scnFr, Act.put, List.setIfInBounds_toArray, List.set_cons_zero, List.set_cons_succ, h1]; rfl)
  -- 1: slot 11 := Op.load 55 t10
  refine And.intro ?_ ?_
  · rw [← hf]; clear hf
    refine ⟨by decide +kernel, fun x v => by kernel_rfl, fun x V hV hdep K hK => ?_⟩
    have e0 : x 0 = .pointer (some ⟨b1, 1, none⟩) := depOf hdep 0 (by decide +kernel)
    clear hdep
    refine run_bare (by kernel_rfl) ?_
    unfold scnFr
    obtain ⟨y0, y1, y2, y3, y4⟩ := cells5 hV.1.1
    go_simp
    refine kfit (hK _ _ (Below.refl _ V) rfl) ?_
    first | (simp only [scnFr, Act.put, List.setIfInBounds_toArray, List.set_cons_zero, List.set_cons_succ, h1, e0]; done) | (simp only [scnFr, Act.put, List.setIfInBounds_toArray, List.set_cons_zero, List.set_cons_succ, h1, e0]; rfl)
  -- 2: slot 12 := Op.fieldAddr 66 t1 2
  refine And.intro ?_ ?_
  · rw [← hf]; clear hf
    refine ⟨by decide +kernel, fun x v => by kernel_rfl, fun x V hV hdep K hK => ?_⟩
    clear hdep
    refine run_bare (by kernel_rfl) ?_
    unfold scnFr
    go_simp
    refine kfit (hK _ _ (Below.refl _ V) rfl) ?_
    first | (simp only [scnFr, Act.put, List.setIfInBounds_toArray, List.set_cons_zero, List.set_cons_succ, h1]; done) | (simp only [scnFr, Act.put, List.setIfInBounds_toArray, List.set_cons_zero, List.set_cons_succ, h1]; rfl)
  -- 3: slot 13 := Op.load 29 t12
  refine And.intro ?_ ?_
  · rw [← hf]; clear hf
    refine ⟨by decide +kernel, fun x v => by kernel_rfl, fun x V hV hdep K hK => ?_⟩
    have e2 : x 2 = .pointer (some ⟨b1, 2, none⟩) := depOf hdep 2 (by decide +kernel)
    clear hdep
    refine run_bare (by kernel_rfl) ?_
    unfold scnFr
    obtain ⟨y0, y1, y2, y3, y4⟩ := cells5 hV.1.1
    go_simp
    refine kfit (hK _ _ (Below.refl _ V) rfl) ?_
    first | (simp only [scnFr, Act.put, List.setIfInBounds_toArray, List.set_cons_zero, List.set_cons_succ, h1, e2]; done) | (simp only [scnFr, Act.put, List.setIfInBounds_toArray, List.set_cons_zero, List.set_cons_succ, h1, e2]; rfl)
  -- 4: slot 14 := Op.call { value (Operand.func 64), args := #[t11, t13], argT
  refine And.intro ?_ ?_
  · rw [← hf]; clear hf
    refine ⟨by decide +kernel, fun x v => by kernel_rfl, fun x V hV hdep K hK => ?_⟩
    have e1 : x 1 = .slice ca 0 cc := depOf hdep 1 (by decide +kernel)
    have e3 : x 3 = .agg #[.int .i64 (t).kind, .string (t).name, .slice ta (t).kids.length tc] := depOf hdep 3 (by decide +kernel)
    clear hdep
    refine run_bare (by kernel_rfl) ?_
    unfold scnFr
    obtain ⟨HC4, HC7⟩ := HC.out
    clear HC7
    have H := HC4 V hV
    replace H := Lib.hid H; clear HC4
    go_simp
    go_at_call 64
    refine H.out.mono ?_
    rintro e Y ⟨⟨za, zc, rfl, hq⟩, hb⟩; refine kfit (hK _ _ hb ⟨za, zc, rfl, hq⟩) ?_
    first | (simp only [scnFr, Act.put, List.setIfInBounds_toArray, List.set_cons_zero, List.set_cons_succ, h1, e1, e3]; done) | (simp only [scnFr, Act.put, List.setIfInBounds_toArray, List.set_cons_zero, List.set_cons_succ, h1, e1, e3]; rfl)
  -- 5: slot 15 := Op.fieldAddr 66 t1 0
  refine And.intro ?_ ?_
  · rw [← hf]; clear hf
    refine ⟨by decide +kernel, fun x v => by kernel_rfl, fun x V hV hdep K hK => ?_⟩
    clear hdep
    refine run_bare (by kernel_rfl) ?_
    unfold scnFr
    go_simp
    refine kfit (hK _ _ (Below.refl _ V) rfl) ?_
    first | (simp only [scnFr, Act.put, List.setIfInBounds_toArray, List.set_cons_zero, List.set_cons_succ, h1]; done) | (simp only [scnFr, Act.put, List.setIfInBounds_toArray, List.set_cons_zero, List.set_cons_succ, h1]; rfl)
  -- 6: slot 16 := Op.load 64 t15
  refine And.intro ?_ ?_
  · rw [← hf]; clear hf
    refine ⟨by decide +kernel, fun x v => by kernel_rfl, fun x V hV hdep K hK => ?_⟩
    have e5 : x 5 = .pointer (some ⟨b1, 0, none⟩) := depOf hdep 5 (by decide +kernel)
    clear hdep
    refine run_bare (by kernel_rfl) ?_
    unfold scnFr
    obtain ⟨y0, y1, y2, y3, y4⟩ := cells5 hV.1.1
    go_simp
    refine kfit (hK _ _ (Below.refl _ V) rfl) ?_
    first | (simp only [scnFr, Act.put, List.setIfInBounds_toArray, List.set_cons_zero, List.set_cons_succ, h1, e5]; done) | (simp only [scnFr, Act.put, List.setIfInBounds_toArray, List.set_cons_zero, List.set_cons_succ, h1, e5]; rfl)
  -- 7: slot 17 := Op.call { value (Operand.func 63), args := #[t14, t16], argT
  refine And.intro ?_ ?_
  · rw [← hf]; clear hf
    refine ⟨by decide +kernel, fun x v => by kernel_rfl, fun x V hV hdep K hK => ?_⟩
    obtain ⟨za4, zc4, e4, d4⟩ : ∃ za4 zc4, x 4 = .slice za4 (fvs [] [] [t]).length zc4 ∧ TextsAt V (.slice za4 (fvs [] [] [t]).length zc4) (fvs [] [] [t]) := depOf hdep 4 (by decide +kernel)
    have e6 : x 6 = .slice xa xs.length xc := depOf hdep 6 (by decide +kernel)
    clear hdep
    refine run_bare (by kernel_rfl) ?_
    unfold scnFr
    obtain ⟨HC4, HC7⟩ := HC.out
    clear HC4
    have H := HC7 V hV _ _ d4
    replace H := Lib.hid H; clear HC7
    go_simp
    go_at_call 63
    refine H.out.mono ?_
    rintro e Y ⟨⟨zi, zp, zo, zq, rfl, hq⟩, hb⟩; refine kfit (hK _ _ hb ⟨zi, zp, zo, zq, rfl, hq⟩) ?_
    first | (simp only [scnFr, Act.put, List.setIfInBounds_toArray, List.set_cons_zero, List.set_cons_succ, h1, e4, e6]; done) | (simp only [scnFr, Act.put, List.setIfInBounds_toArray, List.set_cons_zero, List.set_cons_succ, h1, e4, e6]; rfl)
  -- 8: slot 9 := Op.move t17
  refine And.intro ?_ ?_
  · rw [← hf]; clear hf
    refine ⟨by decide +kernel, fun x v => by kernel_rfl, fun x V hV hdep K hK => ?_⟩
    obtain ⟨zi7, zp7, zo7, zq7, e7, d7⟩ : ∃ zi7 zp7 zo7 zq7, x 7 = .tuple #[.slice zi7 ((fvs [] [] [t]).filter (inB xs)).length zp7, .slice zo7 ((fvs [] [] [t]).filter fun n => !inB xs n).length zq7] ∧ (TextsAt V (.slice zi7 ((fvs [] [] [t]).filter (inB xs)).length zp7) ((fvs [] [] [t]).filter (inB xs)) ∧ TextsAt V (.slice zo7 ((fvs [] [] [t]).filter fun n => !inB xs n).length zq7) ((fvs [] [] [t]).filter fun n => !inB xs n)) := depOf hdep 7 (by decide +kernel)
    clear hdep
    refine run_bare (by kernel_rfl) ?_
    unfold scnFr
    go_simp
    refine kfit (hK _ _ (Below.refl _ V) ⟨_, _, _, _, rfl, d7⟩) ?_
    first | (simp only [scnFr, Act.put, List.setIfInBounds_toArray, List.set_cons_zero, List.set_cons_succ, h1, e7]; done) | (simp only [scnFr, Act.put, List.setIfInBounds_toArray, List.set_cons_zero, List.set_cons_succ, h1, e7]; rfl)
  -- 9: slot 18 := Op.extract t9 0
  refine And.intro ?_ ?_
  · rw [← hf]; clear hf
    refine ⟨by decide +kernel, fun x v => by kernel_rfl, fun x V hV hdep K hK => ?_⟩
    obtain ⟨zi8, zp8, zo8, zq8, e8, d8⟩ : ∃ zi8 zp8 zo8 zq8, x 8 = .tuple #[.slice zi8 ((fvs [] [] [t]).filter (inB xs)).length zp8, .slice zo8 ((fvs [] [] [t]).filter fun n => !inB xs n).length zq8] ∧ (TextsAt V (.slice zi8 ((fvs [] [] [t]).filter (inB xs)).length zp8) ((fvs [] [] [t]).filter (inB xs)) ∧ TextsAt V (.slice zo8 ((fvs [] [] [t]).filter fun n => !inB xs n).length zq8) ((fvs [] [] [t]).filter fun n => !inB xs n)) := depOf hdep 8 (by decide +kernel)
    clear hdep
    refine run_bare (by kernel_rfl) ?_
    unfold scnFr
    go_simp
    refine kfit (hK _ _ (Below.refl _ V) ⟨_, _, rfl, d8.1⟩) ?_
    first | (simp only [scnFr, Act.put, List.setIfInBounds_toArray, List.set_cons_zero, List.set_cons_succ, h1, e8]; done) | (simp only [scnFr, Act.put, List.setIfInBounds_toArray, List.set_cons_zero, List.set_cons_succ, h1, e8]; rfl)
  -- 10: slot 19 := Op.extract t9 1
  refine And.intro ?_ ?_
  · rw [← hf]; clear hf
    refine ⟨by decide +kernel, fun x v => by kernel_rfl, fun x V hV hdep K hK => ?_⟩
    obtain ⟨zi8, zp8, zo8, zq8, e8, d8⟩ : ∃ zi8 zp8 zo8 zq8, x 8 = .tuple #[.slice zi8 ((fvs [] [] [t]).filter (inB xs)).length zp8, .slice zo8 ((fvs [] [] [t]).filter fun n => !inB xs n).length zq8] ∧ (TextsAt V (.slice zi8 ((fvs [] [] [t]).filter (inB xs)).length zp8) ((fvs [] [] [t]).filter (inB xs)) ∧ TextsAt V (.slice zo8 ((fvs [] [] [t]).filter fun n => !inB xs n).length zq8) ((fvs [] [] [t]).filter fun n => !inB xs n)) := depOf hdep 8 (by decide +kernel)
    clear hdep
    refine run_bare (by kernel_rfl) ?_
    unfold scnFr
    go_simp
    refine kfit (hK _ _ (Below.refl _ V) ⟨_, _, rfl, d8.2⟩) ?_
    first | (simp only [scnFr, Act.put, List.setIfInBounds_toArray, List.set_cons_zero, List.set_cons_succ, h1, e8]; done) | (simp only [scnFr, Act.put, List.setIfInBounds_toArray, List.set_cons_zero, List.set_cons_succ, h1, e8]; rfl)
  -- 11: slot 3 := Op.assign t18
  refine And.intro ?_ ?_
  · rw [← hf]; clear hf
    refine ⟨by decide +kernel, fun x v => by kernel_rfl, fun x V hV hdep K hK => ?_⟩
    obtain ⟨zi9, zp9, e9, d9⟩ : ∃ zi9 zp9, x 9 = .slice zi9 ((fvs [] [] [t]).filter (inB xs)).length zp9 ∧ TextsAt V (.slice zi9 ((fvs [] [] [t]).filter (inB xs)).length zp9) ((fvs [] [] [t]).filter (inB xs)) := depOf hdep 9 (by decide +kernel)
    clear hdep
    refine run_bare (by kernel_rfl) ?_
    unfold scnFr
    go_simp
    refine kfit (hK _ _ (Below.refl _ V) ⟨_, _, rfl, d9⟩) ?_
    first | (simp only [scnFr, Act.put, List.setIfInBounds_toArray, List.set_cons_zero, List.set_cons_succ, h1, e9]; done) | (simp only [scnFr, Act.put, List.setIfInBounds_toArray, List.set_cons_zero, List.set_cons_succ, h1, e9]; rfl)
  -- 12: slot 4 := Op.assign t19
  refine And.intro ?_ ?_
  · rw [← hf]; clear hf
    refine ⟨by decide +kernel, fun x v => by kernel_rfl, fun x V hV hdep K hK => ?_⟩
    obtain ⟨zo10, zq10, e10, d10⟩ : ∃ zo10 zq10, x 10 = .slice zo10 ((fvs [] [] [t]).filter fun n => !inB xs n).length zq10 ∧ TextsAt V (.slice zo10 ((fvs [] [] [t]).filter fun n => !inB xs n).length zq10) ((fvs [] [] [t]).filter fun n => !inB xs n) := depOf hdep 10 (by decide +kernel)
    clear hdep
    refine run_bare (by kernel_rfl) ?_
    unfold scnFr
    go_simp
    refine kfit (hK _ _ (Below.refl _ V) ⟨_, _, rfl, d10⟩) ?_
    first | (simp only [scnFr, Act.put, List.setIfInBounds_toArray, List.set_cons_zero, List.set_cons_succ, h1, e10]; done) | (simp only [scnFr, Act.put, List.setIfInBounds_toArray, List.set_cons_zero, List.set_cons_succ, h1, e10]; rfl)
  exact trivial
theorem scn_here {w : World} {b1 : Nat} {xa ca ta : Option Addr} {xc cc tc : Nat} {xs : List ByteArray} {t : T}
    (HC4 : ∀ V, SF w b1 xa xc xs ca cc t ta tc V → Calls Tryd.prog 64 #[.slice ca 0 cc, .agg #[.int .i64 (t).kind, .string (t).name, .slice ta (t).kids.length tc]] V fun e Y => (∃ za zc, e = .returned (.slice za (fvs [] [] [t]).length zc) ∧ TextsAt Y (.slice za (fvs [] [] [t]).length zc) (fvs [] [] [t])) ∧ Below V.heap.size V Y)
    (HC7 : ∀ V, SF w b1 xa xc xs ca cc t ta tc V → ∀ za4, ∀ zc4, TextsAt V (.slice za4 (fvs [] [] [t]).length zc4) (fvs [] [] [t]) → Calls Tryd.prog 63 #[.slice za4 (fvs [] [] [t]).length zc4, .slice xa xs.length xc] V fun e Y => (∃ zi zp zo zq, e = .returned (.tuple #[.slice zi ((fvs [] [] [t]).filter (inB xs)).length zp, .slice zo ((fvs [] [] [t]).filter fun n => !inB xs n).length zq]) ∧ (TextsAt Y (.slice zi ((fvs [] [] [t]).filter (inB xs)).length zp) ((fvs [] [] [t]).filter (inB xs)) ∧ TextsAt Y (.slice zo ((fvs [] [] [t]).filter fun n => !inB xs n).length zq) ((fvs [] [] [t]).filter fun n => !inB xs n))) ∧ Below V.heap.size V Y)
    {Q : Exit → Act → World → Prop} {ops : Array Oper} {a : Act} (X : World) (hops : ops = scnOps)
    (h1 : a.tmps.getD 1 undef = .pointer (some ⟨b1, 0, none⟩))
    (ha : a = scnFr (fun j => a.tmps.getD j undef) a.defers (fun i => a.tmps.getD (if i = 8 then 9 else if i = 11 then 3 else if i = 12 then 4 else if i < 8 then 10 + i else 9 + i) undef)) (hS : SF w b1 xa xc xs ca cc t ta tc X.drew)
    (hfin : ∀ (x : Nat → Value) V zi zp zo zq, SF w b1 xa xc xs ca cc t ta tc V → x 11 = .slice zi ((fvs [] [] [t]).filter (inB xs)).length zp → x 12 = .slice zo ((fvs [] [] [t]).filter fun n => !inB xs n).length zq → TextsAt V (.slice zi ((fvs [] [] [t]).filter (inB xs)).length zp) ((fvs [] [] [t]).filter (inB xs)) → TextsAt V (.slice zo ((fvs [] [] [t]).filter fun n => !inB xs n).length zq) ((fvs [] [] [t]).filter fun n => !inB xs n) → Q .normal (scnFr (fun j => a.tmps.getD j undef) a.defers x) V) : (Code.region 2 ops true).wp Tryd.prog Q a X :=
  cast (congrArg (fun z => (Code.region 2 ops true).wp Tryd.prog Q z X) ha.symm) (scn_region (b := fun j => a.tmps.getD j undef) (d := a.defers) h1 HC4 HC7 hops _ X hS hfin)
end Go.Proofs.YtdcfemojkdoakaaDoor
/- scheme: its last statement, a region of 8 operations that draws its order, by an invariant. (Made by a program.) -/
namespace Go.Proofs.YtdcfemojkdoakaaDoor
open Go.RowKit Go.Sort Go.Lib
attribute [local go_sem] Oper.semAt_some

noncomputable def schOps : Array Oper := regionIn 3 (Tryd.f33.body.getD .skip)
def schFr (b : Nat → Value) (d : List Deferred) (x : Nat → Value) : Act := { tmps := #[b 0, b 1, b 2, b 3, b 4, b 5, b 6, b 7, b 8, b 9, b 10, b 11, b 12, b 13, b 14, b 15, b 16, b 17, b 18, b 19, x 0, x 1, x 2, x 3, x 4, x 5, x 6, b 27, b 28, b 29, b 30, b 31], defers := d }

def schVals (xa ca ta ba oa : Option Addr) (xn xc cc tc bc oc : Nat) (bs os : List ByteArray) (t : T) (i : Nat) (v : Value) (V : World) : Prop :=
  match i with
  | 0 => v = .agg #[.slice xa xn xc, .slice ca 0 cc, .int .i64 t.kind, .string t.name, .slice ta t.kids.length tc]
  | 1 => v = .slice ba bs.length bc
  | 2 => v = .slice ba bs.length bc
  | 3 => v = .int .i64 (bs.length : Int)
  | 4 => v = .slice oa os.length oc
  | 5 => ∃ (zn : List ByteArray) (za : Option Addr) (zc : Nat), v = .slice za zn.length zc ∧ (TextsAt V (.slice za zn.length zc) zn ∧ NewN bs.length os zn)
  | 6 => ∃ (zn : List ByteArray) (za : Option Addr) (zc : Nat) (zp : Option Addr) (zq : Nat) (zt : Option Addr) (zu : Nat), v = .agg #[.slice za zn.length zc, .slice zp 0 zq, .int .i64 (app (prs bs zn) t).kind, .string (app (prs bs zn) t).name, .slice zt (app (prs bs zn) t).kids.length zu] ∧ ((TextsAt V (.slice za zn.length zc) zn ∧ NewN bs.length os zn) ∧ TysAt V (.slice zt (app (prs bs zn) t).kids.length zu) (app (prs bs zn) t).kids)
  | _ => True

theorem schVals_keep {xa ca ta ba oa : Option Addr} {xn xc cc tc bc oc : Nat} {bs os : List ByteArray} {t : T} (i : Nat) (v : Value) (V Y : World) (h : schVals xa ca ta ba oa xn xc cc tc bc oc bs os t i v V) (hb : Below V.heap.size V Y) : schVals xa ca ta ba oa xn xc cc tc bc oc bs os t i v Y := by
  unfold schVals at *
  split at h <;> first
    | exact h
    | (obtain ⟨zn, za, zc, e, h⟩ := h; exact ⟨zn, za, zc, e, ⟨h.1.below hb, h.2⟩⟩)
    | (obtain ⟨zn, za, zc, zp, zq, zt, zu, e, h⟩ := h; exact ⟨zn, za, zc, zp, zq, zt, zu, e, ⟨⟨h.1.1.below hb, h.1.2⟩, h.2.keep (KeepT.of_below hb)⟩⟩)

theorem sch_size : schOps.size = 8 := by kernel_rfl
theorem sch_cov : covered schOps 7 = true := by kernel_rfl
set_option linter.unusedSimpArgs false in
set_option maxRecDepth 100000 in
set_option maxHeartbeats 8000000 in
theorem sch_region {w : World} {b1 b2 : Nat} {xa ca ta ba oa : Option Addr} {xn xc cc tc bc oc : Nat} {bs os : List ByteArray} {t : T} {b : Nat → Value} {d : List Deferred}
    (h1 : b 1 = .pointer (some ⟨b1, 0, none⟩)) (h3 : b 3 = .slice ba bs.length bc) (h4 : b 4 = .slice oa os.length oc)
    (HC5 : ∀ V, SN w b1 b2 xa xn xc ca cc t ta tc ba bc oa oc bs os V → Calls Tryd.prog 65 #[.int .i64 (bs.length : Int), .slice oa os.length oc] V fun e Y => (∃ (zn : List ByteArray) (za : Option Addr) (zc : Nat), e = .returned (.slice za zn.length zc) ∧ (TextsAt Y (.slice za zn.length zc) zn ∧ NewN bs.length os zn)) ∧ Below V.heap.size V Y)
    (HC6 : ∀ V, SN w b1 b2 xa xn xc ca cc t ta tc ba bc oa oc bs os V → ∀ (zn5 : List ByteArray), ∀ za5, ∀ zc5, (TextsAt V (.slice za5 zn5.length zc5) zn5 ∧ NewN bs.length os zn5) → Calls Tryd.prog 61 #[.agg #[.slice xa xn xc, .slice ca 0 cc, .int .i64 t.kind, .string t.name, .slice ta t.kids.length tc], .slice ba bs.length bc, .slice za5 zn5.length zc5] V fun e Y => (∃ (zn : List ByteArray) (za : Option Addr) (zc : Nat) (zp : Option Addr) (zq : Nat) (zt : Option Addr) (zu : Nat), e = .returned (.agg #[.slice za zn.length zc, .slice zp 0 zq, .int .i64 (app (prs bs zn) t).kind, .string (app (prs bs zn) t).name, .slice zt (app (prs bs zn) t).kids.length zu]) ∧ ((TextsAt Y (.slice za zn.length zc) zn ∧ NewN bs.length os zn) ∧ TysAt Y (.slice zt (app (prs bs zn) t).kids.length zu) (app (prs bs zn) t).kids)) ∧ Below V.heap.size V Y)
    {Q : Exit → Act → World → Prop} {ops : Array Oper} (hops : ops = schOps) (x0 : Nat → Value) (X : World) (hS : SN w b1 b2 xa xn xc ca cc t ta tc ba bc oa oc bs os X.drew)
    (hfin : ∀ (x : Nat → Value) V (zn : List ByteArray) za zc zp zq zt zu, SN w b1 b2 xa xn xc ca cc t ta tc ba bc oa oc bs os V → ((TextsAt V (.slice za zn.length zc) zn ∧ NewN bs.length os zn) ∧ TysAt V (.slice zt (app (prs bs zn) t).kids.length zu) (app (prs bs zn) t).kids) → Q .normal (schFr b d x) (set5 V b1 (.slice za zn.length zc) (.slice zp 0 zq) (.int .i64 (app (prs bs zn) t).kind) (.string (app (prs bs zn) t).name) (.slice zt (app (prs bs zn) t).kids.length zu))) : (Code.region 3 ops true).wp Tryd.prog Q (schFr b d x0) X := by
  have HC := Lib.hid (And.intro HC5 HC6)
  clear HC5 HC6
  have hszo : ops.size = 7 + 1 := by rw [hops]; exact sch_size
  have hcovo : covered ops 7 = true := by rw [hops]; exact sch_cov
  refine region_last (schFr b d) (fun V => SN w b1 b2 xa xn xc ca cc t ta tc ba bc oa oc bs os V) (fun V Y => Below V.heap.size V Y) (schVals xa ca ta ba oa xn xc cc tc bc oc bs os t) x0 7 (by kernel_rfl) rfl hS hszo hcovo (fun V Y h hb => h.below hb) (fun i v V Y _ h hb => schVals_keep i v V Y h hb) ?_
  have HFIN := Lib.hid hfin
  clear hfin hS hszo hcovo
  obtain ⟨gl, hgl⟩ : ∃ qq, LastAt Tryd.prog (schFr b d) (fun V => SN w b1 b2 xa xn xc ca cc t ta tc ba bc oa oc bs os V) (schVals xa ca ta ba oa xn xc cc tc bc oc bs os t) ops Q 7 = qq := ⟨_, rfl⟩
  rw [hgl]
  obtain ⟨f, hf⟩ : ∃ qq, StepAt Tryd.prog (schFr b d) (fun V => SN w b1 b2 xa xn xc ca cc t ta tc ba bc oa oc bs os V) (fun V Y => Below V.heap.size V Y) (schVals xa ca ta ba oa xn xc cc tc bc oc bs os t) ops Q = qq := ⟨_, rfl⟩
  rw [hf, hops]
  simp only [schOps, Tryd.f33, regionIn, Option.getD_some, Nat.reduceBEq, Bool.false_eq_true, if_false, if_true, beq_self_eq_true, Array.append_empty, Array.empty_append, List.append_eq, List.cons_append, List.nil_append, AllBut, Nat.reduceAdd, Nat.zero_add]
  -- 0: slot 20 := Op.load 66 t1
  refine And.intro ?_ ?_
  · clear HFIN hgl
    rw [← hf]; clear hf
    refine ⟨by decide +kernel, fun x v => by kernel_rfl, fun x V hV hdep K hK => ?_⟩
    clear hdep
    refine run_bare (by kernel_rfl) ?_
    unfold schFr
    obtain ⟨y0, y1, y2, y3, y4⟩ := cells5 hV.1.1
    go_simp
    refine kfit (hK _ _ (Below.refl _ V) rfl) ?_
    first | (simp only [schFr, Act.put, List.setIfInBounds_toArray, List.set_cons_zero, List.set_cons_succ, h1, h3, h4]; done) | (simp only [schFr, Act.put, List.setIfInBounds_toArray, List.set_cons_zero, List.set_cons_succ, h1, h3, h4]; rfl)
  -- 1: slot 21 := Op.move t3
  refine And.intro ?_ ?_
  · clear HFIN hgl
    rw [← hf]; clear hf
    refine ⟨by decide +kernel, fun x v => by kernel_rfl, fun x V hV hdep K hK => ?_⟩
    clear hdep
    refine run_bare (by kernel_rfl) ?_
    unfold schFr
    go_simp
    refine kfit (hK _ _ (Below.refl _ V) rfl) ?_
    first | (simp only [schFr, Act.put, List.setIfInBounds_toArray, List.set_cons_zero, List.set_cons_succ, h1, h3, h4]; done) | (simp only [schFr, Act.put, List.setIfInBounds_toArray, List.set_cons_zero, List.set_cons_succ, h1, h3, h4]; rfl)
  -- 2: slot 22 := Op.move t3
  refine And.intro ?_ ?_
  · clear HFIN hgl
    rw [← hf]; clear hf
    refine ⟨by decide +kernel, fun x v => by kernel_rfl, fun x V hV hdep K hK => ?_⟩
    clear hdep
    refine run_bare (by kernel_rfl) ?_
    unfold schFr
    go_simp
    refine kfit (hK _ _ (Below.refl _ V) rfl) ?_
    first | (simp only [schFr, Act.put, List.setIfInBounds_toArray, List.set_cons_zero, List.set_cons_succ, h1, h3, h4]; done) | (simp only [schFr, Act.put, List.setIfInBounds_toArray, List.set_cons_zero, List.set_cons_succ, h1, h3, h4]; rfl)
  -- 3: slot 23 := Op.call { builtin len, args := #[t22], argTypes := #[64] }
  refine And.intro ?_ ?_
  · clear HFIN hgl
    rw [← hf]; clear hf
    refine ⟨by decide +kernel, fun x v => by kernel_rfl, fun x V hV hdep K hK => ?_⟩
    have e2 : x 2 = .slice ba bs.length bc := depOf hdep 2 (by decide +kernel)
    clear hdep
    refine run_bare (by kernel_rfl) ?_
    unfold schFr
    go_simp
    refine kfit (hK _ _ (Below.refl _ V) rfl) ?_
    first | (simp only [schFr, Act.put, List.setIfInBounds_toArray, List.set_cons_zero, List.set_cons_succ, h1, h3, h4, e2]; done) | (simp only [schFr, Act.put, List.setIfInBounds_toArray, List.set_cons_zero, List.set_cons_succ, h1, h3, h4, e2]; rfl)
  -- 4: slot 24 := Op.move t4
  refine And.intro ?_ ?_
  · clear HFIN hgl
    rw [← hf]; clear hf
    refine ⟨by decide +kernel, fun x v => by kernel_rfl, fun x V hV hdep K hK => ?_⟩
    clear hdep
    refine run_bare (by kernel_rfl) ?_
    unfold schFr
    go_simp
    refine kfit (hK _ _ (Below.refl _ V) rfl) ?_
    first | (simp only [schFr, Act.put, List.setIfInBounds_toArray, List.set_cons_zero, List.set_cons_succ, h1, h3, h4]; done) | (simp only [schFr, Act.put, List.setIfInBounds_toArray, List.set_cons_zero, List.set_cons_succ, h1, h3, h4]; rfl)
  -- 5: slot 25 := Op.call { value (Operand.func 65), args := #[t23, t24], argT
  refine And.intro ?_ ?_
  · clear HFIN hgl
    rw [← hf]; clear hf
    refine ⟨by decide +kernel, fun x v => by kernel_rfl, fun x V hV hdep K hK => ?_⟩
    have e3 : x 3 = .int .i64 (bs.length : Int) := depOf hdep 3 (by decide +kernel)
    have e4 : x 4 = .slice oa os.length oc := depOf hdep 4 (by decide +kernel)
    clear hdep
    refine run_bare (by kernel_rfl) ?_
    unfold schFr
    obtain ⟨HC5, HC6⟩ := HC.out
    clear HC6
    have H := HC5 V hV
    replace H := Lib.hid H; clear HC5
    go_simp
    go_at_call 65
    refine H.out.mono ?_
    rintro e Y ⟨⟨zn, za, zc, rfl, hq⟩, hb⟩; refine kfit (hK _ _ hb ⟨zn, za, zc, rfl, hq⟩) ?_
    first | (simp only [schFr, Act.put, List.setIfInBounds_toArray, List.set_cons_zero, List.set_cons_succ, h1, h3, h4, e3, e4]; done) | (simp only [schFr, Act.put, List.setIfInBounds_toArray, List.set_cons_zero, List.set_cons_succ, h1, h3, h4, e3, e4]; rfl)
  -- 6: slot 26 := Op.call { value (Operand.func 61), args := #[t20, t21, t25],
  refine And.intro ?_ ?_
  · clear HFIN hgl
    rw [← hf]; clear hf
    refine ⟨by decide +kernel, fun x v => by kernel_rfl, fun x V hV hdep K hK => ?_⟩
    have e0 : x 0 = .agg #[.slice xa xn xc, .slice ca 0 cc, .int .i64 t.kind, .string t.name, .slice ta t.kids.length tc] := depOf hdep 0 (by decide +kernel)
    have e1 : x 1 = .slice ba bs.length bc := depOf hdep 1 (by decide +kernel)
    obtain ⟨zn5, za5, zc5, e5, d5⟩ : ∃ (zn5 : List ByteArray) (za5 : Option Addr) (zc5 : Nat), x 5 = .slice za5 zn5.length zc5 ∧ (TextsAt V (.slice za5 zn5.length zc5) zn5 ∧ NewN bs.length os zn5) := depOf hdep 5 (by decide +kernel)
    clear hdep
    refine run_bare (by kernel_rfl) ?_
    unfold schFr
    obtain ⟨HC5, HC6⟩ := HC.out
    clear HC5
    have H := HC6 V hV _ _ _ d5
    replace H := Lib.hid H; clear HC6
    go_simp
    go_at_call 61
    refine H.out.mono ?_
    rintro e Y ⟨⟨zn, za, zc, zp, zq, zt, zu, rfl, hq⟩, hb⟩; refine kfit (hK _ _ hb ⟨zn, za, zc, zp, zq, zt, zu, rfl, hq⟩) ?_
    first | (simp only [schFr, Act.put, List.setIfInBounds_toArray, List.set_cons_zero, List.set_cons_succ, h1, h3, h4, e0, e1, e5]; done) | (simp only [schFr, Act.put, List.setIfInBounds_toArray, List.set_cons_zero, List.set_cons_succ, h1, h3, h4, e0, e1, e5]; rfl)
  -- 7: slot none := Op.store 66 t1 t26
  · clear HC
    rw [← hgl]; clear hgl
    refine ⟨by decide +kernel, fun x V hV hall K hK => ?_⟩
    obtain ⟨zn, za, zc, zp, zq, zt, zu, e6, d6⟩ : ∃ (zn : List ByteArray) (za : Option Addr) (zc : Nat) (zp : Option Addr) (zq : Nat) (zt : Option Addr) (zu : Nat), x 6 = .agg #[.slice za zn.length zc, .slice zp 0 zq, .int .i64 (app (prs bs zn) t).kind, .string (app (prs bs zn) t).name, .slice zt (app (prs bs zn) t).kids.length zu] ∧ ((TextsAt V (.slice za zn.length zc) zn ∧ NewN bs.length os zn) ∧ TysAt V (.slice zt (app (prs bs zn) t).kids.length zu) (app (prs bs zn) t).kids) := hall 6 (by decide)
    clear hall
    refine run_bare (by kernel_rfl) ?_
    unfold schFr
    obtain ⟨v0, v1, v2, v3, v4⟩ := cells5 hV.1.1
    have f0 := Lib.frozen_of_heap hV.1.1 0; have f1 := Lib.frozen_of_heap hV.1.1 1; have f2 := Lib.frozen_of_heap hV.1.1 2; have f3 := Lib.frozen_of_heap hV.1.1 3; have f4 := Lib.frozen_of_heap hV.1.1 4
    have H := Lib.hid (HFIN.out x V zn za zc zp zq zt zu hV d6)
    clear HFIN hV d6
    go_simp
    refine kfit (hK undef _ H.out) ?_
    first | (simp only [schFr, Act.put, List.setIfInBounds_toArray, List.set_cons_zero, List.set_cons_succ, h1, h3, h4, e6]; done) | (simp only [schFr, Act.put, List.setIfInBounds_toArray, List.set_cons_zero, List.set_cons_succ, h1, h3, h4, e6]; rfl)
theorem sch_here {w : World} {b1 b2 : Nat} {xa ca ta ba oa : Option Addr} {xn xc cc tc bc oc : Nat} {bs os : List ByteArray} {t : T}
    (HC5 : ∀ V, SN w b1 b2 xa xn xc ca cc t ta tc ba bc oa oc bs os V → Calls Tryd.prog 65 #[.int .i64 (bs.length : Int), .slice oa os.length oc] V fun e Y => (∃ (zn : List ByteArray) (za : Option Addr) (zc : Nat), e = .returned (.slice za zn.length zc) ∧ (TextsAt Y (.slice za zn.length zc) zn ∧ NewN bs.length os zn)) ∧ Below V.heap.size V Y)
    (HC6 : ∀ V, SN w b1 b2 xa xn xc ca cc t ta tc ba bc oa oc bs os V → ∀ (zn5 : List ByteArray), ∀ za5, ∀ zc5, (TextsAt V (.slice za5 zn5.length zc5) zn5 ∧ NewN bs.length os zn5) → Calls Tryd.prog 61 #[.agg #[.slice xa xn xc, .slice ca 0 cc, .int .i64 t.kind, .string t.name, .slice ta t.kids.length tc], .slice ba bs.length bc, .slice za5 zn5.length zc5] V fun e Y => (∃ (zn : List ByteArray) (za : Option Addr) (zc : Nat) (zp : Option Addr) (zq : Nat) (zt : Option Addr) (zu : Nat), e = .returned (.agg #[.slice za zn.length zc, .slice zp 0 zq, .int .i64 (app (prs bs zn) t).kind, .string (app (prs bs zn) t).name, .slice zt (app (prs bs zn) t).kids.length zu]) ∧ ((TextsAt Y (.slice za zn.length zc) zn ∧ NewN bs.length os zn) ∧ TysAt Y (.slice zt (app (prs bs zn) t).kids.length zu) (app (prs bs zn) t).kids)) ∧ Below V.heap.size V Y)
    {Q : Exit → Act → World → Prop} {ops : Array Oper} {a : Act} (X : World) (hops : ops = schOps)
    (h1 : a.tmps.getD 1 undef = .pointer (some ⟨b1, 0, none⟩)) (h3 : a.tmps.getD 3 undef = .slice ba bs.length bc) (h4 : a.tmps.getD 4 undef = .slice oa os.length oc)
    (ha : a = schFr (fun j => a.tmps.getD j undef) a.defers (fun i => a.tmps.getD (20 + i) undef)) (hS : SN w b1 b2 xa xn xc ca cc t ta tc ba bc oa oc bs os X.drew)
    (hfin : ∀ (x : Nat → Value) V (zn : List ByteArray) za zc zp zq zt zu, SN w b1 b2 xa xn xc ca cc t ta tc ba bc oa oc bs os V → ((TextsAt V (.slice za zn.length zc) zn ∧ NewN bs.length os zn) ∧ TysAt V (.slice zt (app (prs bs zn) t).kids.length zu) (app (prs bs zn) t).kids) → Q .normal (schFr (fun j => a.tmps.getD j undef) a.defers x) (set5 V b1 (.slice za zn.length zc) (.slice zp 0 zq) (.int .i64 (app (prs bs zn) t).kind) (.string (app (prs bs zn) t).name) (.slice zt (app (prs bs zn) t).kids.length zu))) : (Code.region 3 ops true).wp Tryd.prog Q a X :=
  cast (congrArg (fun z => (Code.region 3 ops true).wp Tryd.prog Q z X) ha.symm) (sch_region (b := fun j => a.tmps.getD j undef) (d := a.defers) h1 h3 h4 HC5 HC6 hops _ X hS hfin)
end Go.Proofs.YtdcfemojkdoakaaDoor
/- scheme.Canon of a scheme without a context. -/
namespace Go.Proofs.YtdcfemojkdoakaaDoor
open Go.RowKit Go.Sort Go.Lib
attribute [local go_sem] Oper.semAt_some

theorem SchB.set1 {b : Nat} {xv cv cv' : Value} {t : T} {ta : Option Addr} {tc : Nat} {V : World} (h : SchB b xv cv t ta tc V) : SchB b xv cv' t ta tc (V.setCell ⟨b, 1, none⟩ cv') :=
  ⟨blk_set (o := 1) h.1 cv', h.2.keep fun k cs fz hk => (Below.heap_setCell _ ⟨b, 1, none⟩ _ k (fun e => by
    have e' : k = b := e
    subst e'; rw [h.1] at hk; simp at hk)).trans hk⟩
theorem texts_set {b : Nat} {xv cv v : Value} {t : T} {ta : Option Addr} {tc o : Nat} {V : World} {u : Value} {l : List ByteArray} (h : SchB b xv cv t ta tc V) (hu : TextsAt V u l) : TextsAt (V.setCell ⟨b, o, none⟩ v) u l :=
  hu.keep fun k cs fz hk => (Below.heap_setCell _ ⟨b, o, none⟩ _ k (fun e => by
    have e' : k = b := e
    subst e'; rw [h.1] at hk; simp at hk)).trans hk
/-- A scheme in its block, and a block that is to hold one. -/
def SD (w : World) (b1 b2 : Nat) (xv cv : Value) (u : T) (zt : Option Addr) (zu : Nat) (ls : List ByteArray) (V : World) : Prop := SchB b1 xv cv u zt zu V ∧ Sch0 b2 V ∧ TextsAt V xv ls ∧ Below w.heap.size w V
theorem SD.below {w : World} {b1 b2 : Nat} {xv cv : Value} {u : T} {zt : Option Addr} {zu : Nat} {ls : List ByteArray} {V Y : World} (h : SD w b1 b2 xv cv u zt zu ls V) (hb : Below V.heap.size V Y) : SD w b1 b2 xv cv u zt zu ls Y := ⟨h.1.below hb, h.2.1.below hb, h.2.2.1.below hb, h.2.2.2.trans (hb.mono h.2.2.2.size)⟩
theorem SD.of5 {w W : World} {b1 b2 : Nat} {xv0 cv0 xv cv : Value} {t u : T} {ta zt : Option Addr} {tc zu : Nat} {ls : List ByteArray} (h1 : SchB b1 xv0 cv0 t ta tc W) (h2 : Sch0 b2 W) (h3 : TextsAt W xv ls) (h4 : TysAt W (.slice zt u.kids.length zu) u.kids) (hb : Below w.heap.size w W) (h12 : b2 ≠ b1) (hB : w.heap.size ≤ b1) : SD w b1 b2 xv cv u zt zu ls (set5 W b1 xv cv (.int .i64 u.kind) (.string u.name) (.slice zt u.kids.length zu)) :=
  ⟨⟨set5_block h1.1 _ _ _ _ _, h4.keep fun k cs fz hk => (set5_other _ _ _ _ _ _ _ (fun e => by subst e; rw [h1.1] at hk; simp at hk)).trans hk⟩, (set5_other _ _ _ _ _ _ _ h12).trans h2, h3.keep fun k cs fz hk => (set5_other _ _ _ _ _ _ _ (fun e => by subst e; rw [h1.1] at hk; simp at hk)).trans hk, below_set5 hb hB _ _ _ _ _⟩
theorem SD.set1 {w W : World} {b1 b2 : Nat} {xv cv cv' : Value} {u : T} {zt : Option Addr} {zu : Nat} {ls : List ByteArray} (h : SD w b1 b2 xv cv u zt zu ls W) (h12 : b2 ≠ b1) (hB : w.heap.size ≤ b1) : SD w b1 b2 xv cv' u zt zu ls (W.setCell ⟨b1, 1, none⟩ cv') :=
  ⟨h.1.set1, (Below.heap_setCell _ ⟨b1, 1, none⟩ _ _ h12).trans h.2.1, texts_set h.1 h.2.2.1, h.2.2.2.setCell (p := ⟨b1, 1, none⟩) hB _⟩
theorem SD.copy {w W : World} {b1 b2 : Nat} {xv cv : Value} {u : T} {zt : Option Addr} {zu : Nat} {ls : List ByteArray} (h : SD w b1 b2 xv cv u zt zu ls W) (hB : w.heap.size ≤ b2) : TextsAt (set5 W b2 xv cv (.int .i64 u.kind) (.string u.name) (.slice zt u.kids.length zu)) xv ls ∧ TysAt (set5 W b2 xv cv (.int .i64 u.kind) (.string u.name) (.slice zt u.kids.length zu)) (.slice zt u.kids.length zu) u.kids ∧ Below w.heap.size w (set5 W b2 xv cv (.int .i64 u.kind) (.string u.name) (.slice zt u.kids.length zu)) :=
  ⟨h.2.2.1.keep fun k cs fz hk => (set5_other _ _ _ _ _ _ _ (fun e => by subst e; rw [h.2.1] at hk; simp at hk)).trans hk, h.1.2.keep fun k cs fz hk => (set5_other _ _ _ _ _ _ _ (fun e => by subst e; rw [h.2.1] at hk; simp at hk)).trans hk, below_set5 h.2.2.2 hB _ _ _ _ _⟩
set_option maxRecDepth 100000 in
set_option maxHeartbeats 4000000 in
theorem canon_any (t : T) (xs : List ByteArray) (hn : Nm t) (hs : tsize t ≤ 90000000) (hv : ∀ n ∈ fvs [] [] [t], n.size ≤ 1000000) (hvl : (fvs [] [] [t]).length ≤ 7) (hxs : ∀ n ∈ xs, n.size ≤ 1000000) (hxl : xs.length ≤ 1000000) (hbo : ((fvs [] [] [t]).filter (inB xs)).length + ((fvs [] [] [t]).filter fun n => !inB xs n).length ≤ 7) (xa ca ta : Option Addr) (xc cc tc : Nat) (w : World) (ht : TysAt w (.slice ta t.kids.length tc) t.kids) (hx : TextsAt w (.slice xa xs.length xc) xs) :
    Calls Tryd.prog 33 #[.agg #[.slice xa xs.length xc, .slice ca 0 cc, .int .i64 t.kind, .string t.name, .slice ta t.kids.length tc]] w fun e w' =>
      (∃ (zn : List ByteArray) (za : Option Addr) (zc : Nat) (zp : Option Addr) (zq : Nat) (zt : Option Addr) (zu : Nat), e = .returned (.agg #[.slice za zn.length zc, .slice zp 0 zq, .int .i64 (app (prs ((fvs [] [] [t]).filter (inB xs)) zn) t).kind, .string (app (prs ((fvs [] [] [t]).filter (inB xs)) zn) t).name, .slice zt (app (prs ((fvs [] [] [t]).filter (inB xs)) zn) t).kids.length zu]) ∧ TextsAt w' (.slice za zn.length zc) zn ∧ TysAt w' (.slice zt (app (prs ((fvs [] [] [t]).filter (inB xs)) zn) t).kids.length zu) (app (prs ((fvs [] [] [t]).filter (inB xs)) zn) t).kids ∧ NewN ((fvs [] [] [t]).filter (inB xs)).length ((fvs [] [] [t]).filter fun n => !inB xs n) zn) ∧ Below w.heap.size w w' := by
  have hb0 := below_two w (.cells #[.slice xa xs.length xc, .slice ca 0 cc, .int .i64 t.kind, .string t.name, .slice ta t.kids.length tc] 66) (.cells #[.slice none 0 0, .slice none 0 0, .int .i64 0, .string ⟨#[]⟩, .slice none 0 0] 66)
  have hB0 := (SchB.new (xv := .slice xa xs.length xc) (cv := .slice ca 0 cc) ht).below ((Below.refl _ _).alloc (Nat.le_refl _) (.cells #[.slice none 0 0, .slice none 0 0, .int .i64 0, .string ⟨#[]⟩, .slice none 0 0] 66))
  have hZ0 := new_two w (.cells #[.slice xa xs.length xc, .slice ca 0 cc, .int .i64 t.kind, .string t.name, .slice ta t.kids.length tc] 66) (.cells #[.slice none 0 0, .slice none 0 0, .int .i64 0, .string ⟨#[]⟩, .slice none 0 0] 66)
  have H0 := Lib.hid (And.intro hB0 (And.intro (show Sch0 (w.heap.size + 1) _ from hZ0) (And.intro (hx.below hb0) hb0)))
  have hcell := (cells5 hB0.1).2.1
  have HNm := Lib.hid hn
  have HV := Lib.hid hv; have HXS := Lib.hid hxs
  have hz0 : w.heap.size < w.heap.size + 1 := by omega
  clear hb0 hB0 hZ0 ht hx hn hv hxs
  go_enter Tryd.func33, Tryd.ntmps33
  go_wp2_with (go_at_call 22; fail)
  refine (sortPreds0 _ _ _).mono ?_
  rintro e w1 ⟨⟨ra, rc, rfl⟩, hb1⟩
  have H1 := Lib.hid (And.intro (H0.out.1.below hb1) (And.intro (H0.out.2.1.below hb1) (And.intro (H0.out.2.2.1.below hb1) (H0.out.2.2.2.trans (hb1.mono H0.out.2.2.2.size)))))
  have hc1 := cells5 H1.out.1.1
  clear hb1 H0 hcell
  obtain ⟨v0, v1, v2, v3, v4⟩ := hc1
  have f1 := Lib.frozen_of_heap H1.out.1.1 1
  go_wp2_with (fail)
  have hW2 : w.heap.size ≤ w.heap.size := Nat.le_refl _
  have H2 := Lib.hid (And.intro (H1.out.1.set1 (cv' := .slice ra 0 rc)) (And.intro (show Sch0 (w.heap.size + 1) (w1.setCell ⟨w.heap.size, 1, none⟩ (.slice ra 0 rc)) from (Below.heap_setCell _ ⟨w.heap.size, 1, none⟩ _ _ (show w.heap.size + 1 ≠ w.heap.size by omega)).trans H1.out.2.1) (And.intro (texts_set (o := 1) (v := .slice ra 0 rc) H1.out.1 H1.out.2.2.1) (H1.out.2.2.2.setCell (p := ⟨w.heap.size, 1, none⟩) (Nat.le_refl _) (.slice ra 0 rc)))))
  clear H1 v0 v1 v2 v3 v4 f1 hW2
  generalize w1.setCell ⟨w.heap.size, 1, none⟩ (.slice ra 0 rc) = W2 at *
  refine scn_here (w := W2) (b1 := w.heap.size) (xa := xa) (ca := ra) (ta := ta) (xc := xc) (cc := rc) (tc := tc) (xs := xs) (t := t)
    (fun V h => (vars1_any t HNm.out hs _ _ _ _ V h.1.2).mono fun e Y hq => by
      obtain ⟨⟨v, rfl, hv⟩, hb⟩ := hq
      obtain ⟨a', c', rfl⟩ := hv.shape
      exact ⟨⟨a', c', rfl, hv⟩, hb⟩)
    (fun V h _ _ k => (split_any _ _ (by omega) hxl HV.out HXS.out _ _ _ _ V k h.2.1).mono fun e Y hq => by
      obtain ⟨⟨vi, vo, rfl, hvi, hvo⟩, hb⟩ := hq
      obtain ⟨ia, ic, rfl⟩ := hvi.shape
      obtain ⟨oa, oc, rfl⟩ := hvo.shape
      exact ⟨⟨ia, ic, oa, oc, rfl, hvi, hvo⟩, hb⟩)
    _ (by kernel_rfl) (by kernel_rfl) (by kernel_rfl) ⟨H2.out.1.below (below_d _), H2.out.2.2.1.below (below_d _), below_d _⟩ ?_
  intro x V zi zp zo zq hV e11 e12 k1 k2
  have HSz : Hid ((∀ n ∈ (fvs [] [] [t]).filter (inB xs), n.size ≤ 1000000) ∧ ∀ n ∈ (fvs [] [] [t]).filter (fun n => !inB xs n), n.size ≤ 1000000) := Lib.hid ⟨fun n h => HV.out n (List.mem_filter.1 h).1, fun n h => HV.out n (List.mem_filter.1 h).1⟩
  obtain ⟨bs, hbs⟩ : ∃ l, ((fvs [] [] [t]).filter (inB xs)) = l := ⟨_, rfl⟩
  obtain ⟨os, hos⟩ : ∃ l, ((fvs [] [] [t]).filter fun n => !inB xs n) = l := ⟨_, rfl⟩
  rw [hbs] at e11 k1 hbo HSz
  rw [hos] at e12 k2 hbo HSz
  have HB := Lib.hid hbs; have HO := Lib.hid hos
  have H3 := Lib.hid (show SN w w.heap.size (w.heap.size + 1) xa xs.length xc ra rc t ta tc zi zp zo zq bs os V from ⟨hV.1, H2.out.2.1.below hV.2.2, ⟨k1, k2⟩, H2.out.2.2.2.trans (hV.2.2.mono H2.out.2.2.2.size)⟩)
  clear hbs hos k1 k2 hV H2 HV HXS HNm
  simp only [scnFr, e11, e12]
  simp only [Array.getD_eq_getD_getElem?, List.getElem?_toArray, List.getElem?_cons_succ, List.getElem?_cons_zero, Option.getD_some]
  go_wp2_with (fail)
  refine sch_here (w := w) (b1 := w.heap.size) (b2 := w.heap.size + 1) (xa := xa) (xn := xs.length) (xc := xc) (ca := ra) (cc := rc) (t := t) (ta := ta) (tc := tc) (ba := zi) (bc := zp) (oa := zo) (oc := zq) (bs := bs) (os := os)
    (fun V h => (newNames_any bs.length os hbo HSz.out.2 _ _ V h.2.2.1.2).mono fun e Y hq => by
      obtain ⟨⟨v, zn, rfl, hv, hn⟩, hb⟩ := hq
      obtain ⟨a', c', rfl⟩ := hv.shape
      exact ⟨⟨zn, a', c', rfl, hv, hn⟩, hb⟩)
    (fun V h zn5 za5 zc5 k => (sren_any t bs zn5 k.2.1.symm (by omega) (by omega) _ _ _ _ _ _ _ _ _ V h.1.2 h.2.2.1.1.strs k.1.strs).mono fun e Y hq => by
      obtain ⟨⟨pa, pc, za, zc, rfl, hT⟩, hb⟩ := hq
      exact ⟨⟨zn5, za5, zc5, pa, pc, za, zc, rfl, ⟨k.1.below hb, k.2⟩, hT⟩, hb⟩)
    _ (by kernel_rfl) (by kernel_rfl) (by kernel_rfl) (by kernel_rfl) (by kernel_rfl) (H3.out.below (below_d _)) ?_
  intro y W zn za zc zp zq zt zu hW hT
  have H4 := Lib.hid (SD.of5 (cv := .slice zp 0 zq) hW.1 hW.2.1 hT.1.1 hT.2 hW.2.2.2 (show w.heap.size + 1 ≠ w.heap.size by omega) (Nat.le_refl _))
  have HNew := Lib.hid hT.1.2
  generalize set5 W w.heap.size (.slice za zn.length zc) (.slice zp 0 zq) (.int .i64 (app (prs bs zn) t).kind) (.string (app (prs bs zn) t).name) (.slice zt (app (prs bs zn) t).kids.length zu) = W4 at *
  clear hW hT H3 HSz
  obtain ⟨u, hu⟩ : ∃ u, app (prs bs zn) t = u := ⟨_, rfl⟩
  have HU := Lib.hid hu
  rw [hu] at H4
  clear hu
  obtain ⟨v0, v1, v2, v3, v4⟩ := cells5 H4.out.1.1
  simp only [schFr]
  simp only [Array.getD_eq_getD_getElem?, List.getElem?_toArray, List.getElem?_cons_succ, List.getElem?_cons_zero, Option.getD_some]
  go_wp2_with (go_at_call 22; fail)
  refine (sortPreds0 _ _ _).mono ?_
  rintro e w5 ⟨⟨sa, sc, rfl⟩, hb5⟩
  have H5 := Lib.hid (H4.out.below hb5)
  have f1 := Lib.frozen_of_heap H5.out.1.1 1
  have H6 := Lib.hid (H5.out.set1 (cv' := .slice sa 0 sc) (show w.heap.size + 1 ≠ w.heap.size by omega) (Nat.le_refl _))
  clear v0 v1 v2 v3 v4
  obtain ⟨v0, v1, v2, v3, v4⟩ := cells5 H5.out.1.1
  obtain ⟨u0, u1, u2, u3, u4⟩ := cells5 H6.out.1.1
  obtain ⟨t0, t1, t2, t3, t4⟩ := cells5 H6.out.2.1
  have g0 := Lib.frozen_of_heap H6.out.2.1 0; have g1 := Lib.frozen_of_heap H6.out.2.1 1; have g2 := Lib.frozen_of_heap H6.out.2.1 2; have g3 := Lib.frozen_of_heap H6.out.2.1 3; have g4 := Lib.frozen_of_heap H6.out.2.1 4
  have HL := Lib.hid (cells5 (set5_block H6.out.2.1 (.slice za zn.length zc) (.slice sa 0 sc) (.int .i64 u.kind) (.string u.name) (.slice zt u.kids.length zu)))
  have HE := Lib.hid (H6.out.copy (show w.heap.size ≤ w.heap.size + 1 by omega))
  clear hb5 H4 H5 H6
  go_wp2_with (fail)
  have hb := HB.out; have ho := HO.out; have hu := HU.out
  subst hu; subst hb; subst ho
  have hc := HL.out
  unfold set5 at hc
  refine bodyPost_ret (v := .agg #[.slice za zn.length zc, .slice sa 0 sc, .int .i64 (app (prs ((fvs [] [] [t]).filter (inB xs)) zn) t).kind, .string (app (prs ((fvs [] [] [t]).filter (inB xs)) zn) t).name, .slice zt (app (prs ((fvs [] [] [t]).filter (inB xs)) zn) t).kids.length zu]) (by simp [results, Tryd.results33, go_sem, hc.1, hc.2.1, hc.2.2.1, hc.2.2.2.1, hc.2.2.2.2]) rfl ⟨⟨zn, za, zc, sa, sc, zt, zu, rfl, HE.out.1, HE.out.2.1, HNew.out⟩, HE.out.2.2⟩
end Go.Proofs.YtdcfemojkdoakaaDoor
/- Two types as one, as plain data: what the chapter's way finds, that it ends, that it is the most general. -/
namespace Go.Proofs.YtdcfemojkdoakaaDoor

theorem T.kidsInd {P : T → Prop} (H : ∀ t, (∀ k ∈ t.kids, P k) → P t) : ∀ t, P t := by
  have key : ∀ n, ∀ t : T, SizeOf.sizeOf t ≤ n → P t := by
    intro n
    induction n with
    | zero => intro t ht; exact H t fun k hk => by have := T.kid_size hk; omega
    | succ n ih => intro t ht; exact H t fun k hk => ih k (by have := T.kid_size hk; omega)
  exact fun t => key _ t (Nat.le_refl _)
/-- Types for variables. -/
abbrev Sg := ByteArray → T
mutual
def sub (σ : Sg) : T → T
  | .var n => σ n
  | .con n l => .con n (subs σ l)
  | .fn a b => .fn (sub σ a) (sub σ b)
  | .all n a => .all n (sub σ a)
def subs (σ : Sg) : List T → List T
  | [] => []
  | a :: l => sub σ a :: subs σ l
end
theorem subs_map (σ : Sg) : ∀ l, subs σ l = l.map (sub σ)
  | [] => rfl
  | a :: l => by rw [subs, subs_map σ l]; rfl
def T.isV : T → Bool
  | .var _ => true
  | _ => false
theorem isV_var {t : T} (h : t.isV = true) : t = .var t.name := by cases t <;> simp_all [T.isV, T.name]
theorem sub_parts (σ : Sg) (t : T) (h : t.isV = false) : (sub σ t).kind = t.kind ∧ (sub σ t).name = t.name ∧ (sub σ t).kids = t.kids.map (sub σ) ∧ (sub σ t).isV = false := by
  cases t with
  | var n => simp [T.isV] at h
  | con n l => rw [sub, subs_map]; exact ⟨rfl, rfl, rfl, rfl⟩
  | fn a b => rw [sub]; exact ⟨rfl, rfl, rfl, rfl⟩
  | all n a => rw [sub]; exact ⟨rfl, rfl, rfl, rfl⟩
/-- Two that are no variables are the same by their heads and their parts. -/
theorem sub_congr {σ τ : Sg} {t : T} (h : t.isV = false) (hk : ∀ k ∈ t.kids, sub σ k = sub τ k) : sub σ t = sub τ t := by
  obtain ⟨a1, a2, a3, _⟩ := sub_parts σ t h
  obtain ⟨b1, b2, b3, _⟩ := sub_parts τ t h
  refine T.ext3 (a1.trans b1.symm) (a2.trans b2.symm) ?_
  rw [a3, b3]
  exact List.map_congr_left hk
mutual
/-- The variables that stand in a type. -/
def vs : T → List ByteArray
  | .var n => [n]
  | .con _ l => vss l
  | .fn a b => vs a ++ vs b
  | .all _ a => vs a
def vss : List T → List ByteArray
  | [] => []
  | a :: l => vs a ++ vss l
end
theorem vss_mem {x : ByteArray} : ∀ {l : List T}, x ∈ vss l ↔ ∃ k ∈ l, x ∈ vs k
  | [] => by simp [vss]
  | a :: l => by rw [vss, List.mem_append, vss_mem (l := l)]; simp
theorem vs_kids {x : ByteArray} {t : T} (h : t.isV = false) : x ∈ vs t ↔ ∃ k ∈ t.kids, x ∈ vs k := by
  cases t with
  | var n => simp [T.isV] at h
  | con n l => rw [vs, vss_mem]; rfl
  | fn a b => simp [vs, T.kids]
  | all n a => simp [vs, T.kids]
theorem sub_ext {σ τ : Sg} : ∀ t, (∀ x ∈ vs t, σ x = τ x) → sub σ t = sub τ t := by
  refine T.kidsInd fun t ih h => ?_
  by_cases hv : t.isV = true
  · rw [isV_var hv]; exact h _ (by rw [isV_var hv]; simp [vs, T.name])
  · have hv' : t.isV = false := by simpa using hv
    exact sub_congr hv' fun k hk => ih k hk fun x hx => h x ((vs_kids hv').2 ⟨k, hk, hx⟩)
theorem sub_var : ∀ t, sub T.var t = t := by
  refine T.kidsInd fun t ih => ?_
  by_cases hv : t.isV = true
  · rw [isV_var hv]; rfl
  · obtain ⟨a1, a2, a3, _⟩ := sub_parts T.var t (by simpa using hv)
    refine T.ext3 a1 a2 ?_
    rw [a3]
    conv => rhs; rw [← List.map_id t.kids]
    exact List.map_congr_left fun k hk => ih k hk
theorem sub_id {σ : Sg} {t : T} (h : ∀ x ∈ vs t, σ x = .var x) : sub σ t = t := (sub_ext t h).trans (sub_var t)
theorem sub_sub (τ σ : Sg) : ∀ t, sub τ (sub σ t) = sub (fun n => sub τ (σ n)) t := by
  refine T.kidsInd fun t ih => ?_
  by_cases hv : t.isV = true
  · rw [isV_var hv]; rfl
  · have hv' : t.isV = false := by simpa using hv
    obtain ⟨a1, a2, a3, a4⟩ := sub_parts σ t hv'
    obtain ⟨b1, b2, b3, _⟩ := sub_parts τ (sub σ t) a4
    obtain ⟨c1, c2, c3, _⟩ := sub_parts (fun n => sub τ (σ n)) t hv'
    refine T.ext3 (b1.trans (a1.trans c1.symm)) (b2.trans (a2.trans c2.symm)) ?_
    rw [b3, a3, c3, List.map_map]
    exact List.map_congr_left fun k hk => ih k hk
theorem vs_sub {σ : Sg} {x : ByteArray} : ∀ t, x ∈ vs (sub σ t) ↔ ∃ y ∈ vs t, x ∈ vs (σ y) := by
  refine T.kidsInd fun t ih => ?_
  by_cases hv : t.isV = true
  · rw [isV_var hv]; simp [sub, vs]
  · have hv' : t.isV = false := by simpa using hv
    obtain ⟨_, _, a3, a4⟩ := sub_parts σ t hv'
    rw [vs_kids a4, a3]
    constructor
    · rintro ⟨k, hk, hx⟩
      obtain ⟨k0, hk0, rfl⟩ := List.mem_map.1 hk
      obtain ⟨y, hy, h⟩ := (ih k0 hk0).1 hx
      exact ⟨y, (vs_kids hv').2 ⟨k0, hk0, hy⟩, h⟩
    · rintro ⟨y, hy, h⟩
      obtain ⟨k0, hk0, hy⟩ := (vs_kids hv').1 hy
      exact ⟨_, List.mem_map.2 ⟨k0, hk0, rfl⟩, (ih k0 hk0).2 ⟨y, hy, h⟩⟩
theorem tsizes_mem {k : T} : ∀ {l : List T}, k ∈ l → tsize k ≤ tsizes l
  | [], h => by cases h
  | a :: l, h => by
    rw [tsizes]
    rcases List.mem_cons.1 h with rfl | h
    · omega
    · have := tsizes_mem h; omega
theorem tsize_pos (t : T) : 1 ≤ tsize t := by rw [tsize_eq]; omega
theorem tsize_kid {t k : T} (h : k ∈ t.kids) : tsize k < tsize t := by rw [tsize_eq t]; have := tsizes_mem h; omega
theorem size_sub {σ : Sg} {x : ByteArray} : ∀ t, x ∈ vs t → tsize (σ x) ≤ tsize (sub σ t) := by
  refine T.kidsInd fun t ih h => ?_
  by_cases hv : t.isV = true
  · rw [isV_var hv] at h ⊢
    simp [vs, T.name] at h
    subst h; exact Nat.le_refl _
  · have hv' : t.isV = false := by simpa using hv
    obtain ⟨k, hk, hx⟩ := (vs_kids hv').1 h
    obtain ⟨_, _, a3, _⟩ := sub_parts σ t hv'
    have := ih k hk hx
    have h2 : tsize (sub σ k) < tsize (sub σ t) := tsize_kid (by rw [a3]; exact List.mem_map.2 ⟨k, hk, rfl⟩)
    omega
/-- A variable within a type that is none: the type is greater. -/
theorem size_sub_lt {σ : Sg} {x : ByteArray} {t : T} (hv : t.isV = false) (h : x ∈ vs t) : tsize (σ x) < tsize (sub σ t) := by
  obtain ⟨k, hk, hx⟩ := (vs_kids hv).1 h
  obtain ⟨_, _, a3, _⟩ := sub_parts σ t hv
  have h1 := size_sub (σ := σ) k hx
  have h2 : tsize (sub σ k) < tsize (sub σ t) := tsize_kid (by rw [a3]; exact List.mem_map.2 ⟨k, hk, rfl⟩)
  omega

/-- What comes of two types: the variables' types, or why there are none (true: the variable stands in the type). -/
inductive UR where
  | ok (σ : Sg)
  | bad (e : Bool)
open Classical in
noncomputable def one (x : ByteArray) (u : T) : Sg := fun n => if n = x then u else .var n
open Classical in
noncomputable def bindU (σ : Sg) (x : ByteArray) (u : T) : UR := if x ∈ vs u then .bad true else .ok (fun n => sub (one x u) (σ n))
noncomputable def uniL (u : Sg → T → T → Option UR) : Sg → List T → List T → Option UR
  | σ, a :: l, b :: m => match u σ a b with
    | some (.ok τ) => uniL u τ l m
    | r => r
  | σ, _, _ => some (.ok σ)
open Classical in
noncomputable def stepU (u : Sg → T → T → Option UR) (σ : Sg) (a b : T) : Option UR :=
  if a.isV = true ∧ b.isV = true ∧ a.name = b.name then some (.ok σ)
  else if a.isV = true then some (bindU σ a.name b)
  else if b.isV = true then some (bindU σ b.name a)
  else if a.kind = b.kind ∧ a.name = b.name ∧ a.kids.length = b.kids.length then uniL u σ a.kids b.kids
  else some (.bad false)
noncomputable def uni : Nat → Sg → T → T → Option UR
  | 0, _, _, _ => none
  | f + 1, σ, a, b => stepU (uni f) σ (sub σ a) (sub σ b)

theorem one_at (x : ByteArray) (u : T) : one x u x = u := by simp [one]
theorem one_ne {x y : ByteArray} (u : T) (h : y ≠ x) : one x u y = .var y := by simp [one, h]
/-- What is found is at its end: no variable that has a type stands in any of the types. -/
def Idem (σ : Sg) : Prop := ∀ x, ∀ y ∈ vs (σ x), σ y = .var y
theorem idem_var : Idem T.var := fun _ _ _ => rfl
theorem Idem.on {σ : Sg} (h : Idem σ) {t : T} {y : ByteArray} (hy : y ∈ vs (sub σ t)) : σ y = .var y := by
  obtain ⟨x, _, hx⟩ := (vs_sub t).1 hy
  exact h x y hx
theorem Idem.twice {σ : Sg} (h : Idem σ) (t : T) : sub σ (sub σ t) = sub σ t := sub_id fun _ hx => h.on hx
/-- More was found. -/
def ExtU (σ τ : Sg) : Prop := ∃ δ : Sg, ∀ x, τ x = sub δ (σ x)
theorem ExtU.refl (σ : Sg) : ExtU σ σ := ⟨T.var, fun _ => (sub_var _).symm⟩
theorem ExtU.trans {σ τ ρ : Sg} (h : ExtU σ τ) (k : ExtU τ ρ) : ExtU σ ρ := by
  obtain ⟨d, h⟩ := h; obtain ⟨e, k⟩ := k
  exact ⟨fun n => sub e (d n), fun x => by rw [k x, h x, sub_sub]⟩
theorem ExtU.sub {σ τ : Sg} (h : ExtU σ τ) (hi : Idem σ) (t : T) : sub τ (Go.Proofs.YtdcfemojkdoakaaDoor.sub σ t) = Go.Proofs.YtdcfemojkdoakaaDoor.sub τ t := by
  obtain ⟨d, h⟩ := h
  have e : ∀ t, Go.Proofs.YtdcfemojkdoakaaDoor.sub τ t = Go.Proofs.YtdcfemojkdoakaaDoor.sub d (Go.Proofs.YtdcfemojkdoakaaDoor.sub σ t) := fun t => by rw [sub_sub]; exact sub_ext t fun x _ => h x
  rw [e, hi.twice, ← e]

/-- A variable that has no type yet gets one. -/
structure Binds (σ : Sg) (x : ByteArray) (u : T) (τ : Sg) : Prop where
  free : σ x = .var x
  out : x ∉ vs u
  fix : sub σ u = u
  new : τ = fun n => sub (one x u) (σ n)
theorem one_out {x : ByteArray} {u t : T} (h : x ∉ vs t) : sub (one x u) t = t := sub_id fun _ hy => one_ne u fun e => h (e ▸ hy)
theorem Binds.idem {σ τ : Sg} {x : ByteArray} {u : T} (h : Binds σ x u τ) (hi : Idem σ) : Idem τ := by
  intro z y hy
  rw [h.new] at hy ⊢
  obtain ⟨w, hw, hy⟩ := (vs_sub _).1 hy
  have key : σ y = .var y ∧ y ≠ x := by
    by_cases e : w = x
    · subst e
      rw [one_at] at hy
      refine ⟨?_, fun e => h.out (e ▸ hy)⟩
      have h9 : y ∈ vs (sub σ u) := by rw [h.fix]; exact hy
      exact hi.on h9
    · rw [one_ne u e] at hy
      simp [vs] at hy
      subst hy
      exact ⟨hi z y hw, e⟩
  show sub (one x u) (σ y) = .var y
  rw [key.1]
  exact one_ne u key.2
theorem Binds.ext {σ τ : Sg} {x : ByteArray} {u : T} (h : Binds σ x u τ) : ExtU σ τ := ⟨one x u, fun n => by rw [h.new]⟩
theorem Binds.sub {σ τ : Sg} {x : ByteArray} {u : T} (h : Binds σ x u τ) (t : T) : sub τ t = Go.Proofs.YtdcfemojkdoakaaDoor.sub (one x u) (Go.Proofs.YtdcfemojkdoakaaDoor.sub σ t) := by rw [sub_sub, h.new]
theorem Binds.same {σ τ : Sg} {x : ByteArray} {u a b : T} (h : Binds σ x u τ) (ha : Go.Proofs.YtdcfemojkdoakaaDoor.sub σ a = .var x) (hb : Go.Proofs.YtdcfemojkdoakaaDoor.sub σ b = u) : Go.Proofs.YtdcfemojkdoakaaDoor.sub τ a = Go.Proofs.YtdcfemojkdoakaaDoor.sub τ b := by
  rw [h.sub, h.sub, ha, hb, one_out h.out]
  exact one_at x u
/-- What one step comes to. -/
inductive StepU (u : Sg → T → T → Option UR) (σ : Sg) (a b : T) : Option UR → Prop where
  | same (x : ByteArray) : sub σ a = .var x → sub σ b = .var x → StepU u σ a b (some (.ok σ))
  | left (x : ByteArray) (τ : Sg) : sub σ a = .var x → Binds σ x (sub σ b) τ → StepU u σ a b (some (.ok τ))
  | leftIn (x : ByteArray) : sub σ a = .var x → x ∈ vs (sub σ b) → (sub σ b).isV = false → StepU u σ a b (some (.bad true))
  | right (x : ByteArray) (τ : Sg) : (sub σ a).isV = false → sub σ b = .var x → Binds σ x (sub σ a) τ → StepU u σ a b (some (.ok τ))
  | rightIn (x : ByteArray) : (sub σ a).isV = false → sub σ b = .var x → x ∈ vs (sub σ a) → StepU u σ a b (some (.bad true))
  | parts : (sub σ a).isV = false → (sub σ b).isV = false → (sub σ a).kind = (sub σ b).kind → (sub σ a).name = (sub σ b).name → (sub σ a).kids.length = (sub σ b).kids.length → StepU u σ a b (uniL u σ (sub σ a).kids (sub σ b).kids)
  | bad : (sub σ a).isV = false → (sub σ b).isV = false → ¬ ((sub σ a).kind = (sub σ b).kind ∧ (sub σ a).name = (sub σ b).name ∧ (sub σ a).kids.length = (sub σ b).kids.length) → StepU u σ a b (some (.bad false))
theorem stepU_is (u : Sg → T → T → Option UR) (σ : Sg) (a b : T) (hi : Idem σ) : StepU u σ a b (stepU u σ (sub σ a) (sub σ b)) := by
  unfold stepU
  by_cases ha : (sub σ a).isV = true
  · have ea := isV_var ha
    have hx : σ (sub σ a).name = .var (sub σ a).name := hi.on (t := a) (by rw [ea]; simp [vs, T.name])
    by_cases hs : (sub σ b).isV = true ∧ (sub σ a).name = (sub σ b).name
    · rw [if_pos ⟨ha, hs.1, hs.2⟩]
      exact .same _ ea ((isV_var hs.1).trans (by rw [hs.2]))
    · rw [if_neg (fun h => hs ⟨h.2.1, h.2.2⟩), if_pos ha]
      unfold bindU
      by_cases ho : (sub σ a).name ∈ vs (sub σ b)
      · rw [if_pos ho]
        refine .leftIn _ ea ho ?_
        cases hb : (sub σ b).isV with
        | false => rfl
        | true =>
          rw [isV_var hb] at ho
          simp [vs] at ho
          exact absurd ⟨hb, ho⟩ hs
      · rw [if_neg ho]
        exact .left _ _ ea ⟨hx, ho, hi.twice b, rfl⟩
  · have ha' : (sub σ a).isV = false := by simpa using ha
    rw [if_neg (fun h => ha h.1), if_neg ha]
    by_cases hb : (sub σ b).isV = true
    · have eb := isV_var hb
      have hx : σ (sub σ b).name = .var (sub σ b).name := hi.on (t := b) (by rw [eb]; simp [vs, T.name])
      rw [if_pos hb]
      unfold bindU
      by_cases ho : (sub σ b).name ∈ vs (sub σ a)
      · rw [if_pos ho]; exact .rightIn _ ha' eb ho
      · rw [if_neg ho]; exact .right _ _ ha' eb ⟨hx, ho, hi.twice a, rfl⟩
    · have hb' : (sub σ b).isV = false := by simpa using hb
      rw [if_neg hb]
      by_cases hh : (sub σ a).kind = (sub σ b).kind ∧ (sub σ a).name = (sub σ b).name ∧ (sub σ a).kids.length = (sub σ b).kids.length
      · rw [if_pos hh]; exact .parts ha' hb' hh.1 hh.2.1 hh.2.2
      · rw [if_neg hh]; exact .bad ha' hb' hh
end Go.Proofs.YtdcfemojkdoakaaDoor
