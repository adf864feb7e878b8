/- Merged: MpB, MtS, MtT, MpF. -/
import Derived.Test.YthpphjkoiipkkaaVm8
import Derived.Test.YthpphjkoiipkkaaVm2
/- The program's become. -/
namespace Go.Proofs.Ythpphjkoiipkkaa
open Go.RowKit Go.Maps Go.Sort Go.Lib
attribute [local go_sem] Oper.semAt_some

theorem cmp_eqB (t u : T) : (cmpT t u == 0) = eqB t u := by
  rw [Bool.eq_iff_iff, beq_iff_eq, eqB_iff]; exact cmp_zero t u
/-- What become tells. -/
def BecR (B g mb : Nat) (d : List PR) (n : ByteArray) (t : T) (w : World) (e : Ending) (w' : World) : Prop :=
  (match lk n d with
    | some x => e = .returned (.bool (eqB x.t t)) ∧ MM B g mb d w'
    | none => e = .returned (.bool true) ∧ ∃ x : PR, x.n = n ∧ x.t = t ∧ MM B g mb (d ++ [x]) w') ∧ KeepM w w' ∧ Below B w w'
theorem MapV.same {M m : Nat} {f : ByteArray → Option Nat} {w w' : World} (h : MapV M m f w) (hk : w'.heap[M]? = w.heap[M]?) : MapV M m f w' := by
  obtain ⟨D, hD, ⟨es, clock, hh, r⟩, h2⟩ := h
  exact ⟨D, hD, ⟨es, clock, hk.trans hh, r⟩, h2⟩
/-- What become makes of the matcher. -/
theorem bec_end {B g mb : Nat} {d : List PR} {w W1 w6 V : World} {x : PR} {f : ByteArray → Option Nat} {pv : Value} {zg zc : Nat} (h : MM B g mb d w) (hb1 : Below w.heap.size w W1) (hB : B ≤ w.heap.size) (hl : lk x.n d = none) (hP : PlP d f) (hno : ∀ y ∈ d, y.n ≠ x.n) (hf : Fits x.t) (ht : TysAt w (.slice x.a x.t.kids.length x.c) x.t.kids)
    (hM6 : MapV mb (d.length + 1) (fun k => if k = x.n then some d.length else f k) w6) (hg6 : W1.drew.grownBy w6 (some mb)) (hgm : mb ≠ g) (ng : pv.ownBlock ≠ some mb) (ho : w6.ownsRow B 68 4 pv d.length (cellsP d)) (hbs : BcS B g pv w6 V)
    (htop : V.heap[g]? = some (.cells #[.slice (some ⟨zg, 0, none⟩) (d.length + 1) zc, .map (some mb)] 56 (0, 0))) (hown : V.ownsRow B 68 4 (.slice (some ⟨zg, 0, none⟩) (d.length + 1) zc) (d.length + 1) (cellsP d ++ encP x)) : BecR B g mb d x.n x.t w (.returned (.bool true)) V := by
  have hs : w.heap.size ≤ w6.heap.size := Nat.le_trans hb1.size hg6.size
  obtain ⟨f0, hM0, _⟩ := h.map
  obtain ⟨pv0, ht0, _⟩ := h.top
  have keep : KeepM w V := fun k cs T fz hk h1 h2 => by
    have hlt := (Array.getElem?_eq_some_iff.1 hk).1
    have k1 : w6.heap[k]? = some (.cells cs T fz) := (hg6.block k (Nat.lt_of_lt_of_le hlt hb1.size) (fun e => by injection e with e; exact hM0.ne hk e.symm)).trans ((hb1.block k hlt).trans hk)
    refine (hbs.2 k (by omega) (fun e => by subst e; rw [ht0] at hk; cases hk; exact h1 rfl) fun e => ?_).trans k1
    rcases ho.2 with ⟨e', _⟩ | ⟨q, cap, cur, e', _, hq, _⟩
    · rw [e'] at e; cases e
    · rw [e'] at e
      obtain rfl : q = k := by simpa [Value.ownBlock] using e
      rw [k1] at hq; cases hq; exact h2 rfl
  unfold BecR
  rw [hl]
  refine ⟨⟨rfl, x, rfl, rfl, h.lo, ⟨.slice (some ⟨zg, 0, none⟩) (d.length + 1) zc, htop, ?_, fun e => by simp at e⟩, ⟨_, ?_, plp_snoc hP x fun k => rfl⟩, fun y hy => ?_, ?_, fun y hy => ?_⟩, keep, ?_⟩
  · rw [List.length_append, List.length_singleton, cellsP_snoc]; exact hown
  · rw [List.length_append, List.length_singleton]
    exact hM6.same (hbs.2 mb hM6.lt hgm ng)
  · rcases List.mem_append.1 hy with hy | hy
    · exact (h.typ y hy).keep keep.tys
    · obtain rfl := List.mem_singleton.1 hy
      exact ht.keep keep.tys
  · rw [List.map_append, List.nodup_append]
    refine ⟨h.one, by simp, fun a ha b hb e => ?_⟩
    obtain ⟨y, hy, rfl⟩ := List.mem_map.1 ha
    obtain rfl : b = x.n := by simpa using hb
    exact hno y hy e
  · rcases List.mem_append.1 hy with hy | hy
    · exact h.fits y hy
    · obtain rfl := List.mem_singleton.1 hy
      exact hf
  · refine ⟨hbs.1.os.trans (hg6.os.trans hb1.os), hbs.1.tape.trans (hg6.tape.trans hb1.tape), hbs.1.output.trans (hg6.output.trans hb1.output), Nat.le_trans hs hbs.1.size, fun k hk => ?_⟩
    have := h.lo.2
    exact (hbs.1.block k hk).trans ((hg6.block k (show k < W1.heap.size from Nat.lt_of_lt_of_le (Nat.lt_of_lt_of_le hk hB) hb1.size) (fun e => by injection e with e; omega)).trans (hb1.block k (by omega)))
theorem MM.row {B g mb : Nat} {d : List PR} {w : World} (h : MM B g mb d w) {i : Nat} (hi : i < d.length) : ∃ q cap, w.heap[g]? = some (.cells #[.slice (some ⟨q, 0, none⟩) d.length cap, .map (some mb)] 56 (0, 0)) ∧ RowG 68 q d w := by
  obtain ⟨pv, h1, h2, h3⟩ := h.top
  rcases given_of_row h2 h3 with ⟨rfl, _⟩ | ⟨_, q, cap, rfl, hr⟩
  · cases hi
  · exact ⟨q, cap, h1, hr⟩
set_option maxRecDepth 100000 in
set_option maxHeartbeats 4000000 in
theorem become_any {B g mb : Nat} {d : List PR} {n : ByteArray} {t : T} {a : Option Addr} {c : Nat} {w : World} (h : MM B g mb d w) (hB : B ≤ w.heap.size) (hn : n.size ≤ 1000) (hd : d.length ≤ 1000000) (hf : Fits t) (ht : TysAt w (.slice a t.kids.length c) t.kids) :
    Calls Try.prog 29 #[mp g, .string n, .agg #[.int .i64 t.kind, .string t.name, .slice a t.kids.length c]] w fun e w' => BecR B g mb d n t w e w' := by
  have hb1 := below_a w (.cells #[.int .i64 t.kind, .string t.name, .slice a t.kids.length c] 26)
  have hx1 := alloc_new w (.cells #[.int .i64 t.kind, .string t.name, .slice a t.kids.length c] 26)
  have h1 := h.below hb1
  have ht1 := ht.keep (KeepT.of_below hb1)
  have hs1 : w.heap.size < (w.alloc (.cells #[.int .i64 t.kind, .string t.name, .slice a t.kids.length c] 26)).heap.size := (Array.getElem?_eq_some_iff.1 hx1).1
  obtain ⟨f, hM, hP⟩ := h1.map
  have hlk := hM.look n (by unfold maxLen; omega)
  obtain ⟨x0, x1, x2⟩ := three_cells hx1
  obtain ⟨kt, hkt⟩ : ∃ k, t.kind = k := ⟨_, rfl⟩
  cases hfn : f n with
  | some i =>
    rw [hfn] at hlk
    simp only [Option.getD_some, Option.isSome_some] at hlk
    obtain ⟨hi, hin⟩ := (hP n).1 i hfn
    have hl := (plp_lk hP h1.one n).1 i hfn
    obtain ⟨q, cap, hg, hr⟩ := h1.row hi
    have g0 := (Lib.cell_of_heap hg 0).trans rfl
    have g1 := (Lib.cell_of_heap hg 1).trans rfl
    have gl := (Array.getElem?_eq_some_iff.1 hg).1
    obtain ⟨r0, r1, r2, r3⟩ := hr.cells hi
    obtain ⟨x, hx⟩ : ∃ x, d.getD i noP = x := ⟨_, rfl⟩
    rw [hx] at r0 r1 r2 r3 hl
    have hxm : x ∈ d := by rw [← hx]; simp [List.getD, hi]
    have hbd := below_d (w.alloc (.cells #[.int .i64 t.kind, .string t.name, .slice a t.kids.length c] 26))
    have hS := same_any (t := x.t) (t' := t) (h1.fits x hxm) ((h1.typ x hxm).keep (KeepT.of_below hbd)) (ht1.keep (KeepT.of_below hbd))
    rw [cmp_eqB] at hS
    simp only [tyV] at hS
    have HS := Lib.hid hS
    have HFin : Hid (∀ w2, Below (w.alloc (.cells #[.int .i64 t.kind, .string t.name, .slice a t.kids.length c] 26)).drew.heap.size (w.alloc (.cells #[.int .i64 t.kind, .string t.name, .slice a t.kids.length c] 26)).drew w2 → BecR B g mb d n t w (.returned (.bool (eqB x.t t))) w2) := Lib.hid fun w2 hb2 => by
      have hb := hb1.trans ((hbd.trans hb2).mono (Nat.le_of_lt hs1))
      unfold BecR; rw [hl]
      exact ⟨⟨rfl, h.below hb⟩, KeepM.of_below hb, hb.mono hB⟩
    have hiz : (i : Int) < (d.length : Int) := by omega
    have hiz0 : (0 : Int) ≤ (i : Int) := by omega
    clear h h1 ht ht1 hb1 hx1 hM hP hfn hr hg hx hxm hl hf hS hbd hin
    obtain ⟨sm, hsm⟩ : ∃ b, eqB x.t t = b := ⟨_, rfl⟩
    rw [hsm] at HS HFin
    rw [hkt] at *
    clear hsm hkt
    go_enter Try.func29, Try.ntmps29
    go_wp2
    go_region_with (go_at_call 35; refine HS.out.mono ?_; rintro e w2 ⟨rfl, hb2⟩; have HB2 := Lib.hid hb2; clear hb2)
    all_goals
      go_wp2
      refine bodyPost_ret (v := .bool sm) (by simp [results, Try.results29, go_sem, Act.put]) rfl ?_
      exact HFin.out _ HB2.out
  | none =>
    rw [hfn] at hlk
    simp only [Option.getD_none, Option.isSome_none] at hlk
    have hl := (plp_lk hP h1.one n).2 hfn
    obtain ⟨pv, hg, ho, hnil⟩ := h1.top
    obtain ⟨pa, pc, rfl⟩ := row_val ho
    have g0 := (Lib.cell_of_heap hg 0).trans rfl
    have g1 := (Lib.cell_of_heap hg 1).trans rfl
    have gl := (Array.getElem?_eq_some_iff.1 hg).1
    have hbd := below_d (w.alloc (.cells #[.int .i64 t.kind, .string t.name, .slice a t.kids.length c] 26))
    have hMd := hM.kept (row := none) (grown_below hbd) (by simp)
    obtain ⟨w6, hup, hM6, hg6⟩ := hMd.upd (g := fun k => if k = n then some d.length else f k) (by unfold maxLen; omega) n (by unfold maxLen; omega) d.length (by omega) (fun k => rfl)
    have hgm : mb ≠ g := fun e => hM.ne hg e
    have ng : ¬ (some mb = (Value.slice pa d.length pc).ownBlock) := fun e => by
      have := (own_below ho hbd).2
      rcases this with ⟨e', _⟩ | ⟨q, cap, cur, e', _, hq, _⟩
      · rw [e'] at e; cases e
      · rw [e'] at e
        obtain rfl : mb = q := by simpa [Value.ownBlock] using e
        exact hMd.ne hq rfl
    have k6 : ∀ {k : Nat} {o : Obj}, (w.alloc (.cells #[.int .i64 t.kind, .string t.name, .slice a t.kids.length c] 26)).heap[k]? = some o → k ≠ mb → w6.heap[k]? = some o := fun hk hne => (hg6.block _ (Array.getElem?_eq_some_iff.1 hk).1 (fun e => hne (by injection e))).trans hk
    have hg' := k6 hg (Ne.symm hgm)
    have hx' := k6 hx1 (fun e => by subst e; exact hM.ne hx1 rfl)
    have ho' := (own_below ho hbd).kept hg6 (.inr (Ne.symm ng))
    have hlo := h.lo
    have hs6 : (w.alloc (.cells #[.int .i64 t.kind, .string t.name, .slice a t.kids.length c] 26)).heap.size ≤ w6.heap.size := hg6.size
    obtain ⟨c0, c1, c2⟩ := three_cells hx'
    have no5 : (Value.slice pa d.length pc).ownBlock ≠ some w.heap.size := fun e => by
      rcases ho'.2 with ⟨e', _⟩ | ⟨q, cap, cur, e', _, hq, _⟩
      · rw [e'] at e; cases e
      · rw [e'] at e
        obtain rfl : q = w.heap.size := by simpa [Value.ownBlock] using e
        rw [hx'] at hq; cases hq
    have ne5 : w.heap.size ≠ g := fun e => by rw [e] at hx'; rw [hg'] at hx'; cases hx'
    have HEnd : Hid (∀ V zg zc, BcS B g (.slice pa d.length pc) w6 V → V.heap[g]? = some (.cells #[.slice (some ⟨zg, 0, none⟩) (d.length + 1) zc, .map (some mb)] 56 (0, 0)) → V.ownsRow B 68 4 (.slice (some ⟨zg, 0, none⟩) (d.length + 1) zc) (d.length + 1) (cellsP d ++ encP ⟨n, t, a, c⟩) → BecR B g mb d n t w (.returned (.bool true)) V) := Lib.hid fun V zg zc b1 b2 b3 => bec_end (x := ⟨n, t, a, c⟩) h hb1 hB hl hP ((hP n).2 hfn) hf ht hM6 hg6 hgm (Ne.symm ng) ho' b1 b2 b3
    have HO := Lib.hid ho'; have HG := Lib.hid hg'
    clear h h1 ht ht1 hb1 hx1 hM hP hfn hg hl hf hbd hMd ho hg' hx' ho' hM6 hg6 k6 hnil hkt
    go_enter Try.func29, Try.ntmps29
    go_wp2
    go_region
    all_goals
      go_wp2
      refine bcm_here (w := w6) (bb := B) (g := g) (mb := mb) (b5 := w.heap.size) (pr := ⟨n, t, a, c⟩) (ds := d) (pv := .slice pa d.length pc) (by omega) ⟨hlo.1, by omega⟩ (by omega) ⟨by omega, ne5, no5⟩ HO.out HG.out c0 c1 c2 w6 (by kernel_rfl) (by kernel_rfl) (by kernel_rfl) (by kernel_rfl) (by kernel_rfl) ((BcS.refl _ _ _ _).below (below_d w6) (by omega)) (below_d w6) ?_
      intro xv V zg zc hbs htop hown
      have HR := Lib.hid (HEnd.out V zg zc hbs htop hown)
      clear hbs htop hown
      simp only [bcmFr]
      simp only [Array.getD_eq_getD_getElem?, List.getElem?_toArray, List.getElem?_cons_succ, List.getElem?_cons_zero, Option.getD_some]
      go_wp2
      refine bodyPost_ret (v := .bool true) (by simp [results, Try.results29, go_sem]) rfl ?_
      exact HR.out
end Go.Proofs.Ythpphjkoiipkkaa
/- the document's match: its last statement, a region of 11 operations that draws its order, by an invariant. (Made by a program.) -/
namespace Go.Proofs.Ythpphjkoiipkkaa
open Go.RowKit Go.Sort Go.Lib
attribute [local go_sem] Oper.semAt_some

noncomputable def mtcOps : Array Oper := regionIn 5 (Try.f23.body.getD .skip)
def mtcFr (b : Nat → Value) (d : List Deferred) (x : Nat → Value) : Act := { tmps := #[b 0, b 1, b 2, b 3, b 4, b 5, x 9, x 10, b 8, b 9, b 10, b 11, b 12, b 13, b 14, b 15, b 16, b 17, b 18, b 19, b 20, b 21, b 22, b 23, b 24, b 25, b 26, x 0, x 1, x 2, x 3, x 4, x 5, x 6, x 7, x 8, b 36, b 37, b 38, b 39, b 40, b 41, b 42, b 43, b 44, b 45, b 46, b 47, b 48, b 49, b 50, b 51, b 52, b 53, b 54, b 55, b 56, b 57, b 58, b 59, b 60, b 61, b 62, b 63, b 64, b 65, b 66, b 67, b 68, b 69, b 70, b 71, b 72, b 73, b 74, b 75, b 76, b 77, b 78, b 79, b 80, b 81, b 82, b 83], defers := d }

def mtcVals (b4 : Nat) (pr : PR) (ds : List PR) (sv : Value) (w : World) (i : Nat) (v : Value) (V : World) : Prop :=
  match i with
  | 0 => ∃ zg, v = .slice (some ⟨zg, 0, none⟩) 0 0 ∧ True
  | 1 => v = sv
  | 2 => ∃ zg zc, v = .slice (some ⟨zg, 0, none⟩) ds.length zc ∧ True
  | 3 => v = .pointer (some ⟨b4, 1, none⟩)
  | 4 => v = .string pr.n
  | 5 => v = .agg #[.int .i64 pr.t.kind, .string pr.t.name, .slice pr.a pr.t.kids.length pr.c]
  | 6 => v = .agg #[.string pr.n, .int .i64 pr.t.kind, .string pr.t.name, .slice pr.a pr.t.kids.length pr.c]
  | 7 => ∃ zg, v = .slice (some ⟨zg, 0, none⟩) 1 1 ∧ True
  | 8 => ∃ zg zc, v = .slice (some ⟨zg, 0, none⟩) (ds.length + 1) zc ∧ V.ownsRow w.heap.size 63 4 (.slice (some ⟨zg, 0, none⟩) (ds.length + 1) zc) (ds.length + 1) (cellsP ds ++ encP pr)
  | 9 => ∃ zg zc, v = .slice (some ⟨zg, 0, none⟩) (ds.length + 1) zc ∧ V.ownsRow w.heap.size 63 4 (.slice (some ⟨zg, 0, none⟩) (ds.length + 1) zc) (ds.length + 1) (cellsP ds ++ encP pr)
  | 10 => v = .bool true
  | _ => True

theorem mtcVals_keep {b4 : Nat} {pr : PR} {ds : List PR} {sv : Value} {w : World} (i : Nat) (v : Value) (V Y : World) (h : mtcVals b4 pr ds sv w i v V) (hb : Below V.heap.size V Y) : mtcVals b4 pr ds sv w i v Y := by
  unfold mtcVals at *
  split at h <;> first
    | exact h
    | (obtain ⟨zg, e, h⟩ := h; exact ⟨zg, e, h⟩)
    | (obtain ⟨zg, zc, e, h⟩ := h; exact ⟨zg, zc, e, h⟩)
    | (obtain ⟨zg, zc, e, h⟩ := h; exact ⟨zg, zc, e, own_below h hb⟩)

theorem mtcVals_any {b4 : Nat} {pr : PR} {ds : List PR} {sv : Value} {w : World} (i : Nat) (v : Value) (V Y : World) (h8 : i ≠ 8) (h9 : i ≠ 9) (h : mtcVals b4 pr ds sv w i v V) : mtcVals b4 pr ds sv w i v Y := by
  unfold mtcVals at *
  split at h <;> first
    | exact h
    | exact absurd rfl h8
    | exact absurd rfl h9

theorem mtc_size : mtcOps.size = 11 := by kernel_rfl
set_option linter.unusedSimpArgs false in
set_option maxRecDepth 100000 in
set_option maxHeartbeats 8000000 in
theorem mtc_region {w : World} {b4 b5 : Nat} {pr : PR} {ds : List PR} {sv : Value} (hg : GivenG 63 sv ds w) (hds : ds.length ≤ 1000000000) (hc4 : w.cell? ⟨b4, 1, none⟩ = some (.string pr.n)) (hc50 : w.cell? ⟨b5, 0, none⟩ = some (.int .i64 pr.t.kind)) (hc51 : w.cell? ⟨b5, 1, none⟩ = some (.string pr.t.name)) (hc52 : w.cell? ⟨b5, 2, none⟩ = some (.slice pr.a pr.t.kids.length pr.c)) {b : Nat → Value} {d : List Deferred}
    (h0 : b 0 = sv) (h4 : b 4 = .pointer (some ⟨b4, 0, none⟩)) (h5 : b 5 = .pointer (some ⟨b5, 0, none⟩))
    
    {Q : Exit → Act → World → Prop} {ops : Array Oper} (hops : ops = mtcOps) (x0 : Nat → Value) (X : World) (hS : Below w.heap.size w X.drew)
    (hfin : ∀ (x : Nat → Value) V zg zc, Below w.heap.size w V → x 9 = .slice (some ⟨zg, 0, none⟩) (ds.length + 1) zc → V.ownsRow w.heap.size 63 4 (.slice (some ⟨zg, 0, none⟩) (ds.length + 1) zc) (ds.length + 1) (cellsP ds ++ encP pr) → x 10 = .bool true → Q .normal (mtcFr b d x) V) : (Code.region 5 ops true).wp Try.prog Q (mtcFr b d x0) X := by
  refine region_mark (mtcFr b d) (fun V => Below w.heap.size w V) (fun V Y => Below V.heap.size V Y) (mtcVals b4 pr ds sv w) (MtK w.heap.size 63 ds pr) (fun i => i == 0 || i == 2 || i == 7 || i == 8 || i == 9) x0 (by kernel_rfl) rfl hS (MtK.start _ _ _ _ _ _) (fun V Y h hb => h.trans (hb.mono h.size)) (fun i v V Y _ h hb => mtcVals_keep  i v V Y h hb) (fun i L x v w w' hs hS hM hr => hM.keep hr hs v) ?_ (fun L x V hS hall _ => by obtain ⟨zg, zc, e9, h9⟩ : ∃ zg zc, x 9 = .slice (some ⟨zg, 0, none⟩) (ds.length + 1) zc ∧ V.ownsRow w.heap.size 63 4 (.slice (some ⟨zg, 0, none⟩) (ds.length + 1) zc) (ds.length + 1) (cellsP ds ++ encP pr) := (hall 9 (by rw [hops, mtc_size]; decide)).2; exact hfin x V zg zc hS e9 h9 (hall 10 (by rw [hops, mtc_size]; decide)).2)
  clear hfin hS
  obtain ⟨f, hf⟩ : ∃ qq, (fun i o => ((fun i => i == 0 || i == 2 || i == 7 || i == 8 || i == 9) i = false → StepAt Try.prog (mtcFr b d) (fun V => Below w.heap.size w V) (fun V Y => Below V.heap.size V Y) (mtcVals b4 pr ds sv w) ops Q i o) ∧ ((fun i => i == 0 || i == 2 || i == 7 || i == 8 || i == 9) i = true → MarkAt Try.prog (mtcFr b d) (fun V => Below w.heap.size w V) (mtcVals b4 pr ds sv w) (MtK w.heap.size 63 ds pr) ops Q i o)) = qq := ⟨_, rfl⟩
  rw [hf, hops]
  simp only [mtcOps, Try.f23, regionIn, Option.getD_some, Nat.reduceBEq, Bool.false_eq_true, if_false, if_true, beq_self_eq_true, Array.append_empty, Array.empty_append, List.append_eq, List.cons_append, List.nil_append, AllAt, Nat.reduceAdd, Nat.zero_add]
  -- 0: slot 27 := Op.buildSlice 38 0 #[]
  refine And.intro ?_ ?_
  · rw [← hf]; clear hf
    refine ⟨fun h => absurd h (by decide), fun _ => ⟨by decide +kernel, fun x v => by kernel_rfl, fun L x V hV hVs hMk hLi hdep K hK => ?_⟩⟩
    refine run_bare (by kernel_rfl) ?_
    have hz : w.heap.size ≤ V.heap.size := hV.size
    have H := Lib.hid (hMk.lit hLi hz)
    have HVs := Lib.hid hVs
    clear hVs hMk hdep
    unfold mtcFr at hK ⊢
    go_simp
    refine kfit (hK _ _ (hV.alloc hz _) (fun j hj => mtcVals_keep j _ V _ (HVs.out j hj) (below_a _ _)) ⟨_, rfl, trivial⟩ H.out) ?_
    first | (simp only [Act.put, List.setIfInBounds_toArray, List.set_cons_zero, List.set_cons_succ, h0, h4, h5]; done) | (simp only [Act.put, List.setIfInBounds_toArray, List.set_cons_zero, List.set_cons_succ, h0, h4, h5]; rfl)
  -- 1: slot 28 := Op.move t0
  refine And.intro ?_ ?_
  · rw [← hf]; clear hf
    refine ⟨fun _ => ⟨by decide +kernel, fun x v => by kernel_rfl, fun x V hV hdep K hK => ?_⟩, fun h => absurd h (by decide)⟩
    clear hdep
    refine run_bare (by kernel_rfl) ?_
    unfold mtcFr
    go_simp
    refine kfit (hK _ _ (Below.refl _ V) rfl) ?_
    first | (simp only [mtcFr, Act.put, List.setIfInBounds_toArray, List.set_cons_zero, List.set_cons_succ, h0, h4, h5]; done) | (simp only [mtcFr, Act.put, List.setIfInBounds_toArray, List.set_cons_zero, List.set_cons_succ, h0, h4, h5]; rfl)
  -- 2: slot 29 := Op.call { builtin append, args := #[t27, t28], argTypes := #
  refine And.intro ?_ ?_
  · rw [← hf]; clear hf
    refine ⟨fun h => absurd h (by decide), fun _ => ⟨by decide +kernel, fun x v => by kernel_rfl, fun L x V hV hVs hMk hLi hdep K hK => ?_⟩⟩
    have q0 := depL hdep 0 (by decide +kernel)
    obtain ⟨z0, e0, _⟩ : ∃ zg, x 0 = .slice (some ⟨zg, 0, none⟩) 0 0 ∧ True := hVs 0 q0
    have e1 : x 1 = sv := hVs 1 (depL hdep 1 (by decide +kernel))
    have ho := hMk.o0 q0 hLi
    have q8 := hMk.no8 (.inl hLi)
    obtain ⟨i0, hi, hz0, hz1, hz2⟩ := info_parts Try.infoRefPair
    clear hdep
    unfold mtcFr at hK ⊢
    rcases hg with ⟨rfl, rfl⟩ | ⟨hne, gs, gc, rfl, hrow⟩
    · refine step_append_none V (by kernel_rfl) (.tmp 27) (.tmp 28) 36 (by kernel_rfl) 63 i0 Try.underlying36 hi ⟨z0, 0, none⟩ 0 0 e0 (Nat.le_refl _) e1 ?_
      exact hK _ _ hV hVs ⟨z0, 0, rfl, trivial⟩ (hMk.app hLi q0 (by rw [e0] at ho; exact ho) (grown_refl _ _) (.inl (by rw [e0]; rfl)))
    · have hpos : 0 < ds.length := List.length_pos_iff.2 hne
      refine step_append_lies V (by kernel_rfl) (.tmp 27) (.tmp 28) 36 (by kernel_rfl) w.heap.size 63 i0 (.agg zeroP) 4 64 Try.underlying36 hi hz0 hz1 hz2 rfl (by decide) (x 0) 0 [] rfl ho ⟨gs, 0, none⟩ ds.length gc (cellsP ds) e1 (cellsP_len ds) (hrow.below hV).news (cellsP_one ds) hpos (by unfold maxLen; omega) (by omega) hV.size V.heap.size rfl ?_
      intro g9 c9 w9 hown9 hgr9 hat9 _
      rw [Nat.zero_add] at hown9 ⊢
      exact hK _ _ (hV.grown hgr9 hV.size fun j hj => (ho.lt j hj).1) (fun j hj => mtcVals_any j _ V _ (fun e => by subst e; exact nope q8 hj) (fun e => by subst e; exact nope (hMk.no9 q8) hj) (hVs j hj)) ⟨_, _, rfl, trivial⟩ (hMk.app hLi q0 hown9 hgr9 hat9)
  -- 3: slot 30 := Op.fieldAddr 29 t4 1
  refine And.intro ?_ ?_
  · rw [← hf]; clear hf
    refine ⟨fun _ => ⟨by decide +kernel, fun x v => by kernel_rfl, fun x V hV hdep K hK => ?_⟩, fun h => absurd h (by decide)⟩
    clear hdep
    refine run_bare (by kernel_rfl) ?_
    unfold mtcFr
    go_simp
    refine kfit (hK _ _ (Below.refl _ V) rfl) ?_
    first | (simp only [mtcFr, Act.put, List.setIfInBounds_toArray, List.set_cons_zero, List.set_cons_succ, h0, h4, h5]; done) | (simp only [mtcFr, Act.put, List.setIfInBounds_toArray, List.set_cons_zero, List.set_cons_succ, h0, h4, h5]; rfl)
  -- 4: slot 31 := Op.load 9 t30
  refine And.intro ?_ ?_
  · rw [← hf]; clear hf
    refine ⟨fun _ => ⟨by decide +kernel, fun x v => by kernel_rfl, fun x V hV hdep K hK => ?_⟩, fun h => absurd h (by decide)⟩
    have e3 : x 3 = .pointer (some ⟨b4, 1, none⟩) := depOf hdep 3 (by decide +kernel)
    clear hdep
    refine run_bare (by kernel_rfl) ?_
    unfold mtcFr
    have y0 := (hV.cell (p := ⟨b4, 1, none⟩) (World.block_lt_of_cell? _ _ hc4)).trans hc4; have y1 := (hV.cell (p := ⟨b5, 0, none⟩) (World.block_lt_of_cell? _ _ hc50)).trans hc50; have y2 := (hV.cell (p := ⟨b5, 1, none⟩) (World.block_lt_of_cell? _ _ hc51)).trans hc51; have y3 := (hV.cell (p := ⟨b5, 2, none⟩) (World.block_lt_of_cell? _ _ hc52)).trans hc52; clear hc4 hc50 hc51 hc52
    go_simp
    refine kfit (hK _ _ (Below.refl _ V) rfl) ?_
    first | (simp only [mtcFr, Act.put, List.setIfInBounds_toArray, List.set_cons_zero, List.set_cons_succ, h0, h4, h5, e3]; done) | (simp only [mtcFr, Act.put, List.setIfInBounds_toArray, List.set_cons_zero, List.set_cons_succ, h0, h4, h5, e3]; rfl)
  -- 5: slot 32 := Op.load 29 t5
  refine And.intro ?_ ?_
  · rw [← hf]; clear hf
    refine ⟨fun _ => ⟨by decide +kernel, fun x v => by kernel_rfl, fun x V hV hdep K hK => ?_⟩, fun h => absurd h (by decide)⟩
    clear hdep
    refine run_bare (by kernel_rfl) ?_
    unfold mtcFr
    have y0 := (hV.cell (p := ⟨b4, 1, none⟩) (World.block_lt_of_cell? _ _ hc4)).trans hc4; have y1 := (hV.cell (p := ⟨b5, 0, none⟩) (World.block_lt_of_cell? _ _ hc50)).trans hc50; have y2 := (hV.cell (p := ⟨b5, 1, none⟩) (World.block_lt_of_cell? _ _ hc51)).trans hc51; have y3 := (hV.cell (p := ⟨b5, 2, none⟩) (World.block_lt_of_cell? _ _ hc52)).trans hc52; clear hc4 hc50 hc51 hc52
    go_simp
    refine kfit (hK _ _ (Below.refl _ V) rfl) ?_
    first | (simp only [mtcFr, Act.put, List.setIfInBounds_toArray, List.set_cons_zero, List.set_cons_succ, h0, h4, h5]; done) | (simp only [mtcFr, Act.put, List.setIfInBounds_toArray, List.set_cons_zero, List.set_cons_succ, h0, h4, h5]; rfl)
  -- 6: slot 33 := Op.build 53 #[(0, t31), (1, t32)]
  refine And.intro ?_ ?_
  · rw [← hf]; clear hf
    refine ⟨fun _ => ⟨by decide +kernel, fun x v => by kernel_rfl, fun x V hV hdep K hK => ?_⟩, fun h => absurd h (by decide)⟩
    have e4 : x 4 = .string pr.n := depOf hdep 4 (by decide +kernel)
    have e5 : x 5 = .agg #[.int .i64 pr.t.kind, .string pr.t.name, .slice pr.a pr.t.kids.length pr.c] := depOf hdep 5 (by decide +kernel)
    clear hdep
    refine run_bare (by kernel_rfl) ?_
    unfold mtcFr
    go_simp
    refine kfit (hK _ _ (Below.refl _ V) rfl) ?_
    first | (simp only [mtcFr, Act.put, List.setIfInBounds_toArray, List.set_cons_zero, List.set_cons_succ, h0, h4, h5, e4, e5]; done) | (simp only [mtcFr, Act.put, List.setIfInBounds_toArray, List.set_cons_zero, List.set_cons_succ, h0, h4, h5, e4, e5]; rfl)
  -- 7: slot 34 := Op.buildSlice 38 1 #[(0, t33)]
  refine And.intro ?_ ?_
  · rw [← hf]; clear hf
    refine ⟨fun h => absurd h (by decide), fun _ => ⟨by decide +kernel, fun x v => by kernel_rfl, fun L x V hV hVs hMk hLi hdep K hK => ?_⟩⟩
    have e6 : x 6 = .agg #[.string pr.n, .int .i64 pr.t.kind, .string pr.t.name, .slice pr.a pr.t.kids.length pr.c] := hVs 6 (depL hdep 6 (by decide +kernel))
    refine run_bare (by kernel_rfl) ?_
    have hz : w.heap.size ≤ V.heap.size := hV.size
    have H := Lib.hid (hMk.one hLi)
    have HVs := Lib.hid hVs
    clear hVs hMk hdep
    unfold mtcFr at hK ⊢
    go_simp
    refine kfit (hK _ _ (hV.alloc hz _) (fun j hj => mtcVals_keep j _ V _ (HVs.out j hj) (below_a _ _)) ⟨_, rfl, trivial⟩ H.out) ?_
    first | (simp only [Act.put, List.setIfInBounds_toArray, List.set_cons_zero, List.set_cons_succ, h0, h4, h5, e6]; done) | (simp only [Act.put, List.setIfInBounds_toArray, List.set_cons_zero, List.set_cons_succ, h0, h4, h5, e6]; rfl)
  -- 8: slot 35 := Op.call { builtin append, args := #[t29, t34], argTypes := #
  refine And.intro ?_ ?_
  · rw [← hf]; clear hf
    refine ⟨fun h => absurd h (by decide), fun _ => ⟨by decide +kernel, fun x v => by kernel_rfl, fun L x V hV hVs hMk hLi hdep K hK => ?_⟩⟩
    have q2 := depL hdep 2 (by decide +kernel)
    have q7 := depL hdep 7 (by decide +kernel)
    have q8 := hLi
    have ho := hMk.o2 q2 hLi
    obtain ⟨zb, e7, hzb, _⟩ := hMk.r7 q7 hLi
    obtain ⟨i0, hi, hz0, hz1, hz2⟩ := info_parts Try.infoRefPair
    clear hdep
    unfold mtcFr at hK ⊢
    refine step_append_lies V (by kernel_rfl) (.tmp 29) (.tmp 34) 36 (by kernel_rfl) w.heap.size 63 i0 (.agg zeroP) 4 64 Try.underlying36 hi hz0 hz1 hz2 rfl (by decide) (x 2) ds.length (cellsP ds) rfl ho ⟨zb, 0, none⟩ 1 1 (encP pr) e7 rfl (World.news_of_block hzb) (encP_one pr) (by decide) (by unfold maxLen; omega) (by omega) hV.size V.heap.size rfl ?_
    intro g9 c9 w9 hown9 hgr9 hat9 _
    exact hK _ _ (hV.grown hgr9 hV.size fun j hj => (ho.lt j hj).1) (fun j hj => mtcVals_any j _ V _ (fun e => by subst e; exact nope q8 hj) (fun e => by subst e; exact nope (hMk.no9 q8) hj) (hVs j hj)) ⟨_, _, rfl, hown9⟩ (hMk.last q2 q7 hLi _ _)
  -- 9: slot 6 := Op.assign t35
  refine And.intro ?_ ?_
  · rw [← hf]; clear hf
    refine ⟨fun h => absurd h (by decide), fun _ => ⟨by decide +kernel, fun x v => by kernel_rfl, fun L x V hV hVs hMk hLi hdep K hK => ?_⟩⟩
    have q8 := depL hdep 8 (by decide +kernel)
    obtain ⟨z8, c8, e8, d8⟩ : ∃ zg zc, x 8 = .slice (some ⟨zg, 0, none⟩) (ds.length + 1) zc ∧ V.ownsRow w.heap.size 63 4 (.slice (some ⟨zg, 0, none⟩) (ds.length + 1) zc) (ds.length + 1) (cellsP ds ++ encP pr) := hVs 8 q8
    refine run_bare (by kernel_rfl) ?_
    have H := Lib.hid (hMk.asn q8)
    have HVs := Lib.hid hVs
    have HD := Lib.hid d8
    clear hVs hMk hdep d8
    unfold mtcFr at hK ⊢
    go_simp
    refine kfit (hK _ _ hV HVs.out ⟨z8, c8, rfl, HD.out⟩ (H.out _)) ?_
    first | (simp only [Act.put, List.setIfInBounds_toArray, List.set_cons_zero, List.set_cons_succ, h0, h4, h5, e8]; done) | (simp only [Act.put, List.setIfInBounds_toArray, List.set_cons_zero, List.set_cons_succ, h0, h4, h5, e8]; rfl)
  -- 10: slot 7 := Op.assign (const (Value.bool true))
  refine And.intro ?_ ?_
  · rw [← hf]; clear hf
    refine ⟨fun _ => ⟨by decide +kernel, fun x v => by kernel_rfl, fun x V hV hdep K hK => ?_⟩, fun h => absurd h (by decide)⟩
    clear hdep
    refine run_bare (by kernel_rfl) ?_
    unfold mtcFr
    go_simp
    refine kfit (hK _ _ (Below.refl _ V) rfl) ?_
    first | (simp only [mtcFr, Act.put, List.setIfInBounds_toArray, List.set_cons_zero, List.set_cons_succ, h0, h4, h5]; done) | (simp only [mtcFr, Act.put, List.setIfInBounds_toArray, List.set_cons_zero, List.set_cons_succ, h0, h4, h5]; rfl)
  exact trivial
theorem mtc_here {w : World} {b4 b5 : Nat} {pr : PR} {ds : List PR} {sv : Value} (hg : GivenG 63 sv ds w) (hds : ds.length ≤ 1000000000) (hc4 : w.cell? ⟨b4, 1, none⟩ = some (.string pr.n)) (hc50 : w.cell? ⟨b5, 0, none⟩ = some (.int .i64 pr.t.kind)) (hc51 : w.cell? ⟨b5, 1, none⟩ = some (.string pr.t.name)) (hc52 : w.cell? ⟨b5, 2, none⟩ = some (.slice pr.a pr.t.kids.length pr.c))
    
    {Q : Exit → Act → World → Prop} {ops : Array Oper} {a : Act} (X : World) (hops : ops = mtcOps)
    (h0 : a.tmps.getD 0 undef = sv) (h4 : a.tmps.getD 4 undef = .pointer (some ⟨b4, 0, none⟩)) (h5 : a.tmps.getD 5 undef = .pointer (some ⟨b5, 0, none⟩))
    (ha : a = mtcFr (fun j => a.tmps.getD j undef) a.defers (fun i => a.tmps.getD (if i = 9 then 6 else if i = 10 then 7 else 27 + i) undef)) (hS : Below w.heap.size w X.drew)
    (hfin : ∀ (x : Nat → Value) V zg zc, Below w.heap.size w V → x 9 = .slice (some ⟨zg, 0, none⟩) (ds.length + 1) zc → V.ownsRow w.heap.size 63 4 (.slice (some ⟨zg, 0, none⟩) (ds.length + 1) zc) (ds.length + 1) (cellsP ds ++ encP pr) → x 10 = .bool true → Q .normal (mtcFr (fun j => a.tmps.getD j undef) a.defers x) V) : (Code.region 5 ops true).wp Try.prog Q a X :=
  cast (congrArg (fun z => (Code.region 5 ops true).wp Try.prog Q z X) ha.symm) (mtc_region hg hds hc4 hc50 hc51 hc52 (b := fun j => a.tmps.getD j undef) (d := a.defers) h0 h4 h5  hops _ X hS hfin)
end Go.Proofs.Ythpphjkoiipkkaa
/- The document's match, of any two types. -/
namespace Go.Proofs.Ythpphjkoiipkkaa
open Go.RowKit Go.Sort Go.Lib
attribute [local go_sem] Oper.semAt_some

/-- What match hands back. -/
def MRes2 (N : Nat) (r : Option (List (ByteArray × T))) (E : Ending) (w' : World) : Prop :=
  match r with
  | none => ∃ v, E = .returned (.tuple #[v, .bool false])
  | some s' => ∃ v q, E = .returned (.tuple #[v, .bool true]) ∧ GivenG 63 v q w' ∧ Typ q w' ∧ q.map nt = s' ∧ (∀ x ∈ q, Fits x.t) ∧ q.length ≤ N
def MtOK (f : Nat) : Prop := ∀ (a b : T) (d : List PR) (sv : Value) (pa pb : Option Addr) (ca cb : Nat) (w : World), tsize a ≤ f → GivenG 63 sv d w → Typ d w → (∀ x ∈ d, Fits x.t) → Fits b → d.length + tsize a ≤ 1000000000 →
  TysAt w (.slice pa a.kids.length ca) a.kids → TysAt w (.slice pb b.kids.length cb) b.kids →
  Calls Try.prog 23 #[sv, .agg #[.int .i64 a.kind, .string a.name, .slice pa a.kids.length ca], .agg #[.int .i64 b.kind, .string b.name, .slice pb b.kids.length cb]] w fun E w' => MRes2 (d.length + tsize a) (mt f (d.map nt) a b) E w' ∧ Below w.heap.size w w'
/-- Where the loop over the parts stands. -/
def MpI (f N : Nat) (a b : T) (r : Option (List (ByteArray × T))) (i : Nat) (vs vb : Value) (X : World) : Prop :=
  (∃ q, vb = .bool true ∧ (mtL (mt f) (q.map nt) (a.kids.drop i) (b.kids.drop i) = r ∧ (∀ x ∈ q, Fits x.t) ∧ q.length + tsizes (a.kids.drop i) ≤ N) ∧ GivenG 63 vs q X ∧ Typ q X) ∨ (vb = .bool false ∧ r = none)
theorem mp_next {f N : Nat} {a b : T} {r : Option (List (ByteArray × T))} {i : Nat} {q : List PR} (h1 : i < a.kids.length) (h2 : i < b.kids.length) (hl : mtL (mt f) (q.map nt) (a.kids.drop i) (b.kids.drop i) = r) (hN : q.length + tsizes (a.kids.drop i) ≤ N)
    (E : Ending) (X : World) (hr : MRes2 (q.length + tsize a.kids[i]) (mt f (q.map nt) a.kids[i] b.kids[i]) E X) : ∃ vs vb, E = .returned (.tuple #[vs, vb]) ∧ MpI f N a b r (i + 1) vs vb X := by
  rw [List.drop_eq_getElem_cons h1, tsizes] at hN
  rw [List.drop_eq_getElem_cons h1, List.drop_eq_getElem_cons h2, mtL] at hl
  cases e : mt f (q.map nt) a.kids[i] b.kids[i] with
  | none =>
    rw [e] at hr hl
    obtain ⟨v, rfl⟩ := hr
    exact ⟨v, _, rfl, .inr ⟨rfl, hl.symm⟩⟩
  | some s' =>
    rw [e] at hr hl
    obtain ⟨v, q', rfl, g1, g2, g3, g4, g5⟩ := hr
    exact ⟨v, _, rfl, .inl ⟨q', rfl, ⟨by rw [g3]; exact hl, g4, by omega⟩, g1, g2⟩⟩
/-- Both boxes at the beginning. -/
structure MBox (w : World) (a b : T) (ka kb : Int) (pa pb : Option Addr) (ca cb : Nat) (X : World) : Prop where
  a4 : X.heap[w.heap.size]? = some (.cells #[.int .i64 ka, .string a.name, .slice pa a.kids.length ca] 26 (0, 0))
  b5 : X.heap[w.heap.size + 1]? = some (.cells #[.int .i64 kb, .string b.name, .slice pb b.kids.length cb] 26 (0, 0))
  at4 : TysAt X (.slice pa a.kids.length ca) a.kids
  at5 : TysAt X (.slice pb b.kids.length cb) b.kids
  low : Below w.heap.size w X
theorem MBox.below {w : World} {a b : T} {ka kb : Int} {pa pb : Option Addr} {ca cb : Nat} {X Y : World} (h : MBox w a b ka kb pa pb ca cb X) (hb : Below X.heap.size X Y) : MBox w a b ka kb pa pb ca cb Y :=
  ⟨(hb.block _ (Array.getElem?_eq_some_iff.1 h.a4).1).trans h.a4, (hb.block _ (Array.getElem?_eq_some_iff.1 h.b5).1).trans h.b5, h.at4.keep (KeepT.of_below hb), h.at5.keep (KeepT.of_below hb), h.low.trans (hb.mono h.low.size)⟩
theorem MBox.start {w : World} {a b : T} {pa pb : Option Addr} {ca cb : Nat} (ha : TysAt w (.slice pa a.kids.length ca) a.kids) (hb : TysAt w (.slice pb b.kids.length cb) b.kids) : MBox w a b a.kind b.kind pa pb ca cb ((w.alloc (.cells #[.int .i64 a.kind, .string a.name, .slice pa a.kids.length ca] 26)).alloc (.cells #[.int .i64 b.kind, .string b.name, .slice pb b.kids.length cb] 26)) :=
  have h := below_two w (.cells #[.int .i64 a.kind, .string a.name, .slice pa a.kids.length ca] 26) (.cells #[.int .i64 b.kind, .string b.name, .slice pb b.kids.length cb] 26)
  ⟨(Below.heap_alloc _ _ _ (by simp)).trans (alloc_new w _), new_two w _ _, ha.keep (KeepT.of_below h), hb.keep (KeepT.of_below h), h⟩

theorem mt_var {f : Nat} {d : List PR} {a b : T} (hv : a.kind = 1) : mt (f + 1) (d.map nt) a b = match (lk a.name d).map PR.t with | some t => if eqB t b = true then some (d.map nt) else none | none => some (d.map nt ++ [(a.name, b)]) := by
  rw [mt, if_pos hv, lkt_nt]; rfl
theorem mt_parts {f : Nat} {d : List PR} {a b : T} (hv : ¬ a.kind = 1) (h : a.kind = b.kind ∧ a.name = b.name ∧ a.kids.length = b.kids.length) : mt (f + 1) (d.map nt) a b = mtL (mt f) (d.map nt) a.kids b.kids := by
  rw [mt, if_neg hv, if_pos h]
theorem mt_bad {f : Nat} {d : List PR} {a b : T} (hv : ¬ a.kind = 1) (h : ¬ (a.kind = b.kind ∧ a.name = b.name ∧ a.kids.length = b.kids.length)) : mt (f + 1) (d.map nt) a b = none := by
  rw [mt, if_neg hv, if_neg h]
set_option maxRecDepth 100000 in
set_option maxHeartbeats 8000000 in
theorem match_step (f : Nat) (IH : MtOK f) : MtOK (f + 1) := by
  intro a b d sv pa pb ca cb w hf hd td hq hfb hN hta htb
  have hM0 := MBox.start (a := a) (b := b) hta htb
  have hpos := tsize_pos a
  obtain ⟨ka, hka⟩ : ∃ k, a.kind = k := ⟨_, rfl⟩
  obtain ⟨kb, hkb⟩ : ∃ k, b.kind = k := ⟨_, rfl⟩
  by_cases hv : a.kind = 1
  · have hr := mt_var (f := f) (d := d) (b := b) hv
    obtain rfl : ka = 1 := hka.symm.trans hv
    have hg := rget_any sv d a.name ((w.alloc (.cells #[.int .i64 a.kind, .string a.name, .slice pa a.kids.length ca] 26)).alloc (.cells #[.int .i64 b.kind, .string b.name, .slice pb b.kids.length cb] 26)) (hd.below hM0.low) (by omega)
    cases hl : lk a.name d with
    | some x =>
      have hx := lk_name hl
      rw [hl] at hr hg
      simp only [fv', Option.isSome_some] at hg
      simp only [Option.map_some] at hr
      have hmid : ∀ w2, Below ((w.alloc (.cells #[.int .i64 a.kind, .string a.name, .slice pa a.kids.length ca] 26)).alloc (.cells #[.int .i64 b.kind, .string b.name, .slice pb b.kids.length cb] 26)).heap.size ((w.alloc (.cells #[.int .i64 a.kind, .string a.name, .slice pa a.kids.length ca] 26)).alloc (.cells #[.int .i64 b.kind, .string b.name, .slice pb b.kids.length cb] 26)) w2 → ∀ o : Obj, MBox w a b a.kind b.kind pa pb ca cb (w2.alloc o) ∧ Calls Try.prog 11 #[.agg #[.int .i64 x.t.kind, .string x.t.name, .slice x.a x.t.kids.length x.c], .agg #[.int .i64 b.kind, .string b.name, .slice pb b.kids.length cb]] (w2.alloc o) fun e w' => e = .returned (.bool (eqB x.t b)) ∧ Below (w2.alloc o).heap.size (w2.alloc o) w' := fun w2 hb o => by
        have h1 := (hM0.below hb).below (below_a w2 o)
        exact ⟨h1, sameType_any (hq x hx.1) ((td x hx.1).keep (KeepT.of_below h1.low)) h1.at5⟩
      have HG := Lib.hid hg; have HMid := Lib.hid hmid; have HD := Lib.hid hd; have HTd := Lib.hid td; have HR := Lib.hid hr; have HQ := Lib.hid hq
      rw [hka]
      rw [hka] at HG HMid
      rw [hkb]
      rw [hkb] at HG HMid
      clear hg hmid hd td hq hr hM0 hl hx hta htb hv hka hkb IH hf hpos
      go_enter Try.func23, Try.ntmps23
      go_wp2_with (first
        | (go_at_call 27; refine HG.out.mono ?_; rintro E w2 ⟨rfl, hb2⟩; have HB2 := Lib.hid hb2; obtain ⟨hA, hB, _⟩ := boxes_after hb2; obtain ⟨m0, m1, m2⟩ := three_cells hB; have lB := (Array.getElem?_eq_some_iff.1 hB).1; clear hb2 hA hB HG)
        | (go_at_call 11; refine (HMid.out _ HB2.out _).2.mono ?_; rintro E w3 ⟨rfl, hb3⟩; have HB3 := Lib.hid hb3; clear hb3))
      refine bodyPost_ret (v := .tuple #[sv, .bool (eqB x.t b)]) (by simp [results, Try.results23, go_sem]) rfl ?_
      have hm := (HMid.out _ HB2.out (.cells #[.int .i64 x.t.kind, .string x.t.name, .slice x.a x.t.kids.length x.c] 26)).1.below HB3.out
      refine ⟨?_, hm.low⟩
      rw [HR.out]
      cases he : eqB x.t b with
      | false => exact ⟨sv, rfl⟩
      | true => exact ⟨sv, d, rfl, HD.out.below hm.low, HTd.out.keep (KeepT.of_below hm.low), rfl, HQ.out, by omega⟩
    | none =>
      rw [hl] at hr hg
      simp only [fv', Option.isSome_none] at hg
      simp only [Option.map_none] at hr
      have hmid : ∀ w2, Below ((w.alloc (.cells #[.int .i64 a.kind, .string a.name, .slice pa a.kids.length ca] 26)).alloc (.cells #[.int .i64 b.kind, .string b.name, .slice pb b.kids.length cb] 26)).heap.size ((w.alloc (.cells #[.int .i64 a.kind, .string a.name, .slice pa a.kids.length ca] 26)).alloc (.cells #[.int .i64 b.kind, .string b.name, .slice pb b.kids.length cb] 26)) w2 → ∀ o : Obj, MBox w a b a.kind b.kind pa pb ca cb (w2.alloc o) := fun w2 hb o => (hM0.below hb).below (below_a w2 o)
      have HG := Lib.hid hg; have HMid := Lib.hid hmid; have HD := Lib.hid hd; have HTd := Lib.hid td; have HR := Lib.hid hr; have HQ := Lib.hid hq; have HKb := Lib.hid hkb; have HTb := Lib.hid htb
      rw [hka]
      rw [hka] at HG HMid
      rw [hkb]
      rw [hkb] at HG HMid
      clear hg hmid hd td hq hr hM0 hl hta htb hv hka hkb IH hf
      go_enter Try.func23, Try.ntmps23
      go_wp2_with (go_at_call 27; refine HG.out.mono ?_; rintro E w2 ⟨rfl, hb2⟩; have HB2 := Lib.hid hb2; obtain ⟨hA, hB, _⟩ := boxes_after hb2; obtain ⟨m0, m1, m2⟩ := three_cells hB; have lB := (Array.getElem?_eq_some_iff.1 hB).1; clear hb2 hA hB HG)
      obtain ⟨X, hX⟩ : ∃ X, w2.alloc (.cells #[.int .i64 0, .string ⟨#[]⟩, .slice none 0 0] 26) = X := ⟨_, rfl⟩
      have hm : MBox w a b 1 kb pa pb ca cb X := by rw [← hX]; exact HMid.out _ HB2.out _
      rw [hX]
      clear hX HMid HB2 m0 m1 m2 lB
      obtain ⟨c40, c41, c42⟩ := three_cells hm.a4
      obtain ⟨c50, c51, c52⟩ := three_cells hm.b5
      rw [← HKb.out] at c50 ⊢
      refine mtc_here (w := X) (b4 := w.heap.size) (b5 := w.heap.size + 1) (pr := ⟨a.name, b, pb, cb⟩) (ds := d) (sv := sv) (HD.out.below hm.low) (by omega) c41 c50 c51 c52 X (by kernel_rfl) (by kernel_rfl) (by kernel_rfl) (by kernel_rfl) (by kernel_rfl) (below_d X) ?_
      intro xv V zg zc hbV hx9 hown hx10
      have HV := Lib.hid hbV; have HO := Lib.hid hown; have HM := Lib.hid hm
      clear hbV hown hm c40 c41 c42 c50 c51 c52
      simp only [mtcFr, hx9, hx10]
      simp only [Array.getD_eq_getD_getElem?, List.getElem?_toArray, List.getElem?_cons_succ, List.getElem?_cons_zero, Option.getD_some]
      go_wp2
      refine bodyPost_ret (v := .tuple #[.slice (some ⟨zg, 0, none⟩) (d.length + 1) zc, .bool true]) (by simp [results, Try.results23, go_sem]) rfl ?_
      have hE := match_end (x := ⟨a.name, b, pb, cb⟩) HO.out rfl rfl HV.out (HTd.out.keep (KeepT.of_below HM.out.low)) HM.out.at5
      refine ⟨?_, HM.out.low.trans (HV.out.mono HM.out.low.size)⟩
      rw [HR.out]
      refine ⟨_, d ++ [⟨a.name, b, pb, cb⟩], rfl, hE.1, hE.2, by rw [List.map_append]; rfl, fun y hy => ?_, by rw [List.length_append, List.length_singleton]; omega⟩
      rcases List.mem_append.1 hy with hy | hy
      · exact HQ.out y hy
      · obtain rfl := List.mem_singleton.1 hy
        exact hfb
  · by_cases hall : a.kind = b.kind ∧ a.name = b.name ∧ a.kids.length = b.kids.length
    · have hr := mt_parts (f := f) (d := d) hv hall
      obtain ⟨hkk, hnn, hll⟩ := hall
      rw [hka] at hkk hv
      obtain rfl : kb = ka := hkb.symm.trans hkk.symm
      have hnmB : (a.name.toList == b.name.toList) = true := by rw [hnn]; simp
      have hllI : ((a.kids.length : Int) = (b.kids.length : Int)) := by omega
      have hkB : (kb == 1) = false := by simpa using hv
      have hkl : a.kids.length ≤ 1000000000 := by have := len_sizes' a.kids; rw [tsize_eq] at hN; omega
      have hsz := tsize_eq a
      have HL0 := Lib.hid (show MpI f (d.length + tsize a) a b (mt (f + 1) (d.map nt) a b) 0 sv (.bool true) ((w.alloc (.cells #[.int .i64 a.kind, .string a.name, .slice pa a.kids.length ca] 26)).alloc (.cells #[.int .i64 b.kind, .string b.name, .slice pb b.kids.length cb] 26)) from .inl ⟨d, rfl, ⟨by rw [hr]; simp, hq, by simp; omega⟩, hd.below hM0.low, td.keep (KeepT.of_below hM0.low)⟩)
      have HM0 := Lib.hid hM0
      have hfk : ∀ (i : Nat) (h : i < b.kids.length), Fits b.kids[i] := fun i h => hfb.kid (List.getElem_mem h)
      have hsk : ∀ (i : Nat) (h : i < a.kids.length), tsize a.kids[i] ≤ f := fun i h => by have := tsize_kids_le (List.getElem_mem h); omega
      have HFk := Lib.hid hfk; have HSk := Lib.hid hsk; have HLl := Lib.hid hll; have HN := Lib.hid hN
      obtain ⟨r, hrr⟩ : ∃ r, mt (f + 1) (d.map nt) a b = r := ⟨_, rfl⟩
      rw [hrr] at HL0 ⊢
      rw [hka, hkb]
      rw [hka, hkb] at HL0 HM0
      clear hd td hq hr hta htb hll hN hfb hsz hkk hM0 hfk hsk hnn hrr hf hpos hv hka hkb
      go_enter Try.func23, Try.ntmps23
      go_wp2
      go_loopw [0, 10, 11] (fun vx vb vi wr => ∃ i : Nat, i ≤ a.kids.length ∧ vi = .int .i64 i ∧ Hid (MpI f (d.length + tsize a) a b r i vx vb wr) ∧ Hid (MBox w a b kb kb pa pb ca cb wr)) (fun _ _ vi _ => a.kids.length - (intOf vi).toNat)
      case atStart => exact ⟨0, Nat.zero_le _, rfl, HL0, HM0⟩
      case round =>
        obtain ⟨i, hi', rfl, hL, hU⟩ := hrel
        have hA := hU.out.a4
        have hB := hU.out.b5
        obtain ⟨a0, a1, a2⟩ := three_cells hA
        obtain ⟨b0, b1, b2⟩ := three_cells hB
        have lA := (Array.getElem?_eq_some_iff.1 hA).1
        have lB := (Array.getElem?_eq_some_iff.1 hB).1
        clear hA hB HL0 HM0
        rcases hL.out with ⟨q, rfl, ⟨h1, h2, h3⟩, h5, h6⟩ | ⟨rfl, hr⟩
        · by_cases hlt : i < a.kids.length
          · have hlt2 : i < b.kids.length := by have := HLl.out; omega
            have hiz : (i : Int) < (a.kids.length : Int) := by omega
            have hiz2 : (i : Int) < (b.kids.length : Int) := by omega
            obtain ⟨gu, pu, cu, rfl, hcu, hpu⟩ := hU.out.at4.part i hlt
            obtain ⟨gv, pv, cv, rfl, hcv, hpv⟩ := hU.out.at5.part i hlt2
            obtain ⟨⟨lu, x0, x1, x2⟩, xk⟩ := hpu wr (KeepT.refl wr)
            obtain ⟨⟨lv, y0, y1, y2⟩, yk⟩ := hpv wr (KeepT.refl wr)
            have hd0 : Below wr.heap.size wr wr.drew := (Below.refl _ wr).drew
            have hqk : q.length + tsize a.kids[i] ≤ 1000000000 := by
              have := HN.out
              have h3' := h3
              rw [List.drop_eq_getElem_cons hlt, tsizes] at h3'; omega
            have HC := Lib.hid (IH a.kids[i] b.kids[i] q u0 pu pv cu cv wr.drew (HSk.out i hlt) (h5.below hd0) (h6.keep (KeepT.of_below hd0)) h2 (HFk.out i hlt2) hqk (xk.keep (KeepT.of_below hd0)) (yk.keep (KeepT.of_below hd0)))
            have HNx := Lib.hid (fun E X h => mp_next (E := E) (X := X) hlt hlt2 h1 h3 h)
            have HD0 := Lib.hid hd0
            clear h1 h2 h3 h5 h6 hpu hpv xk yk hd0 hL hqk HFk HSk
            generalize a.kids[i] = ku1 at *
            generalize b.kids[i] = kv1 at *
            go_wp2
            go_region_with (go_at_call 23; refine HC.out.mono ?_; rintro E w4 ⟨h4, hb4⟩; obtain ⟨vs4, vb4, rfl, hl4⟩ := HNx.out _ _ h4; have HL4 := Lib.hid hl4; have HU4 := Lib.hid (hU.out.below (HD0.out.trans hb4)); clear h4 hb4 hl4 HC HNx)
            all_goals
              go_wp2
              go_roundw
              case rel => exact ⟨i + 1, by omega, by go_num, HL4, HU4⟩
              case measure => simp [intOf]; omega
          · have hiz : ¬ ((i : Int) < (a.kids.length : Int)) := by omega
            rw [List.drop_eq_nil_of_le (show a.kids.length ≤ i by omega)] at h1 h3
            have hrr : r = some (q.map nt) := by rw [← h1]; simp [mtL]
            subst hrr
            have H2 := Lib.hid h2; have H3 := Lib.hid h3; have H5 := Lib.hid h5; have H6 := Lib.hid h6
            clear h1 h2 h3 h5 h6 hL
            go_wp2
            exact bodyPost_ret (v := .tuple #[u0, .bool true]) (by simp [results, Try.results23, go_sem]) rfl ⟨⟨u0, q, rfl, H5.out, H6.out, rfl, H2.out, by have := H3.out; omega⟩, hU.out.low⟩
        · subst hr
          clear hL
          by_cases hlt : i < a.kids.length
          · have hiz : (i : Int) < (a.kids.length : Int) := by omega
            go_wp2
            exact bodyPost_ret (v := .tuple #[u0, .bool false]) (by simp [results, Try.results23, go_sem]) rfl ⟨⟨_, rfl⟩, hU.out.low⟩
          · have hiz : ¬ ((i : Int) < (a.kids.length : Int)) := by omega
            go_wp2
            exact bodyPost_ret (v := .tuple #[u0, .bool false]) (by simp [results, Try.results23, go_sem]) rfl ⟨⟨_, rfl⟩, hU.out.low⟩
    · have hr := mt_bad (f := f) (d := d) hv hall
      have HLow := Lib.hid hM0.low
      rw [hr]
      by_cases hkk : a.kind = b.kind
      · by_cases hnn : a.name = b.name
        · have hll : ¬ a.kids.length = b.kids.length := fun e => hall ⟨hkk, hnn, e⟩
          rw [hka] at hkk hv
          obtain rfl : kb = ka := hkb.symm.trans hkk.symm
          have hnmB : (a.name.toList == b.name.toList) = true := by rw [hnn]; simp
          have hllI : ¬ ((a.kids.length : Int) = (b.kids.length : Int)) := by omega
          have hkB : (kb == 1) = false := by simpa using hv
          rw [hka, hkb]
          rw [hka, hkb] at HLow
          clear hd td hq hr hta htb hll hN hfb hkk hM0 hnn hf hpos hv hall hka hkb IH
          go_enter Try.func23, Try.ntmps23
          go_wp2
          exact bodyPost_ret (v := .tuple #[.slice none 0 0, .bool false]) (by simp [results, Try.results23, go_sem]) rfl ⟨⟨_, rfl⟩, HLow.out⟩
        · rw [hka] at hkk hv
          obtain rfl : kb = ka := hkb.symm.trans hkk.symm
          have hnmB : (a.name.toList == b.name.toList) = false := by rw [bytes_beq]; exact eqB_false hnn
          have hkB : (kb == 1) = false := by simpa using hv
          rw [hka, hkb]
          rw [hka, hkb] at HLow
          clear hd td hq hr hta htb hN hfb hkk hM0 hnn hf hpos hv hall hka hkb IH
          go_enter Try.func23, Try.ntmps23
          go_wp2
          exact bodyPost_ret (v := .tuple #[.slice none 0 0, .bool false]) (by simp [results, Try.results23, go_sem]) rfl ⟨⟨_, rfl⟩, HLow.out⟩
      · rw [hka] at hv
        rw [hka, hkb] at hkk
        have hkB : (ka == 1) = false := by simpa using hv
        have hkB2 : ¬ ka = kb := hkk
        rw [hka, hkb]
        rw [hka, hkb] at HLow
        clear hd td hq hr hta htb hN hfb hkk hM0 hf hpos hv hall hka hkb IH
        go_enter Try.func23, Try.ntmps23
        go_wp2
        exact bodyPost_ret (v := .tuple #[.slice none 0 0, .bool false]) (by simp [results, Try.results23, go_sem]) rfl ⟨⟨_, rfl⟩, HLow.out⟩
theorem match_ok : ∀ f, MtOK f
  | 0 => fun a _ _ _ _ _ _ _ _ hf => absurd (tsize_pos a) (by omega)
  | f + 1 => match_step f (match_ok f)
end Go.Proofs.Ythpphjkoiipkkaa
/- The program's fit. -/
namespace Go.Proofs.Ythpphjkoiipkkaa
open Go.RowKit Go.Maps Go.Sort Go.Lib
attribute [local go_sem] Oper.semAt_some

/-- What fit tells. -/
def FitR (B g mb N : Nat) (r : Option (List (ByteArray × T))) (e : Ending) (w' : World) : Prop :=
  e = .returned (.bool r.isSome) ∧ ∀ s', r = some s' → ∃ q, MM B g mb q w' ∧ q.map nt = s' ∧ q.length ≤ N
def FitOK (f : Nat) : Prop := ∀ (a b : T) (B g mb : Nat) (d : List PR) (pa pb : Option Addr) (ca cb : Nat) (w : World), tsize a ≤ f → MM B g mb d w → B ≤ w.heap.size → Fits b → (∀ x ∈ vs a, x.size ≤ 1000) → d.length + tsize a ≤ 1000000 →
  TysAt w (.slice pa a.kids.length ca) a.kids → TysAt w (.slice pb b.kids.length cb) b.kids →
  Calls Try.prog 21 #[mp g, .agg #[.int .i64 a.kind, .string a.name, .slice pa a.kids.length ca], .agg #[.int .i64 b.kind, .string b.name, .slice pb b.kids.length cb]] w fun e w' =>
    FitR B g mb (d.length + tsize a) (mt f (d.map nt) a b) e w' ∧ KeepM w w' ∧ Below B w w'
/-- Where the loop over the parts stands. -/
def FpI (B g mb f N : Nat) (a b : T) (r : Option (List (ByteArray × T))) (i : Nat) (X : World) : Prop :=
  ∃ q, MM B g mb q X ∧ mtL (mt f) (q.map nt) (a.kids.drop i) (b.kids.drop i) = r ∧ q.length + tsizes (a.kids.drop i) ≤ N
/-- Both boxes, and what else stays. -/
structure FBox (B : Nat) (w : World) (a b : T) (ka kb : Int) (pa pb : Option Addr) (ca cb : Nat) (X : World) : Prop where
  a4 : X.heap[w.heap.size]? = some (.cells #[.int .i64 ka, .string a.name, .slice pa a.kids.length ca] 26 (0, 0))
  b5 : X.heap[w.heap.size + 1]? = some (.cells #[.int .i64 kb, .string b.name, .slice pb b.kids.length cb] 26 (0, 0))
  at4 : TysAt X (.slice pa a.kids.length ca) a.kids
  at5 : TysAt X (.slice pb b.kids.length cb) b.kids
  keep : KeepM w X
  low : Below B w X
theorem FBox.go {B : Nat} {w : World} {a b : T} {ka kb : Int} {pa pb : Option Addr} {ca cb : Nat} {X Y : World} (h : FBox B w a b ka kb pa pb ca cb X) (hk : KeepM X Y) (hb : Below B X Y) : FBox B w a b ka kb pa pb ca cb Y :=
  ⟨hk _ _ _ _ h.a4 (by decide) (by decide), hk _ _ _ _ h.b5 (by decide) (by decide), h.at4.keep hk.tys, h.at5.keep hk.tys, h.keep.trans hk, h.low.trans hb⟩
theorem FBox.start {B : Nat} {w : World} {a b : T} {pa pb : Option Addr} {ca cb : Nat} (hB : B ≤ w.heap.size) (ha : TysAt w (.slice pa a.kids.length ca) a.kids) (hb : TysAt w (.slice pb b.kids.length cb) b.kids) : FBox B w a b a.kind b.kind pa pb ca cb ((w.alloc (.cells #[.int .i64 a.kind, .string a.name, .slice pa a.kids.length ca] 26)).alloc (.cells #[.int .i64 b.kind, .string b.name, .slice pb b.kids.length cb] 26)) :=
  have h := MBox.start (a := a) (b := b) ha hb
  ⟨h.a4, h.b5, h.at4, h.at5, KeepM.of_below h.low, h.low.mono hB⟩
theorem fp_next {B g mb f N : Nat} {a b : T} {r : Option (List (ByteArray × T))} {i : Nat} {q : List PR} (h1 : i < a.kids.length) (h2 : i < b.kids.length) (hl : mtL (mt f) (q.map nt) (a.kids.drop i) (b.kids.drop i) = r) (hN : q.length + tsizes (a.kids.drop i) ≤ N)
    (E : Ending) (X : World) (hr : FitR B g mb (q.length + tsize a.kids[i]) (mt f (q.map nt) a.kids[i] b.kids[i]) E X) : (E = .returned (.bool true) ∧ FpI B g mb f N a b r (i + 1) X) ∨ (E = .returned (.bool false) ∧ r = none) := by
  rw [List.drop_eq_getElem_cons h1, tsizes] at hN
  rw [List.drop_eq_getElem_cons h1, List.drop_eq_getElem_cons h2, mtL] at hl
  cases e : mt f (q.map nt) a.kids[i] b.kids[i] with
  | none =>
    rw [e] at hr hl
    exact .inr ⟨hr.1, hl.symm⟩
  | some s' =>
    rw [e] at hr hl
    obtain ⟨q', g1, g2, g3⟩ := hr.2 s' rfl
    exact .inl ⟨hr.1, q', g1, by rw [g2]; exact hl, by omega⟩
theorem lookup_var {d : List PR} {a b : T} {f : Nat} (hv : a.kind = 1) : mt (f + 1) (d.map nt) a b = match (lk a.name d).map PR.t with | some t => if eqB t b = true then some (d.map nt) else none | none => some (d.map nt ++ [(a.name, b)]) := mt_var hv
set_option maxRecDepth 100000 in
set_option maxHeartbeats 8000000 in
theorem fit_step (f : Nat) (IH : FitOK f) : FitOK (f + 1) := by
  intro a b B g mb d pa pb ca cb w hf hM hB hfb hns hN hta htb
  have hF0 := FBox.start (a := a) (b := b) hB hta htb
  have hpos := tsize_pos a
  have hbt := below_two w (.cells #[.int .i64 a.kind, .string a.name, .slice pa a.kids.length ca] 26) (.cells #[.int .i64 b.kind, .string b.name, .slice pb b.kids.length cb] 26)
  obtain ⟨ka, hka⟩ : ∃ k, a.kind = k := ⟨_, rfl⟩
  obtain ⟨kb, hkb⟩ : ∃ k, b.kind = k := ⟨_, rfl⟩
  by_cases hv : a.kind = 1
  · have hr := mt_var (f := f) (d := d) (b := b) hv
    have hnm : a.name.size ≤ 1000 := hns a.name (by rw [isV_var (isV_kind.2 hv)]; simp [vs, T.name])
    have hbc := become_any (hM.below hbt) (by simp; omega) hnm (by omega) hfb hF0.at5
    obtain rfl : ka = 1 := hka.symm.trans hv
    have HBc := Lib.hid hbc; have HF0 := Lib.hid hF0; have HR := Lib.hid hr
    rw [hka, hkb]
    rw [hka, hkb] at HF0 HBc
    clear hM hF0 hbc hr hta htb hns hfb hka hkb hv IH hbt hf
    go_enter Try.func21, Try.ntmps21
    go_wp2_with (go_at_call 29; refine HBc.out.mono ?_; rintro e w2 h2; have H2 := Lib.hid h2; obtain ⟨vb, rfl⟩ : ∃ vb, e = .returned (.bool vb) := (by unfold BecR at h2; cases hl : lk a.name d with | none => (rw [hl] at h2; exact ⟨_, h2.1.1⟩) | some x => (rw [hl] at h2; exact ⟨_, h2.1.1⟩)); clear h2)
    refine bodyPost_ret (v := .bool vb) (by simp [results, Try.results21, go_sem]) rfl ?_
    have h2 := H2.out
    unfold BecR at h2
    have hfb := HF0.out.go h2.2.1 h2.2.2
    refine ⟨?_, hfb.keep, hfb.low⟩
    rw [HR.out]
    cases hl : lk a.name d with
    | none =>
      rw [hl] at h2
      obtain ⟨⟨he, x, hx1, hx2, hm⟩, _⟩ := h2
      refine ⟨by rw [he]; rfl, fun s' e => ?_⟩
      simp only [Option.map_none, Option.some.injEq] at e
      subst e
      exact ⟨d ++ [x], hm, by rw [List.map_append]; simp [nt, hx1, hx2], by rw [List.length_append, List.length_singleton]; omega⟩
    | some x =>
      rw [hl] at h2
      obtain ⟨⟨he, hm⟩, _⟩ := h2
      simp only [Option.map_some]
      cases hq : eqB x.t b with
      | true => exact ⟨by rw [he, hq]; rfl, fun s' e => ⟨d, hm, by simpa using e, by omega⟩⟩
      | false => exact ⟨by rw [he, hq]; rfl, fun s' e => by simp at e⟩
  · by_cases hall : a.kind = b.kind ∧ a.name = b.name ∧ a.kids.length = b.kids.length
    · have hr := mt_parts (f := f) (d := d) hv hall
      have hav : a.isV = false := by
        cases hb : a.isV with
        | false => rfl
        | true => exact absurd (isV_kind.1 hb) hv
      obtain ⟨hkk, hnn, hll⟩ := hall
      rw [hka] at hkk hv
      obtain rfl : kb = ka := hkb.symm.trans hkk.symm
      have hnmB : (a.name.toList == b.name.toList) = true := by rw [hnn]; simp
      have hllI : ((a.kids.length : Int) = (b.kids.length : Int)) := by omega
      have hkB : (kb == 1) = false := by simpa using hv
      have hkl : a.kids.length ≤ 1000000 := by have := len_sizes' a.kids; rw [tsize_eq] at hN; omega
      have hsz := tsize_eq a
      have HL0 := Lib.hid (show FpI B g mb f (d.length + tsize a) a b (mt (f + 1) (d.map nt) a b) 0 ((w.alloc (.cells #[.int .i64 a.kind, .string a.name, .slice pa a.kids.length ca] 26)).alloc (.cells #[.int .i64 b.kind, .string b.name, .slice pb b.kids.length cb] 26)) from ⟨d, hM.below hbt, by rw [hr]; simp, by simp; omega⟩)
      have HF0 := Lib.hid hF0
      have hfk : ∀ (i : Nat) (h : i < b.kids.length), Fits b.kids[i] := fun i h => hfb.kid (List.getElem_mem h)
      have hsk : ∀ (i : Nat) (h : i < a.kids.length), tsize a.kids[i] ≤ f ∧ ∀ x ∈ vs a.kids[i], x.size ≤ 1000 := fun i h => ⟨by have := tsize_kids_le (List.getElem_mem h); omega, fun x hx => hns x ((vs_kids hav).2 ⟨_, List.getElem_mem h, hx⟩)⟩
      have HFk := Lib.hid hfk; have HSk := Lib.hid hsk; have HLl := Lib.hid hll; have HN := Lib.hid hN; have HB := Lib.hid hB
      obtain ⟨r, hrr⟩ : ∃ r, mt (f + 1) (d.map nt) a b = r := ⟨_, rfl⟩
      rw [hrr] at HL0 ⊢
      rw [hka, hkb]
      rw [hka, hkb] at HL0 HF0
      clear hM hr hta htb hll hN hfb hsz hkk hF0 hfk hsk hnn hrr hf hpos hv hka hkb hns hav hB hbt
      go_enter Try.func21, Try.ntmps21
      go_wp2
      go_loopw [41] (fun vi wr => ∃ i : Nat, i ≤ a.kids.length ∧ vi = .int .i64 i ∧ Hid (FpI B g mb f (d.length + tsize a) a b r i wr) ∧ Hid (FBox B w a b kb kb pa pb ca cb wr)) (fun vi _ => a.kids.length - (intOf vi).toNat)
      case atStart => exact ⟨0, Nat.zero_le _, rfl, HL0, HF0⟩
      case round =>
        obtain ⟨i, hi', rfl, hL, hU⟩ := hrel
        have hB5 := hU.out.b5
        obtain ⟨b0, b1, b2⟩ := three_cells hB5
        have lB := (Array.getElem?_eq_some_iff.1 hB5).1
        clear hB5 HL0 HF0
        obtain ⟨q, h1, h2, h3⟩ := hL.out
        by_cases hlt : i < a.kids.length
        · have hlt2 : i < b.kids.length := by have := HLl.out; omega
          have hiz : (i : Int) < (a.kids.length : Int) := by omega
          have hiz2 : (i : Int) < (b.kids.length : Int) := by omega
          obtain ⟨gu, pu, cu, rfl, hcu, hpu⟩ := hU.out.at4.part i hlt
          obtain ⟨gv, pv, cv, rfl, hcv, hpv⟩ := hU.out.at5.part i hlt2
          obtain ⟨⟨lu, x0, x1, x2⟩, xk⟩ := hpu wr (KeepT.refl wr)
          obtain ⟨⟨lv, y0, y1, y2⟩, yk⟩ := hpv wr (KeepT.refl wr)
          have hd0 : ∀ o : Obj, Below wr.heap.size wr (wr.alloc o).drew := fun o => ((Below.refl _ wr).alloc (Nat.le_refl _) o).drew
          have hqk : q.length + tsize a.kids[i] ≤ 1000000 := by
            have := HN.out
            have h3' := h3
            rw [List.drop_eq_getElem_cons hlt, tsizes] at h3'; omega
          have hBr : B ≤ wr.heap.size := Nat.le_trans HB.out hU.out.low.size
          have HC := Lib.hid (fun o : Obj => IH a.kids[i] b.kids[i] B g mb q pu pv cu cv (wr.alloc o).drew (HSk.out i hlt).1 (h1.below (hd0 o)) (by show B ≤ (wr.alloc o).heap.size; simp; omega) (HFk.out i hlt2) (HSk.out i hlt).2 hqk (xk.keep (KeepT.of_below (hd0 o))) (yk.keep (KeepT.of_below (hd0 o))))
          have HNx := Lib.hid (fun E X h => fp_next (B := B) (g := g) (mb := mb) (E := E) (X := X) hlt hlt2 h2 h3 h)
          have HD0 := Lib.hid (fun o : Obj => And.intro (KeepM.of_below (hd0 o)) ((hd0 o).mono hBr))
          clear h1 h2 h3 hpu hpv xk yk hd0 hL hqk HFk HSk hBr
          generalize a.kids[i] = ku1 at *
          generalize b.kids[i] = kv1 at *
          go_wp2
          go_region_with (go_at_call 21; refine (HC.out _).mono ?_; rintro E w4 ⟨h4, hk4, hb4⟩; have hn4 := HNx.out _ _ h4; have HU4 := Lib.hid (hU.out.go ((HD0.out _).1.trans hk4) ((HD0.out _).2.trans hb4)); have HN4 := Lib.hid hn4; obtain ⟨vb, rfl⟩ : ∃ vb, E = .returned (.bool vb) := (hn4.elim (fun h => ⟨_, h.1⟩) fun h => ⟨_, h.1⟩); clear h4 hk4 hb4 hn4 HC HNx)
          all_goals
            cases vb with
            | true =>
              have hL4 := HN4.out.resolve_right (fun h => by have := h.1; cases this)
              have HL4 := Lib.hid hL4.2
              clear hL4 HN4
              go_wp2
              go_roundw
              case rel => exact ⟨i + 1, by omega, by go_num, HL4, HU4⟩
              case measure => simp [intOf]; omega
            | false =>
              have hL4 := HN4.out.resolve_left (fun h => by have := h.1; cases this)
              have hrn := hL4.2
              clear hL4 HN4
              go_wp2
              exact bodyPost_ret (v := .bool false) (by simp [results, Try.results21, go_sem]) rfl ⟨⟨by rw [hrn]; rfl, fun s' e => by rw [hrn] at e; cases e⟩, HU4.out.keep, HU4.out.low⟩
        · have hiz : ¬ ((i : Int) < (a.kids.length : Int)) := by omega
          rw [List.drop_eq_nil_of_le (show a.kids.length ≤ i by omega)] at h2 h3
          have hrr : r = some (q.map nt) := by rw [← h2]; simp [mtL]
          subst hrr
          have H1 := Lib.hid h1; have H3 := Lib.hid h3
          clear h1 h2 h3 hL
          go_wp2
          exact bodyPost_ret (v := .bool true) (by simp [results, Try.results21, go_sem]) rfl ⟨⟨rfl, fun s' e => ⟨q, H1.out, by simpa using e, by have := H3.out; omega⟩⟩, hU.out.keep, hU.out.low⟩
    · have hr := mt_bad (f := f) (d := d) hv hall
      have HF0 := Lib.hid (And.intro hF0.keep hF0.low)
      rw [hr]
      have HRes : Hid (∀ X, KeepM w X → Below B w X → FitR B g mb (d.length + tsize a) none (.returned (.bool false)) X ∧ KeepM w X ∧ Below B w X) := Lib.hid fun X h1 h2 => ⟨⟨rfl, fun s' e => (nomatch e)⟩, h1, h2⟩
      by_cases hkk : a.kind = b.kind
      · by_cases hnn : a.name = b.name
        · have hll : ¬ a.kids.length = b.kids.length := fun e => hall ⟨hkk, hnn, e⟩
          rw [hka] at hkk hv
          obtain rfl : kb = ka := hkb.symm.trans hkk.symm
          have hnmB : (a.name.toList == b.name.toList) = true := by rw [hnn]; simp
          have hllI : ¬ ((a.kids.length : Int) = (b.kids.length : Int)) := by omega
          have hkB : (kb == 1) = false := by simpa using hv
          rw [hka, hkb]
          rw [hka, hkb] at HF0
          clear hM hr hta htb hll hN hfb hkk hF0 hnn hf hpos hv hall hka hkb IH hns hbt
          go_enter Try.func21, Try.ntmps21
          go_wp2
          exact bodyPost_ret (v := .bool false) (by simp [results, Try.results21, go_sem]) rfl (HRes.out _ HF0.out.1 HF0.out.2)
        · rw [hka] at hkk hv
          obtain rfl : kb = ka := hkb.symm.trans hkk.symm
          have hnmB : (a.name.toList == b.name.toList) = false := by rw [bytes_beq]; exact eqB_false hnn
          have hkB : (kb == 1) = false := by simpa using hv
          rw [hka, hkb]
          rw [hka, hkb] at HF0
          clear hM hr hta htb hN hfb hkk hF0 hnn hf hpos hv hall hka hkb IH hns hbt
          go_enter Try.func21, Try.ntmps21
          go_wp2
          exact bodyPost_ret (v := .bool false) (by simp [results, Try.results21, go_sem]) rfl (HRes.out _ HF0.out.1 HF0.out.2)
      · rw [hka] at hv
        rw [hka, hkb] at hkk
        have hkB : (ka == 1) = false := by simpa using hv
        have hkB2 : ¬ ka = kb := hkk
        rw [hka, hkb]
        rw [hka, hkb] at HF0
        clear hM hr hta htb hN hfb hkk hF0 hf hpos hv hall hka hkb IH hns hbt
        go_enter Try.func21, Try.ntmps21
        go_wp2
        exact bodyPost_ret (v := .bool false) (by simp [results, Try.results21, go_sem]) rfl (HRes.out _ HF0.out.1 HF0.out.2)
theorem fit_ok : ∀ f, FitOK f
  | 0 => fun a _ _ _ _ _ _ _ _ _ _ hf => absurd (tsize_pos a) (by omega)
  | f + 1 => fit_step f (fit_ok f)
end Go.Proofs.Ythpphjkoiipkkaa
