/- SubstSays: its last statement, a region of 43 operations that draws its order, by an invariant. (Made by a program.) -/
import Derived.Test.YtmbaolcdjgilpaaSbSaysA
namespace Go.Proofs.Ytmbaolcdjgilpaa
open Go.RowKit Go.Sort Go.Lib
attribute [local go_sem] Oper.semAt_some

noncomputable def sbsOps : Array Oper := regionIn 23 (Try.f3.body.getD .skip)
def sbsFr (b : Nat → Value) (d : List Deferred) (x : Nat → Value) : Act := { tmps := #[b 0, b 1, b 2, b 3, b 4, b 5, b 6, b 7, x 42, b 9, b 10, b 11, b 12, b 13, b 14, b 15, b 16, b 17, b 18, b 19, b 20, b 21, b 22, b 23, b 24, b 25, b 26, b 27, b 28, b 29, b 30, b 31, b 32, b 33, b 34, b 35, b 36, b 37, b 38, b 39, b 40, b 41, b 42, b 43, b 44, b 45, b 46, b 47, b 48, b 49, b 50, b 51, b 52, b 53, b 54, b 55, b 56, b 57, b 58, b 59, b 60, b 61, b 62, b 63, b 64, b 65, b 66, b 67, b 68, b 69, b 70, b 71, b 72, b 73, b 74, b 75, b 76, b 77, b 78, b 79, b 80, b 81, b 82, b 83, b 84, b 85, b 86, b 87, b 88, b 89, b 90, b 91, b 92, b 93, b 94, b 95, b 96, b 97, b 98, b 99, b 100, b 101, b 102, b 103, b 104, b 105, b 106, b 107, b 108, b 109, b 110, b 111, b 112, b 113, b 114, b 115, b 116, b 117, b 118, x 0, x 1, x 2, x 3, x 4, x 5, x 6, x 7, x 8, x 9, x 10, x 11, x 12, x 13, x 14, x 15, x 16, x 17, x 18, x 19, x 20, x 21, x 22, x 23, x 24, x 25, x 26, x 27, x 28, x 29, x 30, x 31, x 32, x 33, x 34, x 35, x 36, x 37, x 38, x 39, x 40, x 41], defers := d }

def sbsVals (t : T) (pa : Option Addr) (ca : Nat) (uA uB : Value) (dA dB : List PR) (pv : Value) (pl : List Pr) (fv gv : Value) (F G : List ByteArray) (sx sy vb : Value) (i : Nat) (v : Value) (V : World) : Prop :=
  match i with
  | 0 => v = .bool true
  | 1 => v = .bool true
  | 2 => v = .agg #[sx]
  | 3 => v = .agg #[.int .i64 (t).kind, .string (t).name, .slice pa (t).kids.length ca]
  | 4 => ∃ za zc, v = .agg #[.int .i64 (app dA t).kind, .string (app dA t).name, .slice za (app dA t).kids.length zc] ∧ TysAt V (.slice za (app dA t).kids.length zc) (app dA t).kids
  | 5 => v = uA
  | 6 => v = .agg #[.int .i64 (t).kind, .string (t).name, .slice pa (t).kids.length ca]
  | 7 => ∃ za zc, v = .agg #[.int .i64 (app dA t).kind, .string (app dA t).name, .slice za (app dA t).kids.length zc] ∧ TysAt V (.slice za (app dA t).kids.length zc) (app dA t).kids
  | 8 => v = .bool true
  | 9 => v = .bool true
  | 10 => v = .bool true
  | 11 => v = .agg #[sx]
  | 12 => v = .agg #[sy]
  | 13 => ∃ zv zl, v = .agg #[zv] ∧ (SubAt zv zl V ∧ Sb 3136 8 (fun t => app dB (app dA t)) zl)
  | 14 => v = .agg #[.int .i64 (t).kind, .string (t).name, .slice pa (t).kids.length ca]
  | 15 => ∃ za zc, v = .agg #[.int .i64 (app dB (app dA t)).kind, .string (app dB (app dA t)).name, .slice za (app dB (app dA t)).kids.length zc] ∧ TysAt V (.slice za (app dB (app dA t)).kids.length zc) (app dB (app dA t)).kids
  | 16 => v = uB
  | 17 => v = uA
  | 18 => v = .agg #[.int .i64 (t).kind, .string (t).name, .slice pa (t).kids.length ca]
  | 19 => ∃ za zc, v = .agg #[.int .i64 (app dA t).kind, .string (app dA t).name, .slice za (app dA t).kids.length zc] ∧ TysAt V (.slice za (app dA t).kids.length zc) (app dA t).kids
  | 20 => ∃ za zc, v = .agg #[.int .i64 (app dB (app dA t)).kind, .string (app dB (app dA t)).name, .slice za (app dB (app dA t)).kids.length zc] ∧ TysAt V (.slice za (app dB (app dA t)).kids.length zc) (app dB (app dA t)).kids
  | 21 => v = .bool true
  | 22 => v = .bool true
  | 23 => v = .bool true
  | 24 => v = .agg #[sx]
  | 25 => v = pv
  | 26 => ∃ za zc, v = .slice za pl.length zc ∧ PrsAt V (.slice za pl.length zc) (appP dA pl)
  | 27 => v = uA
  | 28 => v = pv
  | 29 => ∃ za zc, v = .slice za pl.length zc ∧ PrsAt V (.slice za pl.length zc) (appP dA pl)
  | 30 => v = .bool true
  | 31 => v = .bool true
  | 32 => v = .bool true
  | 33 => v = .agg #[.int .i64 (t).kind, .string (t).name, .slice pa (t).kids.length ca]
  | 34 => v = fv
  | 35 => v = gv
  | 36 => ∃ za zc, v = .agg #[.int .i64 (app (prs F G) t).kind, .string (app (prs F G) t).name, .slice za (app (prs F G) t).kids.length zc] ∧ TysAt V (.slice za (app (prs F G) t).kids.length zc) (app (prs F G) t).kids
  | 37 => v = vb
  | 38 => v = .agg #[.int .i64 (t).kind, .string (t).name, .slice pa (t).kids.length ca]
  | 39 => ∃ za zc, v = .agg #[.int .i64 (app (prs F G) t).kind, .string (app (prs F G) t).name, .slice za (app (prs F G) t).kids.length zc] ∧ TysAt V (.slice za (app (prs F G) t).kids.length zc) (app (prs F G) t).kids
  | 40 => v = .bool true
  | 41 => v = .bool true
  | 42 => v = .bool true
  | _ => True

theorem sbsVals_keep {t : T} {pa : Option Addr} {ca : Nat} {uA uB : Value} {dA dB : List PR} {pv : Value} {pl : List Pr} {fv gv : Value} {F G : List ByteArray} {sx sy vb : Value} (i : Nat) (v : Value) (V Y : World) (h : sbsVals t pa ca uA uB dA dB pv pl fv gv F G sx sy vb i v V) (hb : Below V.heap.size V Y) : sbsVals t pa ca uA uB dA dB pv pl fv gv F G sx sy vb i v Y := by
  unfold sbsVals at *
  split at h <;> first
    | exact h
    | (obtain ⟨za, zc, e, h⟩ := h; exact ⟨za, zc, e, h.keep (KeepT.of_below hb)⟩)
    | (obtain ⟨zv, zl, e, h⟩ := h; exact ⟨zv, zl, e, ⟨h.1.below hb, h.2⟩⟩)
    | (obtain ⟨za, zc, e, h⟩ := h; exact ⟨za, zc, e, h.below hb⟩)

theorem sbs_size : sbsOps.size = 43 := by kernel_rfl
theorem sbs_dst_1 : (sbsOps[1]?).bind (·.dst) = some 120 := by kernel_rfl
theorem sbs_dst_10 : (sbsOps[10]?).bind (·.dst) = some 129 := by kernel_rfl
theorem sbs_dst_23 : (sbsOps[23]?).bind (·.dst) = some 142 := by kernel_rfl
theorem sbs_dst_32 : (sbsOps[32]?).bind (·.dst) = some 151 := by kernel_rfl
set_option linter.unusedSimpArgs false in
set_option maxRecDepth 100000 in
set_option maxHeartbeats 8000000 in
theorem sbs_region {w : World} {bt bs bu : Nat} {t : T} {pa : Option Addr} {ca : Nat} {uA uB : Value} {dA dB : List PR} {pv : Value} {pl : List Pr} {fv gv : Value} {F G : List ByteArray} {sx sy : Value} {lx ly : List PR} {vb : Value} {q : List PR} {b : Nat → Value} {d : List Deferred}
    (h9 : b 9 = .bool true) (h12 : b 12 = uA) (h14 : b 14 = uB) (h16 : b 16 = pv) (h23 : b 23 = vb) (h2 : b 2 = fv) (h3 : b 3 = gv) (h15 : b 15 = .pointer (some ⟨bt, 0, none⟩)) (h17 : b 17 = .pointer (some ⟨bs, 0, none⟩)) (h18 : b 18 = .pointer (some ⟨bu, 0, none⟩))
    (HC4 : ∀ V, SY w bt bs bu t pa ca uA uB dA dB pv pl fv gv F G sx sy lx ly vb q V → Calls Try.prog 16 #[.agg #[sx], .agg #[.int .i64 (t).kind, .string (t).name, .slice pa (t).kids.length ca]] V fun e Y => (∃ za zc, e = .returned (.agg #[.int .i64 (app dA t).kind, .string (app dA t).name, .slice za (app dA t).kids.length zc]) ∧ TysAt Y (.slice za (app dA t).kids.length zc) (app dA t).kids) ∧ Below V.heap.size V Y)
    (HC7 : ∀ V, SY w bt bs bu t pa ca uA uB dA dB pv pl fv gv F G sx sy lx ly vb q V → Calls Try.prog 13 #[uA, .agg #[.int .i64 (t).kind, .string (t).name, .slice pa (t).kids.length ca]] V fun e Y => (∃ za zc, e = .returned (.agg #[.int .i64 (app dA t).kind, .string (app dA t).name, .slice za (app dA t).kids.length zc]) ∧ TysAt Y (.slice za (app dA t).kids.length zc) (app dA t).kids) ∧ Below V.heap.size V Y)
    (HC8 : ∀ V, SY w bt bs bu t pa ca uA uB dA dB pv pl fv gv F G sx sy lx ly vb q V → ∀ za4, ∀ zc4, TysAt V (.slice za4 (app dA t).kids.length zc4) (app dA t).kids → ∀ za7, ∀ zc7, TysAt V (.slice za7 (app dA t).kids.length zc7) (app dA t).kids → Calls Try.prog 15 #[.agg #[.int .i64 (app dA t).kind, .string (app dA t).name, .slice za4 (app dA t).kids.length zc4], .agg #[.int .i64 (app dA t).kind, .string (app dA t).name, .slice za7 (app dA t).kids.length zc7]] V fun e Y => e = .returned (.bool true) ∧ Below V.heap.size V Y)
    (HC13 : ∀ V, SY w bt bs bu t pa ca uA uB dA dB pv pl fv gv F G sx sy lx ly vb q V → Calls Try.prog 17 #[.agg #[sx], .agg #[sy]] V fun e Y => (∃ zv zl, e = .returned (.agg #[zv]) ∧ (SubAt zv zl Y ∧ Sb 3136 8 (fun t => app dB (app dA t)) zl)) ∧ Below V.heap.size V Y)
    (HC15 : ∀ V, SY w bt bs bu t pa ca uA uB dA dB pv pl fv gv F G sx sy lx ly vb q V → ∀ zv13, ∀ zl13, (SubAt zv13 zl13 V ∧ Sb 3136 8 (fun t => app dB (app dA t)) zl13) → Calls Try.prog 16 #[.agg #[zv13], .agg #[.int .i64 (t).kind, .string (t).name, .slice pa (t).kids.length ca]] V fun e Y => (∃ za zc, e = .returned (.agg #[.int .i64 (app dB (app dA t)).kind, .string (app dB (app dA t)).name, .slice za (app dB (app dA t)).kids.length zc]) ∧ TysAt Y (.slice za (app dB (app dA t)).kids.length zc) (app dB (app dA t)).kids) ∧ Below V.heap.size V Y)
    (HC19 : ∀ V, SY w bt bs bu t pa ca uA uB dA dB pv pl fv gv F G sx sy lx ly vb q V → Calls Try.prog 13 #[uA, .agg #[.int .i64 (t).kind, .string (t).name, .slice pa (t).kids.length ca]] V fun e Y => (∃ za zc, e = .returned (.agg #[.int .i64 (app dA t).kind, .string (app dA t).name, .slice za (app dA t).kids.length zc]) ∧ TysAt Y (.slice za (app dA t).kids.length zc) (app dA t).kids) ∧ Below V.heap.size V Y)
    (HC20 : ∀ V, SY w bt bs bu t pa ca uA uB dA dB pv pl fv gv F G sx sy lx ly vb q V → ∀ za19, ∀ zc19, TysAt V (.slice za19 (app dA t).kids.length zc19) (app dA t).kids → Calls Try.prog 13 #[uB, .agg #[.int .i64 (app dA t).kind, .string (app dA t).name, .slice za19 (app dA t).kids.length zc19]] V fun e Y => (∃ za zc, e = .returned (.agg #[.int .i64 (app dB (app dA t)).kind, .string (app dB (app dA t)).name, .slice za (app dB (app dA t)).kids.length zc]) ∧ TysAt Y (.slice za (app dB (app dA t)).kids.length zc) (app dB (app dA t)).kids) ∧ Below V.heap.size V Y)
    (HC21 : ∀ V, SY w bt bs bu t pa ca uA uB dA dB pv pl fv gv F G sx sy lx ly vb q V → ∀ za15, ∀ zc15, TysAt V (.slice za15 (app dB (app dA t)).kids.length zc15) (app dB (app dA t)).kids → ∀ za20, ∀ zc20, TysAt V (.slice za20 (app dB (app dA t)).kids.length zc20) (app dB (app dA t)).kids → Calls Try.prog 15 #[.agg #[.int .i64 (app dB (app dA t)).kind, .string (app dB (app dA t)).name, .slice za15 (app dB (app dA t)).kids.length zc15], .agg #[.int .i64 (app dB (app dA t)).kind, .string (app dB (app dA t)).name, .slice za20 (app dB (app dA t)).kids.length zc20]] V fun e Y => e = .returned (.bool true) ∧ Below V.heap.size V Y)
    (HC26 : ∀ V, SY w bt bs bu t pa ca uA uB dA dB pv pl fv gv F G sx sy lx ly vb q V → Calls Try.prog 19 #[.agg #[sx], pv] V fun e Y => (∃ za zc, e = .returned (.slice za pl.length zc) ∧ PrsAt Y (.slice za pl.length zc) (appP dA pl)) ∧ Below V.heap.size V Y)
    (HC29 : ∀ V, SY w bt bs bu t pa ca uA uB dA dB pv pl fv gv F G sx sy lx ly vb q V → Calls Try.prog 20 #[uA, pv] V fun e Y => (∃ za zc, e = .returned (.slice za pl.length zc) ∧ PrsAt Y (.slice za pl.length zc) (appP dA pl)) ∧ Below V.heap.size V Y)
    (HC30 : ∀ V, SY w bt bs bu t pa ca uA uB dA dB pv pl fv gv F G sx sy lx ly vb q V → ∀ za26, ∀ zc26, PrsAt V (.slice za26 pl.length zc26) (appP dA pl) → ∀ za29, ∀ zc29, PrsAt V (.slice za29 pl.length zc29) (appP dA pl) → Calls Try.prog 18 #[.slice za26 pl.length zc26, .slice za29 pl.length zc29] V fun e Y => e = .returned (.bool true) ∧ Below V.heap.size V Y)
    (HC36 : ∀ V, SY w bt bs bu t pa ca uA uB dA dB pv pl fv gv F G sx sy lx ly vb q V → Calls Try.prog 21 #[.agg #[.int .i64 (t).kind, .string (t).name, .slice pa (t).kids.length ca], fv, gv] V fun e Y => (∃ za zc, e = .returned (.agg #[.int .i64 (app (prs F G) t).kind, .string (app (prs F G) t).name, .slice za (app (prs F G) t).kids.length zc]) ∧ TysAt Y (.slice za (app (prs F G) t).kids.length zc) (app (prs F G) t).kids) ∧ Below V.heap.size V Y)
    (HC39 : ∀ V, SY w bt bs bu t pa ca uA uB dA dB pv pl fv gv F G sx sy lx ly vb q V → Calls Try.prog 13 #[vb, .agg #[.int .i64 (t).kind, .string (t).name, .slice pa (t).kids.length ca]] V fun e Y => (∃ za zc, e = .returned (.agg #[.int .i64 (app (prs F G) t).kind, .string (app (prs F G) t).name, .slice za (app (prs F G) t).kids.length zc]) ∧ TysAt Y (.slice za (app (prs F G) t).kids.length zc) (app (prs F G) t).kids) ∧ Below V.heap.size V Y)
    (HC40 : ∀ V, SY w bt bs bu t pa ca uA uB dA dB pv pl fv gv F G sx sy lx ly vb q V → ∀ za36, ∀ zc36, TysAt V (.slice za36 (app (prs F G) t).kids.length zc36) (app (prs F G) t).kids → ∀ za39, ∀ zc39, TysAt V (.slice za39 (app (prs F G) t).kids.length zc39) (app (prs F G) t).kids → Calls Try.prog 15 #[.agg #[.int .i64 (app (prs F G) t).kind, .string (app (prs F G) t).name, .slice za36 (app (prs F G) t).kids.length zc36], .agg #[.int .i64 (app (prs F G) t).kind, .string (app (prs F G) t).name, .slice za39 (app (prs F G) t).kids.length zc39]] V fun e Y => e = .returned (.bool true) ∧ Below V.heap.size V Y)
    {Q : Exit → Act → World → Prop} {ops : Array Oper} (hops : ops = sbsOps) (x0 : Nat → Value) (X : World) (hS : SY w bt bs bu t pa ca uA uB dA dB pv pl fv gv F G sx sy lx ly vb q X.drew)
    (hfin : ∀ x V, SY w bt bs bu t pa ca uA uB dA dB pv pl fv gv F G sx sy lx ly vb q V → x 42 = .bool true → Q .normal (sbsFr b d x) V) : (Code.region 23 ops true).wp Try.prog Q (sbsFr b d x0) X := by
  have HC := Lib.hid (And.intro HC4 (And.intro HC7 (And.intro HC8 (And.intro HC13 (And.intro HC15 (And.intro HC19 (And.intro HC20 (And.intro HC21 (And.intro HC26 (And.intro HC29 (And.intro HC30 (And.intro HC36 (And.intro HC39 HC40)))))))))))))
  clear HC4 HC7 HC8 HC13 HC15 HC19 HC20 HC21 HC26 HC29 HC30 HC36 HC39 HC40
  refine region_inv (sbsFr b d) (fun V => SY w bt bs bu t pa ca uA uB dA dB pv pl fv gv F G sx sy lx ly vb q V) (fun V Y => Below V.heap.size V Y) (sbsVals t pa ca uA uB dA dB pv pl fv gv F G sx sy vb) x0 (by kernel_rfl) rfl hS (fun V Y h hb => h.below hb) (fun i v V Y _ h hb => sbsVals_keep i v V Y h hb) ?_ (fun x V hV h => hfin x V hV (h 42 (by rw [hops, sbs_size]; decide)))
  clear hfin hS
  obtain ⟨f, hf⟩ : ∃ f, StepAt Try.prog (sbsFr b d) (fun V => SY w bt bs bu t pa ca uA uB dA dB pv pl fv gv F G sx sy lx ly vb q V) (fun V Y => Below V.heap.size V Y) (sbsVals t pa ca uA uB dA dB pv pl fv gv F G sx sy vb) ops Q = f := ⟨_, rfl⟩
  rw [hf, hops]
  simp only [sbsOps, Try.f3, regionIn, Option.getD_some, Nat.reduceBEq, Bool.false_eq_true, if_false, if_true, beq_self_eq_true, Array.append_empty, Array.empty_append, List.append_eq, List.cons_append, List.nil_append, AllAt, Nat.reduceAdd, Nat.zero_add]
  -- 0: slot 119 := Op.move t9
  refine And.intro ?_ ?_
  · rw [← hf]; clear hf
    refine ⟨by decide +kernel, fun x v => by kernel_rfl, fun x V hV hdep K hK => ?_⟩
    clear hdep
    refine run_bare (by kernel_rfl) ?_
    unfold sbsFr
    go_simp
    refine kfit (hK _ _ (Below.refl _ V) rfl) ?_
    first | (simp only [sbsFr, Act.put, List.setIfInBounds_toArray, List.set_cons_zero, List.set_cons_succ, h9, h12, h14, h16, h23, h2, h3, h15, h17, h18]; done) | (simp only [sbsFr, Act.put, List.setIfInBounds_toArray, List.set_cons_zero, List.set_cons_succ, h9, h12, h14, h16, h23, h2, h3, h15, h17, h18]; rfl)
  -- 1: slot 120 := Op.move t119
  refine And.intro ?_ ?_
  · rw [← hf]; clear hf
    refine ⟨by decide +kernel, fun x v => by kernel_rfl, fun x V hV hdep K hK => ?_⟩
    have e0 : x 0 = .bool true := depOf hdep 0 (by decide +kernel)
    clear hdep
    refine run_bare (by kernel_rfl) ?_
    unfold sbsFr
    go_simp
    refine kfit (hK _ _ (Below.refl _ V) rfl) ?_
    first | (simp only [sbsFr, Act.put, List.setIfInBounds_toArray, List.set_cons_zero, List.set_cons_succ, h9, h12, h14, h16, h23, h2, h3, h15, h17, h18, e0]; done) | (simp only [sbsFr, Act.put, List.setIfInBounds_toArray, List.set_cons_zero, List.set_cons_succ, h9, h12, h14, h16, h23, h2, h3, h15, h17, h18, e0]; rfl)
  -- 2: slot 121 := Op.load 39 t17
  refine And.intro ?_ ?_
  · rw [← hf]; clear hf
    refine ⟨by decide +kernel, fun x v => by kernel_rfl, fun x V hV hdep K hK => ?_⟩
    have e1 : x 1 = .bool true := depOf hdep 1 (by decide +kernel)
    clear hdep
    refine run_guard 1 120 (x 1) (by kernel_rfl) (by rw [hops]; exact sbs_dst_1) (by kernel_rfl) e1 ?_; clear hops
    unfold sbsFr
    obtain ⟨⟨y0, y1, y2⟩, y3, y4⟩ := SY.cells hV
    go_simp
    refine kfit (hK _ _ (Below.refl _ V) rfl) ?_
    first | (simp only [sbsFr, Act.put, List.setIfInBounds_toArray, List.set_cons_zero, List.set_cons_succ, h9, h12, h14, h16, h23, h2, h3, h15, h17, h18, e1]; done) | (simp only [sbsFr, Act.put, List.setIfInBounds_toArray, List.set_cons_zero, List.set_cons_succ, h9, h12, h14, h16, h23, h2, h3, h15, h17, h18, e1]; rfl)
  -- 3: slot 122 := Op.load 34 t15
  refine And.intro ?_ ?_
  · rw [← hf]; clear hf
    refine ⟨by decide +kernel, fun x v => by kernel_rfl, fun x V hV hdep K hK => ?_⟩
    have e1 : x 1 = .bool true := depOf hdep 1 (by decide +kernel)
    clear hdep
    refine run_guard 1 120 (x 1) (by kernel_rfl) (by rw [hops]; exact sbs_dst_1) (by kernel_rfl) e1 ?_; clear hops
    unfold sbsFr
    obtain ⟨⟨y0, y1, y2⟩, y3, y4⟩ := SY.cells hV
    go_simp
    refine kfit (hK _ _ (Below.refl _ V) rfl) ?_
    first | (simp only [sbsFr, Act.put, List.setIfInBounds_toArray, List.set_cons_zero, List.set_cons_succ, h9, h12, h14, h16, h23, h2, h3, h15, h17, h18, e1]; done) | (simp only [sbsFr, Act.put, List.setIfInBounds_toArray, List.set_cons_zero, List.set_cons_succ, h9, h12, h14, h16, h23, h2, h3, h15, h17, h18, e1]; rfl)
  -- 4: slot 123 := Op.call { value (Operand.func 16), args := #[t121, t122], ar
  refine And.intro ?_ ?_
  · rw [← hf]; clear hf
    refine ⟨by decide +kernel, fun x v => by kernel_rfl, fun x V hV hdep K hK => ?_⟩
    have e1 : x 1 = .bool true := depOf hdep 1 (by decide +kernel)
    have e2 : x 2 = .agg #[sx] := depOf hdep 2 (by decide +kernel)
    have e3 : x 3 = .agg #[.int .i64 (t).kind, .string (t).name, .slice pa (t).kids.length ca] := depOf hdep 3 (by decide +kernel)
    clear hdep
    refine run_guard 1 120 (x 1) (by kernel_rfl) (by rw [hops]; exact sbs_dst_1) (by kernel_rfl) e1 ?_; clear hops
    unfold sbsFr
    obtain ⟨HC4, HC7, HC8, HC13, HC15, HC19, HC20, HC21, HC26, HC29, HC30, HC36, HC39, HC40⟩ := HC.out
    clear HC7 HC8 HC13 HC15 HC19 HC20 HC21 HC26 HC29 HC30 HC36 HC39 HC40
    have H := HC4 V hV
    replace H := Lib.hid H; clear HC4
    go_simp
    go_at_call 16
    refine H.out.mono ?_
    rintro e Y ⟨⟨za, zc, rfl, hq⟩, hb⟩; refine kfit (hK _ _ hb ⟨za, zc, rfl, hq⟩) ?_
    first | (simp only [sbsFr, Act.put, List.setIfInBounds_toArray, List.set_cons_zero, List.set_cons_succ, h9, h12, h14, h16, h23, h2, h3, h15, h17, h18, e1, e2, e3]; done) | (simp only [sbsFr, Act.put, List.setIfInBounds_toArray, List.set_cons_zero, List.set_cons_succ, h9, h12, h14, h16, h23, h2, h3, h15, h17, h18, e1, e2, e3]; rfl)
  -- 5: slot 124 := Op.move t12
  refine And.intro ?_ ?_
  · rw [← hf]; clear hf
    refine ⟨by decide +kernel, fun x v => by kernel_rfl, fun x V hV hdep K hK => ?_⟩
    have e1 : x 1 = .bool true := depOf hdep 1 (by decide +kernel)
    clear hdep
    refine run_guard 1 120 (x 1) (by kernel_rfl) (by rw [hops]; exact sbs_dst_1) (by kernel_rfl) e1 ?_; clear hops
    unfold sbsFr
    go_simp
    refine kfit (hK _ _ (Below.refl _ V) rfl) ?_
    first | (simp only [sbsFr, Act.put, List.setIfInBounds_toArray, List.set_cons_zero, List.set_cons_succ, h9, h12, h14, h16, h23, h2, h3, h15, h17, h18, e1]; done) | (simp only [sbsFr, Act.put, List.setIfInBounds_toArray, List.set_cons_zero, List.set_cons_succ, h9, h12, h14, h16, h23, h2, h3, h15, h17, h18, e1]; rfl)
  -- 6: slot 125 := Op.load 34 t15
  refine And.intro ?_ ?_
  · rw [← hf]; clear hf
    refine ⟨by decide +kernel, fun x v => by kernel_rfl, fun x V hV hdep K hK => ?_⟩
    have e1 : x 1 = .bool true := depOf hdep 1 (by decide +kernel)
    clear hdep
    refine run_guard 1 120 (x 1) (by kernel_rfl) (by rw [hops]; exact sbs_dst_1) (by kernel_rfl) e1 ?_; clear hops
    unfold sbsFr
    obtain ⟨⟨y0, y1, y2⟩, y3, y4⟩ := SY.cells hV
    go_simp
    refine kfit (hK _ _ (Below.refl _ V) rfl) ?_
    first | (simp only [sbsFr, Act.put, List.setIfInBounds_toArray, List.set_cons_zero, List.set_cons_succ, h9, h12, h14, h16, h23, h2, h3, h15, h17, h18, e1]; done) | (simp only [sbsFr, Act.put, List.setIfInBounds_toArray, List.set_cons_zero, List.set_cons_succ, h9, h12, h14, h16, h23, h2, h3, h15, h17, h18, e1]; rfl)
  -- 7: slot 126 := Op.call { value (Operand.func 13), args := #[t124, t125], ar
  refine And.intro ?_ ?_
  · rw [← hf]; clear hf
    refine ⟨by decide +kernel, fun x v => by kernel_rfl, fun x V hV hdep K hK => ?_⟩
    have e1 : x 1 = .bool true := depOf hdep 1 (by decide +kernel)
    have e5 : x 5 = uA := depOf hdep 5 (by decide +kernel)
    have e6 : x 6 = .agg #[.int .i64 (t).kind, .string (t).name, .slice pa (t).kids.length ca] := depOf hdep 6 (by decide +kernel)
    clear hdep
    refine run_guard 1 120 (x 1) (by kernel_rfl) (by rw [hops]; exact sbs_dst_1) (by kernel_rfl) e1 ?_; clear hops
    unfold sbsFr
    obtain ⟨HC4, HC7, HC8, HC13, HC15, HC19, HC20, HC21, HC26, HC29, HC30, HC36, HC39, HC40⟩ := HC.out
    clear HC4 HC8 HC13 HC15 HC19 HC20 HC21 HC26 HC29 HC30 HC36 HC39 HC40
    have H := HC7 V hV
    replace H := Lib.hid H; clear HC7
    go_simp
    go_at_call 13
    refine H.out.mono ?_
    rintro e Y ⟨⟨za, zc, rfl, hq⟩, hb⟩; refine kfit (hK _ _ hb ⟨za, zc, rfl, hq⟩) ?_
    first | (simp only [sbsFr, Act.put, List.setIfInBounds_toArray, List.set_cons_zero, List.set_cons_succ, h9, h12, h14, h16, h23, h2, h3, h15, h17, h18, e1, e5, e6]; done) | (simp only [sbsFr, Act.put, List.setIfInBounds_toArray, List.set_cons_zero, List.set_cons_succ, h9, h12, h14, h16, h23, h2, h3, h15, h17, h18, e1, e5, e6]; rfl)
  -- 8: slot 127 := Op.call { value (Operand.func 15), args := #[t123, t126], ar
  refine And.intro ?_ ?_
  · rw [← hf]; clear hf
    refine ⟨by decide +kernel, fun x v => by kernel_rfl, fun x V hV hdep K hK => ?_⟩
    have e1 : x 1 = .bool true := depOf hdep 1 (by decide +kernel)
    obtain ⟨za4, zc4, e4, d4⟩ : ∃ za4 zc4, x 4 = .agg #[.int .i64 (app dA t).kind, .string (app dA t).name, .slice za4 (app dA t).kids.length zc4] ∧ TysAt V (.slice za4 (app dA t).kids.length zc4) (app dA t).kids := depOf hdep 4 (by decide +kernel)
    obtain ⟨za7, zc7, e7, d7⟩ : ∃ za7 zc7, x 7 = .agg #[.int .i64 (app dA t).kind, .string (app dA t).name, .slice za7 (app dA t).kids.length zc7] ∧ TysAt V (.slice za7 (app dA t).kids.length zc7) (app dA t).kids := depOf hdep 7 (by decide +kernel)
    clear hdep
    refine run_guard 1 120 (x 1) (by kernel_rfl) (by rw [hops]; exact sbs_dst_1) (by kernel_rfl) e1 ?_; clear hops
    unfold sbsFr
    obtain ⟨HC4, HC7, HC8, HC13, HC15, HC19, HC20, HC21, HC26, HC29, HC30, HC36, HC39, HC40⟩ := HC.out
    clear HC4 HC7 HC13 HC15 HC19 HC20 HC21 HC26 HC29 HC30 HC36 HC39 HC40
    have H := HC8 V hV _ _ d4 _ _ d7
    replace H := Lib.hid H; clear HC8
    go_simp
    go_at_call 15
    refine H.out.mono ?_
    rintro e Y ⟨rfl, hb⟩; refine kfit (hK _ _ hb rfl) ?_
    first | (simp only [sbsFr, Act.put, List.setIfInBounds_toArray, List.set_cons_zero, List.set_cons_succ, h9, h12, h14, h16, h23, h2, h3, h15, h17, h18, e1, e4, e7]; done) | (simp only [sbsFr, Act.put, List.setIfInBounds_toArray, List.set_cons_zero, List.set_cons_succ, h9, h12, h14, h16, h23, h2, h3, h15, h17, h18, e1, e4, e7]; rfl)
  -- 9: slot 128 := Op.pick t120 t127 (const (Value.bool false))
  refine And.intro ?_ ?_
  · rw [← hf]; clear hf
    refine ⟨by decide +kernel, fun x v => by kernel_rfl, fun x V hV hdep K hK => ?_⟩
    have e1 : x 1 = .bool true := depOf hdep 1 (by decide +kernel)
    have e8 : x 8 = .bool true := depOf hdep 8 (by decide +kernel)
    clear hdep
    refine run_bare (by kernel_rfl) ?_
    unfold sbsFr
    go_simp
    refine kfit (hK _ _ (Below.refl _ V) rfl) ?_
    first | (simp only [sbsFr, Act.put, List.setIfInBounds_toArray, List.set_cons_zero, List.set_cons_succ, h9, h12, h14, h16, h23, h2, h3, h15, h17, h18, e1, e8]; done) | (simp only [sbsFr, Act.put, List.setIfInBounds_toArray, List.set_cons_zero, List.set_cons_succ, h9, h12, h14, h16, h23, h2, h3, h15, h17, h18, e1, e8]; rfl)
  -- 10: slot 129 := Op.move t128
  refine And.intro ?_ ?_
  · rw [← hf]; clear hf
    refine ⟨by decide +kernel, fun x v => by kernel_rfl, fun x V hV hdep K hK => ?_⟩
    have e9 : x 9 = .bool true := depOf hdep 9 (by decide +kernel)
    clear hdep
    refine run_bare (by kernel_rfl) ?_
    unfold sbsFr
    go_simp
    refine kfit (hK _ _ (Below.refl _ V) rfl) ?_
    first | (simp only [sbsFr, Act.put, List.setIfInBounds_toArray, List.set_cons_zero, List.set_cons_succ, h9, h12, h14, h16, h23, h2, h3, h15, h17, h18, e9]; done) | (simp only [sbsFr, Act.put, List.setIfInBounds_toArray, List.set_cons_zero, List.set_cons_succ, h9, h12, h14, h16, h23, h2, h3, h15, h17, h18, e9]; rfl)
  -- 11: slot 130 := Op.load 39 t17
  refine And.intro ?_ ?_
  · rw [← hf]; clear hf
    refine ⟨by decide +kernel, fun x v => by kernel_rfl, fun x V hV hdep K hK => ?_⟩
    have e10 : x 10 = .bool true := depOf hdep 10 (by decide +kernel)
    clear hdep
    refine run_guard 10 129 (x 10) (by kernel_rfl) (by rw [hops]; exact sbs_dst_10) (by kernel_rfl) e10 ?_; clear hops
    unfold sbsFr
    obtain ⟨⟨y0, y1, y2⟩, y3, y4⟩ := SY.cells hV
    go_simp
    refine kfit (hK _ _ (Below.refl _ V) rfl) ?_
    first | (simp only [sbsFr, Act.put, List.setIfInBounds_toArray, List.set_cons_zero, List.set_cons_succ, h9, h12, h14, h16, h23, h2, h3, h15, h17, h18, e10]; done) | (simp only [sbsFr, Act.put, List.setIfInBounds_toArray, List.set_cons_zero, List.set_cons_succ, h9, h12, h14, h16, h23, h2, h3, h15, h17, h18, e10]; rfl)
  -- 12: slot 131 := Op.load 39 t18
  refine And.intro ?_ ?_
  · rw [← hf]; clear hf
    refine ⟨by decide +kernel, fun x v => by kernel_rfl, fun x V hV hdep K hK => ?_⟩
    have e10 : x 10 = .bool true := depOf hdep 10 (by decide +kernel)
    clear hdep
    refine run_guard 10 129 (x 10) (by kernel_rfl) (by rw [hops]; exact sbs_dst_10) (by kernel_rfl) e10 ?_; clear hops
    unfold sbsFr
    obtain ⟨⟨y0, y1, y2⟩, y3, y4⟩ := SY.cells hV
    go_simp
    refine kfit (hK _ _ (Below.refl _ V) rfl) ?_
    first | (simp only [sbsFr, Act.put, List.setIfInBounds_toArray, List.set_cons_zero, List.set_cons_succ, h9, h12, h14, h16, h23, h2, h3, h15, h17, h18, e10]; done) | (simp only [sbsFr, Act.put, List.setIfInBounds_toArray, List.set_cons_zero, List.set_cons_succ, h9, h12, h14, h16, h23, h2, h3, h15, h17, h18, e10]; rfl)
  -- 13: slot 132 := Op.call { value (Operand.func 17), args := #[t130, t131], ar
  refine And.intro ?_ ?_
  · rw [← hf]; clear hf
    refine ⟨by decide +kernel, fun x v => by kernel_rfl, fun x V hV hdep K hK => ?_⟩
    have e10 : x 10 = .bool true := depOf hdep 10 (by decide +kernel)
    have e11 : x 11 = .agg #[sx] := depOf hdep 11 (by decide +kernel)
    have e12 : x 12 = .agg #[sy] := depOf hdep 12 (by decide +kernel)
    clear hdep
    refine run_guard 10 129 (x 10) (by kernel_rfl) (by rw [hops]; exact sbs_dst_10) (by kernel_rfl) e10 ?_; clear hops
    unfold sbsFr
    obtain ⟨HC4, HC7, HC8, HC13, HC15, HC19, HC20, HC21, HC26, HC29, HC30, HC36, HC39, HC40⟩ := HC.out
    clear HC4 HC7 HC8 HC15 HC19 HC20 HC21 HC26 HC29 HC30 HC36 HC39 HC40
    have H := HC13 V hV
    replace H := Lib.hid H; clear HC13
    go_simp
    go_at_call 17
    refine H.out.mono ?_
    rintro e Y ⟨⟨zv, zl, rfl, hq⟩, hb⟩; refine kfit (hK _ _ hb ⟨zv, zl, rfl, hq⟩) ?_
    first | (simp only [sbsFr, Act.put, List.setIfInBounds_toArray, List.set_cons_zero, List.set_cons_succ, h9, h12, h14, h16, h23, h2, h3, h15, h17, h18, e10, e11, e12]; done) | (simp only [sbsFr, Act.put, List.setIfInBounds_toArray, List.set_cons_zero, List.set_cons_succ, h9, h12, h14, h16, h23, h2, h3, h15, h17, h18, e10, e11, e12]; rfl)
  -- 14: slot 133 := Op.load 34 t15
  refine And.intro ?_ ?_
  · rw [← hf]; clear hf
    refine ⟨by decide +kernel, fun x v => by kernel_rfl, fun x V hV hdep K hK => ?_⟩
    have e10 : x 10 = .bool true := depOf hdep 10 (by decide +kernel)
    clear hdep
    refine run_guard 10 129 (x 10) (by kernel_rfl) (by rw [hops]; exact sbs_dst_10) (by kernel_rfl) e10 ?_; clear hops
    unfold sbsFr
    obtain ⟨⟨y0, y1, y2⟩, y3, y4⟩ := SY.cells hV
    go_simp
    refine kfit (hK _ _ (Below.refl _ V) rfl) ?_
    first | (simp only [sbsFr, Act.put, List.setIfInBounds_toArray, List.set_cons_zero, List.set_cons_succ, h9, h12, h14, h16, h23, h2, h3, h15, h17, h18, e10]; done) | (simp only [sbsFr, Act.put, List.setIfInBounds_toArray, List.set_cons_zero, List.set_cons_succ, h9, h12, h14, h16, h23, h2, h3, h15, h17, h18, e10]; rfl)
  -- 15: slot 134 := Op.call { value (Operand.func 16), args := #[t132, t133], ar
  refine And.intro ?_ ?_
  · rw [← hf]; clear hf
    refine ⟨by decide +kernel, fun x v => by kernel_rfl, fun x V hV hdep K hK => ?_⟩
    have e10 : x 10 = .bool true := depOf hdep 10 (by decide +kernel)
    obtain ⟨zv13, zl13, e13, d13⟩ : ∃ zv13 zl13, x 13 = .agg #[zv13] ∧ (SubAt zv13 zl13 V ∧ Sb 3136 8 (fun t => app dB (app dA t)) zl13) := depOf hdep 13 (by decide +kernel)
    have e14 : x 14 = .agg #[.int .i64 (t).kind, .string (t).name, .slice pa (t).kids.length ca] := depOf hdep 14 (by decide +kernel)
    clear hdep
    refine run_guard 10 129 (x 10) (by kernel_rfl) (by rw [hops]; exact sbs_dst_10) (by kernel_rfl) e10 ?_; clear hops
    unfold sbsFr
    obtain ⟨HC4, HC7, HC8, HC13, HC15, HC19, HC20, HC21, HC26, HC29, HC30, HC36, HC39, HC40⟩ := HC.out
    clear HC4 HC7 HC8 HC13 HC19 HC20 HC21 HC26 HC29 HC30 HC36 HC39 HC40
    have H := HC15 V hV _ _ d13
    replace H := Lib.hid H; clear HC15
    go_simp
    go_at_call 16
    refine H.out.mono ?_
    rintro e Y ⟨⟨za, zc, rfl, hq⟩, hb⟩; refine kfit (hK _ _ hb ⟨za, zc, rfl, hq⟩) ?_
    first | (simp only [sbsFr, Act.put, List.setIfInBounds_toArray, List.set_cons_zero, List.set_cons_succ, h9, h12, h14, h16, h23, h2, h3, h15, h17, h18, e10, e13, e14]; done) | (simp only [sbsFr, Act.put, List.setIfInBounds_toArray, List.set_cons_zero, List.set_cons_succ, h9, h12, h14, h16, h23, h2, h3, h15, h17, h18, e10, e13, e14]; rfl)
  -- 16: slot 135 := Op.move t14
  refine And.intro ?_ ?_
  · rw [← hf]; clear hf
    refine ⟨by decide +kernel, fun x v => by kernel_rfl, fun x V hV hdep K hK => ?_⟩
    have e10 : x 10 = .bool true := depOf hdep 10 (by decide +kernel)
    clear hdep
    refine run_guard 10 129 (x 10) (by kernel_rfl) (by rw [hops]; exact sbs_dst_10) (by kernel_rfl) e10 ?_; clear hops
    unfold sbsFr
    go_simp
    refine kfit (hK _ _ (Below.refl _ V) rfl) ?_
    first | (simp only [sbsFr, Act.put, List.setIfInBounds_toArray, List.set_cons_zero, List.set_cons_succ, h9, h12, h14, h16, h23, h2, h3, h15, h17, h18, e10]; done) | (simp only [sbsFr, Act.put, List.setIfInBounds_toArray, List.set_cons_zero, List.set_cons_succ, h9, h12, h14, h16, h23, h2, h3, h15, h17, h18, e10]; rfl)
  -- 17: slot 136 := Op.move t12
  refine And.intro ?_ ?_
  · rw [← hf]; clear hf
    refine ⟨by decide +kernel, fun x v => by kernel_rfl, fun x V hV hdep K hK => ?_⟩
    have e10 : x 10 = .bool true := depOf hdep 10 (by decide +kernel)
    clear hdep
    refine run_guard 10 129 (x 10) (by kernel_rfl) (by rw [hops]; exact sbs_dst_10) (by kernel_rfl) e10 ?_; clear hops
    unfold sbsFr
    go_simp
    refine kfit (hK _ _ (Below.refl _ V) rfl) ?_
    first | (simp only [sbsFr, Act.put, List.setIfInBounds_toArray, List.set_cons_zero, List.set_cons_succ, h9, h12, h14, h16, h23, h2, h3, h15, h17, h18, e10]; done) | (simp only [sbsFr, Act.put, List.setIfInBounds_toArray, List.set_cons_zero, List.set_cons_succ, h9, h12, h14, h16, h23, h2, h3, h15, h17, h18, e10]; rfl)
  -- 18: slot 137 := Op.load 34 t15
  refine And.intro ?_ ?_
  · rw [← hf]; clear hf
    refine ⟨by decide +kernel, fun x v => by kernel_rfl, fun x V hV hdep K hK => ?_⟩
    have e10 : x 10 = .bool true := depOf hdep 10 (by decide +kernel)
    clear hdep
    refine run_guard 10 129 (x 10) (by kernel_rfl) (by rw [hops]; exact sbs_dst_10) (by kernel_rfl) e10 ?_; clear hops
    unfold sbsFr
    obtain ⟨⟨y0, y1, y2⟩, y3, y4⟩ := SY.cells hV
    go_simp
    refine kfit (hK _ _ (Below.refl _ V) rfl) ?_
    first | (simp only [sbsFr, Act.put, List.setIfInBounds_toArray, List.set_cons_zero, List.set_cons_succ, h9, h12, h14, h16, h23, h2, h3, h15, h17, h18, e10]; done) | (simp only [sbsFr, Act.put, List.setIfInBounds_toArray, List.set_cons_zero, List.set_cons_succ, h9, h12, h14, h16, h23, h2, h3, h15, h17, h18, e10]; rfl)
  -- 19: slot 138 := Op.call { value (Operand.func 13), args := #[t136, t137], ar
  refine And.intro ?_ ?_
  · rw [← hf]; clear hf
    refine ⟨by decide +kernel, fun x v => by kernel_rfl, fun x V hV hdep K hK => ?_⟩
    have e10 : x 10 = .bool true := depOf hdep 10 (by decide +kernel)
    have e17 : x 17 = uA := depOf hdep 17 (by decide +kernel)
    have e18 : x 18 = .agg #[.int .i64 (t).kind, .string (t).name, .slice pa (t).kids.length ca] := depOf hdep 18 (by decide +kernel)
    clear hdep
    refine run_guard 10 129 (x 10) (by kernel_rfl) (by rw [hops]; exact sbs_dst_10) (by kernel_rfl) e10 ?_; clear hops
    unfold sbsFr
    obtain ⟨HC4, HC7, HC8, HC13, HC15, HC19, HC20, HC21, HC26, HC29, HC30, HC36, HC39, HC40⟩ := HC.out
    clear HC4 HC7 HC8 HC13 HC15 HC20 HC21 HC26 HC29 HC30 HC36 HC39 HC40
    have H := HC19 V hV
    replace H := Lib.hid H; clear HC19
    go_simp
    go_at_call 13
    refine H.out.mono ?_
    rintro e Y ⟨⟨za, zc, rfl, hq⟩, hb⟩; refine kfit (hK _ _ hb ⟨za, zc, rfl, hq⟩) ?_
    first | (simp only [sbsFr, Act.put, List.setIfInBounds_toArray, List.set_cons_zero, List.set_cons_succ, h9, h12, h14, h16, h23, h2, h3, h15, h17, h18, e10, e17, e18]; done) | (simp only [sbsFr, Act.put, List.setIfInBounds_toArray, List.set_cons_zero, List.set_cons_succ, h9, h12, h14, h16, h23, h2, h3, h15, h17, h18, e10, e17, e18]; rfl)
  -- 20: slot 139 := Op.call { value (Operand.func 13), args := #[t135, t138], ar
  refine And.intro ?_ ?_
  · rw [← hf]; clear hf
    refine ⟨by decide +kernel, fun x v => by kernel_rfl, fun x V hV hdep K hK => ?_⟩
    have e10 : x 10 = .bool true := depOf hdep 10 (by decide +kernel)
    have e16 : x 16 = uB := depOf hdep 16 (by decide +kernel)
    obtain ⟨za19, zc19, e19, d19⟩ : ∃ za19 zc19, x 19 = .agg #[.int .i64 (app dA t).kind, .string (app dA t).name, .slice za19 (app dA t).kids.length zc19] ∧ TysAt V (.slice za19 (app dA t).kids.length zc19) (app dA t).kids := depOf hdep 19 (by decide +kernel)
    clear hdep
    refine run_guard 10 129 (x 10) (by kernel_rfl) (by rw [hops]; exact sbs_dst_10) (by kernel_rfl) e10 ?_; clear hops
    unfold sbsFr
    obtain ⟨HC4, HC7, HC8, HC13, HC15, HC19, HC20, HC21, HC26, HC29, HC30, HC36, HC39, HC40⟩ := HC.out
    clear HC4 HC7 HC8 HC13 HC15 HC19 HC21 HC26 HC29 HC30 HC36 HC39 HC40
    have H := HC20 V hV _ _ d19
    replace H := Lib.hid H; clear HC20
    go_simp
    go_at_call 13
    refine H.out.mono ?_
    rintro e Y ⟨⟨za, zc, rfl, hq⟩, hb⟩; refine kfit (hK _ _ hb ⟨za, zc, rfl, hq⟩) ?_
    first | (simp only [sbsFr, Act.put, List.setIfInBounds_toArray, List.set_cons_zero, List.set_cons_succ, h9, h12, h14, h16, h23, h2, h3, h15, h17, h18, e10, e16, e19]; done) | (simp only [sbsFr, Act.put, List.setIfInBounds_toArray, List.set_cons_zero, List.set_cons_succ, h9, h12, h14, h16, h23, h2, h3, h15, h17, h18, e10, e16, e19]; rfl)
  -- 21: slot 140 := Op.call { value (Operand.func 15), args := #[t134, t139], ar
  refine And.intro ?_ ?_
  · rw [← hf]; clear hf
    refine ⟨by decide +kernel, fun x v => by kernel_rfl, fun x V hV hdep K hK => ?_⟩
    have e10 : x 10 = .bool true := depOf hdep 10 (by decide +kernel)
    obtain ⟨za15, zc15, e15, d15⟩ : ∃ za15 zc15, x 15 = .agg #[.int .i64 (app dB (app dA t)).kind, .string (app dB (app dA t)).name, .slice za15 (app dB (app dA t)).kids.length zc15] ∧ TysAt V (.slice za15 (app dB (app dA t)).kids.length zc15) (app dB (app dA t)).kids := depOf hdep 15 (by decide +kernel)
    obtain ⟨za20, zc20, e20, d20⟩ : ∃ za20 zc20, x 20 = .agg #[.int .i64 (app dB (app dA t)).kind, .string (app dB (app dA t)).name, .slice za20 (app dB (app dA t)).kids.length zc20] ∧ TysAt V (.slice za20 (app dB (app dA t)).kids.length zc20) (app dB (app dA t)).kids := depOf hdep 20 (by decide +kernel)
    clear hdep
    refine run_guard 10 129 (x 10) (by kernel_rfl) (by rw [hops]; exact sbs_dst_10) (by kernel_rfl) e10 ?_; clear hops
    unfold sbsFr
    obtain ⟨HC4, HC7, HC8, HC13, HC15, HC19, HC20, HC21, HC26, HC29, HC30, HC36, HC39, HC40⟩ := HC.out
    clear HC4 HC7 HC8 HC13 HC15 HC19 HC20 HC26 HC29 HC30 HC36 HC39 HC40
    have H := HC21 V hV _ _ d15 _ _ d20
    replace H := Lib.hid H; clear HC21
    go_simp
    go_at_call 15
    refine H.out.mono ?_
    rintro e Y ⟨rfl, hb⟩; refine kfit (hK _ _ hb rfl) ?_
    first | (simp only [sbsFr, Act.put, List.setIfInBounds_toArray, List.set_cons_zero, List.set_cons_succ, h9, h12, h14, h16, h23, h2, h3, h15, h17, h18, e10, e15, e20]; done) | (simp only [sbsFr, Act.put, List.setIfInBounds_toArray, List.set_cons_zero, List.set_cons_succ, h9, h12, h14, h16, h23, h2, h3, h15, h17, h18, e10, e15, e20]; rfl)
  -- 22: slot 141 := Op.pick t129 t140 (const (Value.bool false))
  refine And.intro ?_ ?_
  · rw [← hf]; clear hf
    refine ⟨by decide +kernel, fun x v => by kernel_rfl, fun x V hV hdep K hK => ?_⟩
    have e10 : x 10 = .bool true := depOf hdep 10 (by decide +kernel)
    have e21 : x 21 = .bool true := depOf hdep 21 (by decide +kernel)
    clear hdep
    refine run_bare (by kernel_rfl) ?_
    unfold sbsFr
    go_simp
    refine kfit (hK _ _ (Below.refl _ V) rfl) ?_
    first | (simp only [sbsFr, Act.put, List.setIfInBounds_toArray, List.set_cons_zero, List.set_cons_succ, h9, h12, h14, h16, h23, h2, h3, h15, h17, h18, e10, e21]; done) | (simp only [sbsFr, Act.put, List.setIfInBounds_toArray, List.set_cons_zero, List.set_cons_succ, h9, h12, h14, h16, h23, h2, h3, h15, h17, h18, e10, e21]; rfl)
  -- 23: slot 142 := Op.move t141
  refine And.intro ?_ ?_
  · rw [← hf]; clear hf
    refine ⟨by decide +kernel, fun x v => by kernel_rfl, fun x V hV hdep K hK => ?_⟩
    have e22 : x 22 = .bool true := depOf hdep 22 (by decide +kernel)
    clear hdep
    refine run_bare (by kernel_rfl) ?_
    unfold sbsFr
    go_simp
    refine kfit (hK _ _ (Below.refl _ V) rfl) ?_
    first | (simp only [sbsFr, Act.put, List.setIfInBounds_toArray, List.set_cons_zero, List.set_cons_succ, h9, h12, h14, h16, h23, h2, h3, h15, h17, h18, e22]; done) | (simp only [sbsFr, Act.put, List.setIfInBounds_toArray, List.set_cons_zero, List.set_cons_succ, h9, h12, h14, h16, h23, h2, h3, h15, h17, h18, e22]; rfl)
  -- 24: slot 143 := Op.load 39 t17
  refine And.intro ?_ ?_
  · rw [← hf]; clear hf
    refine ⟨by decide +kernel, fun x v => by kernel_rfl, fun x V hV hdep K hK => ?_⟩
    have e23 : x 23 = .bool true := depOf hdep 23 (by decide +kernel)
    clear hdep
    refine run_guard 23 142 (x 23) (by kernel_rfl) (by rw [hops]; exact sbs_dst_23) (by kernel_rfl) e23 ?_; clear hops
    unfold sbsFr
    obtain ⟨⟨y0, y1, y2⟩, y3, y4⟩ := SY.cells hV
    go_simp
    refine kfit (hK _ _ (Below.refl _ V) rfl) ?_
    first | (simp only [sbsFr, Act.put, List.setIfInBounds_toArray, List.set_cons_zero, List.set_cons_succ, h9, h12, h14, h16, h23, h2, h3, h15, h17, h18, e23]; done) | (simp only [sbsFr, Act.put, List.setIfInBounds_toArray, List.set_cons_zero, List.set_cons_succ, h9, h12, h14, h16, h23, h2, h3, h15, h17, h18, e23]; rfl)
  -- 25: slot 144 := Op.move t16
  refine And.intro ?_ ?_
  · rw [← hf]; clear hf
    refine ⟨by decide +kernel, fun x v => by kernel_rfl, fun x V hV hdep K hK => ?_⟩
    have e23 : x 23 = .bool true := depOf hdep 23 (by decide +kernel)
    clear hdep
    refine run_guard 23 142 (x 23) (by kernel_rfl) (by rw [hops]; exact sbs_dst_23) (by kernel_rfl) e23 ?_; clear hops
    unfold sbsFr
    go_simp
    refine kfit (hK _ _ (Below.refl _ V) rfl) ?_
    first | (simp only [sbsFr, Act.put, List.setIfInBounds_toArray, List.set_cons_zero, List.set_cons_succ, h9, h12, h14, h16, h23, h2, h3, h15, h17, h18, e23]; done) | (simp only [sbsFr, Act.put, List.setIfInBounds_toArray, List.set_cons_zero, List.set_cons_succ, h9, h12, h14, h16, h23, h2, h3, h15, h17, h18, e23]; rfl)
  -- 26: slot 145 := Op.call { value (Operand.func 19), args := #[t143, t144], ar
  refine And.intro ?_ ?_
  · rw [← hf]; clear hf
    refine ⟨by decide +kernel, fun x v => by kernel_rfl, fun x V hV hdep K hK => ?_⟩
    have e23 : x 23 = .bool true := depOf hdep 23 (by decide +kernel)
    have e24 : x 24 = .agg #[sx] := depOf hdep 24 (by decide +kernel)
    have e25 : x 25 = pv := depOf hdep 25 (by decide +kernel)
    clear hdep
    refine run_guard 23 142 (x 23) (by kernel_rfl) (by rw [hops]; exact sbs_dst_23) (by kernel_rfl) e23 ?_; clear hops
    unfold sbsFr
    obtain ⟨HC4, HC7, HC8, HC13, HC15, HC19, HC20, HC21, HC26, HC29, HC30, HC36, HC39, HC40⟩ := HC.out
    clear HC4 HC7 HC8 HC13 HC15 HC19 HC20 HC21 HC29 HC30 HC36 HC39 HC40
    have H := HC26 V hV
    replace H := Lib.hid H; clear HC26
    go_simp
    go_at_call 19
    refine H.out.mono ?_
    rintro e Y ⟨⟨za, zc, rfl, hq⟩, hb⟩; refine kfit (hK _ _ hb ⟨za, zc, rfl, hq⟩) ?_
    first | (simp only [sbsFr, Act.put, List.setIfInBounds_toArray, List.set_cons_zero, List.set_cons_succ, h9, h12, h14, h16, h23, h2, h3, h15, h17, h18, e23, e24, e25]; done) | (simp only [sbsFr, Act.put, List.setIfInBounds_toArray, List.set_cons_zero, List.set_cons_succ, h9, h12, h14, h16, h23, h2, h3, h15, h17, h18, e23, e24, e25]; rfl)
  -- 27: slot 146 := Op.move t12
  refine And.intro ?_ ?_
  · rw [← hf]; clear hf
    refine ⟨by decide +kernel, fun x v => by kernel_rfl, fun x V hV hdep K hK => ?_⟩
    have e23 : x 23 = .bool true := depOf hdep 23 (by decide +kernel)
    clear hdep
    refine run_guard 23 142 (x 23) (by kernel_rfl) (by rw [hops]; exact sbs_dst_23) (by kernel_rfl) e23 ?_; clear hops
    unfold sbsFr
    go_simp
    refine kfit (hK _ _ (Below.refl _ V) rfl) ?_
    first | (simp only [sbsFr, Act.put, List.setIfInBounds_toArray, List.set_cons_zero, List.set_cons_succ, h9, h12, h14, h16, h23, h2, h3, h15, h17, h18, e23]; done) | (simp only [sbsFr, Act.put, List.setIfInBounds_toArray, List.set_cons_zero, List.set_cons_succ, h9, h12, h14, h16, h23, h2, h3, h15, h17, h18, e23]; rfl)
  -- 28: slot 147 := Op.move t16
  refine And.intro ?_ ?_
  · rw [← hf]; clear hf
    refine ⟨by decide +kernel, fun x v => by kernel_rfl, fun x V hV hdep K hK => ?_⟩
    have e23 : x 23 = .bool true := depOf hdep 23 (by decide +kernel)
    clear hdep
    refine run_guard 23 142 (x 23) (by kernel_rfl) (by rw [hops]; exact sbs_dst_23) (by kernel_rfl) e23 ?_; clear hops
    unfold sbsFr
    go_simp
    refine kfit (hK _ _ (Below.refl _ V) rfl) ?_
    first | (simp only [sbsFr, Act.put, List.setIfInBounds_toArray, List.set_cons_zero, List.set_cons_succ, h9, h12, h14, h16, h23, h2, h3, h15, h17, h18, e23]; done) | (simp only [sbsFr, Act.put, List.setIfInBounds_toArray, List.set_cons_zero, List.set_cons_succ, h9, h12, h14, h16, h23, h2, h3, h15, h17, h18, e23]; rfl)
  -- 29: slot 148 := Op.call { value (Operand.func 20), args := #[t146, t147], ar
  refine And.intro ?_ ?_
  · rw [← hf]; clear hf
    refine ⟨by decide +kernel, fun x v => by kernel_rfl, fun x V hV hdep K hK => ?_⟩
    have e23 : x 23 = .bool true := depOf hdep 23 (by decide +kernel)
    have e27 : x 27 = uA := depOf hdep 27 (by decide +kernel)
    have e28 : x 28 = pv := depOf hdep 28 (by decide +kernel)
    clear hdep
    refine run_guard 23 142 (x 23) (by kernel_rfl) (by rw [hops]; exact sbs_dst_23) (by kernel_rfl) e23 ?_; clear hops
    unfold sbsFr
    obtain ⟨HC4, HC7, HC8, HC13, HC15, HC19, HC20, HC21, HC26, HC29, HC30, HC36, HC39, HC40⟩ := HC.out
    clear HC4 HC7 HC8 HC13 HC15 HC19 HC20 HC21 HC26 HC30 HC36 HC39 HC40
    have H := HC29 V hV
    replace H := Lib.hid H; clear HC29
    go_simp
    go_at_call 20
    refine H.out.mono ?_
    rintro e Y ⟨⟨za, zc, rfl, hq⟩, hb⟩; refine kfit (hK _ _ hb ⟨za, zc, rfl, hq⟩) ?_
    first | (simp only [sbsFr, Act.put, List.setIfInBounds_toArray, List.set_cons_zero, List.set_cons_succ, h9, h12, h14, h16, h23, h2, h3, h15, h17, h18, e23, e27, e28]; done) | (simp only [sbsFr, Act.put, List.setIfInBounds_toArray, List.set_cons_zero, List.set_cons_succ, h9, h12, h14, h16, h23, h2, h3, h15, h17, h18, e23, e27, e28]; rfl)
  -- 30: slot 149 := Op.call { value (Operand.func 18), args := #[t145, t148], ar
  refine And.intro ?_ ?_
  · rw [← hf]; clear hf
    refine ⟨by decide +kernel, fun x v => by kernel_rfl, fun x V hV hdep K hK => ?_⟩
    have e23 : x 23 = .bool true := depOf hdep 23 (by decide +kernel)
    obtain ⟨za26, zc26, e26, d26⟩ : ∃ za26 zc26, x 26 = .slice za26 pl.length zc26 ∧ PrsAt V (.slice za26 pl.length zc26) (appP dA pl) := depOf hdep 26 (by decide +kernel)
    obtain ⟨za29, zc29, e29, d29⟩ : ∃ za29 zc29, x 29 = .slice za29 pl.length zc29 ∧ PrsAt V (.slice za29 pl.length zc29) (appP dA pl) := depOf hdep 29 (by decide +kernel)
    clear hdep
    refine run_guard 23 142 (x 23) (by kernel_rfl) (by rw [hops]; exact sbs_dst_23) (by kernel_rfl) e23 ?_; clear hops
    unfold sbsFr
    obtain ⟨HC4, HC7, HC8, HC13, HC15, HC19, HC20, HC21, HC26, HC29, HC30, HC36, HC39, HC40⟩ := HC.out
    clear HC4 HC7 HC8 HC13 HC15 HC19 HC20 HC21 HC26 HC29 HC36 HC39 HC40
    have H := HC30 V hV _ _ d26 _ _ d29
    replace H := Lib.hid H; clear HC30
    go_simp
    go_at_call 18
    refine H.out.mono ?_
    rintro e Y ⟨rfl, hb⟩; refine kfit (hK _ _ hb rfl) ?_
    first | (simp only [sbsFr, Act.put, List.setIfInBounds_toArray, List.set_cons_zero, List.set_cons_succ, h9, h12, h14, h16, h23, h2, h3, h15, h17, h18, e23, e26, e29]; done) | (simp only [sbsFr, Act.put, List.setIfInBounds_toArray, List.set_cons_zero, List.set_cons_succ, h9, h12, h14, h16, h23, h2, h3, h15, h17, h18, e23, e26, e29]; rfl)
  -- 31: slot 150 := Op.pick t142 t149 (const (Value.bool false))
  refine And.intro ?_ ?_
  · rw [← hf]; clear hf
    refine ⟨by decide +kernel, fun x v => by kernel_rfl, fun x V hV hdep K hK => ?_⟩
    have e23 : x 23 = .bool true := depOf hdep 23 (by decide +kernel)
    have e30 : x 30 = .bool true := depOf hdep 30 (by decide +kernel)
    clear hdep
    refine run_bare (by kernel_rfl) ?_
    unfold sbsFr
    go_simp
    refine kfit (hK _ _ (Below.refl _ V) rfl) ?_
    first | (simp only [sbsFr, Act.put, List.setIfInBounds_toArray, List.set_cons_zero, List.set_cons_succ, h9, h12, h14, h16, h23, h2, h3, h15, h17, h18, e23, e30]; done) | (simp only [sbsFr, Act.put, List.setIfInBounds_toArray, List.set_cons_zero, List.set_cons_succ, h9, h12, h14, h16, h23, h2, h3, h15, h17, h18, e23, e30]; rfl)
  -- 32: slot 151 := Op.move t150
  refine And.intro ?_ ?_
  · rw [← hf]; clear hf
    refine ⟨by decide +kernel, fun x v => by kernel_rfl, fun x V hV hdep K hK => ?_⟩
    have e31 : x 31 = .bool true := depOf hdep 31 (by decide +kernel)
    clear hdep
    refine run_bare (by kernel_rfl) ?_
    unfold sbsFr
    go_simp
    refine kfit (hK _ _ (Below.refl _ V) rfl) ?_
    first | (simp only [sbsFr, Act.put, List.setIfInBounds_toArray, List.set_cons_zero, List.set_cons_succ, h9, h12, h14, h16, h23, h2, h3, h15, h17, h18, e31]; done) | (simp only [sbsFr, Act.put, List.setIfInBounds_toArray, List.set_cons_zero, List.set_cons_succ, h9, h12, h14, h16, h23, h2, h3, h15, h17, h18, e31]; rfl)
  -- 33: slot 152 := Op.load 34 t15
  refine And.intro ?_ ?_
  · rw [← hf]; clear hf
    refine ⟨by decide +kernel, fun x v => by kernel_rfl, fun x V hV hdep K hK => ?_⟩
    have e32 : x 32 = .bool true := depOf hdep 32 (by decide +kernel)
    clear hdep
    refine run_guard 32 151 (x 32) (by kernel_rfl) (by rw [hops]; exact sbs_dst_32) (by kernel_rfl) e32 ?_; clear hops
    unfold sbsFr
    obtain ⟨⟨y0, y1, y2⟩, y3, y4⟩ := SY.cells hV
    go_simp
    refine kfit (hK _ _ (Below.refl _ V) rfl) ?_
    first | (simp only [sbsFr, Act.put, List.setIfInBounds_toArray, List.set_cons_zero, List.set_cons_succ, h9, h12, h14, h16, h23, h2, h3, h15, h17, h18, e32]; done) | (simp only [sbsFr, Act.put, List.setIfInBounds_toArray, List.set_cons_zero, List.set_cons_succ, h9, h12, h14, h16, h23, h2, h3, h15, h17, h18, e32]; rfl)
  -- 34: slot 153 := Op.move t2
  refine And.intro ?_ ?_
  · rw [← hf]; clear hf
    refine ⟨by decide +kernel, fun x v => by kernel_rfl, fun x V hV hdep K hK => ?_⟩
    have e32 : x 32 = .bool true := depOf hdep 32 (by decide +kernel)
    clear hdep
    refine run_guard 32 151 (x 32) (by kernel_rfl) (by rw [hops]; exact sbs_dst_32) (by kernel_rfl) e32 ?_; clear hops
    unfold sbsFr
    go_simp
    refine kfit (hK _ _ (Below.refl _ V) rfl) ?_
    first | (simp only [sbsFr, Act.put, List.setIfInBounds_toArray, List.set_cons_zero, List.set_cons_succ, h9, h12, h14, h16, h23, h2, h3, h15, h17, h18, e32]; done) | (simp only [sbsFr, Act.put, List.setIfInBounds_toArray, List.set_cons_zero, List.set_cons_succ, h9, h12, h14, h16, h23, h2, h3, h15, h17, h18, e32]; rfl)
  -- 35: slot 154 := Op.move t3
  refine And.intro ?_ ?_
  · rw [← hf]; clear hf
    refine ⟨by decide +kernel, fun x v => by kernel_rfl, fun x V hV hdep K hK => ?_⟩
    have e32 : x 32 = .bool true := depOf hdep 32 (by decide +kernel)
    clear hdep
    refine run_guard 32 151 (x 32) (by kernel_rfl) (by rw [hops]; exact sbs_dst_32) (by kernel_rfl) e32 ?_; clear hops
    unfold sbsFr
    go_simp
    refine kfit (hK _ _ (Below.refl _ V) rfl) ?_
    first | (simp only [sbsFr, Act.put, List.setIfInBounds_toArray, List.set_cons_zero, List.set_cons_succ, h9, h12, h14, h16, h23, h2, h3, h15, h17, h18, e32]; done) | (simp only [sbsFr, Act.put, List.setIfInBounds_toArray, List.set_cons_zero, List.set_cons_succ, h9, h12, h14, h16, h23, h2, h3, h15, h17, h18, e32]; rfl)
  -- 36: slot 155 := Op.call { value (Operand.func 21), args := #[t152, t153, t15
  refine And.intro ?_ ?_
  · rw [← hf]; clear hf
    refine ⟨by decide +kernel, fun x v => by kernel_rfl, fun x V hV hdep K hK => ?_⟩
    have e32 : x 32 = .bool true := depOf hdep 32 (by decide +kernel)
    have e33 : x 33 = .agg #[.int .i64 (t).kind, .string (t).name, .slice pa (t).kids.length ca] := depOf hdep 33 (by decide +kernel)
    have e34 : x 34 = fv := depOf hdep 34 (by decide +kernel)
    have e35 : x 35 = gv := depOf hdep 35 (by decide +kernel)
    clear hdep
    refine run_guard 32 151 (x 32) (by kernel_rfl) (by rw [hops]; exact sbs_dst_32) (by kernel_rfl) e32 ?_; clear hops
    unfold sbsFr
    obtain ⟨HC4, HC7, HC8, HC13, HC15, HC19, HC20, HC21, HC26, HC29, HC30, HC36, HC39, HC40⟩ := HC.out
    clear HC4 HC7 HC8 HC13 HC15 HC19 HC20 HC21 HC26 HC29 HC30 HC39 HC40
    have H := HC36 V hV
    replace H := Lib.hid H; clear HC36
    go_simp
    go_at_call 21
    refine H.out.mono ?_
    rintro e Y ⟨⟨za, zc, rfl, hq⟩, hb⟩; refine kfit (hK _ _ hb ⟨za, zc, rfl, hq⟩) ?_
    first | (simp only [sbsFr, Act.put, List.setIfInBounds_toArray, List.set_cons_zero, List.set_cons_succ, h9, h12, h14, h16, h23, h2, h3, h15, h17, h18, e32, e33, e34, e35]; done) | (simp only [sbsFr, Act.put, List.setIfInBounds_toArray, List.set_cons_zero, List.set_cons_succ, h9, h12, h14, h16, h23, h2, h3, h15, h17, h18, e32, e33, e34, e35]; rfl)
  -- 37: slot 156 := Op.move t23
  refine And.intro ?_ ?_
  · rw [← hf]; clear hf
    refine ⟨by decide +kernel, fun x v => by kernel_rfl, fun x V hV hdep K hK => ?_⟩
    have e32 : x 32 = .bool true := depOf hdep 32 (by decide +kernel)
    clear hdep
    refine run_guard 32 151 (x 32) (by kernel_rfl) (by rw [hops]; exact sbs_dst_32) (by kernel_rfl) e32 ?_; clear hops
    unfold sbsFr
    go_simp
    refine kfit (hK _ _ (Below.refl _ V) rfl) ?_
    first | (simp only [sbsFr, Act.put, List.setIfInBounds_toArray, List.set_cons_zero, List.set_cons_succ, h9, h12, h14, h16, h23, h2, h3, h15, h17, h18, e32]; done) | (simp only [sbsFr, Act.put, List.setIfInBounds_toArray, List.set_cons_zero, List.set_cons_succ, h9, h12, h14, h16, h23, h2, h3, h15, h17, h18, e32]; rfl)
  -- 38: slot 157 := Op.load 34 t15
  refine And.intro ?_ ?_
  · rw [← hf]; clear hf
    refine ⟨by decide +kernel, fun x v => by kernel_rfl, fun x V hV hdep K hK => ?_⟩
    have e32 : x 32 = .bool true := depOf hdep 32 (by decide +kernel)
    clear hdep
    refine run_guard 32 151 (x 32) (by kernel_rfl) (by rw [hops]; exact sbs_dst_32) (by kernel_rfl) e32 ?_; clear hops
    unfold sbsFr
    obtain ⟨⟨y0, y1, y2⟩, y3, y4⟩ := SY.cells hV
    go_simp
    refine kfit (hK _ _ (Below.refl _ V) rfl) ?_
    first | (simp only [sbsFr, Act.put, List.setIfInBounds_toArray, List.set_cons_zero, List.set_cons_succ, h9, h12, h14, h16, h23, h2, h3, h15, h17, h18, e32]; done) | (simp only [sbsFr, Act.put, List.setIfInBounds_toArray, List.set_cons_zero, List.set_cons_succ, h9, h12, h14, h16, h23, h2, h3, h15, h17, h18, e32]; rfl)
  -- 39: slot 158 := Op.call { value (Operand.func 13), args := #[t156, t157], ar
  refine And.intro ?_ ?_
  · rw [← hf]; clear hf
    refine ⟨by decide +kernel, fun x v => by kernel_rfl, fun x V hV hdep K hK => ?_⟩
    have e32 : x 32 = .bool true := depOf hdep 32 (by decide +kernel)
    have e37 : x 37 = vb := depOf hdep 37 (by decide +kernel)
    have e38 : x 38 = .agg #[.int .i64 (t).kind, .string (t).name, .slice pa (t).kids.length ca] := depOf hdep 38 (by decide +kernel)
    clear hdep
    refine run_guard 32 151 (x 32) (by kernel_rfl) (by rw [hops]; exact sbs_dst_32) (by kernel_rfl) e32 ?_; clear hops
    unfold sbsFr
    obtain ⟨HC4, HC7, HC8, HC13, HC15, HC19, HC20, HC21, HC26, HC29, HC30, HC36, HC39, HC40⟩ := HC.out
    clear HC4 HC7 HC8 HC13 HC15 HC19 HC20 HC21 HC26 HC29 HC30 HC36 HC40
    have H := HC39 V hV
    replace H := Lib.hid H; clear HC39
    go_simp
    go_at_call 13
    refine H.out.mono ?_
    rintro e Y ⟨⟨za, zc, rfl, hq⟩, hb⟩; refine kfit (hK _ _ hb ⟨za, zc, rfl, hq⟩) ?_
    first | (simp only [sbsFr, Act.put, List.setIfInBounds_toArray, List.set_cons_zero, List.set_cons_succ, h9, h12, h14, h16, h23, h2, h3, h15, h17, h18, e32, e37, e38]; done) | (simp only [sbsFr, Act.put, List.setIfInBounds_toArray, List.set_cons_zero, List.set_cons_succ, h9, h12, h14, h16, h23, h2, h3, h15, h17, h18, e32, e37, e38]; rfl)
  -- 40: slot 159 := Op.call { value (Operand.func 15), args := #[t155, t158], ar
  refine And.intro ?_ ?_
  · rw [← hf]; clear hf
    refine ⟨by decide +kernel, fun x v => by kernel_rfl, fun x V hV hdep K hK => ?_⟩
    have e32 : x 32 = .bool true := depOf hdep 32 (by decide +kernel)
    obtain ⟨za36, zc36, e36, d36⟩ : ∃ za36 zc36, x 36 = .agg #[.int .i64 (app (prs F G) t).kind, .string (app (prs F G) t).name, .slice za36 (app (prs F G) t).kids.length zc36] ∧ TysAt V (.slice za36 (app (prs F G) t).kids.length zc36) (app (prs F G) t).kids := depOf hdep 36 (by decide +kernel)
    obtain ⟨za39, zc39, e39, d39⟩ : ∃ za39 zc39, x 39 = .agg #[.int .i64 (app (prs F G) t).kind, .string (app (prs F G) t).name, .slice za39 (app (prs F G) t).kids.length zc39] ∧ TysAt V (.slice za39 (app (prs F G) t).kids.length zc39) (app (prs F G) t).kids := depOf hdep 39 (by decide +kernel)
    clear hdep
    refine run_guard 32 151 (x 32) (by kernel_rfl) (by rw [hops]; exact sbs_dst_32) (by kernel_rfl) e32 ?_; clear hops
    unfold sbsFr
    obtain ⟨HC4, HC7, HC8, HC13, HC15, HC19, HC20, HC21, HC26, HC29, HC30, HC36, HC39, HC40⟩ := HC.out
    clear HC4 HC7 HC8 HC13 HC15 HC19 HC20 HC21 HC26 HC29 HC30 HC36 HC39
    have H := HC40 V hV _ _ d36 _ _ d39
    replace H := Lib.hid H; clear HC40
    go_simp
    go_at_call 15
    refine H.out.mono ?_
    rintro e Y ⟨rfl, hb⟩; refine kfit (hK _ _ hb rfl) ?_
    first | (simp only [sbsFr, Act.put, List.setIfInBounds_toArray, List.set_cons_zero, List.set_cons_succ, h9, h12, h14, h16, h23, h2, h3, h15, h17, h18, e32, e36, e39]; done) | (simp only [sbsFr, Act.put, List.setIfInBounds_toArray, List.set_cons_zero, List.set_cons_succ, h9, h12, h14, h16, h23, h2, h3, h15, h17, h18, e32, e36, e39]; rfl)
  -- 41: slot 160 := Op.pick t151 t159 (const (Value.bool false))
  refine And.intro ?_ ?_
  · rw [← hf]; clear hf
    refine ⟨by decide +kernel, fun x v => by kernel_rfl, fun x V hV hdep K hK => ?_⟩
    have e32 : x 32 = .bool true := depOf hdep 32 (by decide +kernel)
    have e40 : x 40 = .bool true := depOf hdep 40 (by decide +kernel)
    clear hdep
    refine run_bare (by kernel_rfl) ?_
    unfold sbsFr
    go_simp
    refine kfit (hK _ _ (Below.refl _ V) rfl) ?_
    first | (simp only [sbsFr, Act.put, List.setIfInBounds_toArray, List.set_cons_zero, List.set_cons_succ, h9, h12, h14, h16, h23, h2, h3, h15, h17, h18, e32, e40]; done) | (simp only [sbsFr, Act.put, List.setIfInBounds_toArray, List.set_cons_zero, List.set_cons_succ, h9, h12, h14, h16, h23, h2, h3, h15, h17, h18, e32, e40]; rfl)
  -- 42: slot 8 := Op.assign t160
  refine And.intro ?_ ?_
  · rw [← hf]; clear hf
    refine ⟨by decide +kernel, fun x v => by kernel_rfl, fun x V hV hdep K hK => ?_⟩
    have e41 : x 41 = .bool true := depOf hdep 41 (by decide +kernel)
    clear hdep
    refine run_bare (by kernel_rfl) ?_
    unfold sbsFr
    go_simp
    refine kfit (hK _ _ (Below.refl _ V) rfl) ?_
    first | (simp only [sbsFr, Act.put, List.setIfInBounds_toArray, List.set_cons_zero, List.set_cons_succ, h9, h12, h14, h16, h23, h2, h3, h15, h17, h18, e41]; done) | (simp only [sbsFr, Act.put, List.setIfInBounds_toArray, List.set_cons_zero, List.set_cons_succ, h9, h12, h14, h16, h23, h2, h3, h15, h17, h18, e41]; rfl)
  exact trivial
theorem sbs_here {w : World} {bt bs bu : Nat} {t : T} {pa : Option Addr} {ca : Nat} {uA uB : Value} {dA dB : List PR} {pv : Value} {pl : List Pr} {fv gv : Value} {F G : List ByteArray} {sx sy : Value} {lx ly : List PR} {vb : Value} {q : List PR}
    (HC4 : ∀ V, SY w bt bs bu t pa ca uA uB dA dB pv pl fv gv F G sx sy lx ly vb q V → Calls Try.prog 16 #[.agg #[sx], .agg #[.int .i64 (t).kind, .string (t).name, .slice pa (t).kids.length ca]] V fun e Y => (∃ za zc, e = .returned (.agg #[.int .i64 (app dA t).kind, .string (app dA t).name, .slice za (app dA t).kids.length zc]) ∧ TysAt Y (.slice za (app dA t).kids.length zc) (app dA t).kids) ∧ Below V.heap.size V Y)
    (HC7 : ∀ V, SY w bt bs bu t pa ca uA uB dA dB pv pl fv gv F G sx sy lx ly vb q V → Calls Try.prog 13 #[uA, .agg #[.int .i64 (t).kind, .string (t).name, .slice pa (t).kids.length ca]] V fun e Y => (∃ za zc, e = .returned (.agg #[.int .i64 (app dA t).kind, .string (app dA t).name, .slice za (app dA t).kids.length zc]) ∧ TysAt Y (.slice za (app dA t).kids.length zc) (app dA t).kids) ∧ Below V.heap.size V Y)
    (HC8 : ∀ V, SY w bt bs bu t pa ca uA uB dA dB pv pl fv gv F G sx sy lx ly vb q V → ∀ za4, ∀ zc4, TysAt V (.slice za4 (app dA t).kids.length zc4) (app dA t).kids → ∀ za7, ∀ zc7, TysAt V (.slice za7 (app dA t).kids.length zc7) (app dA t).kids → Calls Try.prog 15 #[.agg #[.int .i64 (app dA t).kind, .string (app dA t).name, .slice za4 (app dA t).kids.length zc4], .agg #[.int .i64 (app dA t).kind, .string (app dA t).name, .slice za7 (app dA t).kids.length zc7]] V fun e Y => e = .returned (.bool true) ∧ Below V.heap.size V Y)
    (HC13 : ∀ V, SY w bt bs bu t pa ca uA uB dA dB pv pl fv gv F G sx sy lx ly vb q V → Calls Try.prog 17 #[.agg #[sx], .agg #[sy]] V fun e Y => (∃ zv zl, e = .returned (.agg #[zv]) ∧ (SubAt zv zl Y ∧ Sb 3136 8 (fun t => app dB (app dA t)) zl)) ∧ Below V.heap.size V Y)
    (HC15 : ∀ V, SY w bt bs bu t pa ca uA uB dA dB pv pl fv gv F G sx sy lx ly vb q V → ∀ zv13, ∀ zl13, (SubAt zv13 zl13 V ∧ Sb 3136 8 (fun t => app dB (app dA t)) zl13) → Calls Try.prog 16 #[.agg #[zv13], .agg #[.int .i64 (t).kind, .string (t).name, .slice pa (t).kids.length ca]] V fun e Y => (∃ za zc, e = .returned (.agg #[.int .i64 (app dB (app dA t)).kind, .string (app dB (app dA t)).name, .slice za (app dB (app dA t)).kids.length zc]) ∧ TysAt Y (.slice za (app dB (app dA t)).kids.length zc) (app dB (app dA t)).kids) ∧ Below V.heap.size V Y)
    (HC19 : ∀ V, SY w bt bs bu t pa ca uA uB dA dB pv pl fv gv F G sx sy lx ly vb q V → Calls Try.prog 13 #[uA, .agg #[.int .i64 (t).kind, .string (t).name, .slice pa (t).kids.length ca]] V fun e Y => (∃ za zc, e = .returned (.agg #[.int .i64 (app dA t).kind, .string (app dA t).name, .slice za (app dA t).kids.length zc]) ∧ TysAt Y (.slice za (app dA t).kids.length zc) (app dA t).kids) ∧ Below V.heap.size V Y)
    (HC20 : ∀ V, SY w bt bs bu t pa ca uA uB dA dB pv pl fv gv F G sx sy lx ly vb q V → ∀ za19, ∀ zc19, TysAt V (.slice za19 (app dA t).kids.length zc19) (app dA t).kids → Calls Try.prog 13 #[uB, .agg #[.int .i64 (app dA t).kind, .string (app dA t).name, .slice za19 (app dA t).kids.length zc19]] V fun e Y => (∃ za zc, e = .returned (.agg #[.int .i64 (app dB (app dA t)).kind, .string (app dB (app dA t)).name, .slice za (app dB (app dA t)).kids.length zc]) ∧ TysAt Y (.slice za (app dB (app dA t)).kids.length zc) (app dB (app dA t)).kids) ∧ Below V.heap.size V Y)
    (HC21 : ∀ V, SY w bt bs bu t pa ca uA uB dA dB pv pl fv gv F G sx sy lx ly vb q V → ∀ za15, ∀ zc15, TysAt V (.slice za15 (app dB (app dA t)).kids.length zc15) (app dB (app dA t)).kids → ∀ za20, ∀ zc20, TysAt V (.slice za20 (app dB (app dA t)).kids.length zc20) (app dB (app dA t)).kids → Calls Try.prog 15 #[.agg #[.int .i64 (app dB (app dA t)).kind, .string (app dB (app dA t)).name, .slice za15 (app dB (app dA t)).kids.length zc15], .agg #[.int .i64 (app dB (app dA t)).kind, .string (app dB (app dA t)).name, .slice za20 (app dB (app dA t)).kids.length zc20]] V fun e Y => e = .returned (.bool true) ∧ Below V.heap.size V Y)
    (HC26 : ∀ V, SY w bt bs bu t pa ca uA uB dA dB pv pl fv gv F G sx sy lx ly vb q V → Calls Try.prog 19 #[.agg #[sx], pv] V fun e Y => (∃ za zc, e = .returned (.slice za pl.length zc) ∧ PrsAt Y (.slice za pl.length zc) (appP dA pl)) ∧ Below V.heap.size V Y)
    (HC29 : ∀ V, SY w bt bs bu t pa ca uA uB dA dB pv pl fv gv F G sx sy lx ly vb q V → Calls Try.prog 20 #[uA, pv] V fun e Y => (∃ za zc, e = .returned (.slice za pl.length zc) ∧ PrsAt Y (.slice za pl.length zc) (appP dA pl)) ∧ Below V.heap.size V Y)
    (HC30 : ∀ V, SY w bt bs bu t pa ca uA uB dA dB pv pl fv gv F G sx sy lx ly vb q V → ∀ za26, ∀ zc26, PrsAt V (.slice za26 pl.length zc26) (appP dA pl) → ∀ za29, ∀ zc29, PrsAt V (.slice za29 pl.length zc29) (appP dA pl) → Calls Try.prog 18 #[.slice za26 pl.length zc26, .slice za29 pl.length zc29] V fun e Y => e = .returned (.bool true) ∧ Below V.heap.size V Y)
    (HC36 : ∀ V, SY w bt bs bu t pa ca uA uB dA dB pv pl fv gv F G sx sy lx ly vb q V → Calls Try.prog 21 #[.agg #[.int .i64 (t).kind, .string (t).name, .slice pa (t).kids.length ca], fv, gv] V fun e Y => (∃ za zc, e = .returned (.agg #[.int .i64 (app (prs F G) t).kind, .string (app (prs F G) t).name, .slice za (app (prs F G) t).kids.length zc]) ∧ TysAt Y (.slice za (app (prs F G) t).kids.length zc) (app (prs F G) t).kids) ∧ Below V.heap.size V Y)
    (HC39 : ∀ V, SY w bt bs bu t pa ca uA uB dA dB pv pl fv gv F G sx sy lx ly vb q V → Calls Try.prog 13 #[vb, .agg #[.int .i64 (t).kind, .string (t).name, .slice pa (t).kids.length ca]] V fun e Y => (∃ za zc, e = .returned (.agg #[.int .i64 (app (prs F G) t).kind, .string (app (prs F G) t).name, .slice za (app (prs F G) t).kids.length zc]) ∧ TysAt Y (.slice za (app (prs F G) t).kids.length zc) (app (prs F G) t).kids) ∧ Below V.heap.size V Y)
    (HC40 : ∀ V, SY w bt bs bu t pa ca uA uB dA dB pv pl fv gv F G sx sy lx ly vb q V → ∀ za36, ∀ zc36, TysAt V (.slice za36 (app (prs F G) t).kids.length zc36) (app (prs F G) t).kids → ∀ za39, ∀ zc39, TysAt V (.slice za39 (app (prs F G) t).kids.length zc39) (app (prs F G) t).kids → Calls Try.prog 15 #[.agg #[.int .i64 (app (prs F G) t).kind, .string (app (prs F G) t).name, .slice za36 (app (prs F G) t).kids.length zc36], .agg #[.int .i64 (app (prs F G) t).kind, .string (app (prs F G) t).name, .slice za39 (app (prs F G) t).kids.length zc39]] V fun e Y => e = .returned (.bool true) ∧ Below V.heap.size V Y)
    {Q : Exit → Act → World → Prop} {ops : Array Oper} {a : Act} (X : World) (hops : ops = sbsOps)
    (h9 : a.tmps.getD 9 undef = .bool true) (h12 : a.tmps.getD 12 undef = uA) (h14 : a.tmps.getD 14 undef = uB) (h16 : a.tmps.getD 16 undef = pv) (h23 : a.tmps.getD 23 undef = vb) (h2 : a.tmps.getD 2 undef = fv) (h3 : a.tmps.getD 3 undef = gv) (h15 : a.tmps.getD 15 undef = .pointer (some ⟨bt, 0, none⟩)) (h17 : a.tmps.getD 17 undef = .pointer (some ⟨bs, 0, none⟩)) (h18 : a.tmps.getD 18 undef = .pointer (some ⟨bu, 0, none⟩))
    (ha : a = sbsFr (fun j => a.tmps.getD j undef) a.defers (fun i => a.tmps.getD (if i = 42 then 8 else 119 + i) undef)) (hS : SY w bt bs bu t pa ca uA uB dA dB pv pl fv gv F G sx sy lx ly vb q X.drew)
    (hfin : ∀ x V, SY w bt bs bu t pa ca uA uB dA dB pv pl fv gv F G sx sy lx ly vb q V → x 42 = .bool true → Q .normal (sbsFr (fun j => a.tmps.getD j undef) a.defers x) V) : (Code.region 23 ops true).wp Try.prog Q a X :=
  cast (congrArg (fun z => (Code.region 23 ops true).wp Try.prog Q z X) ha.symm) (sbs_region (b := fun j => a.tmps.getD j undef) (d := a.defers) h9 h12 h14 h16 h23 h2 h3 h15 h17 h18 HC4 HC7 HC8 HC13 HC15 HC19 HC20 HC21 HC26 HC29 HC30 HC36 HC39 HC40 hops _ X hS hfin)
end Go.Proofs.Ytmbaolcdjgilpaa
