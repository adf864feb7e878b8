/- SubstPairs: its last statement, a region of 30 operations that draws its order, by an invariant. (Made by a program.) -/
import Derived.Test.YtmbaolcdjgilpaaSbPairsE
namespace Go.Proofs.Ytmbaolcdjgilpaa
open Go.RowKit Go.Sort Go.Lib
attribute [local go_sem] Oper.semAt_some

noncomputable def prsOps : Array Oper := regionIn 23 (Try.f4.body.getD .skip)
def prsFr (b : Nat → Value) (d : List Deferred) (x : Nat → Value) : Act := { tmps := #[b 0, b 1, b 2, b 3, b 4, b 5, b 6, b 7, b 8, b 9, b 10, b 11, b 12, b 13, b 14, b 15, b 16, b 17, b 18, b 19, b 20, b 21, b 22, b 23, b 24, b 25, b 26, b 27, b 28, b 29, b 30, b 31, b 32, b 33, b 34, b 35, b 36, b 37, b 38, b 39, b 40, b 41, b 42, b 43, b 44, b 45, b 46, b 47, b 48, b 49, b 50, b 51, b 52, b 53, b 54, b 55, b 56, b 57, b 58, b 59, b 60, b 61, b 62, b 63, b 64, b 65, b 66, b 67, b 68, b 69, b 70, b 71, b 72, b 73, b 74, b 75, b 76, b 77, b 78, b 79, b 80, b 81, b 82, x 0, x 1, x 2, x 3, x 4, x 5, x 6, x 7, x 8, x 9, x 10, x 11, x 12, x 13, x 14, x 15, x 16, x 17, x 18, x 19, x 20, x 21, x 22, x 23, x 24, x 25, x 26, x 27, x 28], defers := d }

def prsVals (t : T) (pa xa qa : Option Addr) (ca xc qc : Nat) (ls : List PR) (i : Nat) (v : Value) (V : World) : Prop :=
  match i with
  | 0 => v = .bool true
  | 1 => v = .bool true
  | 2 => v = .int .i64 (ls.length : Int)
  | 3 => v = .agg #[.slice xa ls.length xc]
  | 4 => v = .int .i64 (ls.length : Int)
  | 5 => v = .bool true
  | 6 => v = .bool true
  | 7 => v = .bool true
  | 8 => v = .slice qa ls.length qc
  | 9 => ∃ zv zl, v = .agg #[zv] ∧ (SubAt zv zl V ∧ Sb 56 4 (app ls) zl)
  | 10 => v = .agg #[.int .i64 (t).kind, .string (t).name, .slice pa (t).kids.length ca]
  | 11 => ∃ za zc, v = .agg #[.int .i64 (app ls t).kind, .string (app ls t).name, .slice za (app ls t).kids.length zc] ∧ TysAt V (.slice za (app ls t).kids.length zc) (app ls t).kids
  | 12 => v = .agg #[.slice xa ls.length xc]
  | 13 => v = .agg #[.int .i64 (t).kind, .string (t).name, .slice pa (t).kids.length ca]
  | 14 => ∃ za zc, v = .agg #[.int .i64 (app ls t).kind, .string (app ls t).name, .slice za (app ls t).kids.length zc] ∧ TysAt V (.slice za (app ls t).kids.length zc) (app ls t).kids
  | 15 => v = .bool true
  | 16 => v = .bool true
  | 17 => v = .bool true
  | 18 => v = .agg #[nilV]
  | 19 => v = .agg #[.int .i64 (t).kind, .string (t).name, .slice pa (t).kids.length ca]
  | 20 => ∃ za zc, v = .agg #[.int .i64 (t).kind, .string (t).name, .slice za (t).kids.length zc] ∧ TysAt V (.slice za (t).kids.length zc) (t).kids
  | 21 => v = .agg #[.int .i64 (t).kind, .string (t).name, .slice pa (t).kids.length ca]
  | 22 => v = .bool true
  | 23 => v = .bool true
  | 24 => v = .bool true
  | 25 => v = .agg #[nilV]
  | 26 => v = .int .i64 (0 : Int)
  | 27 => v = .bool true
  | 28 => v = .bool true
  | _ => True

theorem prsVals_keep {t : T} {pa xa qa : Option Addr} {ca xc qc : Nat} {ls : List PR} (i : Nat) (v : Value) (V Y : World) (h : prsVals t pa xa qa ca xc qc ls i v V) (hb : Below V.heap.size V Y) : prsVals t pa xa qa ca xc qc ls i v Y := by
  unfold prsVals at *
  split at h <;> first
    | exact h
    | (obtain ⟨zv, zl, e, h⟩ := h; exact ⟨zv, zl, e, ⟨h.1.below hb, h.2⟩⟩)
    | (obtain ⟨za, zc, e, h⟩ := h; exact ⟨za, zc, e, h.keep (KeepT.of_below hb)⟩)

theorem prs_size : prsOps.size = 30 := by kernel_rfl
theorem prs_cov : covered prsOps 29 = true := by kernel_rfl
theorem prs_dst_1 : (prsOps[1]?).bind (·.dst) = some 84 := by kernel_rfl
theorem prs_dst_7 : (prsOps[7]?).bind (·.dst) = some 90 := by kernel_rfl
theorem prs_dst_17 : (prsOps[17]?).bind (·.dst) = some 100 := by kernel_rfl
theorem prs_dst_24 : (prsOps[24]?).bind (·.dst) = some 107 := by kernel_rfl
set_option linter.unusedSimpArgs false in
set_option maxRecDepth 100000 in
set_option maxHeartbeats 8000000 in
theorem prs_region {w : World} {bt bs bn D : Nat} {t : T} {pa xa qa : Option Addr} {ca xc qc : Nat} {ls q : List PR} {b : Nat → Value} {d : List Deferred}
    (h3 : b 3 = .bool true) (h2 : b 2 = .pointer (some ⟨w.heap.size, 0, none⟩)) (h7 : b 7 = .pointer (some ⟨bt, 0, none⟩)) (h8 : b 8 = .pointer (some ⟨bs, 0, none⟩)) (h9 : b 9 = .pointer (some ⟨bs + 1, 0, none⟩)) (h11 : b 11 = .pointer (some ⟨bs + 1 + 1 + 1, 0, none⟩)) (h16 : b 16 = .pointer (some ⟨bn, 0, none⟩))
    (HC4 : ∀ V, EP w bt bs bn D t pa ca xa xc ls qa qc q V → Calls Try.prog 23 #[.agg #[.slice xa ls.length xc]] V fun e Y => e = .returned (.int .i64 (ls.length : Int)) ∧ Below V.heap.size V Y)
    (HC9 : ∀ V, EP w bt bs bn D t pa ca xa xc ls qa qc q V → Calls Try.prog 11 #[.slice qa ls.length qc] V fun e Y => (∃ zv zl, e = .returned (.agg #[zv]) ∧ (SubAt zv zl Y ∧ Sb 56 4 (app ls) zl)) ∧ Below V.heap.size V Y)
    (HC11 : ∀ V, EP w bt bs bn D t pa ca xa xc ls qa qc q V → ∀ zv9, ∀ zl9, (SubAt zv9 zl9 V ∧ Sb 56 4 (app ls) zl9) → Calls Try.prog 16 #[.agg #[zv9], .agg #[.int .i64 (t).kind, .string (t).name, .slice pa (t).kids.length ca]] V fun e Y => (∃ za zc, e = .returned (.agg #[.int .i64 (app ls t).kind, .string (app ls t).name, .slice za (app ls t).kids.length zc]) ∧ TysAt Y (.slice za (app ls t).kids.length zc) (app ls t).kids) ∧ Below V.heap.size V Y)
    (HC14 : ∀ V, EP w bt bs bn D t pa ca xa xc ls qa qc q V → Calls Try.prog 16 #[.agg #[.slice xa ls.length xc], .agg #[.int .i64 (t).kind, .string (t).name, .slice pa (t).kids.length ca]] V fun e Y => (∃ za zc, e = .returned (.agg #[.int .i64 (app ls t).kind, .string (app ls t).name, .slice za (app ls t).kids.length zc]) ∧ TysAt Y (.slice za (app ls t).kids.length zc) (app ls t).kids) ∧ Below V.heap.size V Y)
    (HC15 : ∀ V, EP w bt bs bn D t pa ca xa xc ls qa qc q V → ∀ za11, ∀ zc11, TysAt V (.slice za11 (app ls t).kids.length zc11) (app ls t).kids → ∀ za14, ∀ zc14, TysAt V (.slice za14 (app ls t).kids.length zc14) (app ls t).kids → Calls Try.prog 15 #[.agg #[.int .i64 (app ls t).kind, .string (app ls t).name, .slice za11 (app ls t).kids.length zc11], .agg #[.int .i64 (app ls t).kind, .string (app ls t).name, .slice za14 (app ls t).kids.length zc14]] V fun e Y => e = .returned (.bool true) ∧ Below V.heap.size V Y)
    (HC20 : ∀ V, EP w bt bs bn D t pa ca xa xc ls qa qc q V → Calls Try.prog 16 #[.agg #[nilV], .agg #[.int .i64 (t).kind, .string (t).name, .slice pa (t).kids.length ca]] V fun e Y => (∃ za zc, e = .returned (.agg #[.int .i64 (t).kind, .string (t).name, .slice za (t).kids.length zc]) ∧ TysAt Y (.slice za (t).kids.length zc) (t).kids) ∧ Below V.heap.size V Y)
    (HC22 : ∀ V, EP w bt bs bn D t pa ca xa xc ls qa qc q V → ∀ za20, ∀ zc20, TysAt V (.slice za20 (t).kids.length zc20) (t).kids → Calls Try.prog 15 #[.agg #[.int .i64 (t).kind, .string (t).name, .slice za20 (t).kids.length zc20], .agg #[.int .i64 (t).kind, .string (t).name, .slice pa (t).kids.length ca]] V fun e Y => e = .returned (.bool true) ∧ Below V.heap.size V Y)
    (HC26 : ∀ V, EP w bt bs bn D t pa ca xa xc ls qa qc q V → Calls Try.prog 23 #[.agg #[nilV]] V fun e Y => e = .returned (.int .i64 (0 : Int)) ∧ Below V.heap.size V Y)
    {Q : Exit → Act → World → Prop} {ops : Array Oper} (hops : ops = prsOps) (x0 : Nat → Value) (X : World) (hS : EP w bt bs bn D t pa ca xa xc ls qa qc q X.drew)
    (hfin : ∀ x V, EP w bt bs bn D t pa ca xa xc ls qa qc q V → x 28 = .bool true → Q .normal (prsFr b d x) (V.setCell ⟨w.heap.size, 0, none⟩ (.bool true))) : (Code.region 23 ops true).wp Try.prog Q (prsFr b d x0) X := by
  have HC := Lib.hid (And.intro HC4 (And.intro HC9 (And.intro HC11 (And.intro HC14 (And.intro HC15 (And.intro HC20 (And.intro HC22 HC26)))))))
  clear HC4 HC9 HC11 HC14 HC15 HC20 HC22 HC26
  have hszo : ops.size = 29 + 1 := by rw [hops]; exact prs_size
  have hcovo : covered ops 29 = true := by rw [hops]; exact prs_cov
  refine region_last (prsFr b d) (fun V => EP w bt bs bn D t pa ca xa xc ls qa qc q V) (fun V Y => Below V.heap.size V Y) (prsVals t pa xa qa ca xc qc ls) x0 29 (by kernel_rfl) rfl hS hszo hcovo (fun V Y h hb => h.below hb) (fun i v V Y _ h hb => prsVals_keep i v V Y h hb) ?_
  have HFIN := Lib.hid hfin
  clear hfin hS hszo hcovo
  obtain ⟨gl, hgl⟩ : ∃ g, LastAt Try.prog (prsFr b d) (fun V => EP w bt bs bn D t pa ca xa xc ls qa qc q V) (prsVals t pa xa qa ca xc qc ls) ops Q 29 = g := ⟨_, rfl⟩
  rw [hgl]
  obtain ⟨f, hf⟩ : ∃ f, StepAt Try.prog (prsFr b d) (fun V => EP w bt bs bn D t pa ca xa xc ls qa qc q V) (fun V Y => Below V.heap.size V Y) (prsVals t pa xa qa ca xc qc ls) ops Q = f := ⟨_, rfl⟩
  rw [hf, hops]
  simp only [prsOps, Try.f4, regionIn, Option.getD_some, Nat.reduceBEq, Bool.false_eq_true, if_false, if_true, beq_self_eq_true, Array.append_empty, Array.empty_append, List.append_eq, List.cons_append, List.nil_append, AllBut, Nat.reduceAdd, Nat.zero_add]
  -- 0: slot 83 := Op.move t3
  refine And.intro ?_ ?_
  · clear HFIN hgl
    rw [← hf]; clear hf
    refine ⟨by decide +kernel, fun x v => by kernel_rfl, fun x V hV hdep K hK => ?_⟩
    clear hdep
    refine run_bare (by kernel_rfl) ?_
    unfold prsFr
    go_simp
    refine kfit (hK _ _ (Below.refl _ V) rfl) ?_
    first | (simp only [prsFr, Act.put, List.setIfInBounds_toArray, List.set_cons_zero, List.set_cons_succ, h3, h2, h7, h8, h9, h11, h16]; done) | (simp only [prsFr, Act.put, List.setIfInBounds_toArray, List.set_cons_zero, List.set_cons_succ, h3, h2, h7, h8, h9, h11, h16]; rfl)
  -- 1: slot 84 := Op.move t83
  refine And.intro ?_ ?_
  · clear HFIN hgl
    rw [← hf]; clear hf
    refine ⟨by decide +kernel, fun x v => by kernel_rfl, fun x V hV hdep K hK => ?_⟩
    have e0 : x 0 = .bool true := depOf hdep 0 (by decide +kernel)
    clear hdep
    refine run_bare (by kernel_rfl) ?_
    unfold prsFr
    go_simp
    refine kfit (hK _ _ (Below.refl _ V) rfl) ?_
    first | (simp only [prsFr, Act.put, List.setIfInBounds_toArray, List.set_cons_zero, List.set_cons_succ, h3, h2, h7, h8, h9, h11, h16, e0]; done) | (simp only [prsFr, Act.put, List.setIfInBounds_toArray, List.set_cons_zero, List.set_cons_succ, h3, h2, h7, h8, h9, h11, h16, e0]; rfl)
  -- 2: slot 85 := Op.load 3 t9
  refine And.intro ?_ ?_
  · clear HFIN hgl
    rw [← hf]; clear hf
    refine ⟨by decide +kernel, fun x v => by kernel_rfl, fun x V hV hdep K hK => ?_⟩
    have e1 : x 1 = .bool true := depOf hdep 1 (by decide +kernel)
    clear hdep
    refine run_guard 1 84 (x 1) (by kernel_rfl) (by rw [hops]; exact prs_dst_1) (by kernel_rfl) e1 ?_; clear hops
    unfold prsFr
    obtain ⟨⟨y0, y1, y2⟩, ⟨y3, y4⟩, y5, y6⟩ := EP.cells hV
    go_simp
    refine kfit (hK _ _ (Below.refl _ V) rfl) ?_
    first | (simp only [prsFr, Act.put, List.setIfInBounds_toArray, List.set_cons_zero, List.set_cons_succ, h3, h2, h7, h8, h9, h11, h16, e1]; done) | (simp only [prsFr, Act.put, List.setIfInBounds_toArray, List.set_cons_zero, List.set_cons_succ, h3, h2, h7, h8, h9, h11, h16, e1]; rfl)
  -- 3: slot 86 := Op.load 39 t8
  refine And.intro ?_ ?_
  · clear HFIN hgl
    rw [← hf]; clear hf
    refine ⟨by decide +kernel, fun x v => by kernel_rfl, fun x V hV hdep K hK => ?_⟩
    have e1 : x 1 = .bool true := depOf hdep 1 (by decide +kernel)
    clear hdep
    refine run_guard 1 84 (x 1) (by kernel_rfl) (by rw [hops]; exact prs_dst_1) (by kernel_rfl) e1 ?_; clear hops
    unfold prsFr
    obtain ⟨⟨y0, y1, y2⟩, ⟨y3, y4⟩, y5, y6⟩ := EP.cells hV
    go_simp
    refine kfit (hK _ _ (Below.refl _ V) rfl) ?_
    first | (simp only [prsFr, Act.put, List.setIfInBounds_toArray, List.set_cons_zero, List.set_cons_succ, h3, h2, h7, h8, h9, h11, h16, e1]; done) | (simp only [prsFr, Act.put, List.setIfInBounds_toArray, List.set_cons_zero, List.set_cons_succ, h3, h2, h7, h8, h9, h11, h16, e1]; rfl)
  -- 4: slot 87 := Op.call { value (Operand.func 23), args := #[t86], argTypes 
  refine And.intro ?_ ?_
  · clear HFIN hgl
    rw [← hf]; clear hf
    refine ⟨by decide +kernel, fun x v => by kernel_rfl, fun x V hV hdep K hK => ?_⟩
    have e1 : x 1 = .bool true := depOf hdep 1 (by decide +kernel)
    have e3 : x 3 = .agg #[.slice xa ls.length xc] := depOf hdep 3 (by decide +kernel)
    clear hdep
    refine run_guard 1 84 (x 1) (by kernel_rfl) (by rw [hops]; exact prs_dst_1) (by kernel_rfl) e1 ?_; clear hops
    unfold prsFr
    obtain ⟨HC4, HC9, HC11, HC14, HC15, HC20, HC22, HC26⟩ := HC.out
    clear HC9 HC11 HC14 HC15 HC20 HC22 HC26
    have H := HC4 V hV
    replace H := Lib.hid H; clear HC4
    go_simp
    go_at_call 23
    refine H.out.mono ?_
    rintro e Y ⟨rfl, hb⟩; refine kfit (hK _ _ hb rfl) ?_
    first | (simp only [prsFr, Act.put, List.setIfInBounds_toArray, List.set_cons_zero, List.set_cons_succ, h3, h2, h7, h8, h9, h11, h16, e1, e3]; done) | (simp only [prsFr, Act.put, List.setIfInBounds_toArray, List.set_cons_zero, List.set_cons_succ, h3, h2, h7, h8, h9, h11, h16, e1, e3]; rfl)
  -- 5: slot 88 := Op.binOp BinOp.eql 3 t85 t87 3
  refine And.intro ?_ ?_
  · clear HFIN hgl
    rw [← hf]; clear hf
    refine ⟨by decide +kernel, fun x v => by kernel_rfl, fun x V hV hdep K hK => ?_⟩
    have e1 : x 1 = .bool true := depOf hdep 1 (by decide +kernel)
    have e2 : x 2 = .int .i64 (ls.length : Int) := depOf hdep 2 (by decide +kernel)
    have e4 : x 4 = .int .i64 (ls.length : Int) := depOf hdep 4 (by decide +kernel)
    clear hdep
    refine run_guard 1 84 (x 1) (by kernel_rfl) (by rw [hops]; exact prs_dst_1) (by kernel_rfl) e1 ?_; clear hops
    unfold prsFr
    go_simp
    refine kfit (hK _ _ (Below.refl _ V) (by first | rfl | simp [prsVals])) ?_
    first | (simp only [prsFr, Act.put, List.setIfInBounds_toArray, List.set_cons_zero, List.set_cons_succ, h3, h2, h7, h8, h9, h11, h16, e1, e2, e4]; done) | (simp only [prsFr, Act.put, List.setIfInBounds_toArray, List.set_cons_zero, List.set_cons_succ, h3, h2, h7, h8, h9, h11, h16, e1, e2, e4]; rfl)
  -- 6: slot 89 := Op.pick t84 t88 (const (Value.bool false))
  refine And.intro ?_ ?_
  · clear HFIN hgl
    rw [← hf]; clear hf
    refine ⟨by decide +kernel, fun x v => by kernel_rfl, fun x V hV hdep K hK => ?_⟩
    have e1 : x 1 = .bool true := depOf hdep 1 (by decide +kernel)
    have e5 : x 5 = .bool true := depOf hdep 5 (by decide +kernel)
    clear hdep
    refine run_bare (by kernel_rfl) ?_
    unfold prsFr
    go_simp
    refine kfit (hK _ _ (Below.refl _ V) rfl) ?_
    first | (simp only [prsFr, Act.put, List.setIfInBounds_toArray, List.set_cons_zero, List.set_cons_succ, h3, h2, h7, h8, h9, h11, h16, e1, e5]; done) | (simp only [prsFr, Act.put, List.setIfInBounds_toArray, List.set_cons_zero, List.set_cons_succ, h3, h2, h7, h8, h9, h11, h16, e1, e5]; rfl)
  -- 7: slot 90 := Op.move t89
  refine And.intro ?_ ?_
  · clear HFIN hgl
    rw [← hf]; clear hf
    refine ⟨by decide +kernel, fun x v => by kernel_rfl, fun x V hV hdep K hK => ?_⟩
    have e6 : x 6 = .bool true := depOf hdep 6 (by decide +kernel)
    clear hdep
    refine run_bare (by kernel_rfl) ?_
    unfold prsFr
    go_simp
    refine kfit (hK _ _ (Below.refl _ V) rfl) ?_
    first | (simp only [prsFr, Act.put, List.setIfInBounds_toArray, List.set_cons_zero, List.set_cons_succ, h3, h2, h7, h8, h9, h11, h16, e6]; done) | (simp only [prsFr, Act.put, List.setIfInBounds_toArray, List.set_cons_zero, List.set_cons_succ, h3, h2, h7, h8, h9, h11, h16, e6]; rfl)
  -- 8: slot 91 := Op.load 28 t11
  refine And.intro ?_ ?_
  · clear HFIN hgl
    rw [← hf]; clear hf
    refine ⟨by decide +kernel, fun x v => by kernel_rfl, fun x V hV hdep K hK => ?_⟩
    have e7 : x 7 = .bool true := depOf hdep 7 (by decide +kernel)
    clear hdep
    refine run_guard 7 90 (x 7) (by kernel_rfl) (by rw [hops]; exact prs_dst_7) (by kernel_rfl) e7 ?_; clear hops
    unfold prsFr
    obtain ⟨⟨y0, y1, y2⟩, ⟨y3, y4⟩, y5, y6⟩ := EP.cells hV
    go_simp
    refine kfit (hK _ _ (Below.refl _ V) rfl) ?_
    first | (simp only [prsFr, Act.put, List.setIfInBounds_toArray, List.set_cons_zero, List.set_cons_succ, h3, h2, h7, h8, h9, h11, h16, e7]; done) | (simp only [prsFr, Act.put, List.setIfInBounds_toArray, List.set_cons_zero, List.set_cons_succ, h3, h2, h7, h8, h9, h11, h16, e7]; rfl)
  -- 9: slot 92 := Op.call { value (Operand.func 11), args := #[t91], argTypes 
  refine And.intro ?_ ?_
  · clear HFIN hgl
    rw [← hf]; clear hf
    refine ⟨by decide +kernel, fun x v => by kernel_rfl, fun x V hV hdep K hK => ?_⟩
    have e7 : x 7 = .bool true := depOf hdep 7 (by decide +kernel)
    have e8 : x 8 = .slice qa ls.length qc := depOf hdep 8 (by decide +kernel)
    clear hdep
    refine run_guard 7 90 (x 7) (by kernel_rfl) (by rw [hops]; exact prs_dst_7) (by kernel_rfl) e7 ?_; clear hops
    unfold prsFr
    obtain ⟨HC4, HC9, HC11, HC14, HC15, HC20, HC22, HC26⟩ := HC.out
    clear HC4 HC11 HC14 HC15 HC20 HC22 HC26
    have H := HC9 V hV
    replace H := Lib.hid H; clear HC9
    go_simp
    go_at_call 11
    refine H.out.mono ?_
    rintro e Y ⟨⟨zv, zl, rfl, hq⟩, hb⟩; refine kfit (hK _ _ hb ⟨zv, zl, rfl, hq⟩) ?_
    first | (simp only [prsFr, Act.put, List.setIfInBounds_toArray, List.set_cons_zero, List.set_cons_succ, h3, h2, h7, h8, h9, h11, h16, e7, e8]; done) | (simp only [prsFr, Act.put, List.setIfInBounds_toArray, List.set_cons_zero, List.set_cons_succ, h3, h2, h7, h8, h9, h11, h16, e7, e8]; rfl)
  -- 10: slot 93 := Op.load 34 t7
  refine And.intro ?_ ?_
  · clear HFIN hgl
    rw [← hf]; clear hf
    refine ⟨by decide +kernel, fun x v => by kernel_rfl, fun x V hV hdep K hK => ?_⟩
    have e7 : x 7 = .bool true := depOf hdep 7 (by decide +kernel)
    clear hdep
    refine run_guard 7 90 (x 7) (by kernel_rfl) (by rw [hops]; exact prs_dst_7) (by kernel_rfl) e7 ?_; clear hops
    unfold prsFr
    obtain ⟨⟨y0, y1, y2⟩, ⟨y3, y4⟩, y5, y6⟩ := EP.cells hV
    go_simp
    refine kfit (hK _ _ (Below.refl _ V) rfl) ?_
    first | (simp only [prsFr, Act.put, List.setIfInBounds_toArray, List.set_cons_zero, List.set_cons_succ, h3, h2, h7, h8, h9, h11, h16, e7]; done) | (simp only [prsFr, Act.put, List.setIfInBounds_toArray, List.set_cons_zero, List.set_cons_succ, h3, h2, h7, h8, h9, h11, h16, e7]; rfl)
  -- 11: slot 94 := Op.call { value (Operand.func 16), args := #[t92, t93], argT
  refine And.intro ?_ ?_
  · clear HFIN hgl
    rw [← hf]; clear hf
    refine ⟨by decide +kernel, fun x v => by kernel_rfl, fun x V hV hdep K hK => ?_⟩
    have e7 : x 7 = .bool true := depOf hdep 7 (by decide +kernel)
    obtain ⟨zv9, zl9, e9, d9⟩ : ∃ zv9 zl9, x 9 = .agg #[zv9] ∧ (SubAt zv9 zl9 V ∧ Sb 56 4 (app ls) zl9) := depOf hdep 9 (by decide +kernel)
    have e10 : x 10 = .agg #[.int .i64 (t).kind, .string (t).name, .slice pa (t).kids.length ca] := depOf hdep 10 (by decide +kernel)
    clear hdep
    refine run_guard 7 90 (x 7) (by kernel_rfl) (by rw [hops]; exact prs_dst_7) (by kernel_rfl) e7 ?_; clear hops
    unfold prsFr
    obtain ⟨HC4, HC9, HC11, HC14, HC15, HC20, HC22, HC26⟩ := HC.out
    clear HC4 HC9 HC14 HC15 HC20 HC22 HC26
    have H := HC11 V hV _ _ d9
    replace H := Lib.hid H; clear HC11
    go_simp
    go_at_call 16
    refine H.out.mono ?_
    rintro e Y ⟨⟨za, zc, rfl, hq⟩, hb⟩; refine kfit (hK _ _ hb ⟨za, zc, rfl, hq⟩) ?_
    first | (simp only [prsFr, Act.put, List.setIfInBounds_toArray, List.set_cons_zero, List.set_cons_succ, h3, h2, h7, h8, h9, h11, h16, e7, e9, e10]; done) | (simp only [prsFr, Act.put, List.setIfInBounds_toArray, List.set_cons_zero, List.set_cons_succ, h3, h2, h7, h8, h9, h11, h16, e7, e9, e10]; rfl)
  -- 12: slot 95 := Op.load 39 t8
  refine And.intro ?_ ?_
  · clear HFIN hgl
    rw [← hf]; clear hf
    refine ⟨by decide +kernel, fun x v => by kernel_rfl, fun x V hV hdep K hK => ?_⟩
    have e7 : x 7 = .bool true := depOf hdep 7 (by decide +kernel)
    clear hdep
    refine run_guard 7 90 (x 7) (by kernel_rfl) (by rw [hops]; exact prs_dst_7) (by kernel_rfl) e7 ?_; clear hops
    unfold prsFr
    obtain ⟨⟨y0, y1, y2⟩, ⟨y3, y4⟩, y5, y6⟩ := EP.cells hV
    go_simp
    refine kfit (hK _ _ (Below.refl _ V) rfl) ?_
    first | (simp only [prsFr, Act.put, List.setIfInBounds_toArray, List.set_cons_zero, List.set_cons_succ, h3, h2, h7, h8, h9, h11, h16, e7]; done) | (simp only [prsFr, Act.put, List.setIfInBounds_toArray, List.set_cons_zero, List.set_cons_succ, h3, h2, h7, h8, h9, h11, h16, e7]; rfl)
  -- 13: slot 96 := Op.load 34 t7
  refine And.intro ?_ ?_
  · clear HFIN hgl
    rw [← hf]; clear hf
    refine ⟨by decide +kernel, fun x v => by kernel_rfl, fun x V hV hdep K hK => ?_⟩
    have e7 : x 7 = .bool true := depOf hdep 7 (by decide +kernel)
    clear hdep
    refine run_guard 7 90 (x 7) (by kernel_rfl) (by rw [hops]; exact prs_dst_7) (by kernel_rfl) e7 ?_; clear hops
    unfold prsFr
    obtain ⟨⟨y0, y1, y2⟩, ⟨y3, y4⟩, y5, y6⟩ := EP.cells hV
    go_simp
    refine kfit (hK _ _ (Below.refl _ V) rfl) ?_
    first | (simp only [prsFr, Act.put, List.setIfInBounds_toArray, List.set_cons_zero, List.set_cons_succ, h3, h2, h7, h8, h9, h11, h16, e7]; done) | (simp only [prsFr, Act.put, List.setIfInBounds_toArray, List.set_cons_zero, List.set_cons_succ, h3, h2, h7, h8, h9, h11, h16, e7]; rfl)
  -- 14: slot 97 := Op.call { value (Operand.func 16), args := #[t95, t96], argT
  refine And.intro ?_ ?_
  · clear HFIN hgl
    rw [← hf]; clear hf
    refine ⟨by decide +kernel, fun x v => by kernel_rfl, fun x V hV hdep K hK => ?_⟩
    have e7 : x 7 = .bool true := depOf hdep 7 (by decide +kernel)
    have e12 : x 12 = .agg #[.slice xa ls.length xc] := depOf hdep 12 (by decide +kernel)
    have e13 : x 13 = .agg #[.int .i64 (t).kind, .string (t).name, .slice pa (t).kids.length ca] := depOf hdep 13 (by decide +kernel)
    clear hdep
    refine run_guard 7 90 (x 7) (by kernel_rfl) (by rw [hops]; exact prs_dst_7) (by kernel_rfl) e7 ?_; clear hops
    unfold prsFr
    obtain ⟨HC4, HC9, HC11, HC14, HC15, HC20, HC22, HC26⟩ := HC.out
    clear HC4 HC9 HC11 HC15 HC20 HC22 HC26
    have H := HC14 V hV
    replace H := Lib.hid H; clear HC14
    go_simp
    go_at_call 16
    refine H.out.mono ?_
    rintro e Y ⟨⟨za, zc, rfl, hq⟩, hb⟩; refine kfit (hK _ _ hb ⟨za, zc, rfl, hq⟩) ?_
    first | (simp only [prsFr, Act.put, List.setIfInBounds_toArray, List.set_cons_zero, List.set_cons_succ, h3, h2, h7, h8, h9, h11, h16, e7, e12, e13]; done) | (simp only [prsFr, Act.put, List.setIfInBounds_toArray, List.set_cons_zero, List.set_cons_succ, h3, h2, h7, h8, h9, h11, h16, e7, e12, e13]; rfl)
  -- 15: slot 98 := Op.call { value (Operand.func 15), args := #[t94, t97], argT
  refine And.intro ?_ ?_
  · clear HFIN hgl
    rw [← hf]; clear hf
    refine ⟨by decide +kernel, fun x v => by kernel_rfl, fun x V hV hdep K hK => ?_⟩
    have e7 : x 7 = .bool true := depOf hdep 7 (by decide +kernel)
    obtain ⟨za11, zc11, e11, d11⟩ : ∃ za11 zc11, x 11 = .agg #[.int .i64 (app ls t).kind, .string (app ls t).name, .slice za11 (app ls t).kids.length zc11] ∧ TysAt V (.slice za11 (app ls t).kids.length zc11) (app ls t).kids := depOf hdep 11 (by decide +kernel)
    obtain ⟨za14, zc14, e14, d14⟩ : ∃ za14 zc14, x 14 = .agg #[.int .i64 (app ls t).kind, .string (app ls t).name, .slice za14 (app ls t).kids.length zc14] ∧ TysAt V (.slice za14 (app ls t).kids.length zc14) (app ls t).kids := depOf hdep 14 (by decide +kernel)
    clear hdep
    refine run_guard 7 90 (x 7) (by kernel_rfl) (by rw [hops]; exact prs_dst_7) (by kernel_rfl) e7 ?_; clear hops
    unfold prsFr
    obtain ⟨HC4, HC9, HC11, HC14, HC15, HC20, HC22, HC26⟩ := HC.out
    clear HC4 HC9 HC11 HC14 HC20 HC22 HC26
    have H := HC15 V hV _ _ d11 _ _ d14
    replace H := Lib.hid H; clear HC15
    go_simp
    go_at_call 15
    refine H.out.mono ?_
    rintro e Y ⟨rfl, hb⟩; refine kfit (hK _ _ hb rfl) ?_
    first | (simp only [prsFr, Act.put, List.setIfInBounds_toArray, List.set_cons_zero, List.set_cons_succ, h3, h2, h7, h8, h9, h11, h16, e7, e11, e14]; done) | (simp only [prsFr, Act.put, List.setIfInBounds_toArray, List.set_cons_zero, List.set_cons_succ, h3, h2, h7, h8, h9, h11, h16, e7, e11, e14]; rfl)
  -- 16: slot 99 := Op.pick t90 t98 (const (Value.bool false))
  refine And.intro ?_ ?_
  · clear HFIN hgl
    rw [← hf]; clear hf
    refine ⟨by decide +kernel, fun x v => by kernel_rfl, fun x V hV hdep K hK => ?_⟩
    have e7 : x 7 = .bool true := depOf hdep 7 (by decide +kernel)
    have e15 : x 15 = .bool true := depOf hdep 15 (by decide +kernel)
    clear hdep
    refine run_bare (by kernel_rfl) ?_
    unfold prsFr
    go_simp
    refine kfit (hK _ _ (Below.refl _ V) rfl) ?_
    first | (simp only [prsFr, Act.put, List.setIfInBounds_toArray, List.set_cons_zero, List.set_cons_succ, h3, h2, h7, h8, h9, h11, h16, e7, e15]; done) | (simp only [prsFr, Act.put, List.setIfInBounds_toArray, List.set_cons_zero, List.set_cons_succ, h3, h2, h7, h8, h9, h11, h16, e7, e15]; rfl)
  -- 17: slot 100 := Op.move t99
  refine And.intro ?_ ?_
  · clear HFIN hgl
    rw [← hf]; clear hf
    refine ⟨by decide +kernel, fun x v => by kernel_rfl, fun x V hV hdep K hK => ?_⟩
    have e16 : x 16 = .bool true := depOf hdep 16 (by decide +kernel)
    clear hdep
    refine run_bare (by kernel_rfl) ?_
    unfold prsFr
    go_simp
    refine kfit (hK _ _ (Below.refl _ V) rfl) ?_
    first | (simp only [prsFr, Act.put, List.setIfInBounds_toArray, List.set_cons_zero, List.set_cons_succ, h3, h2, h7, h8, h9, h11, h16, e16]; done) | (simp only [prsFr, Act.put, List.setIfInBounds_toArray, List.set_cons_zero, List.set_cons_succ, h3, h2, h7, h8, h9, h11, h16, e16]; rfl)
  -- 18: slot 101 := Op.load 39 t16
  refine And.intro ?_ ?_
  · clear HFIN hgl
    rw [← hf]; clear hf
    refine ⟨by decide +kernel, fun x v => by kernel_rfl, fun x V hV hdep K hK => ?_⟩
    have e17 : x 17 = .bool true := depOf hdep 17 (by decide +kernel)
    clear hdep
    refine run_guard 17 100 (x 17) (by kernel_rfl) (by rw [hops]; exact prs_dst_17) (by kernel_rfl) e17 ?_; clear hops
    unfold prsFr
    obtain ⟨⟨y0, y1, y2⟩, ⟨y3, y4⟩, y5, y6⟩ := EP.cells hV
    go_simp
    refine kfit (hK _ _ (Below.refl _ V) rfl) ?_
    first | (simp only [prsFr, Act.put, List.setIfInBounds_toArray, List.set_cons_zero, List.set_cons_succ, h3, h2, h7, h8, h9, h11, h16, e17]; done) | (simp only [prsFr, Act.put, List.setIfInBounds_toArray, List.set_cons_zero, List.set_cons_succ, h3, h2, h7, h8, h9, h11, h16, e17]; rfl)
  -- 19: slot 102 := Op.load 34 t7
  refine And.intro ?_ ?_
  · clear HFIN hgl
    rw [← hf]; clear hf
    refine ⟨by decide +kernel, fun x v => by kernel_rfl, fun x V hV hdep K hK => ?_⟩
    have e17 : x 17 = .bool true := depOf hdep 17 (by decide +kernel)
    clear hdep
    refine run_guard 17 100 (x 17) (by kernel_rfl) (by rw [hops]; exact prs_dst_17) (by kernel_rfl) e17 ?_; clear hops
    unfold prsFr
    obtain ⟨⟨y0, y1, y2⟩, ⟨y3, y4⟩, y5, y6⟩ := EP.cells hV
    go_simp
    refine kfit (hK _ _ (Below.refl _ V) rfl) ?_
    first | (simp only [prsFr, Act.put, List.setIfInBounds_toArray, List.set_cons_zero, List.set_cons_succ, h3, h2, h7, h8, h9, h11, h16, e17]; done) | (simp only [prsFr, Act.put, List.setIfInBounds_toArray, List.set_cons_zero, List.set_cons_succ, h3, h2, h7, h8, h9, h11, h16, e17]; rfl)
  -- 20: slot 103 := Op.call { value (Operand.func 16), args := #[t101, t102], ar
  refine And.intro ?_ ?_
  · clear HFIN hgl
    rw [← hf]; clear hf
    refine ⟨by decide +kernel, fun x v => by kernel_rfl, fun x V hV hdep K hK => ?_⟩
    have e17 : x 17 = .bool true := depOf hdep 17 (by decide +kernel)
    have e18 : x 18 = .agg #[nilV] := depOf hdep 18 (by decide +kernel)
    have e19 : x 19 = .agg #[.int .i64 (t).kind, .string (t).name, .slice pa (t).kids.length ca] := depOf hdep 19 (by decide +kernel)
    clear hdep
    refine run_guard 17 100 (x 17) (by kernel_rfl) (by rw [hops]; exact prs_dst_17) (by kernel_rfl) e17 ?_; clear hops
    unfold prsFr
    obtain ⟨HC4, HC9, HC11, HC14, HC15, HC20, HC22, HC26⟩ := HC.out
    clear HC4 HC9 HC11 HC14 HC15 HC22 HC26
    have H := HC20 V hV
    replace H := Lib.hid H; clear HC20
    go_simp
    go_at_call 16
    refine H.out.mono ?_
    rintro e Y ⟨⟨za, zc, rfl, hq⟩, hb⟩; refine kfit (hK _ _ hb ⟨za, zc, rfl, hq⟩) ?_
    first | (simp only [prsFr, Act.put, List.setIfInBounds_toArray, List.set_cons_zero, List.set_cons_succ, h3, h2, h7, h8, h9, h11, h16, e17, e18, e19]; done) | (simp only [prsFr, Act.put, List.setIfInBounds_toArray, List.set_cons_zero, List.set_cons_succ, h3, h2, h7, h8, h9, h11, h16, e17, e18, e19]; rfl)
  -- 21: slot 104 := Op.load 34 t7
  refine And.intro ?_ ?_
  · clear HFIN hgl
    rw [← hf]; clear hf
    refine ⟨by decide +kernel, fun x v => by kernel_rfl, fun x V hV hdep K hK => ?_⟩
    have e17 : x 17 = .bool true := depOf hdep 17 (by decide +kernel)
    clear hdep
    refine run_guard 17 100 (x 17) (by kernel_rfl) (by rw [hops]; exact prs_dst_17) (by kernel_rfl) e17 ?_; clear hops
    unfold prsFr
    obtain ⟨⟨y0, y1, y2⟩, ⟨y3, y4⟩, y5, y6⟩ := EP.cells hV
    go_simp
    refine kfit (hK _ _ (Below.refl _ V) rfl) ?_
    first | (simp only [prsFr, Act.put, List.setIfInBounds_toArray, List.set_cons_zero, List.set_cons_succ, h3, h2, h7, h8, h9, h11, h16, e17]; done) | (simp only [prsFr, Act.put, List.setIfInBounds_toArray, List.set_cons_zero, List.set_cons_succ, h3, h2, h7, h8, h9, h11, h16, e17]; rfl)
  -- 22: slot 105 := Op.call { value (Operand.func 15), args := #[t103, t104], ar
  refine And.intro ?_ ?_
  · clear HFIN hgl
    rw [← hf]; clear hf
    refine ⟨by decide +kernel, fun x v => by kernel_rfl, fun x V hV hdep K hK => ?_⟩
    have e17 : x 17 = .bool true := depOf hdep 17 (by decide +kernel)
    obtain ⟨za20, zc20, e20, d20⟩ : ∃ za20 zc20, x 20 = .agg #[.int .i64 (t).kind, .string (t).name, .slice za20 (t).kids.length zc20] ∧ TysAt V (.slice za20 (t).kids.length zc20) (t).kids := depOf hdep 20 (by decide +kernel)
    have e21 : x 21 = .agg #[.int .i64 (t).kind, .string (t).name, .slice pa (t).kids.length ca] := depOf hdep 21 (by decide +kernel)
    clear hdep
    refine run_guard 17 100 (x 17) (by kernel_rfl) (by rw [hops]; exact prs_dst_17) (by kernel_rfl) e17 ?_; clear hops
    unfold prsFr
    obtain ⟨HC4, HC9, HC11, HC14, HC15, HC20, HC22, HC26⟩ := HC.out
    clear HC4 HC9 HC11 HC14 HC15 HC20 HC26
    have H := HC22 V hV _ _ d20
    replace H := Lib.hid H; clear HC22
    go_simp
    go_at_call 15
    refine H.out.mono ?_
    rintro e Y ⟨rfl, hb⟩; refine kfit (hK _ _ hb rfl) ?_
    first | (simp only [prsFr, Act.put, List.setIfInBounds_toArray, List.set_cons_zero, List.set_cons_succ, h3, h2, h7, h8, h9, h11, h16, e17, e20, e21]; done) | (simp only [prsFr, Act.put, List.setIfInBounds_toArray, List.set_cons_zero, List.set_cons_succ, h3, h2, h7, h8, h9, h11, h16, e17, e20, e21]; rfl)
  -- 23: slot 106 := Op.pick t100 t105 (const (Value.bool false))
  refine And.intro ?_ ?_
  · clear HFIN hgl
    rw [← hf]; clear hf
    refine ⟨by decide +kernel, fun x v => by kernel_rfl, fun x V hV hdep K hK => ?_⟩
    have e17 : x 17 = .bool true := depOf hdep 17 (by decide +kernel)
    have e22 : x 22 = .bool true := depOf hdep 22 (by decide +kernel)
    clear hdep
    refine run_bare (by kernel_rfl) ?_
    unfold prsFr
    go_simp
    refine kfit (hK _ _ (Below.refl _ V) rfl) ?_
    first | (simp only [prsFr, Act.put, List.setIfInBounds_toArray, List.set_cons_zero, List.set_cons_succ, h3, h2, h7, h8, h9, h11, h16, e17, e22]; done) | (simp only [prsFr, Act.put, List.setIfInBounds_toArray, List.set_cons_zero, List.set_cons_succ, h3, h2, h7, h8, h9, h11, h16, e17, e22]; rfl)
  -- 24: slot 107 := Op.move t106
  refine And.intro ?_ ?_
  · clear HFIN hgl
    rw [← hf]; clear hf
    refine ⟨by decide +kernel, fun x v => by kernel_rfl, fun x V hV hdep K hK => ?_⟩
    have e23 : x 23 = .bool true := depOf hdep 23 (by decide +kernel)
    clear hdep
    refine run_bare (by kernel_rfl) ?_
    unfold prsFr
    go_simp
    refine kfit (hK _ _ (Below.refl _ V) rfl) ?_
    first | (simp only [prsFr, Act.put, List.setIfInBounds_toArray, List.set_cons_zero, List.set_cons_succ, h3, h2, h7, h8, h9, h11, h16, e23]; done) | (simp only [prsFr, Act.put, List.setIfInBounds_toArray, List.set_cons_zero, List.set_cons_succ, h3, h2, h7, h8, h9, h11, h16, e23]; rfl)
  -- 25: slot 108 := Op.load 39 t16
  refine And.intro ?_ ?_
  · clear HFIN hgl
    rw [← hf]; clear hf
    refine ⟨by decide +kernel, fun x v => by kernel_rfl, fun x V hV hdep K hK => ?_⟩
    have e24 : x 24 = .bool true := depOf hdep 24 (by decide +kernel)
    clear hdep
    refine run_guard 24 107 (x 24) (by kernel_rfl) (by rw [hops]; exact prs_dst_24) (by kernel_rfl) e24 ?_; clear hops
    unfold prsFr
    obtain ⟨⟨y0, y1, y2⟩, ⟨y3, y4⟩, y5, y6⟩ := EP.cells hV
    go_simp
    refine kfit (hK _ _ (Below.refl _ V) rfl) ?_
    first | (simp only [prsFr, Act.put, List.setIfInBounds_toArray, List.set_cons_zero, List.set_cons_succ, h3, h2, h7, h8, h9, h11, h16, e24]; done) | (simp only [prsFr, Act.put, List.setIfInBounds_toArray, List.set_cons_zero, List.set_cons_succ, h3, h2, h7, h8, h9, h11, h16, e24]; rfl)
  -- 26: slot 109 := Op.call { value (Operand.func 23), args := #[t108], argTypes
  refine And.intro ?_ ?_
  · clear HFIN hgl
    rw [← hf]; clear hf
    refine ⟨by decide +kernel, fun x v => by kernel_rfl, fun x V hV hdep K hK => ?_⟩
    have e24 : x 24 = .bool true := depOf hdep 24 (by decide +kernel)
    have e25 : x 25 = .agg #[nilV] := depOf hdep 25 (by decide +kernel)
    clear hdep
    refine run_guard 24 107 (x 24) (by kernel_rfl) (by rw [hops]; exact prs_dst_24) (by kernel_rfl) e24 ?_; clear hops
    unfold prsFr
    obtain ⟨HC4, HC9, HC11, HC14, HC15, HC20, HC22, HC26⟩ := HC.out
    clear HC4 HC9 HC11 HC14 HC15 HC20 HC22
    have H := HC26 V hV
    replace H := Lib.hid H; clear HC26
    go_simp
    go_at_call 23
    refine H.out.mono ?_
    rintro e Y ⟨rfl, hb⟩; refine kfit (hK _ _ hb rfl) ?_
    first | (simp only [prsFr, Act.put, List.setIfInBounds_toArray, List.set_cons_zero, List.set_cons_succ, h3, h2, h7, h8, h9, h11, h16, e24, e25]; done) | (simp only [prsFr, Act.put, List.setIfInBounds_toArray, List.set_cons_zero, List.set_cons_succ, h3, h2, h7, h8, h9, h11, h16, e24, e25]; rfl)
  -- 27: slot 110 := Op.binOp BinOp.eql 3 t109 (const (0:i64)) 3
  refine And.intro ?_ ?_
  · clear HFIN hgl
    rw [← hf]; clear hf
    refine ⟨by decide +kernel, fun x v => by kernel_rfl, fun x V hV hdep K hK => ?_⟩
    have e24 : x 24 = .bool true := depOf hdep 24 (by decide +kernel)
    have e26 : x 26 = .int .i64 (0 : Int) := depOf hdep 26 (by decide +kernel)
    clear hdep
    refine run_guard 24 107 (x 24) (by kernel_rfl) (by rw [hops]; exact prs_dst_24) (by kernel_rfl) e24 ?_; clear hops
    unfold prsFr
    go_simp
    refine kfit (hK _ _ (Below.refl _ V) (by first | rfl | simp [prsVals])) ?_
    first | (simp only [prsFr, Act.put, List.setIfInBounds_toArray, List.set_cons_zero, List.set_cons_succ, h3, h2, h7, h8, h9, h11, h16, e24, e26]; done) | (simp only [prsFr, Act.put, List.setIfInBounds_toArray, List.set_cons_zero, List.set_cons_succ, h3, h2, h7, h8, h9, h11, h16, e24, e26]; rfl)
  -- 28: slot 111 := Op.pick t107 t110 (const (Value.bool false))
  refine And.intro ?_ ?_
  · clear HFIN hgl
    rw [← hf]; clear hf
    refine ⟨by decide +kernel, fun x v => by kernel_rfl, fun x V hV hdep K hK => ?_⟩
    have e24 : x 24 = .bool true := depOf hdep 24 (by decide +kernel)
    have e27 : x 27 = .bool true := depOf hdep 27 (by decide +kernel)
    clear hdep
    refine run_bare (by kernel_rfl) ?_
    unfold prsFr
    go_simp
    refine kfit (hK _ _ (Below.refl _ V) rfl) ?_
    first | (simp only [prsFr, Act.put, List.setIfInBounds_toArray, List.set_cons_zero, List.set_cons_succ, h3, h2, h7, h8, h9, h11, h16, e24, e27]; done) | (simp only [prsFr, Act.put, List.setIfInBounds_toArray, List.set_cons_zero, List.set_cons_succ, h3, h2, h7, h8, h9, h11, h16, e24, e27]; rfl)
  -- 29: slot none := Op.store 4 t2 t111
  · clear HC
    rw [← hgl]; clear hgl
    refine ⟨by decide +kernel, fun x V hV hall K hK => ?_⟩
    have e28 : x 28 = .bool true := hall 28 (by decide)
    clear hall
    refine run_bare (by kernel_rfl) ?_
    unfold prsFr
    obtain ⟨y0, y1⟩ := EP.res hV
    have H := Lib.hid (HFIN.out x V hV e28)
    clear HFIN hV
    go_simp
    refine kfit (hK undef _ H.out) ?_
    first | (simp only [prsFr, Act.put, h3, h2, h7, h8, h9, h11, h16, e28]; done) | (simp only [prsFr, Act.put, h3, h2, h7, h8, h9, h11, h16, e28]; rfl)
theorem prs_here {w : World} {bt bs bn D : Nat} {t : T} {pa xa qa : Option Addr} {ca xc qc : Nat} {ls q : List PR}
    (HC4 : ∀ V, EP w bt bs bn D t pa ca xa xc ls qa qc q V → Calls Try.prog 23 #[.agg #[.slice xa ls.length xc]] V fun e Y => e = .returned (.int .i64 (ls.length : Int)) ∧ Below V.heap.size V Y)
    (HC9 : ∀ V, EP w bt bs bn D t pa ca xa xc ls qa qc q V → Calls Try.prog 11 #[.slice qa ls.length qc] V fun e Y => (∃ zv zl, e = .returned (.agg #[zv]) ∧ (SubAt zv zl Y ∧ Sb 56 4 (app ls) zl)) ∧ Below V.heap.size V Y)
    (HC11 : ∀ V, EP w bt bs bn D t pa ca xa xc ls qa qc q V → ∀ zv9, ∀ zl9, (SubAt zv9 zl9 V ∧ Sb 56 4 (app ls) zl9) → Calls Try.prog 16 #[.agg #[zv9], .agg #[.int .i64 (t).kind, .string (t).name, .slice pa (t).kids.length ca]] V fun e Y => (∃ za zc, e = .returned (.agg #[.int .i64 (app ls t).kind, .string (app ls t).name, .slice za (app ls t).kids.length zc]) ∧ TysAt Y (.slice za (app ls t).kids.length zc) (app ls t).kids) ∧ Below V.heap.size V Y)
    (HC14 : ∀ V, EP w bt bs bn D t pa ca xa xc ls qa qc q V → Calls Try.prog 16 #[.agg #[.slice xa ls.length xc], .agg #[.int .i64 (t).kind, .string (t).name, .slice pa (t).kids.length ca]] V fun e Y => (∃ za zc, e = .returned (.agg #[.int .i64 (app ls t).kind, .string (app ls t).name, .slice za (app ls t).kids.length zc]) ∧ TysAt Y (.slice za (app ls t).kids.length zc) (app ls t).kids) ∧ Below V.heap.size V Y)
    (HC15 : ∀ V, EP w bt bs bn D t pa ca xa xc ls qa qc q V → ∀ za11, ∀ zc11, TysAt V (.slice za11 (app ls t).kids.length zc11) (app ls t).kids → ∀ za14, ∀ zc14, TysAt V (.slice za14 (app ls t).kids.length zc14) (app ls t).kids → Calls Try.prog 15 #[.agg #[.int .i64 (app ls t).kind, .string (app ls t).name, .slice za11 (app ls t).kids.length zc11], .agg #[.int .i64 (app ls t).kind, .string (app ls t).name, .slice za14 (app ls t).kids.length zc14]] V fun e Y => e = .returned (.bool true) ∧ Below V.heap.size V Y)
    (HC20 : ∀ V, EP w bt bs bn D t pa ca xa xc ls qa qc q V → Calls Try.prog 16 #[.agg #[nilV], .agg #[.int .i64 (t).kind, .string (t).name, .slice pa (t).kids.length ca]] V fun e Y => (∃ za zc, e = .returned (.agg #[.int .i64 (t).kind, .string (t).name, .slice za (t).kids.length zc]) ∧ TysAt Y (.slice za (t).kids.length zc) (t).kids) ∧ Below V.heap.size V Y)
    (HC22 : ∀ V, EP w bt bs bn D t pa ca xa xc ls qa qc q V → ∀ za20, ∀ zc20, TysAt V (.slice za20 (t).kids.length zc20) (t).kids → Calls Try.prog 15 #[.agg #[.int .i64 (t).kind, .string (t).name, .slice za20 (t).kids.length zc20], .agg #[.int .i64 (t).kind, .string (t).name, .slice pa (t).kids.length ca]] V fun e Y => e = .returned (.bool true) ∧ Below V.heap.size V Y)
    (HC26 : ∀ V, EP w bt bs bn D t pa ca xa xc ls qa qc q V → Calls Try.prog 23 #[.agg #[nilV]] V fun e Y => e = .returned (.int .i64 (0 : Int)) ∧ Below V.heap.size V Y)
    {Q : Exit → Act → World → Prop} {ops : Array Oper} {a : Act} (X : World) (hops : ops = prsOps)
    (h3 : a.tmps.getD 3 undef = .bool true) (h2 : a.tmps.getD 2 undef = .pointer (some ⟨w.heap.size, 0, none⟩)) (h7 : a.tmps.getD 7 undef = .pointer (some ⟨bt, 0, none⟩)) (h8 : a.tmps.getD 8 undef = .pointer (some ⟨bs, 0, none⟩)) (h9 : a.tmps.getD 9 undef = .pointer (some ⟨bs + 1, 0, none⟩)) (h11 : a.tmps.getD 11 undef = .pointer (some ⟨bs + 1 + 1 + 1, 0, none⟩)) (h16 : a.tmps.getD 16 undef = .pointer (some ⟨bn, 0, none⟩))
    (ha : a = prsFr (fun j => a.tmps.getD j undef) a.defers (fun i => a.tmps.getD (83 + i) undef)) (hS : EP w bt bs bn D t pa ca xa xc ls qa qc q X.drew)
    (hfin : ∀ x V, EP w bt bs bn D t pa ca xa xc ls qa qc q V → x 28 = .bool true → Q .normal (prsFr (fun j => a.tmps.getD j undef) a.defers x) (V.setCell ⟨w.heap.size, 0, none⟩ (.bool true))) : (Code.region 23 ops true).wp Try.prog Q a X :=
  cast (congrArg (fun z => (Code.region 23 ops true).wp Try.prog Q z X) ha.symm) (prs_region (b := fun j => a.tmps.getD j undef) (d := a.defers) h3 h2 h7 h8 h9 h11 h16 HC4 HC9 HC11 HC14 HC15 HC20 HC22 HC26 hops _ X hS hfin)
end Go.Proofs.Ytmbaolcdjgilpaa
