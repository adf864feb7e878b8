/- TypesSay's last statement: a region of 69 operations that draws its order, by an invariant. (Made by a program: one row for each operation.) -/
import Derived.Test.YteoelcefjjmjiaaTySayK
import Derived.Test.YteoelcefjjmjiaaRegInv
namespace Go.Proofs.Yteoelcefjjmjiaa
open Go.RowKit
attribute [local go_sem] Oper.semAt_some

def regionIn : Nat → Code → Array Oper
  | n, .region id ops _ => if id == n then ops else #[]
  | n, .seq a b => regionIn n a ++ regionIn n b
  | n, .cond _ a b => regionIn n a ++ regionIn n b
  | n, .block _ b => regionIn n b
  | n, .loop b => regionIn n b
  | n, .rangeFunc _ _ a b => regionIn n a ++ regionIn n b
  | n, .scope b => regionIn n b
  | _, _ => #[]
noncomputable def sayOps : Array Oper := regionIn 14 (Try.f3.body.getD .skip)
def aggT (t : T) (a : Option Addr) (c : Nat) : Value := .agg #[.int .i64 t.kind, .string t.name, .slice a t.kids.length c]
def aggA (bu : Nat) : Value := .agg #[.int .i64 4, .string ⟨#[97]⟩, .slice (some ⟨bu + 1, 0, none⟩) 1 1]

def sayFr (b : Nat → Value) (d : List Deferred) (x : Nat → Value) : Act := { tmps := #[b 0, b 1, b 2, b 3, b 4, b 5, x 68, b 7, b 8, b 9, b 10, b 11, b 12, b 13, b 14, b 15, b 16, b 17, b 18, b 19, b 20, b 21, b 22, b 23, b 24, b 25, b 26, b 27, b 28, b 29, b 30, b 31, b 32, b 33, b 34, b 35, b 36, b 37, b 38, b 39, b 40, b 41, b 42, b 43, b 44, b 45, b 46, b 47, b 48, b 49, b 50, b 51, x 0, x 1, x 2, x 3, x 4, x 5, x 6, x 7, x 8, x 9, x 10, x 11, x 12, x 13, x 14, x 15, x 16, x 17, x 18, x 19, x 20, x 21, x 22, x 23, x 24, x 25, x 26, x 27, x 28, x 29, x 30, x 31, x 32, x 33, x 34, x 35, x 36, x 37, x 38, x 39, x 40, x 41, x 42, x 43, x 44, x 45, x 46, x 47, x 48, x 49, x 50, x 51, x 52, x 53, x 54, x 55, x 56, x 57, x 58, x 59, x 60, x 61, x 62, x 63, x 64, x 65, x 66, x 67], defers := d }

def sayVals (t u : T) (pa pb : Option Addr) (ca cb bu : Nat) (nm : ByteArray) (sa : Option Addr) (sc : Nat) (q2 q1 q0 : List ByteArray) (hv zc : Bool) (ts : Nat) (pc : Int) (i : Nat) (v : Value) (V : World) : Prop :=
  match i with
  | 0 => v = .bool true
  | 1 => v = .bool true
  | 2 => v = aggT t pa ca
  | 3 => v = aggT u pb cb
  | 4 => ∃ k, v = .slice (some ⟨k, 0, none⟩) 2 2 ∧ TysAt V (.slice (some ⟨k, 0, none⟩) 2 2) [t, u]
  | 5 => ∃ a c, v = .slice a q2.length c ∧ TextsAt V (.slice a q2.length c) q2
  | 6 => v = aggT t pa ca
  | 7 => v = aggT u pb cb
  | 8 => ∃ k, v = .slice (some ⟨k, 0, none⟩) 2 2 ∧ TysAt V (.slice (some ⟨k, 0, none⟩) 2 2) [t, u]
  | 9 => ∃ a c, v = .slice a q2.length c ∧ TextsAt V (.slice a q2.length c) q2
  | 10 => v = .bool true
  | 11 => v = .bool true
  | 12 => v = .bool true
  | 13 => v = aggA bu
  | 14 => ∃ k, v = .slice (some ⟨k, 0, none⟩) 1 1 ∧ TysAt V (.slice (some ⟨k, 0, none⟩) 1 1) [T.all ⟨#[97]⟩ t]
  | 15 => ∃ a c, v = .slice a q1.length c ∧ TextsAt V (.slice a q1.length c) q1
  | 16 => v = aggA bu
  | 17 => ∃ k, v = .slice (some ⟨k, 0, none⟩) 1 1 ∧ TysAt V (.slice (some ⟨k, 0, none⟩) 1 1) [T.all ⟨#[97]⟩ t]
  | 18 => ∃ a c, v = .slice a q1.length c ∧ TextsAt V (.slice a q1.length c) q1
  | 19 => v = .bool true
  | 20 => v = .bool true
  | 21 => v = .bool true
  | 22 => v = aggT t pa ca
  | 23 => v = .string nm
  | 24 => v = .bool hv
  | 25 => v = aggT t pa ca
  | 26 => ∃ k, v = .slice (some ⟨k, 0, none⟩) 1 1 ∧ TysAt V (.slice (some ⟨k, 0, none⟩) 1 1) [t]
  | 27 => ∃ a c, v = .slice a q0.length c ∧ TextsAt V (.slice a q0.length c) q0
  | 28 => v = .string nm
  | 29 => v = .bool hv
  | 30 => v = .bool true
  | 31 => v = .bool true
  | 32 => v = .bool true
  | 33 => v = aggT t pa ca
  | 34 => v = .int .i64 (ts : Nat)
  | 35 => v = aggT t pa ca
  | 36 => v = .int .i64 (ts : Nat)
  | 37 => v = .bool true
  | 38 => v = .bool true
  | 39 => v = .bool true
  | 40 => v = .slice sa (parts t).length sc
  | 41 => v = aggT t pa ca
  | 42 => ∃ a c, v = .slice a (parts t).length c ∧ TysAt V (.slice a (parts t).length c) (parts t)
  | 43 => v = .bool true
  | 44 => v = .bool true
  | 45 => v = .bool true
  | 46 => v = aggT t pa ca
  | 47 => v = aggT u pb cb
  | 48 => v = .int .i64 pc
  | 49 => v = aggT t pa ca
  | 50 => v = aggT u pb cb
  | 51 => v = .int .i64 pc
  | 52 => v = .bool true
  | 53 => v = .bool true
  | 54 => v = .bool true
  | 55 => v = aggT t pa ca
  | 56 => v = aggT u pb cb
  | 57 => v = .bool zc
  | 58 => v = aggT t pa ca
  | 59 => v = aggT u pb cb
  | 60 => v = .bool zc
  | 61 => v = .bool true
  | 62 => v = .bool true
  | 63 => v = .bool true
  | 64 => v = aggT t pa ca
  | 65 => v = aggT t pa ca
  | 66 => v = .bool true
  | 67 => v = .bool true
  | 68 => v = .bool true
  | _ => True

theorem sayVals_keep {t u : T} {pa pb : Option Addr} {ca cb bu : Nat} {nm : ByteArray} {sa : Option Addr} {sc : Nat} {q2 q1 q0 : List ByteArray} {hv zc : Bool} {ts : Nat} {pc : Int} (i : Nat) (v : Value) (V Y : World)
    (h : sayVals t u pa pb ca cb bu nm sa sc q2 q1 q0 hv zc ts pc i v V) (hb : Below V.heap.size V Y) : sayVals t u pa pb ca cb bu nm sa sc q2 q1 q0 hv zc ts pc i v Y := by
  unfold sayVals at *
  split at h <;> first
    | exact h
    | (obtain ⟨k, e, h⟩ := h; exact ⟨k, e, h.keep (KeepT.of_below hb)⟩)
    | (obtain ⟨a, c, e, h⟩ := h; exact ⟨a, c, e, h.below hb⟩)
    | (obtain ⟨a, c, e, h⟩ := h; exact ⟨a, c, e, h.keep (KeepT.of_below hb)⟩)

theorem depOf {o : Oper} {Vals : Nat → Value → World → Prop} {x : Nat → Value} {V : World} (h : ∀ e ∈ o.after, Region.binds .any e = true → Vals e.on (x e.on) V) (j : Nat)
    (hj : (o.after.any fun e => Region.binds .any e && e.on == j) = true) : Vals j (x j) V := by
  rw [Array.any_eq_true'] at hj
  obtain ⟨e, he, hj⟩ := hj
  simp only [Bool.and_eq_true, beq_iff_eq] at hj
  have := h e he hj.1
  rw [hj.2] at this; exact this

theorem kfit {K : Act → World → Prop} {a a' : Act} {w : World} (h : K a w) (e : a = a') : K a' w := e ▸ h
theorem run_bare {P : Program} {o : Oper} {ops : Array Oper} {a : Act} {w : World} {K : Act → World → Prop} {Q : Exit → Act → World → Prop} {C : Prop} (hg : o.guard = none) (h : Oper.wp P o a w K Q) :
    if Region.wanted o (yielded ops a.tmps) = true then Oper.wp P o a w K Q else C := by
  rw [if_pos (by simp [Region.wanted, hg])]; exact h
theorem run_guard {P : Program} {o : Oper} {ops : Array Oper} {a : Act} {w : World} {K : Act → World → Prop} {Q : Exit → Act → World → Prop} {C : Prop} (g k : Nat) (v : Value) (hg : o.guard = some (g, true))
    (hk : (ops[g]?).bind (·.dst) = some k) (hv : a.tmps[k]? = some v) (e : v = .bool true) (h : Oper.wp P o a w K Q) :
    if Region.wanted o (yielded ops a.tmps) = true then Oper.wp P o a w K Q else C := by
  rw [if_pos (by simp [Region.wanted, hg, yielded, hk, hv, e])]; exact h

theorem say_size : sayOps.size = 69 := by kernel_rfl
theorem say_dst_1 : (sayOps[1]?).bind (·.dst) = some 53 := by kernel_rfl
theorem say_dst_12 : (sayOps[12]?).bind (·.dst) = some 64 := by kernel_rfl
theorem say_dst_21 : (sayOps[21]?).bind (·.dst) = some 73 := by kernel_rfl
theorem say_dst_32 : (sayOps[32]?).bind (·.dst) = some 84 := by kernel_rfl
theorem say_dst_39 : (sayOps[39]?).bind (·.dst) = some 91 := by kernel_rfl
theorem say_dst_45 : (sayOps[45]?).bind (·.dst) = some 97 := by kernel_rfl
theorem say_dst_54 : (sayOps[54]?).bind (·.dst) = some 106 := by kernel_rfl
theorem say_dst_63 : (sayOps[63]?).bind (·.dst) = some 115 := by kernel_rfl
set_option linter.unusedSimpArgs false in
set_option maxRecDepth 100000 in
set_option maxHeartbeats 8000000 in
theorem say_region {w : World} {bt bu P D : Nat} {t u : T} {pa pb : Option Addr} {ca cb : Nat} {nm : ByteArray} {sa : Option Addr} {sc : Nat} {q2 q1 q0 : List ByteArray} {hv zc : Bool} {ts : Nat} {pc : Int} {b : Nat → Value} {d : List Deferred}
    (h2 : b 2 = .string nm) (h7 : b 7 = .bool true) (h9 : b 9 = .pointer (some ⟨bt, 0, none⟩)) (h10 : b 10 = .pointer (some ⟨bu, 0, none⟩)) (h11 : b 11 = .pointer (some ⟨bu + 1 + 1, 0, none⟩)) (h12 : b 12 = .pointer (some ⟨P, 0, none⟩))
    (HV2 : ∀ V k, TysAt V (.slice (some ⟨k, 0, none⟩) 2 2) [t, u] → Calls Try.prog 11 #[.slice (some ⟨k, 0, none⟩) 2 2] V fun e Y => ∃ a c, e = .returned (.slice a q2.length c) ∧ TextsAt Y (.slice a q2.length c) q2 ∧ Below V.heap.size V Y)
    (HV1 : ∀ V k, TysAt V (.slice (some ⟨k, 0, none⟩) 1 1) [T.all ⟨#[97]⟩ t] → Calls Try.prog 11 #[.slice (some ⟨k, 0, none⟩) 1 1] V fun e Y => ∃ a c, e = .returned (.slice a q1.length c) ∧ TextsAt Y (.slice a q1.length c) q1 ∧ Below V.heap.size V Y)
    (HR2 : ∀ V k, TysAt V (.slice (some ⟨k, 0, none⟩) 2 2) [t, u] → Calls Try.prog 12 #[.slice (some ⟨k, 0, none⟩) 2 2] V fun e Y => ∃ a c, e = .returned (.slice a q2.length c) ∧ TextsAt Y (.slice a q2.length c) q2 ∧ Below V.heap.size V Y)
    (HR1 : ∀ V k, TysAt V (.slice (some ⟨k, 0, none⟩) 1 1) [T.all ⟨#[97]⟩ t] → Calls Try.prog 12 #[.slice (some ⟨k, 0, none⟩) 1 1] V fun e Y => ∃ a c, e = .returned (.slice a q1.length c) ∧ TextsAt Y (.slice a q1.length c) q1 ∧ Below V.heap.size V Y)
    (HR0 : ∀ V k, TysAt V (.slice (some ⟨k, 0, none⟩) 1 1) [t] → Calls Try.prog 12 #[.slice (some ⟨k, 0, none⟩) 1 1] V fun e Y => ∃ a c, e = .returned (.slice a q0.length c) ∧ TextsAt Y (.slice a q0.length c) q0 ∧ Below V.heap.size V Y)
    (HST2 : ∀ V a b c d, TextsAt V (.slice a q2.length c) q2 → TextsAt V (.slice b q2.length d) q2 → Calls Try.prog 10 #[.slice a q2.length c, .slice b q2.length d] V fun e Y => e = .returned (.bool true) ∧ Below V.heap.size V Y)
    (HST1 : ∀ V a b c d, TextsAt V (.slice a q1.length c) q1 → TextsAt V (.slice b q1.length d) q1 → Calls Try.prog 10 #[.slice a q1.length c, .slice b q1.length d] V fun e Y => e = .returned (.bool true) ∧ Below V.heap.size V Y)
    (HHas : ∀ V, SI w bt bu P D t u pa pb ca cb (.slice sa (parts t).length sc) V → Calls Try.prog 13 #[aggT t pa ca, .string nm] V fun e Y => e = .returned (.bool hv) ∧ Below V.heap.size V Y)
    (HHr : ∀ V a c, TextsAt V (.slice a q0.length c) q0 → Calls Try.prog 14 #[.slice a q0.length c, .string nm] V fun e Y => e = .returned (.bool hv) ∧ Below V.heap.size V Y)
    (HSz : ∀ V, SI w bt bu P D t u pa pb ca cb (.slice sa (parts t).length sc) V → Calls Try.prog 15 #[aggT t pa ca] V fun e Y => e = .returned (.int .i64 (ts : Nat)) ∧ Below V.heap.size V Y)
    (HRSz : ∀ V, SI w bt bu P D t u pa pb ca cb (.slice sa (parts t).length sc) V → Calls Try.prog 16 #[aggT t pa ca] V fun e Y => e = .returned (.int .i64 (ts : Nat)) ∧ Below V.heap.size V Y)
    (HAll : ∀ V, SI w bt bu P D t u pa pb ca cb (.slice sa (parts t).length sc) V → Calls Try.prog 18 #[aggT t pa ca] V fun e Y => ∃ a c, e = .returned (.slice a (parts t).length c) ∧ TysAt Y (.slice a (parts t).length c) (parts t) ∧ Below V.heap.size V Y)
    (HSTy : ∀ V a c, SI w bt bu P D t u pa pb ca cb (.slice sa (parts t).length sc) V → TysAt V (.slice a (parts t).length c) (parts t) → Calls Try.prog 17 #[.slice sa (parts t).length sc, .slice a (parts t).length c] V fun e Y => e = .returned (.bool true) ∧ Below V.heap.size V Y)
    (HCm : ∀ V, SI w bt bu P D t u pa pb ca cb (.slice sa (parts t).length sc) V → Calls Try.prog 19 #[aggT t pa ca, aggT u pb cb] V fun e Y => e = .returned (.int .i64 pc) ∧ Below V.heap.size V Y)
    (HRCm : ∀ V, SI w bt bu P D t u pa pb ca cb (.slice sa (parts t).length sc) V → Calls Try.prog 20 #[aggT t pa ca, aggT u pb cb] V fun e Y => e = .returned (.int .i64 pc) ∧ Below V.heap.size V Y)
    (HSm : ∀ V, SI w bt bu P D t u pa pb ca cb (.slice sa (parts t).length sc) V → Calls Try.prog 21 #[aggT t pa ca, aggT u pb cb] V fun e Y => e = .returned (.bool zc) ∧ Below V.heap.size V Y)
    (HSt : ∀ V, SI w bt bu P D t u pa pb ca cb (.slice sa (parts t).length sc) V → Calls Try.prog 21 #[aggT t pa ca, aggT t pa ca] V fun e Y => e = .returned (.bool true) ∧ Below V.heap.size V Y)
    (HSTp : ∀ V, SI w bt bu P D t u pa pb ca cb (.slice sa (parts t).length sc) V → Calls Try.prog 22 #[aggT t pa ca, aggT u pb cb] V fun e Y => e = .returned (.bool zc) ∧ Below V.heap.size V Y)
    {Q : Exit → Act → World → Prop} {ops : Array Oper} (hops : ops = sayOps) (x0 : Nat → Value) (X : World) (hS : SI w bt bu P D t u pa pb ca cb (.slice sa (parts t).length sc) X.drew)
    (hfin : ∀ x V, SI w bt bu P D t u pa pb ca cb (.slice sa (parts t).length sc) V → x 68 = .bool true → Q .normal (sayFr b d x) V) : (Code.region 14 ops true).wp Try.prog Q (sayFr b d x0) X := by
  have HC := Lib.hid (And.intro HV2 (And.intro HV1 (And.intro HR2 (And.intro HR1 (And.intro HR0 (And.intro HST2 (And.intro HST1 (And.intro HHas (And.intro HHr (And.intro HSz (And.intro HRSz (And.intro HAll (And.intro HSTy (And.intro HCm (And.intro HRCm (And.intro HSm (And.intro HSt HSTp)))))))))))))))))
  clear HV2 HV1 HR2 HR1 HR0 HST2 HST1 HHas HHr HSz HRSz HAll HSTy HCm HRCm HSm HSt HSTp
  refine region_inv (sayFr b d) (fun V => SI w bt bu P D t u pa pb ca cb (.slice sa (parts t).length sc) V) (fun V Y => Below V.heap.size V Y) (sayVals t u pa pb ca cb bu nm sa sc q2 q1 q0 hv zc ts pc) x0 (by kernel_rfl) rfl hS (fun V Y h hb => h.below hb) (fun i v V Y _ h hb => sayVals_keep i v V Y h hb) ?_ (fun x V hV h => hfin x V hV (h 68 (by rw [hops, say_size]; decide)))
  clear hfin hS
  obtain ⟨f, hf⟩ : ∃ f, StepAt Try.prog (sayFr b d) (fun V => SI w bt bu P D t u pa pb ca cb (.slice sa (parts t).length sc) V) (fun V Y => Below V.heap.size V Y) (sayVals t u pa pb ca cb bu nm sa sc q2 q1 q0 hv zc ts pc) ops Q = f := ⟨_, rfl⟩
  rw [hf, hops]
  simp only [sayOps, Try.f3, regionIn, Option.getD_some, Nat.reduceBEq, Bool.false_eq_true, if_false, if_true, beq_self_eq_true, Array.append_empty, Array.empty_append, List.append_eq, List.cons_append, List.nil_append, AllAt, Nat.reduceAdd, Nat.zero_add]
  -- 0: slot 52 := Op.move t7
  refine And.intro ?_ ?_
  · rw [← hf]; clear hf
    refine ⟨by decide +kernel, fun x v => by kernel_rfl, fun x V hV hdep K hK => ?_⟩
    clear hdep
    refine run_bare (by kernel_rfl) ?_
    unfold sayFr
    go_simp
    refine kfit (hK _ _ (Below.refl _ V) rfl) ?_
    first | (simp only [sayFr, Act.put, List.setIfInBounds_toArray, List.set_cons_zero, List.set_cons_succ, h2, h7, h9, h10, h11, h12]; done) | (simp only [sayFr, Act.put, List.setIfInBounds_toArray, List.set_cons_zero, List.set_cons_succ, h2, h7, h9, h10, h11, h12]; rfl)
  -- 1: slot 53 := Op.move t52
  refine And.intro ?_ ?_
  · rw [← hf]; clear hf
    refine ⟨by decide +kernel, fun x v => by kernel_rfl, fun x V hV hdep K hK => ?_⟩
    have e0 : x 0 = .bool true := depOf hdep 0 (by decide +kernel)
    clear hdep
    refine run_bare (by kernel_rfl) ?_
    unfold sayFr
    go_simp
    refine kfit (hK _ _ (Below.refl _ V) rfl) ?_
    first | (simp only [sayFr, Act.put, List.setIfInBounds_toArray, List.set_cons_zero, List.set_cons_succ, h2, h7, h9, h10, h11, h12, e0]; done) | (simp only [sayFr, Act.put, List.setIfInBounds_toArray, List.set_cons_zero, List.set_cons_succ, h2, h7, h9, h10, h11, h12, e0]; rfl)
  -- 2: slot 54 := Op.load 29 t9
  refine And.intro ?_ ?_
  · rw [← hf]; clear hf
    refine ⟨by decide +kernel, fun x v => by kernel_rfl, fun x V hV hdep K hK => ?_⟩
    have e1 : x 1 = .bool true := depOf hdep 1 (by decide +kernel)
    clear hdep
    refine run_guard 1 53 (x 1) (by kernel_rfl) (by rw [hops]; exact say_dst_1) (by kernel_rfl) e1 ?_; clear hops
    unfold sayFr
    obtain ⟨⟨y0, y1, y2⟩, ⟨y3, y4, y5⟩, ⟨y6, y7, y8⟩, y9⟩ := SI.cells hV
    go_simp
    refine kfit (hK _ _ (Below.refl _ V) rfl) ?_
    first | (simp only [sayFr, Act.put, List.setIfInBounds_toArray, List.set_cons_zero, List.set_cons_succ, h2, h7, h9, h10, h11, h12, e1]; done) | (simp only [sayFr, Act.put, List.setIfInBounds_toArray, List.set_cons_zero, List.set_cons_succ, h2, h7, h9, h10, h11, h12, e1]; rfl)
  -- 3: slot 55 := Op.load 29 t10
  refine And.intro ?_ ?_
  · rw [← hf]; clear hf
    refine ⟨by decide +kernel, fun x v => by kernel_rfl, fun x V hV hdep K hK => ?_⟩
    have e1 : x 1 = .bool true := depOf hdep 1 (by decide +kernel)
    clear hdep
    refine run_guard 1 53 (x 1) (by kernel_rfl) (by rw [hops]; exact say_dst_1) (by kernel_rfl) e1 ?_; clear hops
    unfold sayFr
    obtain ⟨⟨y0, y1, y2⟩, ⟨y3, y4, y5⟩, ⟨y6, y7, y8⟩, y9⟩ := SI.cells hV
    go_simp
    refine kfit (hK _ _ (Below.refl _ V) rfl) ?_
    first | (simp only [sayFr, Act.put, List.setIfInBounds_toArray, List.set_cons_zero, List.set_cons_succ, h2, h7, h9, h10, h11, h12, e1]; done) | (simp only [sayFr, Act.put, List.setIfInBounds_toArray, List.set_cons_zero, List.set_cons_succ, h2, h7, h9, h10, h11, h12, e1]; rfl)
  -- 4: slot 56 := Op.buildSlice 27 2 #[(0, t54), (1, t55)]
  refine And.intro ?_ ?_
  · rw [← hf]; clear hf
    refine ⟨by decide +kernel, fun x v => by kernel_rfl, fun x V hV hdep K hK => ?_⟩
    have e1 : x 1 = .bool true := depOf hdep 1 (by decide +kernel)
    have e2 : x 2 = aggT t pa ca := depOf hdep 2 (by decide +kernel)
    have e3 : x 3 = aggT u pb cb := depOf hdep 3 (by decide +kernel)
    clear hdep
    refine run_guard 1 53 (x 1) (by kernel_rfl) (by rw [hops]; exact say_dst_1) (by kernel_rfl) e1 ?_; clear hops
    unfold sayFr
    simp only [aggT] at e2
    simp only [aggT] at e3
    go_simp
    refine kfit (hK _ _ (below_a _ _) ⟨_, rfl, row2 hV.1.1 hV.1.2.1⟩) ?_
    first | (simp only [sayFr, Act.put, List.setIfInBounds_toArray, List.set_cons_zero, List.set_cons_succ, h2, h7, h9, h10, h11, h12, e1, e2, e3]; done) | (simp only [sayFr, Act.put, List.setIfInBounds_toArray, List.set_cons_zero, List.set_cons_succ, h2, h7, h9, h10, h11, h12, e1, e2, e3]; rfl)
  -- 5: slot 57 := Op.call { value (Operand.func 11), args := #[t56], argTypes 
  refine And.intro ?_ ?_
  · rw [← hf]; clear hf
    refine ⟨by decide +kernel, fun x v => by kernel_rfl, fun x V hV hdep K hK => ?_⟩
    have e1 : x 1 = .bool true := depOf hdep 1 (by decide +kernel)
    obtain ⟨k4, e4, d4⟩ : ∃ k, x 4 = .slice (some ⟨k, 0, none⟩) 2 2 ∧ TysAt V (.slice (some ⟨k, 0, none⟩) 2 2) [t, u] := depOf hdep 4 (by decide +kernel)
    clear hdep
    refine run_guard 1 53 (x 1) (by kernel_rfl) (by rw [hops]; exact say_dst_1) (by kernel_rfl) e1 ?_; clear hops
    unfold sayFr
    obtain ⟨HV2, HV1, HR2, HR1, HR0, HST2, HST1, HHas, HHr, HSz, HRSz, HAll, HSTy, HCm, HRCm, HSm, HSt, HSTp⟩ := HC.out
    clear HV1 HR2 HR1 HR0 HST2 HST1 HHas HHr HSz HRSz HAll HSTy HCm HRCm HSm HSt HSTp
    skip
    have H := Lib.hid (HV2 _ _ d4)
    clear HV2
    go_simp
    go_at_call 11
    refine H.out.mono ?_
    rintro e Y ⟨a, c, rfl, hq, hb⟩; refine kfit (hK _ _ hb ⟨a, c, rfl, hq⟩) ?_
    first | (simp only [sayFr, Act.put, List.setIfInBounds_toArray, List.set_cons_zero, List.set_cons_succ, h2, h7, h9, h10, h11, h12, e1, e4]; done) | (simp only [sayFr, Act.put, List.setIfInBounds_toArray, List.set_cons_zero, List.set_cons_succ, h2, h7, h9, h10, h11, h12, e1, e4]; rfl)
  -- 6: slot 58 := Op.load 29 t9
  refine And.intro ?_ ?_
  · rw [← hf]; clear hf
    refine ⟨by decide +kernel, fun x v => by kernel_rfl, fun x V hV hdep K hK => ?_⟩
    have e1 : x 1 = .bool true := depOf hdep 1 (by decide +kernel)
    clear hdep
    refine run_guard 1 53 (x 1) (by kernel_rfl) (by rw [hops]; exact say_dst_1) (by kernel_rfl) e1 ?_; clear hops
    unfold sayFr
    obtain ⟨⟨y0, y1, y2⟩, ⟨y3, y4, y5⟩, ⟨y6, y7, y8⟩, y9⟩ := SI.cells hV
    go_simp
    refine kfit (hK _ _ (Below.refl _ V) rfl) ?_
    first | (simp only [sayFr, Act.put, List.setIfInBounds_toArray, List.set_cons_zero, List.set_cons_succ, h2, h7, h9, h10, h11, h12, e1]; done) | (simp only [sayFr, Act.put, List.setIfInBounds_toArray, List.set_cons_zero, List.set_cons_succ, h2, h7, h9, h10, h11, h12, e1]; rfl)
  -- 7: slot 59 := Op.load 29 t10
  refine And.intro ?_ ?_
  · rw [← hf]; clear hf
    refine ⟨by decide +kernel, fun x v => by kernel_rfl, fun x V hV hdep K hK => ?_⟩
    have e1 : x 1 = .bool true := depOf hdep 1 (by decide +kernel)
    clear hdep
    refine run_guard 1 53 (x 1) (by kernel_rfl) (by rw [hops]; exact say_dst_1) (by kernel_rfl) e1 ?_; clear hops
    unfold sayFr
    obtain ⟨⟨y0, y1, y2⟩, ⟨y3, y4, y5⟩, ⟨y6, y7, y8⟩, y9⟩ := SI.cells hV
    go_simp
    refine kfit (hK _ _ (Below.refl _ V) rfl) ?_
    first | (simp only [sayFr, Act.put, List.setIfInBounds_toArray, List.set_cons_zero, List.set_cons_succ, h2, h7, h9, h10, h11, h12, e1]; done) | (simp only [sayFr, Act.put, List.setIfInBounds_toArray, List.set_cons_zero, List.set_cons_succ, h2, h7, h9, h10, h11, h12, e1]; rfl)
  -- 8: slot 60 := Op.buildSlice 27 2 #[(0, t58), (1, t59)]
  refine And.intro ?_ ?_
  · rw [← hf]; clear hf
    refine ⟨by decide +kernel, fun x v => by kernel_rfl, fun x V hV hdep K hK => ?_⟩
    have e1 : x 1 = .bool true := depOf hdep 1 (by decide +kernel)
    have e6 : x 6 = aggT t pa ca := depOf hdep 6 (by decide +kernel)
    have e7 : x 7 = aggT u pb cb := depOf hdep 7 (by decide +kernel)
    clear hdep
    refine run_guard 1 53 (x 1) (by kernel_rfl) (by rw [hops]; exact say_dst_1) (by kernel_rfl) e1 ?_; clear hops
    unfold sayFr
    simp only [aggT] at e6
    simp only [aggT] at e7
    go_simp
    refine kfit (hK _ _ (below_a _ _) ⟨_, rfl, row2 hV.1.1 hV.1.2.1⟩) ?_
    first | (simp only [sayFr, Act.put, List.setIfInBounds_toArray, List.set_cons_zero, List.set_cons_succ, h2, h7, h9, h10, h11, h12, e1, e6, e7]; done) | (simp only [sayFr, Act.put, List.setIfInBounds_toArray, List.set_cons_zero, List.set_cons_succ, h2, h7, h9, h10, h11, h12, e1, e6, e7]; rfl)
  -- 9: slot 61 := Op.call { value (Operand.func 12), args := #[t60], argTypes 
  refine And.intro ?_ ?_
  · rw [← hf]; clear hf
    refine ⟨by decide +kernel, fun x v => by kernel_rfl, fun x V hV hdep K hK => ?_⟩
    have e1 : x 1 = .bool true := depOf hdep 1 (by decide +kernel)
    obtain ⟨k8, e8, d8⟩ : ∃ k, x 8 = .slice (some ⟨k, 0, none⟩) 2 2 ∧ TysAt V (.slice (some ⟨k, 0, none⟩) 2 2) [t, u] := depOf hdep 8 (by decide +kernel)
    clear hdep
    refine run_guard 1 53 (x 1) (by kernel_rfl) (by rw [hops]; exact say_dst_1) (by kernel_rfl) e1 ?_; clear hops
    unfold sayFr
    obtain ⟨HV2, HV1, HR2, HR1, HR0, HST2, HST1, HHas, HHr, HSz, HRSz, HAll, HSTy, HCm, HRCm, HSm, HSt, HSTp⟩ := HC.out
    clear HV2 HV1 HR1 HR0 HST2 HST1 HHas HHr HSz HRSz HAll HSTy HCm HRCm HSm HSt HSTp
    skip
    have H := Lib.hid (HR2 _ _ d8)
    clear HR2
    go_simp
    go_at_call 12
    refine H.out.mono ?_
    rintro e Y ⟨a, c, rfl, hq, hb⟩; refine kfit (hK _ _ hb ⟨a, c, rfl, hq⟩) ?_
    first | (simp only [sayFr, Act.put, List.setIfInBounds_toArray, List.set_cons_zero, List.set_cons_succ, h2, h7, h9, h10, h11, h12, e1, e8]; done) | (simp only [sayFr, Act.put, List.setIfInBounds_toArray, List.set_cons_zero, List.set_cons_succ, h2, h7, h9, h10, h11, h12, e1, e8]; rfl)
  -- 10: slot 62 := Op.call { value (Operand.func 10), args := #[t57, t61], argT
  refine And.intro ?_ ?_
  · rw [← hf]; clear hf
    refine ⟨by decide +kernel, fun x v => by kernel_rfl, fun x V hV hdep K hK => ?_⟩
    have e1 : x 1 = .bool true := depOf hdep 1 (by decide +kernel)
    obtain ⟨a5, c5, e5, d5⟩ : ∃ a c, x 5 = .slice a q2.length c ∧ TextsAt V (.slice a q2.length c) q2 := depOf hdep 5 (by decide +kernel)
    obtain ⟨a9, c9, e9, d9⟩ : ∃ a c, x 9 = .slice a q2.length c ∧ TextsAt V (.slice a q2.length c) q2 := depOf hdep 9 (by decide +kernel)
    clear hdep
    refine run_guard 1 53 (x 1) (by kernel_rfl) (by rw [hops]; exact say_dst_1) (by kernel_rfl) e1 ?_; clear hops
    unfold sayFr
    obtain ⟨HV2, HV1, HR2, HR1, HR0, HST2, HST1, HHas, HHr, HSz, HRSz, HAll, HSTy, HCm, HRCm, HSm, HSt, HSTp⟩ := HC.out
    clear HV2 HV1 HR2 HR1 HR0 HST1 HHas HHr HSz HRSz HAll HSTy HCm HRCm HSm HSt HSTp
    skip
    have H := Lib.hid (HST2 _ _ _ _ _ d5 d9)
    clear HST2
    go_simp
    go_at_call 10
    refine H.out.mono ?_
    rintro e Y ⟨rfl, hb⟩; refine kfit (hK _ _ hb rfl) ?_
    first | (simp only [sayFr, Act.put, List.setIfInBounds_toArray, List.set_cons_zero, List.set_cons_succ, h2, h7, h9, h10, h11, h12, e1, e5, e9]; done) | (simp only [sayFr, Act.put, List.setIfInBounds_toArray, List.set_cons_zero, List.set_cons_succ, h2, h7, h9, h10, h11, h12, e1, e5, e9]; rfl)
  -- 11: slot 63 := Op.pick t53 t62 (const (Value.bool false))
  refine And.intro ?_ ?_
  · rw [← hf]; clear hf
    refine ⟨by decide +kernel, fun x v => by kernel_rfl, fun x V hV hdep K hK => ?_⟩
    have e1 : x 1 = .bool true := depOf hdep 1 (by decide +kernel)
    have e10 : x 10 = .bool true := depOf hdep 10 (by decide +kernel)
    clear hdep
    refine run_bare (by kernel_rfl) ?_
    unfold sayFr
    go_simp
    refine kfit (hK _ _ (Below.refl _ V) rfl) ?_
    first | (simp only [sayFr, Act.put, List.setIfInBounds_toArray, List.set_cons_zero, List.set_cons_succ, h2, h7, h9, h10, h11, h12, e1, e10]; done) | (simp only [sayFr, Act.put, List.setIfInBounds_toArray, List.set_cons_zero, List.set_cons_succ, h2, h7, h9, h10, h11, h12, e1, e10]; rfl)
  -- 12: slot 64 := Op.move t63
  refine And.intro ?_ ?_
  · rw [← hf]; clear hf
    refine ⟨by decide +kernel, fun x v => by kernel_rfl, fun x V hV hdep K hK => ?_⟩
    have e11 : x 11 = .bool true := depOf hdep 11 (by decide +kernel)
    clear hdep
    refine run_bare (by kernel_rfl) ?_
    unfold sayFr
    go_simp
    refine kfit (hK _ _ (Below.refl _ V) rfl) ?_
    first | (simp only [sayFr, Act.put, List.setIfInBounds_toArray, List.set_cons_zero, List.set_cons_succ, h2, h7, h9, h10, h11, h12, e11]; done) | (simp only [sayFr, Act.put, List.setIfInBounds_toArray, List.set_cons_zero, List.set_cons_succ, h2, h7, h9, h10, h11, h12, e11]; rfl)
  -- 13: slot 65 := Op.load 29 t11
  refine And.intro ?_ ?_
  · rw [← hf]; clear hf
    refine ⟨by decide +kernel, fun x v => by kernel_rfl, fun x V hV hdep K hK => ?_⟩
    have e12 : x 12 = .bool true := depOf hdep 12 (by decide +kernel)
    clear hdep
    refine run_guard 12 64 (x 12) (by kernel_rfl) (by rw [hops]; exact say_dst_12) (by kernel_rfl) e12 ?_; clear hops
    unfold sayFr
    obtain ⟨⟨y0, y1, y2⟩, ⟨y3, y4, y5⟩, ⟨y6, y7, y8⟩, y9⟩ := SI.cells hV
    go_simp
    refine kfit (hK _ _ (Below.refl _ V) rfl) ?_
    first | (simp only [sayFr, Act.put, List.setIfInBounds_toArray, List.set_cons_zero, List.set_cons_succ, h2, h7, h9, h10, h11, h12, e12]; done) | (simp only [sayFr, Act.put, List.setIfInBounds_toArray, List.set_cons_zero, List.set_cons_succ, h2, h7, h9, h10, h11, h12, e12]; rfl)
  -- 14: slot 66 := Op.buildSlice 27 1 #[(0, t65)]
  refine And.intro ?_ ?_
  · rw [← hf]; clear hf
    refine ⟨by decide +kernel, fun x v => by kernel_rfl, fun x V hV hdep K hK => ?_⟩
    have e12 : x 12 = .bool true := depOf hdep 12 (by decide +kernel)
    have e13 : x 13 = aggA bu := depOf hdep 13 (by decide +kernel)
    clear hdep
    refine run_guard 12 64 (x 12) (by kernel_rfl) (by rw [hops]; exact say_dst_12) (by kernel_rfl) e12 ?_; clear hops
    unfold sayFr
    simp only [aggA] at e13
    go_simp
    refine kfit (hK _ _ (below_a _ _) ⟨_, rfl, row1 hV.1.2.2⟩) ?_
    first | (simp only [sayFr, Act.put, List.setIfInBounds_toArray, List.set_cons_zero, List.set_cons_succ, h2, h7, h9, h10, h11, h12, e12, e13]; done) | (simp only [sayFr, Act.put, List.setIfInBounds_toArray, List.set_cons_zero, List.set_cons_succ, h2, h7, h9, h10, h11, h12, e12, e13]; rfl)
  -- 15: slot 67 := Op.call { value (Operand.func 11), args := #[t66], argTypes 
  refine And.intro ?_ ?_
  · rw [← hf]; clear hf
    refine ⟨by decide +kernel, fun x v => by kernel_rfl, fun x V hV hdep K hK => ?_⟩
    have e12 : x 12 = .bool true := depOf hdep 12 (by decide +kernel)
    obtain ⟨k14, e14, d14⟩ : ∃ k, x 14 = .slice (some ⟨k, 0, none⟩) 1 1 ∧ TysAt V (.slice (some ⟨k, 0, none⟩) 1 1) [T.all ⟨#[97]⟩ t] := depOf hdep 14 (by decide +kernel)
    clear hdep
    refine run_guard 12 64 (x 12) (by kernel_rfl) (by rw [hops]; exact say_dst_12) (by kernel_rfl) e12 ?_; clear hops
    unfold sayFr
    obtain ⟨HV2, HV1, HR2, HR1, HR0, HST2, HST1, HHas, HHr, HSz, HRSz, HAll, HSTy, HCm, HRCm, HSm, HSt, HSTp⟩ := HC.out
    clear HV2 HR2 HR1 HR0 HST2 HST1 HHas HHr HSz HRSz HAll HSTy HCm HRCm HSm HSt HSTp
    skip
    have H := Lib.hid (HV1 _ _ d14)
    clear HV1
    go_simp
    go_at_call 11
    refine H.out.mono ?_
    rintro e Y ⟨a, c, rfl, hq, hb⟩; refine kfit (hK _ _ hb ⟨a, c, rfl, hq⟩) ?_
    first | (simp only [sayFr, Act.put, List.setIfInBounds_toArray, List.set_cons_zero, List.set_cons_succ, h2, h7, h9, h10, h11, h12, e12, e14]; done) | (simp only [sayFr, Act.put, List.setIfInBounds_toArray, List.set_cons_zero, List.set_cons_succ, h2, h7, h9, h10, h11, h12, e12, e14]; rfl)
  -- 16: slot 68 := Op.load 29 t11
  refine And.intro ?_ ?_
  · rw [← hf]; clear hf
    refine ⟨by decide +kernel, fun x v => by kernel_rfl, fun x V hV hdep K hK => ?_⟩
    have e12 : x 12 = .bool true := depOf hdep 12 (by decide +kernel)
    clear hdep
    refine run_guard 12 64 (x 12) (by kernel_rfl) (by rw [hops]; exact say_dst_12) (by kernel_rfl) e12 ?_; clear hops
    unfold sayFr
    obtain ⟨⟨y0, y1, y2⟩, ⟨y3, y4, y5⟩, ⟨y6, y7, y8⟩, y9⟩ := SI.cells hV
    go_simp
    refine kfit (hK _ _ (Below.refl _ V) rfl) ?_
    first | (simp only [sayFr, Act.put, List.setIfInBounds_toArray, List.set_cons_zero, List.set_cons_succ, h2, h7, h9, h10, h11, h12, e12]; done) | (simp only [sayFr, Act.put, List.setIfInBounds_toArray, List.set_cons_zero, List.set_cons_succ, h2, h7, h9, h10, h11, h12, e12]; rfl)
  -- 17: slot 69 := Op.buildSlice 27 1 #[(0, t68)]
  refine And.intro ?_ ?_
  · rw [← hf]; clear hf
    refine ⟨by decide +kernel, fun x v => by kernel_rfl, fun x V hV hdep K hK => ?_⟩
    have e12 : x 12 = .bool true := depOf hdep 12 (by decide +kernel)
    have e16 : x 16 = aggA bu := depOf hdep 16 (by decide +kernel)
    clear hdep
    refine run_guard 12 64 (x 12) (by kernel_rfl) (by rw [hops]; exact say_dst_12) (by kernel_rfl) e12 ?_; clear hops
    unfold sayFr
    simp only [aggA] at e16
    go_simp
    refine kfit (hK _ _ (below_a _ _) ⟨_, rfl, row1 hV.1.2.2⟩) ?_
    first | (simp only [sayFr, Act.put, List.setIfInBounds_toArray, List.set_cons_zero, List.set_cons_succ, h2, h7, h9, h10, h11, h12, e12, e16]; done) | (simp only [sayFr, Act.put, List.setIfInBounds_toArray, List.set_cons_zero, List.set_cons_succ, h2, h7, h9, h10, h11, h12, e12, e16]; rfl)
  -- 18: slot 70 := Op.call { value (Operand.func 12), args := #[t69], argTypes 
  refine And.intro ?_ ?_
  · rw [← hf]; clear hf
    refine ⟨by decide +kernel, fun x v => by kernel_rfl, fun x V hV hdep K hK => ?_⟩
    have e12 : x 12 = .bool true := depOf hdep 12 (by decide +kernel)
    obtain ⟨k17, e17, d17⟩ : ∃ k, x 17 = .slice (some ⟨k, 0, none⟩) 1 1 ∧ TysAt V (.slice (some ⟨k, 0, none⟩) 1 1) [T.all ⟨#[97]⟩ t] := depOf hdep 17 (by decide +kernel)
    clear hdep
    refine run_guard 12 64 (x 12) (by kernel_rfl) (by rw [hops]; exact say_dst_12) (by kernel_rfl) e12 ?_; clear hops
    unfold sayFr
    obtain ⟨HV2, HV1, HR2, HR1, HR0, HST2, HST1, HHas, HHr, HSz, HRSz, HAll, HSTy, HCm, HRCm, HSm, HSt, HSTp⟩ := HC.out
    clear HV2 HV1 HR2 HR0 HST2 HST1 HHas HHr HSz HRSz HAll HSTy HCm HRCm HSm HSt HSTp
    skip
    have H := Lib.hid (HR1 _ _ d17)
    clear HR1
    go_simp
    go_at_call 12
    refine H.out.mono ?_
    rintro e Y ⟨a, c, rfl, hq, hb⟩; refine kfit (hK _ _ hb ⟨a, c, rfl, hq⟩) ?_
    first | (simp only [sayFr, Act.put, List.setIfInBounds_toArray, List.set_cons_zero, List.set_cons_succ, h2, h7, h9, h10, h11, h12, e12, e17]; done) | (simp only [sayFr, Act.put, List.setIfInBounds_toArray, List.set_cons_zero, List.set_cons_succ, h2, h7, h9, h10, h11, h12, e12, e17]; rfl)
  -- 19: slot 71 := Op.call { value (Operand.func 10), args := #[t67, t70], argT
  refine And.intro ?_ ?_
  · rw [← hf]; clear hf
    refine ⟨by decide +kernel, fun x v => by kernel_rfl, fun x V hV hdep K hK => ?_⟩
    have e12 : x 12 = .bool true := depOf hdep 12 (by decide +kernel)
    obtain ⟨a15, c15, e15, d15⟩ : ∃ a c, x 15 = .slice a q1.length c ∧ TextsAt V (.slice a q1.length c) q1 := depOf hdep 15 (by decide +kernel)
    obtain ⟨a18, c18, e18, d18⟩ : ∃ a c, x 18 = .slice a q1.length c ∧ TextsAt V (.slice a q1.length c) q1 := depOf hdep 18 (by decide +kernel)
    clear hdep
    refine run_guard 12 64 (x 12) (by kernel_rfl) (by rw [hops]; exact say_dst_12) (by kernel_rfl) e12 ?_; clear hops
    unfold sayFr
    obtain ⟨HV2, HV1, HR2, HR1, HR0, HST2, HST1, HHas, HHr, HSz, HRSz, HAll, HSTy, HCm, HRCm, HSm, HSt, HSTp⟩ := HC.out
    clear HV2 HV1 HR2 HR1 HR0 HST2 HHas HHr HSz HRSz HAll HSTy HCm HRCm HSm HSt HSTp
    skip
    have H := Lib.hid (HST1 _ _ _ _ _ d15 d18)
    clear HST1
    go_simp
    go_at_call 10
    refine H.out.mono ?_
    rintro e Y ⟨rfl, hb⟩; refine kfit (hK _ _ hb rfl) ?_
    first | (simp only [sayFr, Act.put, List.setIfInBounds_toArray, List.set_cons_zero, List.set_cons_succ, h2, h7, h9, h10, h11, h12, e12, e15, e18]; done) | (simp only [sayFr, Act.put, List.setIfInBounds_toArray, List.set_cons_zero, List.set_cons_succ, h2, h7, h9, h10, h11, h12, e12, e15, e18]; rfl)
  -- 20: slot 72 := Op.pick t64 t71 (const (Value.bool false))
  refine And.intro ?_ ?_
  · rw [← hf]; clear hf
    refine ⟨by decide +kernel, fun x v => by kernel_rfl, fun x V hV hdep K hK => ?_⟩
    have e12 : x 12 = .bool true := depOf hdep 12 (by decide +kernel)
    have e19 : x 19 = .bool true := depOf hdep 19 (by decide +kernel)
    clear hdep
    refine run_bare (by kernel_rfl) ?_
    unfold sayFr
    go_simp
    refine kfit (hK _ _ (Below.refl _ V) rfl) ?_
    first | (simp only [sayFr, Act.put, List.setIfInBounds_toArray, List.set_cons_zero, List.set_cons_succ, h2, h7, h9, h10, h11, h12, e12, e19]; done) | (simp only [sayFr, Act.put, List.setIfInBounds_toArray, List.set_cons_zero, List.set_cons_succ, h2, h7, h9, h10, h11, h12, e12, e19]; rfl)
  -- 21: slot 73 := Op.move t72
  refine And.intro ?_ ?_
  · rw [← hf]; clear hf
    refine ⟨by decide +kernel, fun x v => by kernel_rfl, fun x V hV hdep K hK => ?_⟩
    have e20 : x 20 = .bool true := depOf hdep 20 (by decide +kernel)
    clear hdep
    refine run_bare (by kernel_rfl) ?_
    unfold sayFr
    go_simp
    refine kfit (hK _ _ (Below.refl _ V) rfl) ?_
    first | (simp only [sayFr, Act.put, List.setIfInBounds_toArray, List.set_cons_zero, List.set_cons_succ, h2, h7, h9, h10, h11, h12, e20]; done) | (simp only [sayFr, Act.put, List.setIfInBounds_toArray, List.set_cons_zero, List.set_cons_succ, h2, h7, h9, h10, h11, h12, e20]; rfl)
  -- 22: slot 74 := Op.load 29 t9
  refine And.intro ?_ ?_
  · rw [← hf]; clear hf
    refine ⟨by decide +kernel, fun x v => by kernel_rfl, fun x V hV hdep K hK => ?_⟩
    have e21 : x 21 = .bool true := depOf hdep 21 (by decide +kernel)
    clear hdep
    refine run_guard 21 73 (x 21) (by kernel_rfl) (by rw [hops]; exact say_dst_21) (by kernel_rfl) e21 ?_; clear hops
    unfold sayFr
    obtain ⟨⟨y0, y1, y2⟩, ⟨y3, y4, y5⟩, ⟨y6, y7, y8⟩, y9⟩ := SI.cells hV
    go_simp
    refine kfit (hK _ _ (Below.refl _ V) rfl) ?_
    first | (simp only [sayFr, Act.put, List.setIfInBounds_toArray, List.set_cons_zero, List.set_cons_succ, h2, h7, h9, h10, h11, h12, e21]; done) | (simp only [sayFr, Act.put, List.setIfInBounds_toArray, List.set_cons_zero, List.set_cons_succ, h2, h7, h9, h10, h11, h12, e21]; rfl)
  -- 23: slot 75 := Op.move t2
  refine And.intro ?_ ?_
  · rw [← hf]; clear hf
    refine ⟨by decide +kernel, fun x v => by kernel_rfl, fun x V hV hdep K hK => ?_⟩
    have e21 : x 21 = .bool true := depOf hdep 21 (by decide +kernel)
    clear hdep
    refine run_guard 21 73 (x 21) (by kernel_rfl) (by rw [hops]; exact say_dst_21) (by kernel_rfl) e21 ?_; clear hops
    unfold sayFr
    go_simp
    refine kfit (hK _ _ (Below.refl _ V) rfl) ?_
    first | (simp only [sayFr, Act.put, List.setIfInBounds_toArray, List.set_cons_zero, List.set_cons_succ, h2, h7, h9, h10, h11, h12, e21]; done) | (simp only [sayFr, Act.put, List.setIfInBounds_toArray, List.set_cons_zero, List.set_cons_succ, h2, h7, h9, h10, h11, h12, e21]; rfl)
  -- 24: slot 76 := Op.call { value (Operand.func 13), args := #[t74, t75], argT
  refine And.intro ?_ ?_
  · rw [← hf]; clear hf
    refine ⟨by decide +kernel, fun x v => by kernel_rfl, fun x V hV hdep K hK => ?_⟩
    have e21 : x 21 = .bool true := depOf hdep 21 (by decide +kernel)
    have e22 : x 22 = aggT t pa ca := depOf hdep 22 (by decide +kernel)
    have e23 : x 23 = .string nm := depOf hdep 23 (by decide +kernel)
    clear hdep
    refine run_guard 21 73 (x 21) (by kernel_rfl) (by rw [hops]; exact say_dst_21) (by kernel_rfl) e21 ?_; clear hops
    unfold sayFr
    simp only [aggT] at e22
    obtain ⟨HV2, HV1, HR2, HR1, HR0, HST2, HST1, HHas, HHr, HSz, HRSz, HAll, HSTy, HCm, HRCm, HSm, HSt, HSTp⟩ := HC.out
    clear HV2 HV1 HR2 HR1 HR0 HST2 HST1 HHr HSz HRSz HAll HSTy HCm HRCm HSm HSt HSTp
    simp only [aggT] at HHas
    have H := Lib.hid (HHas _ hV)
    clear HHas
    go_simp
    go_at_call 13
    refine H.out.mono ?_
    rintro e Y ⟨rfl, hb⟩; refine kfit (hK _ _ hb rfl) ?_
    first | (simp only [sayFr, Act.put, List.setIfInBounds_toArray, List.set_cons_zero, List.set_cons_succ, h2, h7, h9, h10, h11, h12, e21, e22, e23]; done) | (simp only [sayFr, Act.put, List.setIfInBounds_toArray, List.set_cons_zero, List.set_cons_succ, h2, h7, h9, h10, h11, h12, e21, e22, e23]; rfl)
  -- 25: slot 77 := Op.load 29 t9
  refine And.intro ?_ ?_
  · rw [← hf]; clear hf
    refine ⟨by decide +kernel, fun x v => by kernel_rfl, fun x V hV hdep K hK => ?_⟩
    have e21 : x 21 = .bool true := depOf hdep 21 (by decide +kernel)
    clear hdep
    refine run_guard 21 73 (x 21) (by kernel_rfl) (by rw [hops]; exact say_dst_21) (by kernel_rfl) e21 ?_; clear hops
    unfold sayFr
    obtain ⟨⟨y0, y1, y2⟩, ⟨y3, y4, y5⟩, ⟨y6, y7, y8⟩, y9⟩ := SI.cells hV
    go_simp
    refine kfit (hK _ _ (Below.refl _ V) rfl) ?_
    first | (simp only [sayFr, Act.put, List.setIfInBounds_toArray, List.set_cons_zero, List.set_cons_succ, h2, h7, h9, h10, h11, h12, e21]; done) | (simp only [sayFr, Act.put, List.setIfInBounds_toArray, List.set_cons_zero, List.set_cons_succ, h2, h7, h9, h10, h11, h12, e21]; rfl)
  -- 26: slot 78 := Op.buildSlice 27 1 #[(0, t77)]
  refine And.intro ?_ ?_
  · rw [← hf]; clear hf
    refine ⟨by decide +kernel, fun x v => by kernel_rfl, fun x V hV hdep K hK => ?_⟩
    have e21 : x 21 = .bool true := depOf hdep 21 (by decide +kernel)
    have e25 : x 25 = aggT t pa ca := depOf hdep 25 (by decide +kernel)
    clear hdep
    refine run_guard 21 73 (x 21) (by kernel_rfl) (by rw [hops]; exact say_dst_21) (by kernel_rfl) e21 ?_; clear hops
    unfold sayFr
    simp only [aggT] at e25
    go_simp
    refine kfit (hK _ _ (below_a _ _) ⟨_, rfl, row1 hV.1.1⟩) ?_
    first | (simp only [sayFr, Act.put, List.setIfInBounds_toArray, List.set_cons_zero, List.set_cons_succ, h2, h7, h9, h10, h11, h12, e21, e25]; done) | (simp only [sayFr, Act.put, List.setIfInBounds_toArray, List.set_cons_zero, List.set_cons_succ, h2, h7, h9, h10, h11, h12, e21, e25]; rfl)
  -- 27: slot 79 := Op.call { value (Operand.func 12), args := #[t78], argTypes 
  refine And.intro ?_ ?_
  · rw [← hf]; clear hf
    refine ⟨by decide +kernel, fun x v => by kernel_rfl, fun x V hV hdep K hK => ?_⟩
    have e21 : x 21 = .bool true := depOf hdep 21 (by decide +kernel)
    obtain ⟨k26, e26, d26⟩ : ∃ k, x 26 = .slice (some ⟨k, 0, none⟩) 1 1 ∧ TysAt V (.slice (some ⟨k, 0, none⟩) 1 1) [t] := depOf hdep 26 (by decide +kernel)
    clear hdep
    refine run_guard 21 73 (x 21) (by kernel_rfl) (by rw [hops]; exact say_dst_21) (by kernel_rfl) e21 ?_; clear hops
    unfold sayFr
    obtain ⟨HV2, HV1, HR2, HR1, HR0, HST2, HST1, HHas, HHr, HSz, HRSz, HAll, HSTy, HCm, HRCm, HSm, HSt, HSTp⟩ := HC.out
    clear HV2 HV1 HR2 HR1 HST2 HST1 HHas HHr HSz HRSz HAll HSTy HCm HRCm HSm HSt HSTp
    skip
    have H := Lib.hid (HR0 _ _ d26)
    clear HR0
    go_simp
    go_at_call 12
    refine H.out.mono ?_
    rintro e Y ⟨a, c, rfl, hq, hb⟩; refine kfit (hK _ _ hb ⟨a, c, rfl, hq⟩) ?_
    first | (simp only [sayFr, Act.put, List.setIfInBounds_toArray, List.set_cons_zero, List.set_cons_succ, h2, h7, h9, h10, h11, h12, e21, e26]; done) | (simp only [sayFr, Act.put, List.setIfInBounds_toArray, List.set_cons_zero, List.set_cons_succ, h2, h7, h9, h10, h11, h12, e21, e26]; rfl)
  -- 28: slot 80 := Op.move t2
  refine And.intro ?_ ?_
  · rw [← hf]; clear hf
    refine ⟨by decide +kernel, fun x v => by kernel_rfl, fun x V hV hdep K hK => ?_⟩
    have e21 : x 21 = .bool true := depOf hdep 21 (by decide +kernel)
    clear hdep
    refine run_guard 21 73 (x 21) (by kernel_rfl) (by rw [hops]; exact say_dst_21) (by kernel_rfl) e21 ?_; clear hops
    unfold sayFr
    go_simp
    refine kfit (hK _ _ (Below.refl _ V) rfl) ?_
    first | (simp only [sayFr, Act.put, List.setIfInBounds_toArray, List.set_cons_zero, List.set_cons_succ, h2, h7, h9, h10, h11, h12, e21]; done) | (simp only [sayFr, Act.put, List.setIfInBounds_toArray, List.set_cons_zero, List.set_cons_succ, h2, h7, h9, h10, h11, h12, e21]; rfl)
  -- 29: slot 81 := Op.call { value (Operand.func 14), args := #[t79, t80], argT
  refine And.intro ?_ ?_
  · rw [← hf]; clear hf
    refine ⟨by decide +kernel, fun x v => by kernel_rfl, fun x V hV hdep K hK => ?_⟩
    have e21 : x 21 = .bool true := depOf hdep 21 (by decide +kernel)
    obtain ⟨a27, c27, e27, d27⟩ : ∃ a c, x 27 = .slice a q0.length c ∧ TextsAt V (.slice a q0.length c) q0 := depOf hdep 27 (by decide +kernel)
    have e28 : x 28 = .string nm := depOf hdep 28 (by decide +kernel)
    clear hdep
    refine run_guard 21 73 (x 21) (by kernel_rfl) (by rw [hops]; exact say_dst_21) (by kernel_rfl) e21 ?_; clear hops
    unfold sayFr
    obtain ⟨HV2, HV1, HR2, HR1, HR0, HST2, HST1, HHas, HHr, HSz, HRSz, HAll, HSTy, HCm, HRCm, HSm, HSt, HSTp⟩ := HC.out
    clear HV2 HV1 HR2 HR1 HR0 HST2 HST1 HHas HSz HRSz HAll HSTy HCm HRCm HSm HSt HSTp
    skip
    have H := Lib.hid (HHr _ _ _ d27)
    clear HHr
    go_simp
    go_at_call 14
    refine H.out.mono ?_
    rintro e Y ⟨rfl, hb⟩; refine kfit (hK _ _ hb rfl) ?_
    first | (simp only [sayFr, Act.put, List.setIfInBounds_toArray, List.set_cons_zero, List.set_cons_succ, h2, h7, h9, h10, h11, h12, e21, e27, e28]; done) | (simp only [sayFr, Act.put, List.setIfInBounds_toArray, List.set_cons_zero, List.set_cons_succ, h2, h7, h9, h10, h11, h12, e21, e27, e28]; rfl)
  -- 30: slot 82 := Op.binOp BinOp.eql 4 t76 t81 4
  refine And.intro ?_ ?_
  · rw [← hf]; clear hf
    refine ⟨by decide +kernel, fun x v => by kernel_rfl, fun x V hV hdep K hK => ?_⟩
    have e21 : x 21 = .bool true := depOf hdep 21 (by decide +kernel)
    have e24 : x 24 = .bool hv := depOf hdep 24 (by decide +kernel)
    have e29 : x 29 = .bool hv := depOf hdep 29 (by decide +kernel)
    clear hdep
    refine run_guard 21 73 (x 21) (by kernel_rfl) (by rw [hops]; exact say_dst_21) (by kernel_rfl) e21 ?_; clear hops
    unfold sayFr
    go_simp
    refine kfit (hK _ _ (Below.refl _ V) rfl) ?_
    first | (simp only [sayFr, Act.put, List.setIfInBounds_toArray, List.set_cons_zero, List.set_cons_succ, h2, h7, h9, h10, h11, h12, e21, e24, e29]; done) | (simp only [sayFr, Act.put, List.setIfInBounds_toArray, List.set_cons_zero, List.set_cons_succ, h2, h7, h9, h10, h11, h12, e21, e24, e29]; rfl)
  -- 31: slot 83 := Op.pick t73 t82 (const (Value.bool false))
  refine And.intro ?_ ?_
  · rw [← hf]; clear hf
    refine ⟨by decide +kernel, fun x v => by kernel_rfl, fun x V hV hdep K hK => ?_⟩
    have e21 : x 21 = .bool true := depOf hdep 21 (by decide +kernel)
    have e30 : x 30 = .bool true := depOf hdep 30 (by decide +kernel)
    clear hdep
    refine run_bare (by kernel_rfl) ?_
    unfold sayFr
    go_simp
    refine kfit (hK _ _ (Below.refl _ V) rfl) ?_
    first | (simp only [sayFr, Act.put, List.setIfInBounds_toArray, List.set_cons_zero, List.set_cons_succ, h2, h7, h9, h10, h11, h12, e21, e30]; done) | (simp only [sayFr, Act.put, List.setIfInBounds_toArray, List.set_cons_zero, List.set_cons_succ, h2, h7, h9, h10, h11, h12, e21, e30]; rfl)
  -- 32: slot 84 := Op.move t83
  refine And.intro ?_ ?_
  · rw [← hf]; clear hf
    refine ⟨by decide +kernel, fun x v => by kernel_rfl, fun x V hV hdep K hK => ?_⟩
    have e31 : x 31 = .bool true := depOf hdep 31 (by decide +kernel)
    clear hdep
    refine run_bare (by kernel_rfl) ?_
    unfold sayFr
    go_simp
    refine kfit (hK _ _ (Below.refl _ V) rfl) ?_
    first | (simp only [sayFr, Act.put, List.setIfInBounds_toArray, List.set_cons_zero, List.set_cons_succ, h2, h7, h9, h10, h11, h12, e31]; done) | (simp only [sayFr, Act.put, List.setIfInBounds_toArray, List.set_cons_zero, List.set_cons_succ, h2, h7, h9, h10, h11, h12, e31]; rfl)
  -- 33: slot 85 := Op.load 29 t9
  refine And.intro ?_ ?_
  · rw [← hf]; clear hf
    refine ⟨by decide +kernel, fun x v => by kernel_rfl, fun x V hV hdep K hK => ?_⟩
    have e32 : x 32 = .bool true := depOf hdep 32 (by decide +kernel)
    clear hdep
    refine run_guard 32 84 (x 32) (by kernel_rfl) (by rw [hops]; exact say_dst_32) (by kernel_rfl) e32 ?_; clear hops
    unfold sayFr
    obtain ⟨⟨y0, y1, y2⟩, ⟨y3, y4, y5⟩, ⟨y6, y7, y8⟩, y9⟩ := SI.cells hV
    go_simp
    refine kfit (hK _ _ (Below.refl _ V) rfl) ?_
    first | (simp only [sayFr, Act.put, List.setIfInBounds_toArray, List.set_cons_zero, List.set_cons_succ, h2, h7, h9, h10, h11, h12, e32]; done) | (simp only [sayFr, Act.put, List.setIfInBounds_toArray, List.set_cons_zero, List.set_cons_succ, h2, h7, h9, h10, h11, h12, e32]; rfl)
  -- 34: slot 86 := Op.call { value (Operand.func 15), args := #[t85], argTypes 
  refine And.intro ?_ ?_
  · rw [← hf]; clear hf
    refine ⟨by decide +kernel, fun x v => by kernel_rfl, fun x V hV hdep K hK => ?_⟩
    have e32 : x 32 = .bool true := depOf hdep 32 (by decide +kernel)
    have e33 : x 33 = aggT t pa ca := depOf hdep 33 (by decide +kernel)
    clear hdep
    refine run_guard 32 84 (x 32) (by kernel_rfl) (by rw [hops]; exact say_dst_32) (by kernel_rfl) e32 ?_; clear hops
    unfold sayFr
    simp only [aggT] at e33
    obtain ⟨HV2, HV1, HR2, HR1, HR0, HST2, HST1, HHas, HHr, HSz, HRSz, HAll, HSTy, HCm, HRCm, HSm, HSt, HSTp⟩ := HC.out
    clear HV2 HV1 HR2 HR1 HR0 HST2 HST1 HHas HHr HRSz HAll HSTy HCm HRCm HSm HSt HSTp
    simp only [aggT] at HSz
    have H := Lib.hid (HSz _ hV)
    clear HSz
    go_simp
    go_at_call 15
    refine H.out.mono ?_
    rintro e Y ⟨rfl, hb⟩; refine kfit (hK _ _ hb rfl) ?_
    first | (simp only [sayFr, Act.put, List.setIfInBounds_toArray, List.set_cons_zero, List.set_cons_succ, h2, h7, h9, h10, h11, h12, e32, e33]; done) | (simp only [sayFr, Act.put, List.setIfInBounds_toArray, List.set_cons_zero, List.set_cons_succ, h2, h7, h9, h10, h11, h12, e32, e33]; rfl)
  -- 35: slot 87 := Op.load 29 t9
  refine And.intro ?_ ?_
  · rw [← hf]; clear hf
    refine ⟨by decide +kernel, fun x v => by kernel_rfl, fun x V hV hdep K hK => ?_⟩
    have e32 : x 32 = .bool true := depOf hdep 32 (by decide +kernel)
    clear hdep
    refine run_guard 32 84 (x 32) (by kernel_rfl) (by rw [hops]; exact say_dst_32) (by kernel_rfl) e32 ?_; clear hops
    unfold sayFr
    obtain ⟨⟨y0, y1, y2⟩, ⟨y3, y4, y5⟩, ⟨y6, y7, y8⟩, y9⟩ := SI.cells hV
    go_simp
    refine kfit (hK _ _ (Below.refl _ V) rfl) ?_
    first | (simp only [sayFr, Act.put, List.setIfInBounds_toArray, List.set_cons_zero, List.set_cons_succ, h2, h7, h9, h10, h11, h12, e32]; done) | (simp only [sayFr, Act.put, List.setIfInBounds_toArray, List.set_cons_zero, List.set_cons_succ, h2, h7, h9, h10, h11, h12, e32]; rfl)
  -- 36: slot 88 := Op.call { value (Operand.func 16), args := #[t87], argTypes 
  refine And.intro ?_ ?_
  · rw [← hf]; clear hf
    refine ⟨by decide +kernel, fun x v => by kernel_rfl, fun x V hV hdep K hK => ?_⟩
    have e32 : x 32 = .bool true := depOf hdep 32 (by decide +kernel)
    have e35 : x 35 = aggT t pa ca := depOf hdep 35 (by decide +kernel)
    clear hdep
    refine run_guard 32 84 (x 32) (by kernel_rfl) (by rw [hops]; exact say_dst_32) (by kernel_rfl) e32 ?_; clear hops
    unfold sayFr
    simp only [aggT] at e35
    obtain ⟨HV2, HV1, HR2, HR1, HR0, HST2, HST1, HHas, HHr, HSz, HRSz, HAll, HSTy, HCm, HRCm, HSm, HSt, HSTp⟩ := HC.out
    clear HV2 HV1 HR2 HR1 HR0 HST2 HST1 HHas HHr HSz HAll HSTy HCm HRCm HSm HSt HSTp
    simp only [aggT] at HRSz
    have H := Lib.hid (HRSz _ hV)
    clear HRSz
    go_simp
    go_at_call 16
    refine H.out.mono ?_
    rintro e Y ⟨rfl, hb⟩; refine kfit (hK _ _ hb rfl) ?_
    first | (simp only [sayFr, Act.put, List.setIfInBounds_toArray, List.set_cons_zero, List.set_cons_succ, h2, h7, h9, h10, h11, h12, e32, e35]; done) | (simp only [sayFr, Act.put, List.setIfInBounds_toArray, List.set_cons_zero, List.set_cons_succ, h2, h7, h9, h10, h11, h12, e32, e35]; rfl)
  -- 37: slot 89 := Op.binOp BinOp.eql 3 t86 t88 3
  refine And.intro ?_ ?_
  · rw [← hf]; clear hf
    refine ⟨by decide +kernel, fun x v => by kernel_rfl, fun x V hV hdep K hK => ?_⟩
    have e32 : x 32 = .bool true := depOf hdep 32 (by decide +kernel)
    have e34 : x 34 = .int .i64 (ts : Nat) := depOf hdep 34 (by decide +kernel)
    have e36 : x 36 = .int .i64 (ts : Nat) := depOf hdep 36 (by decide +kernel)
    clear hdep
    refine run_guard 32 84 (x 32) (by kernel_rfl) (by rw [hops]; exact say_dst_32) (by kernel_rfl) e32 ?_; clear hops
    unfold sayFr
    go_simp
    refine kfit (hK _ _ (Below.refl _ V) rfl) ?_
    first | (simp only [sayFr, Act.put, List.setIfInBounds_toArray, List.set_cons_zero, List.set_cons_succ, h2, h7, h9, h10, h11, h12, e32, e34, e36]; done) | (simp only [sayFr, Act.put, List.setIfInBounds_toArray, List.set_cons_zero, List.set_cons_succ, h2, h7, h9, h10, h11, h12, e32, e34, e36]; rfl)
  -- 38: slot 90 := Op.pick t84 t89 (const (Value.bool false))
  refine And.intro ?_ ?_
  · rw [← hf]; clear hf
    refine ⟨by decide +kernel, fun x v => by kernel_rfl, fun x V hV hdep K hK => ?_⟩
    have e32 : x 32 = .bool true := depOf hdep 32 (by decide +kernel)
    have e37 : x 37 = .bool true := depOf hdep 37 (by decide +kernel)
    clear hdep
    refine run_bare (by kernel_rfl) ?_
    unfold sayFr
    go_simp
    refine kfit (hK _ _ (Below.refl _ V) rfl) ?_
    first | (simp only [sayFr, Act.put, List.setIfInBounds_toArray, List.set_cons_zero, List.set_cons_succ, h2, h7, h9, h10, h11, h12, e32, e37]; done) | (simp only [sayFr, Act.put, List.setIfInBounds_toArray, List.set_cons_zero, List.set_cons_succ, h2, h7, h9, h10, h11, h12, e32, e37]; rfl)
  -- 39: slot 91 := Op.move t90
  refine And.intro ?_ ?_
  · rw [← hf]; clear hf
    refine ⟨by decide +kernel, fun x v => by kernel_rfl, fun x V hV hdep K hK => ?_⟩
    have e38 : x 38 = .bool true := depOf hdep 38 (by decide +kernel)
    clear hdep
    refine run_bare (by kernel_rfl) ?_
    unfold sayFr
    go_simp
    refine kfit (hK _ _ (Below.refl _ V) rfl) ?_
    first | (simp only [sayFr, Act.put, List.setIfInBounds_toArray, List.set_cons_zero, List.set_cons_succ, h2, h7, h9, h10, h11, h12, e38]; done) | (simp only [sayFr, Act.put, List.setIfInBounds_toArray, List.set_cons_zero, List.set_cons_succ, h2, h7, h9, h10, h11, h12, e38]; rfl)
  -- 40: slot 92 := Op.load 27 t12
  refine And.intro ?_ ?_
  · rw [← hf]; clear hf
    refine ⟨by decide +kernel, fun x v => by kernel_rfl, fun x V hV hdep K hK => ?_⟩
    have e39 : x 39 = .bool true := depOf hdep 39 (by decide +kernel)
    clear hdep
    refine run_guard 39 91 (x 39) (by kernel_rfl) (by rw [hops]; exact say_dst_39) (by kernel_rfl) e39 ?_; clear hops
    unfold sayFr
    obtain ⟨⟨y0, y1, y2⟩, ⟨y3, y4, y5⟩, ⟨y6, y7, y8⟩, y9⟩ := SI.cells hV
    go_simp
    refine kfit (hK _ _ (Below.refl _ V) rfl) ?_
    first | (simp only [sayFr, Act.put, List.setIfInBounds_toArray, List.set_cons_zero, List.set_cons_succ, h2, h7, h9, h10, h11, h12, e39]; done) | (simp only [sayFr, Act.put, List.setIfInBounds_toArray, List.set_cons_zero, List.set_cons_succ, h2, h7, h9, h10, h11, h12, e39]; rfl)
  -- 41: slot 93 := Op.load 29 t9
  refine And.intro ?_ ?_
  · rw [← hf]; clear hf
    refine ⟨by decide +kernel, fun x v => by kernel_rfl, fun x V hV hdep K hK => ?_⟩
    have e39 : x 39 = .bool true := depOf hdep 39 (by decide +kernel)
    clear hdep
    refine run_guard 39 91 (x 39) (by kernel_rfl) (by rw [hops]; exact say_dst_39) (by kernel_rfl) e39 ?_; clear hops
    unfold sayFr
    obtain ⟨⟨y0, y1, y2⟩, ⟨y3, y4, y5⟩, ⟨y6, y7, y8⟩, y9⟩ := SI.cells hV
    go_simp
    refine kfit (hK _ _ (Below.refl _ V) rfl) ?_
    first | (simp only [sayFr, Act.put, List.setIfInBounds_toArray, List.set_cons_zero, List.set_cons_succ, h2, h7, h9, h10, h11, h12, e39]; done) | (simp only [sayFr, Act.put, List.setIfInBounds_toArray, List.set_cons_zero, List.set_cons_succ, h2, h7, h9, h10, h11, h12, e39]; rfl)
  -- 42: slot 94 := Op.call { value (Operand.func 18), args := #[t93], argTypes 
  refine And.intro ?_ ?_
  · rw [← hf]; clear hf
    refine ⟨by decide +kernel, fun x v => by kernel_rfl, fun x V hV hdep K hK => ?_⟩
    have e39 : x 39 = .bool true := depOf hdep 39 (by decide +kernel)
    have e41 : x 41 = aggT t pa ca := depOf hdep 41 (by decide +kernel)
    clear hdep
    refine run_guard 39 91 (x 39) (by kernel_rfl) (by rw [hops]; exact say_dst_39) (by kernel_rfl) e39 ?_; clear hops
    unfold sayFr
    simp only [aggT] at e41
    obtain ⟨HV2, HV1, HR2, HR1, HR0, HST2, HST1, HHas, HHr, HSz, HRSz, HAll, HSTy, HCm, HRCm, HSm, HSt, HSTp⟩ := HC.out
    clear HV2 HV1 HR2 HR1 HR0 HST2 HST1 HHas HHr HSz HRSz HSTy HCm HRCm HSm HSt HSTp
    simp only [aggT] at HAll
    have H := Lib.hid (HAll _ hV)
    clear HAll
    go_simp
    go_at_call 18
    refine H.out.mono ?_
    rintro e Y ⟨a, c, rfl, hq, hb⟩; refine kfit (hK _ _ hb ⟨a, c, rfl, hq⟩) ?_
    first | (simp only [sayFr, Act.put, List.setIfInBounds_toArray, List.set_cons_zero, List.set_cons_succ, h2, h7, h9, h10, h11, h12, e39, e41]; done) | (simp only [sayFr, Act.put, List.setIfInBounds_toArray, List.set_cons_zero, List.set_cons_succ, h2, h7, h9, h10, h11, h12, e39, e41]; rfl)
  -- 43: slot 95 := Op.call { value (Operand.func 17), args := #[t92, t94], argT
  refine And.intro ?_ ?_
  · rw [← hf]; clear hf
    refine ⟨by decide +kernel, fun x v => by kernel_rfl, fun x V hV hdep K hK => ?_⟩
    have e39 : x 39 = .bool true := depOf hdep 39 (by decide +kernel)
    have e40 : x 40 = .slice sa (parts t).length sc := depOf hdep 40 (by decide +kernel)
    obtain ⟨a42, c42, e42, d42⟩ : ∃ a c, x 42 = .slice a (parts t).length c ∧ TysAt V (.slice a (parts t).length c) (parts t) := depOf hdep 42 (by decide +kernel)
    clear hdep
    refine run_guard 39 91 (x 39) (by kernel_rfl) (by rw [hops]; exact say_dst_39) (by kernel_rfl) e39 ?_; clear hops
    unfold sayFr
    obtain ⟨HV2, HV1, HR2, HR1, HR0, HST2, HST1, HHas, HHr, HSz, HRSz, HAll, HSTy, HCm, HRCm, HSm, HSt, HSTp⟩ := HC.out
    clear HV2 HV1 HR2 HR1 HR0 HST2 HST1 HHas HHr HSz HRSz HAll HCm HRCm HSm HSt HSTp
    skip
    have H := Lib.hid (HSTy _ _ _ hV d42)
    clear HSTy
    go_simp
    go_at_call 17
    refine H.out.mono ?_
    rintro e Y ⟨rfl, hb⟩; refine kfit (hK _ _ hb rfl) ?_
    first | (simp only [sayFr, Act.put, List.setIfInBounds_toArray, List.set_cons_zero, List.set_cons_succ, h2, h7, h9, h10, h11, h12, e39, e40, e42]; done) | (simp only [sayFr, Act.put, List.setIfInBounds_toArray, List.set_cons_zero, List.set_cons_succ, h2, h7, h9, h10, h11, h12, e39, e40, e42]; rfl)
  -- 44: slot 96 := Op.pick t91 t95 (const (Value.bool false))
  refine And.intro ?_ ?_
  · rw [← hf]; clear hf
    refine ⟨by decide +kernel, fun x v => by kernel_rfl, fun x V hV hdep K hK => ?_⟩
    have e39 : x 39 = .bool true := depOf hdep 39 (by decide +kernel)
    have e43 : x 43 = .bool true := depOf hdep 43 (by decide +kernel)
    clear hdep
    refine run_bare (by kernel_rfl) ?_
    unfold sayFr
    go_simp
    refine kfit (hK _ _ (Below.refl _ V) rfl) ?_
    first | (simp only [sayFr, Act.put, List.setIfInBounds_toArray, List.set_cons_zero, List.set_cons_succ, h2, h7, h9, h10, h11, h12, e39, e43]; done) | (simp only [sayFr, Act.put, List.setIfInBounds_toArray, List.set_cons_zero, List.set_cons_succ, h2, h7, h9, h10, h11, h12, e39, e43]; rfl)
  -- 45: slot 97 := Op.move t96
  refine And.intro ?_ ?_
  · rw [← hf]; clear hf
    refine ⟨by decide +kernel, fun x v => by kernel_rfl, fun x V hV hdep K hK => ?_⟩
    have e44 : x 44 = .bool true := depOf hdep 44 (by decide +kernel)
    clear hdep
    refine run_bare (by kernel_rfl) ?_
    unfold sayFr
    go_simp
    refine kfit (hK _ _ (Below.refl _ V) rfl) ?_
    first | (simp only [sayFr, Act.put, List.setIfInBounds_toArray, List.set_cons_zero, List.set_cons_succ, h2, h7, h9, h10, h11, h12, e44]; done) | (simp only [sayFr, Act.put, List.setIfInBounds_toArray, List.set_cons_zero, List.set_cons_succ, h2, h7, h9, h10, h11, h12, e44]; rfl)
  -- 46: slot 98 := Op.load 29 t9
  refine And.intro ?_ ?_
  · rw [← hf]; clear hf
    refine ⟨by decide +kernel, fun x v => by kernel_rfl, fun x V hV hdep K hK => ?_⟩
    have e45 : x 45 = .bool true := depOf hdep 45 (by decide +kernel)
    clear hdep
    refine run_guard 45 97 (x 45) (by kernel_rfl) (by rw [hops]; exact say_dst_45) (by kernel_rfl) e45 ?_; clear hops
    unfold sayFr
    obtain ⟨⟨y0, y1, y2⟩, ⟨y3, y4, y5⟩, ⟨y6, y7, y8⟩, y9⟩ := SI.cells hV
    go_simp
    refine kfit (hK _ _ (Below.refl _ V) rfl) ?_
    first | (simp only [sayFr, Act.put, List.setIfInBounds_toArray, List.set_cons_zero, List.set_cons_succ, h2, h7, h9, h10, h11, h12, e45]; done) | (simp only [sayFr, Act.put, List.setIfInBounds_toArray, List.set_cons_zero, List.set_cons_succ, h2, h7, h9, h10, h11, h12, e45]; rfl)
  -- 47: slot 99 := Op.load 29 t10
  refine And.intro ?_ ?_
  · rw [← hf]; clear hf
    refine ⟨by decide +kernel, fun x v => by kernel_rfl, fun x V hV hdep K hK => ?_⟩
    have e45 : x 45 = .bool true := depOf hdep 45 (by decide +kernel)
    clear hdep
    refine run_guard 45 97 (x 45) (by kernel_rfl) (by rw [hops]; exact say_dst_45) (by kernel_rfl) e45 ?_; clear hops
    unfold sayFr
    obtain ⟨⟨y0, y1, y2⟩, ⟨y3, y4, y5⟩, ⟨y6, y7, y8⟩, y9⟩ := SI.cells hV
    go_simp
    refine kfit (hK _ _ (Below.refl _ V) rfl) ?_
    first | (simp only [sayFr, Act.put, List.setIfInBounds_toArray, List.set_cons_zero, List.set_cons_succ, h2, h7, h9, h10, h11, h12, e45]; done) | (simp only [sayFr, Act.put, List.setIfInBounds_toArray, List.set_cons_zero, List.set_cons_succ, h2, h7, h9, h10, h11, h12, e45]; rfl)
  -- 48: slot 100 := Op.call { value (Operand.func 19), args := #[t98, t99], argT
  refine And.intro ?_ ?_
  · rw [← hf]; clear hf
    refine ⟨by decide +kernel, fun x v => by kernel_rfl, fun x V hV hdep K hK => ?_⟩
    have e45 : x 45 = .bool true := depOf hdep 45 (by decide +kernel)
    have e46 : x 46 = aggT t pa ca := depOf hdep 46 (by decide +kernel)
    have e47 : x 47 = aggT u pb cb := depOf hdep 47 (by decide +kernel)
    clear hdep
    refine run_guard 45 97 (x 45) (by kernel_rfl) (by rw [hops]; exact say_dst_45) (by kernel_rfl) e45 ?_; clear hops
    unfold sayFr
    simp only [aggT] at e46
    simp only [aggT] at e47
    obtain ⟨HV2, HV1, HR2, HR1, HR0, HST2, HST1, HHas, HHr, HSz, HRSz, HAll, HSTy, HCm, HRCm, HSm, HSt, HSTp⟩ := HC.out
    clear HV2 HV1 HR2 HR1 HR0 HST2 HST1 HHas HHr HSz HRSz HAll HSTy HRCm HSm HSt HSTp
    simp only [aggT] at HCm
    have H := Lib.hid (HCm _ hV)
    clear HCm
    go_simp
    go_at_call 19
    refine H.out.mono ?_
    rintro e Y ⟨rfl, hb⟩; refine kfit (hK _ _ hb rfl) ?_
    first | (simp only [sayFr, Act.put, List.setIfInBounds_toArray, List.set_cons_zero, List.set_cons_succ, h2, h7, h9, h10, h11, h12, e45, e46, e47]; done) | (simp only [sayFr, Act.put, List.setIfInBounds_toArray, List.set_cons_zero, List.set_cons_succ, h2, h7, h9, h10, h11, h12, e45, e46, e47]; rfl)
  -- 49: slot 101 := Op.load 29 t9
  refine And.intro ?_ ?_
  · rw [← hf]; clear hf
    refine ⟨by decide +kernel, fun x v => by kernel_rfl, fun x V hV hdep K hK => ?_⟩
    have e45 : x 45 = .bool true := depOf hdep 45 (by decide +kernel)
    clear hdep
    refine run_guard 45 97 (x 45) (by kernel_rfl) (by rw [hops]; exact say_dst_45) (by kernel_rfl) e45 ?_; clear hops
    unfold sayFr
    obtain ⟨⟨y0, y1, y2⟩, ⟨y3, y4, y5⟩, ⟨y6, y7, y8⟩, y9⟩ := SI.cells hV
    go_simp
    refine kfit (hK _ _ (Below.refl _ V) rfl) ?_
    first | (simp only [sayFr, Act.put, List.setIfInBounds_toArray, List.set_cons_zero, List.set_cons_succ, h2, h7, h9, h10, h11, h12, e45]; done) | (simp only [sayFr, Act.put, List.setIfInBounds_toArray, List.set_cons_zero, List.set_cons_succ, h2, h7, h9, h10, h11, h12, e45]; rfl)
  -- 50: slot 102 := Op.load 29 t10
  refine And.intro ?_ ?_
  · rw [← hf]; clear hf
    refine ⟨by decide +kernel, fun x v => by kernel_rfl, fun x V hV hdep K hK => ?_⟩
    have e45 : x 45 = .bool true := depOf hdep 45 (by decide +kernel)
    clear hdep
    refine run_guard 45 97 (x 45) (by kernel_rfl) (by rw [hops]; exact say_dst_45) (by kernel_rfl) e45 ?_; clear hops
    unfold sayFr
    obtain ⟨⟨y0, y1, y2⟩, ⟨y3, y4, y5⟩, ⟨y6, y7, y8⟩, y9⟩ := SI.cells hV
    go_simp
    refine kfit (hK _ _ (Below.refl _ V) rfl) ?_
    first | (simp only [sayFr, Act.put, List.setIfInBounds_toArray, List.set_cons_zero, List.set_cons_succ, h2, h7, h9, h10, h11, h12, e45]; done) | (simp only [sayFr, Act.put, List.setIfInBounds_toArray, List.set_cons_zero, List.set_cons_succ, h2, h7, h9, h10, h11, h12, e45]; rfl)
  -- 51: slot 103 := Op.call { value (Operand.func 20), args := #[t101, t102], ar
  refine And.intro ?_ ?_
  · rw [← hf]; clear hf
    refine ⟨by decide +kernel, fun x v => by kernel_rfl, fun x V hV hdep K hK => ?_⟩
    have e45 : x 45 = .bool true := depOf hdep 45 (by decide +kernel)
    have e49 : x 49 = aggT t pa ca := depOf hdep 49 (by decide +kernel)
    have e50 : x 50 = aggT u pb cb := depOf hdep 50 (by decide +kernel)
    clear hdep
    refine run_guard 45 97 (x 45) (by kernel_rfl) (by rw [hops]; exact say_dst_45) (by kernel_rfl) e45 ?_; clear hops
    unfold sayFr
    simp only [aggT] at e49
    simp only [aggT] at e50
    obtain ⟨HV2, HV1, HR2, HR1, HR0, HST2, HST1, HHas, HHr, HSz, HRSz, HAll, HSTy, HCm, HRCm, HSm, HSt, HSTp⟩ := HC.out
    clear HV2 HV1 HR2 HR1 HR0 HST2 HST1 HHas HHr HSz HRSz HAll HSTy HCm HSm HSt HSTp
    simp only [aggT] at HRCm
    have H := Lib.hid (HRCm _ hV)
    clear HRCm
    go_simp
    go_at_call 20
    refine H.out.mono ?_
    rintro e Y ⟨rfl, hb⟩; refine kfit (hK _ _ hb rfl) ?_
    first | (simp only [sayFr, Act.put, List.setIfInBounds_toArray, List.set_cons_zero, List.set_cons_succ, h2, h7, h9, h10, h11, h12, e45, e49, e50]; done) | (simp only [sayFr, Act.put, List.setIfInBounds_toArray, List.set_cons_zero, List.set_cons_succ, h2, h7, h9, h10, h11, h12, e45, e49, e50]; rfl)
  -- 52: slot 104 := Op.binOp BinOp.eql 3 t100 t103 3
  refine And.intro ?_ ?_
  · rw [← hf]; clear hf
    refine ⟨by decide +kernel, fun x v => by kernel_rfl, fun x V hV hdep K hK => ?_⟩
    have e45 : x 45 = .bool true := depOf hdep 45 (by decide +kernel)
    have e48 : x 48 = .int .i64 pc := depOf hdep 48 (by decide +kernel)
    have e51 : x 51 = .int .i64 pc := depOf hdep 51 (by decide +kernel)
    clear hdep
    refine run_guard 45 97 (x 45) (by kernel_rfl) (by rw [hops]; exact say_dst_45) (by kernel_rfl) e45 ?_; clear hops
    unfold sayFr
    go_simp
    refine kfit (hK _ _ (Below.refl _ V) rfl) ?_
    first | (simp only [sayFr, Act.put, List.setIfInBounds_toArray, List.set_cons_zero, List.set_cons_succ, h2, h7, h9, h10, h11, h12, e45, e48, e51]; done) | (simp only [sayFr, Act.put, List.setIfInBounds_toArray, List.set_cons_zero, List.set_cons_succ, h2, h7, h9, h10, h11, h12, e45, e48, e51]; rfl)
  -- 53: slot 105 := Op.pick t97 t104 (const (Value.bool false))
  refine And.intro ?_ ?_
  · rw [← hf]; clear hf
    refine ⟨by decide +kernel, fun x v => by kernel_rfl, fun x V hV hdep K hK => ?_⟩
    have e45 : x 45 = .bool true := depOf hdep 45 (by decide +kernel)
    have e52 : x 52 = .bool true := depOf hdep 52 (by decide +kernel)
    clear hdep
    refine run_bare (by kernel_rfl) ?_
    unfold sayFr
    go_simp
    refine kfit (hK _ _ (Below.refl _ V) rfl) ?_
    first | (simp only [sayFr, Act.put, List.setIfInBounds_toArray, List.set_cons_zero, List.set_cons_succ, h2, h7, h9, h10, h11, h12, e45, e52]; done) | (simp only [sayFr, Act.put, List.setIfInBounds_toArray, List.set_cons_zero, List.set_cons_succ, h2, h7, h9, h10, h11, h12, e45, e52]; rfl)
  -- 54: slot 106 := Op.move t105
  refine And.intro ?_ ?_
  · rw [← hf]; clear hf
    refine ⟨by decide +kernel, fun x v => by kernel_rfl, fun x V hV hdep K hK => ?_⟩
    have e53 : x 53 = .bool true := depOf hdep 53 (by decide +kernel)
    clear hdep
    refine run_bare (by kernel_rfl) ?_
    unfold sayFr
    go_simp
    refine kfit (hK _ _ (Below.refl _ V) rfl) ?_
    first | (simp only [sayFr, Act.put, List.setIfInBounds_toArray, List.set_cons_zero, List.set_cons_succ, h2, h7, h9, h10, h11, h12, e53]; done) | (simp only [sayFr, Act.put, List.setIfInBounds_toArray, List.set_cons_zero, List.set_cons_succ, h2, h7, h9, h10, h11, h12, e53]; rfl)
  -- 55: slot 107 := Op.load 29 t9
  refine And.intro ?_ ?_
  · rw [← hf]; clear hf
    refine ⟨by decide +kernel, fun x v => by kernel_rfl, fun x V hV hdep K hK => ?_⟩
    have e54 : x 54 = .bool true := depOf hdep 54 (by decide +kernel)
    clear hdep
    refine run_guard 54 106 (x 54) (by kernel_rfl) (by rw [hops]; exact say_dst_54) (by kernel_rfl) e54 ?_; clear hops
    unfold sayFr
    obtain ⟨⟨y0, y1, y2⟩, ⟨y3, y4, y5⟩, ⟨y6, y7, y8⟩, y9⟩ := SI.cells hV
    go_simp
    refine kfit (hK _ _ (Below.refl _ V) rfl) ?_
    first | (simp only [sayFr, Act.put, List.setIfInBounds_toArray, List.set_cons_zero, List.set_cons_succ, h2, h7, h9, h10, h11, h12, e54]; done) | (simp only [sayFr, Act.put, List.setIfInBounds_toArray, List.set_cons_zero, List.set_cons_succ, h2, h7, h9, h10, h11, h12, e54]; rfl)
  -- 56: slot 108 := Op.load 29 t10
  refine And.intro ?_ ?_
  · rw [← hf]; clear hf
    refine ⟨by decide +kernel, fun x v => by kernel_rfl, fun x V hV hdep K hK => ?_⟩
    have e54 : x 54 = .bool true := depOf hdep 54 (by decide +kernel)
    clear hdep
    refine run_guard 54 106 (x 54) (by kernel_rfl) (by rw [hops]; exact say_dst_54) (by kernel_rfl) e54 ?_; clear hops
    unfold sayFr
    obtain ⟨⟨y0, y1, y2⟩, ⟨y3, y4, y5⟩, ⟨y6, y7, y8⟩, y9⟩ := SI.cells hV
    go_simp
    refine kfit (hK _ _ (Below.refl _ V) rfl) ?_
    first | (simp only [sayFr, Act.put, List.setIfInBounds_toArray, List.set_cons_zero, List.set_cons_succ, h2, h7, h9, h10, h11, h12, e54]; done) | (simp only [sayFr, Act.put, List.setIfInBounds_toArray, List.set_cons_zero, List.set_cons_succ, h2, h7, h9, h10, h11, h12, e54]; rfl)
  -- 57: slot 109 := Op.call { value (Operand.func 21), args := #[t107, t108], ar
  refine And.intro ?_ ?_
  · rw [← hf]; clear hf
    refine ⟨by decide +kernel, fun x v => by kernel_rfl, fun x V hV hdep K hK => ?_⟩
    have e54 : x 54 = .bool true := depOf hdep 54 (by decide +kernel)
    have e55 : x 55 = aggT t pa ca := depOf hdep 55 (by decide +kernel)
    have e56 : x 56 = aggT u pb cb := depOf hdep 56 (by decide +kernel)
    clear hdep
    refine run_guard 54 106 (x 54) (by kernel_rfl) (by rw [hops]; exact say_dst_54) (by kernel_rfl) e54 ?_; clear hops
    unfold sayFr
    simp only [aggT] at e55
    simp only [aggT] at e56
    obtain ⟨HV2, HV1, HR2, HR1, HR0, HST2, HST1, HHas, HHr, HSz, HRSz, HAll, HSTy, HCm, HRCm, HSm, HSt, HSTp⟩ := HC.out
    clear HV2 HV1 HR2 HR1 HR0 HST2 HST1 HHas HHr HSz HRSz HAll HSTy HCm HRCm HSt HSTp
    simp only [aggT] at HSm
    have H := Lib.hid (HSm _ hV)
    clear HSm
    go_simp
    go_at_call 21
    refine H.out.mono ?_
    rintro e Y ⟨rfl, hb⟩; refine kfit (hK _ _ hb rfl) ?_
    first | (simp only [sayFr, Act.put, List.setIfInBounds_toArray, List.set_cons_zero, List.set_cons_succ, h2, h7, h9, h10, h11, h12, e54, e55, e56]; done) | (simp only [sayFr, Act.put, List.setIfInBounds_toArray, List.set_cons_zero, List.set_cons_succ, h2, h7, h9, h10, h11, h12, e54, e55, e56]; rfl)
  -- 58: slot 110 := Op.load 29 t9
  refine And.intro ?_ ?_
  · rw [← hf]; clear hf
    refine ⟨by decide +kernel, fun x v => by kernel_rfl, fun x V hV hdep K hK => ?_⟩
    have e54 : x 54 = .bool true := depOf hdep 54 (by decide +kernel)
    clear hdep
    refine run_guard 54 106 (x 54) (by kernel_rfl) (by rw [hops]; exact say_dst_54) (by kernel_rfl) e54 ?_; clear hops
    unfold sayFr
    obtain ⟨⟨y0, y1, y2⟩, ⟨y3, y4, y5⟩, ⟨y6, y7, y8⟩, y9⟩ := SI.cells hV
    go_simp
    refine kfit (hK _ _ (Below.refl _ V) rfl) ?_
    first | (simp only [sayFr, Act.put, List.setIfInBounds_toArray, List.set_cons_zero, List.set_cons_succ, h2, h7, h9, h10, h11, h12, e54]; done) | (simp only [sayFr, Act.put, List.setIfInBounds_toArray, List.set_cons_zero, List.set_cons_succ, h2, h7, h9, h10, h11, h12, e54]; rfl)
  -- 59: slot 111 := Op.load 29 t10
  refine And.intro ?_ ?_
  · rw [← hf]; clear hf
    refine ⟨by decide +kernel, fun x v => by kernel_rfl, fun x V hV hdep K hK => ?_⟩
    have e54 : x 54 = .bool true := depOf hdep 54 (by decide +kernel)
    clear hdep
    refine run_guard 54 106 (x 54) (by kernel_rfl) (by rw [hops]; exact say_dst_54) (by kernel_rfl) e54 ?_; clear hops
    unfold sayFr
    obtain ⟨⟨y0, y1, y2⟩, ⟨y3, y4, y5⟩, ⟨y6, y7, y8⟩, y9⟩ := SI.cells hV
    go_simp
    refine kfit (hK _ _ (Below.refl _ V) rfl) ?_
    first | (simp only [sayFr, Act.put, List.setIfInBounds_toArray, List.set_cons_zero, List.set_cons_succ, h2, h7, h9, h10, h11, h12, e54]; done) | (simp only [sayFr, Act.put, List.setIfInBounds_toArray, List.set_cons_zero, List.set_cons_succ, h2, h7, h9, h10, h11, h12, e54]; rfl)
  -- 60: slot 112 := Op.call { value (Operand.func 22), args := #[t110, t111], ar
  refine And.intro ?_ ?_
  · rw [← hf]; clear hf
    refine ⟨by decide +kernel, fun x v => by kernel_rfl, fun x V hV hdep K hK => ?_⟩
    have e54 : x 54 = .bool true := depOf hdep 54 (by decide +kernel)
    have e58 : x 58 = aggT t pa ca := depOf hdep 58 (by decide +kernel)
    have e59 : x 59 = aggT u pb cb := depOf hdep 59 (by decide +kernel)
    clear hdep
    refine run_guard 54 106 (x 54) (by kernel_rfl) (by rw [hops]; exact say_dst_54) (by kernel_rfl) e54 ?_; clear hops
    unfold sayFr
    simp only [aggT] at e58
    simp only [aggT] at e59
    obtain ⟨HV2, HV1, HR2, HR1, HR0, HST2, HST1, HHas, HHr, HSz, HRSz, HAll, HSTy, HCm, HRCm, HSm, HSt, HSTp⟩ := HC.out
    clear HV2 HV1 HR2 HR1 HR0 HST2 HST1 HHas HHr HSz HRSz HAll HSTy HCm HRCm HSm HSt
    simp only [aggT] at HSTp
    have H := Lib.hid (HSTp _ hV)
    clear HSTp
    go_simp
    go_at_call 22
    refine H.out.mono ?_
    rintro e Y ⟨rfl, hb⟩; refine kfit (hK _ _ hb rfl) ?_
    first | (simp only [sayFr, Act.put, List.setIfInBounds_toArray, List.set_cons_zero, List.set_cons_succ, h2, h7, h9, h10, h11, h12, e54, e58, e59]; done) | (simp only [sayFr, Act.put, List.setIfInBounds_toArray, List.set_cons_zero, List.set_cons_succ, h2, h7, h9, h10, h11, h12, e54, e58, e59]; rfl)
  -- 61: slot 113 := Op.binOp BinOp.eql 4 t109 t112 4
  refine And.intro ?_ ?_
  · rw [← hf]; clear hf
    refine ⟨by decide +kernel, fun x v => by kernel_rfl, fun x V hV hdep K hK => ?_⟩
    have e54 : x 54 = .bool true := depOf hdep 54 (by decide +kernel)
    have e57 : x 57 = .bool zc := depOf hdep 57 (by decide +kernel)
    have e60 : x 60 = .bool zc := depOf hdep 60 (by decide +kernel)
    clear hdep
    refine run_guard 54 106 (x 54) (by kernel_rfl) (by rw [hops]; exact say_dst_54) (by kernel_rfl) e54 ?_; clear hops
    unfold sayFr
    go_simp
    refine kfit (hK _ _ (Below.refl _ V) rfl) ?_
    first | (simp only [sayFr, Act.put, List.setIfInBounds_toArray, List.set_cons_zero, List.set_cons_succ, h2, h7, h9, h10, h11, h12, e54, e57, e60]; done) | (simp only [sayFr, Act.put, List.setIfInBounds_toArray, List.set_cons_zero, List.set_cons_succ, h2, h7, h9, h10, h11, h12, e54, e57, e60]; rfl)
  -- 62: slot 114 := Op.pick t106 t113 (const (Value.bool false))
  refine And.intro ?_ ?_
  · rw [← hf]; clear hf
    refine ⟨by decide +kernel, fun x v => by kernel_rfl, fun x V hV hdep K hK => ?_⟩
    have e54 : x 54 = .bool true := depOf hdep 54 (by decide +kernel)
    have e61 : x 61 = .bool true := depOf hdep 61 (by decide +kernel)
    clear hdep
    refine run_bare (by kernel_rfl) ?_
    unfold sayFr
    go_simp
    refine kfit (hK _ _ (Below.refl _ V) rfl) ?_
    first | (simp only [sayFr, Act.put, List.setIfInBounds_toArray, List.set_cons_zero, List.set_cons_succ, h2, h7, h9, h10, h11, h12, e54, e61]; done) | (simp only [sayFr, Act.put, List.setIfInBounds_toArray, List.set_cons_zero, List.set_cons_succ, h2, h7, h9, h10, h11, h12, e54, e61]; rfl)
  -- 63: slot 115 := Op.move t114
  refine And.intro ?_ ?_
  · rw [← hf]; clear hf
    refine ⟨by decide +kernel, fun x v => by kernel_rfl, fun x V hV hdep K hK => ?_⟩
    have e62 : x 62 = .bool true := depOf hdep 62 (by decide +kernel)
    clear hdep
    refine run_bare (by kernel_rfl) ?_
    unfold sayFr
    go_simp
    refine kfit (hK _ _ (Below.refl _ V) rfl) ?_
    first | (simp only [sayFr, Act.put, List.setIfInBounds_toArray, List.set_cons_zero, List.set_cons_succ, h2, h7, h9, h10, h11, h12, e62]; done) | (simp only [sayFr, Act.put, List.setIfInBounds_toArray, List.set_cons_zero, List.set_cons_succ, h2, h7, h9, h10, h11, h12, e62]; rfl)
  -- 64: slot 116 := Op.load 29 t9
  refine And.intro ?_ ?_
  · rw [← hf]; clear hf
    refine ⟨by decide +kernel, fun x v => by kernel_rfl, fun x V hV hdep K hK => ?_⟩
    have e63 : x 63 = .bool true := depOf hdep 63 (by decide +kernel)
    clear hdep
    refine run_guard 63 115 (x 63) (by kernel_rfl) (by rw [hops]; exact say_dst_63) (by kernel_rfl) e63 ?_; clear hops
    unfold sayFr
    obtain ⟨⟨y0, y1, y2⟩, ⟨y3, y4, y5⟩, ⟨y6, y7, y8⟩, y9⟩ := SI.cells hV
    go_simp
    refine kfit (hK _ _ (Below.refl _ V) rfl) ?_
    first | (simp only [sayFr, Act.put, List.setIfInBounds_toArray, List.set_cons_zero, List.set_cons_succ, h2, h7, h9, h10, h11, h12, e63]; done) | (simp only [sayFr, Act.put, List.setIfInBounds_toArray, List.set_cons_zero, List.set_cons_succ, h2, h7, h9, h10, h11, h12, e63]; rfl)
  -- 65: slot 117 := Op.load 29 t9
  refine And.intro ?_ ?_
  · rw [← hf]; clear hf
    refine ⟨by decide +kernel, fun x v => by kernel_rfl, fun x V hV hdep K hK => ?_⟩
    have e63 : x 63 = .bool true := depOf hdep 63 (by decide +kernel)
    clear hdep
    refine run_guard 63 115 (x 63) (by kernel_rfl) (by rw [hops]; exact say_dst_63) (by kernel_rfl) e63 ?_; clear hops
    unfold sayFr
    obtain ⟨⟨y0, y1, y2⟩, ⟨y3, y4, y5⟩, ⟨y6, y7, y8⟩, y9⟩ := SI.cells hV
    go_simp
    refine kfit (hK _ _ (Below.refl _ V) rfl) ?_
    first | (simp only [sayFr, Act.put, List.setIfInBounds_toArray, List.set_cons_zero, List.set_cons_succ, h2, h7, h9, h10, h11, h12, e63]; done) | (simp only [sayFr, Act.put, List.setIfInBounds_toArray, List.set_cons_zero, List.set_cons_succ, h2, h7, h9, h10, h11, h12, e63]; rfl)
  -- 66: slot 118 := Op.call { value (Operand.func 21), args := #[t116, t117], ar
  refine And.intro ?_ ?_
  · rw [← hf]; clear hf
    refine ⟨by decide +kernel, fun x v => by kernel_rfl, fun x V hV hdep K hK => ?_⟩
    have e63 : x 63 = .bool true := depOf hdep 63 (by decide +kernel)
    have e64 : x 64 = aggT t pa ca := depOf hdep 64 (by decide +kernel)
    have e65 : x 65 = aggT t pa ca := depOf hdep 65 (by decide +kernel)
    clear hdep
    refine run_guard 63 115 (x 63) (by kernel_rfl) (by rw [hops]; exact say_dst_63) (by kernel_rfl) e63 ?_; clear hops
    unfold sayFr
    simp only [aggT] at e64
    simp only [aggT] at e65
    obtain ⟨HV2, HV1, HR2, HR1, HR0, HST2, HST1, HHas, HHr, HSz, HRSz, HAll, HSTy, HCm, HRCm, HSm, HSt, HSTp⟩ := HC.out
    clear HV2 HV1 HR2 HR1 HR0 HST2 HST1 HHas HHr HSz HRSz HAll HSTy HCm HRCm HSm HSTp
    simp only [aggT] at HSt
    have H := Lib.hid (HSt _ hV)
    clear HSt
    go_simp
    go_at_call 21
    refine H.out.mono ?_
    rintro e Y ⟨rfl, hb⟩; refine kfit (hK _ _ hb rfl) ?_
    first | (simp only [sayFr, Act.put, List.setIfInBounds_toArray, List.set_cons_zero, List.set_cons_succ, h2, h7, h9, h10, h11, h12, e63, e64, e65]; done) | (simp only [sayFr, Act.put, List.setIfInBounds_toArray, List.set_cons_zero, List.set_cons_succ, h2, h7, h9, h10, h11, h12, e63, e64, e65]; rfl)
  -- 67: slot 119 := Op.pick t115 t118 (const (Value.bool false))
  refine And.intro ?_ ?_
  · rw [← hf]; clear hf
    refine ⟨by decide +kernel, fun x v => by kernel_rfl, fun x V hV hdep K hK => ?_⟩
    have e63 : x 63 = .bool true := depOf hdep 63 (by decide +kernel)
    have e66 : x 66 = .bool true := depOf hdep 66 (by decide +kernel)
    clear hdep
    refine run_bare (by kernel_rfl) ?_
    unfold sayFr
    go_simp
    refine kfit (hK _ _ (Below.refl _ V) rfl) ?_
    first | (simp only [sayFr, Act.put, List.setIfInBounds_toArray, List.set_cons_zero, List.set_cons_succ, h2, h7, h9, h10, h11, h12, e63, e66]; done) | (simp only [sayFr, Act.put, List.setIfInBounds_toArray, List.set_cons_zero, List.set_cons_succ, h2, h7, h9, h10, h11, h12, e63, e66]; rfl)
  -- 68: slot 6 := Op.assign t119
  refine And.intro ?_ ?_
  · rw [← hf]; clear hf
    refine ⟨by decide +kernel, fun x v => by kernel_rfl, fun x V hV hdep K hK => ?_⟩
    have e67 : x 67 = .bool true := depOf hdep 67 (by decide +kernel)
    clear hdep
    refine run_bare (by kernel_rfl) ?_
    unfold sayFr
    go_simp
    refine kfit (hK _ _ (Below.refl _ V) rfl) ?_
    first | (simp only [sayFr, Act.put, List.setIfInBounds_toArray, List.set_cons_zero, List.set_cons_succ, h2, h7, h9, h10, h11, h12, e67]; done) | (simp only [sayFr, Act.put, List.setIfInBounds_toArray, List.set_cons_zero, List.set_cons_succ, h2, h7, h9, h10, h11, h12, e67]; rfl)
  exact trivial
theorem say_here {w : World} {bt bu P D : Nat} {t u : T} {pa pb : Option Addr} {ca cb : Nat} {nm : ByteArray} {sa : Option Addr} {sc : Nat} {q2 q1 q0 : List ByteArray} {hv zc : Bool} {ts : Nat} {pc : Int}
    (HV2 : ∀ V k, TysAt V (.slice (some ⟨k, 0, none⟩) 2 2) [t, u] → Calls Try.prog 11 #[.slice (some ⟨k, 0, none⟩) 2 2] V fun e Y => ∃ a c, e = .returned (.slice a q2.length c) ∧ TextsAt Y (.slice a q2.length c) q2 ∧ Below V.heap.size V Y)
    (HV1 : ∀ V k, TysAt V (.slice (some ⟨k, 0, none⟩) 1 1) [T.all ⟨#[97]⟩ t] → Calls Try.prog 11 #[.slice (some ⟨k, 0, none⟩) 1 1] V fun e Y => ∃ a c, e = .returned (.slice a q1.length c) ∧ TextsAt Y (.slice a q1.length c) q1 ∧ Below V.heap.size V Y)
    (HR2 : ∀ V k, TysAt V (.slice (some ⟨k, 0, none⟩) 2 2) [t, u] → Calls Try.prog 12 #[.slice (some ⟨k, 0, none⟩) 2 2] V fun e Y => ∃ a c, e = .returned (.slice a q2.length c) ∧ TextsAt Y (.slice a q2.length c) q2 ∧ Below V.heap.size V Y)
    (HR1 : ∀ V k, TysAt V (.slice (some ⟨k, 0, none⟩) 1 1) [T.all ⟨#[97]⟩ t] → Calls Try.prog 12 #[.slice (some ⟨k, 0, none⟩) 1 1] V fun e Y => ∃ a c, e = .returned (.slice a q1.length c) ∧ TextsAt Y (.slice a q1.length c) q1 ∧ Below V.heap.size V Y)
    (HR0 : ∀ V k, TysAt V (.slice (some ⟨k, 0, none⟩) 1 1) [t] → Calls Try.prog 12 #[.slice (some ⟨k, 0, none⟩) 1 1] V fun e Y => ∃ a c, e = .returned (.slice a q0.length c) ∧ TextsAt Y (.slice a q0.length c) q0 ∧ Below V.heap.size V Y)
    (HST2 : ∀ V a b c d, TextsAt V (.slice a q2.length c) q2 → TextsAt V (.slice b q2.length d) q2 → Calls Try.prog 10 #[.slice a q2.length c, .slice b q2.length d] V fun e Y => e = .returned (.bool true) ∧ Below V.heap.size V Y)
    (HST1 : ∀ V a b c d, TextsAt V (.slice a q1.length c) q1 → TextsAt V (.slice b q1.length d) q1 → Calls Try.prog 10 #[.slice a q1.length c, .slice b q1.length d] V fun e Y => e = .returned (.bool true) ∧ Below V.heap.size V Y)
    (HHas : ∀ V, SI w bt bu P D t u pa pb ca cb (.slice sa (parts t).length sc) V → Calls Try.prog 13 #[aggT t pa ca, .string nm] V fun e Y => e = .returned (.bool hv) ∧ Below V.heap.size V Y)
    (HHr : ∀ V a c, TextsAt V (.slice a q0.length c) q0 → Calls Try.prog 14 #[.slice a q0.length c, .string nm] V fun e Y => e = .returned (.bool hv) ∧ Below V.heap.size V Y)
    (HSz : ∀ V, SI w bt bu P D t u pa pb ca cb (.slice sa (parts t).length sc) V → Calls Try.prog 15 #[aggT t pa ca] V fun e Y => e = .returned (.int .i64 (ts : Nat)) ∧ Below V.heap.size V Y)
    (HRSz : ∀ V, SI w bt bu P D t u pa pb ca cb (.slice sa (parts t).length sc) V → Calls Try.prog 16 #[aggT t pa ca] V fun e Y => e = .returned (.int .i64 (ts : Nat)) ∧ Below V.heap.size V Y)
    (HAll : ∀ V, SI w bt bu P D t u pa pb ca cb (.slice sa (parts t).length sc) V → Calls Try.prog 18 #[aggT t pa ca] V fun e Y => ∃ a c, e = .returned (.slice a (parts t).length c) ∧ TysAt Y (.slice a (parts t).length c) (parts t) ∧ Below V.heap.size V Y)
    (HSTy : ∀ V a c, SI w bt bu P D t u pa pb ca cb (.slice sa (parts t).length sc) V → TysAt V (.slice a (parts t).length c) (parts t) → Calls Try.prog 17 #[.slice sa (parts t).length sc, .slice a (parts t).length c] V fun e Y => e = .returned (.bool true) ∧ Below V.heap.size V Y)
    (HCm : ∀ V, SI w bt bu P D t u pa pb ca cb (.slice sa (parts t).length sc) V → Calls Try.prog 19 #[aggT t pa ca, aggT u pb cb] V fun e Y => e = .returned (.int .i64 pc) ∧ Below V.heap.size V Y)
    (HRCm : ∀ V, SI w bt bu P D t u pa pb ca cb (.slice sa (parts t).length sc) V → Calls Try.prog 20 #[aggT t pa ca, aggT u pb cb] V fun e Y => e = .returned (.int .i64 pc) ∧ Below V.heap.size V Y)
    (HSm : ∀ V, SI w bt bu P D t u pa pb ca cb (.slice sa (parts t).length sc) V → Calls Try.prog 21 #[aggT t pa ca, aggT u pb cb] V fun e Y => e = .returned (.bool zc) ∧ Below V.heap.size V Y)
    (HSt : ∀ V, SI w bt bu P D t u pa pb ca cb (.slice sa (parts t).length sc) V → Calls Try.prog 21 #[aggT t pa ca, aggT t pa ca] V fun e Y => e = .returned (.bool true) ∧ Below V.heap.size V Y)
    (HSTp : ∀ V, SI w bt bu P D t u pa pb ca cb (.slice sa (parts t).length sc) V → Calls Try.prog 22 #[aggT t pa ca, aggT u pb cb] V fun e Y => e = .returned (.bool zc) ∧ Below V.heap.size V Y)
    {Q : Exit → Act → World → Prop} {ops : Array Oper} {a : Act} (X : World) (hops : ops = sayOps)
    (h2 : a.tmps.getD 2 undef = .string nm) (h7 : a.tmps.getD 7 undef = .bool true) (h9 : a.tmps.getD 9 undef = .pointer (some ⟨bt, 0, none⟩)) (h10 : a.tmps.getD 10 undef = .pointer (some ⟨bu, 0, none⟩)) (h11 : a.tmps.getD 11 undef = .pointer (some ⟨bu + 1 + 1, 0, none⟩)) (h12 : a.tmps.getD 12 undef = .pointer (some ⟨P, 0, none⟩))
    (ha : a = sayFr (fun j => a.tmps.getD j undef) a.defers (fun i => a.tmps.getD (if i = 68 then 6 else 52 + i) undef)) (hS : SI w bt bu P D t u pa pb ca cb (.slice sa (parts t).length sc) X.drew)
    (hfin : ∀ x V, SI w bt bu P D t u pa pb ca cb (.slice sa (parts t).length sc) V → x 68 = .bool true → Q .normal (sayFr (fun j => a.tmps.getD j undef) a.defers x) V) : (Code.region 14 ops true).wp Try.prog Q a X :=
  cast (congrArg (fun z => (Code.region 14 ops true).wp Try.prog Q z X) ha.symm) (say_region (b := fun j => a.tmps.getD j undef) (d := a.defers) h2 h7 h9 h10 h11 h12 HV2 HV1 HR2 HR1 HR0 HST2 HST1 HHas HHr HSz HRSz HAll HSTy HCm HRCm HSm HSt HSTp hops _ X hS hfin)
end Go.Proofs.Yteoelcefjjmjiaa
