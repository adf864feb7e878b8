/- Merged: MoA, MoR. -/
import Derived.Test.YthpphjkoiipkkaaVs1
/- MatchOnce: its types; what its last statement keeps; what the matches of its types come to, as plain data. -/
namespace Go.Proofs.Ythpphjkoiipkkaa
open Go.RowKit Go.Maps Go.Sort Go.Lib
attribute [local go_sem] Oper.semAt_some

def pairN : ByteArray := ⟨#[80, 97, 105, 114]⟩
def tTwo : T := .con pairN [tA, tA]
def tBoth (t u : T) : T := .con pairN [t, u]
/-- All that the last statement reads. -/
def OQ (w : World) (b6 b7 b8 b9 b11 b13 : Nat) (ta tx ty tw : T) (wa xa ya za : Option Addr) (wc xc yc zc : Nat) (sa : Option Addr) (sc : Nat) (l : List PR) (sb : Option Addr) (sd : Nat) (k : List PR) (V : World) : Prop :=
  (BoxT b6 ta wa wc V ∧ BoxT b7 tx xa xc V ∧ BoxT b8 ty ya yc V ∧ BoxT b9 tw za zc V) ∧ (BoxS b11 (.slice sa l.length sc) l V ∧ BoxS b13 (.slice sb k.length sd) k V) ∧ Below w.heap.size w V
theorem OQ.below {w : World} {b6 b7 b8 b9 b11 b13 : Nat} {ta tx ty tw : T} {wa xa ya za sa sb : Option Addr} {wc xc yc zc sc sd : Nat} {l k : List PR} {X Y : World}
    (h : OQ w b6 b7 b8 b9 b11 b13 ta tx ty tw wa xa ya za wc xc yc zc sa sc l sb sd k X) (hb : Below X.heap.size X Y) : OQ w b6 b7 b8 b9 b11 b13 ta tx ty tw wa xa ya za wc xc yc zc sa sc l sb sd k Y :=
  ⟨⟨h.1.1.below hb, h.1.2.1.below hb, h.1.2.2.1.below hb, h.1.2.2.2.below hb⟩, ⟨h.2.1.1.below hb, h.2.1.2.below hb⟩, h.2.2.trans (hb.mono h.2.2.size)⟩
theorem OQ.cells {w : World} {b6 b7 b8 b9 b11 b13 : Nat} {ta tx ty tw : T} {wa xa ya za sa sb : Option Addr} {wc xc yc zc sc sd : Nat} {l k : List PR} {X : World}
    (h : OQ w b6 b7 b8 b9 b11 b13 ta tx ty tw wa xa ya za wc xc yc zc sa sc l sb sd k X) :
    (X.cell? ⟨b6, 0, none⟩ = some (.int .i64 ta.kind) ∧ X.cell? ⟨b6, 1, none⟩ = some (.string ta.name) ∧ X.cell? ⟨b6, 2, none⟩ = some (.slice wa ta.kids.length wc)) ∧
    (X.cell? ⟨b7, 0, none⟩ = some (.int .i64 tx.kind) ∧ X.cell? ⟨b7, 1, none⟩ = some (.string tx.name) ∧ X.cell? ⟨b7, 2, none⟩ = some (.slice xa tx.kids.length xc)) ∧
    (X.cell? ⟨b8, 0, none⟩ = some (.int .i64 ty.kind) ∧ X.cell? ⟨b8, 1, none⟩ = some (.string ty.name) ∧ X.cell? ⟨b8, 2, none⟩ = some (.slice ya ty.kids.length yc)) ∧
    (X.cell? ⟨b9, 0, none⟩ = some (.int .i64 tw.kind) ∧ X.cell? ⟨b9, 1, none⟩ = some (.string tw.name) ∧ X.cell? ⟨b9, 2, none⟩ = some (.slice za tw.kids.length zc)) ∧
    X.cell? ⟨b11, 0, none⟩ = some (.slice sa l.length sc) ∧ X.cell? ⟨b13, 0, none⟩ = some (.slice sb k.length sd) :=
  ⟨h.1.1.cells, h.1.2.1.cells, h.1.2.2.1.cells, h.1.2.2.2.cells, h.2.1.1.cell, h.2.1.2.cell⟩
theorem tTwo_size : tsize tTwo = 3 := by decide
theorem tBoth_size (t u : T) : tsize (tBoth t u) = tsize t + tsize u + 1 := by
  simp [tBoth, tsize, tsizes]; omega
theorem mt_two (t u : T) : (mt (tsize tTwo) [] tTwo (tBoth t u)).isSome = eqB t u := by
  rw [tTwo_size, mt, if_neg (by decide), if_pos ⟨rfl, rfl, rfl⟩]
  show (mtL (mt 2) [] [tA, tA] [t, u]).isSome = _
  rw [mtL, mt, if_pos (show tA.kind = 1 from rfl)]
  show (mtL (mt 2) [(⟨#[97]⟩, t)] [tA] [u]).isSome = _
  rw [mtL, mt, if_pos (show tA.kind = 1 from rfl)]
  have e : lkt tA.name [((⟨#[97]⟩ : ByteArray), t)] = some t := by simp [lkt, tA, T.name]
  rw [e]
  by_cases h : t = u
  · subst h; rw [eqB_true rfl]; simp only [eqB_true (rfl : t = t), if_true]; rfl
  · rw [eqB_false h]; simp only [eqB_false h, Bool.false_eq_true, if_false]; rfl
theorem mt_a (t : T) : (mt (tsize tA) [] tA t).isSome = true := by
  rw [show tsize tA = 0 + 1 from rfl, mt, if_pos (show tA.kind = 1 from rfl)]; rfl
theorem mt_back (t u : T) : (mt (tsize (tBoth t u)) [] (tBoth t u) tA).isSome = false := by
  rw [tBoth_size, mt, if_neg (fun h : (tBoth t u).kind = 1 => absurd (show (2 : Int) = 1 from h) (by decide)), if_neg (fun h : (tBoth t u).kind = tA.kind ∧ _ => absurd (show (2 : Int) = 1 from h.1) (by decide))]; rfl
theorem two_app {l : List PR} {t u : T} (h : app l tTwo = tBoth t u) : app l tA = t := by
  rw [tTwo, app, apps, tBoth] at h
  injection h with _ h
  injection h
theorem tTwo_in : TIn vA tTwo := fun x hx => by simpa [vs, vss, tTwo, tA, vA] using hx
theorem tBoth_in {V : List ByteArray} {t u : T} (h : TIn V t) (h' : TIn V u) : TIn V (tBoth t u) := fun x hx => by
  rcases (by simpa [vs, vss, tBoth] using hx : x ∈ vs t ∨ x ∈ vs u) with h1 | h1
  · exact h x h1
  · exact h' x h1
theorem BoxT.new' {t : T} {a : Option Addr} {c b : Nat} {w : World} (h : TysAt w (.slice a t.kids.length c) t.kids) (e : b = w.heap.size) : BoxT b t a c (w.alloc (.cells #[.int .i64 t.kind, .string t.name, .slice a t.kids.length c] 26)) := e ▸ BoxT.new h
/-- Both of the law's pairs, each with its row. -/
theorem two_boxes {W : World} {t u : T} {b6 b7 b8 ca cb n : Nat} {pa pb : Option Addr} (hA : BoxT b6 tA none 0 W) (hX : BoxT b7 t pa ca W) (hY : BoxT b8 u pb cb W) (hn : n = W.heap.size) :
    BoxT (n + 1) tTwo (some ⟨n, 0, none⟩) 2 ((((W.alloc (.cells #[.int .i64 tA.kind, .string tA.name, .slice none 0 0, .int .i64 tA.kind, .string tA.name, .slice none 0 0] 26)).alloc (.cells #[.int .i64 2, .string pairN, .slice (some ⟨n, 0, none⟩) 2 2] 26)).alloc (.cells #[.int .i64 t.kind, .string t.name, .slice pa t.kids.length ca, .int .i64 u.kind, .string u.name, .slice pb u.kids.length cb] 26)).alloc (.cells #[.int .i64 2, .string pairN, .slice (some ⟨n + 1 + 1, 0, none⟩) 2 2] 26)) ∧
    BoxT (n + 1 + 1 + 1) (tBoth t u) (some ⟨n + 1 + 1, 0, none⟩) 2 ((((W.alloc (.cells #[.int .i64 tA.kind, .string tA.name, .slice none 0 0, .int .i64 tA.kind, .string tA.name, .slice none 0 0] 26)).alloc (.cells #[.int .i64 2, .string pairN, .slice (some ⟨n, 0, none⟩) 2 2] 26)).alloc (.cells #[.int .i64 t.kind, .string t.name, .slice pa t.kids.length ca, .int .i64 u.kind, .string u.name, .slice pb u.kids.length cb] 26)).alloc (.cells #[.int .i64 2, .string pairN, .slice (some ⟨n + 1 + 1, 0, none⟩) 2 2] 26)) ∧
    Below W.heap.size W ((((W.alloc (.cells #[.int .i64 tA.kind, .string tA.name, .slice none 0 0, .int .i64 tA.kind, .string tA.name, .slice none 0 0] 26)).alloc (.cells #[.int .i64 2, .string pairN, .slice (some ⟨n, 0, none⟩) 2 2] 26)).alloc (.cells #[.int .i64 t.kind, .string t.name, .slice pa t.kids.length ca, .int .i64 u.kind, .string u.name, .slice pb u.kids.length cb] 26)).alloc (.cells #[.int .i64 2, .string pairN, .slice (some ⟨n + 1 + 1, 0, none⟩) 2 2] 26)) := by
  have h1 := TysAt.two hn (TyAt.mk tA hA.2) (TyAt.mk tA hA.2)
  obtain ⟨W1, e1⟩ : ∃ V, W.alloc (.cells #[.int .i64 tA.kind, .string tA.name, .slice none 0 0, .int .i64 tA.kind, .string tA.name, .slice none 0 0] 26) = V := ⟨_, rfl⟩
  have s1 : W1.heap.size = W.heap.size + 1 := by rw [← e1]; simp
  have b1 : Below W.heap.size W W1 := e1 ▸ (Below.refl _ W).alloc (Nat.le_refl _) _
  have h2 : BoxT (n + 1) tTwo (some ⟨n, 0, none⟩) 2 (W1.alloc (.cells #[.int .i64 2, .string pairN, .slice (some ⟨n, 0, none⟩) 2 2] 26)) := BoxT.new' (t := tTwo) (e1 ▸ h1) (by rw [s1, hn])
  rw [e1]
  obtain ⟨W2, e2⟩ : ∃ V, W1.alloc (.cells #[.int .i64 2, .string pairN, .slice (some ⟨n, 0, none⟩) 2 2] 26) = V := ⟨_, rfl⟩
  have s2 : W2.heap.size = W.heap.size + 1 + 1 := by rw [← e2]; simp [s1]
  have b2 : Below W.heap.size W W2 := e2 ▸ b1.alloc b1.size _
  rw [e2] at h2 ⊢
  have h3 := TysAt.two (g := n + 1 + 1) (by rw [s2, hn]) (TyAt.mk t (hX.below b2).2) (TyAt.mk u (hY.below b2).2)
  obtain ⟨W3, e3⟩ : ∃ V, W2.alloc (.cells #[.int .i64 t.kind, .string t.name, .slice pa t.kids.length ca, .int .i64 u.kind, .string u.name, .slice pb u.kids.length cb] 26) = V := ⟨_, rfl⟩
  have s3 : W3.heap.size = W.heap.size + 1 + 1 + 1 := by rw [← e3]; simp [s2]
  have b3 : Below W.heap.size W W3 := e3 ▸ b2.alloc b2.size _
  have g2 : BoxT (n + 1) tTwo (some ⟨n, 0, none⟩) 2 W3 := e3 ▸ h2.alloc _
  rw [e3]
  exact ⟨g2.alloc _, BoxT.new' (t := tBoth t u) (e3 ▸ h3) (by rw [s3, hn]), b3.alloc b3.size _⟩
end Go.Proofs.Ythpphjkoiipkkaa
/- MatchOnce: its last statement, a region of 39 operations that draws its order, by an invariant. (Made by a program.) -/
namespace Go.Proofs.Ythpphjkoiipkkaa
open Go.RowKit Go.Maps Go.Sort Go.Lib
attribute [local go_sem] Oper.semAt_some

noncomputable def monOps : Array Oper := regionIn 14 (Try.f5.body.getD .skip)
def monFr (b : Nat → Value) (d : List Deferred) (x : Nat → Value) : Act := { tmps := #[b 0, b 1, b 2, b 3, x 38, b 5, b 6, b 7, b 8, b 9, b 10, b 11, b 12, b 13, b 14, b 15, b 16, b 17, b 18, b 19, b 20, b 21, b 22, b 23, b 24, b 25, b 26, b 27, b 28, b 29, b 30, b 31, b 32, b 33, b 34, b 35, b 36, b 37, b 38, b 39, b 40, b 41, b 42, b 43, b 44, b 45, b 46, b 47, b 48, b 49, b 50, b 51, b 52, b 53, b 54, b 55, b 56, b 57, b 58, b 59, b 60, b 61, b 62, b 63, x 0, x 1, x 2, x 3, x 4, x 5, x 6, x 7, x 8, x 9, x 10, x 11, x 12, x 13, x 14, x 15, x 16, x 17, x 18, x 19, x 20, x 21, x 22, x 23, x 24, x 25, x 26, x 27, x 28, x 29, x 30, x 31, x 32, x 33, x 34, x 35, x 36, x 37], defers := d }

def monVals (ta tx ty tw : T) (wa xa ya za sa sb : Option Addr) (wc xc yc zc sc sd : Nat) (l k : List PR) (i : Nat) (v : Value) (V : World) : Prop :=
  match i with
  | 0 => v = .bool true
  | 1 => v = .bool true
  | 2 => v = .bool true
  | 3 => v = .agg #[.int .i64 (tx).kind, .string (tx).name, .slice xa (tx).kids.length xc]
  | 4 => v = .agg #[.int .i64 (ty).kind, .string (ty).name, .slice ya (ty).kids.length yc]
  | 5 => v = .bool true
  | 6 => v = .bool true
  | 7 => v = .bool true
  | 8 => v = .bool true
  | 9 => v = .bool true
  | 10 => v = .bool false
  | 11 => v = .bool false
  | 12 => v = .agg #[.slice sa l.length sc]
  | 13 => v = .agg #[.int .i64 (ta).kind, .string (ta).name, .slice wa (ta).kids.length wc]
  | 14 => ∃ zu zv, v = .agg #[.int .i64 (tx).kind, .string (tx).name, .slice zu (tx).kids.length zv] ∧ TysAt V (.slice zu (tx).kids.length zv) (tx).kids
  | 15 => v = .agg #[.int .i64 (tx).kind, .string (tx).name, .slice xa (tx).kids.length xc]
  | 16 => v = .bool true
  | 17 => v = .bool true
  | 18 => v = .bool true
  | 19 => v = .bool true
  | 20 => v = .bool true
  | 21 => v = .bool true
  | 22 => v = .bool true
  | 23 => v = .agg #[.slice sb k.length sd]
  | 24 => v = .agg #[.int .i64 (ta).kind, .string (ta).name, .slice wa (ta).kids.length wc]
  | 25 => ∃ zu zv, v = .agg #[.int .i64 (tx).kind, .string (tx).name, .slice zu (tx).kids.length zv] ∧ TysAt V (.slice zu (tx).kids.length zv) (tx).kids
  | 26 => v = .agg #[.int .i64 (tx).kind, .string (tx).name, .slice xa (tx).kids.length xc]
  | 27 => v = .bool true
  | 28 => v = .bool true
  | 29 => v = .bool true
  | 30 => v = .bool false
  | 31 => v = .bool true
  | 32 => v = .bool true
  | 33 => v = .bool true
  | 34 => v = .agg #[.int .i64 (tw).kind, .string (tw).name, .slice za (tw).kids.length zc]
  | 35 => v = .int .i64 3
  | 36 => v = .bool true
  | 37 => v = .bool true
  | 38 => v = .bool true
  | _ => True

theorem monVals_keep {ta tx ty tw : T} {wa xa ya za sa sb : Option Addr} {wc xc yc zc sc sd : Nat} {l k : List PR} (i : Nat) (v : Value) (V Y : World) (h : monVals ta tx ty tw wa xa ya za sa sb wc xc yc zc sc sd l k i v V) (hb : Below V.heap.size V Y) : monVals ta tx ty tw wa xa ya za sa sb wc xc yc zc sc sd l k i v Y := by
  unfold monVals at *
  split at h <;> first
    | exact h
    | (obtain ⟨zu, zv, e, h⟩ := h; exact ⟨zu, zv, e, h.keep (KeepT.of_below hb)⟩)

theorem mon_size : monOps.size = 39 := by kernel_rfl
theorem mon_dst_1 : (monOps[1]?).bind (·.dst) = some 65 := by kernel_rfl
theorem mon_dst_8 : (monOps[8]?).bind (·.dst) = some 72 := by kernel_rfl
theorem mon_dst_11 : (monOps[11]?).bind (·.dst) = some 75 := by kernel_rfl
theorem mon_dst_19 : (monOps[19]?).bind (·.dst) = some 83 := by kernel_rfl
theorem mon_dst_22 : (monOps[22]?).bind (·.dst) = some 86 := by kernel_rfl
theorem mon_dst_29 : (monOps[29]?).bind (·.dst) = some 93 := by kernel_rfl
theorem mon_dst_33 : (monOps[33]?).bind (·.dst) = some 97 := by kernel_rfl
set_option linter.unusedSimpArgs false in
set_option maxRecDepth 100000 in
set_option maxHeartbeats 8000000 in
theorem mon_region {w : World} {b6 b7 b8 b9 b11 b13 : Nat} {ta tx ty tw : T} {wa xa ya za sa sb : Option Addr} {wc xc yc zc sc sd : Nat} {l k : List PR} {b : Nat → Value} {d : List Deferred}
    (h5 : b 5 = .bool true) (h12 : b 12 = .bool true) (h14 : b 14 = .bool true) (h16 : b 16 = .bool false) (h6 : b 6 = .pointer (some ⟨b6, 0, none⟩)) (h7 : b 7 = .pointer (some ⟨b7, 0, none⟩)) (h8 : b 8 = .pointer (some ⟨b8, 0, none⟩)) (h9 : b 9 = .pointer (some ⟨b9, 0, none⟩)) (h11 : b 11 = .pointer (some ⟨b11, 0, none⟩)) (h13 : b 13 = .pointer (some ⟨b13, 0, none⟩))
    (HC5 : ∀ V, OQ w b6 b7 b8 b9 b11 b13 ta tx ty tw wa xa ya za wc xc yc zc sa sc l sb sd k V → Calls Try.prog 11 #[.agg #[.int .i64 (tx).kind, .string (tx).name, .slice xa (tx).kids.length xc], .agg #[.int .i64 (ty).kind, .string (ty).name, .slice ya (ty).kids.length yc]] V fun e Y => e = .returned (.bool true) ∧ Below V.heap.size V Y)
    (HC14 : ∀ V, OQ w b6 b7 b8 b9 b11 b13 ta tx ty tw wa xa ya za wc xc yc zc sa sc l sb sd k V → Calls Try.prog 12 #[.agg #[.slice sa l.length sc], .agg #[.int .i64 (ta).kind, .string (ta).name, .slice wa (ta).kids.length wc]] V fun e Y => (∃ zu zv, e = .returned (.agg #[.int .i64 (tx).kind, .string (tx).name, .slice zu (tx).kids.length zv]) ∧ TysAt Y (.slice zu (tx).kids.length zv) (tx).kids) ∧ Below V.heap.size V Y)
    (HC16 : ∀ V, OQ w b6 b7 b8 b9 b11 b13 ta tx ty tw wa xa ya za wc xc yc zc sa sc l sb sd k V → ∀ zu14, ∀ zv14, TysAt V (.slice zu14 (tx).kids.length zv14) (tx).kids → Calls Try.prog 11 #[.agg #[.int .i64 (tx).kind, .string (tx).name, .slice zu14 (tx).kids.length zv14], .agg #[.int .i64 (tx).kind, .string (tx).name, .slice xa (tx).kids.length xc]] V fun e Y => e = .returned (.bool true) ∧ Below V.heap.size V Y)
    (HC25 : ∀ V, OQ w b6 b7 b8 b9 b11 b13 ta tx ty tw wa xa ya za wc xc yc zc sa sc l sb sd k V → Calls Try.prog 12 #[.agg #[.slice sb k.length sd], .agg #[.int .i64 (ta).kind, .string (ta).name, .slice wa (ta).kids.length wc]] V fun e Y => (∃ zu zv, e = .returned (.agg #[.int .i64 (tx).kind, .string (tx).name, .slice zu (tx).kids.length zv]) ∧ TysAt Y (.slice zu (tx).kids.length zv) (tx).kids) ∧ Below V.heap.size V Y)
    (HC27 : ∀ V, OQ w b6 b7 b8 b9 b11 b13 ta tx ty tw wa xa ya za wc xc yc zc sa sc l sb sd k V → ∀ zu25, ∀ zv25, TysAt V (.slice zu25 (tx).kids.length zv25) (tx).kids → Calls Try.prog 11 #[.agg #[.int .i64 (tx).kind, .string (tx).name, .slice zu25 (tx).kids.length zv25], .agg #[.int .i64 (tx).kind, .string (tx).name, .slice xa (tx).kids.length xc]] V fun e Y => e = .returned (.bool true) ∧ Below V.heap.size V Y)
    (HC35 : ∀ V, OQ w b6 b7 b8 b9 b11 b13 ta tx ty tw wa xa ya za wc xc yc zc sa sc l sb sd k V → Calls Try.prog 15 #[.agg #[.int .i64 (tw).kind, .string (tw).name, .slice za (tw).kids.length zc]] V fun e Y => e = .returned (.int .i64 3) ∧ Below V.heap.size V Y)
    {Q : Exit → Act → World → Prop} {ops : Array Oper} (hops : ops = monOps) (x0 : Nat → Value) (X : World) (hS : OQ w b6 b7 b8 b9 b11 b13 ta tx ty tw wa xa ya za wc xc yc zc sa sc l sb sd k X.drew)
    (hfin : ∀ x V, OQ w b6 b7 b8 b9 b11 b13 ta tx ty tw wa xa ya za wc xc yc zc sa sc l sb sd k V → x 38 = .bool true → Q .normal (monFr b d x) V) : (Code.region 14 ops true).wp Try.prog Q (monFr b d x0) X := by
  have HC := Lib.hid (And.intro HC5 (And.intro HC14 (And.intro HC16 (And.intro HC25 (And.intro HC27 HC35)))))
  clear HC5 HC14 HC16 HC25 HC27 HC35
  refine region_inv (monFr b d) (fun V => OQ w b6 b7 b8 b9 b11 b13 ta tx ty tw wa xa ya za wc xc yc zc sa sc l sb sd k V) (fun V Y => Below V.heap.size V Y) (monVals ta tx ty tw wa xa ya za sa sb wc xc yc zc sc sd l k) x0 (by kernel_rfl) rfl hS (fun V Y h hb => h.below hb) (fun i v V Y _ h hb => monVals_keep i v V Y h hb) ?_ (fun x V hV h => hfin x V hV (h 38 (by rw [hops, mon_size]; decide)))
  clear hfin hS
  obtain ⟨f, hf⟩ : ∃ qq, StepAt Try.prog (monFr b d) (fun V => OQ w b6 b7 b8 b9 b11 b13 ta tx ty tw wa xa ya za wc xc yc zc sa sc l sb sd k V) (fun V Y => Below V.heap.size V Y) (monVals ta tx ty tw wa xa ya za sa sb wc xc yc zc sc sd l k) ops Q = qq := ⟨_, rfl⟩
  rw [hf, hops]
  simp only [monOps, Try.f5, regionIn, Option.getD_some, Nat.reduceBEq, Bool.false_eq_true, if_false, if_true, beq_self_eq_true, Array.append_empty, Array.empty_append, List.append_eq, List.cons_append, List.nil_append, AllAt, Nat.reduceAdd, Nat.zero_add]
  -- 0: slot 64 := Op.move t5
  refine And.intro ?_ ?_
  · rw [← hf]; clear hf
    refine ⟨by decide +kernel, fun x v => by kernel_rfl, fun x V hV hdep K hK => ?_⟩
    clear hdep
    refine run_bare (by kernel_rfl) ?_
    unfold monFr
    go_simp
    refine kfit (hK _ _ (Below.refl _ V) rfl) ?_
    first | (simp only [monFr, Act.put, List.setIfInBounds_toArray, List.set_cons_zero, List.set_cons_succ, h5, h12, h14, h16, h6, h7, h8, h9, h11, h13]; done) | (simp only [monFr, Act.put, List.setIfInBounds_toArray, List.set_cons_zero, List.set_cons_succ, h5, h12, h14, h16, h6, h7, h8, h9, h11, h13]; rfl)
  -- 1: slot 65 := Op.move t64
  refine And.intro ?_ ?_
  · rw [← hf]; clear hf
    refine ⟨by decide +kernel, fun x v => by kernel_rfl, fun x V hV hdep K hK => ?_⟩
    have e0 : x 0 = .bool true := depOf hdep 0 (by decide +kernel)
    clear hdep
    refine run_bare (by kernel_rfl) ?_
    unfold monFr
    go_simp
    refine kfit (hK _ _ (Below.refl _ V) rfl) ?_
    first | (simp only [monFr, Act.put, List.setIfInBounds_toArray, List.set_cons_zero, List.set_cons_succ, h5, h12, h14, h16, h6, h7, h8, h9, h11, h13, e0]; done) | (simp only [monFr, Act.put, List.setIfInBounds_toArray, List.set_cons_zero, List.set_cons_succ, h5, h12, h14, h16, h6, h7, h8, h9, h11, h13, e0]; rfl)
  -- 2: slot 66 := Op.move t12
  refine And.intro ?_ ?_
  · rw [← hf]; clear hf
    refine ⟨by decide +kernel, fun x v => by kernel_rfl, fun x V hV hdep K hK => ?_⟩
    have e1 : x 1 = .bool true := depOf hdep 1 (by decide +kernel)
    clear hdep
    refine run_guard 1 65 (x 1) (by kernel_rfl) (by rw [hops]; exact mon_dst_1) (by kernel_rfl) e1 ?_; clear hops
    unfold monFr
    go_simp
    refine kfit (hK _ _ (Below.refl _ V) rfl) ?_
    first | (simp only [monFr, Act.put, List.setIfInBounds_toArray, List.set_cons_zero, List.set_cons_succ, h5, h12, h14, h16, h6, h7, h8, h9, h11, h13, e1]; done) | (simp only [monFr, Act.put, List.setIfInBounds_toArray, List.set_cons_zero, List.set_cons_succ, h5, h12, h14, h16, h6, h7, h8, h9, h11, h13, e1]; rfl)
  -- 3: slot 67 := Op.load 26 t7
  refine And.intro ?_ ?_
  · rw [← hf]; clear hf
    refine ⟨by decide +kernel, fun x v => by kernel_rfl, fun x V hV hdep K hK => ?_⟩
    have e1 : x 1 = .bool true := depOf hdep 1 (by decide +kernel)
    clear hdep
    refine run_guard 1 65 (x 1) (by kernel_rfl) (by rw [hops]; exact mon_dst_1) (by kernel_rfl) e1 ?_; clear hops
    unfold monFr
    obtain ⟨⟨y0, y1, y2⟩, ⟨y3, y4, y5⟩, ⟨y6, y7, y8⟩, ⟨y9, y10, y11⟩, y12, y13⟩ := OQ.cells hV
    go_simp
    refine kfit (hK _ _ (Below.refl _ V) rfl) ?_
    first | (simp only [monFr, Act.put, List.setIfInBounds_toArray, List.set_cons_zero, List.set_cons_succ, h5, h12, h14, h16, h6, h7, h8, h9, h11, h13, e1]; done) | (simp only [monFr, Act.put, List.setIfInBounds_toArray, List.set_cons_zero, List.set_cons_succ, h5, h12, h14, h16, h6, h7, h8, h9, h11, h13, e1]; rfl)
  -- 4: slot 68 := Op.load 26 t8
  refine And.intro ?_ ?_
  · rw [← hf]; clear hf
    refine ⟨by decide +kernel, fun x v => by kernel_rfl, fun x V hV hdep K hK => ?_⟩
    have e1 : x 1 = .bool true := depOf hdep 1 (by decide +kernel)
    clear hdep
    refine run_guard 1 65 (x 1) (by kernel_rfl) (by rw [hops]; exact mon_dst_1) (by kernel_rfl) e1 ?_; clear hops
    unfold monFr
    obtain ⟨⟨y0, y1, y2⟩, ⟨y3, y4, y5⟩, ⟨y6, y7, y8⟩, ⟨y9, y10, y11⟩, y12, y13⟩ := OQ.cells hV
    go_simp
    refine kfit (hK _ _ (Below.refl _ V) rfl) ?_
    first | (simp only [monFr, Act.put, List.setIfInBounds_toArray, List.set_cons_zero, List.set_cons_succ, h5, h12, h14, h16, h6, h7, h8, h9, h11, h13, e1]; done) | (simp only [monFr, Act.put, List.setIfInBounds_toArray, List.set_cons_zero, List.set_cons_succ, h5, h12, h14, h16, h6, h7, h8, h9, h11, h13, e1]; rfl)
  -- 5: slot 69 := Op.call { value (Operand.func 11), args := #[t67, t68], argT
  refine And.intro ?_ ?_
  · rw [← hf]; clear hf
    refine ⟨by decide +kernel, fun x v => by kernel_rfl, fun x V hV hdep K hK => ?_⟩
    have e1 : x 1 = .bool true := depOf hdep 1 (by decide +kernel)
    have e3 : x 3 = .agg #[.int .i64 (tx).kind, .string (tx).name, .slice xa (tx).kids.length xc] := depOf hdep 3 (by decide +kernel)
    have e4 : x 4 = .agg #[.int .i64 (ty).kind, .string (ty).name, .slice ya (ty).kids.length yc] := depOf hdep 4 (by decide +kernel)
    clear hdep
    refine run_guard 1 65 (x 1) (by kernel_rfl) (by rw [hops]; exact mon_dst_1) (by kernel_rfl) e1 ?_; clear hops
    unfold monFr
    obtain ⟨HC5, HC14, HC16, HC25, HC27, HC35⟩ := HC.out
    clear HC14 HC16 HC25 HC27 HC35
    have H := HC5 V hV
    replace H := Lib.hid H; clear HC5
    go_simp
    go_at_call 11
    refine H.out.mono ?_
    rintro e Y ⟨rfl, hb⟩; refine kfit (hK _ _ hb rfl) ?_
    first | (simp only [monFr, Act.put, List.setIfInBounds_toArray, List.set_cons_zero, List.set_cons_succ, h5, h12, h14, h16, h6, h7, h8, h9, h11, h13, e1, e3, e4]; done) | (simp only [monFr, Act.put, List.setIfInBounds_toArray, List.set_cons_zero, List.set_cons_succ, h5, h12, h14, h16, h6, h7, h8, h9, h11, h13, e1, e3, e4]; rfl)
  -- 6: slot 70 := Op.binOp BinOp.eql 4 t66 t69 4
  refine And.intro ?_ ?_
  · rw [← hf]; clear hf
    refine ⟨by decide +kernel, fun x v => by kernel_rfl, fun x V hV hdep K hK => ?_⟩
    have e1 : x 1 = .bool true := depOf hdep 1 (by decide +kernel)
    have e2 : x 2 = .bool true := depOf hdep 2 (by decide +kernel)
    have e5 : x 5 = .bool true := depOf hdep 5 (by decide +kernel)
    clear hdep
    refine run_guard 1 65 (x 1) (by kernel_rfl) (by rw [hops]; exact mon_dst_1) (by kernel_rfl) e1 ?_; clear hops
    unfold monFr
    go_simp
    refine kfit (hK _ _ (Below.refl _ V) rfl) ?_
    first | (simp only [monFr, Act.put, List.setIfInBounds_toArray, List.set_cons_zero, List.set_cons_succ, h5, h12, h14, h16, h6, h7, h8, h9, h11, h13, e1, e2, e5]; done) | (simp only [monFr, Act.put, List.setIfInBounds_toArray, List.set_cons_zero, List.set_cons_succ, h5, h12, h14, h16, h6, h7, h8, h9, h11, h13, e1, e2, e5]; rfl)
  -- 7: slot 71 := Op.pick t65 t70 (const (Value.bool false))
  refine And.intro ?_ ?_
  · rw [← hf]; clear hf
    refine ⟨by decide +kernel, fun x v => by kernel_rfl, fun x V hV hdep K hK => ?_⟩
    have e1 : x 1 = .bool true := depOf hdep 1 (by decide +kernel)
    have e6 : x 6 = .bool true := depOf hdep 6 (by decide +kernel)
    clear hdep
    refine run_bare (by kernel_rfl) ?_
    unfold monFr
    go_simp
    refine kfit (hK _ _ (Below.refl _ V) rfl) ?_
    first | (simp only [monFr, Act.put, List.setIfInBounds_toArray, List.set_cons_zero, List.set_cons_succ, h5, h12, h14, h16, h6, h7, h8, h9, h11, h13, e1, e6]; done) | (simp only [monFr, Act.put, List.setIfInBounds_toArray, List.set_cons_zero, List.set_cons_succ, h5, h12, h14, h16, h6, h7, h8, h9, h11, h13, e1, e6]; rfl)
  -- 8: slot 72 := Op.move t71
  refine And.intro ?_ ?_
  · rw [← hf]; clear hf
    refine ⟨by decide +kernel, fun x v => by kernel_rfl, fun x V hV hdep K hK => ?_⟩
    have e7 : x 7 = .bool true := depOf hdep 7 (by decide +kernel)
    clear hdep
    refine run_bare (by kernel_rfl) ?_
    unfold monFr
    go_simp
    refine kfit (hK _ _ (Below.refl _ V) rfl) ?_
    first | (simp only [monFr, Act.put, List.setIfInBounds_toArray, List.set_cons_zero, List.set_cons_succ, h5, h12, h14, h16, h6, h7, h8, h9, h11, h13, e7]; done) | (simp only [monFr, Act.put, List.setIfInBounds_toArray, List.set_cons_zero, List.set_cons_succ, h5, h12, h14, h16, h6, h7, h8, h9, h11, h13, e7]; rfl)
  -- 9: slot 73 := Op.move t12
  refine And.intro ?_ ?_
  · rw [← hf]; clear hf
    refine ⟨by decide +kernel, fun x v => by kernel_rfl, fun x V hV hdep K hK => ?_⟩
    have e8 : x 8 = .bool true := depOf hdep 8 (by decide +kernel)
    clear hdep
    refine run_guard 8 72 (x 8) (by kernel_rfl) (by rw [hops]; exact mon_dst_8) (by kernel_rfl) e8 ?_; clear hops
    unfold monFr
    go_simp
    refine kfit (hK _ _ (Below.refl _ V) rfl) ?_
    first | (simp only [monFr, Act.put, List.setIfInBounds_toArray, List.set_cons_zero, List.set_cons_succ, h5, h12, h14, h16, h6, h7, h8, h9, h11, h13, e8]; done) | (simp only [monFr, Act.put, List.setIfInBounds_toArray, List.set_cons_zero, List.set_cons_succ, h5, h12, h14, h16, h6, h7, h8, h9, h11, h13, e8]; rfl)
  -- 10: slot 74 := Op.unOp UnOp.not 4 t73
  refine And.intro ?_ ?_
  · rw [← hf]; clear hf
    refine ⟨by decide +kernel, fun x v => by kernel_rfl, fun x V hV hdep K hK => ?_⟩
    have e8 : x 8 = .bool true := depOf hdep 8 (by decide +kernel)
    have e9 : x 9 = .bool true := depOf hdep 9 (by decide +kernel)
    clear hdep
    refine run_guard 8 72 (x 8) (by kernel_rfl) (by rw [hops]; exact mon_dst_8) (by kernel_rfl) e8 ?_; clear hops
    unfold monFr
    go_simp
    refine kfit (hK _ _ (Below.refl _ V) rfl) ?_
    first | (simp only [monFr, Act.put, List.setIfInBounds_toArray, List.set_cons_zero, List.set_cons_succ, h5, h12, h14, h16, h6, h7, h8, h9, h11, h13, e8, e9]; done) | (simp only [monFr, Act.put, List.setIfInBounds_toArray, List.set_cons_zero, List.set_cons_succ, h5, h12, h14, h16, h6, h7, h8, h9, h11, h13, e8, e9]; rfl)
  -- 11: slot 75 := Op.move t74
  refine And.intro ?_ ?_
  · rw [← hf]; clear hf
    refine ⟨by decide +kernel, fun x v => by kernel_rfl, fun x V hV hdep K hK => ?_⟩
    have e8 : x 8 = .bool true := depOf hdep 8 (by decide +kernel)
    have e10 : x 10 = .bool false := depOf hdep 10 (by decide +kernel)
    clear hdep
    refine run_guard 8 72 (x 8) (by kernel_rfl) (by rw [hops]; exact mon_dst_8) (by kernel_rfl) e8 ?_; clear hops
    unfold monFr
    go_simp
    refine kfit (hK _ _ (Below.refl _ V) rfl) ?_
    first | (simp only [monFr, Act.put, List.setIfInBounds_toArray, List.set_cons_zero, List.set_cons_succ, h5, h12, h14, h16, h6, h7, h8, h9, h11, h13, e8, e10]; done) | (simp only [monFr, Act.put, List.setIfInBounds_toArray, List.set_cons_zero, List.set_cons_succ, h5, h12, h14, h16, h6, h7, h8, h9, h11, h13, e8, e10]; rfl)
  -- 12: slot 76 := Op.load 33 t11
  refine And.intro ?_ ?_
  · rw [← hf]; clear hf
    refine ⟨by decide +kernel, fun x v => by kernel_rfl, fun x V hV hdep K hK => ?_⟩
    have e11 : x 11 = .bool false := depOf hdep 11 (by decide +kernel)
    clear hdep
    refine run_guardF 11 75 (x 11) (by kernel_rfl) (by rw [hops]; exact mon_dst_11) (by kernel_rfl) e11 ?_; clear hops
    unfold monFr
    obtain ⟨⟨y0, y1, y2⟩, ⟨y3, y4, y5⟩, ⟨y6, y7, y8⟩, ⟨y9, y10, y11⟩, y12, y13⟩ := OQ.cells hV
    go_simp
    refine kfit (hK _ _ (Below.refl _ V) rfl) ?_
    first | (simp only [monFr, Act.put, List.setIfInBounds_toArray, List.set_cons_zero, List.set_cons_succ, h5, h12, h14, h16, h6, h7, h8, h9, h11, h13, e11]; done) | (simp only [monFr, Act.put, List.setIfInBounds_toArray, List.set_cons_zero, List.set_cons_succ, h5, h12, h14, h16, h6, h7, h8, h9, h11, h13, e11]; rfl)
  -- 13: slot 77 := Op.load 26 t6
  refine And.intro ?_ ?_
  · rw [← hf]; clear hf
    refine ⟨by decide +kernel, fun x v => by kernel_rfl, fun x V hV hdep K hK => ?_⟩
    have e11 : x 11 = .bool false := depOf hdep 11 (by decide +kernel)
    clear hdep
    refine run_guardF 11 75 (x 11) (by kernel_rfl) (by rw [hops]; exact mon_dst_11) (by kernel_rfl) e11 ?_; clear hops
    unfold monFr
    obtain ⟨⟨y0, y1, y2⟩, ⟨y3, y4, y5⟩, ⟨y6, y7, y8⟩, ⟨y9, y10, y11⟩, y12, y13⟩ := OQ.cells hV
    go_simp
    refine kfit (hK _ _ (Below.refl _ V) rfl) ?_
    first | (simp only [monFr, Act.put, List.setIfInBounds_toArray, List.set_cons_zero, List.set_cons_succ, h5, h12, h14, h16, h6, h7, h8, h9, h11, h13, e11]; done) | (simp only [monFr, Act.put, List.setIfInBounds_toArray, List.set_cons_zero, List.set_cons_succ, h5, h12, h14, h16, h6, h7, h8, h9, h11, h13, e11]; rfl)
  -- 14: slot 78 := Op.call { value (Operand.func 12), args := #[t76, t77], argT
  refine And.intro ?_ ?_
  · rw [← hf]; clear hf
    refine ⟨by decide +kernel, fun x v => by kernel_rfl, fun x V hV hdep K hK => ?_⟩
    have e11 : x 11 = .bool false := depOf hdep 11 (by decide +kernel)
    have e12 : x 12 = .agg #[.slice sa l.length sc] := depOf hdep 12 (by decide +kernel)
    have e13 : x 13 = .agg #[.int .i64 (ta).kind, .string (ta).name, .slice wa (ta).kids.length wc] := depOf hdep 13 (by decide +kernel)
    clear hdep
    refine run_guardF 11 75 (x 11) (by kernel_rfl) (by rw [hops]; exact mon_dst_11) (by kernel_rfl) e11 ?_; clear hops
    unfold monFr
    obtain ⟨HC5, HC14, HC16, HC25, HC27, HC35⟩ := HC.out
    clear HC5 HC16 HC25 HC27 HC35
    have H := HC14 V hV
    replace H := Lib.hid H; clear HC14
    go_simp
    go_at_call 12
    refine H.out.mono ?_
    rintro e Y ⟨⟨zu, zv, rfl, hq⟩, hb⟩; refine kfit (hK _ _ hb ⟨zu, zv, rfl, hq⟩) ?_
    first | (simp only [monFr, Act.put, List.setIfInBounds_toArray, List.set_cons_zero, List.set_cons_succ, h5, h12, h14, h16, h6, h7, h8, h9, h11, h13, e11, e12, e13]; done) | (simp only [monFr, Act.put, List.setIfInBounds_toArray, List.set_cons_zero, List.set_cons_succ, h5, h12, h14, h16, h6, h7, h8, h9, h11, h13, e11, e12, e13]; rfl)
  -- 15: slot 79 := Op.load 26 t7
  refine And.intro ?_ ?_
  · rw [← hf]; clear hf
    refine ⟨by decide +kernel, fun x v => by kernel_rfl, fun x V hV hdep K hK => ?_⟩
    have e11 : x 11 = .bool false := depOf hdep 11 (by decide +kernel)
    clear hdep
    refine run_guardF 11 75 (x 11) (by kernel_rfl) (by rw [hops]; exact mon_dst_11) (by kernel_rfl) e11 ?_; clear hops
    unfold monFr
    obtain ⟨⟨y0, y1, y2⟩, ⟨y3, y4, y5⟩, ⟨y6, y7, y8⟩, ⟨y9, y10, y11⟩, y12, y13⟩ := OQ.cells hV
    go_simp
    refine kfit (hK _ _ (Below.refl _ V) rfl) ?_
    first | (simp only [monFr, Act.put, List.setIfInBounds_toArray, List.set_cons_zero, List.set_cons_succ, h5, h12, h14, h16, h6, h7, h8, h9, h11, h13, e11]; done) | (simp only [monFr, Act.put, List.setIfInBounds_toArray, List.set_cons_zero, List.set_cons_succ, h5, h12, h14, h16, h6, h7, h8, h9, h11, h13, e11]; rfl)
  -- 16: slot 80 := Op.call { value (Operand.func 11), args := #[t78, t79], argT
  refine And.intro ?_ ?_
  · rw [← hf]; clear hf
    refine ⟨by decide +kernel, fun x v => by kernel_rfl, fun x V hV hdep K hK => ?_⟩
    have e11 : x 11 = .bool false := depOf hdep 11 (by decide +kernel)
    obtain ⟨zu14, zv14, e14, d14⟩ : ∃ zu14 zv14, x 14 = .agg #[.int .i64 (tx).kind, .string (tx).name, .slice zu14 (tx).kids.length zv14] ∧ TysAt V (.slice zu14 (tx).kids.length zv14) (tx).kids := depOf hdep 14 (by decide +kernel)
    have e15 : x 15 = .agg #[.int .i64 (tx).kind, .string (tx).name, .slice xa (tx).kids.length xc] := depOf hdep 15 (by decide +kernel)
    clear hdep
    refine run_guardF 11 75 (x 11) (by kernel_rfl) (by rw [hops]; exact mon_dst_11) (by kernel_rfl) e11 ?_; clear hops
    unfold monFr
    obtain ⟨HC5, HC14, HC16, HC25, HC27, HC35⟩ := HC.out
    clear HC5 HC14 HC25 HC27 HC35
    have H := HC16 V hV _ _ d14
    replace H := Lib.hid H; clear HC16
    go_simp
    go_at_call 11
    refine H.out.mono ?_
    rintro e Y ⟨rfl, hb⟩; refine kfit (hK _ _ hb rfl) ?_
    first | (simp only [monFr, Act.put, List.setIfInBounds_toArray, List.set_cons_zero, List.set_cons_succ, h5, h12, h14, h16, h6, h7, h8, h9, h11, h13, e11, e14, e15]; done) | (simp only [monFr, Act.put, List.setIfInBounds_toArray, List.set_cons_zero, List.set_cons_succ, h5, h12, h14, h16, h6, h7, h8, h9, h11, h13, e11, e14, e15]; rfl)
  -- 17: slot 81 := Op.pick t75 (const (Value.bool true)) t80
  refine And.intro ?_ ?_
  · rw [← hf]; clear hf
    refine ⟨by decide +kernel, fun x v => by kernel_rfl, fun x V hV hdep K hK => ?_⟩
    have e8 : x 8 = .bool true := depOf hdep 8 (by decide +kernel)
    have e11 : x 11 = .bool false := depOf hdep 11 (by decide +kernel)
    have e16 : x 16 = .bool true := depOf hdep 16 (by decide +kernel)
    clear hdep
    refine run_guard 8 72 (x 8) (by kernel_rfl) (by rw [hops]; exact mon_dst_8) (by kernel_rfl) e8 ?_; clear hops
    unfold monFr
    go_simp
    refine kfit (hK _ _ (Below.refl _ V) rfl) ?_
    first | (simp only [monFr, Act.put, List.setIfInBounds_toArray, List.set_cons_zero, List.set_cons_succ, h5, h12, h14, h16, h6, h7, h8, h9, h11, h13, e8, e11, e16]; done) | (simp only [monFr, Act.put, List.setIfInBounds_toArray, List.set_cons_zero, List.set_cons_succ, h5, h12, h14, h16, h6, h7, h8, h9, h11, h13, e8, e11, e16]; rfl)
  -- 18: slot 82 := Op.pick t72 t81 (const (Value.bool false))
  refine And.intro ?_ ?_
  · rw [← hf]; clear hf
    refine ⟨by decide +kernel, fun x v => by kernel_rfl, fun x V hV hdep K hK => ?_⟩
    have e8 : x 8 = .bool true := depOf hdep 8 (by decide +kernel)
    have e17 : x 17 = .bool true := depOf hdep 17 (by decide +kernel)
    clear hdep
    refine run_bare (by kernel_rfl) ?_
    unfold monFr
    go_simp
    refine kfit (hK _ _ (Below.refl _ V) rfl) ?_
    first | (simp only [monFr, Act.put, List.setIfInBounds_toArray, List.set_cons_zero, List.set_cons_succ, h5, h12, h14, h16, h6, h7, h8, h9, h11, h13, e8, e17]; done) | (simp only [monFr, Act.put, List.setIfInBounds_toArray, List.set_cons_zero, List.set_cons_succ, h5, h12, h14, h16, h6, h7, h8, h9, h11, h13, e8, e17]; rfl)
  -- 19: slot 83 := Op.move t82
  refine And.intro ?_ ?_
  · rw [← hf]; clear hf
    refine ⟨by decide +kernel, fun x v => by kernel_rfl, fun x V hV hdep K hK => ?_⟩
    have e18 : x 18 = .bool true := depOf hdep 18 (by decide +kernel)
    clear hdep
    refine run_bare (by kernel_rfl) ?_
    unfold monFr
    go_simp
    refine kfit (hK _ _ (Below.refl _ V) rfl) ?_
    first | (simp only [monFr, Act.put, List.setIfInBounds_toArray, List.set_cons_zero, List.set_cons_succ, h5, h12, h14, h16, h6, h7, h8, h9, h11, h13, e18]; done) | (simp only [monFr, Act.put, List.setIfInBounds_toArray, List.set_cons_zero, List.set_cons_succ, h5, h12, h14, h16, h6, h7, h8, h9, h11, h13, e18]; rfl)
  -- 20: slot 84 := Op.move t14
  refine And.intro ?_ ?_
  · rw [← hf]; clear hf
    refine ⟨by decide +kernel, fun x v => by kernel_rfl, fun x V hV hdep K hK => ?_⟩
    have e19 : x 19 = .bool true := depOf hdep 19 (by decide +kernel)
    clear hdep
    refine run_guard 19 83 (x 19) (by kernel_rfl) (by rw [hops]; exact mon_dst_19) (by kernel_rfl) e19 ?_; clear hops
    unfold monFr
    go_simp
    refine kfit (hK _ _ (Below.refl _ V) rfl) ?_
    first | (simp only [monFr, Act.put, List.setIfInBounds_toArray, List.set_cons_zero, List.set_cons_succ, h5, h12, h14, h16, h6, h7, h8, h9, h11, h13, e19]; done) | (simp only [monFr, Act.put, List.setIfInBounds_toArray, List.set_cons_zero, List.set_cons_succ, h5, h12, h14, h16, h6, h7, h8, h9, h11, h13, e19]; rfl)
  -- 21: slot 85 := Op.pick t83 t84 (const (Value.bool false))
  refine And.intro ?_ ?_
  · rw [← hf]; clear hf
    refine ⟨by decide +kernel, fun x v => by kernel_rfl, fun x V hV hdep K hK => ?_⟩
    have e19 : x 19 = .bool true := depOf hdep 19 (by decide +kernel)
    have e20 : x 20 = .bool true := depOf hdep 20 (by decide +kernel)
    clear hdep
    refine run_bare (by kernel_rfl) ?_
    unfold monFr
    go_simp
    refine kfit (hK _ _ (Below.refl _ V) rfl) ?_
    first | (simp only [monFr, Act.put, List.setIfInBounds_toArray, List.set_cons_zero, List.set_cons_succ, h5, h12, h14, h16, h6, h7, h8, h9, h11, h13, e19, e20]; done) | (simp only [monFr, Act.put, List.setIfInBounds_toArray, List.set_cons_zero, List.set_cons_succ, h5, h12, h14, h16, h6, h7, h8, h9, h11, h13, e19, e20]; rfl)
  -- 22: slot 86 := Op.move t85
  refine And.intro ?_ ?_
  · rw [← hf]; clear hf
    refine ⟨by decide +kernel, fun x v => by kernel_rfl, fun x V hV hdep K hK => ?_⟩
    have e21 : x 21 = .bool true := depOf hdep 21 (by decide +kernel)
    clear hdep
    refine run_bare (by kernel_rfl) ?_
    unfold monFr
    go_simp
    refine kfit (hK _ _ (Below.refl _ V) rfl) ?_
    first | (simp only [monFr, Act.put, List.setIfInBounds_toArray, List.set_cons_zero, List.set_cons_succ, h5, h12, h14, h16, h6, h7, h8, h9, h11, h13, e21]; done) | (simp only [monFr, Act.put, List.setIfInBounds_toArray, List.set_cons_zero, List.set_cons_succ, h5, h12, h14, h16, h6, h7, h8, h9, h11, h13, e21]; rfl)
  -- 23: slot 87 := Op.load 33 t13
  refine And.intro ?_ ?_
  · rw [← hf]; clear hf
    refine ⟨by decide +kernel, fun x v => by kernel_rfl, fun x V hV hdep K hK => ?_⟩
    have e22 : x 22 = .bool true := depOf hdep 22 (by decide +kernel)
    clear hdep
    refine run_guard 22 86 (x 22) (by kernel_rfl) (by rw [hops]; exact mon_dst_22) (by kernel_rfl) e22 ?_; clear hops
    unfold monFr
    obtain ⟨⟨y0, y1, y2⟩, ⟨y3, y4, y5⟩, ⟨y6, y7, y8⟩, ⟨y9, y10, y11⟩, y12, y13⟩ := OQ.cells hV
    go_simp
    refine kfit (hK _ _ (Below.refl _ V) rfl) ?_
    first | (simp only [monFr, Act.put, List.setIfInBounds_toArray, List.set_cons_zero, List.set_cons_succ, h5, h12, h14, h16, h6, h7, h8, h9, h11, h13, e22]; done) | (simp only [monFr, Act.put, List.setIfInBounds_toArray, List.set_cons_zero, List.set_cons_succ, h5, h12, h14, h16, h6, h7, h8, h9, h11, h13, e22]; rfl)
  -- 24: slot 88 := Op.load 26 t6
  refine And.intro ?_ ?_
  · rw [← hf]; clear hf
    refine ⟨by decide +kernel, fun x v => by kernel_rfl, fun x V hV hdep K hK => ?_⟩
    have e22 : x 22 = .bool true := depOf hdep 22 (by decide +kernel)
    clear hdep
    refine run_guard 22 86 (x 22) (by kernel_rfl) (by rw [hops]; exact mon_dst_22) (by kernel_rfl) e22 ?_; clear hops
    unfold monFr
    obtain ⟨⟨y0, y1, y2⟩, ⟨y3, y4, y5⟩, ⟨y6, y7, y8⟩, ⟨y9, y10, y11⟩, y12, y13⟩ := OQ.cells hV
    go_simp
    refine kfit (hK _ _ (Below.refl _ V) rfl) ?_
    first | (simp only [monFr, Act.put, List.setIfInBounds_toArray, List.set_cons_zero, List.set_cons_succ, h5, h12, h14, h16, h6, h7, h8, h9, h11, h13, e22]; done) | (simp only [monFr, Act.put, List.setIfInBounds_toArray, List.set_cons_zero, List.set_cons_succ, h5, h12, h14, h16, h6, h7, h8, h9, h11, h13, e22]; rfl)
  -- 25: slot 89 := Op.call { value (Operand.func 12), args := #[t87, t88], argT
  refine And.intro ?_ ?_
  · rw [← hf]; clear hf
    refine ⟨by decide +kernel, fun x v => by kernel_rfl, fun x V hV hdep K hK => ?_⟩
    have e22 : x 22 = .bool true := depOf hdep 22 (by decide +kernel)
    have e23 : x 23 = .agg #[.slice sb k.length sd] := depOf hdep 23 (by decide +kernel)
    have e24 : x 24 = .agg #[.int .i64 (ta).kind, .string (ta).name, .slice wa (ta).kids.length wc] := depOf hdep 24 (by decide +kernel)
    clear hdep
    refine run_guard 22 86 (x 22) (by kernel_rfl) (by rw [hops]; exact mon_dst_22) (by kernel_rfl) e22 ?_; clear hops
    unfold monFr
    obtain ⟨HC5, HC14, HC16, HC25, HC27, HC35⟩ := HC.out
    clear HC5 HC14 HC16 HC27 HC35
    have H := HC25 V hV
    replace H := Lib.hid H; clear HC25
    go_simp
    go_at_call 12
    refine H.out.mono ?_
    rintro e Y ⟨⟨zu, zv, rfl, hq⟩, hb⟩; refine kfit (hK _ _ hb ⟨zu, zv, rfl, hq⟩) ?_
    first | (simp only [monFr, Act.put, List.setIfInBounds_toArray, List.set_cons_zero, List.set_cons_succ, h5, h12, h14, h16, h6, h7, h8, h9, h11, h13, e22, e23, e24]; done) | (simp only [monFr, Act.put, List.setIfInBounds_toArray, List.set_cons_zero, List.set_cons_succ, h5, h12, h14, h16, h6, h7, h8, h9, h11, h13, e22, e23, e24]; rfl)
  -- 26: slot 90 := Op.load 26 t7
  refine And.intro ?_ ?_
  · rw [← hf]; clear hf
    refine ⟨by decide +kernel, fun x v => by kernel_rfl, fun x V hV hdep K hK => ?_⟩
    have e22 : x 22 = .bool true := depOf hdep 22 (by decide +kernel)
    clear hdep
    refine run_guard 22 86 (x 22) (by kernel_rfl) (by rw [hops]; exact mon_dst_22) (by kernel_rfl) e22 ?_; clear hops
    unfold monFr
    obtain ⟨⟨y0, y1, y2⟩, ⟨y3, y4, y5⟩, ⟨y6, y7, y8⟩, ⟨y9, y10, y11⟩, y12, y13⟩ := OQ.cells hV
    go_simp
    refine kfit (hK _ _ (Below.refl _ V) rfl) ?_
    first | (simp only [monFr, Act.put, List.setIfInBounds_toArray, List.set_cons_zero, List.set_cons_succ, h5, h12, h14, h16, h6, h7, h8, h9, h11, h13, e22]; done) | (simp only [monFr, Act.put, List.setIfInBounds_toArray, List.set_cons_zero, List.set_cons_succ, h5, h12, h14, h16, h6, h7, h8, h9, h11, h13, e22]; rfl)
  -- 27: slot 91 := Op.call { value (Operand.func 11), args := #[t89, t90], argT
  refine And.intro ?_ ?_
  · rw [← hf]; clear hf
    refine ⟨by decide +kernel, fun x v => by kernel_rfl, fun x V hV hdep K hK => ?_⟩
    have e22 : x 22 = .bool true := depOf hdep 22 (by decide +kernel)
    obtain ⟨zu25, zv25, e25, d25⟩ : ∃ zu25 zv25, x 25 = .agg #[.int .i64 (tx).kind, .string (tx).name, .slice zu25 (tx).kids.length zv25] ∧ TysAt V (.slice zu25 (tx).kids.length zv25) (tx).kids := depOf hdep 25 (by decide +kernel)
    have e26 : x 26 = .agg #[.int .i64 (tx).kind, .string (tx).name, .slice xa (tx).kids.length xc] := depOf hdep 26 (by decide +kernel)
    clear hdep
    refine run_guard 22 86 (x 22) (by kernel_rfl) (by rw [hops]; exact mon_dst_22) (by kernel_rfl) e22 ?_; clear hops
    unfold monFr
    obtain ⟨HC5, HC14, HC16, HC25, HC27, HC35⟩ := HC.out
    clear HC5 HC14 HC16 HC25 HC35
    have H := HC27 V hV _ _ d25
    replace H := Lib.hid H; clear HC27
    go_simp
    go_at_call 11
    refine H.out.mono ?_
    rintro e Y ⟨rfl, hb⟩; refine kfit (hK _ _ hb rfl) ?_
    first | (simp only [monFr, Act.put, List.setIfInBounds_toArray, List.set_cons_zero, List.set_cons_succ, h5, h12, h14, h16, h6, h7, h8, h9, h11, h13, e22, e25, e26]; done) | (simp only [monFr, Act.put, List.setIfInBounds_toArray, List.set_cons_zero, List.set_cons_succ, h5, h12, h14, h16, h6, h7, h8, h9, h11, h13, e22, e25, e26]; rfl)
  -- 28: slot 92 := Op.pick t86 t91 (const (Value.bool false))
  refine And.intro ?_ ?_
  · rw [← hf]; clear hf
    refine ⟨by decide +kernel, fun x v => by kernel_rfl, fun x V hV hdep K hK => ?_⟩
    have e22 : x 22 = .bool true := depOf hdep 22 (by decide +kernel)
    have e27 : x 27 = .bool true := depOf hdep 27 (by decide +kernel)
    clear hdep
    refine run_bare (by kernel_rfl) ?_
    unfold monFr
    go_simp
    refine kfit (hK _ _ (Below.refl _ V) rfl) ?_
    first | (simp only [monFr, Act.put, List.setIfInBounds_toArray, List.set_cons_zero, List.set_cons_succ, h5, h12, h14, h16, h6, h7, h8, h9, h11, h13, e22, e27]; done) | (simp only [monFr, Act.put, List.setIfInBounds_toArray, List.set_cons_zero, List.set_cons_succ, h5, h12, h14, h16, h6, h7, h8, h9, h11, h13, e22, e27]; rfl)
  -- 29: slot 93 := Op.move t92
  refine And.intro ?_ ?_
  · rw [← hf]; clear hf
    refine ⟨by decide +kernel, fun x v => by kernel_rfl, fun x V hV hdep K hK => ?_⟩
    have e28 : x 28 = .bool true := depOf hdep 28 (by decide +kernel)
    clear hdep
    refine run_bare (by kernel_rfl) ?_
    unfold monFr
    go_simp
    refine kfit (hK _ _ (Below.refl _ V) rfl) ?_
    first | (simp only [monFr, Act.put, List.setIfInBounds_toArray, List.set_cons_zero, List.set_cons_succ, h5, h12, h14, h16, h6, h7, h8, h9, h11, h13, e28]; done) | (simp only [monFr, Act.put, List.setIfInBounds_toArray, List.set_cons_zero, List.set_cons_succ, h5, h12, h14, h16, h6, h7, h8, h9, h11, h13, e28]; rfl)
  -- 30: slot 94 := Op.move t16
  refine And.intro ?_ ?_
  · rw [← hf]; clear hf
    refine ⟨by decide +kernel, fun x v => by kernel_rfl, fun x V hV hdep K hK => ?_⟩
    have e29 : x 29 = .bool true := depOf hdep 29 (by decide +kernel)
    clear hdep
    refine run_guard 29 93 (x 29) (by kernel_rfl) (by rw [hops]; exact mon_dst_29) (by kernel_rfl) e29 ?_; clear hops
    unfold monFr
    go_simp
    refine kfit (hK _ _ (Below.refl _ V) rfl) ?_
    first | (simp only [monFr, Act.put, List.setIfInBounds_toArray, List.set_cons_zero, List.set_cons_succ, h5, h12, h14, h16, h6, h7, h8, h9, h11, h13, e29]; done) | (simp only [monFr, Act.put, List.setIfInBounds_toArray, List.set_cons_zero, List.set_cons_succ, h5, h12, h14, h16, h6, h7, h8, h9, h11, h13, e29]; rfl)
  -- 31: slot 95 := Op.unOp UnOp.not 4 t94
  refine And.intro ?_ ?_
  · rw [← hf]; clear hf
    refine ⟨by decide +kernel, fun x v => by kernel_rfl, fun x V hV hdep K hK => ?_⟩
    have e29 : x 29 = .bool true := depOf hdep 29 (by decide +kernel)
    have e30 : x 30 = .bool false := depOf hdep 30 (by decide +kernel)
    clear hdep
    refine run_guard 29 93 (x 29) (by kernel_rfl) (by rw [hops]; exact mon_dst_29) (by kernel_rfl) e29 ?_; clear hops
    unfold monFr
    go_simp
    refine kfit (hK _ _ (Below.refl _ V) rfl) ?_
    first | (simp only [monFr, Act.put, List.setIfInBounds_toArray, List.set_cons_zero, List.set_cons_succ, h5, h12, h14, h16, h6, h7, h8, h9, h11, h13, e29, e30]; done) | (simp only [monFr, Act.put, List.setIfInBounds_toArray, List.set_cons_zero, List.set_cons_succ, h5, h12, h14, h16, h6, h7, h8, h9, h11, h13, e29, e30]; rfl)
  -- 32: slot 96 := Op.pick t93 t95 (const (Value.bool false))
  refine And.intro ?_ ?_
  · rw [← hf]; clear hf
    refine ⟨by decide +kernel, fun x v => by kernel_rfl, fun x V hV hdep K hK => ?_⟩
    have e29 : x 29 = .bool true := depOf hdep 29 (by decide +kernel)
    have e31 : x 31 = .bool true := depOf hdep 31 (by decide +kernel)
    clear hdep
    refine run_bare (by kernel_rfl) ?_
    unfold monFr
    go_simp
    refine kfit (hK _ _ (Below.refl _ V) rfl) ?_
    first | (simp only [monFr, Act.put, List.setIfInBounds_toArray, List.set_cons_zero, List.set_cons_succ, h5, h12, h14, h16, h6, h7, h8, h9, h11, h13, e29, e31]; done) | (simp only [monFr, Act.put, List.setIfInBounds_toArray, List.set_cons_zero, List.set_cons_succ, h5, h12, h14, h16, h6, h7, h8, h9, h11, h13, e29, e31]; rfl)
  -- 33: slot 97 := Op.move t96
  refine And.intro ?_ ?_
  · rw [← hf]; clear hf
    refine ⟨by decide +kernel, fun x v => by kernel_rfl, fun x V hV hdep K hK => ?_⟩
    have e32 : x 32 = .bool true := depOf hdep 32 (by decide +kernel)
    clear hdep
    refine run_bare (by kernel_rfl) ?_
    unfold monFr
    go_simp
    refine kfit (hK _ _ (Below.refl _ V) rfl) ?_
    first | (simp only [monFr, Act.put, List.setIfInBounds_toArray, List.set_cons_zero, List.set_cons_succ, h5, h12, h14, h16, h6, h7, h8, h9, h11, h13, e32]; done) | (simp only [monFr, Act.put, List.setIfInBounds_toArray, List.set_cons_zero, List.set_cons_succ, h5, h12, h14, h16, h6, h7, h8, h9, h11, h13, e32]; rfl)
  -- 34: slot 98 := Op.load 26 t9
  refine And.intro ?_ ?_
  · rw [← hf]; clear hf
    refine ⟨by decide +kernel, fun x v => by kernel_rfl, fun x V hV hdep K hK => ?_⟩
    have e33 : x 33 = .bool true := depOf hdep 33 (by decide +kernel)
    clear hdep
    refine run_guard 33 97 (x 33) (by kernel_rfl) (by rw [hops]; exact mon_dst_33) (by kernel_rfl) e33 ?_; clear hops
    unfold monFr
    obtain ⟨⟨y0, y1, y2⟩, ⟨y3, y4, y5⟩, ⟨y6, y7, y8⟩, ⟨y9, y10, y11⟩, y12, y13⟩ := OQ.cells hV
    go_simp
    refine kfit (hK _ _ (Below.refl _ V) rfl) ?_
    first | (simp only [monFr, Act.put, List.setIfInBounds_toArray, List.set_cons_zero, List.set_cons_succ, h5, h12, h14, h16, h6, h7, h8, h9, h11, h13, e33]; done) | (simp only [monFr, Act.put, List.setIfInBounds_toArray, List.set_cons_zero, List.set_cons_succ, h5, h12, h14, h16, h6, h7, h8, h9, h11, h13, e33]; rfl)
  -- 35: slot 99 := Op.call { value (Operand.func 15), args := #[t98], argTypes 
  refine And.intro ?_ ?_
  · rw [← hf]; clear hf
    refine ⟨by decide +kernel, fun x v => by kernel_rfl, fun x V hV hdep K hK => ?_⟩
    have e33 : x 33 = .bool true := depOf hdep 33 (by decide +kernel)
    have e34 : x 34 = .agg #[.int .i64 (tw).kind, .string (tw).name, .slice za (tw).kids.length zc] := depOf hdep 34 (by decide +kernel)
    clear hdep
    refine run_guard 33 97 (x 33) (by kernel_rfl) (by rw [hops]; exact mon_dst_33) (by kernel_rfl) e33 ?_; clear hops
    unfold monFr
    obtain ⟨HC5, HC14, HC16, HC25, HC27, HC35⟩ := HC.out
    clear HC5 HC14 HC16 HC25 HC27
    have H := HC35 V hV
    replace H := Lib.hid H; clear HC35
    go_simp
    go_at_call 15
    refine H.out.mono ?_
    rintro e Y ⟨rfl, hb⟩; refine kfit (hK _ _ hb rfl) ?_
    first | (simp only [monFr, Act.put, List.setIfInBounds_toArray, List.set_cons_zero, List.set_cons_succ, h5, h12, h14, h16, h6, h7, h8, h9, h11, h13, e33, e34]; done) | (simp only [monFr, Act.put, List.setIfInBounds_toArray, List.set_cons_zero, List.set_cons_succ, h5, h12, h14, h16, h6, h7, h8, h9, h11, h13, e33, e34]; rfl)
  -- 36: slot 100 := Op.binOp BinOp.eql 3 t99 (const (3:i64)) 3
  refine And.intro ?_ ?_
  · rw [← hf]; clear hf
    refine ⟨by decide +kernel, fun x v => by kernel_rfl, fun x V hV hdep K hK => ?_⟩
    have e33 : x 33 = .bool true := depOf hdep 33 (by decide +kernel)
    have e35 : x 35 = .int .i64 3 := depOf hdep 35 (by decide +kernel)
    clear hdep
    refine run_guard 33 97 (x 33) (by kernel_rfl) (by rw [hops]; exact mon_dst_33) (by kernel_rfl) e33 ?_; clear hops
    unfold monFr
    go_simp
    refine kfit (hK _ _ (Below.refl _ V) rfl) ?_
    first | (simp only [monFr, Act.put, List.setIfInBounds_toArray, List.set_cons_zero, List.set_cons_succ, h5, h12, h14, h16, h6, h7, h8, h9, h11, h13, e33, e35]; done) | (simp only [monFr, Act.put, List.setIfInBounds_toArray, List.set_cons_zero, List.set_cons_succ, h5, h12, h14, h16, h6, h7, h8, h9, h11, h13, e33, e35]; rfl)
  -- 37: slot 101 := Op.pick t97 t100 (const (Value.bool false))
  refine And.intro ?_ ?_
  · rw [← hf]; clear hf
    refine ⟨by decide +kernel, fun x v => by kernel_rfl, fun x V hV hdep K hK => ?_⟩
    have e33 : x 33 = .bool true := depOf hdep 33 (by decide +kernel)
    have e36 : x 36 = .bool true := depOf hdep 36 (by decide +kernel)
    clear hdep
    refine run_bare (by kernel_rfl) ?_
    unfold monFr
    go_simp
    refine kfit (hK _ _ (Below.refl _ V) rfl) ?_
    first | (simp only [monFr, Act.put, List.setIfInBounds_toArray, List.set_cons_zero, List.set_cons_succ, h5, h12, h14, h16, h6, h7, h8, h9, h11, h13, e33, e36]; done) | (simp only [monFr, Act.put, List.setIfInBounds_toArray, List.set_cons_zero, List.set_cons_succ, h5, h12, h14, h16, h6, h7, h8, h9, h11, h13, e33, e36]; rfl)
  -- 38: slot 4 := Op.assign t101
  refine And.intro ?_ ?_
  · rw [← hf]; clear hf
    refine ⟨by decide +kernel, fun x v => by kernel_rfl, fun x V hV hdep K hK => ?_⟩
    have e37 : x 37 = .bool true := depOf hdep 37 (by decide +kernel)
    clear hdep
    refine run_bare (by kernel_rfl) ?_
    unfold monFr
    go_simp
    refine kfit (hK _ _ (Below.refl _ V) rfl) ?_
    first | (simp only [monFr, Act.put, List.setIfInBounds_toArray, List.set_cons_zero, List.set_cons_succ, h5, h12, h14, h16, h6, h7, h8, h9, h11, h13, e37]; done) | (simp only [monFr, Act.put, List.setIfInBounds_toArray, List.set_cons_zero, List.set_cons_succ, h5, h12, h14, h16, h6, h7, h8, h9, h11, h13, e37]; rfl)
  exact trivial
theorem mon_here {w : World} {b6 b7 b8 b9 b11 b13 : Nat} {ta tx ty tw : T} {wa xa ya za sa sb : Option Addr} {wc xc yc zc sc sd : Nat} {l k : List PR}
    (HC5 : ∀ V, OQ w b6 b7 b8 b9 b11 b13 ta tx ty tw wa xa ya za wc xc yc zc sa sc l sb sd k V → Calls Try.prog 11 #[.agg #[.int .i64 (tx).kind, .string (tx).name, .slice xa (tx).kids.length xc], .agg #[.int .i64 (ty).kind, .string (ty).name, .slice ya (ty).kids.length yc]] V fun e Y => e = .returned (.bool true) ∧ Below V.heap.size V Y)
    (HC14 : ∀ V, OQ w b6 b7 b8 b9 b11 b13 ta tx ty tw wa xa ya za wc xc yc zc sa sc l sb sd k V → Calls Try.prog 12 #[.agg #[.slice sa l.length sc], .agg #[.int .i64 (ta).kind, .string (ta).name, .slice wa (ta).kids.length wc]] V fun e Y => (∃ zu zv, e = .returned (.agg #[.int .i64 (tx).kind, .string (tx).name, .slice zu (tx).kids.length zv]) ∧ TysAt Y (.slice zu (tx).kids.length zv) (tx).kids) ∧ Below V.heap.size V Y)
    (HC16 : ∀ V, OQ w b6 b7 b8 b9 b11 b13 ta tx ty tw wa xa ya za wc xc yc zc sa sc l sb sd k V → ∀ zu14, ∀ zv14, TysAt V (.slice zu14 (tx).kids.length zv14) (tx).kids → Calls Try.prog 11 #[.agg #[.int .i64 (tx).kind, .string (tx).name, .slice zu14 (tx).kids.length zv14], .agg #[.int .i64 (tx).kind, .string (tx).name, .slice xa (tx).kids.length xc]] V fun e Y => e = .returned (.bool true) ∧ Below V.heap.size V Y)
    (HC25 : ∀ V, OQ w b6 b7 b8 b9 b11 b13 ta tx ty tw wa xa ya za wc xc yc zc sa sc l sb sd k V → Calls Try.prog 12 #[.agg #[.slice sb k.length sd], .agg #[.int .i64 (ta).kind, .string (ta).name, .slice wa (ta).kids.length wc]] V fun e Y => (∃ zu zv, e = .returned (.agg #[.int .i64 (tx).kind, .string (tx).name, .slice zu (tx).kids.length zv]) ∧ TysAt Y (.slice zu (tx).kids.length zv) (tx).kids) ∧ Below V.heap.size V Y)
    (HC27 : ∀ V, OQ w b6 b7 b8 b9 b11 b13 ta tx ty tw wa xa ya za wc xc yc zc sa sc l sb sd k V → ∀ zu25, ∀ zv25, TysAt V (.slice zu25 (tx).kids.length zv25) (tx).kids → Calls Try.prog 11 #[.agg #[.int .i64 (tx).kind, .string (tx).name, .slice zu25 (tx).kids.length zv25], .agg #[.int .i64 (tx).kind, .string (tx).name, .slice xa (tx).kids.length xc]] V fun e Y => e = .returned (.bool true) ∧ Below V.heap.size V Y)
    (HC35 : ∀ V, OQ w b6 b7 b8 b9 b11 b13 ta tx ty tw wa xa ya za wc xc yc zc sa sc l sb sd k V → Calls Try.prog 15 #[.agg #[.int .i64 (tw).kind, .string (tw).name, .slice za (tw).kids.length zc]] V fun e Y => e = .returned (.int .i64 3) ∧ Below V.heap.size V Y)
    {Q : Exit → Act → World → Prop} {ops : Array Oper} {a : Act} (X : World) (hops : ops = monOps)
    (h5 : a.tmps.getD 5 undef = .bool true) (h12 : a.tmps.getD 12 undef = .bool true) (h14 : a.tmps.getD 14 undef = .bool true) (h16 : a.tmps.getD 16 undef = .bool false) (h6 : a.tmps.getD 6 undef = .pointer (some ⟨b6, 0, none⟩)) (h7 : a.tmps.getD 7 undef = .pointer (some ⟨b7, 0, none⟩)) (h8 : a.tmps.getD 8 undef = .pointer (some ⟨b8, 0, none⟩)) (h9 : a.tmps.getD 9 undef = .pointer (some ⟨b9, 0, none⟩)) (h11 : a.tmps.getD 11 undef = .pointer (some ⟨b11, 0, none⟩)) (h13 : a.tmps.getD 13 undef = .pointer (some ⟨b13, 0, none⟩))
    (ha : a = monFr (fun j => a.tmps.getD j undef) a.defers (fun i => a.tmps.getD (if i = 38 then 4 else 64 + i) undef)) (hS : OQ w b6 b7 b8 b9 b11 b13 ta tx ty tw wa xa ya za wc xc yc zc sa sc l sb sd k X.drew)
    (hfin : ∀ x V, OQ w b6 b7 b8 b9 b11 b13 ta tx ty tw wa xa ya za wc xc yc zc sa sc l sb sd k V → x 38 = .bool true → Q .normal (monFr (fun j => a.tmps.getD j undef) a.defers x) V) : (Code.region 14 ops true).wp Try.prog Q a X :=
  cast (congrArg (fun z => (Code.region 14 ops true).wp Try.prog Q z X) ha.symm) (mon_region (b := fun j => a.tmps.getD j undef) (d := a.defers) h5 h12 h14 h16 h6 h7 h8 h9 h11 h13 HC5 HC14 HC16 HC25 HC27 HC35 hops _ X hS hfin)
end Go.Proofs.Ythpphjkoiipkkaa
