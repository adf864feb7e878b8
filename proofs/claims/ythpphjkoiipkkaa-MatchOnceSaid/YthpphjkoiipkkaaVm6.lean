/- Merged: SbOthersR, SbPairs, SbThen, UfList, RegLast, SbThenA, TyHas, UfGood, SbRGet. -/
import Derived.Test.YthpphjkoiipkkaaVm5
import Derived.Deep.RegionLaw
import Derived.Test.YthpphjkoiipkkaaVm1
import Derived.Test.YthpphjkoiipkkaaVm2
/- SubstOthers: its last statement, a region of 42 operations that draws its order, by an invariant. (Made by a program.) -/
namespace Go.Proofs.Ythpphjkoiipkkaa
open Go.RowKit Go.Sort Go.Lib
attribute [local go_sem] Oper.semAt_some

def regionIn : Nat → Code → Array Oper
  | n, .region id ops _ => if id == n then ops else #[]
  | n, .seq a b => regionIn n a ++ regionIn n b
  | n, .cond _ a b => regionIn n a ++ regionIn n b
  | n, .block _ b => regionIn n b
  | n, .loop b => regionIn n b
  | n, .rangeFunc _ _ a b => regionIn n a ++ regionIn n b
  | n, .scope b => regionIn n b
  | _, _ => #[]
theorem depOf {o : Oper} {Vals : Nat → Value → World → Prop} {x : Nat → Value} {V : World} (h : ∀ e ∈ o.after, Region.binds .any e = true → Vals e.on (x e.on) V) (j : Nat)
    (hj : (o.after.any fun e => Region.binds .any e && e.on == j) = true) : Vals j (x j) V := by
  rw [Array.any_eq_true'] at hj
  obtain ⟨e, he, hj⟩ := hj
  simp only [Bool.and_eq_true, beq_iff_eq] at hj
  have := h e he hj.1
  rw [hj.2] at this; exact this
theorem kfit {K : Act → World → Prop} {a a' : Act} {w : World} (h : K a w) (e : a = a') : K a' w := e ▸ h
theorem run_bare {P : Program} {o : Oper} {ops : Array Oper} {a : Act} {w : World} {K : Act → World → Prop} {Q : Exit → Act → World → Prop} {C : Prop} (hg : o.guard = none) (h : Oper.wp P o a w K Q) :
    if Region.wanted o (yielded ops a.tmps) = true then Oper.wp P o a w K Q else C := by
  rw [if_pos (by simp [Region.wanted, hg])]; exact h
theorem run_guard {P : Program} {o : Oper} {ops : Array Oper} {a : Act} {w : World} {K : Act → World → Prop} {Q : Exit → Act → World → Prop} {C : Prop} (g k : Nat) (v : Value) (hg : o.guard = some (g, true))
    (hk : (ops[g]?).bind (·.dst) = some k) (hv : a.tmps[k]? = some v) (e : v = .bool true) (h : Oper.wp P o a w K Q) :
    if Region.wanted o (yielded ops a.tmps) = true then Oper.wp P o a w K Q else C := by
  rw [if_pos (by simp [Region.wanted, hg, yielded, hk, hv, e])]; exact h
theorem below_a (X : World) (o : Obj) : Below X.heap.size X (X.alloc o) := (Below.refl _ X).alloc (Nat.le_refl _) o
theorem below_d (X : World) : Below X.heap.size X X.drew := (Below.refl _ X).drew

def othFr (b : Nat → Value) (d : List Deferred) (x : Nat → Value) : Act := { tmps := #[b 0, b 1, x 41, b 3, b 4, b 5, b 6, b 7, b 8, b 9, b 10, b 11, b 12, b 13, b 14, b 15, b 16, b 17, b 18, b 19, b 20, b 21, b 22, b 23, b 24, b 25, b 26, b 27, b 28, b 29, b 30, b 31, b 32, b 33, b 34, b 35, b 36, b 37, b 38, b 39, b 40, b 41, x 0, x 1, x 2, x 3, x 4, x 5, x 6, x 7, x 8, x 9, x 10, x 11, x 12, x 13, x 14, x 15, x 16, x 17, x 18, x 19, x 20, x 21, x 22, x 23, x 24, x 25, x 26, x 27, x 28, x 29, x 30, x 31, x 32, x 33, x 34, x 35, x 36, x 37, x 38, x 39, x 40], defers := d }

def othVals (t sw r1 : T) (pa pw : Option Addr) (ca cw : Nat) (sv uv frv tov : Value) (ts : Nat) (i : Nat) (v : Value) (V : World) : Prop :=
  match i with
  | 0 => v = .bool true
  | 1 => v = .bool true
  | 2 => v = .agg #[sv]
  | 3 => v = .agg #[.int .i64 (sw).kind, .string (sw).name, .slice pw (sw).kids.length cw]
  | 4 => ∃ za zc, v = .agg #[.int .i64 (t).kind, .string (t).name, .slice za (t).kids.length zc] ∧ TysAt V (.slice za (t).kids.length zc) (t).kids
  | 5 => v = .agg #[.int .i64 (t).kind, .string (t).name, .slice pa (t).kids.length ca]
  | 6 => v = .bool true
  | 7 => v = .bool true
  | 8 => v = .bool true
  | 9 => v = .agg #[uv]
  | 10 => v = .agg #[.int .i64 (t).kind, .string (t).name, .slice pa (t).kids.length ca]
  | 11 => ∃ za zc, v = .agg #[.int .i64 (t).kind, .string (t).name, .slice za (t).kids.length zc] ∧ TysAt V (.slice za (t).kids.length zc) (t).kids
  | 12 => v = .agg #[.int .i64 (t).kind, .string (t).name, .slice pa (t).kids.length ca]
  | 13 => v = .bool true
  | 14 => v = .bool true
  | 15 => v = .bool true
  | 16 => v = .agg #[.int .i64 (t).kind, .string (t).name, .slice pa (t).kids.length ca]
  | 17 => v = frv
  | 18 => v = tov
  | 19 => ∃ za zc, v = .agg #[.int .i64 (r1).kind, .string (r1).name, .slice za (r1).kids.length zc] ∧ TysAt V (.slice za (r1).kids.length zc) (r1).kids
  | 20 => v = tov
  | 21 => v = frv
  | 22 => ∃ za zc, v = .agg #[.int .i64 (t).kind, .string (t).name, .slice za (t).kids.length zc] ∧ TysAt V (.slice za (t).kids.length zc) (t).kids
  | 23 => v = .agg #[.int .i64 (t).kind, .string (t).name, .slice pa (t).kids.length ca]
  | 24 => v = .bool true
  | 25 => v = .bool true
  | 26 => v = .bool true
  | 27 => v = .agg #[.int .i64 (t).kind, .string (t).name, .slice pa (t).kids.length ca]
  | 28 => ∃ zk, v = .slice (some ⟨zk, 0, none⟩) 2 2 ∧ StrsP (.slice (some ⟨zk, 0, none⟩) 2 2) [⟨#[97]⟩, ⟨#[98]⟩] V
  | 29 => ∃ zk, v = .slice (some ⟨zk, 0, none⟩) 2 2 ∧ StrsP (.slice (some ⟨zk, 0, none⟩) 2 2) [⟨#[98]⟩, ⟨#[97]⟩] V
  | 30 => ∃ za zc, v = .agg #[.int .i64 (sw).kind, .string (sw).name, .slice za (sw).kids.length zc] ∧ TysAt V (.slice za (sw).kids.length zc) (sw).kids
  | 31 => v = .agg #[.int .i64 (sw).kind, .string (sw).name, .slice pw (sw).kids.length cw]
  | 32 => v = .bool true
  | 33 => v = .bool true
  | 34 => v = .bool true
  | 35 => v = .agg #[.int .i64 (sw).kind, .string (sw).name, .slice pw (sw).kids.length cw]
  | 36 => v = .int .i64 (ts : Nat)
  | 37 => v = .agg #[.int .i64 (t).kind, .string (t).name, .slice pa (t).kids.length ca]
  | 38 => v = .int .i64 (ts : Nat)
  | 39 => v = .bool true
  | 40 => v = .bool true
  | 41 => v = .bool true
  | _ => True

theorem othVals_keep {t sw r1 : T} {pa pw : Option Addr} {ca cw : Nat} {sv uv frv tov : Value} {ts : Nat} (i : Nat) (v : Value) (V Y : World) (h : othVals t sw r1 pa pw ca cw sv uv frv tov ts i v V) (hb : Below V.heap.size V Y) : othVals t sw r1 pa pw ca cw sv uv frv tov ts i v Y := by
  unfold othVals at *
  split at h <;> first
    | exact h
    | (obtain ⟨za, zc, e, h⟩ := h; exact ⟨za, zc, e, h.keep (KeepT.of_below hb)⟩)
    | (obtain ⟨zk, e, h⟩ := h; exact ⟨zk, e, h.below hb⟩)

end Go.Proofs.Ythpphjkoiipkkaa
/- The law's pairs, made of numbers. -/
namespace Go.Proofs.Ythpphjkoiipkkaa
open Go.RowKit Go.Sort Go.Lib
attribute [local go_sem] Oper.semAt_some

theorem Try.infoRefPair : (Try.prog.info? 63).map (fun i => (i.zero, i.size, i.bytes)) = some (some (.agg zeroP), 4, 64) := by kernel_rfl
/-- The cells of a row of pairs. -/
def cellsP (d : List PR) : List Value := d.flatMap encP
theorem cellsP_snoc (d : List PR) (x : PR) : cellsP (d ++ [x]) = cellsP d ++ encP x := by simp [cellsP]
theorem cellsP_len : ∀ d : List PR, (cellsP d).length = d.length * 4
  | [] => rfl
  | x :: d => by
    have := cellsP_len d
    simp only [cellsP, List.flatMap_cons, List.length_append, encP_len, List.length_cons] at this ⊢
    omega
theorem cellsP_at (d : List PR) (i j : Nat) (hi : i < d.length) (hj : j < 4) : (cellsP d)[i * 4 + j]? = (encP (d.getD i noP))[j]? := by
  induction d generalizing i with
  | nil => cases hi
  | cons a r ih =>
    cases i with
    | zero =>
      have : (encP a ++ cellsP r)[j]? = (encP a)[j]? := List.getElem?_append_left (by rw [encP_len]; omega)
      simpa [cellsP] using this
    | succ i =>
      have e : (i + 1) * 4 + j = (encP a).length + (i * 4 + j) := by rw [encP_len]; omega
      have h1 : (encP a ++ cellsP r)[(encP a).length + (i * 4 + j)]? = (cellsP r)[i * 4 + j]? := by rw [List.getElem?_append_right (by omega)]; congr 1; omega
      have h2 := ih i (by simpa using hi)
      rw [e]
      simpa [cellsP, List.getD] using h1.trans h2
/-- As RowP, whatever the row's type is. -/
def RowG (T : TypeId) (g : Nat) (l : List PR) (w : World) : Prop :=
  ∃ cs, w.heap[g]? = some (.cells cs T (0, 0)) ∧ l.length * 4 ≤ cs.size ∧ ∀ i, i < l.length →
    cs[i * 4]? = some (.string (l.getD i noP).n) ∧ cs[i * 4 + 1]? = some (.int .i64 (l.getD i noP).t.kind) ∧ cs[i * 4 + 2]? = some (.string (l.getD i noP).t.name) ∧ cs[i * 4 + 3]? = some (.slice (l.getD i noP).a (l.getD i noP).t.kids.length (l.getD i noP).c)
theorem RowG.row {g : Nat} {l : List PR} {w : World} (h : RowG 68 g l w) : RowP g l w := h
/-- A list of pairs as the law makes it. -/
def GivenG (T : TypeId) (v : Value) (d : List PR) (w : World) : Prop := (d = [] ∧ v = .slice none 0 0) ∨ (d ≠ [] ∧ ∃ g cap, v = .slice (some ⟨g, 0, none⟩) d.length cap ∧ RowG T g d w)
theorem given_of_row {T : TypeId} {W : World} {base : Nat} {v : Value} {d : List PR} (h : W.ownsRow base T 4 v d.length (cellsP d)) (h0 : d = [] → v = .slice none 0 0) : GivenG T v d W := by
  by_cases hd : d = []
  · exact .inl ⟨hd, h0 hd⟩
  · rcases h.2 with ⟨rfl, hn0⟩ | ⟨g, cap, cur, rfl, _, hg, hc, hm, hcs, htk⟩
    · exact absurd (List.length_eq_zero_iff.1 hn0) hd
    · refine .inr ⟨hd, g, cap, rfl, cur, hg, by rw [hcs]; exact Nat.mul_le_mul_right 4 hc, fun i hi => ?_⟩
      have cell : ∀ j, j < 4 → cur[i * 4 + j]? = (encP (d.getD i noP))[j]? := fun j hj => by
        have hlt : i * 4 + j < d.length * 4 := by omega
        rw [← cellsP_at d i j hi hj, ← htk, List.getElem?_take, if_pos hlt, Array.getElem?_toList]
      exact ⟨(cell 0 (by omega)).trans rfl, (cell 1 (by omega)).trans rfl, (cell 2 (by omega)).trans rfl, (cell 3 (by omega)).trans rfl⟩
theorem own_keep {w w' : World} {p base : Nat} {e : TypeId} {size : Nat} {v : Value} {n : Nat} {xs : List Value} (h : w.ownsRow base e size v n xs) (hk : ∀ k o, w.heap[k]? = some o → k ≠ p → w'.heap[k]? = some o) (hp : p < base) : w'.ownsRow base e size v n xs := by
  refine ⟨h.1, ?_⟩
  rcases h.2 with h | ⟨g, cap, cur, rfl, hb, hg, r⟩
  · exact .inl h
  · exact .inr ⟨g, cap, cur, rfl, hb, hk g _ hg (by omega), r⟩
theorem KeepT.grown {W W' : World} {base : Nat} {e : TypeId} {size : Nat} {v : Value} {n : Nat} {xs : List Value} (hg : W.grownBy W' v.ownBlock) (h : W.ownsRow base e size v n xs) (he : e ≠ 26) : KeepT W W' := by
  intro k cs fz hk
  refine (hg.block k (Array.getElem?_eq_some_iff.1 hk).1 fun ee => ?_).trans hk
  rcases h.2 with ⟨rfl, _⟩ | ⟨g, cap, cur, rfl, _, hgb, _⟩
  · cases ee
  · obtain rfl : k = g := by simpa [Value.ownBlock] using ee
    rw [hk] at hgb
    cases hgb
    exact he rfl
theorem row_val {W : World} {base : Nat} {e : TypeId} {size : Nat} {v : Value} {n : Nat} {xs : List Value} (h : W.ownsRow base e size v n xs) : ∃ a c, v = .slice a n c := by
  rcases h.2 with ⟨rfl, rfl⟩ | ⟨g, cap, _, rfl, _⟩
  · exact ⟨_, _, rfl⟩
  · exact ⟨_, _, rfl⟩
theorem cell_new4 (w : World) (x y z u : Value) (t : TypeId) : ∀ j v, [x, y, z, u][j]? = some v → (w.alloc (.cells #[x, y, z, u] t)).cell? ((⟨w.heap.size, 0, none⟩ : Addr).add j) = some v := by
  intro j v hv
  have hadd : (⟨w.heap.size, 0, none⟩ : Addr).add j = ⟨w.heap.size, j, none⟩ := by unfold Addr.add; split <;> simp_all
  rw [hadd]
  have := alloc_new w (.cells #[x, y, z, u] t)
  simp only [World.cell?, this]
  match j, hv with
  | 0, hv => simpa using hv
  | 1, hv => simpa using hv
  | 2, hv => simpa using hv
  | 3, hv => simpa using hv
  | n + 4, hv => simp at hv

theorem rows_apart {W : World} {b1 b2 : Nat} {e1 e2 : TypeId} {s1 s2 n1 n2 : Nat} {v1 v2 : Value} {x1 x2 : List Value} (h1 : W.ownsRow b1 e1 s1 v1 n1 x1) (h2 : W.ownsRow b2 e2 s2 v2 n2 x2) (he : e1 ≠ e2) : v1.ownBlock = none ∨ v1.ownBlock ≠ v2.ownBlock := by
  rcases h1.2 with ⟨rfl, _⟩ | ⟨g, cap, cur, rfl, _, hg, _⟩
  · exact .inl rfl
  · refine .inr fun e => ?_
    rcases h2.2 with ⟨rfl, _⟩ | ⟨g', cap', cur', rfl, _, hg', _⟩
    · cases e
    · obtain rfl : g = g' := by simpa [Value.ownBlock] using e
      rw [hg] at hg'
      cases hg'
      exact he rfl
theorem cell_new4' (w : World) (o : Obj) (x y z u : Value) (t : TypeId) : ∀ j v, [x, y, z, u][j]? = some v → ((w.alloc o).alloc (.cells #[x, y, z, u] t)).cell? ((⟨w.heap.size + 1, 0, none⟩ : Addr).add j) = some v := by
  have := cell_new4 (w.alloc o) x y z u t
  simpa using this
/-- What the law's pairs hand back. -/
def MadeL (B p : Nat) (a : Option Addr) (n c k : Nat) (w : World) (e : Ending) (w' : World) : Prop :=
  (∃ d v u, e = .returned (.tuple #[v, u]) ∧ (d.length ≤ 4 ∧ ∀ x ∈ d, T.Good x.t ∧ Fits x.t ∧ (T.text x.t).length + 10 ≤ 56) ∧ (GivenG 68 v d w' ∧ GivenG 63 u d w') ∧ Typ d w') ∧ (∃ k', k' ≤ k + 40 ∧ SeqAt B p a n c k' w') ∧ MkFr B p w w'
theorem four_at {w : World} {b : Nat} {x y z u : ByteArray} {T : TypeId} {fz : Nat × Nat} (h : w.heap[b]? = some (.cells #[.string x, .string y, .string z, .string u] T fz)) (r : Nat) (hr : r < 4) : ∃ s : ByteArray, w.cell? ⟨b, r, none⟩ = some (.string s) := by
  rw [Lib.cell_of_heap h]
  match r, hr with
  | 0, _ => exact ⟨x, rfl⟩
  | 1, _ => exact ⟨y, rfl⟩
  | 2, _ => exact ⟨z, rfl⟩
  | 3, _ => exact ⟨u, rfl⟩
  | n + 4, hr => omega

end Go.Proofs.Ythpphjkoiipkkaa
/- (Subst).Then: one after the other. -/
namespace Go.Proofs.Ythpphjkoiipkkaa
open Go.RowKit Go.Sort Go.Lib
attribute [local go_sem] Oper.semAt_some

theorem make_cap4 (N : Nat) (hn : N ≤ 1000000000) (w : World) :
    (Instr.makeSlice 31 (.int .i64 0) (.int .i64 (N : Int))).run Try.prog w = .ok (.slice (some ⟨w.heap.size, 0, none⟩) 0 N) (w.alloc (.cells (zeros4 N) 68)) := by
  obtain ⟨i, hi, hzz⟩ := Option.map_eq_some_iff.1 Try.infoPair
  simp only [Prod.mk.injEq] at hzz
  obtain ⟨hz, hs, hb⟩ := hzz
  have hr := run_make (P := Try.prog) w 31 68 i _ Try.underlying31 hi hz .i64 .i64 0 N (by omega) (by omega) (by rw [hb]; omega) (by omega)
  simp only [Int.toNat_natCast, hs, Int.toNat_zero] at hr
  exact hr
theorem setCells_set4 (w : World) (g i : Nat) (x : PR) : w.setCells g (0 + i * 4) (encP x) = set4 w g i x := by
  rw [Nat.zero_add]; rfl
/-- The list that Then gathers. -/
noncomputable def thenL (ls lu : List PR) : List PR := ls.map (fun x => { x with t := app lu x.t }) ++ lu
theorem ty_append (n : ByteArray) (d e : List PR) : ty n (d ++ e) = if (lk n d).isSome then ty n d else ty n e := by
  unfold ty
  rw [lk_append]
  cases lk n d <;> rfl
theorem lk_map (f : T → T) (n : ByteArray) : ∀ d : List PR, lk n (d.map fun x => { x with t := f x.t }) = (lk n d).map fun x => { x with t := f x.t }
  | [] => rfl
  | x :: d => by
    rw [List.map_cons, lk_cons, lk_cons]
    by_cases h : x.n = n
    · rw [if_pos h, if_pos h]; rfl
    · rw [if_neg h, if_neg h]; exact lk_map f n d
theorem then_app (ls lu : List PR) : ∀ t, app (thenL ls lu) t = app lu (app ls t) := by
  intro t
  refine T.by_kids (P := fun t => app (thenL ls lu) t = app lu (app ls t)) (fun t H => ?_) t
  cases t with
  | var n =>
    rw [app_v, app_v, thenL, ty_append, lk_map]
    cases h : lk n ls with
    | none =>
      have e : ty n ls = .var n := by unfold ty; rw [h]; rfl
      rw [e]; rfl
    | some x =>
      have e : ty n ls = x.t := by unfold ty; rw [h]; rfl
      rw [e]
      unfold ty
      rw [lk_map, h]; rfl
  | con n l =>
    rw [app, app, app, apps_map, apps_map, apps_map, List.map_map]
    congr 1
    exact List.map_congr_left fun k hk => H k hk
  | fn a b => rw [app, app, app, H a (by simp [T.kids]), H b (by simp [T.kids])]
  | all n a => rw [app, app, app, H a (by simp [T.kids])]

theorem RowK.spare {g k : Nat} {l : List PR} {w : World} (h : RowK g k l w) {i : Nat} (hi : i < k) : ∀ j, j < 4 → (w.cell? ⟨g, 0 + i * 4 + j, none⟩).isSome = true ∧ w.frozen? ⟨g, 0 + i * 4 + j, none⟩ = false := by
  obtain ⟨x, y, z, u, h0, h1, h2, h3⟩ := h.cells hi
  intro j hj
  rw [Nat.zero_add]
  refine ⟨?_, h.row.free _⟩
  match j, hj with
  | 0, _ => rw [Nat.add_zero, h0]; rfl
  | 1, _ => rw [h1]; rfl
  | 2, _ => rw [h2]; rfl
  | 3, _ => rw [h3]; rfl
  | n + 4, hj => omega

theorem cellsP_get (d : List PR) (j : Nat) (hj : j < d.length * 4) : (cellsP d)[j]? = (encP (d.getD (j / 4) noP))[j % 4]? := by
  have := cellsP_at d (j / 4) (j % 4) (by omega) (by omega)
  rwa [show j / 4 * 4 + j % 4 = j by omega] at this
theorem enc_get {x : PR} {j : Nat} (hj : j < 4) : (encP x)[j]? = some (if j = 0 then .string x.n else if j = 1 then .int .i64 x.t.kind else if j = 2 then .string x.t.name else .slice x.a x.t.kids.length x.c) := by
  match j, hj with
  | 0, _ => rfl
  | 1, _ => rfl
  | 2, _ => rfl
  | 3, _ => rfl
  | n + 4, hj => omega
theorem row_cells {g : Nat} {l : List PR} {cs : Array Value} (h : ∀ i, i < l.length → cs[i * 4]? = some (.string (l.getD i noP).n) ∧ cs[i * 4 + 1]? = some (.int .i64 (l.getD i noP).t.kind) ∧ cs[i * 4 + 2]? = some (.string (l.getD i noP).t.name) ∧ cs[i * 4 + 3]? = some (.slice (l.getD i noP).a (l.getD i noP).t.kids.length (l.getD i noP).c)) (_ : g = g) (j : Nat) (hj : j < l.length * 4) : cs[j]? = (cellsP l)[j]? := by
  rw [cellsP_get l j hj, enc_get (by omega)]
  obtain ⟨a0, a1, a2, a3⟩ := h (j / 4) (by omega)
  have hc : j % 4 = 0 ∨ j % 4 = 1 ∨ j % 4 = 2 ∨ j % 4 = 3 := by omega
  rcases hc with e | e | e | e
  · rw [e, if_pos rfl, ← a0, show j = j / 4 * 4 by omega]; congr 1; omega
  · rw [e, if_neg (by decide), if_pos rfl, ← a1]; congr 1; omega
  · rw [e, if_neg (by decide), if_neg (by decide), if_pos rfl, ← a2]; congr 1; omega
  · rw [e, if_neg (by decide), if_neg (by decide), if_neg (by decide), ← a3]; congr 1; omega
theorem RowK.owns {g k base : Nat} {l : List PR} {w : World} (h : RowK g k l w) (hb : base ≤ g) (hk : k ≤ 1000000) : w.ownsRow base 68 4 (.slice (some ⟨g, 0, none⟩) l.length k) l.length (cellsP l) := by
  obtain ⟨cs, h1, h2, h3, h4⟩ := h
  refine ⟨cellsP_len l, .inr ⟨g, k, cs, rfl, hb, h1, h3, by unfold maxLen; omega, h2, ?_⟩⟩
  apply List.ext_getElem?
  intro j
  by_cases hj : j < l.length * 4
  · rw [List.getElem?_take_of_lt hj, Array.getElem?_toList, row_cells (g := g) h4 rfl j hj]
  · rw [List.getElem?_eq_none (by simp; omega), List.getElem?_eq_none (by rw [cellsP_len]; omega)]
theorem RowP.news {g : Nat} {l : List PR} {w : World} (h : RowP g l w) : ∀ j u, (cellsP l)[j]? = some u → w.cell? ((⟨g, 0, none⟩ : Addr).add j) = some u := by
  intro j u hu
  have hj : j < l.length * 4 := by have := (List.getElem?_eq_some_iff.1 hu).1; rwa [cellsP_len] at this
  have hadd : (⟨g, 0, none⟩ : Addr).add j = ⟨g, j, none⟩ := by unfold Addr.add; split <;> simp_all
  obtain ⟨cs, h1, _, h3⟩ := h
  rw [hadd, Lib.cell_of_heap h1, row_cells (g := g) h3 rfl j hj, hu]
theorem cellsP_one (l : List PR) : ∀ u ∈ cellsP l, u.oneCell' = true := by
  intro u hu
  obtain ⟨x, _, hx⟩ := List.mem_flatMap.1 hu
  exact encP_one x u hx
theorem cellsP_append (l m : List PR) : cellsP l ++ cellsP m = cellsP (l ++ m) := by simp [cellsP]
theorem row_of_owns {W : World} {base g cap : Nat} {d : List PR} (h : W.ownsRow base 68 4 (.slice (some ⟨g, 0, none⟩) d.length cap) d.length (cellsP d)) : RowP g d W := by
  rcases h.2 with ⟨e, _⟩ | ⟨g', cap', cur, e, _, hg, hc, hm, hcs, htk⟩
  · cases e
  · cases e
    refine ⟨cur, hg, by rw [hcs]; exact Nat.mul_le_mul_right 4 hc, fun i hi => ?_⟩
    have cell : ∀ j, j < 4 → cur[i * 4 + j]? = (encP (d.getD i noP))[j]? := fun j hj => by
      have hlt : i * 4 + j < d.length * 4 := by omega
      rw [← cellsP_at d i j hi hj, ← htk, List.getElem?_take, if_pos hlt, Array.getElem?_toList]
    exact ⟨(cell 0 (by omega)).trans rfl, (cell 1 (by omega)).trans rfl, (cell 2 (by omega)).trans rfl, (cell 3 (by omega)).trans rfl⟩
theorem SubAt.setS {v x : Value} {d : List PR} {w : World} {b : Nat} {cs : Array Value} {fz : Nat × Nat} (h : SubAt v d w) (hb : w.heap[b]? = some (.cells cs 33 fz)) : SubAt v d (w.setCell ⟨b, 0, none⟩ x) := by
  obtain ⟨⟨h1, h2⟩, h3⟩ := h
  refine ⟨⟨?_, h2⟩, h3.keep ?_⟩
  · rcases h1 with h1 | ⟨g, cap, e, hc, hr⟩
    · exact .inl h1
    · refine .inr ⟨g, cap, e, hc, hr.same (Below.heap_setCell _ ⟨b, 0, none⟩ _ _ ?_)⟩
      show g ≠ b
      rintro rfl
      obtain ⟨cs', hr, _⟩ := hr
      rw [hb] at hr
      simp at hr
  · intro k cs' fz' hk
    refine (Below.heap_setCell _ ⟨b, 0, none⟩ _ k ?_).trans hk
    show k ≠ b
    rintro rfl
    rw [hb] at hk
    simp at hk
theorem Made.copy {d d' l : List PR} (h : Made d l) (k : Copy d d') : Made d' l :=
  ⟨fun x hx => by obtain ⟨y, hy, e1, e2⟩ := h.sub x hx; obtain ⟨z, hz, f1, f2⟩ := k.mem y hy; exact ⟨z, hz, e1.trans f1, e2.trans f2⟩, by rw [← k.1]; exact h.len, fun n => by rw [h.same n]; unfold ty; rw [k.lk]⟩
theorem copy_then {q ls lu : List PR} (h1 : q.length = ls.length) (h2 : ∀ j, j < ls.length → (q.getD j noP).n = (ls.getD j noP).n ∧ (q.getD j noP).t = app lu (ls.getD j noP).t) : Copy (q ++ lu) (thenL ls lu) := by
  refine ⟨by simp [thenL, h1], fun i hi => ?_⟩
  unfold thenL
  by_cases hlt : i < ls.length
  · have e1 : (q ++ lu).getD i noP = q.getD i noP := by simp [List.getD, List.getElem?_append_left (show i < q.length by omega)]
    have e2 : (ls.map (fun x : PR => { x with t := app lu x.t }) ++ lu).getD i noP = { ls.getD i noP with t := app lu (ls.getD i noP).t } := by
      simp [List.getD, List.getElem?_append_left (show i < (ls.map (fun x : PR => { x with t := app lu x.t })).length by simpa using hlt), hlt]
    rw [e1, e2]; exact h2 i hlt
  · have e1 : (q ++ lu).getD i noP = lu.getD (i - ls.length) noP := by simp [List.getD, List.getElem?_append_right (show q.length ≤ i by omega), h1]
    have e2 : (ls.map (fun x : PR => { x with t := app lu x.t }) ++ lu).getD i noP = lu.getD (i - ls.length) noP := by
      simp [List.getD, List.getElem?_append_right (show (ls.map (fun x : PR => { x with t := app lu x.t })).length ≤ i by simp; omega)]
    rw [e1, e2]; exact ⟨rfl, rfl⟩

end Go.Proofs.Ythpphjkoiipkkaa
/- Two types as one: what is found as a list of pairs. -/
namespace Go.Proofs.Ythpphjkoiipkkaa

theorem app_sub (d : List PR) : ∀ t, app d t = sub (fun n => ty n d) t := by
  refine T.kidsInd fun t ih => ?_
  cases hv : t.isV with
  | true => rw [isV_var hv]; rfl
  | false =>
    have hn : ∀ n, t ≠ .var n := fun n e => by rw [e] at hv; cases hv
    obtain ⟨a1, a2, a3⟩ := app_parts d t hn
    obtain ⟨b1, b2, b3, _⟩ := sub_parts (fun n => ty n d) t hv
    refine T.ext3 (a1.trans b1.symm) (a2.trans b2.symm) ?_
    rw [a3, b3]
    exact List.map_congr_left ih
theorem ty_none {n : ByteArray} {d : List PR} (h : lk n d = none) : ty n d = .var n := by unfold ty; rw [h]; rfl
theorem ty_some {n : ByteArray} {d : List PR} {x : PR} (h : lk n d = some x) : ty n d = x.t := by unfold ty; rw [h]; rfl
theorem ty_one (n : ByteArray) (p : PR) : ty n [p] = one p.n p.t n := by
  by_cases h : n = p.n
  · subst h
    rw [one_at]
    exact ty_some (by rw [lk_cons, if_pos rfl])
  · rw [one_ne _ h]
    exact ty_none (by rw [lk_cons, if_neg (fun e => h e.symm)]; rfl)
/-- The document's Then. -/
noncomputable def thenR (s u : List PR) : List PR := (s.map fun x => { x with t := app u x.t }) ++ u.filter fun y => (lk y.n s).isNone
theorem lk_filter {n : ByteArray} {s : List PR} (h : lk n s = none) : ∀ u : List PR, lk n (u.filter fun y => (lk y.n s).isNone) = lk n u
  | [] => rfl
  | y :: u => by
    rw [List.filter_cons]
    by_cases e : y.n = n
    · rw [if_pos (by rw [e, h]; rfl), lk_cons, lk_cons, if_pos e, if_pos e]
    · rw [lk_cons n y u, if_neg e]
      split
      · rw [lk_cons, if_neg e]; exact lk_filter h u
      · exact lk_filter h u
theorem thenR_ty (s u : List PR) (n : ByteArray) : ty n (thenR s u) = app u (ty n s) := by
  unfold thenR
  rw [ty_append, lk_map (app u)]
  cases h : lk n s with
  | some x =>
    rw [if_pos (by rfl), ty_some h]
    exact ty_some (x := { x with t := app u x.t }) (by rw [lk_map (app u), h]; rfl)
  | none =>
    rw [if_neg (by simp), ty_none h]
    show ty n _ = ty n u
    unfold ty; rw [lk_filter h]
/-- Pairs that say what was found. -/
def IsSg (d : List PR) (σ : Sg) : Prop := ∀ n, ty n d = σ n
theorem IsSg.app {d : List PR} {σ : Sg} (h : IsSg d σ) (t : T) : app d t = sub σ t := by rw [app_sub]; exact sub_ext t fun n _ => h n
theorem isSg_nil : IsSg [] T.var := fun _ => rfl
theorem IsSg.bind {d e : List PR} {σ : Sg} {p : PR} (h : IsSg d σ) (he : ∀ n, ty n e = Go.Proofs.Ythpphjkoiipkkaa.app [p] (ty n d)) : IsSg e (fun n => sub (one p.n p.t) (σ n)) := by
  intro n
  rw [he, app_sub, h n]
  exact sub_ext _ fun m _ => ty_one m p
end Go.Proofs.Ythpphjkoiipkkaa
/- A region that draws its order and ends with a store: all but its last operation by an invariant, the last one when all else has come up. -/
namespace Go.Proofs.Ythpphjkoiipkkaa

section
variable {P : Program} {ops : Array Oper} {Q : Exit → Act → World → Prop} {fr : (Nat → Value) → Act} {S : World → Prop} {Rel : World → World → Prop} {Vals : Nat → Value → World → Prop} {s : Nat}

theorem getD_tt {l : Array Bool} {j : Nat} (h : l.getD j false = true) : l.getD j true = true := by
  by_cases hj : j < l.size
  · simp [hj] at h ⊢; exact h
  · simp [hj]
/-- Where operation s can come up, all ahead of it have. -/
theorem all_ahead {listed : Array Bool} (hcov : ∀ i, i < s → ∃ j o e, i < j ∧ j ≤ s ∧ ops[j]? = some o ∧ e ∈ o.after ∧ Region.binds .any e = true ∧ e.on = i)
    (hcl : ∀ j o, listed.getD j false = true → ops[j]? = some o → ∀ e ∈ o.after, Region.binds .any e = true → listed.getD e.on false = true)
    (hs : ∀ o, ops[s]? = some o → ∀ e ∈ o.after, Region.binds .any e = true → listed.getD e.on false = true) : ∀ n i, i + n = s → 0 < n → listed.getD i false = true := by
  intro n
  induction n using Nat.strongRecOn with
  | ind n ih =>
    intro i hi hn
    obtain ⟨j, o, e, hij, hjs, ho, he, hb, rfl⟩ := hcov i (by omega)
    by_cases hj : j = s
    · subst hj; exact hs o ho e he hb
    · exact hcl j o (ih (s - j) (by omega) j (by omega) (by omega)) ho e he hb

theorem last_any (hsz : ops.size = s + 1) (hput : ∀ i o, i < s → ops[i]? = some o → StepAt P fr S Rel Vals ops Q i o)
    (hbs : ∀ o, ops[s]? = some o → ∀ e ∈ o.after, Region.binds .any e = true → e.on < s)
    (hcov : ∀ i, i < s → ∃ j o e, i < j ∧ j ≤ s ∧ ops[j]? = some o ∧ e ∈ o.after ∧ Region.binds .any e = true ∧ e.on = i)
    (hrel : ∀ w w', S w → Rel w w' → S w') (hval : ∀ i v w w', S w → Vals i v w → Rel w w' → Vals i v w')
    (hlast : ∀ o x w, ops[s]? = some o → S w → (∀ i, i < s → Vals i (x i) w) → ∀ K : Act → World → Prop, (∀ v w', Q .normal ((fr x).put o.dst v) w' → K ((fr x).put o.dst v) w') →
      if Region.wanted o (yielded ops (fr x).tmps) = true then Oper.wp P o (fr x) w K Q else K ((fr x).put o.dst undef) w) :
    ∀ (fuel : Nat) (listed : Array Bool) (x : Nat → Value) (w : World), listed.size = ops.size → ops.size ≤ fuel + listed.toList.count true → S w → listed.getD s false = false →
      (∀ j o, listed.getD j false = true → ops[j]? = some o → ∀ e ∈ o.after, Region.binds .any e = true → listed.getD e.on false = true) →
      (∀ i, listed.getD i false = true → Vals i (x i) w) → wpAny P .any ops Q fuel listed (fr x) w := by
  have hback : ∀ i o, ops[i]? = some o → ∀ e ∈ o.after, Region.binds .any e = true → e.on < i := fun i o ho => by
    have hi : i < s + 1 := by rw [← hsz]; exact (Array.getElem?_eq_some_iff.1 ho).1
    by_cases e : i = s
    · subst e; exact hbs o ho
    · exact (hput i o (by omega) ho).back
  have hend : ∀ (listed : Array Bool), listed.size = ops.size → listed.getD s false = false → Region.ready .any ops listed = [] → False := fun listed hz h0 h => by
    have := all_of_none hback hz h s (by omega)
    rw [h0] at this; cases this
  intro fuel
  induction fuel with
  | zero =>
    intro listed x w hz hc hS h0 hcl hV
    have hall : listed.toList.count true = listed.toList.length := by
      have := List.count_le_length (a := true) (l := listed.toList)
      simp at this hc ⊢; omega
    have hlt : s < listed.size := by omega
    have := List.count_eq_length.1 hall listed[s] (by simp)
    simp [hlt] at h0
    rw [h0] at this; cases this
  | succ fuel ih =>
    intro listed x w hz hc hS h0 hcl hV
    refine ⟨fun h => (hend listed hz h0 h).elim, fun i hi => ?_⟩
    obtain ⟨hi0, o, ho, hdep⟩ := mem_ready.1 hi
    have hlt : i < listed.size := by rw [hz]; exact (Array.getElem?_eq_some_iff.1 ho).1
    have hi0' : listed[i] = false := by simpa [hlt] using hi0
    have hsetD : ∀ j, (listed.setIfInBounds i true).getD j false = true → j = i ∨ listed.getD j false = true := fun j hj => by
      by_cases hji : j = i
      · exact .inl hji
      · rw [getD_set_ne false (Ne.symm hji)] at hj; exact .inr hj
    have hsetI : (listed.setIfInBounds i true).getD i false = true := by simp [hlt]
    have hmono : ∀ j, listed.getD j false = true → (listed.setIfInBounds i true).getD j false = true := fun j hj => by
      by_cases hji : j = i
      · subst hji; exact hsetI
      · rw [getD_set_ne false (Ne.symm hji)]; exact hj
    by_cases his : i = s
    · subst his
      have hK : ∀ v w', Q .normal ((fr x).put o.dst v) w' → wpAny P .any ops Q fuel (listed.setIfInBounds i true) ((fr x).put o.dst v) w' := fun v w' hq => by
        have hnone : Region.ready .any ops (listed.setIfInBounds i true) = [] := by
          cases h : Region.ready .any ops (listed.setIfInBounds i true) with
          | nil => rfl
          | cons j l =>
            have hj : j ∈ Region.ready .any ops (listed.setIfInBounds i true) := by rw [h]; simp
            obtain ⟨hj0, oj, hoj, _⟩ := mem_ready.1 hj
            have hjl : j < i + 1 := by rw [← hsz]; exact (Array.getElem?_eq_some_iff.1 hoj).1
            by_cases e : j = i
            · subst e; rw [getD_tt hsetI] at hj0; cases hj0
            · have := hmono j (all_ahead hcov hcl (fun o' ho' => by rw [ho] at ho'; cases ho'; exact hdep) (i - j) j (by omega) (by omega))
              rw [getD_tt this] at hj0; cases hj0
        cases fuel with
        | zero => exact ⟨hnone, hq⟩
        | succ fuel => exact ⟨fun _ => hq, fun j hj => by rw [hnone] at hj; cases hj⟩
      have := hlast o x w ho hS (fun j hj => hV j (all_ahead hcov hcl (fun o' ho' => by rw [ho] at ho'; cases ho'; exact hdep) (i - j) j (by omega) (by omega))) _ hK
      unfold wpOp
      simp only [ho]
      split
      · rename_i hw; rw [if_pos hw] at this; exact .inl this
      · rename_i hw; rw [if_neg hw] at this; exact this
    · have hil : i < s := by omega
      have H := hput i o hil ho
      have hK : ∀ v w', Rel w w' → Vals i v w' → wpAny P .any ops Q fuel (listed.setIfInBounds i true) ((fr x).put o.dst v) w' := fun v w' hr hv => by
        rw [H.put]
        refine ih _ _ _ (by simpa using hz) ?_ (hrel w w' hS hr) (by rw [getD_set_ne false his]; exact h0) (fun j oj hj hoj e he hb => ?_) fun j hj => ?_
        · have : (listed.setIfInBounds i true).toList.count true = listed.toList.count true + 1 := by
            rw [Array.toList_setIfInBounds, List.count_set (by simpa using hlt)]
            simp [hi0']
          omega
        · rcases hsetD j hj with rfl | hj'
          · rw [ho] at hoj; cases hoj
            exact hmono _ (hdep e he hb)
          · exact hmono _ (hcl j oj hj' hoj e he hb)
        · by_cases hji : j = i
          · subst hji; rw [upd_same]; exact hv
          · rw [upd_other x v hji]
            exact hval _ _ _ _ hS (hV j (by rw [getD_set_ne false (Ne.symm hji)] at hj; exact hj)) hr
      have := H.run x w hS (fun e he hb => hV e.on (hdep e he hb)) _ hK
      unfold wpOp
      simp only [ho]
      split
      · rename_i hw; rw [if_pos hw] at this; exact .inl this
      · rename_i hw; rw [if_neg hw] at this; exact this

/-- Each operation ahead of the last is asked for by a later one. -/
def covered (ops : Array Oper) (s : Nat) : Bool := (List.range s).all fun i => (List.range (s + 1)).any fun j => decide (i < j) && (match ops[j]? with
  | some o => o.after.any fun e => Region.binds .any e && e.on == i
  | none => false)
theorem covered_get (h : covered ops s = true) : ∀ i, i < s → ∃ j o e, i < j ∧ j ≤ s ∧ ops[j]? = some o ∧ e ∈ o.after ∧ Region.binds .any e = true ∧ e.on = i := by
  intro i hi
  unfold covered at h
  rw [List.all_eq_true] at h
  have h1 := h i (List.mem_range.2 hi)
  rw [List.any_eq_true] at h1
  obtain ⟨j, hj, h2⟩ := h1
  rw [Bool.and_eq_true, decide_eq_true_eq] at h2
  cases ho : ops[j]? with
  | none => rw [ho] at h2; exact absurd h2.2 (by simp)
  | some o =>
    rw [ho] at h2
    have h3 := h2.2
    simp only at h3
    rw [Array.any_eq_true'] at h3
    obtain ⟨e, he, h4⟩ := h3
    rw [Bool.and_eq_true, beq_iff_eq] at h4
    exact ⟨j, o, e, h2.1, by have := List.mem_range.1 hj; omega, ho, he, h4.1, h4.2⟩

/-- What is asked of all but the last operation, and of the last. -/
def AllBut (f : Nat → Oper → Prop) (g : Oper → Prop) : Nat → List Oper → Prop
  | _, [] => True
  | _, [o] => g o
  | n, o :: o' :: os => f n o ∧ AllBut f g (n + 1) (o' :: os)
theorem AllBut.get {f : Nat → Oper → Prop} {g : Oper → Prop} : ∀ {l : List Oper} {n : Nat}, AllBut f g n l → ∀ {i : Nat} {o : Oper}, l[i]? = some o → (i + 1 < l.length → f (n + i) o) ∧ (i + 1 = l.length → g o)
  | [], _, _, i, o, h => by simp at h
  | [a], n, hl, 0, o, h => by simp at h; subst h; exact ⟨fun h => by simp at h, fun _ => hl⟩
  | [a], n, hl, i + 1, o, h => by simp at h
  | a :: b :: l, n, hl, 0, o, h => by simp at h; subst h; exact ⟨fun _ => hl.1, fun h => by simp at h⟩
  | a :: b :: l, n, hl, i + 1, o, h => by
    obtain ⟨h1, h2⟩ := AllBut.get hl.2 (i := i) (o := o) (by simpa using h)
    refine ⟨fun hi => ?_, fun hi => h2 (by simpa using hi)⟩
    have := h1 (by simpa using hi)
    rw [show n + (i + 1) = n + 1 + i by omega]; exact this

/-- What is asked of the last operation. -/
structure LastAt (P : Program) (fr : (Nat → Value) → Act) (S : World → Prop) (Vals : Nat → Value → World → Prop) (ops : Array Oper) (Q : Exit → Act → World → Prop) (s : Nat) (o : Oper) : Prop where
  back : ∀ e ∈ o.after, Region.binds .any e = true → e.on < s
  run : ∀ (x : Nat → Value) (w : World), S w → (∀ i, i < s → Vals i (x i) w) → ∀ K : Act → World → Prop, (∀ v w', Q .normal ((fr x).put o.dst v) w' → K ((fr x).put o.dst v) w') →
      if Region.wanted o (yielded ops (fr x).tmps) = true then Oper.wp P o (fr x) w K Q else K ((fr x).put o.dst undef) w

theorem region_last (fr : (Nat → Value) → Act) (S : World → Prop) (Rel : World → World → Prop) (Vals : Nat → Value → World → Prop) (x0 : Nat → Value) (s : Nat) {id : Nat} {a : Act} {w : World}
    (hm : P.follows .mixedOrders = true) (ha : a = fr x0) (hS : S w.drew) (hsz : ops.size = s + 1) (hcov : covered ops s = true)
    (hrel : ∀ w w', S w → Rel w w' → S w') (hval : ∀ i v w w', S w → Vals i v w → Rel w w' → Vals i v w')
    (hops : AllBut (StepAt P fr S Rel Vals ops Q) (LastAt P fr S Vals ops Q s) 0 ops.toList) : (Code.region id ops true).wp P Q a w := by
  subst ha
  refine wp_region_any hm ?_
  have hg := fun (i : Nat) (o : Oper) (h : ops[i]? = some o) => hops.get (i := i) (o := o) (by simpa using h)
  refine last_any hsz (fun i o hi h => ?_) (fun o h => ?_) (covered_get hcov) hrel hval (fun o x w h hS hV K hK => ?_) _ _ _ _ (by simp) (by simp) hS (by simp [hsz]) (fun j o hj => ?_) (fun i hi => ?_)
  · have := (hg i o h).1 (by simp [hsz]; omega); rwa [Nat.zero_add] at this
  · exact ((hg s o h).2 (by simp [hsz])).back
  · exact ((hg s o h).2 (by simp [hsz])).run x w hS hV K hK
  · by_cases h : j < ops.size
    · simp [h] at hj
    · simp [h] at hj
  · by_cases h : i < ops.size
    · simp [h] at hi
    · simp [h] at hi
end
end Go.Proofs.Ythpphjkoiipkkaa
/- SubstThen: what its statements keep; calls whose results are told. -/
namespace Go.Proofs.Ythpphjkoiipkkaa
open Go.RowKit Go.Sort Go.Lib
attribute [local go_sem] Oper.semAt_some

theorem size_le (d : List PR) (M : Nat) (h1 : 1 ≤ M) (hd : ∀ x ∈ d, tsize x.t ≤ M) : ∀ t, tsize (app d t) ≤ tsize t * M := by
  intro t
  refine T.by_kids (P := fun t => tsize (app d t) ≤ tsize t * M) (fun t H => ?_) t
  cases t with
  | var n =>
    rw [app_v, tsize, Nat.one_mul]
    unfold ty
    cases h : lk n d with
    | none => exact h1
    | some x => exact hd x (lk_name h).1
  | con n l =>
    rw [app, tsize, tsize, apps_map]
    have key : ∀ m : List T, (∀ k ∈ m, k ∈ l) → tsizes (m.map (app d)) ≤ tsizes m * M := by
      intro m
      induction m with
      | nil => intro _; exact Nat.zero_le _
      | cons a m ih =>
        intro hm
        rw [List.map_cons, tsizes, tsizes, Nat.add_mul]
        exact Nat.add_le_add (H a (hm a (List.mem_cons_self ..))) (ih fun k hk => hm k (List.mem_cons_of_mem _ hk))
    have := key l (fun k hk => hk)
    rw [Nat.add_mul]; omega
  | fn a b =>
    have ha := H a (by simp [T.kids])
    have hb := H b (by simp [T.kids])
    rw [app, tsize, tsize, Nat.add_mul, Nat.add_mul]; omega
  | all n a =>
    have ha := H a (by simp [T.kids])
    rw [app, tsize, tsize, Nat.add_mul]; omega
/-- Of a row of pairs: how many, how great, what it does. -/
def Sb (M n : Nat) (f : T → T) (l : List PR) : Prop := l.length ≤ n ∧ (∀ x ∈ l, tsize x.t ≤ M) ∧ ∀ t, app l t = f t
theorem app_ret {l : List PR} {t t' : T} {M n : Nat} {f : T → T} {s : Value} {a : Option Addr} {c : Nat} {w : World} (hs : SubAt s l w) (h : Sb M n f l) (hn : n ≤ 1000) (hM : M ≤ 1000000000) (ht : tsize t ≤ 1000000000) (e : f t = t') (hT : TysAt w (.slice a t.kids.length c) t.kids) :
    Calls Try.prog 12 #[.agg #[s], .agg #[.int .i64 t.kind, .string t.name, .slice a t.kids.length c]] w fun e Y => (∃ za zc, e = .returned (.agg #[.int .i64 t'.kind, .string t'.name, .slice za t'.kids.length zc]) ∧ TysAt Y (.slice za t'.kids.length zc) t'.kids) ∧ Below w.heap.size w Y := by
  refine (apply_any (d := l) (t := t) (s := s) (w := w) (by have := h.1; omega) (fun x hx => by have := h.2.1 x hx; omega) ht hs hT).mono ?_
  rintro e1 w5 ⟨⟨a, c, rfl, hin⟩, hb5⟩
  rw [h.2.2, e] at hin ⊢
  exact ⟨⟨a, c, rfl, hin.tys⟩, hb5⟩

def nilV : Value := .slice none 0 0
/-- What the statements of SubstThen keep. -/
def SS (w : World) (b11 b12 b13 b14 b15 : Nat) (t : T) (pa : Option Addr) (ca : Nat) (sx sy sz : Value) (lx ly lz : List PR) (X : World) : Prop :=
  BoxT b11 t pa ca X ∧ ((BoxS b12 sx lx X ∧ BoxS b13 sy ly X) ∧ BoxS b14 sz lz X ∧ BoxS b15 nilV [] X) ∧ Below w.heap.size w X
theorem SS.below {w : World} {b11 b12 b13 b14 b15 : Nat} {t : T} {pa : Option Addr} {ca : Nat} {sx sy sz : Value} {lx ly lz : List PR} {X Y : World} (h : SS w b11 b12 b13 b14 b15 t pa ca sx sy sz lx ly lz X) (hb : Below X.heap.size X Y) : SS w b11 b12 b13 b14 b15 t pa ca sx sy sz lx ly lz Y :=
  ⟨h.1.below hb, ⟨⟨h.2.1.1.1.below hb, h.2.1.1.2.below hb⟩, h.2.1.2.1.below hb, h.2.1.2.2.below hb⟩, h.2.2.trans (hb.mono h.2.2.size)⟩
theorem SS.cells {w : World} {b11 b12 b13 b14 b15 : Nat} {t : T} {pa : Option Addr} {ca : Nat} {sx sy sz : Value} {lx ly lz : List PR} {X : World} (h : SS w b11 b12 b13 b14 b15 t pa ca sx sy sz lx ly lz X) :
    (X.cell? ⟨b11, 0, none⟩ = some (.int .i64 t.kind) ∧ X.cell? ⟨b11, 1, none⟩ = some (.string t.name) ∧ X.cell? ⟨b11, 2, none⟩ = some (.slice pa t.kids.length ca)) ∧
    (X.cell? ⟨b12, 0, none⟩ = some sx ∧ X.cell? ⟨b13, 0, none⟩ = some sy) ∧ X.cell? ⟨b14, 0, none⟩ = some sz ∧ X.cell? ⟨b15, 0, none⟩ = some nilV := ⟨h.1.cells, ⟨h.2.1.1.1.cell, h.2.1.1.2.cell⟩, h.2.1.2.1.cell, h.2.1.2.2.cell⟩

/-! A box that is still empty is filled: all else stays. -/
def zeroT : Obj := .cells #[.int .i64 0, .string ⟨#[]⟩, .slice none 0 0] 26
theorem BoxT.fill {b k : Nat} {t : T} {a : Option Addr} {c : Nat} {w W : World} (h : BoxT b t a c w) (h0 : w.heap[k]? = some zeroT) (hk : ∀ j, j ≠ k → W.heap[j]? = w.heap[j]?) : BoxT b t a c W := by
  refine ⟨(hk b ?_).trans h.1, h.2.elsewhere h0 hk⟩
  rintro rfl
  have h1 := h.1
  rw [h0] at h1
  unfold zeroT at h1
  simp only [Option.some.injEq, Obj.cells.injEq, Array.mk.injEq, List.cons.injEq, Value.int.injEq] at h1
  have := (T.kind_pos t).1
  omega
theorem SubAt.fill {v : Value} {d : List PR} {k : Nat} {w W : World} (h : SubAt v d w) (h0 : w.heap[k]? = some zeroT) (hk : ∀ j, j ≠ k → W.heap[j]? = w.heap[j]?) : SubAt v d W := by
  obtain ⟨⟨h1, h2⟩, h3⟩ := h
  refine ⟨⟨?_, h2⟩, fun x hx => (h3 x hx).elsewhere h0 hk⟩
  rcases h1 with h1 | ⟨g, cap, e, hc, hr⟩
  · exact .inl h1
  · refine .inr ⟨g, cap, e, hc, hr.same (hk g ?_)⟩
    rintro rfl
    obtain ⟨cs, hr, _⟩ := hr
    rw [h0] at hr
    unfold zeroT at hr
    simp at hr
theorem BoxS.fill {b k : Nat} {v : Value} {d : List PR} {w W : World} (h : BoxS b v d w) (h0 : w.heap[k]? = some zeroT) (hk : ∀ j, j ≠ k → W.heap[j]? = w.heap[j]?) : BoxS b v d W := by
  refine ⟨(hk b ?_).trans h.1, h.2.fill h0 hk⟩
  rintro rfl
  have h1 := h.1
  rw [h0] at h1
  unfold zeroT at h1
  simp at h1
theorem SS.fill {w : World} {b11 b12 b13 b14 b15 : Nat} {t : T} {pa : Option Addr} {ca : Nat} {sx sy sz : Value} {lx ly lz : List PR} {X Y : World} {k : Nat} (h : SS w b11 b12 b13 b14 b15 t pa ca sx sy sz lx ly lz X) (h0 : X.heap[k]? = some zeroT) (hk : ∀ j, j ≠ k → Y.heap[j]? = X.heap[j]?) (hb : Below w.heap.size X Y) : SS w b11 b12 b13 b14 b15 t pa ca sx sy sz lx ly lz Y :=
  ⟨h.1.fill h0 hk, ⟨⟨h.2.1.1.1.fill h0 hk, h.2.1.1.2.fill h0 hk⟩, h.2.1.2.1.fill h0 hk, h.2.1.2.2.fill h0 hk⟩, h.2.2.trans hb⟩
theorem fill_box {k : Nat} {p : T} {a : Option Addr} {c : Nat} {w : World} (h0 : w.heap[k]? = some zeroT) (hp : TysAt w (.slice a p.kids.length c) p.kids) :
    BoxT k p a c (((w.setCell ⟨k, 0, none⟩ (.int .i64 p.kind)).setCell ⟨k, 1, none⟩ (.string p.name)).setCell ⟨k, 2, none⟩ (.slice a p.kids.length c)) :=
  ⟨set3_block h0 _ _ _, hp.elsewhere h0 (fun _ hj => set3_others _ _ _ hj)⟩
end Go.Proofs.Ythpphjkoiipkkaa
/- types.Has; the document's Size; texts in rows: Place, Has, SameTexts. -/
namespace Go.Proofs.Ythpphjkoiipkkaa
open Go.RowKit
attribute [local go_sem] Oper.semAt_some

/-- Whether a name is free in a type. -/
noncomputable def hasN (m : ByteArray) (t : T) (r : Bool) : Bool := (eqB t.kind 1 && eqB t.name m) || (!(eqB t.kind 4 && eqB t.name m) && r)
mutual
noncomputable def hasT (m : ByteArray) : T → Bool
  | .var n => eqB n m
  | .con _ l => hasTs m l
  | .fn a b => hasT m a || hasT m b
  | .all n a => !eqB n m && hasT m a
noncomputable def hasTs (m : ByteArray) : List T → Bool
  | [] => false
  | a :: l => hasT m a || hasTs m l
end
theorem hasT_eq (m : ByteArray) (t : T) : hasT m t = hasN m t (hasTs m t.kids) := by
  have e1 : ∀ (a b : Int), eqB a b = decide (a = b) := fun a b => by simp [eqB]
  cases t <;> simp [hasT, hasN, T.kind, T.name, T.kids, hasTs, e1]
theorem hasTs_take (m : ByteArray) (l : List T) (i : Nat) (h : i < l.length) : hasTs m (l.drop i) = (hasT m l[i] || hasTs m (l.drop (i + 1))) := by
  rw [List.drop_eq_getElem_cons h, hasTs]
open Classical in
mutual
theorem fv_mem (t : T) (bd out : List ByteArray) (n : ByteArray) : n ∈ fv bd out t ↔ n ∈ out ∨ (¬ n ∈ bd ∧ hasT n t = true) := by
  cases t with
  | var x =>
    rw [fv, hasT, eqB_iff]
    by_cases h : x ∈ bd ∨ x ∈ out
    · rw [if_pos h]
      constructor
      · exact .inl
      · rintro (h1 | ⟨h1, rfl⟩)
        · exact h1
        · exact h.resolve_left h1
    · rw [if_neg h]
      simp only [List.mem_append, List.mem_singleton]
      constructor
      · rintro (h1 | rfl)
        · exact .inl h1
        · exact .inr ⟨fun e => h (.inl e), rfl⟩
      · rintro (h1 | ⟨_, rfl⟩)
        · exact .inl h1
        · exact .inr rfl
  | con x l => rw [fv, hasT]; exact fvs_mem l bd out n
  | fn a b =>
    rw [fv, hasT, fv_mem b, fv_mem a, Bool.or_eq_true]
    constructor
    · rintro ((h | ⟨h1, h2⟩) | ⟨h1, h2⟩)
      · exact .inl h
      · exact .inr ⟨h1, .inl h2⟩
      · exact .inr ⟨h1, .inr h2⟩
    · rintro (h | ⟨h1, h2 | h2⟩)
      · exact .inl (.inl h)
      · exact .inl (.inr ⟨h1, h2⟩)
      · exact .inr ⟨h1, h2⟩
  | all x a =>
    rw [fv, hasT, fv_mem a, Bool.and_eq_true, Bool.not_eq_true']
    have : eqB x n = false ↔ ¬ n = x := by
      constructor
      · rintro h rfl; rw [eqB_true rfl] at h; cases h
      · intro h; exact eqB_false fun e => h e.symm
    rw [this, List.mem_cons]
    constructor
    · rintro (h | ⟨h1, h2⟩)
      · exact .inl h
      · exact .inr ⟨fun e => h1 (.inr e), fun e => h1 (.inl e), h2⟩
    · rintro (h | ⟨h1, h2, h3⟩)
      · exact .inl h
      · exact .inr ⟨fun e => e.elim h2 h1, h3⟩
theorem fvs_mem (l : List T) (bd out : List ByteArray) (n : ByteArray) : n ∈ fvs bd out l ↔ n ∈ out ∨ (¬ n ∈ bd ∧ hasTs n l = true) := by
  cases l with
  | nil => simp [fvs, hasTs]
  | cons a l =>
    rw [fvs, hasTs, fvs_mem l, fv_mem a, Bool.or_eq_true]
    constructor
    · rintro ((h | ⟨h1, h2⟩) | ⟨h1, h2⟩)
      · exact .inl h
      · exact .inr ⟨h1, .inl h2⟩
      · exact .inr ⟨h1, .inr h2⟩
    · rintro (h | ⟨h1, h2 | h2⟩)
      · exact .inl (.inl h)
      · exact .inl (.inr ⟨h1, h2⟩)
      · exact .inr ⟨h1, h2⟩
end
mutual
theorem has_good (t : T) (h : T.Good t) (n : ByteArray) (hn : ¬ n.data.toList ∈ T.vnames) : hasT n t = false := by
  cases t with
  | var x =>
    rw [hasT]
    exact eqB_false fun e => hn (by rw [T.Good] at h; rw [← e]; exact h)
  | con x l => rw [T.Good] at h; rw [hasT]; exact hass_good l h.2 n hn
  | fn a b => rw [T.Good] at h; rw [hasT, has_good a h.1 n hn, has_good b h.2 n hn]; rfl
  | all x a => rw [T.Good] at h; exact h.elim
theorem hass_good (l : List T) (h : T.Goods l) (n : ByteArray) (hn : ¬ n.data.toList ∈ T.vnames) : hasTs n l = false := by
  cases l with
  | nil => rw [hasTs]
  | cons a l => rw [T.Goods] at h; rw [hasTs, has_good a h.1 n hn, hass_good l h.2 n hn]; rfl
end

end Go.Proofs.Ythpphjkoiipkkaa
/- Two types as one: of the types that the statements make. -/
namespace Go.Proofs.Ythpphjkoiipkkaa

theorem br_ge2 (b : Bool) (s : List UInt8) : s.length ≤ (T.br b s).length := by
  unfold T.br; split <;> simp; omega
theorem vname_len {x : List UInt8} (h : x ∈ T.vnames) : 1 ≤ x.length := by
  simp [T.vnames] at h; rcases h with rfl | rfl | rfl <;> simp
theorem cname_len {x : List UInt8} (h : x ∈ T.cnames) : 1 ≤ x.length := by
  simp [T.cnames] at h; rcases h with rfl | rfl | rfl | rfl <;> simp
mutual
theorem tsize2_text (t : T) (h : T.Good t) : 2 * tsize t ≤ (T.text t).length + 1 := by
  cases t with
  | var n =>
    simp only [T.Good] at h
    have := vname_len h
    simp only [tsize, T.text]; omega
  | con n l =>
    simp only [T.Good] at h
    have h1 := cname_len h.1
    have h2 := tsizes2_texts l h.2
    simp only [tsize, T.text, List.length_append]; omega
  | fn a b =>
    simp only [T.Good] at h
    have h1 := tsize2_text a h.1
    have h2 := tsize2_text b h.2
    have h3 := br_ge2 a.arrow (T.text a)
    simp only [tsize, T.text, List.length_append, List.length_cons, List.length_nil]; omega
  | all n a => simp only [T.Good] at h
theorem tsizes2_texts (l : List T) (h : T.Goods l) : 2 * tsizes l ≤ (T.texts l).length := by
  cases l with
  | nil => simp [tsizes]
  | cons a r =>
    simp only [T.Goods] at h
    have h1 := tsize2_text a h.1
    have h2 := tsizes2_texts r h.2
    have h3 := br_ge2 a.wide (T.text a)
    simp only [tsizes, T.texts, List.length_append, List.length_cons, List.length_nil]; omega
end
theorem goods_mem {k : T} : ∀ {l : List T}, T.Goods l → k ∈ l → T.Good k
  | [], _, h => by cases h
  | a :: l, h, hk => by
    simp only [T.Goods] at h
    rcases List.mem_cons.1 hk with rfl | hk
    · exact h.1
    · exact goods_mem h.2 hk
theorem good_kid {t k : T} (h : T.Good t) (hk : k ∈ t.kids) : T.Good k := by
  cases t with
  | var n => cases hk
  | con n l => simp only [T.Good] at h; exact goods_mem h.2 hk
  | fn a b =>
    simp only [T.Good] at h
    simp [T.kids] at hk
    rcases hk with rfl | rfl
    · exact h.1
    · exact h.2
  | all n a => simp only [T.Good] at h
/-- The three variables of types that are made. -/
def V3 : List ByteArray := [⟨#[97]⟩, ⟨#[98]⟩, ⟨#[99]⟩]
theorem vname_in {n : ByteArray} (h : n.data.toList ∈ T.vnames) : n ∈ V3 := by
  have e : ∀ l : List UInt8, n.data.toList = l → n = ⟨l.toArray⟩ := fun l e => by
    cases n with | mk d => cases d; simp at e; rw [e]
  simp [T.vnames] at h
  rcases h with h | h | h
  · rw [e _ h]; simp [V3]
  · rw [e _ h]; simp [V3]
  · rw [e _ h]; simp [V3]
theorem good_in : ∀ t, T.Good t → TIn V3 t := by
  refine T.kidsInd fun t ih h x hx => ?_
  cases hv : t.isV with
  | true =>
    rw [isV_var hv] at h hx
    simp [vs] at hx
    subst hx
    exact vname_in (by simpa [T.Good] using h)
  | false =>
    obtain ⟨k, hk, hx⟩ := (vs_kids hv).1 hx
    exact ih k hk (good_kid h hk) x hx
/-- No variable is bound. -/
def NoAll (t : T) : Prop := ∀ x, hasT x t = true ↔ x ∈ vs t
theorem hasTs_any (x : ByteArray) : ∀ l : List T, hasTs x l = true ↔ ∃ k ∈ l, hasT x k = true
  | [] => by simp [hasTs]
  | a :: l => by rw [hasTs, Bool.or_eq_true, hasTs_any x l]; simp
theorem noAll_of {t : T} (h4 : t.kind ≠ 4) (hk : ∀ k ∈ t.kids, NoAll k) : NoAll t := by
  intro x
  cases t with
  | var n => rw [hasT, eqB_iff]; simp [vs, eq_comm]
  | con n l =>
    rw [hasT, hasTs_any, vs_kids rfl]
    exact ⟨fun ⟨k, h1, h2⟩ => ⟨k, h1, (hk k h1 x).1 h2⟩, fun ⟨k, h1, h2⟩ => ⟨k, h1, (hk k h1 x).2 h2⟩⟩
  | fn a b =>
    rw [hasT, Bool.or_eq_true, hk a (by simp [T.kids]) x, hk b (by simp [T.kids]) x]
    simp [vs]
  | all n a => exact absurd rfl h4
/-- No kind but the three, anywhere. -/
inductive Plain3 : T → Prop
  | mk (t : T) : t.kind ≠ 4 → (∀ k ∈ t.kids, Plain3 k) → Plain3 t
theorem Plain3.no {t : T} (h : Plain3 t) : NoAll t := by
  induction h with
  | mk t h _ ih => exact noAll_of h ih
theorem Plain3.kid {t k : T} (h : Plain3 t) (hk : k ∈ t.kids) : Plain3 k := by cases h with | mk _ _ h => exact h k hk
theorem Plain3.four {t : T} (h : Plain3 t) : t.kind ≠ 4 := by cases h; assumption
theorem good_plain : ∀ t, T.Good t → Plain3 t := by
  refine T.kidsInd fun t ih h => .mk t ?_ fun k hk => ih k hk (good_kid h hk)
  cases t with
  | all n a => simp only [T.Good] at h
  | _ => simp [T.kind]
theorem plain_sub {σ : Sg} : ∀ t, Plain3 t → (∀ y ∈ vs t, Plain3 (σ y)) → Plain3 (sub σ t) := by
  refine T.kidsInd fun t ih h hs => ?_
  cases hv : t.isV with
  | true =>
    rw [isV_var hv] at hs ⊢
    exact hs _ (by simp [vs])
  | false =>
    obtain ⟨a1, _, a3, _⟩ := sub_parts σ t hv
    refine .mk _ (by rw [a1]; exact h.four) fun k hk => ?_
    rw [a3] at hk
    obtain ⟨k0, hk0, rfl⟩ := List.mem_map.1 hk
    exact ih k0 hk0 (h.kid hk0) fun y hy => hs y ((vs_kids hv).2 ⟨k0, hk0, hy⟩)
theorem from_plain {O : T → Prop} {σ : Sg} (hF : FromU O σ) (hP : ∀ t, O t → Plain3 t) : ∀ n x, tsize (σ x) ≤ n → Plain3 (σ x) := by
  intro n
  induction n with
  | zero => intro x h; have := tsize_pos (σ x); omega
  | succ n ih =>
    intro x hx
    rcases hF x with hv | ⟨t, ht, hvt, et⟩
    · rw [isV_var hv]; exact .mk _ (by simp [T.kind]) fun k hk => by cases hk
    · rw [et]
      refine plain_sub t (hP t ht) fun y hy => ih y ?_
      have hlt : tsize (σ y) < tsize (σ x) := by rw [et]; exact size_sub_lt hvt hy
      omega
theorem size_sub_ge {σ : Sg} : ∀ t, tsize t ≤ tsize (sub σ t) := by
  refine T.kidsInd fun t ih => ?_
  cases hv : t.isV with
  | true => rw [isV_var hv]; exact tsize_pos _
  | false =>
    obtain ⟨_, _, a3, _⟩ := sub_parts σ t hv
    rw [tsize_eq t, tsize_eq (sub σ t), a3]
    have key : ∀ l : List T, (∀ k ∈ l, tsize k ≤ tsize (sub σ k)) → tsizes l ≤ tsizes (l.map (sub σ)) := by
      intro l
      induction l with
      | nil => intro _; simp [tsizes]
      | cons a l ih2 =>
        intro hl
        have h1 := hl a (by simp)
        have h2 := ih2 fun k hk => hl k (List.mem_cons_of_mem _ hk)
        rw [List.map_cons, tsizes, tsizes]; omega
    have := key t.kids ih
    omega
/-- Types that a statement starts with: closed under parts; of so many variables; never too great. -/
structure USet where
  V : List ByteArray
  O : T → Prop
  kid : ∀ t, O t → ∀ k ∈ t.kids, O k
  tin : ∀ t, O t → TIn V t
  var : ∀ x ∈ V, O (.var x)
  plain : ∀ t, O t → Plain3 t
  G : Sg → Prop
  P : T → T → Prop
  start : G T.var
  kids : ∀ a b, P a b → a.isV = false → b.isV = false → a.kids.length = b.kids.length → ∀ i (h1 : i < a.kids.length) (h2 : i < b.kids.length), P a.kids[i] b.kids[i]
  «at» : ∀ σ a b, G σ → P a b → P (sub σ a) (sub σ b)
  fin : ∀ f σ a b τ, Idem σ → G σ → P a b → uni f σ a b = some (.ok τ) → G τ
  le : ∀ σ, FromU O σ → G σ → ∀ t, O t → tsize (sub σ t) ≤ 900000000
  nm : ∀ x ∈ V, x.size ≤ 1000
  sz : ∀ t, O t → tsize t ≤ 400000
/-- Types of these variables, of at most so many parts. -/
def usetV (V : List ByteArray) (N : Nat) (h1 : 1 ≤ N) (h : N * N ^ V.length ≤ 900000000) (hn : ∀ x ∈ V, x.size ≤ 1000) (hN : N ≤ 400000) : USet where
  V := V
  O := fun t => TIn V t ∧ Plain3 t ∧ tsize t ≤ N
  kid := fun t ht k hk => ⟨fun x hx => by
      cases hv : t.isV with
      | true => rw [isV_var hv] at hk; cases hk
      | false => exact ht.1.kid hv hk x hx, ht.2.1.kid hk, by have := tsize_kid hk; have := ht.2.2; omega⟩
  tin := fun t ht => ht.1
  var := fun x hx => ⟨fun y hy => by simp [vs] at hy; exact hy ▸ hx, .mk _ (by simp [T.kind]) (fun k hk => by cases hk), by simpa [tsize] using h1⟩
  plain := fun t ht => ht.2.1
  G := fun _ => True
  P := fun _ _ => True
  start := trivial
  kids := fun _ _ _ _ _ _ _ _ _ => trivial
  «at» := fun _ _ _ _ _ => trivial
  fin := fun _ _ _ _ _ _ _ _ _ => trivial
  le := fun σ hF _ t ht => by
    have h0 : ∀ x ∈ V, tsize (σ x) ≤ N ^ V.length := fun x hx => from_le (V := V) (N := N) hF (fun t ht _ => ht.1) (fun t ht => ht.2.2) h1 hx
    have h2 := size_subs (σ := σ) (M := N ^ V.length) (Nat.one_le_pow _ _ h1) t fun y hy => h0 y (ht.1 y hy)
    have h3 := Nat.mul_le_mul_right (N ^ V.length) ht.2.2
    omega
  nm := hn
  sz := fun t ht => Nat.le_trans ht.2.2 hN
theorem v3_small : ∀ x ∈ V3, x.size ≤ 1000 := by
  intro x hx
  simp [V3] at hx
  rcases hx with rfl | rfl | rfl <;> decide
def uset3 : USet := usetV V3 107 (by decide) (by decide) v3_small (by decide)
theorem good_o3 {t : T} (h : T.Good t) (hs : tsize t ≤ 107) : uset3.O t := ⟨good_in t h, good_plain t h, hs⟩
/-- What was found so far, of types that a statement makes. -/
structure UInv (S : USet) (σ : Sg) : Prop where
  idem : Idem σ
  src : FromU S.O σ
  vin : VIn S.V σ
  good : S.G σ
theorem uinv_var (S : USet) : UInv S T.var := ⟨idem_var, from_var _, vin_var _, S.start⟩
/-- A type within what was made, with what was found so far in it. -/
def UArg (S : USet) (σ : Sg) (a : T) : Prop := InstU S.O σ a
theorem UInv.var_le {S : USet} {σ : Sg} (h : UInv S σ) {x : ByteArray} (hx : x ∈ S.V) : tsize (σ x) ≤ 900000000 := S.le σ h.src h.good (.var x) (S.var x hx)
theorem UInv.plain {S : USet} {σ : Sg} (h : UInv S σ) {t : T} (ht : S.O t) : Plain3 (sub σ t) :=
  plain_sub t (S.plain t ht) fun y _ => from_plain h.src S.plain _ y (Nat.le_refl _)
theorem UArg.le {S : USet} {σ : Sg} {a : T} (h : UArg S σ a) (hi : UInv S σ) : tsize (sub σ a) ≤ 900000000 ∧ tsize a ≤ 900000000 := by
  obtain ⟨o, ho, e⟩ := h
  have h1 := S.le σ hi.src hi.good o ho
  rw [← e] at h1
  exact ⟨h1, Nat.le_trans (size_sub_ge a) h1⟩
theorem UArg.plain {S : USet} {σ : Sg} {a : T} (h : UArg S σ a) (hi : UInv S σ) : Plain3 (sub σ a) := by
  obtain ⟨o, ho, e⟩ := h
  rw [e]; exact hi.plain ho
theorem UArg.tin {S : USet} {σ : Sg} {a : T} (h : UArg S σ a) (hi : UInv S σ) : TIn S.V (sub σ a) := by
  obtain ⟨o, ho, e⟩ := h
  rw [e]; exact hi.vin.sub (S.tin o ho)
theorem UArg.ext {S : USet} {σ τ : Sg} {a : T} (h : UArg S σ a) (hi : UInv S σ) (he : ExtU σ τ) : UArg S τ a := InstU.ext h he hi.idem
theorem UArg.kid {S : USet} {σ : Sg} {a k : T} (h : UArg S σ a) (hi : UInv S σ) (hv : (sub σ a).isV = false) (hk : k ∈ (sub σ a).kids) : UArg S σ k := InstU.kid S.kid h hi.src hi.idem hv hk
theorem UArg.of {S : USet} {σ : Sg} {a : T} (h : S.O a) : UArg S σ a := ⟨a, h, rfl⟩
/-- Pairs that say what was found, none twice, of these variables. -/
structure PInv (S : USet) (d : List PR) (σ : Sg) : Prop where
  is : IsSg d σ
  each : ∀ x ∈ d, x.n ∈ S.V ∧ x.t = σ x.n
  few : d.length + uns S.V σ ≤ S.V.length
theorem pinv_nil (S : USet) : PInv S [] T.var := ⟨isSg_nil, (fun _ h => nomatch h), by have := List.length_filter_le (fun x => @decide (T.var x = .var x) (Classical.propDecidable _)) S.V; simpa [uns] using this⟩
theorem PInv.len {S : USet} {d : List PR} {σ : Sg} (h : PInv S d σ) : d.length ≤ S.V.length := by have := h.few; omega
theorem PInv.sized {S : USet} {d : List PR} {σ : Sg} (h : PInv S d σ) (hi : UInv S σ) : ∀ x ∈ d, tsize x.t ≤ 900000000 := fun x hx => by
  rw [(h.each x hx).2]; exact hi.var_le (h.each x hx).1
/-- One more pair, as the document's Then and as the program's make it. -/
theorem PInv.bind {S : USet} {d q : List PR} {σ τ : Sg} {p : PR} (h : PInv S d σ) (hb : Binds σ p.n p.t τ) (hx : p.n ∈ S.V) (hq : ∀ y ∈ q, (∃ x ∈ d, y.n = x.n ∧ y.t = app [p] x.t) ∨ y.n = p.n ∧ y.t = p.t) (hl : q.length ≤ d.length + 1) (ht : ∀ n, ty n q = app [p] (ty n d)) : PInv S q τ := by
  have ha : ∀ t, app [p] t = sub (one p.n p.t) t := fun t => by rw [app_sub]; exact sub_ext t fun n _ => ty_one n p
  refine ⟨fun n => ?_, fun y hy => ?_, ?_⟩
  · rw [ht, h.is n, ha, hb.new]
  · rcases hq y hy with ⟨x, hx, e1, e2⟩ | ⟨e1, e2⟩
    · rw [e1, e2, (h.each x hx).2, ha, hb.new]
      exact ⟨(h.each x hx).1, rfl⟩
    · rw [e1, e2, hb.new]
      refine ⟨hx, ?_⟩
      show p.t = sub (one p.n p.t) (σ p.n)
      rw [hb.free]
      exact (one_at p.n p.t).symm
  · have h1 := hb.fewer (V := S.V) hx
    have h2 := h.few
    omega
end Go.Proofs.Ythpphjkoiipkkaa
/- The document's get: the first of a name. -/
namespace Go.Proofs.Ythpphjkoiipkkaa
open Go.RowKit Go.Sort Go.Lib
attribute [local go_sem] Oper.semAt_some

theorem RowG.lt {T : TypeId} {g : Nat} {l : List PR} {w : World} (h : RowG T g l w) : g < w.heap.size := by
  obtain ⟨cs, h1, _⟩ := h; exact (Array.getElem?_eq_some_iff.1 h1).1
theorem RowG.same {T : TypeId} {g : Nat} {l : List PR} {w w' : World} (h : RowG T g l w) (k : w'.heap[g]? = w.heap[g]?) : RowG T g l w' := by
  obtain ⟨cs, h1, h2⟩ := h; exact ⟨cs, k.trans h1, h2⟩
theorem RowG.below {T : TypeId} {g : Nat} {l : List PR} {w w' : World} (h : RowG T g l w) (k : Below w.heap.size w w') : RowG T g l w' := h.same (k.block g h.lt)
theorem RowG.cells {T : TypeId} {g : Nat} {l : List PR} {w : World} (h : RowG T g l w) {i : Nat} (hi : i < l.length) :
    w.cell? ⟨g, i * 4, none⟩ = some (.string (l.getD i noP).n) ∧ w.cell? ⟨g, i * 4 + 1, none⟩ = some (.int .i64 (l.getD i noP).t.kind) ∧ w.cell? ⟨g, i * 4 + 2, none⟩ = some (.string (l.getD i noP).t.name) ∧ w.cell? ⟨g, i * 4 + 3, none⟩ = some (.slice (l.getD i noP).a (l.getD i noP).t.kids.length (l.getD i noP).c) := by
  obtain ⟨cs, h1, _, h3⟩ := h
  rw [Lib.cell_of_heap h1, Lib.cell_of_heap h1, Lib.cell_of_heap h1, Lib.cell_of_heap h1]
  exact h3 i hi
theorem GivenG.shape {T : TypeId} {v : Value} {d : List PR} {w : World} (h : GivenG T v d w) : ∃ a c, v = .slice a d.length c ∧ ∀ i, i < d.length → ∃ g, a = some ⟨g, 0, none⟩ ∧ RowG T g d w := by
  rcases h with ⟨rfl, rfl⟩ | ⟨_, g, cap, rfl, hr⟩
  · exact ⟨none, 0, rfl, fun i hi => absurd hi (Nat.not_lt_zero _)⟩
  · exact ⟨_, cap, rfl, fun i _ => ⟨g, rfl, hr⟩⟩
theorem GivenG.below {T : TypeId} {v : Value} {d : List PR} {w w' : World} (h : GivenG T v d w) (hb : Below w.heap.size w w') : GivenG T v d w' := by
  rcases h with h | ⟨h0, g, cap, e, hr⟩
  · exact .inl h
  · exact .inr ⟨h0, g, cap, e, hr.below hb⟩
theorem lk_ahead (n : ByteArray) : ∀ (l : List PR) (i : Nat), i < l.length → (∀ j, j < i → (l.getD j noP).n ≠ n) → (l.getD i noP).n = n → lk n l = some (l.getD i noP)
  | [], i, hi, _, _ => absurd hi (Nat.not_lt_zero _)
  | x :: l, 0, _, _, h => by rw [lk_cons]; exact if_pos h
  | x :: l, i + 1, hi, ha, h => by
    rw [lk_cons, if_neg (show ¬ x.n = n from ha 0 (Nat.succ_pos _))]
    exact lk_ahead n l i (by simpa using hi) (fun j hj => ha (j + 1) (by omega)) h
theorem lk_none (n : ByteArray) : ∀ (l : List PR), (∀ j, j < l.length → (l.getD j noP).n ≠ n) → lk n l = none
  | [], _ => rfl
  | x :: l, ha => by
    rw [lk_cons, if_neg (show ¬ x.n = n from ha 0 (Nat.succ_pos _))]
    exact lk_none n l (fun j hj => ha (j + 1) (by simpa using hj))

theorem next_none {d : List PR} {n : ByteArray} {i : Nat} (hA : ∀ j, j < i → (d.getD j noP).n ≠ n) (h : (d.getD i noP).n ≠ n) : ∀ j, j < i + 1 → (d.getD j noP).n ≠ n := by
  intro j hj
  by_cases e : j = i
  · rw [e]; exact h
  · exact hA j (by omega)
set_option maxRecDepth 100000 in
set_option maxHeartbeats 2000000 in
theorem rget_any (v : Value) (d : List PR) (n : ByteArray) (w : World) (h : GivenG 63 v d w) (hl : d.length < 1152921504606846976) :
    Calls Try.prog 27 #[v, .string n] w fun e w' => e = .returned (.tuple #[fv' (lk n d), .bool (lk n d).isSome]) ∧ Below w.heap.size w w' := by
  obtain ⟨a, c, rfl, hr⟩ := h.shape
  have HR := Lib.hid hr
  have HB0 := Lib.hid (fun o => (Below.refl _ w).alloc (Nat.le_refl _) o)
  clear h hr
  obtain ⟨res, hres⟩ : ∃ r, lk n d = r := ⟨_, rfl⟩
  have HRes := Lib.hid hres
  rw [hres]
  clear hres
  go_enter Try.func27, Try.ntmps27
  go_wp2
  go_loopw [6] (fun vi wr => ∃ i : Nat, i ≤ d.length ∧ vi = .int .i64 i ∧ Hid (∀ j, j < i → (d.getD j noP).n ≠ n) ∧ Hid (Below w.heap.size w wr) ∧ Hid (wr.heap[w.heap.size]? = some (.cells #[.int .i64 0, .string ⟨#[]⟩, .slice none 0 0] 26 (0, 0)))) (fun vi _ => d.length - (intOf vi).toNat)
  case atStart => exact ⟨0, Nat.zero_le _, rfl, Lib.hid (fun j hj => absurd hj (Nat.not_lt_zero _)), Lib.hid (HB0.out _), Lib.hid (alloc_new w _)⟩
  case round =>
    obtain ⟨i, hi, rfl, hA, hB, hZ⟩ := hrel
    obtain ⟨z0, z1, z2⟩ := three_cells hZ.out
    have u0 := Lib.frozen_of_heap hZ.out 0
    have u1 := Lib.frozen_of_heap hZ.out 1
    have u2 := Lib.frozen_of_heap hZ.out 2
    have lz := (Array.getElem?_eq_some_iff.1 hZ.out).1
    by_cases hlt : i < d.length
    · obtain ⟨g, rfl, hr⟩ := HR.out i hlt
      obtain ⟨x0, x1, x2, x3⟩ := (hr.below hB.out).cells hlt
      have hiz : (i : Int) < (d.length : Int) := by omega
      have HN := Lib.hid (fun h => lk_ahead n d i hlt hA.out h)
      have HE := Lib.hid (next_none (d := d) (n := n) hA.out)
      clear hr HR
      generalize d.getD i noP = x at x0 x1 x2 x3 HN HE
      by_cases hq : x.n = n
      · have hqB : (x.n.toList == n.toList) = true := by rw [bytes_beq]; exact eqB_true hq
        have hs : res = some x := by rw [← HRes.out]; exact HN.out hq
        subst hs
        clear HRes HN HE hq
        go_wp2
        have hs3 := set3_block hZ.out (.int .i64 x.t.kind) (.string x.t.name) (.slice x.a x.t.kids.length x.c)
        have hc := three_cells hs3
        refine bodyPost_ret (v := .tuple #[.agg #[.int .i64 x.t.kind, .string x.t.name, .slice x.a x.t.kids.length x.c], .bool true]) (by simp [results, Try.results27, go_sem, hc.1, hc.2.1, hc.2.2]) rfl ⟨rfl, below_set3 hB.out (Nat.le_refl _) _ _ _⟩
      · have hqB : (x.n.toList == n.toList) = false := by rw [bytes_beq]; exact eqB_false hq
        have HQ := Lib.hid hq
        clear hq HN
        go_wp2
        go_roundw
        case rel => exact ⟨i + 1, by omega, by go_num, Lib.hid (HE.out HQ.out), hB, hZ⟩
        case measure => simp [intOf]; omega
    · obtain rfl : i = d.length := by omega
      have hs : res = none := by rw [← HRes.out]; exact lk_none n d hA.out
      subst hs
      clear HRes HR
      go_wp2
      have hs3 := set3_block hZ.out (.int .i64 0) (.string ⟨#[]⟩) (.slice none 0 0)
      have hc := three_cells hs3
      refine bodyPost_ret (v := .tuple #[.agg #[.int .i64 0, .string ⟨#[]⟩, .slice none 0 0], .bool false]) (by simp [results, Try.results27, go_sem, hc.1, hc.2.1, hc.2.2]) rfl ⟨rfl, below_set3 hB.out (Nat.le_refl _) _ _ _⟩
end Go.Proofs.Ythpphjkoiipkkaa
