/- Merged: SbOthersR, SbIter, SbGet, SbPairs, SbThen, RegLast, SbThenA, SbThenB, SbNext. -/
import Derived.Test.YthpphjkoiipkkaaDoorUm10
import Derived.Stop.RegionWithIn
import Derived.OwnWalkIn
import Derived.TacticsInMore
import Derived.LoopNIn
import Derived.LoopIn
import Derived.Deep.RegionLaw
import Derived.Test.YthpphjkoiipkkaaDoorUm4
/- SubstOthers: its last statement, a region of 42 operations that draws its order, by an invariant. (Made by a program.) -/
namespace Go.Proofs.YthpphjkoiipkkaaDoor
open Go.RowKit Go.Sort Go.Lib
attribute [local go_sem] Oper.semAt_some

def regionIn : Nat → Code → Array Oper
  | n, .region id ops _ => if id == n then ops else #[]
  | n, .seq a b => regionIn n a ++ regionIn n b
  | n, .cond _ a b => regionIn n a ++ regionIn n b
  | n, .block _ b => regionIn n b
  | n, .loop b => regionIn n b
  | n, .rangeFunc _ _ a b => regionIn n a ++ regionIn n b
  | n, .scope b => regionIn n b
  | _, _ => #[]
theorem depOf {o : Oper} {Vals : Nat → Value → World → Prop} {x : Nat → Value} {V : World} (h : ∀ e ∈ o.after, Region.binds .any e = true → Vals e.on (x e.on) V) (j : Nat)
    (hj : (o.after.any fun e => Region.binds .any e && e.on == j) = true) : Vals j (x j) V := by
  rw [Array.any_eq_true'] at hj
  obtain ⟨e, he, hj⟩ := hj
  simp only [Bool.and_eq_true, beq_iff_eq] at hj
  have := h e he hj.1
  rw [hj.2] at this; exact this
theorem kfit {K : Act → World → Prop} {a a' : Act} {w : World} (h : K a w) (e : a = a') : K a' w := e ▸ h
theorem run_bare {P : Program} {o : Oper} {ops : Array Oper} {a : Act} {w : World} {K : Act → World → Prop} {Q : Exit → Act → World → Prop} {C : Prop} (hg : o.guard = none) (h : Oper.wp P o a w K Q) :
    if Region.wanted o (yielded ops a.tmps) = true then Oper.wp P o a w K Q else C := by
  rw [if_pos (by simp [Region.wanted, hg])]; exact h
theorem run_guard {P : Program} {o : Oper} {ops : Array Oper} {a : Act} {w : World} {K : Act → World → Prop} {Q : Exit → Act → World → Prop} {C : Prop} (g k : Nat) (v : Value) (hg : o.guard = some (g, true))
    (hk : (ops[g]?).bind (·.dst) = some k) (hv : a.tmps[k]? = some v) (e : v = .bool true) (h : Oper.wp P o a w K Q) :
    if Region.wanted o (yielded ops a.tmps) = true then Oper.wp P o a w K Q else C := by
  rw [if_pos (by simp [Region.wanted, hg, yielded, hk, hv, e])]; exact h
theorem below_a (X : World) (o : Obj) : Below X.heap.size X (X.alloc o) := (Below.refl _ X).alloc (Nat.le_refl _) o
theorem below_d (X : World) : Below X.heap.size X X.drew := (Below.refl _ X).drew

def othFr (b : Nat → Value) (d : List Deferred) (x : Nat → Value) : Act := { tmps := #[b 0, b 1, x 41, b 3, b 4, b 5, b 6, b 7, b 8, b 9, b 10, b 11, b 12, b 13, b 14, b 15, b 16, b 17, b 18, b 19, b 20, b 21, b 22, b 23, b 24, b 25, b 26, b 27, b 28, b 29, b 30, b 31, b 32, b 33, b 34, b 35, b 36, b 37, b 38, b 39, b 40, b 41, x 0, x 1, x 2, x 3, x 4, x 5, x 6, x 7, x 8, x 9, x 10, x 11, x 12, x 13, x 14, x 15, x 16, x 17, x 18, x 19, x 20, x 21, x 22, x 23, x 24, x 25, x 26, x 27, x 28, x 29, x 30, x 31, x 32, x 33, x 34, x 35, x 36, x 37, x 38, x 39, x 40], defers := d }

def othVals (t sw r1 : T) (pa pw : Option Addr) (ca cw : Nat) (sv uv frv tov : Value) (ts : Nat) (i : Nat) (v : Value) (V : World) : Prop :=
  match i with
  | 0 => v = .bool true
  | 1 => v = .bool true
  | 2 => v = .agg #[sv]
  | 3 => v = .agg #[.int .i64 (sw).kind, .string (sw).name, .slice pw (sw).kids.length cw]
  | 4 => ∃ za zc, v = .agg #[.int .i64 (t).kind, .string (t).name, .slice za (t).kids.length zc] ∧ TysAt V (.slice za (t).kids.length zc) (t).kids
  | 5 => v = .agg #[.int .i64 (t).kind, .string (t).name, .slice pa (t).kids.length ca]
  | 6 => v = .bool true
  | 7 => v = .bool true
  | 8 => v = .bool true
  | 9 => v = .agg #[uv]
  | 10 => v = .agg #[.int .i64 (t).kind, .string (t).name, .slice pa (t).kids.length ca]
  | 11 => ∃ za zc, v = .agg #[.int .i64 (t).kind, .string (t).name, .slice za (t).kids.length zc] ∧ TysAt V (.slice za (t).kids.length zc) (t).kids
  | 12 => v = .agg #[.int .i64 (t).kind, .string (t).name, .slice pa (t).kids.length ca]
  | 13 => v = .bool true
  | 14 => v = .bool true
  | 15 => v = .bool true
  | 16 => v = .agg #[.int .i64 (t).kind, .string (t).name, .slice pa (t).kids.length ca]
  | 17 => v = frv
  | 18 => v = tov
  | 19 => ∃ za zc, v = .agg #[.int .i64 (r1).kind, .string (r1).name, .slice za (r1).kids.length zc] ∧ TysAt V (.slice za (r1).kids.length zc) (r1).kids
  | 20 => v = tov
  | 21 => v = frv
  | 22 => ∃ za zc, v = .agg #[.int .i64 (t).kind, .string (t).name, .slice za (t).kids.length zc] ∧ TysAt V (.slice za (t).kids.length zc) (t).kids
  | 23 => v = .agg #[.int .i64 (t).kind, .string (t).name, .slice pa (t).kids.length ca]
  | 24 => v = .bool true
  | 25 => v = .bool true
  | 26 => v = .bool true
  | 27 => v = .agg #[.int .i64 (t).kind, .string (t).name, .slice pa (t).kids.length ca]
  | 28 => ∃ zk, v = .slice (some ⟨zk, 0, none⟩) 2 2 ∧ StrsP (.slice (some ⟨zk, 0, none⟩) 2 2) [⟨#[97]⟩, ⟨#[98]⟩] V
  | 29 => ∃ zk, v = .slice (some ⟨zk, 0, none⟩) 2 2 ∧ StrsP (.slice (some ⟨zk, 0, none⟩) 2 2) [⟨#[98]⟩, ⟨#[97]⟩] V
  | 30 => ∃ za zc, v = .agg #[.int .i64 (sw).kind, .string (sw).name, .slice za (sw).kids.length zc] ∧ TysAt V (.slice za (sw).kids.length zc) (sw).kids
  | 31 => v = .agg #[.int .i64 (sw).kind, .string (sw).name, .slice pw (sw).kids.length cw]
  | 32 => v = .bool true
  | 33 => v = .bool true
  | 34 => v = .bool true
  | 35 => v = .agg #[.int .i64 (sw).kind, .string (sw).name, .slice pw (sw).kids.length cw]
  | 36 => v = .int .i64 (ts : Nat)
  | 37 => v = .agg #[.int .i64 (t).kind, .string (t).name, .slice pa (t).kids.length ca]
  | 38 => v = .int .i64 (ts : Nat)
  | 39 => v = .bool true
  | 40 => v = .bool true
  | 41 => v = .bool true
  | _ => True

theorem othVals_keep {t sw r1 : T} {pa pw : Option Addr} {ca cw : Nat} {sv uv frv tov : Value} {ts : Nat} (i : Nat) (v : Value) (V Y : World) (h : othVals t sw r1 pa pw ca cw sv uv frv tov ts i v V) (hb : Below V.heap.size V Y) : othVals t sw r1 pa pw ca cw sv uv frv tov ts i v Y := by
  unfold othVals at *
  split at h <;> first
    | exact h
    | (obtain ⟨za, zc, e, h⟩ := h; exact ⟨za, zc, e, h.keep (KeepT.of_below hb)⟩)
    | (obtain ⟨zk, e, h⟩ := h; exact ⟨zk, e, h.below hb⟩)

end Go.Proofs.YthpphjkoiipkkaaDoor
/- (Subst).Pairs: the pairs, told one by one. -/
namespace Go.Proofs.YthpphjkoiipkkaaDoor
open Go.RowKit Go.Sort Go.Lib
attribute [local go_sem] Oper.semAt_some

def encQ (x : PR) : Array Value := #[.string x.n, .agg #[.int .i64 x.t.kind, .string x.t.name, .slice x.a x.t.kids.length x.c]]
/-- What is told is the next one of the row; its rows are new since the last round. -/
def ExQ (d : List PR) (pre : List PR) (x : PR) (X0 X : World) : Prop := TyIn (fun k => X0.heap.size ≤ k) X x.t (.slice x.a x.t.kids.length x.c) ∧ (pre.length < d.length ∧ x.n = (d.getD pre.length noP).n ∧ x.t = (d.getD pre.length noP).t)
/-- Rows of types, all of them in blocks that are ok. -/
theorem TyAt.inside {ok : Nat → Prop} {w : World} (hk : ∀ (k : Nat) (cs : Array Value) (fz : Nat × Nat), w.heap[k]? = some (.cells cs 29 fz) → ok k) {t : T} {k n v : Value} (h : TyAt w t k n v) : TyIn ok w t v := by
  induction h with
  | leaf t a c h => exact .leaf t a c h
  | row t g cap cs fz x y z h1 h2 h3 h4 ih =>
    refine .row t g cap cs fz z (hk _ _ _ h1) h1 h2 (fun i hi => ?_) ih
    obtain ⟨e1, e2, _⟩ := (h4 i hi).shape
    obtain ⟨c1, c2, c3⟩ := h3 i hi
    exact ⟨by rw [c1, e1], by rw [c2, e2], c3⟩
theorem TysAt.inside {ok : Nat → Prop} {w : World} (hk : ∀ (k : Nat) (cs : Array Value) (fz : Nat × Nat), w.heap[k]? = some (.cells cs 29 fz) → ok k) {t : T} {v : Value} (h : TysAt w v t.kids) : TyIn ok w t v := (TyAt.mk t h).inside hk
def KeepK (K : Nat → Prop) (X W : World) : Prop := ∀ k, K k → k < X.heap.size → W.heap[k]? = X.heap[k]?
theorem KeepK.trans {K : Nat → Prop} {X Y Z : World} (h : KeepK K X Y) (k : KeepK K Y Z) (hs : X.heap.size ≤ Y.heap.size) : KeepK K X Z := fun i hi hx => (k i hi (by omega)).trans (h i hi hx)
theorem KeepK.of_below {K : Nat → Prop} {X Y : World} (h : Below X.heap.size X Y) : KeepK K X Y := fun i _ hx => h.block i hx
theorem TyIn.keepK {K : Nat → Prop} {X W : World} {t : T} {v : Value} (h : TyIn K X t v) (hk : KeepK K X W) : TyIn K W t v := h.keep fun k _ _ h1 h2 => (hk k h1 (Array.getElem?_eq_some_iff.1 h2).1).trans h2
/-- The row of pairs that the iterator goes through: in blocks of K. -/
def Src (K : Nat → Prop) (a : Option Addr) (d : List PR) (w : World) : Prop := (∀ i, i < d.length → ∃ g, a = some ⟨g, 0, none⟩ ∧ K g ∧ RowP g d w) ∧ ∀ x ∈ d, TyIn K w x.t (.slice x.a x.t.kids.length x.c)
theorem Src.keepK {K : Nat → Prop} {a : Option Addr} {d : List PR} {X W : World} (h : Src K a d X) (hk : KeepK K X W) : Src K a d W :=
  ⟨fun i hi => by obtain ⟨g, e, h1, h2⟩ := h.1 i hi; exact ⟨g, e, h1, h2.same (hk g h1 h2.lt)⟩, fun x hx => (h.2 x hx).keepK hk⟩
theorem Src.of {K : Nat → Prop} {a : Option Addr} {n c : Nat} {d : List PR} {w : World} (h : SubAt (.slice a n c) d w) (h1 : ∀ (k : Nat) (cs : Array Value) (fz : Nat × Nat), w.heap[k]? = some (.cells cs 29 fz) → K k)
    (h2 : ∀ (k : Nat) (cs : Array Value) (fz : Nat × Nat), w.heap[k]? = some (.cells cs 93 fz) → K k) : Src K a d w := by
  obtain ⟨⟨hs, _⟩, ht⟩ := h
  refine ⟨fun i hi => ?_, fun x hx => (ht x hx).inside h1⟩
  rcases hs with ⟨rfl, _⟩ | ⟨g, cap, e, _, hr⟩
  · cases hi
  · simp only [Value.slice.injEq] at e
    have hr0 := hr
    obtain ⟨cs, hg, _⟩ := hr
    exact ⟨g, e.1, h2 g _ _ hg, hr0⟩
end Go.Proofs.YthpphjkoiipkkaaDoor
/- (Subst).Get. -/
namespace Go.Proofs.YthpphjkoiipkkaaDoor
open Go.RowKit Go.Sort Go.Lib
attribute [local go_sem] Oper.semAt_some

end Go.Proofs.YthpphjkoiipkkaaDoor
/- The law's pairs, made of numbers. -/
namespace Go.Proofs.YthpphjkoiipkkaaDoor
open Go.RowKit Go.Sort Go.Lib
attribute [local go_sem] Oper.semAt_some

theorem Tryd.infoRefPair : (Tryd.prog.info? 53).map (fun i => (i.zero, i.size, i.bytes)) = some (some (.agg zeroP), 4, 64) := by kernel_rfl
/-- The cells of a row of pairs. -/
def cellsP (d : List PR) : List Value := d.flatMap encP
theorem cellsP_snoc (d : List PR) (x : PR) : cellsP (d ++ [x]) = cellsP d ++ encP x := by simp [cellsP]
theorem cellsP_len : ∀ d : List PR, (cellsP d).length = d.length * 4
  | [] => rfl
  | x :: d => by
    have := cellsP_len d
    simp only [cellsP, List.flatMap_cons, List.length_append, encP_len, List.length_cons] at this ⊢
    omega
theorem cellsP_at (d : List PR) (i j : Nat) (hi : i < d.length) (hj : j < 4) : (cellsP d)[i * 4 + j]? = (encP (d.getD i noP))[j]? := by
  induction d generalizing i with
  | nil => cases hi
  | cons a r ih =>
    cases i with
    | zero =>
      have : (encP a ++ cellsP r)[j]? = (encP a)[j]? := List.getElem?_append_left (by rw [encP_len]; omega)
      simpa [cellsP] using this
    | succ i =>
      have e : (i + 1) * 4 + j = (encP a).length + (i * 4 + j) := by rw [encP_len]; omega
      have h1 : (encP a ++ cellsP r)[(encP a).length + (i * 4 + j)]? = (cellsP r)[i * 4 + j]? := by rw [List.getElem?_append_right (by omega)]; congr 1; omega
      have h2 := ih i (by simpa using hi)
      rw [e]
      simpa [cellsP, List.getD] using h1.trans h2
/-- As RowP, whatever the row's type is. -/
def RowG (T : TypeId) (g : Nat) (l : List PR) (w : World) : Prop :=
  ∃ cs, w.heap[g]? = some (.cells cs T (0, 0)) ∧ l.length * 4 ≤ cs.size ∧ ∀ i, i < l.length →
    cs[i * 4]? = some (.string (l.getD i noP).n) ∧ cs[i * 4 + 1]? = some (.int .i64 (l.getD i noP).t.kind) ∧ cs[i * 4 + 2]? = some (.string (l.getD i noP).t.name) ∧ cs[i * 4 + 3]? = some (.slice (l.getD i noP).a (l.getD i noP).t.kids.length (l.getD i noP).c)
theorem RowG.row {g : Nat} {l : List PR} {w : World} (h : RowG 93 g l w) : RowP g l w := h
/-- A list of pairs as the law makes it. -/
def GivenG (T : TypeId) (v : Value) (d : List PR) (w : World) : Prop := (d = [] ∧ v = .slice none 0 0) ∨ (d ≠ [] ∧ ∃ g cap, v = .slice (some ⟨g, 0, none⟩) d.length cap ∧ RowG T g d w)
theorem given_of_row {T : TypeId} {W : World} {base : Nat} {v : Value} {d : List PR} (h : W.ownsRow base T 4 v d.length (cellsP d)) (h0 : d = [] → v = .slice none 0 0) : GivenG T v d W := by
  by_cases hd : d = []
  · exact .inl ⟨hd, h0 hd⟩
  · rcases h.2 with ⟨rfl, hn0⟩ | ⟨g, cap, cur, rfl, _, hg, hc, hm, hcs, htk⟩
    · exact absurd (List.length_eq_zero_iff.1 hn0) hd
    · refine .inr ⟨hd, g, cap, rfl, cur, hg, by rw [hcs]; exact Nat.mul_le_mul_right 4 hc, fun i hi => ?_⟩
      have cell : ∀ j, j < 4 → cur[i * 4 + j]? = (encP (d.getD i noP))[j]? := fun j hj => by
        have hlt : i * 4 + j < d.length * 4 := by omega
        rw [← cellsP_at d i j hi hj, ← htk, List.getElem?_take, if_pos hlt, Array.getElem?_toList]
      exact ⟨(cell 0 (by omega)).trans rfl, (cell 1 (by omega)).trans rfl, (cell 2 (by omega)).trans rfl, (cell 3 (by omega)).trans rfl⟩
theorem own_keep {w w' : World} {p base : Nat} {e : TypeId} {size : Nat} {v : Value} {n : Nat} {xs : List Value} (h : w.ownsRow base e size v n xs) (hk : ∀ k o, w.heap[k]? = some o → k ≠ p → w'.heap[k]? = some o) (hp : p < base) : w'.ownsRow base e size v n xs := by
  refine ⟨h.1, ?_⟩
  rcases h.2 with h | ⟨g, cap, cur, rfl, hb, hg, r⟩
  · exact .inl h
  · exact .inr ⟨g, cap, cur, rfl, hb, hk g _ hg (by omega), r⟩
theorem KeepT.grown {W W' : World} {base : Nat} {e : TypeId} {size : Nat} {v : Value} {n : Nat} {xs : List Value} (hg : W.grownBy W' v.ownBlock) (h : W.ownsRow base e size v n xs) (he : e ≠ 29) : KeepT W W' := by
  intro k cs fz hk
  refine (hg.block k (Array.getElem?_eq_some_iff.1 hk).1 fun ee => ?_).trans hk
  rcases h.2 with ⟨rfl, _⟩ | ⟨g, cap, cur, rfl, _, hgb, _⟩
  · cases ee
  · obtain rfl : k = g := by simpa [Value.ownBlock] using ee
    rw [hk] at hgb
    cases hgb
    exact he rfl
theorem row_val {W : World} {base : Nat} {e : TypeId} {size : Nat} {v : Value} {n : Nat} {xs : List Value} (h : W.ownsRow base e size v n xs) : ∃ a c, v = .slice a n c := by
  rcases h.2 with ⟨rfl, rfl⟩ | ⟨g, cap, _, rfl, _⟩
  · exact ⟨_, _, rfl⟩
  · exact ⟨_, _, rfl⟩
theorem cell_new4 (w : World) (x y z u : Value) (t : TypeId) : ∀ j v, [x, y, z, u][j]? = some v → (w.alloc (.cells #[x, y, z, u] t)).cell? ((⟨w.heap.size, 0, none⟩ : Addr).add j) = some v := by
  intro j v hv
  have hadd : (⟨w.heap.size, 0, none⟩ : Addr).add j = ⟨w.heap.size, j, none⟩ := by unfold Addr.add; split <;> simp_all
  rw [hadd]
  have := alloc_new w (.cells #[x, y, z, u] t)
  simp only [World.cell?, this]
  match j, hv with
  | 0, hv => simpa using hv
  | 1, hv => simpa using hv
  | 2, hv => simpa using hv
  | 3, hv => simpa using hv
  | n + 4, hv => simp at hv

theorem rows_apart {W : World} {b1 b2 : Nat} {e1 e2 : TypeId} {s1 s2 n1 n2 : Nat} {v1 v2 : Value} {x1 x2 : List Value} (h1 : W.ownsRow b1 e1 s1 v1 n1 x1) (h2 : W.ownsRow b2 e2 s2 v2 n2 x2) (he : e1 ≠ e2) : v1.ownBlock = none ∨ v1.ownBlock ≠ v2.ownBlock := by
  rcases h1.2 with ⟨rfl, _⟩ | ⟨g, cap, cur, rfl, _, hg, _⟩
  · exact .inl rfl
  · refine .inr fun e => ?_
    rcases h2.2 with ⟨rfl, _⟩ | ⟨g', cap', cur', rfl, _, hg', _⟩
    · cases e
    · obtain rfl : g = g' := by simpa [Value.ownBlock] using e
      rw [hg] at hg'
      cases hg'
      exact he rfl
theorem cell_new4' (w : World) (o : Obj) (x y z u : Value) (t : TypeId) : ∀ j v, [x, y, z, u][j]? = some v → ((w.alloc o).alloc (.cells #[x, y, z, u] t)).cell? ((⟨w.heap.size + 1, 0, none⟩ : Addr).add j) = some v := by
  have := cell_new4 (w.alloc o) x y z u t
  simpa using this
/-- What the law's pairs hand back. -/
def MadeL (B p : Nat) (a : Option Addr) (n c k : Nat) (w : World) (e : Ending) (w' : World) : Prop :=
  (∃ d v u, e = .returned (.tuple #[v, u]) ∧ (d.length ≤ 4 ∧ ∀ x ∈ d, T.Good x.t ∧ Fits x.t ∧ (T.text x.t).length + 10 ≤ 56) ∧ (GivenG 93 v d w' ∧ GivenG 53 u d w') ∧ Typ d w') ∧ (∃ k', k' ≤ k + 40 ∧ SeqAt B p a n c k' w') ∧ MkFr B p w w'
theorem four_at {w : World} {b : Nat} {x y z u : ByteArray} {T : TypeId} {fz : Nat × Nat} (h : w.heap[b]? = some (.cells #[.string x, .string y, .string z, .string u] T fz)) (r : Nat) (hr : r < 4) : ∃ s : ByteArray, w.cell? ⟨b, r, none⟩ = some (.string s) := by
  rw [Lib.cell_of_heap h]
  match r, hr with
  | 0, _ => exact ⟨x, rfl⟩
  | 1, _ => exact ⟨y, rfl⟩
  | 2, _ => exact ⟨z, rfl⟩
  | 3, _ => exact ⟨u, rfl⟩
  | n + 4, hr => omega

end Go.Proofs.YthpphjkoiipkkaaDoor
/- (Subst).Then: one after the other. -/
namespace Go.Proofs.YthpphjkoiipkkaaDoor
open Go.RowKit Go.Sort Go.Lib
attribute [local go_sem] Oper.semAt_some

theorem make_cap4 (N : Nat) (hn : N ≤ 1000000000) (w : World) :
    (Instr.makeSlice 31 (.int .i64 0) (.int .i64 (N : Int))).run Tryd.prog w = .ok (.slice (some ⟨w.heap.size, 0, none⟩) 0 N) (w.alloc (.cells (zeros4 N) 93)) := by
  obtain ⟨i, hi, hzz⟩ := Option.map_eq_some_iff.1 Tryd.infoPair
  simp only [Prod.mk.injEq] at hzz
  obtain ⟨hz, hs, hb⟩ := hzz
  have hr := run_make (P := Tryd.prog) w 31 93 i _ Tryd.underlying31 hi hz .i64 .i64 0 N (by omega) (by omega) (by rw [hb]; omega) (by omega)
  simp only [Int.toNat_natCast, hs, Int.toNat_zero] at hr
  exact hr
theorem setCells_set4 (w : World) (g i : Nat) (x : PR) : w.setCells g (0 + i * 4) (encP x) = set4 w g i x := by
  rw [Nat.zero_add]; rfl
/-- The list that Then gathers. -/
noncomputable def thenL (ls lu : List PR) : List PR := ls.map (fun x => { x with t := app lu x.t }) ++ lu
theorem ty_append (n : ByteArray) (d e : List PR) : ty n (d ++ e) = if (lk n d).isSome then ty n d else ty n e := by
  unfold ty
  rw [lk_append]
  cases lk n d <;> rfl
theorem lk_map (f : T → T) (n : ByteArray) : ∀ d : List PR, lk n (d.map fun x => { x with t := f x.t }) = (lk n d).map fun x => { x with t := f x.t }
  | [] => rfl
  | x :: d => by
    rw [List.map_cons, lk_cons, lk_cons]
    by_cases h : x.n = n
    · rw [if_pos h, if_pos h]; rfl
    · rw [if_neg h, if_neg h]; exact lk_map f n d
theorem then_app (ls lu : List PR) : ∀ t, app (thenL ls lu) t = app lu (app ls t) := by
  intro t
  refine T.by_kids (P := fun t => app (thenL ls lu) t = app lu (app ls t)) (fun t H => ?_) t
  cases t with
  | var n =>
    rw [app_v, app_v, thenL, ty_append, lk_map]
    cases h : lk n ls with
    | none =>
      have e : ty n ls = .var n := by unfold ty; rw [h]; rfl
      rw [e]; rfl
    | some x =>
      have e : ty n ls = x.t := by unfold ty; rw [h]; rfl
      rw [e]
      unfold ty
      rw [lk_map, h]; rfl
  | con n l =>
    rw [app, app, app, apps_map, apps_map, apps_map, List.map_map]
    congr 1
    exact List.map_congr_left fun k hk => H k hk
  | fn a b => rw [app, app, app, H a (by simp [T.kids]), H b (by simp [T.kids])]
  | all n a => rw [app, app, app, H a (by simp [T.kids])]

theorem RowK.spare {g k : Nat} {l : List PR} {w : World} (h : RowK g k l w) {i : Nat} (hi : i < k) : ∀ j, j < 4 → (w.cell? ⟨g, 0 + i * 4 + j, none⟩).isSome = true ∧ w.frozen? ⟨g, 0 + i * 4 + j, none⟩ = false := by
  obtain ⟨x, y, z, u, h0, h1, h2, h3⟩ := h.cells hi
  intro j hj
  rw [Nat.zero_add]
  refine ⟨?_, h.row.free _⟩
  match j, hj with
  | 0, _ => rw [Nat.add_zero, h0]; rfl
  | 1, _ => rw [h1]; rfl
  | 2, _ => rw [h2]; rfl
  | 3, _ => rw [h3]; rfl
  | n + 4, hj => omega

theorem cellsP_get (d : List PR) (j : Nat) (hj : j < d.length * 4) : (cellsP d)[j]? = (encP (d.getD (j / 4) noP))[j % 4]? := by
  have := cellsP_at d (j / 4) (j % 4) (by omega) (by omega)
  rwa [show j / 4 * 4 + j % 4 = j by omega] at this
theorem enc_get {x : PR} {j : Nat} (hj : j < 4) : (encP x)[j]? = some (if j = 0 then .string x.n else if j = 1 then .int .i64 x.t.kind else if j = 2 then .string x.t.name else .slice x.a x.t.kids.length x.c) := by
  match j, hj with
  | 0, _ => rfl
  | 1, _ => rfl
  | 2, _ => rfl
  | 3, _ => rfl
  | n + 4, hj => omega
theorem row_cells {g : Nat} {l : List PR} {cs : Array Value} (h : ∀ i, i < l.length → cs[i * 4]? = some (.string (l.getD i noP).n) ∧ cs[i * 4 + 1]? = some (.int .i64 (l.getD i noP).t.kind) ∧ cs[i * 4 + 2]? = some (.string (l.getD i noP).t.name) ∧ cs[i * 4 + 3]? = some (.slice (l.getD i noP).a (l.getD i noP).t.kids.length (l.getD i noP).c)) (_ : g = g) (j : Nat) (hj : j < l.length * 4) : cs[j]? = (cellsP l)[j]? := by
  rw [cellsP_get l j hj, enc_get (by omega)]
  obtain ⟨a0, a1, a2, a3⟩ := h (j / 4) (by omega)
  have hc : j % 4 = 0 ∨ j % 4 = 1 ∨ j % 4 = 2 ∨ j % 4 = 3 := by omega
  rcases hc with e | e | e | e
  · rw [e, if_pos rfl, ← a0, show j = j / 4 * 4 by omega]; congr 1; omega
  · rw [e, if_neg (by decide), if_pos rfl, ← a1]; congr 1; omega
  · rw [e, if_neg (by decide), if_neg (by decide), if_pos rfl, ← a2]; congr 1; omega
  · rw [e, if_neg (by decide), if_neg (by decide), if_neg (by decide), ← a3]; congr 1; omega
theorem RowK.owns {g k base : Nat} {l : List PR} {w : World} (h : RowK g k l w) (hb : base ≤ g) (hk : k ≤ 1000000) : w.ownsRow base 93 4 (.slice (some ⟨g, 0, none⟩) l.length k) l.length (cellsP l) := by
  obtain ⟨cs, h1, h2, h3, h4⟩ := h
  refine ⟨cellsP_len l, .inr ⟨g, k, cs, rfl, hb, h1, h3, by unfold maxLen; omega, h2, ?_⟩⟩
  apply List.ext_getElem?
  intro j
  by_cases hj : j < l.length * 4
  · rw [List.getElem?_take_of_lt hj, Array.getElem?_toList, row_cells (g := g) h4 rfl j hj]
  · rw [List.getElem?_eq_none (by simp; omega), List.getElem?_eq_none (by rw [cellsP_len]; omega)]
theorem RowP.news {g : Nat} {l : List PR} {w : World} (h : RowP g l w) : ∀ j u, (cellsP l)[j]? = some u → w.cell? ((⟨g, 0, none⟩ : Addr).add j) = some u := by
  intro j u hu
  have hj : j < l.length * 4 := by have := (List.getElem?_eq_some_iff.1 hu).1; rwa [cellsP_len] at this
  have hadd : (⟨g, 0, none⟩ : Addr).add j = ⟨g, j, none⟩ := by unfold Addr.add; split <;> simp_all
  obtain ⟨cs, h1, _, h3⟩ := h
  rw [hadd, Lib.cell_of_heap h1, row_cells (g := g) h3 rfl j hj, hu]
theorem cellsP_one (l : List PR) : ∀ u ∈ cellsP l, u.oneCell' = true := by
  intro u hu
  obtain ⟨x, _, hx⟩ := List.mem_flatMap.1 hu
  exact encP_one x u hx
theorem cellsP_append (l m : List PR) : cellsP l ++ cellsP m = cellsP (l ++ m) := by simp [cellsP]
theorem row_of_owns {W : World} {base g cap : Nat} {d : List PR} (h : W.ownsRow base 93 4 (.slice (some ⟨g, 0, none⟩) d.length cap) d.length (cellsP d)) : RowP g d W := by
  rcases h.2 with ⟨e, _⟩ | ⟨g', cap', cur, e, _, hg, hc, hm, hcs, htk⟩
  · cases e
  · cases e
    refine ⟨cur, hg, by rw [hcs]; exact Nat.mul_le_mul_right 4 hc, fun i hi => ?_⟩
    have cell : ∀ j, j < 4 → cur[i * 4 + j]? = (encP (d.getD i noP))[j]? := fun j hj => by
      have hlt : i * 4 + j < d.length * 4 := by omega
      rw [← cellsP_at d i j hi hj, ← htk, List.getElem?_take, if_pos hlt, Array.getElem?_toList]
    exact ⟨(cell 0 (by omega)).trans rfl, (cell 1 (by omega)).trans rfl, (cell 2 (by omega)).trans rfl, (cell 3 (by omega)).trans rfl⟩
theorem SubAt.setS {v x : Value} {d : List PR} {w : World} {b : Nat} {cs : Array Value} {fz : Nat × Nat} (h : SubAt v d w) (hb : w.heap[b]? = some (.cells cs 33 fz)) : SubAt v d (w.setCell ⟨b, 0, none⟩ x) := by
  obtain ⟨⟨h1, h2⟩, h3⟩ := h
  refine ⟨⟨?_, h2⟩, h3.keep ?_⟩
  · rcases h1 with h1 | ⟨g, cap, e, hc, hr⟩
    · exact .inl h1
    · refine .inr ⟨g, cap, e, hc, hr.same (Below.heap_setCell _ ⟨b, 0, none⟩ _ _ ?_)⟩
      show g ≠ b
      rintro rfl
      obtain ⟨cs', hr, _⟩ := hr
      rw [hb] at hr
      simp at hr
  · intro k cs' fz' hk
    refine (Below.heap_setCell _ ⟨b, 0, none⟩ _ k ?_).trans hk
    show k ≠ b
    rintro rfl
    rw [hb] at hk
    simp at hk
theorem Made.copy {d d' l : List PR} (h : Made d l) (k : Copy d d') : Made d' l :=
  ⟨fun x hx => by obtain ⟨y, hy, e1, e2⟩ := h.sub x hx; obtain ⟨z, hz, f1, f2⟩ := k.mem y hy; exact ⟨z, hz, e1.trans f1, e2.trans f2⟩, by rw [← k.1]; exact h.len, fun n => by rw [h.same n]; unfold ty; rw [k.lk]⟩
theorem copy_then {q ls lu : List PR} (h1 : q.length = ls.length) (h2 : ∀ j, j < ls.length → (q.getD j noP).n = (ls.getD j noP).n ∧ (q.getD j noP).t = app lu (ls.getD j noP).t) : Copy (q ++ lu) (thenL ls lu) := by
  refine ⟨by simp [thenL, h1], fun i hi => ?_⟩
  unfold thenL
  by_cases hlt : i < ls.length
  · have e1 : (q ++ lu).getD i noP = q.getD i noP := by simp [List.getD, List.getElem?_append_left (show i < q.length by omega)]
    have e2 : (ls.map (fun x : PR => { x with t := app lu x.t }) ++ lu).getD i noP = { ls.getD i noP with t := app lu (ls.getD i noP).t } := by
      simp [List.getD, List.getElem?_append_left (show i < (ls.map (fun x : PR => { x with t := app lu x.t })).length by simpa using hlt), hlt]
    rw [e1, e2]; exact h2 i hlt
  · have e1 : (q ++ lu).getD i noP = lu.getD (i - ls.length) noP := by simp [List.getD, List.getElem?_append_right (show q.length ≤ i by omega), h1]
    have e2 : (ls.map (fun x : PR => { x with t := app lu x.t }) ++ lu).getD i noP = lu.getD (i - ls.length) noP := by
      simp [List.getD, List.getElem?_append_right (show (ls.map (fun x : PR => { x with t := app lu x.t })).length ≤ i by simp; omega)]
    rw [e1, e2]; exact ⟨rfl, rfl⟩

end Go.Proofs.YthpphjkoiipkkaaDoor
/- A region that draws its order and ends with a store: all but its last operation by an invariant, the last one when all else has come up. -/
namespace Go.Proofs.YthpphjkoiipkkaaDoor

section
variable {P : Program} {ops : Array Oper} {Q : Exit → Act → World → Prop} {fr : (Nat → Value) → Act} {S : World → Prop} {Rel : World → World → Prop} {Vals : Nat → Value → World → Prop} {s : Nat}

theorem getD_tt {l : Array Bool} {j : Nat} (h : l.getD j false = true) : l.getD j true = true := by
  by_cases hj : j < l.size
  · simp [hj] at h ⊢; exact h
  · simp [hj]
/-- Where operation s can come up, all ahead of it have. -/
theorem all_ahead {listed : Array Bool} (hcov : ∀ i, i < s → ∃ j o e, i < j ∧ j ≤ s ∧ ops[j]? = some o ∧ e ∈ o.after ∧ Region.binds .any e = true ∧ e.on = i)
    (hcl : ∀ j o, listed.getD j false = true → ops[j]? = some o → ∀ e ∈ o.after, Region.binds .any e = true → listed.getD e.on false = true)
    (hs : ∀ o, ops[s]? = some o → ∀ e ∈ o.after, Region.binds .any e = true → listed.getD e.on false = true) : ∀ n i, i + n = s → 0 < n → listed.getD i false = true := by
  intro n
  induction n using Nat.strongRecOn with
  | ind n ih =>
    intro i hi hn
    obtain ⟨j, o, e, hij, hjs, ho, he, hb, rfl⟩ := hcov i (by omega)
    by_cases hj : j = s
    · subst hj; exact hs o ho e he hb
    · exact hcl j o (ih (s - j) (by omega) j (by omega) (by omega)) ho e he hb

theorem last_any (hsz : ops.size = s + 1) (hput : ∀ i o, i < s → ops[i]? = some o → StepAt P fr S Rel Vals ops Q i o)
    (hbs : ∀ o, ops[s]? = some o → ∀ e ∈ o.after, Region.binds .any e = true → e.on < s)
    (hcov : ∀ i, i < s → ∃ j o e, i < j ∧ j ≤ s ∧ ops[j]? = some o ∧ e ∈ o.after ∧ Region.binds .any e = true ∧ e.on = i)
    (hrel : ∀ w w', S w → Rel w w' → S w') (hval : ∀ i v w w', S w → Vals i v w → Rel w w' → Vals i v w')
    (hlast : ∀ o x w, ops[s]? = some o → S w → (∀ i, i < s → Vals i (x i) w) → ∀ K : Act → World → Prop, (∀ v w', Q .normal ((fr x).put o.dst v) w' → K ((fr x).put o.dst v) w') →
      if Region.wanted o (yielded ops (fr x).tmps) = true then Oper.wp P o (fr x) w K Q else K ((fr x).put o.dst undef) w) :
    ∀ (fuel : Nat) (listed : Array Bool) (x : Nat → Value) (w : World), listed.size = ops.size → ops.size ≤ fuel + listed.toList.count true → S w → listed.getD s false = false →
      (∀ j o, listed.getD j false = true → ops[j]? = some o → ∀ e ∈ o.after, Region.binds .any e = true → listed.getD e.on false = true) →
      (∀ i, listed.getD i false = true → Vals i (x i) w) → wpAny P .any ops Q fuel listed (fr x) w := by
  have hback : ∀ i o, ops[i]? = some o → ∀ e ∈ o.after, Region.binds .any e = true → e.on < i := fun i o ho => by
    have hi : i < s + 1 := by rw [← hsz]; exact (Array.getElem?_eq_some_iff.1 ho).1
    by_cases e : i = s
    · subst e; exact hbs o ho
    · exact (hput i o (by omega) ho).back
  have hend : ∀ (listed : Array Bool), listed.size = ops.size → listed.getD s false = false → Region.ready .any ops listed = [] → False := fun listed hz h0 h => by
    have := all_of_none hback hz h s (by omega)
    rw [h0] at this; cases this
  intro fuel
  induction fuel with
  | zero =>
    intro listed x w hz hc hS h0 hcl hV
    have hall : listed.toList.count true = listed.toList.length := by
      have := List.count_le_length (a := true) (l := listed.toList)
      simp at this hc ⊢; omega
    have hlt : s < listed.size := by omega
    have := List.count_eq_length.1 hall listed[s] (by simp)
    simp [hlt] at h0
    rw [h0] at this; cases this
  | succ fuel ih =>
    intro listed x w hz hc hS h0 hcl hV
    refine ⟨fun h => (hend listed hz h0 h).elim, fun i hi => ?_⟩
    obtain ⟨hi0, o, ho, hdep⟩ := mem_ready.1 hi
    have hlt : i < listed.size := by rw [hz]; exact (Array.getElem?_eq_some_iff.1 ho).1
    have hi0' : listed[i] = false := by simpa [hlt] using hi0
    have hsetD : ∀ j, (listed.setIfInBounds i true).getD j false = true → j = i ∨ listed.getD j false = true := fun j hj => by
      by_cases hji : j = i
      · exact .inl hji
      · rw [getD_set_ne false (Ne.symm hji)] at hj; exact .inr hj
    have hsetI : (listed.setIfInBounds i true).getD i false = true := by simp [hlt]
    have hmono : ∀ j, listed.getD j false = true → (listed.setIfInBounds i true).getD j false = true := fun j hj => by
      by_cases hji : j = i
      · subst hji; exact hsetI
      · rw [getD_set_ne false (Ne.symm hji)]; exact hj
    by_cases his : i = s
    · subst his
      have hK : ∀ v w', Q .normal ((fr x).put o.dst v) w' → wpAny P .any ops Q fuel (listed.setIfInBounds i true) ((fr x).put o.dst v) w' := fun v w' hq => by
        have hnone : Region.ready .any ops (listed.setIfInBounds i true) = [] := by
          cases h : Region.ready .any ops (listed.setIfInBounds i true) with
          | nil => rfl
          | cons j l =>
            have hj : j ∈ Region.ready .any ops (listed.setIfInBounds i true) := by rw [h]; simp
            obtain ⟨hj0, oj, hoj, _⟩ := mem_ready.1 hj
            have hjl : j < i + 1 := by rw [← hsz]; exact (Array.getElem?_eq_some_iff.1 hoj).1
            by_cases e : j = i
            · subst e; rw [getD_tt hsetI] at hj0; cases hj0
            · have := hmono j (all_ahead hcov hcl (fun o' ho' => by rw [ho] at ho'; cases ho'; exact hdep) (i - j) j (by omega) (by omega))
              rw [getD_tt this] at hj0; cases hj0
        cases fuel with
        | zero => exact ⟨hnone, hq⟩
        | succ fuel => exact ⟨fun _ => hq, fun j hj => by rw [hnone] at hj; cases hj⟩
      have := hlast o x w ho hS (fun j hj => hV j (all_ahead hcov hcl (fun o' ho' => by rw [ho] at ho'; cases ho'; exact hdep) (i - j) j (by omega) (by omega))) _ hK
      unfold wpOp
      simp only [ho]
      split
      · rename_i hw; rw [if_pos hw] at this; exact .inl this
      · rename_i hw; rw [if_neg hw] at this; exact this
    · have hil : i < s := by omega
      have H := hput i o hil ho
      have hK : ∀ v w', Rel w w' → Vals i v w' → wpAny P .any ops Q fuel (listed.setIfInBounds i true) ((fr x).put o.dst v) w' := fun v w' hr hv => by
        rw [H.put]
        refine ih _ _ _ (by simpa using hz) ?_ (hrel w w' hS hr) (by rw [getD_set_ne false his]; exact h0) (fun j oj hj hoj e he hb => ?_) fun j hj => ?_
        · have : (listed.setIfInBounds i true).toList.count true = listed.toList.count true + 1 := by
            rw [Array.toList_setIfInBounds, List.count_set (by simpa using hlt)]
            simp [hi0']
          omega
        · rcases hsetD j hj with rfl | hj'
          · rw [ho] at hoj; cases hoj
            exact hmono _ (hdep e he hb)
          · exact hmono _ (hcl j oj hj' hoj e he hb)
        · by_cases hji : j = i
          · subst hji; rw [upd_same]; exact hv
          · rw [upd_other x v hji]
            exact hval _ _ _ _ hS (hV j (by rw [getD_set_ne false (Ne.symm hji)] at hj; exact hj)) hr
      have := H.run x w hS (fun e he hb => hV e.on (hdep e he hb)) _ hK
      unfold wpOp
      simp only [ho]
      split
      · rename_i hw; rw [if_pos hw] at this; exact .inl this
      · rename_i hw; rw [if_neg hw] at this; exact this

/-- Each operation ahead of the last is asked for by a later one. -/
def covered (ops : Array Oper) (s : Nat) : Bool := (List.range s).all fun i => (List.range (s + 1)).any fun j => decide (i < j) && (match ops[j]? with
  | some o => o.after.any fun e => Region.binds .any e && e.on == i
  | none => false)
theorem covered_get (h : covered ops s = true) : ∀ i, i < s → ∃ j o e, i < j ∧ j ≤ s ∧ ops[j]? = some o ∧ e ∈ o.after ∧ Region.binds .any e = true ∧ e.on = i := by
  intro i hi
  unfold covered at h
  rw [List.all_eq_true] at h
  have h1 := h i (List.mem_range.2 hi)
  rw [List.any_eq_true] at h1
  obtain ⟨j, hj, h2⟩ := h1
  rw [Bool.and_eq_true, decide_eq_true_eq] at h2
  cases ho : ops[j]? with
  | none => rw [ho] at h2; exact absurd h2.2 (by simp)
  | some o =>
    rw [ho] at h2
    have h3 := h2.2
    simp only at h3
    rw [Array.any_eq_true'] at h3
    obtain ⟨e, he, h4⟩ := h3
    rw [Bool.and_eq_true, beq_iff_eq] at h4
    exact ⟨j, o, e, h2.1, by have := List.mem_range.1 hj; omega, ho, he, h4.1, h4.2⟩

/-- What is asked of all but the last operation, and of the last. -/
def AllBut (f : Nat → Oper → Prop) (g : Oper → Prop) : Nat → List Oper → Prop
  | _, [] => True
  | _, [o] => g o
  | n, o :: o' :: os => f n o ∧ AllBut f g (n + 1) (o' :: os)
theorem AllBut.get {f : Nat → Oper → Prop} {g : Oper → Prop} : ∀ {l : List Oper} {n : Nat}, AllBut f g n l → ∀ {i : Nat} {o : Oper}, l[i]? = some o → (i + 1 < l.length → f (n + i) o) ∧ (i + 1 = l.length → g o)
  | [], _, _, i, o, h => by simp at h
  | [a], n, hl, 0, o, h => by simp at h; subst h; exact ⟨fun h => by simp at h, fun _ => hl⟩
  | [a], n, hl, i + 1, o, h => by simp at h
  | a :: b :: l, n, hl, 0, o, h => by simp at h; subst h; exact ⟨fun _ => hl.1, fun h => by simp at h⟩
  | a :: b :: l, n, hl, i + 1, o, h => by
    obtain ⟨h1, h2⟩ := AllBut.get hl.2 (i := i) (o := o) (by simpa using h)
    refine ⟨fun hi => ?_, fun hi => h2 (by simpa using hi)⟩
    have := h1 (by simpa using hi)
    rw [show n + (i + 1) = n + 1 + i by omega]; exact this

/-- What is asked of the last operation. -/
structure LastAt (P : Program) (fr : (Nat → Value) → Act) (S : World → Prop) (Vals : Nat → Value → World → Prop) (ops : Array Oper) (Q : Exit → Act → World → Prop) (s : Nat) (o : Oper) : Prop where
  back : ∀ e ∈ o.after, Region.binds .any e = true → e.on < s
  run : ∀ (x : Nat → Value) (w : World), S w → (∀ i, i < s → Vals i (x i) w) → ∀ K : Act → World → Prop, (∀ v w', Q .normal ((fr x).put o.dst v) w' → K ((fr x).put o.dst v) w') →
      if Region.wanted o (yielded ops (fr x).tmps) = true then Oper.wp P o (fr x) w K Q else K ((fr x).put o.dst undef) w

theorem region_last (fr : (Nat → Value) → Act) (S : World → Prop) (Rel : World → World → Prop) (Vals : Nat → Value → World → Prop) (x0 : Nat → Value) (s : Nat) {id : Nat} {a : Act} {w : World}
    (hm : P.follows .mixedOrders = true) (ha : a = fr x0) (hS : S w.drew) (hsz : ops.size = s + 1) (hcov : covered ops s = true)
    (hrel : ∀ w w', S w → Rel w w' → S w') (hval : ∀ i v w w', S w → Vals i v w → Rel w w' → Vals i v w')
    (hops : AllBut (StepAt P fr S Rel Vals ops Q) (LastAt P fr S Vals ops Q s) 0 ops.toList) : (Code.region id ops true).wp P Q a w := by
  subst ha
  refine wp_region_any hm ?_
  have hg := fun (i : Nat) (o : Oper) (h : ops[i]? = some o) => hops.get (i := i) (o := o) (by simpa using h)
  refine last_any hsz (fun i o hi h => ?_) (fun o h => ?_) (covered_get hcov) hrel hval (fun o x w h hS hV K hK => ?_) _ _ _ _ (by simp) (by simp) hS (by simp [hsz]) (fun j o hj => ?_) (fun i hi => ?_)
  · have := (hg i o h).1 (by simp [hsz]; omega); rwa [Nat.zero_add] at this
  · exact ((hg s o h).2 (by simp [hsz])).back
  · exact ((hg s o h).2 (by simp [hsz])).run x w hS hV K hK
  · by_cases h : j < ops.size
    · simp [h] at hj
    · simp [h] at hj
  · by_cases h : i < ops.size
    · simp [h] at hi
    · simp [h] at hi
end
end Go.Proofs.YthpphjkoiipkkaaDoor
/- SubstThen: what its statements keep; calls whose results are told. -/
namespace Go.Proofs.YthpphjkoiipkkaaDoor
open Go.RowKit Go.Sort Go.Lib
attribute [local go_sem] Oper.semAt_some

theorem size_le (d : List PR) (M : Nat) (h1 : 1 ≤ M) (hd : ∀ x ∈ d, tsize x.t ≤ M) : ∀ t, tsize (app d t) ≤ tsize t * M := by
  intro t
  refine T.by_kids (P := fun t => tsize (app d t) ≤ tsize t * M) (fun t H => ?_) t
  cases t with
  | var n =>
    rw [app_v, tsize, Nat.one_mul]
    unfold ty
    cases h : lk n d with
    | none => exact h1
    | some x => exact hd x (lk_name h).1
  | con n l =>
    rw [app, tsize, tsize, apps_map]
    have key : ∀ m : List T, (∀ k ∈ m, k ∈ l) → tsizes (m.map (app d)) ≤ tsizes m * M := by
      intro m
      induction m with
      | nil => intro _; exact Nat.zero_le _
      | cons a m ih =>
        intro hm
        rw [List.map_cons, tsizes, tsizes, Nat.add_mul]
        exact Nat.add_le_add (H a (hm a (List.mem_cons_self ..))) (ih fun k hk => hm k (List.mem_cons_of_mem _ hk))
    have := key l (fun k hk => hk)
    rw [Nat.add_mul]; omega
  | fn a b =>
    have ha := H a (by simp [T.kids])
    have hb := H b (by simp [T.kids])
    rw [app, tsize, tsize, Nat.add_mul, Nat.add_mul]; omega
  | all n a =>
    have ha := H a (by simp [T.kids])
    rw [app, tsize, tsize, Nat.add_mul]; omega
/-- Of a row of pairs: how many, how great, what it does. -/
def Sb (M n : Nat) (f : T → T) (l : List PR) : Prop := l.length ≤ n ∧ (∀ x ∈ l, tsize x.t ≤ M) ∧ ∀ t, app l t = f t
theorem app_ret {l : List PR} {t t' : T} {M n : Nat} {f : T → T} {s : Value} {a : Option Addr} {c : Nat} {w : World} (hs : SubAt s l w) (h : Sb M n f l) (hn : n ≤ 1000) (hM : M ≤ 1000000000) (ht : tsize t ≤ 1000000000) (e : f t = t') (hT : TysAt w (.slice a t.kids.length c) t.kids) :
    Calls Tryd.prog 14 #[.agg #[s], .agg #[.int .i64 t.kind, .string t.name, .slice a t.kids.length c]] w fun e Y => (∃ za zc, e = .returned (.agg #[.int .i64 t'.kind, .string t'.name, .slice za t'.kids.length zc]) ∧ TysAt Y (.slice za t'.kids.length zc) t'.kids) ∧ Below w.heap.size w Y := by
  refine (apply_any (d := l) (t := t) (s := s) (w := w) (by have := h.1; omega) (fun x hx => by have := h.2.1 x hx; omega) ht hs hT).mono ?_
  rintro e1 w5 ⟨⟨a, c, rfl, hin⟩, hb5⟩
  rw [h.2.2, e] at hin ⊢
  exact ⟨⟨a, c, rfl, hin.tys⟩, hb5⟩

def nilV : Value := .slice none 0 0
/-- What the statements of SubstThen keep. -/
def SS (w : World) (b11 b12 b13 b14 b15 : Nat) (t : T) (pa : Option Addr) (ca : Nat) (sx sy sz : Value) (lx ly lz : List PR) (X : World) : Prop :=
  BoxT b11 t pa ca X ∧ ((BoxS b12 sx lx X ∧ BoxS b13 sy ly X) ∧ BoxS b14 sz lz X ∧ BoxS b15 nilV [] X) ∧ Below w.heap.size w X
theorem SS.below {w : World} {b11 b12 b13 b14 b15 : Nat} {t : T} {pa : Option Addr} {ca : Nat} {sx sy sz : Value} {lx ly lz : List PR} {X Y : World} (h : SS w b11 b12 b13 b14 b15 t pa ca sx sy sz lx ly lz X) (hb : Below X.heap.size X Y) : SS w b11 b12 b13 b14 b15 t pa ca sx sy sz lx ly lz Y :=
  ⟨h.1.below hb, ⟨⟨h.2.1.1.1.below hb, h.2.1.1.2.below hb⟩, h.2.1.2.1.below hb, h.2.1.2.2.below hb⟩, h.2.2.trans (hb.mono h.2.2.size)⟩
theorem SS.cells {w : World} {b11 b12 b13 b14 b15 : Nat} {t : T} {pa : Option Addr} {ca : Nat} {sx sy sz : Value} {lx ly lz : List PR} {X : World} (h : SS w b11 b12 b13 b14 b15 t pa ca sx sy sz lx ly lz X) :
    (X.cell? ⟨b11, 0, none⟩ = some (.int .i64 t.kind) ∧ X.cell? ⟨b11, 1, none⟩ = some (.string t.name) ∧ X.cell? ⟨b11, 2, none⟩ = some (.slice pa t.kids.length ca)) ∧
    (X.cell? ⟨b12, 0, none⟩ = some sx ∧ X.cell? ⟨b13, 0, none⟩ = some sy) ∧ X.cell? ⟨b14, 0, none⟩ = some sz ∧ X.cell? ⟨b15, 0, none⟩ = some nilV := ⟨h.1.cells, ⟨h.2.1.1.1.cell, h.2.1.1.2.cell⟩, h.2.1.2.1.cell, h.2.1.2.2.cell⟩

/-! A box that is still empty is filled: all else stays. -/
def zeroT : Obj := .cells #[.int .i64 0, .string ⟨#[]⟩, .slice none 0 0] 29
theorem BoxT.fill {b k : Nat} {t : T} {a : Option Addr} {c : Nat} {w W : World} (h : BoxT b t a c w) (h0 : w.heap[k]? = some zeroT) (hk : ∀ j, j ≠ k → W.heap[j]? = w.heap[j]?) : BoxT b t a c W := by
  refine ⟨(hk b ?_).trans h.1, h.2.elsewhere h0 hk⟩
  rintro rfl
  have h1 := h.1
  rw [h0] at h1
  unfold zeroT at h1
  simp only [Option.some.injEq, Obj.cells.injEq, Array.mk.injEq, List.cons.injEq, Value.int.injEq] at h1
  have := (T.kind_pos t).1
  omega
theorem SubAt.fill {v : Value} {d : List PR} {k : Nat} {w W : World} (h : SubAt v d w) (h0 : w.heap[k]? = some zeroT) (hk : ∀ j, j ≠ k → W.heap[j]? = w.heap[j]?) : SubAt v d W := by
  obtain ⟨⟨h1, h2⟩, h3⟩ := h
  refine ⟨⟨?_, h2⟩, fun x hx => (h3 x hx).elsewhere h0 hk⟩
  rcases h1 with h1 | ⟨g, cap, e, hc, hr⟩
  · exact .inl h1
  · refine .inr ⟨g, cap, e, hc, hr.same (hk g ?_)⟩
    rintro rfl
    obtain ⟨cs, hr, _⟩ := hr
    rw [h0] at hr
    unfold zeroT at hr
    simp at hr
theorem BoxS.fill {b k : Nat} {v : Value} {d : List PR} {w W : World} (h : BoxS b v d w) (h0 : w.heap[k]? = some zeroT) (hk : ∀ j, j ≠ k → W.heap[j]? = w.heap[j]?) : BoxS b v d W := by
  refine ⟨(hk b ?_).trans h.1, h.2.fill h0 hk⟩
  rintro rfl
  have h1 := h.1
  rw [h0] at h1
  unfold zeroT at h1
  simp at h1
theorem SS.fill {w : World} {b11 b12 b13 b14 b15 : Nat} {t : T} {pa : Option Addr} {ca : Nat} {sx sy sz : Value} {lx ly lz : List PR} {X Y : World} {k : Nat} (h : SS w b11 b12 b13 b14 b15 t pa ca sx sy sz lx ly lz X) (h0 : X.heap[k]? = some zeroT) (hk : ∀ j, j ≠ k → Y.heap[j]? = X.heap[j]?) (hb : Below w.heap.size X Y) : SS w b11 b12 b13 b14 b15 t pa ca sx sy sz lx ly lz Y :=
  ⟨h.1.fill h0 hk, ⟨⟨h.2.1.1.1.fill h0 hk, h.2.1.1.2.fill h0 hk⟩, h.2.1.2.1.fill h0 hk, h.2.1.2.2.fill h0 hk⟩, h.2.2.trans hb⟩
theorem fill_box {k : Nat} {p : T} {a : Option Addr} {c : Nat} {w : World} (h0 : w.heap[k]? = some zeroT) (hp : TysAt w (.slice a p.kids.length c) p.kids) :
    BoxT k p a c (((w.setCell ⟨k, 0, none⟩ (.int .i64 p.kind)).setCell ⟨k, 1, none⟩ (.string p.name)).setCell ⟨k, 2, none⟩ (.slice a p.kids.length c)) :=
  ⟨set3_block h0 _ _ _, hp.elsewhere h0 (fun _ hj => set3_others _ _ _ hj)⟩
end Go.Proofs.YthpphjkoiipkkaaDoor
/- SubstThen: the pairs it is given, kept; its calls ahead of the regions. -/
namespace Go.Proofs.YthpphjkoiipkkaaDoor
open Go.RowKit Go.Sort Go.Lib
attribute [local go_sem] Oper.semAt_some

/-- What a call of pairs hands out. -/
def GP (v : Value) (d : List PR) (w : World) : Prop := (GivenP v d w ∧ Typ d w) ∧ d.length ≤ 4 ∧ ∀ x ∈ d, tsize x.t ≤ 56
theorem GP.keep {v : Value} {d : List PR} {w w' : World} (h : GP v d w) (hk : KeepT w w') (hr : ∀ g, RowP g d w → w'.heap[g]? = w.heap[g]?) : GP v d w' := by
  obtain ⟨⟨h1, h2⟩, h3⟩ := h
  refine ⟨⟨?_, h2.keep hk⟩, h3⟩
  rcases h1 with h1 | ⟨h0, g, cap, e, hg⟩
  · exact .inl h1
  · exact .inr ⟨h0, g, cap, e, hg.same (hr g hg)⟩
theorem GP.below {v : Value} {d : List PR} {w w' : World} (h : GP v d w) (hb : Below w.heap.size w w') : GP v d w' := h.keep (KeepT.of_below hb) fun g hg => hb.block g hg.lt
theorem GP.mk {B p : Nat} {a : Option Addr} {n c k : Nat} {v : Value} {d : List PR} {w w' : World} (h : GP v d w) (hf : MkFr B p w w') (hs : SeqAt B p a n c k w) : GP v d w' :=
  h.keep (KeepT.of_mk hf hs) fun g hg => by
    obtain ⟨cs, h1, _⟩ := hg
    refine (hf.2 g _ h1 ?_).trans h1.symm
    rintro rfl
    have := h1.symm.trans hs.1.2
    simp at this
theorem of_gp {v : Value} {d : List PR} {w : World} (h : GP v d w) :
    Calls Tryd.prog 54 #[v] w fun e w' => (∃ sv l, e = .returned (.agg #[sv]) ∧ SubAt sv l w' ∧ Sb 56 4 (app l) l) ∧ Below w.heap.size w w' := by
  obtain ⟨⟨h1, h2⟩, h3, h4⟩ := h
  refine (of_any h1 h2 (fun x hx => fits_small (by have := h4 x hx; omega)) (fun x hx => by have := h4 x hx; omega) (by omega)).mono ?_
  rintro e w' ⟨⟨sv, l, rfl, hs, hm⟩, hb⟩
  refine ⟨⟨sv, l, rfl, hs, by have := hm.len; omega, fun x hx => ?_, fun t => rfl⟩, hb⟩
  obtain ⟨y, hy, _, e⟩ := hm.sub x hx
  rw [e]; exact h4 y hy
theorem sb_nil : Sb 1 0 (fun t => t) [] := ⟨Nat.le_refl _, (fun _ h => nomatch h), app_nil⟩

theorem thl_one (w w5 : World) (t : T) (pa : Option Addr) (ca : Nat) (vA vB vC : Value) (dA dB dC : List PR) (HB : Below w.heap.size w w5) (HT : TysAt w5 (.slice pa t.kids.length ca) t.kids) (hA : GP vA dA w5) (hB : GP vB dB w5) (hC : GP vC dC w5) :
    Calls Tryd.prog 54 #[vA] (w5.alloc (.cells #[.int .i64 t.kind, .string t.name, .slice pa t.kids.length ca] 29))
      fun e w' => (∃ sv l, e = .returned (.agg #[sv]) ∧ SubAt sv l w' ∧ Sb 56 4 (app l) l) ∧ BoxT w5.heap.size t pa ca w' ∧ (GP vB dB w' ∧ GP vC dC w') ∧ Below w.heap.size w w' := by
  have b1 := below_a w5 (.cells #[.int .i64 t.kind, .string t.name, .slice pa t.kids.length ca] 29)
  have k1 := BoxT.new (t := t) HT
  generalize w5.alloc (.cells #[.int .i64 t.kind, .string t.name, .slice pa t.kids.length ca] 29) = V at *
  refine (of_gp (hA.below b1)).mono ?_
  rintro e w' ⟨h1, hb⟩
  exact ⟨h1, k1.below hb, ⟨(hB.below b1).below hb, (hC.below b1).below hb⟩, (HB.trans (b1.mono HB.size)).trans (hb.mono (Nat.le_trans HB.size b1.size))⟩
theorem thl_two (w w6 : World) (b11 : Nat) (t : T) (pa : Option Addr) (ca : Nat) (sx : Value) (lx : List PR) (vB vC : Value) (dB dC : List PR) (HB : Below w.heap.size w w6) (H1 : BoxT b11 t pa ca w6) (hx : SubAt sx lx w6) (hB : GP vB dB w6) (hC : GP vC dC w6) :
    Calls Tryd.prog 54 #[vB] (w6.alloc (.cells #[sx] 33))
      fun e w' => (∃ sv l, e = .returned (.agg #[sv]) ∧ SubAt sv l w' ∧ Sb 56 4 (app l) l) ∧ (BoxT b11 t pa ca w' ∧ BoxS w6.heap.size sx lx w') ∧ GP vC dC w' ∧ Below w.heap.size w w' := by
  have b1 := below_a w6 (.cells #[sx] 33)
  have k1 := BoxS.new hx
  generalize w6.alloc (.cells #[sx] 33) = V at *
  refine (of_gp (hB.below b1)).mono ?_
  rintro e w' ⟨h1, hb⟩
  exact ⟨h1, ⟨(H1.below b1).below hb, k1.below hb⟩, (hC.below b1).below hb, (HB.trans (b1.mono HB.size)).trans (hb.mono (Nat.le_trans HB.size b1.size))⟩
theorem thl_three (w w7 : World) (b11 b12 : Nat) (t : T) (pa : Option Addr) (ca : Nat) (sx sy : Value) (lx ly : List PR) (vC : Value) (dC : List PR) (HB : Below w.heap.size w w7) (H1 : BoxT b11 t pa ca w7) (H2 : BoxS b12 sx lx w7) (hy : SubAt sy ly w7) (hC : GP vC dC w7) :
    Calls Tryd.prog 54 #[vC] (w7.alloc (.cells #[sy] 33))
      fun e w' => (∃ sv l, e = .returned (.agg #[sv]) ∧ SubAt sv l w' ∧ Sb 56 4 (app l) l) ∧ (BoxT b11 t pa ca w' ∧ BoxS b12 sx lx w' ∧ BoxS w7.heap.size sy ly w') ∧ Below w.heap.size w w' := by
  have b1 := below_a w7 (.cells #[sy] 33)
  have k1 := BoxS.new hy
  generalize w7.alloc (.cells #[sy] 33) = V at *
  refine (of_gp (hC.below b1)).mono ?_
  rintro e w' ⟨h1, hb⟩
  exact ⟨h1, ⟨(H1.below b1).below hb, (H2.below b1).below hb, k1.below hb⟩, (HB.trans (b1.mono HB.size)).trans (hb.mono (Nat.le_trans HB.size b1.size))⟩
theorem thl_start (w w8 : World) (b11 b12 b13 : Nat) (t : T) (pa : Option Addr) (ca : Nat) (sx sy sz : Value) (lx ly lz : List PR) (HB : Below w.heap.size w w8) (H1 : BoxT b11 t pa ca w8) (H2 : BoxS b12 sx lx w8) (H3 : BoxS b13 sy ly w8) (hz : SubAt sz lz w8) :
    SS w b11 b12 b13 w8.heap.size (w8.heap.size + 1) t pa ca sx sy sz lx ly lz (((w8.alloc (.cells #[sz] 33)).alloc (.cells #[.slice none 0 0] 33)).drew) := by
  have b1 := below_a w8 (.cells #[sz] 33)
  have k1 := BoxS.new hz
  have b2 := below_a (w8.alloc (.cells #[sz] 33)) (.cells #[.slice none 0 0] 33)
  have k2 : BoxS (w8.alloc (.cells #[sz] 33)).heap.size nilV [] ((w8.alloc (.cells #[sz] 33)).alloc (.cells #[.slice none 0 0] 33)) := BoxS.new (sub_nil _ _ _ (fun _ => rfl))
  have e : (w8.alloc (.cells #[sz] 33)).heap.size = w8.heap.size + 1 := by simp
  rw [e] at k2
  exact SS.below ⟨((H1.below b1).below b2), ⟨⟨(H2.below b1).below b2, (H3.below b1).below b2⟩, k1.below b2, k2⟩, (HB.trans (b1.mono HB.size)).trans (b2.mono (Nat.le_trans HB.size b1.size))⟩ (below_d _)
end Go.Proofs.YthpphjkoiipkkaaDoor
/- (Subst).Pairs as a call; small facts of loops over it. -/
namespace Go.Proofs.YthpphjkoiipkkaaDoor
open Go.RowKit Go.Sort Go.Lib
attribute [local go_sem] Oper.semAt_some

theorem block_kept {W W' : World} {row : Option Nat} {b : Nat} {c : Array Value} {t : TypeId} {m : Nat × Nat} (h : W.heap[b]? = some (.cells c t m)) (hg : W.grownBy W' row)
    (hr : ∀ r, row = some r → ∃ o : Obj, W.heap[r]? = some o ∧ o.isCells = false) : W'.heap[b]? = some (.cells c t m) := by
  refine (hg.block b (Array.getElem?_eq_some_iff.1 h).1 fun e => ?_).trans h
  obtain ⟨o, ho, hc⟩ := hr b e.symm
  rw [h] at ho; cases ho; cases hc
theorem below_others {X Y : World} (h : Below X.heap.size X Y) : KeepsOthers X Y := ⟨h.size, fun k _ hk _ => (h.block k (Array.getElem?_eq_some_iff.1 hk).1).trans hk⟩
theorem own_cells {W : World} {base : Nat} {e : TypeId} {size : Nat} {v : Value} {n : Nat} {xs : List Value} (h : W.ownsRow base e size v n xs) (j : Nat) (o : Obj) (hj : v.ownBlock = some j) (ho : W.heap[j]? = some o) : o.isCells = true := by
  rcases h.2 with ⟨rfl, _⟩ | ⟨g, cap, cur, rfl, _, hg, _⟩
  · cases hj
  · obtain rfl : g = j := by simpa [Value.ownBlock] using hj
    rw [hg] at ho; cases ho; rfl
theorem others_grown {X w1 : World} {o : Obj} {base : Nat} {e : TypeId} {size : Nat} {v : Value} {n : Nat} {xs : List Value} (h : X.ownsRow base e size v n xs) (hg : (X.alloc o).grownBy w1 v.ownBlock) : KeepsOthers X w1 :=
  (KeepsOthers.alloc X o).trans (KeepsOthers.of_grownBy hg fun j ob hj ho => by
    have hlt := (h.lt j hj).2
    rw [Below.heap_alloc X o j hlt] at ho
    exact own_cells h j ob hj ho)

/-- The name of the last one. -/
def lastN (pre : List PR) : ByteArray := (pre.getLast?.map PR.n).getD ⟨#[]⟩
theorem lastN_snoc (pre : List PR) (x : PR) : lastN (pre ++ [x]) = x.n := by simp [lastN]
/-- As many as there are ahead; the same names, the same types. -/
def Ahead (ls pre : List PR) : Prop := pre.length ≤ ls.length ∧ ∀ i, i < pre.length → (pre.getD i noP).n = (ls.getD i noP).n ∧ (pre.getD i noP).t = (ls.getD i noP).t
theorem Ahead.nil (ls : List PR) : Ahead ls [] := ⟨Nat.zero_le _, fun _ hi => absurd hi (Nat.not_lt_zero _)⟩
theorem Ahead.snoc {ls pre : List PR} (h : Ahead ls pre) {x : PR} (hx : pre.length < ls.length ∧ x.n = (ls.getD pre.length noP).n ∧ x.t = (ls.getD pre.length noP).t) : Ahead ls (pre ++ [x]) := by
  refine ⟨by simp; omega, fun i hi => ?_⟩
  rw [List.length_append, List.length_singleton] at hi
  by_cases e : i = pre.length
  · subst e
    have : (pre ++ [x]).getD pre.length noP = x := by simp [List.getD]
    rw [this]; exact hx.2
  · have hlt : i < pre.length := by omega
    have : (pre ++ [x]).getD i noP = pre.getD i noP := by simp [List.getD, List.getElem?_append_left hlt]
    rw [this]; exact h.2 i hlt
theorem Ahead.copy {ls q : List PR} (h : Ahead ls q) (hl : q.length = ls.length) : Copy q ls := ⟨hl, h.2⟩
/-- In a row in order the last one's name is less than the next one's. -/
theorem Ahead.less {ls pre : List PR} (h : Ahead ls pre) (hn : Neat ls) (h0 : pre ≠ []) {x : PR} (hx : pre.length < ls.length ∧ x.n = (ls.getD pre.length noP).n) : Op.bytesLess x.n.toList (lastN pre).toList = false ∧ ¬ x.n.toList = (lastN pre).toList := by
  have hp : 0 < pre.length := List.length_pos_iff.2 h0
  have e : lastN pre = (pre.getD (pre.length - 1) noP).n := by
    unfold lastN
    rw [List.getLast?_eq_getElem?]
    simp [List.getD, List.getElem?_eq_getElem (show pre.length - 1 < pre.length by omega)]
  rw [e, (h.2 _ (by omega)).1, hx.2]
  have hs := List.pairwise_iff_getElem.1 hn.1 (pre.length - 1) pre.length (by omega) hx.1 (by omega)
  have e1 : ls.getD (pre.length - 1) noP = ls[pre.length - 1]'(by omega) := by simp [List.getD, List.getElem?_eq_getElem (show pre.length - 1 < ls.length by omega)]
  have e2 : ls.getD pre.length noP = ls[pre.length]'hx.1 := by simp [List.getD, List.getElem?_eq_getElem hx.1]
  rw [e1, e2, Lib.toList_data, Lib.toList_data, less_cmpL]
  have := hs
  unfold cmpP at this
  have hu := cmpL_neg (ls[pre.length - 1]'(by omega)).n.data.toList (ls[pre.length]'hx.1).n.data.toList
  refine ⟨by simp; omega, fun e => ?_⟩
  rw [e, cmpL_zero.2 rfl] at this
  omega
theorem next_lk {ls : List PR} (hn : Neat ls) {i : Nat} (hi : i < ls.length) : lk (ls.getD i noP).n ls = some (ls.getD i noP) := lk_sorted hn.1 (getD_mem hi)
theorem next_own {ls : List PR} (hn : Neat ls) {i : Nat} (hi : i < ls.length) : (ls.getD i noP).t ≠ .var (ls.getD i noP).n := fun e => by
  have := hn.2 _ (getD_mem hi)
  rw [ownP_iff.2 e] at this; cases this
theorem kind_name {t : T} {n : ByteArray} (hk : t.kind = 1) (h : t ≠ .var n) : t.name ≠ n := by
  cases t with
  | var m => intro e; exact h (by simp only [T.name] at e; rw [e])
  | con m l => simp [T.kind] at hk
  | fn a b => simp [T.kind] at hk
  | all m a => simp [T.kind] at hk

/-- What the rounds keep: how many, the last name, the row of what was told; all that lay in V. -/
def QI (b M : Nat) (V : World) (ls : List PR) (s : Value) (pre : List PR) (X : World) : Prop :=
  ((X.heap[b + 1]? = some (.cells #[.int .i64 (pre.length : Int)] 3 (0, 0)) ∧ X.heap[b + 2]? = some (.cells #[.string (lastN pre)] 9 (0, 0)) ∧ X.heap[b + 3]? = some (.cells #[s] 31 (0, 0))) ∧
    X.ownsRow M 93 4 s pre.length (cellsP pre) ∧ (pre = [] → s = .slice none 0 0)) ∧ (Typ pre X ∧ Ahead ls pre) ∧ M ≤ X.heap.size ∧ Below (b + 1) V X
theorem QI.kept {b M : Nat} {V : World} {ls : List PR} {s : Value} {pre : List PR} {X Y : World} {row : Option Nat} (h : QI b M V ls s pre X) (hg : X.grownBy Y row) (hr : ∀ r, row = some r → ∃ o : Obj, X.heap[r]? = some o ∧ o.isCells = false) (hb : Below (b + 1) V Y) : QI b M V ls s pre Y :=
  ⟨⟨⟨block_kept h.1.1.1 hg hr, block_kept h.1.1.2.1 hg hr, block_kept h.1.1.2.2 hg hr⟩, row_kept h.1.2.1 fun _ _ _ hk => block_kept hk hg hr, h.1.2.2⟩, ⟨h.2.1.1.keep fun _ _ _ hk => block_kept hk hg hr, h.2.1.2⟩, Nat.le_trans h.2.2.1 hg.size, hb⟩
theorem QI.below {b M : Nat} {V : World} {ls : List PR} {s : Value} {pre : List PR} {X Y : World} (h : QI b M V ls s pre X) (hb : Below X.heap.size X Y) (hN : b + 1 ≤ M) : QI b M V ls s pre Y :=
  h.kept (row := none) (grown_of_below hb) (fun r e => by cases e) (h.2.2.2.trans (hb.mono (by have := h.2.2.1; omega)))
end Go.Proofs.YthpphjkoiipkkaaDoor
