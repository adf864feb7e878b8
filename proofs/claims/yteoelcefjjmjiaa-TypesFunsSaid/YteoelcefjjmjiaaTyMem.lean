/- A type in memory; what is kept of it; rows that lie in blocks of a kind. -/
import Derived.Test.YteoelcefjjmjiaaTyPure
import Derived.Test.YteoelcefjjmjiaaRows
import Derived.Test.YteoelcefjjmjiaaChecked
import Derived.WalkKit
import Derived.WalkSpells
import Derived.WalkLawsBesides
import Derived.Lib.Hide
import Derived.BigQuiet
import Derived.Maps.AppendAt
import Derived.OwnWalk
import Derived.Deep.RegionWith
import Derived.Lib.Strings
import Derived.Lib.Slices
namespace Go.Proofs.Yteoelcefjjmjiaa
open Go.RowKit
attribute [local go_sem] Oper.semAt_some


/-- Type t stands in three cells: its kind, its name, the row of its parts. -/
inductive TyAt (w : World) : T → Value → Value → Value → Prop
  | leaf (t : T) (a : Option Addr) (c : Nat) : t.kids = [] → TyAt w t (.int .i64 t.kind) (.string t.name) (.slice a 0 c)
  | row (t : T) (g cap : Nat) (cs : Array Value) (fz : Nat × Nat) (x y z : Nat → Value) : w.heap[g]? = some (.cells cs 29 fz) → t.kids.length ≤ cap →
      (∀ i, i < t.kids.length → cs[i * 3]? = some (x i) ∧ cs[i * 3 + 1]? = some (y i) ∧ cs[i * 3 + 2]? = some (z i)) →
      (∀ i (h : i < t.kids.length), TyAt w t.kids[i] (x i) (y i) (z i)) →
      TyAt w t (.int .i64 t.kind) (.string t.name) (.slice (some ⟨g, 0, none⟩) t.kids.length cap)
/-- v is a slice of the types l. -/
def TysAt (w : World) (v : Value) (l : List T) : Prop :=
  (l = [] ∧ ∃ a c, v = .slice a 0 c) ∨ ∃ g cap cs fz, ∃ x y z : Nat → Value, v = .slice (some ⟨g, 0, none⟩) l.length cap ∧ w.heap[g]? = some (.cells cs 29 fz) ∧ l.length ≤ cap ∧
    (∀ i, i < l.length → cs[i * 3]? = some (x i) ∧ cs[i * 3 + 1]? = some (y i) ∧ cs[i * 3 + 2]? = some (z i)) ∧ ∀ i (h : i < l.length), TyAt w l[i] (x i) (y i) (z i)
theorem tyAt_iff (w : World) (t : T) (k n v : Value) : TyAt w t k n v ↔ k = .int .i64 t.kind ∧ n = .string t.name ∧ TysAt w v t.kids := by
  constructor
  · intro h
    cases h with
    | leaf _ a c h => exact ⟨rfl, rfl, .inl ⟨h, a, c, rfl⟩⟩
    | row _ g cap cs fz x y z h1 h2 h3 h4 => exact ⟨rfl, rfl, .inr ⟨g, cap, cs, fz, x, y, z, rfl, h1, h2, h3, h4⟩⟩
  · rintro ⟨rfl, rfl, ⟨h, a, c, rfl⟩ | ⟨g, cap, cs, fz, x, y, z, rfl, h1, h2, h3, h4⟩⟩
    · exact .leaf t a c h
    · exact .row t g cap cs fz x y z h1 h2 h3 h4
/-- The rows of types stand as they stood. -/
def KeepT (w w' : World) : Prop := ∀ (k : Nat) (cs : Array Value) (fz : Nat × Nat), w.heap[k]? = some (.cells cs 29 fz) → w'.heap[k]? = some (.cells cs 29 fz)
theorem KeepT.refl (w : World) : KeepT w w := fun _ _ _ h => h
theorem KeepT.trans {a b c : World} (h : KeepT a b) (k : KeepT b c) : KeepT a c := fun i cs fz hi => k i cs fz (h i cs fz hi)
theorem KeepT.of_below {w w' : World} (h : Below w.heap.size w w') : KeepT w w' := fun k _ _ hk => (h.block k (Array.getElem?_eq_some_iff.1 hk).1).trans hk
theorem TyAt.keep {w w' : World} (hk : KeepT w w') {t : T} {k n v : Value} (h : TyAt w t k n v) : TyAt w' t k n v := by
  induction h with
  | leaf t a c h => exact .leaf t a c h
  | row t g cap cs fz x y z h1 h2 h3 _ ih => exact .row t g cap cs fz x y z (hk _ _ _ h1) h2 h3 ih
theorem TysAt.keep {w w' : World} (hk : KeepT w w') {v : Value} {l : List T} (h : TysAt w v l) : TysAt w' v l := by
  rcases h with h | ⟨g, cap, cs, fz, x, y, z, rfl, h1, h2, h3, h4⟩
  · exact .inl h
  · exact .inr ⟨g, cap, cs, fz, x, y, z, rfl, hk _ _ _ h1, h2, h3, fun i hi => (h4 i hi).keep hk⟩
theorem TysAt.shape {w : World} {v : Value} {l : List T} (h : TysAt w v l) : ∃ a c, v = .slice a l.length c := by
  rcases h with ⟨rfl, a, c, rfl⟩ | ⟨g, cap, cs, fz, x, y, z, rfl, _⟩
  · exact ⟨a, c, rfl⟩
  · exact ⟨_, _, rfl⟩
theorem TyAt.shape {w : World} {t : T} {k n v : Value} (h : TyAt w t k n v) : k = .int .i64 t.kind ∧ n = .string t.name ∧ (∃ a c, v = .slice a t.kids.length c) ∧ TysAt w v t.kids := by
  obtain ⟨h1, h2, h3⟩ := (tyAt_iff w t k n v).1 h
  exact ⟨h1, h2, h3.shape, h3⟩
/-- A row with a part: where it lies, and each part. -/
theorem TysAt.row {w : World} {v : Value} {l : List T} (h : TysAt w v l) (h0 : l ≠ []) : ∃ g cap, v = .slice (some ⟨g, 0, none⟩) l.length cap ∧ g < w.heap.size ∧ l.length ≤ cap ∧
    ∀ i (h : i < l.length), ∃ a c, w.cell? ⟨g, i * 3, none⟩ = some (.int .i64 l[i].kind) ∧ w.cell? ⟨g, i * 3 + 1, none⟩ = some (.string l[i].name) ∧ w.cell? ⟨g, i * 3 + 2, none⟩ = some (.slice a l[i].kids.length c) ∧
      TysAt w (.slice a l[i].kids.length c) l[i].kids := by
  rcases h with ⟨h, _⟩ | ⟨g, cap, cs, fz, x, y, z, rfl, h1, h2, h3, h4⟩
  · exact absurd h h0
  · refine ⟨g, cap, rfl, (Array.getElem?_eq_some_iff.1 h1).1, h2, fun i hi => ?_⟩
    obtain ⟨c1, c2, c3⟩ := h3 i hi
    obtain ⟨e1, e2, ⟨a, c, e3⟩, e4⟩ := (h4 i hi).shape
    rw [e1] at c1; rw [e2] at c2; rw [e3] at c3 e4
    refine ⟨a, c, ?_, ?_, ?_, e4⟩
    · simp only [World.cell?, h1]; simpa using c1
    · simp only [World.cell?, h1]; simpa using c2
    · simp only [World.cell?, h1]; simpa using c3
theorem TyAt.mk {w : World} (t : T) {v : Value} (h : TysAt w v t.kids) : TyAt w t (.int .i64 t.kind) (.string t.name) v := (tyAt_iff w t _ _ v).2 ⟨rfl, rfl, h⟩
theorem TysAt.nil (w : World) (a : Option Addr) (c : Nat) : TysAt w (.slice a 0 c) [] := .inl ⟨rfl, a, c, rfl⟩
theorem alloc_new (w : World) (o : Obj) : (w.alloc o).heap[w.heap.size]? = some o := by show (w.heap.push o)[w.heap.size]? = _; simp
theorem keepT_alloc (w : World) (o : Obj) : KeepT w (w.alloc o) := .of_below ((Below.refl _ w).alloc (Nat.le_refl _) o)
theorem TysAt.one {w : World} {t : T} {k n v : Value} {g : Nat} (hg : g = w.heap.size) (h : TyAt w t k n v) : TysAt (w.alloc (.cells #[k, n, v] 29)) (.slice (some ⟨g, 0, none⟩) 1 1) [t] := by
  subst hg
  refine .inr ⟨w.heap.size, 1, #[k, n, v], (0, 0), fun _ => k, fun _ => n, fun _ => v, rfl, alloc_new w _, Nat.le_refl _, ?_, ?_⟩
  · intro i hi
    obtain rfl : i = 0 := by simpa using hi
    exact ⟨rfl, rfl, rfl⟩
  · intro i hi
    obtain rfl : i = 0 := by simpa using hi
    exact h.keep (keepT_alloc w _)
theorem TysAt.two {w : World} {t u : T} {k n v k' n' v' : Value} {g : Nat} (hg : g = w.heap.size) (h : TyAt w t k n v) (h' : TyAt w u k' n' v') : TysAt (w.alloc (.cells #[k, n, v, k', n', v'] 29)) (.slice (some ⟨g, 0, none⟩) 2 2) [t, u] := by
  subst hg
  refine .inr ⟨w.heap.size, 2, #[k, n, v, k', n', v'], (0, 0), fun i => if i = 0 then k else k', fun i => if i = 0 then n else n', fun i => if i = 0 then v else v', rfl, alloc_new w _, Nat.le_refl _, ?_, ?_⟩
  · intro i hi
    match i, hi with
    | 0, _ => exact ⟨rfl, rfl, rfl⟩
    | 1, _ => exact ⟨rfl, rfl, rfl⟩
    | n + 2, hi => simp at hi; omega
  · intro i hi
    match i, hi with
    | 0, _ => exact h.keep (keepT_alloc w _)
    | 1, _ => exact h'.keep (keepT_alloc w _)
    | n + 2, hi => simp at hi; omega

theorem three_cells {w : World} {p : Nat} {x y z : Value} {T : TypeId} {fz : Nat × Nat} (h : w.heap[p]? = some (.cells #[x, y, z] T fz)) : w.cell? ⟨p, 0, none⟩ = some x ∧ w.cell? ⟨p, 1, none⟩ = some y ∧ w.cell? ⟨p, 2, none⟩ = some z := by
  refine ⟨?_, ?_, ?_⟩ <;> (rw [Lib.cell_of_heap h]; rfl)

/-- As TyAt, of rows in blocks that are ok. -/
inductive TyIn (ok : Nat → Prop) (w : World) : T → Value → Prop
  | leaf (t : T) (a : Option Addr) (c : Nat) : t.kids = [] → TyIn ok w t (.slice a 0 c)
  | row (t : T) (g cap : Nat) (cs : Array Value) (fz : Nat × Nat) (z : Nat → Value) : ok g → w.heap[g]? = some (.cells cs 29 fz) → t.kids.length ≤ cap →
      (∀ i (h : i < t.kids.length), cs[i * 3]? = some (.int .i64 t.kids[i].kind) ∧ cs[i * 3 + 1]? = some (.string t.kids[i].name) ∧ cs[i * 3 + 2]? = some (z i)) →
      (∀ i (h : i < t.kids.length), TyIn ok w t.kids[i] (z i)) →
      TyIn ok w t (.slice (some ⟨g, 0, none⟩) t.kids.length cap)
theorem TyIn.keep {ok : Nat → Prop} {w w' : World} (hk : ∀ (k : Nat) (cs : Array Value) (fz : Nat × Nat), ok k → w.heap[k]? = some (.cells cs 29 fz) → w'.heap[k]? = some (.cells cs 29 fz)) {t : T} {v : Value} (h : TyIn ok w t v) : TyIn ok w' t v := by
  induction h with
  | leaf t a c h => exact .leaf t a c h
  | row t g cap cs fz z h0 h1 h2 h3 _ ih => exact .row t g cap cs fz z h0 (hk _ _ _ h0 h1) h2 h3 ih
theorem TyIn.mono {ok ok' : Nat → Prop} {w : World} (hk : ∀ k, ok k → ok' k) {t : T} {v : Value} (h : TyIn ok w t v) : TyIn ok' w t v := by
  induction h with
  | leaf t a c h => exact .leaf t a c h
  | row t g cap cs fz z h0 h1 h2 h3 _ ih => exact .row t g cap cs fz z (hk _ h0) h1 h2 h3 ih
theorem TyIn.lt {ok : Nat → Prop} {w : World} {t : T} {v : Value} (h : TyIn ok w t v) : TyIn (fun k => ok k ∧ k < w.heap.size) w t v := by
  induction h with
  | leaf t a c h => exact .leaf t a c h
  | row t g cap cs fz z h0 h1 h2 h3 _ ih => exact .row t g cap cs fz z ⟨h0, (Array.getElem?_eq_some_iff.1 h1).1⟩ h1 h2 h3 ih
theorem TyIn.shape {ok : Nat → Prop} {w : World} {t : T} {v : Value} (h : TyIn ok w t v) : ∃ a c, v = .slice a t.kids.length c := by
  cases h with
  | leaf _ a c h => exact ⟨a, c, by rw [h]; rfl⟩
  | row _ g cap cs fz z h0 h1 h2 h3 _ => exact ⟨_, _, rfl⟩
theorem TyIn.tys {ok : Nat → Prop} {w : World} {t : T} {v : Value} (h : TyIn ok w t v) : TysAt w v t.kids := by
  induction h with
  | leaf t a c h => rw [h]; exact .inl ⟨rfl, a, c, rfl⟩
  | row t g cap cs fz z h0 h1 h2 h3 _ ih => exact .inr ⟨g, cap, cs, fz, fun i => if h : i < t.kids.length then .int .i64 t.kids[i].kind else undef, fun i => if h : i < t.kids.length then .string t.kids[i].name else undef, z, rfl, h1, h2, fun i hi => by simp only [dif_pos hi]; exact h3 i hi, fun i hi => by simp only [dif_pos hi]; exact TyAt.mk _ (ih i hi)⟩
theorem TyIn.keep_below {ok : Nat → Prop} {w w' : World} {N : Nat} (hb : Below N w w') {t : T} {v : Value} (h : TyIn (fun k => ok k ∧ k < N) w t v) : TyIn (fun k => ok k ∧ k < N) w' t v := h.keep fun k _ _ hk hh => (hb.block k hk.2).trans hh

/-- A type's value. -/
def tyV (t : T) (v : Value) : Value := .agg #[.int .i64 t.kind, .string t.name, v]

set_option maxHeartbeats 1000000 in
theorem var_any (n : ByteArray) (w : World) :
    Calls Try.prog 28 #[.string n] w fun e w' => (∃ u, e = .returned (tyV (.var n) u) ∧ TysAt w' u []) ∧ Below w.heap.size w w' := by
  go_enter Try.func28, Try.ntmps28
  go_wp2
  refine bodyPost_ret (v := tyV (.var n) (.slice none 0 0)) (by simp [results, Try.results28, go_sem, tyV, T.kind, T.name]) rfl ⟨⟨_, rfl, TysAt.nil _ _ _⟩, (Below.refl _ w).alloc (Nat.le_refl _) _⟩

set_option maxHeartbeats 1000000 in
theorem con_any (n : ByteArray) (a : Option Addr) (l : List T) (k c : Nat) (w : World) (h : TysAt w (.slice a k c) l) :
    Calls Try.prog 29 #[.string n, .slice a k c] w fun e w' => (∃ u, e = .returned (tyV (.con n l) u) ∧ TysAt w' u l) ∧ Below w.heap.size w w' := by
  have H := Lib.hid h; clear h
  go_enter Try.func29, Try.ntmps29
  go_wp2
  refine bodyPost_ret (v := tyV (.con n l) (.slice a k c)) (by simp [results, Try.results29, go_sem, tyV, T.kind, T.name]) rfl ⟨⟨_, rfl, H.out.keep (keepT_alloc w _)⟩, (Below.refl _ w).alloc (Nat.le_refl _) _⟩

set_option maxHeartbeats 1000000 in
theorem fun2_any (x y : T) (a b : Option Addr) (c d : Nat) (w : World) (hx : TysAt w (.slice a x.kids.length c) x.kids) (hy : TysAt w (.slice b y.kids.length d) y.kids) :
    Calls Try.prog 30 #[tyV x (.slice a x.kids.length c), tyV y (.slice b y.kids.length d)] w fun e w' => (∃ u, e = .returned (tyV (.fn x y) u) ∧ TysAt w' u [x, y]) ∧ Below w.heap.size w w' := by
  have HX := Lib.hid (TyAt.mk x hx); clear hx
  have HY := Lib.hid (TyAt.mk y hy); clear hy
  simp only [tyV]
  go_enter Try.func30, Try.ntmps30
  go_wp2
  have k3 : ∀ o1 o2 o3 : Obj, KeepT w (((w.alloc o1).alloc o2).alloc o3) := fun o1 o2 o3 => ((keepT_alloc w o1).trans (keepT_alloc _ o2)).trans (keepT_alloc _ o3)
  refine bodyPost_ret (v := .agg #[.int .i64 3, .string ⟨#[]⟩, .slice (some ⟨w.heap.size + 1 + 1 + 1, 0, none⟩) 2 2]) (by simp [results, Try.results30, go_sem]) rfl ⟨⟨_, rfl, ?_⟩, ?_⟩
  · exact TysAt.two (by simp) (HX.out.keep (k3 _ _ _)) (HY.out.keep (k3 _ _ _))
  · exact ((((Below.refl _ w).alloc (Nat.le_refl _) _).alloc (by simp) _).alloc (by simp; omega) _).alloc (by simp; omega) _
end Go.Proofs.Yteoelcefjjmjiaa
