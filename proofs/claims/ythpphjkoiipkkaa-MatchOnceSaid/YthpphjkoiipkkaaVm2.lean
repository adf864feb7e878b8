/- Merged: TyMem, TySame, TyCmp, TyFind, TyVars, TySize, SbPure. -/
import Derived.Test.YthpphjkoiipkkaaVm1
import Derived.Test.YthpphjkoiipkkaaRows
import Derived.Test.YthpphjkoiipkkaaChecked
import Derived.WalkKit
import Derived.WalkSpells
import Derived.WalkLawsBesides
import Derived.Lib.Hide
import Derived.BigQuiet
import Derived.Maps.AppendAt
import Derived.OwnWalk
import Derived.Deep.RegionWith
import Derived.Lib.Strings
import Derived.Lib.Slices
import Derived.LoopN
import Derived.Deep.CutRange
import Derived.BigRegion
import Derived.Deep.RegionHeld3
import Derived.Deep.DrawnRows
import Derived.Maps.OwnOps
import Derived.Maps.Views
import Derived.Deep.AppendLies
import Derived.Deep.RegionLaw
import Derived.Carry
import Derived.Sort.LotA
import Derived.Lib.SlKept
/- A type in memory; what is kept of it; rows that lie in blocks of a kind. -/
namespace Go.Proofs.Ythpphjkoiipkkaa
open Go.RowKit
attribute [local go_sem] Oper.semAt_some


/-- Type t stands in three cells: its kind, its name, the row of its parts. -/
inductive TyAt (w : World) : T → Value → Value → Value → Prop
  | leaf (t : T) (a : Option Addr) (c : Nat) : t.kids = [] → TyAt w t (.int .i64 t.kind) (.string t.name) (.slice a 0 c)
  | row (t : T) (g cap : Nat) (cs : Array Value) (fz : Nat × Nat) (x y z : Nat → Value) : w.heap[g]? = some (.cells cs 26 fz) → t.kids.length ≤ cap →
      (∀ i, i < t.kids.length → cs[i * 3]? = some (x i) ∧ cs[i * 3 + 1]? = some (y i) ∧ cs[i * 3 + 2]? = some (z i)) →
      (∀ i (h : i < t.kids.length), TyAt w t.kids[i] (x i) (y i) (z i)) →
      TyAt w t (.int .i64 t.kind) (.string t.name) (.slice (some ⟨g, 0, none⟩) t.kids.length cap)
/-- v is a slice of the types l. -/
def TysAt (w : World) (v : Value) (l : List T) : Prop :=
  (l = [] ∧ ∃ a c, v = .slice a 0 c) ∨ ∃ g cap cs fz, ∃ x y z : Nat → Value, v = .slice (some ⟨g, 0, none⟩) l.length cap ∧ w.heap[g]? = some (.cells cs 26 fz) ∧ l.length ≤ cap ∧
    (∀ i, i < l.length → cs[i * 3]? = some (x i) ∧ cs[i * 3 + 1]? = some (y i) ∧ cs[i * 3 + 2]? = some (z i)) ∧ ∀ i (h : i < l.length), TyAt w l[i] (x i) (y i) (z i)
theorem tyAt_iff (w : World) (t : T) (k n v : Value) : TyAt w t k n v ↔ k = .int .i64 t.kind ∧ n = .string t.name ∧ TysAt w v t.kids := by
  constructor
  · intro h
    cases h with
    | leaf _ a c h => exact ⟨rfl, rfl, .inl ⟨h, a, c, rfl⟩⟩
    | row _ g cap cs fz x y z h1 h2 h3 h4 => exact ⟨rfl, rfl, .inr ⟨g, cap, cs, fz, x, y, z, rfl, h1, h2, h3, h4⟩⟩
  · rintro ⟨rfl, rfl, ⟨h, a, c, rfl⟩ | ⟨g, cap, cs, fz, x, y, z, rfl, h1, h2, h3, h4⟩⟩
    · exact .leaf t a c h
    · exact .row t g cap cs fz x y z h1 h2 h3 h4
/-- The rows of types stand as they stood. -/
def KeepT (w w' : World) : Prop := ∀ (k : Nat) (cs : Array Value) (fz : Nat × Nat), w.heap[k]? = some (.cells cs 26 fz) → w'.heap[k]? = some (.cells cs 26 fz)
theorem KeepT.refl (w : World) : KeepT w w := fun _ _ _ h => h
theorem KeepT.trans {a b c : World} (h : KeepT a b) (k : KeepT b c) : KeepT a c := fun i cs fz hi => k i cs fz (h i cs fz hi)
theorem KeepT.of_below {w w' : World} (h : Below w.heap.size w w') : KeepT w w' := fun k _ _ hk => (h.block k (Array.getElem?_eq_some_iff.1 hk).1).trans hk
theorem TyAt.keep {w w' : World} (hk : KeepT w w') {t : T} {k n v : Value} (h : TyAt w t k n v) : TyAt w' t k n v := by
  induction h with
  | leaf t a c h => exact .leaf t a c h
  | row t g cap cs fz x y z h1 h2 h3 _ ih => exact .row t g cap cs fz x y z (hk _ _ _ h1) h2 h3 ih
theorem TysAt.keep {w w' : World} (hk : KeepT w w') {v : Value} {l : List T} (h : TysAt w v l) : TysAt w' v l := by
  rcases h with h | ⟨g, cap, cs, fz, x, y, z, rfl, h1, h2, h3, h4⟩
  · exact .inl h
  · exact .inr ⟨g, cap, cs, fz, x, y, z, rfl, hk _ _ _ h1, h2, h3, fun i hi => (h4 i hi).keep hk⟩
theorem TysAt.shape {w : World} {v : Value} {l : List T} (h : TysAt w v l) : ∃ a c, v = .slice a l.length c := by
  rcases h with ⟨rfl, a, c, rfl⟩ | ⟨g, cap, cs, fz, x, y, z, rfl, _⟩
  · exact ⟨a, c, rfl⟩
  · exact ⟨_, _, rfl⟩
theorem TyAt.shape {w : World} {t : T} {k n v : Value} (h : TyAt w t k n v) : k = .int .i64 t.kind ∧ n = .string t.name ∧ (∃ a c, v = .slice a t.kids.length c) ∧ TysAt w v t.kids := by
  obtain ⟨h1, h2, h3⟩ := (tyAt_iff w t k n v).1 h
  exact ⟨h1, h2, h3.shape, h3⟩
/-- A row with a part: where it lies, and each part. -/
theorem TysAt.row {w : World} {v : Value} {l : List T} (h : TysAt w v l) (h0 : l ≠ []) : ∃ g cap, v = .slice (some ⟨g, 0, none⟩) l.length cap ∧ g < w.heap.size ∧ l.length ≤ cap ∧
    ∀ i (h : i < l.length), ∃ a c, w.cell? ⟨g, i * 3, none⟩ = some (.int .i64 l[i].kind) ∧ w.cell? ⟨g, i * 3 + 1, none⟩ = some (.string l[i].name) ∧ w.cell? ⟨g, i * 3 + 2, none⟩ = some (.slice a l[i].kids.length c) ∧
      TysAt w (.slice a l[i].kids.length c) l[i].kids := by
  rcases h with ⟨h, _⟩ | ⟨g, cap, cs, fz, x, y, z, rfl, h1, h2, h3, h4⟩
  · exact absurd h h0
  · refine ⟨g, cap, rfl, (Array.getElem?_eq_some_iff.1 h1).1, h2, fun i hi => ?_⟩
    obtain ⟨c1, c2, c3⟩ := h3 i hi
    obtain ⟨e1, e2, ⟨a, c, e3⟩, e4⟩ := (h4 i hi).shape
    rw [e1] at c1; rw [e2] at c2; rw [e3] at c3 e4
    refine ⟨a, c, ?_, ?_, ?_, e4⟩
    · simp only [World.cell?, h1]; simpa using c1
    · simp only [World.cell?, h1]; simpa using c2
    · simp only [World.cell?, h1]; simpa using c3
theorem TyAt.mk {w : World} (t : T) {v : Value} (h : TysAt w v t.kids) : TyAt w t (.int .i64 t.kind) (.string t.name) v := (tyAt_iff w t _ _ v).2 ⟨rfl, rfl, h⟩
theorem TysAt.nil (w : World) (a : Option Addr) (c : Nat) : TysAt w (.slice a 0 c) [] := .inl ⟨rfl, a, c, rfl⟩
theorem alloc_new (w : World) (o : Obj) : (w.alloc o).heap[w.heap.size]? = some o := by show (w.heap.push o)[w.heap.size]? = _; simp
theorem keepT_alloc (w : World) (o : Obj) : KeepT w (w.alloc o) := .of_below ((Below.refl _ w).alloc (Nat.le_refl _) o)
theorem TysAt.one {w : World} {t : T} {k n v : Value} {g : Nat} (hg : g = w.heap.size) (h : TyAt w t k n v) : TysAt (w.alloc (.cells #[k, n, v] 26)) (.slice (some ⟨g, 0, none⟩) 1 1) [t] := by
  subst hg
  refine .inr ⟨w.heap.size, 1, #[k, n, v], (0, 0), fun _ => k, fun _ => n, fun _ => v, rfl, alloc_new w _, Nat.le_refl _, ?_, ?_⟩
  · intro i hi
    obtain rfl : i = 0 := by simpa using hi
    exact ⟨rfl, rfl, rfl⟩
  · intro i hi
    obtain rfl : i = 0 := by simpa using hi
    exact h.keep (keepT_alloc w _)
theorem TysAt.two {w : World} {t u : T} {k n v k' n' v' : Value} {g : Nat} (hg : g = w.heap.size) (h : TyAt w t k n v) (h' : TyAt w u k' n' v') : TysAt (w.alloc (.cells #[k, n, v, k', n', v'] 26)) (.slice (some ⟨g, 0, none⟩) 2 2) [t, u] := by
  subst hg
  refine .inr ⟨w.heap.size, 2, #[k, n, v, k', n', v'], (0, 0), fun i => if i = 0 then k else k', fun i => if i = 0 then n else n', fun i => if i = 0 then v else v', rfl, alloc_new w _, Nat.le_refl _, ?_, ?_⟩
  · intro i hi
    match i, hi with
    | 0, _ => exact ⟨rfl, rfl, rfl⟩
    | 1, _ => exact ⟨rfl, rfl, rfl⟩
    | n + 2, hi => simp at hi; omega
  · intro i hi
    match i, hi with
    | 0, _ => exact h.keep (keepT_alloc w _)
    | 1, _ => exact h'.keep (keepT_alloc w _)
    | n + 2, hi => simp at hi; omega

theorem three_cells {w : World} {p : Nat} {x y z : Value} {T : TypeId} {fz : Nat × Nat} (h : w.heap[p]? = some (.cells #[x, y, z] T fz)) : w.cell? ⟨p, 0, none⟩ = some x ∧ w.cell? ⟨p, 1, none⟩ = some y ∧ w.cell? ⟨p, 2, none⟩ = some z := by
  refine ⟨?_, ?_, ?_⟩ <;> (rw [Lib.cell_of_heap h]; rfl)

/-- As TyAt, of rows in blocks that are ok. -/
inductive TyIn (ok : Nat → Prop) (w : World) : T → Value → Prop
  | leaf (t : T) (a : Option Addr) (c : Nat) : t.kids = [] → TyIn ok w t (.slice a 0 c)
  | row (t : T) (g cap : Nat) (cs : Array Value) (fz : Nat × Nat) (z : Nat → Value) : ok g → w.heap[g]? = some (.cells cs 26 fz) → t.kids.length ≤ cap →
      (∀ i (h : i < t.kids.length), cs[i * 3]? = some (.int .i64 t.kids[i].kind) ∧ cs[i * 3 + 1]? = some (.string t.kids[i].name) ∧ cs[i * 3 + 2]? = some (z i)) →
      (∀ i (h : i < t.kids.length), TyIn ok w t.kids[i] (z i)) →
      TyIn ok w t (.slice (some ⟨g, 0, none⟩) t.kids.length cap)
theorem TyIn.keep {ok : Nat → Prop} {w w' : World} (hk : ∀ (k : Nat) (cs : Array Value) (fz : Nat × Nat), ok k → w.heap[k]? = some (.cells cs 26 fz) → w'.heap[k]? = some (.cells cs 26 fz)) {t : T} {v : Value} (h : TyIn ok w t v) : TyIn ok w' t v := by
  induction h with
  | leaf t a c h => exact .leaf t a c h
  | row t g cap cs fz z h0 h1 h2 h3 _ ih => exact .row t g cap cs fz z h0 (hk _ _ _ h0 h1) h2 h3 ih
theorem TyIn.mono {ok ok' : Nat → Prop} {w : World} (hk : ∀ k, ok k → ok' k) {t : T} {v : Value} (h : TyIn ok w t v) : TyIn ok' w t v := by
  induction h with
  | leaf t a c h => exact .leaf t a c h
  | row t g cap cs fz z h0 h1 h2 h3 _ ih => exact .row t g cap cs fz z (hk _ h0) h1 h2 h3 ih
theorem TyIn.lt {ok : Nat → Prop} {w : World} {t : T} {v : Value} (h : TyIn ok w t v) : TyIn (fun k => ok k ∧ k < w.heap.size) w t v := by
  induction h with
  | leaf t a c h => exact .leaf t a c h
  | row t g cap cs fz z h0 h1 h2 h3 _ ih => exact .row t g cap cs fz z ⟨h0, (Array.getElem?_eq_some_iff.1 h1).1⟩ h1 h2 h3 ih
theorem TyIn.shape {ok : Nat → Prop} {w : World} {t : T} {v : Value} (h : TyIn ok w t v) : ∃ a c, v = .slice a t.kids.length c := by
  cases h with
  | leaf _ a c h => exact ⟨a, c, by rw [h]; rfl⟩
  | row _ g cap cs fz z h0 h1 h2 h3 _ => exact ⟨_, _, rfl⟩
theorem TyIn.tys {ok : Nat → Prop} {w : World} {t : T} {v : Value} (h : TyIn ok w t v) : TysAt w v t.kids := by
  induction h with
  | leaf t a c h => rw [h]; exact .inl ⟨rfl, a, c, rfl⟩
  | row t g cap cs fz z h0 h1 h2 h3 _ ih => exact .inr ⟨g, cap, cs, fz, fun i => if h : i < t.kids.length then .int .i64 t.kids[i].kind else undef, fun i => if h : i < t.kids.length then .string t.kids[i].name else undef, z, rfl, h1, h2, fun i hi => by simp only [dif_pos hi]; exact h3 i hi, fun i hi => by simp only [dif_pos hi]; exact TyAt.mk _ (ih i hi)⟩
theorem TyIn.keep_below {ok : Nat → Prop} {w w' : World} {N : Nat} (hb : Below N w w') {t : T} {v : Value} (h : TyIn (fun k => ok k ∧ k < N) w t v) : TyIn (fun k => ok k ∧ k < N) w' t v := h.keep fun k _ _ hk hh => (hb.block k hk.2).trans hh

/-- A type's value. -/
def tyV (t : T) (v : Value) : Value := .agg #[.int .i64 t.kind, .string t.name, v]

set_option maxHeartbeats 1000000 in
theorem var_any (n : ByteArray) (w : World) :
    Calls Try.prog 17 #[.string n] w fun e w' => (∃ u, e = .returned (tyV (.var n) u) ∧ TysAt w' u []) ∧ Below w.heap.size w w' := by
  go_enter Try.func17, Try.ntmps17
  go_wp2
  refine bodyPost_ret (v := tyV (.var n) (.slice none 0 0)) (by simp [results, Try.results17, go_sem, tyV, T.kind, T.name]) rfl ⟨⟨_, rfl, TysAt.nil _ _ _⟩, (Below.refl _ w).alloc (Nat.le_refl _) _⟩

set_option maxHeartbeats 1000000 in
theorem con_any (n : ByteArray) (a : Option Addr) (l : List T) (k c : Nat) (w : World) (h : TysAt w (.slice a k c) l) :
    Calls Try.prog 18 #[.string n, .slice a k c] w fun e w' => (∃ u, e = .returned (tyV (.con n l) u) ∧ TysAt w' u l) ∧ Below w.heap.size w w' := by
  have H := Lib.hid h; clear h
  go_enter Try.func18, Try.ntmps18
  go_wp2
  refine bodyPost_ret (v := tyV (.con n l) (.slice a k c)) (by simp [results, Try.results18, go_sem, tyV, T.kind, T.name]) rfl ⟨⟨_, rfl, H.out.keep (keepT_alloc w _)⟩, (Below.refl _ w).alloc (Nat.le_refl _) _⟩

set_option maxHeartbeats 1000000 in
theorem fun2_any (x y : T) (a b : Option Addr) (c d : Nat) (w : World) (hx : TysAt w (.slice a x.kids.length c) x.kids) (hy : TysAt w (.slice b y.kids.length d) y.kids) :
    Calls Try.prog 19 #[tyV x (.slice a x.kids.length c), tyV y (.slice b y.kids.length d)] w fun e w' => (∃ u, e = .returned (tyV (.fn x y) u) ∧ TysAt w' u [x, y]) ∧ Below w.heap.size w w' := by
  have HX := Lib.hid (TyAt.mk x hx); clear hx
  have HY := Lib.hid (TyAt.mk y hy); clear hy
  simp only [tyV]
  go_enter Try.func19, Try.ntmps19
  go_wp2
  have k3 : ∀ o1 o2 o3 : Obj, KeepT w (((w.alloc o1).alloc o2).alloc o3) := fun o1 o2 o3 => ((keepT_alloc w o1).trans (keepT_alloc _ o2)).trans (keepT_alloc _ o3)
  refine bodyPost_ret (v := .agg #[.int .i64 3, .string ⟨#[]⟩, .slice (some ⟨w.heap.size + 1 + 1 + 1, 0, none⟩) 2 2]) (by simp [results, Try.results19, go_sem]) rfl ⟨⟨_, rfl, ?_⟩, ?_⟩
  · exact TysAt.two (by simp) (HX.out.keep (k3 _ _ _)) (HY.out.keep (k3 _ _ _))
  · exact ((((Below.refl _ w).alloc (Nat.le_refl _) _).alloc (by simp) _).alloc (by simp; omega) _).alloc (by simp; omega) _
end Go.Proofs.Ythpphjkoiipkkaa
/- Whether two types are the same, part by part. -/
namespace Go.Proofs.Ythpphjkoiipkkaa
open Go.RowKit
attribute [local go_sem] Oper.semAt_some

open Classical in
noncomputable def eqB {α : Type} (a b : α) : Bool := decide (a = b)
theorem eqB_true {α : Type} {a b : α} (h : a = b) : eqB a b = true := by simp [eqB, h]
theorem eqB_false {α : Type} {a b : α} (h : ¬ a = b) : eqB a b = false := by simp [eqB, h]
theorem eqB_iff {α : Type} {a b : α} : eqB a b = true ↔ a = b := by simp [eqB]
theorem T.ext_iff {t u : T} : t = u ↔ t.kind = u.kind ∧ t.name = u.name ∧ t.kids = u.kids := by
  cases t <;> cases u <;> simp [T.kind, T.name, T.kids]
theorem bytes_beq (a b : ByteArray) : (a.toList == b.toList) = eqB a b := by
  by_cases h : a = b
  · rw [eqB_true h, h]; simp
  · rw [eqB_false h]
    simp only [beq_eq_false_iff_ne, ne_eq]
    intro e
    apply h
    rw [Lib.toList_data, Lib.toList_data] at e
    cases a; cases b; simp_all

def SameOK (t : T) : Prop := ∀ (t' : T) (a b : Option Addr) (c d : Nat) (w : World), TysAt w (.slice a t.kids.length c) t.kids → TysAt w (.slice b t'.kids.length d) t'.kids →
    Calls Try.prog 11 #[tyV t (.slice a t.kids.length c), tyV t' (.slice b t'.kids.length d)] w fun e w' => e = .returned (.bool (eqB t t')) ∧ Below w.heap.size w w'

set_option maxHeartbeats 600000 in
theorem sameTypes_of (l l' : List T) (H : ∀ t ∈ l, SameOK t) (a b : Option Addr) (c d : Nat) (w : World) (h : TysAt w (.slice a l.length c) l) (h' : TysAt w (.slice b l'.length d) l') (hn : l.length < 1152921504606846976) :
    Calls Try.prog 24 #[.slice a l.length c, .slice b l'.length d] w fun e w' => e = .returned (.bool (eqB l l')) ∧ Below w.heap.size w w' := by
  by_cases hl : l.length = l'.length
  · by_cases h0 : l = []
    · subst h0
      obtain rfl : l' = [] := List.length_eq_zero_iff.1 hl.symm
      rw [eqB_true rfl]
      clear h h' H
      go_enter Try.func24, Try.ntmps24
      go_wp2
      go_loopw [5] (fun vi wr => vi = .int .i64 0 ∧ Hid (Below w.heap.size w wr)) (fun _ _ => 0)
      case atStart => exact ⟨rfl, Lib.hid (Below.refl _ _)⟩
      case round =>
        obtain ⟨rfl, hB⟩ := hrel
        go_wp2
        go_ret
        exact ⟨rfl, hB.out⟩
    · have h0' : l' ≠ [] := by intro e; rw [e] at hl; exact h0 (List.length_eq_zero_iff.1 hl)
      obtain ⟨g1, c1, e1, hg1, hc1, r1⟩ := h.row h0
      obtain ⟨g2, c2, e2, hg2, hc2, r2⟩ := h'.row h0'
      cases e1; cases e2
      have HR1 := Lib.hid r1; clear r1
      have HR2 := Lib.hid r2; clear r2
      have HS := Lib.hid H; clear H
      obtain ⟨res, hres⟩ : ∃ r, eqB l l' = r := ⟨_, rfl⟩
      have HRes := Lib.hid hres
      rw [hres]; clear hres h h'
      rw [← hl] at hc2 ⊢
      have HL := Lib.hid hl; clear hl
      have hm : ((l.length : Int) != (l.length : Int)) = false := by simp
      go_enter Try.func24, Try.ntmps24
      go_wp2
      go_loopw [5] (fun vi wr => ∃ i : Nat, i ≤ l.length ∧ vi = .int .i64 i ∧ Hid (Below w.heap.size w wr) ∧ Hid (∀ j (h1 : j < l.length) (h2 : j < l'.length), j < i → l[j] = l'[j])) (fun vi _ => l.length - (intOf vi).toNat)
      case atStart => exact ⟨0, Nat.zero_le _, rfl, Lib.hid (Below.refl _ _), Lib.hid (fun j _ _ h => absurd h (by omega))⟩
      case round =>
        obtain ⟨i, hi, rfl, hB, hS⟩ := hrel
        by_cases hlt : i < l.length
        · have hlt' : i < l'.length := HL.out ▸ hlt
          obtain ⟨pa, ca, x0, x1, x2, xk⟩ := HR1.out i hlt
          obtain ⟨pb, cb, y0, y1, y2, yk⟩ := HR2.out i hlt'
          have f1 := fun o => hB.out.cell (p := ⟨g1, o, none⟩) hg1
          have f2 := fun o => hB.out.cell (p := ⟨g2, o, none⟩) hg2
          rw [← f1] at x0 x1 x2; rw [← f2] at y0 y1 y2
          have hcall := HS.out l[i] (List.getElem_mem hlt) l'[i] pa pb ca cb
          have XK := Lib.hid xk; have YK := Lib.hid yk
          clear xk yk f1 f2
          have HE := Lib.hid (show l[i] = l[i] ∧ l'[i] = l'[i] from ⟨rfl, rfl⟩)
          obtain ⟨t, ht⟩ : ∃ t, l[i] = t := ⟨_, rfl⟩
          obtain ⟨u, hu⟩ : ∃ u, l'[i] = u := ⟨_, rfl⟩
          have HT := Lib.hid ht; have HU := Lib.hid hu
          rw [ht] at x0 x1 x2 hcall XK
          rw [hu] at y0 y1 y2 hcall YK
          simp only [tyV] at hcall
          clear ht hu HE
          have HC := Lib.hid (fun W (k : KeepT w W) => hcall W (XK.out.keep k) (YK.out.keep k)); clear hcall
          have HK : Hid (KeepT w wr.drew) := Lib.hid (fun k cs fz h => KeepT.of_below hB.out k cs fz h)
          go_wp2
          by_cases hq : t = u
          · rw [eqB_true hq] at HC
            have HQ := Lib.hid hq; clear hq
            go_region_with (first
              | (go_at_call 11; refine (HC.out _ ?kk).mono ?_; (case kk => exact HK.out); rintro e w2 ⟨rfl, hb2⟩; have HB2 := Lib.hid hb2; clear hb2))
            all_goals go_wp2
            all_goals
              go_roundw
              case rel => exact ⟨i + 1, by omega, by go_num, Lib.hid (hB.out.drew.trans (HB2.out.mono hB.out.size)), Lib.hid (fun j h1 h2 hj => by
                by_cases hji : j = i
                · subst hji; rw [HT.out, HU.out]; exact HQ.out
                · exact hS.out j h1 h2 (by omega))⟩
              case measure => simp [intOf]; omega
          · rw [eqB_false hq] at HC
            have hres : res = false := by
              rw [← HRes.out]
              refine eqB_false fun e => hq ?_
              rw [← HT.out, ← HU.out]
              exact List.getElem_of_eq e hlt
            clear HT HU HRes hq
            subst hres
            go_region_with (first
              | (go_at_call 11; refine (HC.out _ ?kk).mono ?_; (case kk => exact HK.out); rintro e w2 ⟨rfl, hb2⟩; have HB2 := Lib.hid hb2; clear hb2))
            all_goals go_wp2
            all_goals go_ret
            all_goals exact ⟨rfl, hB.out.drew.trans (HB2.out.mono hB.out.size)⟩
        · obtain rfl : i = l.length := by omega
          have hres : res = true := by
            rw [← HRes.out]
            exact eqB_true (List.ext_getElem HL.out (fun j h1 h2 => hS.out j h1 h2 h1))
          clear HRes
          subst hres
          go_wp2
          go_ret
          exact ⟨rfl, hB.out⟩
  · have hm : ((l.length : Int) != (l'.length : Int)) = true := by simp; omega
    rw [eqB_false (fun e => hl (by rw [e]))]
    clear h h' H
    go_enter Try.func24, Try.ntmps24
    go_wp2
    go_ret
    exact ⟨rfl, Below.refl _ _⟩

set_option maxHeartbeats 1000000 in
theorem sameType_step (t : T) (H : ∀ k ∈ t.kids, SameOK k) (hn : t.kids.length < 1152921504606846976) : SameOK t := by
  intro t' a b c d w h h'
  have HC := Lib.hid (fun (W : World) (k : KeepT w W) => sameTypes_of t.kids t'.kids H a b c d W (h.keep k) (h'.keep k) hn)
  have e0 : (t.kind == t'.kind) = eqB t.kind t'.kind := by
    by_cases e : t.kind = t'.kind
    · rw [eqB_true e]; simpa using e
    · rw [eqB_false e]; simpa using e
  have e1 := bytes_beq t.name t'.name
  have HX := Lib.hid (@T.ext_iff t t')
  clear H hn h h'
  have hz : ∀ o1 o2 : Obj, KeepT w ((w.alloc o1).alloc o2) := fun o1 o2 => (keepT_alloc w o1).trans (keepT_alloc _ o2)
  have hb : ∀ o1 o2 : Obj, Below w.heap.size w ((w.alloc o1).alloc o2) := fun o1 o2 => ((Below.refl _ w).alloc (Nat.le_refl _) _).alloc (by simp) _
  have HZ := Lib.hid hz; have HB := Lib.hid hb
  clear hz hb
  obtain ⟨res, hres⟩ : ∃ r, eqB t t' = r := ⟨_, rfl⟩
  have HR := Lib.hid hres
  rw [hres]; clear hres
  simp only [tyV]
  by_cases hk : t.kind = t'.kind
  · rw [eqB_true hk] at e0
    have HK := Lib.hid hk; clear hk
    by_cases hm : t.name = t'.name
    · rw [eqB_true hm] at e1
      have HM := Lib.hid hm; clear hm
      go_enter Try.func11, Try.ntmps11
      go_wp2_with (go_at_call 24; refine (HC.out _ ?kk).mono ?_; (case kk => exact HZ.out _ _); rintro e w2 ⟨rfl, hb2⟩; have HB2 := Lib.hid hb2; clear hb2)
      go_ret
      refine ⟨?_, (HB.out _ _).trans (HB2.out.mono (by simp; omega))⟩
      rw [← HR.out]
      by_cases hq : t.kids = t'.kids
      · rw [eqB_true hq, eqB_true (HX.out.2 ⟨HK.out, HM.out, hq⟩)]
        rfl
      · rw [eqB_false hq, eqB_false (fun e => hq (HX.out.1 e).2.2)]
        rfl
    · rw [eqB_false hm] at e1
      have hr : res = false := by rw [← HR.out]; exact eqB_false (fun e => hm (HX.out.1 e).2.1)
      subst hr
      clear HR hm
      go_enter Try.func11, Try.ntmps11
      go_wp2_with (first | fail)
      go_ret
      exact ⟨rfl, HB.out _ _⟩
  · rw [eqB_false hk] at e0
    have hr : res = false := by rw [← HR.out]; exact eqB_false (fun e => hk (HX.out.1 e).1)
    subst hr
    clear HR hk
    go_enter Try.func11, Try.ntmps11
    go_wp2_with (first | fail)
    go_ret
    exact ⟨rfl, HB.out _ _⟩

/-- No list of parts is longer than any memory. -/
inductive Fits : T → Prop
  | mk (t : T) : t.kids.length < 1152921504606846976 → (∀ k, k ∈ t.kids → Fits k) → Fits t
theorem Fits.len {t : T} (h : Fits t) : t.kids.length < 1152921504606846976 := by cases h; assumption
theorem Fits.kid {t k : T} (h : Fits t) (hk : k ∈ t.kids) : Fits k := by cases h with | mk _ _ h => exact h k hk
theorem sameType_ok {t : T} (h : Fits t) : SameOK t := by
  induction h with
  | mk t h1 _ ih => exact sameType_step t ih h1
theorem sameType_any {t t' : T} {v v' : Value} {w : World} (hf : Fits t) (h : TysAt w v t.kids) (h' : TysAt w v' t'.kids) :
    Calls Try.prog 11 #[tyV t v, tyV t' v'] w fun e w' => e = .returned (.bool (eqB t t')) ∧ Below w.heap.size w w' := by
  obtain ⟨a, c, rfl⟩ := h.shape
  obtain ⟨b, d, rfl⟩ := h'.shape
  exact sameType_ok hf t' a b c d w h h'
end Go.Proofs.Ythpphjkoiipkkaa
/- types.Compare, types.Same: the order of types. -/
namespace Go.Proofs.Ythpphjkoiipkkaa
open Go.RowKit
attribute [local go_sem] Oper.semAt_some

set_option maxHeartbeats 1000000 in
theorem nanInt_any (a : Int) (w : World) : Calls Try.prog 52 #[.int .i64 a] w fun e w' => e = .returned (.bool false) ∧ w = w' := by
  have h : (a != a) = false := by simp
  go_enter Try.func52, Try.ntmps52
  go_wp2
  go_ret
  exact ⟨rfl, rfl⟩
set_option maxHeartbeats 1000000 in
theorem nanStr_any (a : ByteArray) (w : World) : Calls Try.prog 42 #[.string a] w fun e w' => e = .returned (.bool false) ∧ w = w' := by
  have h : (a.toList == a.toList) = true := by simp
  go_enter Try.func42, Try.ntmps42
  go_wp2
  go_ret
  exact ⟨rfl, rfl⟩
set_option maxHeartbeats 1000000 in
theorem cmpInt_of (a b r : Int) (w : World) (h : a < b ∧ r = -1 ∨ (¬ a < b ∧ b < a) ∧ r = 1 ∨ (¬ a < b ∧ ¬ b < a) ∧ r = 0) : Calls Try.prog 48 #[.int .i64 a, .int .i64 b] w fun e w' => e = .returned (.int .i64 r) ∧ w = w' := by
  rcases h with ⟨h, rfl⟩ | ⟨⟨h, h'⟩, rfl⟩ | ⟨⟨h, h'⟩, rfl⟩
  all_goals
    go_enter Try.func48, Try.ntmps48
    go_wp2_with (go_at_call 52; refine (nanInt_any _ _).mono ?_; rintro e w2 ⟨rfl, rfl⟩)
    go_ret
    exact ⟨rfl, rfl⟩
theorem cmpInt_any (a b : Int) (w : World) : Calls Try.prog 48 #[.int .i64 a, .int .i64 b] w fun e w' => e = .returned (.int .i64 (sgn a b)) ∧ w = w' :=
  cmpInt_of a b _ w (by unfold sgn; (repeat' split) <;> omega)
set_option maxHeartbeats 1000000 in
theorem cmpStr_of (a b : ByteArray) (r : Int) (w : World) (h : (Op.bytesLess a.toList b.toList = true ∧ r = -1) ∨ ((Op.bytesLess a.toList b.toList = false ∧ (a.toList == b.toList) = false) ∧ r = 1) ∨ ((Op.bytesLess a.toList b.toList = false ∧ (a.toList == b.toList) = true) ∧ r = 0)) : Calls Try.prog 34 #[.string a, .string b] w fun e w' => e = .returned (.int .i64 r) ∧ w = w' := by
  rcases h with ⟨h, rfl⟩ | ⟨⟨h, h'⟩, rfl⟩ | ⟨⟨h, h'⟩, rfl⟩
  all_goals
    go_enter Try.func34, Try.ntmps34
    go_wp2_with (go_at_call 42; refine (nanStr_any _ _).mono ?_; rintro e w2 ⟨rfl, rfl⟩)
    go_ret
    exact ⟨rfl, rfl⟩
theorem cmpStr_any (a b : ByteArray) (w : World) : Calls Try.prog 34 #[.string a, .string b] w fun e w' => e = .returned (.int .i64 (cmpL a.data.toList b.data.toList)) ∧ w = w' := by
  refine cmpStr_of a b _ w ?_
  rw [Lib.toList_data, Lib.toList_data, less_cmpL, beq_cmpL]
  rcases cmpL_unit a.data.toList b.data.toList with h | h | h <;> simp [h]

set_option maxHeartbeats 1000000 in
theorem or_any (b : Nat) (x y z : Int) (w : World) (h : w.heap[b]? = some (.cells #[.int .i64 x, .int .i64 y, .int .i64 z] 3 (0, 0))) :
    Calls Try.prog 47 #[.slice (some ⟨b, 0, none⟩) 3 3] w fun e w' => e = .returned (.int .i64 (orI x (orI y z))) ∧ w = w' := by
  obtain ⟨c0, c1, c2⟩ := three_cells h
  clear h
  by_cases hx : x = 0
  · subst hx
    by_cases hy : y = 0
    · subst hy
      by_cases hz : z = 0
      · subst hz
        go_enter Try.func47, Try.ntmps47
        go_wp2
        refine wp_loop_rounds 4 ?_
        rw [rounds_succ]; go_wp2
        rw [rounds_succ]; go_wp2
        rw [rounds_succ]; go_wp2
        rw [rounds_succ]; go_wp2
        go_ret
        exact ⟨rfl, rfl⟩
      · have hz1 : ((z != 0) = true) := by simpa using hz
        have e : orI 0 (orI 0 z) = z := rfl
        rw [e]; clear e
        go_enter Try.func47, Try.ntmps47
        go_wp2
        refine wp_loop_rounds 3 ?_
        rw [rounds_succ]; go_wp2
        rw [rounds_succ]; go_wp2
        rw [rounds_succ]; go_wp2
        go_ret
        exact ⟨rfl, rfl⟩
    · have hz1 : ((y != 0) = true) := by simpa using hy
      have e : orI 0 (orI y z) = y := by simp [orI, hy]
      rw [e]; clear e
      go_enter Try.func47, Try.ntmps47
      go_wp2
      refine wp_loop_rounds 2 ?_
      rw [rounds_succ]; go_wp2
      rw [rounds_succ]; go_wp2
      go_ret
      exact ⟨rfl, rfl⟩
  · have hz1 : ((x != 0) = true) := by simpa using hx
    have e : orI x (orI y z) = x := by simp [orI, hx]
    rw [e]; clear e
    go_enter Try.func47, Try.ntmps47
    go_wp2
    refine wp_loop_rounds 1 ?_
    rw [rounds_succ]; go_wp2
    go_ret
    exact ⟨rfl, rfl⟩

theorem with_worldC {P : Program} {c : Code} {Q : Exit → Act → World → Prop} {a : Act} {w : World} (S : World → Prop) (h : S w) (k : ∀ W, S W → Code.wp P c Q a W) : Code.wp P c Q a w := k w h
theorem heads_same {p q r c x : Int} (h : c = orI p (orI q (orI r x))) (k : orI p (orI q r) = 0) : c = x := by
  obtain ⟨h1, h2⟩ := orI_zero.1 k
  obtain ⟨h3, h4⟩ := orI_zero.1 h2
  rw [h, h1, h3, h4]; rfl
theorem heads_other {p q r c x d : Int} (h : c = orI p (orI q (orI r x))) (k : orI p (orI q r) = d) (hd : ¬ d = 0) : c = d := by
  rw [h, ← k]
  unfold orI at *
  by_cases hp : p = 0
  · by_cases hq : q = 0
    · by_cases hr : r = 0
      · simp [hp, hq, hr] at k; omega
      · simp [hp, hq, hr]
    · simp [hp, hq]
  · simp [hp]
theorem len_of {p q : Int} {m n : Nat} (h : orI p (orI q (sgn (m : Int) (n : Int))) = 0) : m = n := by
  have := sgn_zero.1 (orI_zero.1 (orI_zero.1 h).2).2
  omega
def CmpOK (t : T) : Prop := ∀ (t' : T) (a b : Option Addr) (c d : Nat) (w : World), TysAt w (.slice a t.kids.length c) t.kids → TysAt w (.slice b t'.kids.length d) t'.kids →
    Calls Try.prog 43 #[tyV t (.slice a t.kids.length c), tyV t' (.slice b t'.kids.length d)] w fun e w' => e = .returned (.int .i64 (cmpT t t')) ∧ Below w.heap.size w w'

theorem cmp_drop (l l' : List T) (i : Nat) (h1 : i < l.length) (h2 : i < l'.length) : cmpTs (l.drop i) (l'.drop i) = orI (cmpT l[i] l'[i]) (cmpTs (l.drop (i + 1)) (l'.drop (i + 1))) := by
  rw [List.drop_eq_getElem_cons h1, List.drop_eq_getElem_cons h2, cmpTs]

set_option maxHeartbeats 600000 in
theorem cmpFunc_of (l l' : List T) (H : ∀ t ∈ l, CmpOK t) (a b : Option Addr) (c d : Nat) (w : World) (h : TysAt w (.slice a l.length c) l) (h' : TysAt w (.slice b l'.length d) l') (hn : l.length < 1152921504606846976) (hl : l.length = l'.length) :
    Calls Try.prog 49 #[.slice a l.length c, .slice b l'.length d, .func (.func 43) #[] #[]] w fun e w' => e = .returned (.int .i64 (cmpTs l l')) ∧ Below w.heap.size w w' := by
  by_cases h0 : l = []
  · subst h0
    obtain rfl : l' = [] := List.length_eq_zero_iff.1 hl.symm
    rw [cmpTs]
    clear h h' H
    go_enter Try.func49, Try.ntmps49
    go_wp2
    go_loopw [13] (fun vi wr => vi = .int .i64 0 ∧ Hid (Below w.heap.size w wr)) (fun _ _ => 0)
    case atStart => exact ⟨rfl, Lib.hid (Below.refl _ _)⟩
    case round =>
      obtain ⟨rfl, hB⟩ := hrel
      go_wp2
      go_ret
      exact ⟨rfl, hB.out⟩
  · have h0' : l' ≠ [] := by intro e; rw [e] at hl; exact h0 (List.length_eq_zero_iff.1 hl)
    obtain ⟨g1, c1, e1, hg1, hc1, r1⟩ := h.row h0
    obtain ⟨g2, c2, e2, hg2, hc2, r2⟩ := h'.row h0'
    cases e1; cases e2
    have HR1 := Lib.hid r1; clear r1
    have HR2 := Lib.hid r2; clear r2
    have HS := Lib.hid H; clear H
    obtain ⟨res, hres⟩ : ∃ r, cmpTs l l' = r := ⟨_, rfl⟩
    have HRes := Lib.hid hres
    rw [hres]; clear hres h h'
    rw [← hl] at hc2 ⊢
    have HL := Lib.hid hl; clear hl
    go_enter Try.func49, Try.ntmps49
    go_wp2
    go_loopw [13] (fun vi wr => ∃ i : Nat, i ≤ l.length ∧ vi = .int .i64 i ∧ Hid (Below w.heap.size w wr) ∧ Hid (cmpTs (l.drop i) (l'.drop i) = res)) (fun vi _ => l.length - (intOf vi).toNat)
    case atStart => exact ⟨0, Nat.zero_le _, rfl, Lib.hid (Below.refl _ _), Lib.hid (by simpa using HRes.out)⟩
    case round =>
      obtain ⟨i, hi, rfl, hB, hS⟩ := hrel
      by_cases hlt : i < l.length
      · have hlt' : i < l'.length := HL.out ▸ hlt
        obtain ⟨pa, ca, x0, x1, x2, xk⟩ := HR1.out i hlt
        obtain ⟨pb, cb, y0, y1, y2, yk⟩ := HR2.out i hlt'
        have f1 := fun o => hB.out.cell (p := ⟨g1, o, none⟩) hg1
        have f2 := fun o => hB.out.cell (p := ⟨g2, o, none⟩) hg2
        rw [← f1] at x0 x1 x2; rw [← f2] at y0 y1 y2
        have k2 : ∀ o1 o2 : Obj, KeepT w ((wr.alloc o1).alloc o2) := fun o1 o2 => ((KeepT.of_below hB.out).trans (keepT_alloc _ o1)).trans (keepT_alloc _ o2)
        have HC := Lib.hid (fun o1 o2 => HS.out l[i] (List.getElem_mem hlt) l'[i] pa pb ca cb ((wr.alloc o1).alloc o2) (xk.keep (k2 o1 o2)) (yk.keep (k2 o1 o2)))
        have HD := cmp_drop l l' i hlt hlt'
        rw [hS.out] at HD
        have hgr1 : g1 < wr.heap.size := Nat.lt_of_lt_of_le hg1 hB.out.size
        have hgr2 : g2 < wr.heap.size := Nat.lt_of_lt_of_le hg2 hB.out.size
        have hlt1 : ((i : Int) < (l.length : Int)) := by omega
        clear f1 f2 xk yk k2 hS
        generalize l[i] = t at x0 x1 x2 HC HD
        generalize l'[i] = u at y0 y1 y2 HC HD
        simp only [tyV] at HC
        have HB := Lib.hid (fun o1 o2 => hB.out.trans ((((Below.refl wr.heap.size wr).alloc (Nat.le_refl _) o1).alloc (by simp) o2).mono hB.out.size)); clear hB
        by_cases hz : cmpT t u = 0
        · rw [hz] at HC
          have HD' := Lib.hid (show res = cmpTs (l.drop (i + 1)) (l'.drop (i + 1)) by rw [HD, hz]; rfl)
          clear HD hz
          go_wp2_with (go_at_call 43; refine (HC.out _ _).mono ?_; rintro e w2 ⟨rfl, hb2⟩; have HB2 := Lib.hid ((HB.out _ _).trans (hb2.mono (by simp; have := (HB.out (.cells #[] 0) (.cells #[] 0)).size; simp at this; omega))); clear hb2)
          refine ⟨⟨i + 1, by omega, by go_num, HB2, Lib.hid HD'.out.symm⟩, ?_⟩
          simp [intOf]; omega
        · have hz1 : (cmpT t u != 0) = true := by simpa using hz
          have hz2 : (cmpT t u == 0) = false := by simpa using hz
          have hq : cmpT t u = res := by rw [HD, orI, if_neg hz]
          rw [hq] at HC hz1 hz2
          clear HD HRes hq hz
          go_wp2_with (go_at_call 43; refine (HC.out _ _).mono ?_; rintro e w2 ⟨rfl, hb2⟩; have HB2 := Lib.hid ((HB.out _ _).trans (hb2.mono (by simp; have := (HB.out (.cells #[] 0) (.cells #[] 0)).size; simp at this; omega))); clear hb2)
          go_ret
          exact ⟨rfl, HB2.out⟩
      · obtain rfl : i = l.length := by omega
        have e1 : res = 0 := by
          have := hS.out
          rw [List.drop_length, HL.out, List.drop_length, cmpTs] at this
          exact this.symm
        subst e1
        clear HRes hS
        go_wp2
        go_ret
        exact ⟨rfl, hB.out⟩

set_option maxHeartbeats 2000000 in
theorem cmp_step (t : T) (H : ∀ k ∈ t.kids, CmpOK k) (hn : t.kids.length < 1152921504606846976) : CmpOK t := by
  intro t' a b c d w h h'
  have HC := Lib.hid (fun (W : World) (k : KeepT w W) (hl : t.kids.length = t'.kids.length) => cmpFunc_of t.kids t'.kids H a b c d W (h.keep k) (h'.keep k) hn hl)
  have HE := Lib.hid (cmpT_eq t t')
  have HB := Lib.hid (show ∀ o1 o2 : Obj, Below w.heap.size w ((w.alloc o1).alloc o2) from fun o1 o2 => ((Below.refl _ w).alloc (Nat.le_refl _) _).alloc (by simp) _)
  obtain ⟨hd, hhd⟩ : ∃ r, orI (sgn t.kind t'.kind) (orI (cmpL t.name.data.toList t'.name.data.toList) (sgn t.kids.length t'.kids.length)) = r := ⟨_, rfl⟩
  have HO := Lib.hid (fun (b : Nat) (W : World) h => by have := or_any b (sgn t.kind t'.kind) (cmpL t.name.data.toList t'.name.data.toList) (sgn t.kids.length t'.kids.length) W h; rw [hhd] at this; exact this)
  have HH := Lib.hid hhd
  clear H h h' hhd
  simp only [tyV]
  by_cases hz : hd = 0
  · subst hz
    have e : cmpT t t' = cmpTs t.kids t'.kids := heads_same HE.out HH.out
    rw [e]
    clear e HE
    go_enter Try.func43, Try.ntmps43
    go_wp2
    refine with_worldC (fun V => KeepT w V ∧ Below w.heap.size w V ∧ V.heap[w.heap.size]? = some (.cells #[.int .i64 t.kind, .string t.name, .slice a t.kids.length c] 26 (0, 0)) ∧ V.heap[w.heap.size + 1]? = some (.cells #[.int .i64 t'.kind, .string t'.name, .slice b t'.kids.length d] 26 (0, 0))) ⟨?_, HB.out _ _, ?_, ?_⟩ ?_
    · exact (keepT_alloc w _).trans (keepT_alloc _ _)
    · rw [Below.heap_alloc _ _ _ (by simp)]; exact alloc_new w _
    · have := alloc_new (w.alloc (.cells #[.int .i64 t.kind, .string t.name, .slice a t.kids.length c] 26)) (.cells #[.int .i64 t'.kind, .string t'.name, .slice b t'.kids.length d] 26)
      simpa using this
    rintro V ⟨hk, hb, v0, v1⟩
    obtain ⟨z0, z1, z2⟩ := three_cells v0
    obtain ⟨z3, z4, z5⟩ := three_cells v1
    have HK := Lib.hid hk; have HB := Lib.hid hb
    have al : Hid (∀ (p : Addr) (x : Value) (o : Obj), V.cell? p = some x → (V.alloc o).cell? p = some x) := Lib.hid fun p x o h => (((Below.refl V.heap.size V).alloc (Nat.le_refl _) o).cell (World.block_lt_of_cell? _ _ h)).trans h
    have l1 := (Array.getElem?_eq_some_iff.1 v1).1
    have l0 : w.heap.size < V.heap.size := by omega
    clear hk hb v0 v1
    go_region_held3 (fun V' => V'.cell? ⟨w.heap.size, 0, none⟩ = some (.int .i64 t.kind) ∧ V'.cell? ⟨w.heap.size, 1, none⟩ = some (.string t.name) ∧ V'.cell? ⟨w.heap.size, 2, none⟩ = some (.slice a t.kids.length c) ∧ V'.cell? ⟨w.heap.size + 1, 0, none⟩ = some (.int .i64 t'.kind) ∧ V'.cell? ⟨w.heap.size + 1, 1, none⟩ = some (.string t'.name) ∧ V'.cell? ⟨w.heap.size + 1, 2, none⟩ = some (.slice b t'.kids.length d)) (first | exact ⟨z0, z1, z2, z3, z4, z5⟩ | exact ⟨al.out _ _ _ z0, al.out _ _ _ z1, al.out _ _ _ z2, al.out _ _ _ z3, al.out _ _ _ z4, al.out _ _ _ z5⟩)
      (first
        | (go_at_call 48; refine (cmpInt_any _ _ _).mono ?_; rintro e w2 ⟨rfl, rfl⟩)
        | (go_at_call 34; refine (cmpStr_any _ _ _).mono ?_; rintro e w2 ⟨rfl, rfl⟩)
        | (go_at_call 47; refine (HO.out _ _ ?hh).mono ?_; (case hh => exact alloc_new _ _); rintro e w2 ⟨rfl, rfl⟩))
    all_goals
      go_wp2_with (go_at_call 49; refine (HC.out _ ?kk ?kl).mono ?_; (case kk => exact fun k cs fz h => keepT_alloc _ _ k cs fz (HK.out k cs fz h)); (case kl => exact len_of HH.out); rintro e w2 ⟨rfl, hb2⟩; have HB2 := Lib.hid hb2; clear hb2)
    all_goals go_ret
    all_goals exact ⟨rfl, (HB.out.trans (((Below.refl V.heap.size V).alloc (Nat.le_refl _) _).mono HB.out.size)).drew.trans (HB2.out.mono (by simp; omega))⟩
  · have hz1 : (hd != 0) = true := by simpa using hz
    have hz2 : (hd == 0) = false := by simpa using hz
    have e : cmpT t t' = hd := heads_other HE.out HH.out hz
    rw [e]
    clear e HE HC hz HH
    go_enter Try.func43, Try.ntmps43
    go_wp2
    refine with_worldC (fun V => KeepT w V ∧ Below w.heap.size w V ∧ V.heap[w.heap.size]? = some (.cells #[.int .i64 t.kind, .string t.name, .slice a t.kids.length c] 26 (0, 0)) ∧ V.heap[w.heap.size + 1]? = some (.cells #[.int .i64 t'.kind, .string t'.name, .slice b t'.kids.length d] 26 (0, 0))) ⟨?_, HB.out _ _, ?_, ?_⟩ ?_
    · exact (keepT_alloc w _).trans (keepT_alloc _ _)
    · rw [Below.heap_alloc _ _ _ (by simp)]; exact alloc_new w _
    · have := alloc_new (w.alloc (.cells #[.int .i64 t.kind, .string t.name, .slice a t.kids.length c] 26)) (.cells #[.int .i64 t'.kind, .string t'.name, .slice b t'.kids.length d] 26)
      simpa using this
    rintro V ⟨hk, hb, v0, v1⟩
    obtain ⟨z0, z1, z2⟩ := three_cells v0
    obtain ⟨z3, z4, z5⟩ := three_cells v1
    have HK := Lib.hid hk; have HB := Lib.hid hb
    have al : Hid (∀ (p : Addr) (x : Value) (o : Obj), V.cell? p = some x → (V.alloc o).cell? p = some x) := Lib.hid fun p x o h => (((Below.refl V.heap.size V).alloc (Nat.le_refl _) o).cell (World.block_lt_of_cell? _ _ h)).trans h
    have l1 := (Array.getElem?_eq_some_iff.1 v1).1
    have l0 : w.heap.size < V.heap.size := by omega
    clear hk hb v0 v1
    go_region_held3 (fun V' => V'.cell? ⟨w.heap.size, 0, none⟩ = some (.int .i64 t.kind) ∧ V'.cell? ⟨w.heap.size, 1, none⟩ = some (.string t.name) ∧ V'.cell? ⟨w.heap.size, 2, none⟩ = some (.slice a t.kids.length c) ∧ V'.cell? ⟨w.heap.size + 1, 0, none⟩ = some (.int .i64 t'.kind) ∧ V'.cell? ⟨w.heap.size + 1, 1, none⟩ = some (.string t'.name) ∧ V'.cell? ⟨w.heap.size + 1, 2, none⟩ = some (.slice b t'.kids.length d)) (first | exact ⟨z0, z1, z2, z3, z4, z5⟩ | exact ⟨al.out _ _ _ z0, al.out _ _ _ z1, al.out _ _ _ z2, al.out _ _ _ z3, al.out _ _ _ z4, al.out _ _ _ z5⟩)
      (first
        | (go_at_call 48; refine (cmpInt_any _ _ _).mono ?_; rintro e w2 ⟨rfl, rfl⟩)
        | (go_at_call 34; refine (cmpStr_any _ _ _).mono ?_; rintro e w2 ⟨rfl, rfl⟩)
        | (go_at_call 47; refine (HO.out _ _ ?hh).mono ?_; (case hh => exact alloc_new _ _); rintro e w2 ⟨rfl, rfl⟩))
    all_goals go_wp2
    all_goals go_ret
    all_goals exact ⟨rfl, (HB.out.trans (((Below.refl V.heap.size V).alloc (Nat.le_refl _) _).mono HB.out.size)).drew⟩
theorem cmp_ok {t : T} (h : Fits t) : CmpOK t := by
  induction h with
  | mk t h1 _ ih => exact cmp_step t ih h1
theorem compare_any {t t' : T} {v v' : Value} {w : World} (hf : Fits t) (h : TysAt w v t.kids) (h' : TysAt w v' t'.kids) :
    Calls Try.prog 43 #[tyV t v, tyV t' v'] w fun e w' => e = .returned (.int .i64 (cmpT t t')) ∧ Below w.heap.size w w' := by
  obtain ⟨a, c, rfl⟩ := h.shape
  obtain ⟨b, d, rfl⟩ := h'.shape
  exact cmp_ok hf t' a b c d w h h'

set_option maxHeartbeats 1000000 in
theorem same_any {t t' : T} {v v' : Value} {w : World} (hf : Fits t) (h : TysAt w v t.kids) (h' : TysAt w v' t'.kids) :
    Calls Try.prog 35 #[tyV t v, tyV t' v'] w fun e w' => e = .returned (.bool (cmpT t t' == 0)) ∧ Below w.heap.size w w' := by
  obtain ⟨a, c, rfl⟩ := h.shape
  obtain ⟨b, d, rfl⟩ := h'.shape
  have HC := Lib.hid (fun (W : World) (k : KeepT w W) => compare_any (w := W) hf (h.keep k) (h'.keep k))
  have HK := Lib.hid (show ∀ o1 o2 : Obj, KeepT w ((w.alloc o1).alloc o2) from fun o1 o2 => (keepT_alloc w o1).trans (keepT_alloc _ o2))
  have HB := Lib.hid (show ∀ o1 o2 : Obj, Below w.heap.size w ((w.alloc o1).alloc o2) from fun o1 o2 => ((Below.refl _ w).alloc (Nat.le_refl _) _).alloc (by simp) _)
  clear h h' hf
  simp only [tyV] at HC ⊢
  generalize cmpT t t' = q at *
  go_enter Try.func35, Try.ntmps35
  go_wp2_with (go_at_call 43; refine (HC.out _ ?kk).mono ?_; (case kk => exact HK.out _ _); rintro e w2 ⟨rfl, hb2⟩; have HB2 := Lib.hid hb2; clear hb2)
  go_ret
  exact ⟨rfl, (HB.out _ _).trans (HB2.out.mono (by simp; omega))⟩
end Go.Proofs.Ythpphjkoiipkkaa
/- The free variables of a type: the finder's map and its row of names. -/
namespace Go.Proofs.Ythpphjkoiipkkaa
open Go.RowKit Go.Maps
attribute [local go_sem] Oper.semAt_some

/-- How often a name is hidden. -/
noncomputable def inB (l : List ByteArray) (n : ByteArray) : Bool := l.any (fun x => eqB x n)
noncomputable def cntB (l : List ByteArray) (n : ByteArray) : Nat := (l.filter (fun x => eqB x n)).length
noncomputable def cnt (bd out : List ByteArray) (n : ByteArray) : Int := (cntB bd n : Int) + (if inB out n then 1 else 0)
theorem inB_iff {l : List ByteArray} {n : ByteArray} : inB l n = true ↔ n ∈ l := by
  simp only [inB, List.any_eq_true, eqB_iff]
  constructor
  · rintro ⟨x, hx, rfl⟩; exact hx
  · intro h; exact ⟨n, h, rfl⟩
theorem cntB_zero {l : List ByteArray} {n : ByteArray} : cntB l n = 0 ↔ ¬ n ∈ l := by
  simp only [cntB, List.length_eq_zero_iff, List.filter_eq_nil_iff, eqB_iff]
  constructor
  · intro h hn; exact h n hn rfl
  · rintro h x hx rfl; exact h hx
theorem cntB_le (l : List ByteArray) (n : ByteArray) : cntB l n ≤ l.length := List.length_filter_le _ _
theorem cnt_zero {bd out : List ByteArray} {n : ByteArray} : cnt bd out n = 0 ↔ ¬ (n ∈ bd ∨ n ∈ out) := by
  unfold cnt
  by_cases h : inB out n = true
  · have := inB_iff.1 h
    rw [if_pos h]
    constructor
    · intro e; omega
    · intro e; exact absurd (.inr this) e
  · have h' : ¬ n ∈ out := fun e => h (inB_iff.2 e)
    rw [if_neg h]
    constructor
    · intro e k
      rcases k with k | k
      · exact cntB_zero.1 (by omega) k
      · exact h' k
    · intro e
      have := cntB_zero.2 (fun k => e (.inl k))
      omega
theorem cnt_le (bd out : List ByteArray) (n : ByteArray) : 0 ≤ cnt bd out n ∧ cnt bd out n ≤ bd.length + 1 := by
  have := cntB_le bd n
  unfold cnt
  split <;> omega
theorem cnt_bind (bd out : List ByteArray) (n m : ByteArray) : cnt (n :: bd) out m = if m = n then cnt bd out n + 1 else cnt bd out m := by
  unfold cnt cntB
  by_cases h : m = n
  · subst h
    rw [if_pos rfl, List.filter_cons, if_pos (eqB_true rfl)]
    simp only [List.length_cons]
    omega
  · rw [if_neg h, List.filter_cons, if_neg (by rw [eqB_false (fun e => h e.symm)]; decide)]
theorem cnt_told {bd out : List ByteArray} {n : ByteArray} (hn : ¬ n ∈ out) (m : ByteArray) : cnt bd (out ++ [n]) m = if m = n then cnt bd out n + 1 else cnt bd out m := by
  unfold cnt
  have e : inB (out ++ [n]) m = (inB out m || eqB n m) := by simp [inB]
  rw [e]
  by_cases h : m = n
  · subst h
    have h1 : inB out m = false := by
      cases hb : inB out m with
      | false => rfl
      | true => exact absurd (inB_iff.1 hb) hn
    rw [if_pos rfl, h1, eqB_true rfl]
    simp
  · rw [if_neg h, eqB_false (fun e => h e.symm)]
    simp

theorem strLaw : Keyed Try.prog 9 := string_keyed Try.underlying9
theorem zeroInt (w : World) : (zeroValue 3).run Try.prog w = .ok (.int .i64 0) w := by kernel_rfl

/-- Block M is a map of at most m entries, which tells f. -/
def MapFn (M m : Nat) (f : ByteArray → Int) (w : World) : Prop := ∃ D : DataW Unit, IsMap D ∧ w.ownsMap Try.prog 9 (plainElem Try.prog 3) M m D ∧
  ∀ n : ByteArray, n.size ≤ maxLen → D.atKey (.string n.data.toList) (.lit (.int .i64 0)) = .lit (.int .i64 (f n))
theorem MapFn.look {M m : Nat} {f : ByteArray → Int} {w : World} (h : MapFn M m f w) (n : ByteArray) (hn : n.size ≤ maxLen) :
    (Instr.lookup 54 (.map (some M)) (.string n) false).run Try.prog w = .ok (.int .i64 (f n)) w := by
  obtain ⟨D, _, h1, h2⟩ := h
  obtain ⟨c, hrun, hat, _⟩ := h1.lookup_int strLaw Try.underlying54 Try.underlying3 (zeroInt w) (Go.WideMaps.keyOf_string_mk Try.underlying9 hn)
  rw [h2 n hn] at hat
  cases hat
  exact hrun
theorem MapFn.upd {M m : Nat} {f : ByteArray → Int} {w : World} (h : MapFn M m f w) (hm : m < maxLen) (n : ByteArray) (hn : n.size ≤ maxLen) (x : Int) (hx : (Lit.int .i64 x).wf = true) :
    ∃ w', (Instr.mapUpdate 54 (.map (some M)) (.string n) (.int .i64 x)).run Try.prog w = .ok () w' ∧ MapFn M (m + 1) (fun k => if k = n then x else f k) w' ∧ w.grownBy w' (some M) := by
  obtain ⟨D, hD, h1, h2⟩ := h
  obtain ⟨w', hrun, h3, h4⟩ := h1.update strLaw Try.underlying54 hm (Go.WideMaps.keyOf_string_mk Try.underlying9 hn) (plainElem_int Try.underlying3 hx)
  refine ⟨w', hrun, ⟨_, hD.put _ _, h3, fun k hk => ?_⟩, h4⟩
  by_cases e : k = n
  · subst e
    simp only [if_true]
    rw [atKey_put_same hD (by trivial)]
  · simp only [if_neg e]
    rw [atKey_put_other ?_, h2 k hk]
    intro e'
    apply e
    have : k.data.toList = n.data.toList := by injection e'
    cases k; cases n; simp_all
theorem MapFn.kept {M m : Nat} {f : ByteArray → Int} {w w' : World} {row : Option Nat} (h : MapFn M m f w) (hg : w.grownBy w' row) (hne : some M ≠ row) : MapFn M m f w' := by
  obtain ⟨D, hD, h1, h2⟩ := h
  exact ⟨D, hD, h1.kept hg hne, h2⟩
theorem MapFn.congr {M m : Nat} {f g : ByteArray → Int} {w : World} (h : MapFn M m f w) (e : ∀ n, f n = g n) : MapFn M m g w := by
  have : f = g := funext e
  subst this; exact h

theorem Try.infoStr : (Try.prog.info? 9).map (fun i => (i.zero, i.size, i.bytes)) = some (some (.string ⟨#[]⟩), 1, 16) := by kernel_rfl
theorem row_kept {w w' : World} {base : Nat} {e : TypeId} {size : Nat} {v : Value} {n : Nat} {xs : List Value} (h : w.ownsRow base e size v n xs) (hk : ∀ (k : Nat) (cs : Array Value) (fz : Nat × Nat), w.heap[k]? = some (.cells cs e fz) → w'.heap[k]? = some (.cells cs e fz)) : w'.ownsRow base e size v n xs := by
  refine ⟨h.1, ?_⟩
  rcases h.2 with h | ⟨g, cap, cur, rfl, hb, hg, r⟩
  · exact .inl h
  · exact .inr ⟨g, cap, cur, rfl, hb, hk g _ _ hg, r⟩
theorem MapFn.drewN {M m : Nat} {f : ByteArray → Int} {w : World} (h : MapFn M m f w) (n : Nat) : MapFn M m f (w.drewN n) := h.kept (row := none) ⟨rfl, rfl, rfl, Nat.le_refl _, fun _ _ _ => rfl⟩ (by simp)
theorem row_slice {W : World} {base : Nat} {e : TypeId} {size : Nat} {v : Value} {n : Nat} {xs : List Value} (h : W.ownsRow base e size v n xs) : ∃ a c, v = .slice a n c := by
  rcases h.2 with ⟨rfl, rfl⟩ | ⟨g, cap, _, rfl, _⟩
  · exact ⟨_, _, rfl⟩
  · exact ⟨_, _, rfl⟩
theorem row_other {w w1 : World} {base : Nat} {e T : TypeId} {size : Nat} {v : Value} {n k : Nat} {xs : List Value} {cs : Array Value} {fz : Nat × Nat} (h : w.ownsRow base e size v n xs) (hg : w.grownBy w1 v.ownBlock) (hk : w.heap[k]? = some (.cells cs T fz)) (hT : T ≠ e) : w1.heap[k]? = some (.cells cs T fz) := by
  refine (hg.block k (Array.getElem?_eq_some_iff.1 hk).1 fun e => ?_).trans hk
  rcases h.2 with ⟨rfl, _⟩ | ⟨g, cap, cur, rfl, _, hgb, _⟩
  · cases e
  · obtain rfl : k = g := by simpa [Value.ownBlock] using e
    rw [hk] at hgb
    cases hgb
    exact hT rfl
theorem new_one (w : World) (x : Value) (t : TypeId) : ∀ j u, [x][j]? = some u → (w.alloc (.cells #[x] t)).cell? ((⟨w.heap.size, 0, none⟩ : Addr).add j) = some u := by
  intro j u hu
  have hadd : (⟨w.heap.size, 0, none⟩ : Addr).add j = ⟨w.heap.size, j, none⟩ := by unfold Addr.add; split <;> simp_all
  rw [hadd]
  have := alloc_new w (.cells #[x] t)
  simp only [World.cell?, this]
  match j, hu with
  | 0, hu => simpa using hu
  | n + 1, hu => simp at hu
/-- Names that are no longer than any here. -/
inductive Nm : T → Prop
  | mk (t : T) : t.name.size ≤ 1000 → (∀ k ∈ t.kids, Nm k) → Nm t

/-- A part of a row, in every memory that keeps the rows. -/
theorem TysAt.part {w : World} {l : List T} {a : Option Addr} {c : Nat} (h : TysAt w (.slice a l.length c) l) (i : Nat) (hi : i < l.length) : ∃ g pa ca, a = some ⟨g, 0, none⟩ ∧ l.length ≤ c ∧ ∀ W, KeepT w W → (g < W.heap.size ∧ W.cell? ⟨g, i * 3, none⟩ = some (.int .i64 l[i].kind) ∧ W.cell? ⟨g, i * 3 + 1, none⟩ = some (.string l[i].name) ∧ W.cell? ⟨g, i * 3 + 2, none⟩ = some (.slice pa l[i].kids.length ca)) ∧ TysAt W (.slice pa l[i].kids.length ca) l[i].kids := by
  rcases h with ⟨h, _⟩ | ⟨g, cap, cs, fz, x, y, z, e, h1, h2, h3, h4⟩
  · rw [h] at hi; cases hi
  · cases e
    obtain ⟨c1, c2, c3⟩ := h3 i hi
    obtain ⟨e1, e2, ⟨pa, ca, e3⟩, e4⟩ := (h4 i hi).shape
    rw [e1] at c1; rw [e2] at c2; rw [e3] at c3 e4
    refine ⟨g, pa, ca, rfl, h2, fun W hk => ?_⟩
    have hW := hk _ _ _ h1
    refine ⟨⟨(Array.getElem?_eq_some_iff.1 hW).1, ?_, ?_, ?_⟩, e4.keep hk⟩
    · simp only [World.cell?, hW]; simpa using c1
    · simp only [World.cell?, hW]; simpa using c2
    · simp only [World.cell?, hW]; simpa using c3
theorem len_sizes' : ∀ l : List T, l.length ≤ tsizes l
  | [] => Nat.le_refl _
  | a :: l => by have := len_sizes' l; have := tsize_eq a; simp [tsizes]; omega
theorem size_mem' {k : T} : ∀ {l : List T}, k ∈ l → tsize k ≤ tsizes l
  | a :: l, h => by
    rw [tsizes]
    rcases List.mem_cons.1 h with rfl | h
    · omega
    · have := size_mem' h; omega
theorem fvs_drop (bd out : List ByteArray) (l : List T) (i : Nat) (h : i < l.length) : fvs bd out (l.take (i + 1)) = fv bd (fvs bd out (l.take i)) l[i] := by
  induction l generalizing out i with
  | nil => simp at h
  | cons a l ih =>
    cases i with
    | zero => simp [fvs]
    | succ i =>
      simp only [List.take_succ_cons, fvs, List.getElem_cons_succ]
      exact ih _ i (by simpa using h)
theorem tsizes_take (l : List T) (i : Nat) (h : i < l.length) : tsizes (l.take (i + 1)) = tsizes (l.take i) + tsize l[i] ∧ tsizes (l.take (i + 1)) ≤ tsizes l := by
  induction l generalizing i with
  | nil => simp at h
  | cons a l ih =>
    cases i with
    | zero => simp [tsizes]
    | succ i =>
      obtain ⟨h1, h2⟩ := ih i (by simpa using h)
      simp only [List.take_succ_cons, tsizes, List.getElem_cons_succ, h1]
      omega
mutual
theorem fv_len (t : T) (bd out : List ByteArray) : (fv bd out t).length ≤ out.length + tsize t := by
  cases t with
  | var n => rw [fv, tsize]; split <;> simp
  | con n l => rw [fv, tsize]; have := fvs_len l bd out; omega
  | fn a b => rw [fv, tsize]; have := fv_len a bd out; have := fv_len b bd (fv bd out a); omega
  | all n a => rw [fv, tsize]; have := fv_len a (n :: bd) out; omega
theorem fvs_len (l : List T) (bd out : List ByteArray) : (fvs bd out l).length ≤ out.length + tsizes l := by
  cases l with
  | nil => rw [fvs]; omega
  | cons a l => rw [fvs, tsizes]; have := fv_len a bd out; have := fvs_len l bd (fv bd out a); omega
end

end Go.Proofs.Ythpphjkoiipkkaa
/- types.Vars: the free variables of a row of types. -/
namespace Go.Proofs.Ythpphjkoiipkkaa
open Go.RowKit Go.Maps
attribute [local go_sem] Oper.semAt_some

theorem Nm.name {t : T} (h : Nm t) : t.name.size ≤ 1000 := by cases h; assumption
theorem Nm.kid {t k : T} (h : Nm t) (hk : k ∈ t.kids) : Nm k := by cases h with | mk _ _ h => exact h k hk

/-- v is a slice of the texts l. -/
def TextsAt (w : World) (v : Value) (l : List ByteArray) : Prop :=
  ∃ a cap, v = .slice a l.length cap ∧ (l = [] ∨ ∃ g, a = some ⟨g, 0, none⟩ ∧ l.length ≤ cap ∧ ∃ cs fz, w.heap[g]? = some (.cells cs 9 fz) ∧ ∀ i (h : i < l.length), cs[i]? = some (.string l[i]))
theorem TextsAt.keep {w w' : World} {v : Value} {l : List ByteArray} (h : TextsAt w v l) (hk : ∀ (k : Nat) (cs : Array Value) (fz : Nat × Nat), w.heap[k]? = some (.cells cs 9 fz) → w'.heap[k]? = some (.cells cs 9 fz)) : TextsAt w' v l := by
  obtain ⟨a, cap, rfl, h⟩ := h
  refine ⟨a, cap, rfl, ?_⟩
  rcases h with h | ⟨g, e, hc, cs, fz, hg, hi⟩
  · exact .inl h
  · exact .inr ⟨g, e, hc, cs, fz, hk _ _ _ hg, hi⟩
theorem TextsAt.of_row {W : World} {base : Nat} {v : Value} {l : List ByteArray} (h : W.ownsRow base 9 1 v l.length (l.map Value.string)) : TextsAt W v l := by
  rcases h.2 with ⟨rfl, h0⟩ | ⟨g, cap, cur, rfl, _, hg, hc, hm, hcs, htk⟩
  · have : l = [] := List.length_eq_zero_iff.1 h0
    subst this
    exact ⟨none, 0, rfl, .inl rfl⟩
  · refine ⟨_, cap, rfl, .inr ⟨g, rfl, hc, cur, _, hg, fun i hi => ?_⟩⟩
    have e : (cur.toList.take (l.length * 1))[i]? = (l.map Value.string)[i]? := by rw [htk]
    rw [List.getElem?_take, if_pos (by omega), Array.getElem?_toList] at e
    simpa [hi] using e
end Go.Proofs.Ythpphjkoiipkkaa
/- types.Size, types.Has; the document's Size. -/
namespace Go.Proofs.Ythpphjkoiipkkaa
open Go.RowKit
attribute [local go_sem] Oper.semAt_some

theorem T.by_kids {P : T → Prop} (H : ∀ t : T, (∀ k ∈ t.kids, P k) → P t) (t : T) : P t := H t fun k _ => T.by_kids H k
termination_by SizeOf.sizeOf t
decreasing_by exact T.kid_size ‹_›
theorem kind_var {t : T} (h : t.kind = 1) : t.kids = [] := by cases t <;> simp_all [T.kind, T.kids]
theorem take_sizes (l : List T) (i : Nat) (h : i < l.length) : tsizes (l.take (i + 1)) = tsizes (l.take i) + tsize l[i] := (tsizes_take l i h).1
def SizeOK (f : Nat) (t : T) : Prop := ∀ (a : Option Addr) (c : Nat) (w : World), TysAt w (.slice a t.kids.length c) t.kids → tsize t ≤ 1000000000 →
    Calls Try.prog f #[tyV t (.slice a t.kids.length c)] w fun e w' => e = .returned (.int .i64 (tsize t : Nat)) ∧ Below w.heap.size w w'

end Go.Proofs.Ythpphjkoiipkkaa
/- Pairs of a name and a type as plain data: sorted by names in the way of an insertion sort, compacted, filtered; what a name has stays. -/
namespace Go.Proofs.Ythpphjkoiipkkaa
open Go.Sort

/-- A pair as it lies in memory: the name, the type, where the type's parts lie. -/
structure PR where
  n : ByteArray
  t : T
  a : Option Addr
  c : Nat
def noP : PR := ⟨⟨#[]⟩, .var ⟨#[]⟩, none, 0⟩
instance : Inhabited PR := ⟨noP⟩
/-- The order by names. -/
def cmpP (x y : PR) : Int := cmpL x.n.data.toList y.n.data.toList
def ltP (x y : PR) : Bool := decide (cmpP x y < 0)

theorem name_of_cmp {x y : PR} (h : cmpP x y = 0) : x.n = y.n := by
  have := cmpL_zero.1 h
  cases x with | mk n _ _ _ => cases y with | mk m _ _ _ => cases n; cases m; simp at this ⊢; exact this
theorem cmp_of_name {x y : PR} (h : x.n = y.n) : cmpP x y = 0 := by
  unfold cmpP; rw [h]; exact cmpL_zero.2 rfl
theorem ltP_iff {x y : PR} : ltP x y = true ↔ cmpP x y < 0 := by simp [ltP]
theorem swoP : SWO ltP where
  irrefl x := by
    have := cmp_of_name (x := x) (y := x) rfl
    simp [ltP, this]
  trans x y z h1 h2 := by
    rw [ltP_iff] at *
    have := cmpL_tri x.n.data.toList y.n.data.toList z.n.data.toList
    unfold Tri at this
    unfold cmpP at *
    have u := cmpL_unit x.n.data.toList y.n.data.toList
    have v := cmpL_unit y.n.data.toList z.n.data.toList
    have k := cmpL_unit x.n.data.toList z.n.data.toList
    unfold Unit1 at u v k
    generalize cmpL x.n.data.toList y.n.data.toList = p at *
    generalize cmpL y.n.data.toList z.n.data.toList = q at *
    generalize cmpL x.n.data.toList z.n.data.toList = r at *
    omega
  ntrans x y z h1 h2 := by
    have e1 : ¬ cmpP x y < 0 := fun h => by rw [ltP_iff.2 h] at h1; cases h1
    have e2 : ¬ cmpP y z < 0 := fun h => by rw [ltP_iff.2 h] at h2; cases h2
    have e3 : ¬ cmpP x z < 0 := by
      have := cmpL_tri x.n.data.toList y.n.data.toList z.n.data.toList
      unfold Tri at this
      unfold cmpP at *
      have u := cmpL_unit x.n.data.toList y.n.data.toList
      have v := cmpL_unit y.n.data.toList z.n.data.toList
      have k := cmpL_unit x.n.data.toList z.n.data.toList
      unfold Unit1 at u v k
      generalize cmpL x.n.data.toList y.n.data.toList = p at *
      generalize cmpL y.n.data.toList z.n.data.toList = q at *
      generalize cmpL x.n.data.toList z.n.data.toList = r at *
      omega
    cases h : ltP x z with
    | false => rfl
    | true => exact absurd (ltP_iff.1 h) e3

open Classical in
/-- The first of a name. -/
noncomputable def lk (n : ByteArray) (l : List PR) : Option PR := l.find? (fun x => decide (x.n = n))
theorem lk_nil (n : ByteArray) : lk n [] = none := rfl
theorem lk_cons (n : ByteArray) (x : PR) (l : List PR) : lk n (x :: l) = if x.n = n then some x else lk n l := by
  unfold lk
  rw [List.find?_cons]
  by_cases h : x.n = n <;> simp [h]
theorem lk_append (n : ByteArray) (l m : List PR) : lk n (l ++ m) = (lk n l).or (lk n m) := by
  unfold lk; rw [List.find?_append]
theorem lk_swap (n : ByteArray) (l m : List PR) (x y : PR) (h : x.n ≠ y.n) : lk n (l ++ x :: y :: m) = lk n (l ++ y :: x :: m) := by
  rw [lk_append, lk_append, lk_cons, lk_cons, lk_cons, lk_cons]
  by_cases h1 : x.n = n
  · have : y.n ≠ n := fun e => h (h1.trans e.symm)
    simp [h1, this]
  · simp [h1]

theorem bang (d : Array PR) (i : Nat) (h : i < d.size) : d[i]! = d.toList[i]'(by simpa using h) := by rw [getElem!_pos d i h]; simp
theorem split_two (l : List PR) (j : Nat) (h : j + 1 < l.length) : l = l.take j ++ l[j] :: l[j + 1] :: l.drop (j + 2) := by
  conv => lhs; rw [← List.take_append_drop j l]
  rw [List.drop_eq_getElem_cons (by omega), List.drop_eq_getElem_cons (by omega)]
theorem swp_list (d : Array PR) (j : Nat) (h : j + 1 < d.size) : (swp d (j + 1) j).toList = d.toList.take j ++ d.toList[j + 1] :: d.toList[j]'(by simp; omega) :: d.toList.drop (j + 2) := by
  apply List.ext_getElem
  · simp [swp_size]; omega
  · intro i h1 h2
    have hi : i < d.size := by simpa [swp_size] using h1
    have e : (swp d (j + 1) j).toList[i] = (swp d (j + 1) j)[i]! := (bang _ i (by rw [swp_size]; exact hi)).symm
    rw [e, swp_get d h (by omega)]
    by_cases a : i = j
    · subst a
      rw [if_pos rfl, List.getElem_append_right (by simp; omega), bang d _ h]
      simp [Nat.min_eq_left (by omega : i ≤ d.size)]
    · by_cases b : i = j + 1
      · subst b
        rw [if_neg (by omega), if_pos rfl, List.getElem_append_right (by simp; omega), bang d _ (by omega)]
        simp [Nat.min_eq_left (by omega : j ≤ d.size)]
      · rw [if_neg a, if_neg b, bang d _ hi]
        by_cases c : i < j
        · rw [List.getElem_append_left (by simp; omega)]
          simp
        · rw [List.getElem_append_right (by simp; omega)]
          obtain ⟨k, rfl⟩ : ∃ k, i = j + 2 + k := ⟨i - (j + 2), by omega⟩
          simp [Nat.min_eq_left (by omega : j ≤ d.size), show j + 2 + k - j = k + 1 + 1 by omega]
theorem lk_swp (n : ByteArray) (d : Array PR) (j : Nat) (h : j + 1 < d.size) (hlt : ltP d[j + 1]! d[j]! = true) : lk n (swp d (j + 1) j).toList = lk n d.toList := by
  rw [swp_list d j h]
  conv => rhs; rw [split_two d.toList j (by simpa using h)]
  refine lk_swap n _ _ _ _ ?_
  intro e
  rw [bang d _ h, bang d _ (by omega)] at hlt
  have := ltP_iff.1 hlt
  have e2 := cmp_of_name e
  omega
theorem lk_inner (n : ByteArray) (a : Nat) : ∀ (j : Nat) (d : Array PR), j < d.size → lk n (insInner ltP a j d).toList = lk n d.toList
  | 0, d, _ => rfl
  | j + 1, d, h => by
    rw [insInner]
    by_cases hc : (decide (j + 1 > a) && ltP d[j + 1]! d[j]!) = true
    · rw [if_pos hc, lk_inner n a j _ (by rw [swp_size]; omega)]
      exact lk_swp n d j h (by simp at hc; exact hc.2)
    · rw [if_neg hc]
theorem size_inner (a : Nat) : ∀ (j : Nat) (d : Array PR), (insInner ltP a j d).size = d.size
  | 0, d => rfl
  | j + 1, d => by
    rw [insInner]
    split
    · rw [size_inner a j, swp_size]
    · rfl
theorem lk_outer (n : ByteArray) (a b i : Nat) (d : Array PR) (h : b ≤ d.size) : lk n (insOuter ltP a b i d).toList = lk n d.toList := by
  rw [insOuter]
  split
  · rename_i hi
    rw [lk_outer n a b (i + 1) _ (by rw [size_inner]; exact h), lk_inner n a i d (by omega)]
  · rfl
termination_by b - i
/-- What the insertion sort makes: the same pairs, in order; the first of each name as it was. -/
theorem sort_facts (d : Array PR) : (∀ x, x ∈ (insertionSort ltP d 0 d.size).toList ↔ x ∈ d.toList) ∧ (insertionSort ltP d 0 d.size).toList.length = d.toList.length ∧
    (∀ n, lk n (insertionSort ltP d 0 d.size).toList = lk n d.toList) ∧ (insertionSort ltP d 0 d.size).toList.Pairwise (fun x y => ltP y x = false) := by
  obtain ⟨⟨h1, _, h3⟩, h4⟩ := insertionSort_holds (lt := ltP) swoP d 0 d.size (Nat.zero_le _) (Nat.le_refl _)
  refine ⟨fun x => ?_, ?_, fun n => lk_outer n 0 d.size 1 d (Nat.le_refl _), ?_⟩
  · have := h3.mem_iff (a := x)
    rw [Array.extract_eq_self_of_le (by omega), Array.extract_eq_self_of_le (Nat.le_refl _)] at this
    exact this
  · simpa using h1
  · rw [List.pairwise_iff_getElem]
    intro i j hi hj hij
    have hi' : i < (insertionSort ltP d 0 d.size).size := by simpa using hi
    have hj' : j < (insertionSort ltP d 0 d.size).size := by simpa using hj
    have := h4 i j (Nat.zero_le _) hij (by omega)
    rw [bang _ _ hj', bang _ _ hi'] at this
    exact this

/-- One that counts: the first, or one of another name than the one ahead of it. -/
noncomputable def kpC (d : Array PR) : Nat → Bool := fun j => @decide (j = 0 ∨ d[j - 1]!.n ≠ d[j]!.n) (Classical.propDecidable _)
theorem kpC_true {d : Array PR} {j : Nat} (h : j = 0 ∨ d[j - 1]!.n ≠ d[j]!.n) : kpC d j = true := by unfold kpC; exact @decide_eq_true _ (Classical.propDecidable _) h
theorem kpC_false {d : Array PR} {j : Nat} (h : ¬ (j = 0 ∨ d[j - 1]!.n ≠ d[j]!.n)) : kpC d j = false := by unfold kpC; exact @decide_eq_false _ (Classical.propDecidable _) h
/-- In order by names, none twice. -/
def Sorted (l : List PR) : Prop := l.Pairwise fun x y => cmpP x y < 0
theorem lt_of_not {x y : PR} (h : ltP y x = false) (hn : x.n ≠ y.n) : cmpP x y < 0 := by
  have h1 : ¬ cmpP y x < 0 := fun h' => by rw [ltP_iff.2 h'] at h; cases h
  have h2 : cmpP x y ≠ 0 := fun e => hn (name_of_cmp e)
  have h3 : cmpP y x = - cmpP x y := cmpL_neg _ _
  omega
theorem cmpP_trans {x y z : PR} (h : cmpP x y < 0) (k : cmpP y z < 0) : cmpP x z < 0 := ltP_iff.1 (swoP.trans x y z (ltP_iff.2 h) (ltP_iff.2 k))
/-- What the compaction keeps of a row in order: in order, none twice, the first of each name. -/
theorem comp_facts (d : Array PR) (hs : d.toList.Pairwise (fun x y => ltP y x = false)) : ∀ j, j ≤ d.size →
    Sorted (Go.Lib.keptUpTo (kpC d) d j) ∧ (∀ x ∈ Go.Lib.keptUpTo (kpC d) d j, x ∈ d.toList.take j) ∧ (∀ n, lk n (Go.Lib.keptUpTo (kpC d) d j) = lk n (d.toList.take j)) ∧
    (∀ x ∈ d.toList.take j, ∃ y ∈ Go.Lib.keptUpTo (kpC d) d j, y.n = x.n) := by
  have hp : ∀ a b, a < b → b < d.size → ltP d[b]! d[a]! = false := fun a b hab hb => by
    have := List.pairwise_iff_getElem.1 hs a b (by simpa using Nat.lt_trans hab hb) (by simpa using hb) hab
    rw [bang d _ hb, bang d _ (Nat.lt_trans hab hb)]
    exact this
  intro j
  induction j with
  | zero => intro _; refine ⟨List.Pairwise.nil, ?_, ?_, ?_⟩ <;> simp [Go.Lib.keptUpTo]
  | succ j ih =>
    intro hj
    obtain ⟨i1, i2, i3, i4⟩ := ih (by omega)
    have et : d.toList.take (j + 1) = d.toList.take j ++ [d[j]!] := by
      rw [List.take_succ_eq_append_getElem (by simp; omega), bang d j (by omega)]
    have mem : ∀ x, x ∈ d.toList.take j → ∃ k, k < j ∧ d[k]! = x := fun x hx => by
      obtain ⟨k, hk, e⟩ := List.mem_iff_getElem.1 hx
      have hk' : k < min j d.size := by simpa using hk
      exact ⟨k, by omega, by rw [bang d k (by omega)]; simpa using e⟩
    have hle : ∀ x ∈ d.toList.take j, ltP d[j]! x = false := fun x hx => by
      obtain ⟨k, hk, rfl⟩ := mem x hx
      exact hp k j hk (by omega)
    by_cases hc : j = 0 ∨ d[j - 1]!.n ≠ d[j]!.n
    · rw [Go.Lib.keptUpTo_succ, kpC_true hc, if_pos rfl, et]
      have hne : ∀ x ∈ d.toList.take j, x.n ≠ d[j]!.n := fun x hx e => by
        obtain ⟨k, hk, rfl⟩ := mem x hx
        rcases hc with h0 | hn
        · omega
        · rcases Nat.lt_or_ge k (j - 1) with hk1 | hk1
          · have a := hp k (j - 1) hk1 (by omega)
            have b := hp (j - 1) j (by omega) (by omega)
            have b' := lt_of_not b hn
            have a1 : ¬ cmpP d[j - 1]! d[k]! < 0 := fun h => by rw [ltP_iff.2 h] at a; cases a
            have e1 : cmpP d[j - 1]! d[k]! = cmpP d[j - 1]! d[j]! := by unfold cmpP; rw [e]
            omega
          · obtain rfl : k = j - 1 := by omega
            exact hn e
      refine ⟨?_, ?_, ?_, ?_⟩
      · rw [Sorted, List.pairwise_append]
        refine ⟨i1, List.pairwise_singleton _ _, fun x hx y hy => ?_⟩
        obtain rfl : y = d[j]! := by simpa using hy
        exact lt_of_not (hle x (i2 x hx)) (hne x (i2 x hx))
      · intro x hx
        rcases List.mem_append.1 hx with h | h
        · exact List.mem_append_left _ (i2 x h)
        · exact List.mem_append_right _ h
      · intro n; rw [lk_append, lk_append, i3 n]
      · intro x hx
        rcases List.mem_append.1 hx with h | h
        · obtain ⟨y, hy, e⟩ := i4 x h; exact ⟨y, List.mem_append_left _ hy, e⟩
        · exact ⟨x, List.mem_append_right _ h, rfl⟩
    · rw [Go.Lib.keptUpTo_succ, kpC_false hc, et]
      have h0 : j ≠ 0 := fun e => hc (.inl e)
      have hn : d[j - 1]!.n = d[j]!.n := Classical.byContradiction fun e => hc (.inr e)
      have hin : d[j - 1]! ∈ d.toList.take j := by
        rw [List.mem_iff_getElem]
        refine ⟨j - 1, by simp; omega, ?_⟩
        rw [bang d _ (by omega)]; simp
      simp only [Bool.false_eq_true, if_false, List.append_nil]
      refine ⟨i1, fun x hx => List.mem_append_left _ (i2 x hx), fun n => ?_, fun x hx => ?_⟩
      · rw [i3 n, lk_append, lk_cons, lk_nil]
        by_cases e : d[j]!.n = n
        · have : (lk n (d.toList.take j)).isSome = true := by
            unfold lk
            rw [List.find?_isSome]
            exact ⟨_, hin, by simpa using hn.trans e⟩
          obtain ⟨y, hy⟩ := Option.isSome_iff_exists.1 this
          rw [hy]; rfl
        · rw [if_neg e]; simp
      · rcases List.mem_append.1 hx with h | h
        · exact i4 x h
        · obtain rfl : x = d[j]! := by simpa using h
          obtain ⟨y, hy, e⟩ := i4 _ hin
          exact ⟨y, hy, e.trans hn⟩

/-- One that is its own type. -/
noncomputable def ownP (x : PR) : Bool := @decide (x.t = .var x.n) (Classical.propDecidable _)
theorem ownP_iff {x : PR} : ownP x = true ↔ x.t = .var x.n := by unfold ownP; exact @decide_eq_true_iff _ (Classical.propDecidable _)
theorem lk_name {n : ByteArray} {l : List PR} {x : PR} (h : lk n l = some x) : x ∈ l ∧ x.n = n := by
  unfold lk at h
  exact ⟨List.mem_of_find?_eq_some h, by simpa using List.find?_some h⟩
theorem lk_sorted {l : List PR} (h : Sorted l) {x : PR} (hx : x ∈ l) : lk x.n l = some x := by
  induction l with
  | nil => cases hx
  | cons y l ih =>
    rw [lk_cons]
    have hs := List.pairwise_cons.1 h
    rcases List.mem_cons.1 hx with rfl | hx
    · rw [if_pos rfl]
    · rw [if_neg, ih hs.2 hx]
      intro e
      have := hs.1 x hx
      rw [cmp_of_name e] at this
      exact absurd this (by decide)
/-- The type that a name has. -/
noncomputable def ty (n : ByteArray) (l : List PR) : T := ((lk n l).map PR.t).getD (.var n)
/-- A row of pairs by names, none its own type. -/
def Neat (l : List PR) : Prop := Sorted l ∧ ∀ x ∈ l, ownP x = false
theorem neat_filter {l : List PR} (h : Sorted l) : Neat (l.filter fun x => !ownP x) ∧ ∀ n, ty n (l.filter fun x => !ownP x) = ty n l := by
  have h1 : Neat (l.filter fun x => !ownP x) := ⟨h.filter _, fun x hx => by have := (List.mem_filter.1 hx).2; simpa using this⟩
  refine ⟨h1, fun n => ?_⟩
  unfold ty
  cases e : lk n l with
  | none =>
    cases e2 : lk n (l.filter fun x => !ownP x) with
    | none => rfl
    | some x =>
      obtain ⟨hm, rfl⟩ := lk_name e2
      rw [lk_sorted h (List.mem_filter.1 hm).1] at e; cases e
  | some x =>
    obtain ⟨hm, rfl⟩ := lk_name e
    by_cases ho : ownP x = true
    · cases e2 : lk x.n (l.filter fun x => !ownP x) with
      | none => simpa using (ownP_iff.1 ho).symm
      | some y =>
        obtain ⟨hy, ey⟩ := lk_name e2
        have hy' := (List.mem_filter.1 hy).1
        have := lk_sorted h hy'
        rw [ey, e] at this
        cases this
        have h9 := (List.mem_filter.1 hy).2
        simp [ho] at h9
    · rw [lk_sorted h1.1 (List.mem_filter.2 ⟨hm, by simpa using ho⟩)]
/-- What gather makes of a row. -/
structure Gath (d l : List PR) : Prop where
  neat : Neat l
  sub : ∀ x ∈ l, x ∈ d
  len : l.length ≤ d.length
  same : ∀ n, ty n l = ty n d
end Go.Proofs.Ythpphjkoiipkkaa
