/- What the last statement of TypesSay keeps, call by call. -/
import Derived.Test.YteoelcefjjmjiaaTyRef
import Derived.Test.YteoelcefjjmjiaaTyRVars2
import Derived.Test.YteoelcefjjmjiaaTySeen
import Derived.Test.YteoelcefjjmjiaaTyLoop
import Derived.Deep.RegionHeld3
import Derived.Deep.DrawnRows
import Derived.BigRegion
namespace Go.Proofs.Yteoelcefjjmjiaa
open Go.RowKit

/-- What the last statement keeps. -/
def SI (w : World) (bt bu P D : Nat) (t u : T) (pa pb : Option Addr) (ca cb : Nat) (s : Value) (X : World) : Prop :=
  (BoxT bt t pa ca X ∧ BoxT bu u pb cb X ∧ BoxT (bu + 1 + 1) (.all ⟨#[97]⟩ t) (some ⟨bu + 1, 0, none⟩) 1 X) ∧ (X.heap[P]? = some (.cells #[s] 27 (0, 0)) ∧ TysAt X s (parts t)) ∧ Below w.heap.size w X ∧ X.heap[D]? = some (.deferred (some []))
theorem SI.below {w : World} {bt bu P D : Nat} {t u : T} {pa pb : Option Addr} {ca cb : Nat} {s : Value} {X Y : World} (h : SI w bt bu P D t u pa pb ca cb s X) (hb : Below X.heap.size X Y) : SI w bt bu P D t u pa pb ca cb s Y :=
  ⟨⟨h.1.1.below hb, h.1.2.1.below hb, h.1.2.2.below hb⟩, ⟨(hb.block P (Array.getElem?_eq_some_iff.1 h.2.1.1).1).trans h.2.1.1, h.2.1.2.keep (KeepT.of_below hb)⟩, h.2.2.1.trans (hb.mono h.2.2.1.size), (hb.block D (Array.getElem?_eq_some_iff.1 h.2.2.2).1).trans h.2.2.2⟩
/-- Two rows of texts, two rows of types besides. -/
def SE (v1 : Value) (l1 : List ByteArray) (v2 : Value) (l2 : List ByteArray) (r1 : Value) (m1 : List T) (r2 : Value) (m2 : List T) (X : World) : Prop := (TextsAt X v1 l1 ∧ TextsAt X v2 l2) ∧ TysAt X r1 m1 ∧ TysAt X r2 m2
theorem SE.below {v1 v2 r1 r2 : Value} {l1 l2 : List ByteArray} {m1 m2 : List T} {X Y : World} (h : SE v1 l1 v2 l2 r1 m1 r2 m2 X) (hb : Below X.heap.size X Y) : SE v1 l1 v2 l2 r1 m1 r2 m2 Y :=
  ⟨⟨h.1.1.below hb, h.1.2.below hb⟩, h.2.1.keep (KeepT.of_below hb), h.2.2.keep (KeepT.of_below hb)⟩
def nilV : Value := .slice none 0 0
theorem texts_nil (X : World) : TextsAt X nilV [] := ⟨none, 0, rfl, .inl rfl⟩
theorem tys_nil (X : World) : TysAt X nilV [] := TysAt.nil X none 0
theorem se_nil (X : World) : SE nilV [] nilV [] nilV [] nilV [] X := ⟨⟨texts_nil X, texts_nil X⟩, tys_nil X, tys_nil X⟩
def kindV (t : T) : Value := .int .i64 t.kind
theorem below_a (X : World) (o : Obj) : Below X.heap.size X (X.alloc o) := (Below.refl _ X).alloc (Nat.le_refl _) o
theorem below_aa (X : World) (o o' : Obj) : Below X.heap.size X ((X.alloc o).alloc o') := (below_a X o).alloc (by simp) o'
theorem below_d (X : World) : Below X.heap.size X X.drew := (Below.refl _ X).drew
theorem below_ad (X : World) (o : Obj) : Below X.heap.size X (X.alloc o).drew := (below_a X o).drew
theorem below_aad (X : World) (o o' : Obj) : Below X.heap.size X ((X.alloc o).alloc o').drew := (below_aa X o o').drew
theorem keepT_drew (X : World) : KeepT X X.drew := fun _ _ _ h => h
/-- A row of one, of two, just laid; with another one laid behind it. -/
theorem row1 {X : World} {b : Nat} {t : T} {a : Option Addr} {c : Nat} (h : BoxT b t a c X) : TysAt (X.alloc (.cells #[.int .i64 t.kind, .string t.name, .slice a t.kids.length c] 29)) (.slice (some ⟨X.heap.size, 0, none⟩) 1 1) [t] := TysAt.one rfl (TyAt.mk t h.2)
theorem row2 {X : World} {b b' : Nat} {t u : T} {a a' : Option Addr} {c c' : Nat} (h : BoxT b t a c X) (h' : BoxT b' u a' c' X) : TysAt (X.alloc (.cells #[.int .i64 t.kind, .string t.name, .slice a t.kids.length c, .int .i64 u.kind, .string u.name, .slice a' u.kids.length c'] 29)) (.slice (some ⟨X.heap.size, 0, none⟩) 2 2) [t, u] := TysAt.two rfl (TyAt.mk t h.2) (TyAt.mk u h'.2)

theorem row1b {X : World} (o : Obj) {b : Nat} {t : T} {a : Option Addr} {c : Nat} (h : BoxT b t a c X) : TysAt ((X.alloc o).alloc (.cells #[.int .i64 t.kind, .string t.name, .slice a t.kids.length c] 29)) (.slice (some ⟨X.heap.size + 1, 0, none⟩) 1 1) [t] := by
  have := row1 (h.alloc o); simpa using this
theorem row2b {X : World} (o : Obj) {b b' : Nat} {t u : T} {a a' : Option Addr} {c c' : Nat} (h : BoxT b t a c X) (h' : BoxT b' u a' c' X) : TysAt ((X.alloc o).alloc (.cells #[.int .i64 t.kind, .string t.name, .slice a t.kids.length c, .int .i64 u.kind, .string u.name, .slice a' u.kids.length c'] 29)) (.slice (some ⟨X.heap.size + 1, 0, none⟩) 2 2) [t, u] := by
  have := row2 (h.alloc o) (h'.alloc o); simpa using this
theorem post1 {Y : World} {v : Value} {q : List ByteArray} (hv : TextsAt Y v q) : SE v q nilV [] nilV [] nilV [] Y := ⟨⟨hv, texts_nil Y⟩, tys_nil Y, tys_nil Y⟩
theorem post2 {Y : World} {v r1 r2 : Value} {q : List ByteArray} {m1 m2 : List T} (hv : TextsAt Y v q) (h1 : TysAt Y r1 m1) (h2 : TysAt Y r2 m2) : SE v q nilV [] r1 m1 r2 m2 Y := ⟨⟨hv, texts_nil Y⟩, h1, h2⟩
theorem post3 {Y : World} {v v2 : Value} {q q2 : List ByteArray} (hv : TextsAt Y v q) (hv2 : TextsAt Y v2 q2) : SE v q v2 q2 nilV [] nilV [] Y := ⟨⟨hv, hv2⟩, tys_nil Y, tys_nil Y⟩
theorem postr {Y : World} {r1 : Value} {m1 : List T} (h1 : TysAt Y r1 m1) : SE nilV [] nilV [] r1 m1 nilV [] Y := ⟨⟨texts_nil Y, texts_nil Y⟩, h1, tys_nil Y⟩
/-- The cells that the last statement loads. -/
theorem SI.cells {w : World} {bt bu P D : Nat} {t u : T} {pa pb : Option Addr} {ca cb : Nat} {s : Value} {X : World} (h : SI w bt bu P D t u pa pb ca cb s X) :
    (X.cell? ⟨bt, 0, none⟩ = some (.int .i64 t.kind) ∧ X.cell? ⟨bt, 1, none⟩ = some (.string t.name) ∧ X.cell? ⟨bt, 2, none⟩ = some (.slice pa t.kids.length ca)) ∧ (X.cell? ⟨bu, 0, none⟩ = some (.int .i64 u.kind) ∧ X.cell? ⟨bu, 1, none⟩ = some (.string u.name) ∧ X.cell? ⟨bu, 2, none⟩ = some (.slice pb u.kids.length cb)) ∧
    (X.cell? ⟨bu + 1 + 1, 0, none⟩ = some (.int .i64 4) ∧ X.cell? ⟨bu + 1 + 1, 1, none⟩ = some (.string ⟨#[97]⟩) ∧ X.cell? ⟨bu + 1 + 1, 2, none⟩ = some (.slice (some ⟨bu + 1, 0, none⟩) 1 1)) ∧ X.cell? ⟨P, 0, none⟩ = some s :=
  ⟨h.1.1.cells, h.1.2.1.cells, h.1.2.2.cells, by rw [Lib.cell_of_heap h.2.1.1]; rfl⟩

theorem with_any {P : Program} {md : Region.Mode} {ops : Array Oper} {Q : Exit → Act → World → Prop} {S : World → Prop} {fuel : Nat} {listed : Array Bool} {a : Act} {w : World} (F : World → Prop) (h : F w) (k : ∀ V, F V → wpAnyH P md ops Q S fuel listed a V) : wpAnyH P md ops Q S fuel listed a w := k w h

theorem tyAt_in {w : World} {t : T} {k n v : Value} (h : TyAt w t k n v) : TyIn (fun k => k < w.heap.size) w t v := by
  induction h with
  | leaf t a c h => exact .leaf t a c h
  | row t g cap cs fz x y z h1 h2 h3 h4 ih =>
    refine .row t g cap cs fz z (Array.getElem?_eq_some_iff.1 h1).1 h1 h2 (fun i hi => ?_) ih
    obtain ⟨c1, c2, c3⟩ := h3 i hi
    obtain ⟨e1, e2, _⟩ := (h4 i hi).shape
    rw [e1] at c1; rw [e2] at c2
    exact ⟨c1, c2, c3⟩
theorem TysAt.tyIn {w : World} {t : T} {v : Value} (h : TysAt w v t.kids) : TyIn (fun k => k < w.heap.size) w t v := tyAt_in (TyAt.mk t h)
theorem fits_parts (t : T) (h : Fits t) : ∀ x ∈ parts t, Fits x := by
  refine T.by_kids (P := fun t => Fits t → ∀ x ∈ parts t, Fits x) (fun t H ht x hx => ?_) t h
  rw [parts_eq] at hx
  rcases List.mem_cons.1 hx with rfl | hx
  · exact ht
  · have key : ∀ l : List T, (∀ k ∈ l, k ∈ t.kids) → x ∈ partss l → Fits x := fun l => by
      induction l with
      | nil => intro _ hx; simp [partss] at hx
      | cons a l ih =>
        intro hl hx
        rw [partss] at hx
        rcases List.mem_append.1 hx with hx | hx
        · exact H a (hl a (List.mem_cons_self ..)) (ht.kid (hl a (List.mem_cons_self ..))) x hx
        · exact ih (fun k hk => hl k (List.mem_cons_of_mem _ hk)) hx
    exact key t.kids (fun k hk => hk) hx
theorem has_inB (t : T) (n : ByteArray) : hasT n t = inB (fvs [] [] [t]) n := by
  cases h : hasT n t with
  | true => exact (inB_iff.2 ((fvs_mem [t] [] [] n).2 (.inr ⟨by simp, by rw [hasTs, h]; rfl⟩))).symm
  | false =>
    cases hb : inB (fvs [] [] [t]) n with
    | false => rfl
    | true =>
      have := (fvs_mem [t] [] [] n).1 (inB_iff.1 hb)
      rcases this with e | ⟨_, e⟩
      · cases e
      · rw [hasTs, h, hasTs] at e; cases e
theorem cmp_eqB (t u : T) : eqB t u = (cmpT t u == 0) := by
  by_cases h : t = u
  · rw [eqB_true h, (cmp_zero t u).2 h]; rfl
  · rw [eqB_false h]
    have : ¬ cmpT t u = 0 := fun e => h ((cmp_zero t u).1 e)
    simpa using this
theorem nm_all {n : ByteArray} {x : T} (hn : n.size ≤ 1000) (hx : Nm x) : Nm (.all n x) := .mk _ hn (fun k hk => by simp [T.kids] at hk; subst hk; exact hx)
end Go.Proofs.Yteoelcefjjmjiaa
