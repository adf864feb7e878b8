/- Trees in memory, of rows that lie in blocks of a kind. -/
import Derived.Test.YtdooeghicdaakaaGreatDoorParList
namespace Go.Proofs.YtdooeghicdaakaaGreatDoor
open Go.RowKit
attribute [local go_sem] Oper.semAt_some

def exV (e : E) (l a b : Value) : Value := .agg #[.int .i64 e.kind, .int .i64 e.pos, .string e.name, .int .i64 e.num, l, a, b]
/-- A row of n things of m cells, in a block that is ok. -/
def RowIn (ok : Nat → Prop) (w : World) (T : TypeId) (v : Value) (n : Nat) (P : (Nat → Option Value) → Prop) : Prop :=
  ∃ p cap, v = .slice p n cap ∧ (n = 0 ∨ ∃ g, p = some ⟨g, 0, none⟩ ∧ n ≤ cap ∧ ok g ∧ ∃ cs fz, w.heap[g]? = some (.cells cs T fz) ∧ P (fun i => cs[i]?))
theorem RowIn.keep {ok : Nat → Prop} {w w' : World} {T : TypeId} {v : Value} {n : Nat} {P : (Nat → Option Value) → Prop} (h : RowIn ok w T v n P) (hk : ∀ k o, ok k → w.heap[k]? = some o → w'.heap[k]? = some o) : RowIn ok w' T v n P := by
  obtain ⟨p, cap, rfl, h⟩ := h
  refine ⟨p, cap, rfl, ?_⟩
  rcases h with h | ⟨g, e, hc, hg, cs, fz, hh, hp⟩
  · exact .inl h
  · exact .inr ⟨g, e, hc, hg, cs, fz, hk _ _ hg hh, hp⟩
theorem RowIn.mono {ok ok' : Nat → Prop} {w : World} {T : TypeId} {v : Value} {n : Nat} {P : (Nat → Option Value) → Prop} (h : RowIn ok w T v n P) (hk : ∀ k, ok k → ok' k) : RowIn ok' w T v n P := by
  obtain ⟨p, cap, rfl, h⟩ := h
  refine ⟨p, cap, rfl, ?_⟩
  rcases h with h | ⟨g, e, hc, hg, r⟩
  · exact .inl h
  · exact .inr ⟨g, e, hc, hk _ hg, r⟩
theorem RowIn.shape {ok : Nat → Prop} {w : World} {T : TypeId} {v : Value} {n : Nat} {P : (Nat → Option Value) → Prop} (h : RowIn ok w T v n P) : ∃ p cap, v = .slice p n cap := by
  obtain ⟨p, cap, e, _⟩ := h
  exact ⟨p, cap, e⟩
theorem RowIn.nil (ok : Nat → Prop) (w : World) (T : TypeId) (p : Option Addr) (cap : Nat) (P : (Nat → Option Value) → Prop) : RowIn ok w T (.slice p 0 cap) 0 P := ⟨p, cap, rfl, .inl rfl⟩
/-- A row that was just laid. -/
theorem RowIn.new {ok : Nat → Prop} {w' : World} {T : TypeId} {cs : Array Value} {fz : Nat × Nat} {g n cap : Nat} {P : (Nat → Option Value) → Prop} (hg : w'.heap[g]? = some (.cells cs T fz)) (hok : ok g) (hc : n ≤ cap) (hP : P (fun i => cs[i]?)) : RowIn ok w' T (.slice (some ⟨g, 0, none⟩) n cap) n P :=
  ⟨_, _, rfl, .inr ⟨g, rfl, hc, hok, cs, fz, hg, hP⟩⟩

def TextsIn (ok : Nat → Prop) (w : World) (v : Value) (l : List ByteArray) : Prop := RowIn ok w 9 v l.length fun f => ∀ i (h : i < l.length), f i = some (.string l[i])
def TysRow (ok : Nat → Prop) (w : World) (v : Value) (l : List Ty) (X : Nat → Value) : Prop := RowIn ok w 60 v l.length fun f => ∀ i (h : i < l.length), f (i * 3) = some (.int .i64 l[i].kind) ∧ f (i * 3 + 1) = some (.string l[i].name) ∧ f (i * 3 + 2) = some (X i)
inductive TyIn (ok : Nat → Prop) (w : World) : Ty → Value → Prop
  | mk (t : Ty) (v : Value) (X : Nat → Value) : TysRow ok w v t.args X → (∀ i (h : i < t.args.length), TyIn ok w t.args[i] (X i)) → TyIn ok w t v
def CtxIn (ok : Nat → Prop) (w : World) (v : Value) (l : List (ByteArray × Ty)) : Prop := ∃ X : Nat → Value,
  RowIn ok w 117 v l.length (fun f => ∀ i (h : i < l.length), f (i * 4) = some (.string l[i].1) ∧ f (i * 4 + 1) = some (.int .i64 l[i].2.kind) ∧ f (i * 4 + 2) = some (.string l[i].2.name) ∧ f (i * 4 + 3) = some (X i)) ∧ ∀ i (h : i < l.length), TyIn ok w l[i].2 (X i)
def SchIn (ok : Nat → Prop) (w : World) (s : Sch) (v1 v2 v3 : Value) : Prop := TextsIn ok w v1 s.vars ∧ CtxIn ok w v2 s.ctx ∧ TyIn ok w s.ty v3

def KidsRow (ok : Nat → Prop) (w : World) (v : Value) (l : List E) (L A B : Nat → Value) : Prop := RowIn ok w 28 v l.length fun f => ∀ i (h : i < l.length),
  (f (i * 7) = some (.int .i64 l[i].kind) ∧ f (i * 7 + 1) = some (.int .i64 l[i].pos) ∧ f (i * 7 + 2) = some (.string l[i].name) ∧ f (i * 7 + 3) = some (.int .i64 l[i].num)) ∧ f (i * 7 + 4) = some (L i) ∧ f (i * 7 + 5) = some (A i) ∧ f (i * 7 + 6) = some (B i)
def AltsRow (ok : Nat → Prop) (w : World) (v : Value) (l : List Al) (V L A B : Nat → Value) : Prop := RowIn ok w 43 v l.length fun f => ∀ i (h : i < l.length),
  (f (i * 10) = some (.string l[i].con) ∧ f (i * 10 + 1) = some (V i)) ∧ (f (i * 10 + 2) = some (.int .i64 l[i].body.kind) ∧ f (i * 10 + 3) = some (.int .i64 l[i].body.pos) ∧ f (i * 10 + 4) = some (.string l[i].body.name) ∧ f (i * 10 + 5) = some (.int .i64 l[i].body.num)) ∧ (f (i * 10 + 6) = some (L i) ∧ f (i * 10 + 7) = some (A i) ∧ f (i * 10 + 8) = some (B i)) ∧ f (i * 10 + 9) = some (.int .i64 l[i].pos)
def BindsRow (ok : Nat → Prop) (w : World) (v : Value) (l : List Bd) (V1 V2 V3 L A B : Nat → Value) : Prop := RowIn ok w 64 v l.length fun f => ∀ i (h : i < l.length),
  (f (i * 15) = some (.string l[i].name) ∧ f (i * 15 + 1) = some (.bool l[i].signed)) ∧ (f (i * 15 + 2) = some (V1 i) ∧ f (i * 15 + 3) = some (V2 i) ∧ f (i * 15 + 4) = some (.int .i64 l[i].sig.ty.kind) ∧ f (i * 15 + 5) = some (.string l[i].sig.ty.name) ∧ f (i * 15 + 6) = some (V3 i)) ∧
  (f (i * 15 + 7) = some (.int .i64 l[i].body.kind) ∧ f (i * 15 + 8) = some (.int .i64 l[i].body.pos) ∧ f (i * 15 + 9) = some (.string l[i].body.name) ∧ f (i * 15 + 10) = some (.int .i64 l[i].body.num)) ∧ (f (i * 15 + 11) = some (L i) ∧ f (i * 15 + 12) = some (A i) ∧ f (i * 15 + 13) = some (B i)) ∧ f (i * 15 + 14) = some (.int .i64 l[i].pos)
inductive ExIn (ok : Nat → Prop) (w : World) : E → Value → Value → Value → Prop
  | mk (e : E) (l a b : Value) (L1 L2 L3 V A1 A2 A3 S1 S2 S3 B1 B2 B3 : Nat → Value) :
      KidsRow ok w l e.kids L1 L2 L3 → AltsRow ok w a e.alts V A1 A2 A3 → BindsRow ok w b e.binds S1 S2 S3 B1 B2 B3 →
      (∀ i (h : i < e.kids.length), ExIn ok w e.kids[i] (L1 i) (L2 i) (L3 i)) →
      (∀ i (h : i < e.alts.length), TextsIn ok w (V i) e.alts[i].vars) → (∀ i (h : i < e.alts.length), ExIn ok w e.alts[i].body (A1 i) (A2 i) (A3 i)) →
      (∀ i (h : i < e.binds.length), SchIn ok w e.binds[i].sig (S1 i) (S2 i) (S3 i)) → (∀ i (h : i < e.binds.length), ExIn ok w e.binds[i].body (B1 i) (B2 i) (B3 i)) → ExIn ok w e l a b

theorem TyIn.keep {ok : Nat → Prop} {w w' : World} (hk : ∀ k o, ok k → w.heap[k]? = some o → w'.heap[k]? = some o) {t : Ty} {v : Value} (h : TyIn ok w t v) : TyIn ok w' t v := by
  induction h with
  | mk t v X h _ ih => exact .mk t v X (RowIn.keep h hk) ih
theorem TyIn.mono {ok ok' : Nat → Prop} {w : World} (hk : ∀ k, ok k → ok' k) {t : Ty} {v : Value} (h : TyIn ok w t v) : TyIn ok' w t v := by
  induction h with
  | mk t v X h _ ih => exact .mk t v X (RowIn.mono h hk) ih
theorem SchIn.keep {ok : Nat → Prop} {w w' : World} (hk : ∀ k o, ok k → w.heap[k]? = some o → w'.heap[k]? = some o) {s : Sch} {v1 v2 v3 : Value} (h : SchIn ok w s v1 v2 v3) : SchIn ok w' s v1 v2 v3 := by
  obtain ⟨h1, ⟨X, h2, h3⟩, h4⟩ := h
  exact ⟨RowIn.keep h1 hk, ⟨X, RowIn.keep h2 hk, fun i hi => (h3 i hi).keep hk⟩, h4.keep hk⟩
theorem SchIn.mono {ok ok' : Nat → Prop} {w : World} (hk : ∀ k, ok k → ok' k) {s : Sch} {v1 v2 v3 : Value} (h : SchIn ok w s v1 v2 v3) : SchIn ok' w s v1 v2 v3 := by
  obtain ⟨h1, ⟨X, h2, h3⟩, h4⟩ := h
  exact ⟨RowIn.mono h1 hk, ⟨X, RowIn.mono h2 hk, fun i hi => (h3 i hi).mono hk⟩, h4.mono hk⟩
theorem ExIn.keep {ok : Nat → Prop} {w w' : World} (hk : ∀ k o, ok k → w.heap[k]? = some o → w'.heap[k]? = some o) {e : E} {l a b : Value} (h : ExIn ok w e l a b) : ExIn ok w' e l a b := by
  induction h with
  | mk e l a b L1 L2 L3 V A1 A2 A3 S1 S2 S3 B1 B2 B3 h1 h2 h3 _ h5 _ h7 _ i4 i6 i8 =>
    exact .mk e l a b L1 L2 L3 V A1 A2 A3 S1 S2 S3 B1 B2 B3 (RowIn.keep h1 hk) (RowIn.keep h2 hk) (RowIn.keep h3 hk) i4 (fun i hi => RowIn.keep (h5 i hi) hk) i6 (fun i hi => (h7 i hi).keep hk) i8
theorem ExIn.mono {ok ok' : Nat → Prop} {w : World} (hk : ∀ k, ok k → ok' k) {e : E} {l a b : Value} (h : ExIn ok w e l a b) : ExIn ok' w e l a b := by
  induction h with
  | mk e l a b L1 L2 L3 V A1 A2 A3 S1 S2 S3 B1 B2 B3 h1 h2 h3 _ h5 _ h7 _ i4 i6 i8 =>
    exact .mk e l a b L1 L2 L3 V A1 A2 A3 S1 S2 S3 B1 B2 B3 (RowIn.mono h1 hk) (RowIn.mono h2 hk) (RowIn.mono h3 hk) i4 (fun i hi => RowIn.mono (h5 i hi) hk) i6 (fun i hi => (h7 i hi).mono hk) i8
theorem ExIn.shape {ok : Nat → Prop} {w : World} {e : E} {l a b : Value} (h : ExIn ok w e l a b) : (∃ p c, l = .slice p e.kids.length c) ∧ (∃ p c, a = .slice p e.alts.length c) ∧ ∃ p c, b = .slice p e.binds.length c := by
  cases h with
  | mk e l a b L1 L2 L3 V A1 A2 A3 S1 S2 S3 B1 B2 B3 h1 h2 h3 => exact ⟨RowIn.shape h1, RowIn.shape h2, RowIn.shape h3⟩
/-- A tree without parts. -/
theorem ExIn.leaf (ok : Nat → Prop) (w : World) (k p : Int) (n : ByteArray) (m : Int) : ExIn ok w (.mk k p n m [] [] []) (.slice none 0 0) (.slice none 0 0) (.slice none 0 0) :=
  .mk _ _ _ _ (fun _ => undef) (fun _ => undef) (fun _ => undef) (fun _ => undef) (fun _ => undef) (fun _ => undef) (fun _ => undef) (fun _ => undef) (fun _ => undef) (fun _ => undef) (fun _ => undef) (fun _ => undef) (fun _ => undef)
    (RowIn.nil _ _ _ _ _ _) (RowIn.nil _ _ _ _ _ _) (RowIn.nil _ _ _ _ _ _) (fun _ h => absurd h (by simp [E.kids])) (fun _ h => absurd h (by simp [E.alts])) (fun _ h => absurd h (by simp [E.alts])) (fun _ h => absurd h (by simp [E.binds])) (fun _ h => absurd h (by simp [E.binds]))
theorem RowIn.lt {ok : Nat → Prop} {w : World} {T : TypeId} {v : Value} {n : Nat} {P : (Nat → Option Value) → Prop} (h : RowIn ok w T v n P) : RowIn (fun k => ok k ∧ k < w.heap.size) w T v n P := by
  obtain ⟨p, cap, rfl, h⟩ := h
  refine ⟨p, cap, rfl, ?_⟩
  rcases h with h | ⟨g, e, hc, hg, cs, fz, hh, hp⟩
  · exact .inl h
  · exact .inr ⟨g, e, hc, ⟨hg, (Array.getElem?_eq_some_iff.1 hh).1⟩, cs, fz, hh, hp⟩
theorem TyIn.lt {ok : Nat → Prop} {w : World} {t : Ty} {v : Value} (h : TyIn ok w t v) : TyIn (fun k => ok k ∧ k < w.heap.size) w t v := by
  induction h with
  | mk t v X h _ ih => exact .mk t v X (RowIn.lt h) ih
theorem SchIn.lt {ok : Nat → Prop} {w : World} {s : Sch} {v1 v2 v3 : Value} (h : SchIn ok w s v1 v2 v3) : SchIn (fun k => ok k ∧ k < w.heap.size) w s v1 v2 v3 := by
  obtain ⟨h1, ⟨X, h2, h3⟩, h4⟩ := h
  exact ⟨RowIn.lt h1, ⟨X, RowIn.lt h2, fun i hi => (h3 i hi).lt⟩, h4.lt⟩
/-- The rows of a tree are blocks that are there. -/
theorem ExIn.lt {ok : Nat → Prop} {w : World} {e : E} {l a b : Value} (h : ExIn ok w e l a b) : ExIn (fun k => ok k ∧ k < w.heap.size) w e l a b := by
  induction h with
  | mk e l a b L1 L2 L3 V A1 A2 A3 S1 S2 S3 B1 B2 B3 h1 h2 h3 _ h5 _ h7 _ i4 i6 i8 =>
    exact .mk e l a b L1 L2 L3 V A1 A2 A3 S1 S2 S3 B1 B2 B3 (RowIn.lt h1) (RowIn.lt h2) (RowIn.lt h3) i4 (fun i hi => RowIn.lt (h5 i hi)) i6 (fun i hi => (h7 i hi).lt) i8
/-- Rows from a block on. -/
abbrev From (n : Nat) : Nat → Prop := fun k => n ≤ k
theorem keep_of_below {ok : Nat → Prop} {w w' : World} (h : Below w.heap.size w w') : ∀ k o, ok k → w.heap[k]? = some o → w'.heap[k]? = some o := fun k _ _ hk => (h.block k (Array.getElem?_eq_some_iff.1 hk).1).trans hk
theorem keep_of_fr {n R : Nat} {w w' : World} (h : Fr R w w') (hR : R < n) : ∀ k o, From n k → w.heap[k]? = some o → w'.heap[k]? = some o := fun k o hn hk => h.2 k o hk (by have : n ≤ k := hn; omega)
/-- A tree of one part. -/
theorem ExIn.one {ok : Nat → Prop} {w : World} (k p : Int) (n : ByteArray) (m : Int) (x : E) {l a b : Value} {g : Nat} {fz : Nat × Nat} (hx : ExIn ok w x l a b) (hg : w.heap[g]? = some (.cells #[.int .i64 x.kind, .int .i64 x.pos, .string x.name, .int .i64 x.num, l, a, b] 28 fz)) (hok : ok g) :
    ExIn ok w (.mk k p n m [x] [] []) (.slice (some ⟨g, 0, none⟩) 1 1) (.slice none 0 0) (.slice none 0 0) :=
  .mk _ _ _ _ (fun _ => l) (fun _ => a) (fun _ => b) (fun _ => undef) (fun _ => undef) (fun _ => undef) (fun _ => undef) (fun _ => undef) (fun _ => undef) (fun _ => undef) (fun _ => undef) (fun _ => undef) (fun _ => undef)
    (RowIn.new hg hok (Nat.le_refl _) (fun i hi => by
      obtain rfl : i = 0 := by simpa [E.kids] using hi
      exact ⟨⟨rfl, rfl, rfl, rfl⟩, rfl, rfl, rfl⟩)) (RowIn.nil _ _ _ _ _ _) (RowIn.nil _ _ _ _ _ _) (fun i hi => by
      obtain rfl : i = 0 := by simpa [E.kids] using hi
      exact hx) (fun _ h => absurd h (by simp [E.alts])) (fun _ h => absurd h (by simp [E.alts])) (fun _ h => absurd h (by simp [E.binds])) (fun _ h => absurd h (by simp [E.binds]))
theorem ExIn.two {ok : Nat → Prop} {w : World} (k p : Int) (n : ByteArray) (m : Int) (x y : E) {l a b l' a' b' : Value} {g : Nat} {fz : Nat × Nat} (hx : ExIn ok w x l a b) (hy : ExIn ok w y l' a' b')
    (hg : w.heap[g]? = some (.cells #[.int .i64 x.kind, .int .i64 x.pos, .string x.name, .int .i64 x.num, l, a, b, .int .i64 y.kind, .int .i64 y.pos, .string y.name, .int .i64 y.num, l', a', b'] 28 fz)) (hok : ok g) :
    ExIn ok w (.mk k p n m [x, y] [] []) (.slice (some ⟨g, 0, none⟩) 2 2) (.slice none 0 0) (.slice none 0 0) :=
  .mk _ _ _ _ (fun i => if i = 0 then l else l') (fun i => if i = 0 then a else a') (fun i => if i = 0 then b else b') (fun _ => undef) (fun _ => undef) (fun _ => undef) (fun _ => undef) (fun _ => undef) (fun _ => undef) (fun _ => undef) (fun _ => undef) (fun _ => undef) (fun _ => undef)
    (RowIn.new hg hok (Nat.le_refl _) (fun i hi => by
      match i, hi with
      | 0, _ => exact ⟨⟨rfl, rfl, rfl, rfl⟩, rfl, rfl, rfl⟩
      | 1, _ => exact ⟨⟨rfl, rfl, rfl, rfl⟩, rfl, rfl, rfl⟩
      | n + 2, hi => simp [E.kids] at hi; omega)) (RowIn.nil _ _ _ _ _ _) (RowIn.nil _ _ _ _ _ _) (fun i hi => by
      match i, hi with
      | 0, _ => exact hx
      | 1, _ => exact hy
      | n + 2, hi => simp [E.kids] at hi; omega) (fun _ h => absurd h (by simp [E.alts])) (fun _ h => absurd h (by simp [E.alts])) (fun _ h => absurd h (by simp [E.binds])) (fun _ h => absurd h (by simp [E.binds]))
end Go.Proofs.YtdooeghicdaakaaGreatDoor
