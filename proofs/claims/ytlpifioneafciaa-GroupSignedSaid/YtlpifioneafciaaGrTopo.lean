/- The order of rings as plain data: each time the least of those that could come next. -/
import Derived.Test.YtlpifioneafciaaGrHeap
namespace Go.Proofs.Ytlpifioneafciaa
open Go.RowKit Go.Maps Go.Lib

/-- How often u waits for one that is not told. -/
def needT (c : Nat) (us : Nat → List Nat) (dn : List Nat) (u : Nat) : Nat := ((List.range c).map fun r => if r ∈ dn then 0 else (us r).count u).sum
theorem sum_at {l : List Nat} (hn : l.Nodup) {f g : Nat → Nat} {x d : Nat} (hx : x ∈ l) (h1 : f x = g x + d) (h2 : ∀ r ∈ l, r ≠ x → f r = g r) : (l.map f).sum = (l.map g).sum + d := by
  induction l with
  | nil => cases hx
  | cons a l ih =>
    obtain ⟨ha, hl⟩ := List.nodup_cons.1 hn
    simp only [List.map_cons, List.sum_cons]
    by_cases e : a = x
    · subst e
      have : l.map f = l.map g := List.map_congr_left fun r hr => h2 r (List.mem_cons_of_mem _ hr) fun e => ha (e ▸ hr)
      rw [this, h1]; omega
    · rw [ih hl ((List.mem_cons.1 hx).resolve_left (Ne.symm e)) fun r hr => h2 r (List.mem_cons_of_mem _ hr), h2 a (List.mem_cons_self ..) e]; omega
theorem needT_pop {c : Nat} {us : Nat → List Nat} {dn : List Nat} {x : Nat} (u : Nat) (hx : x < c) (hd : x ∉ dn) : needT c us dn u = needT c us (dn ++ [x]) u + (us x).count u := by
  refine sum_at List.nodup_range (x := x) (List.mem_range.2 hx) (by simp [hd]) fun r _ hr => ?_
  simp [hr]
theorem sum_zero {l : List Nat} {f : Nat → Nat} : (l.map f).sum = 0 ↔ ∀ r ∈ l, f r = 0 := by
  induction l with
  | nil => simp
  | cons a l ih => simp only [List.map_cons, List.sum_cons, List.forall_mem_cons, ← ih]; omega
/-- It could come next. -/
def ReadyR (c : Nat) (us : Nat → List Nat) (dn : List Nat) (y : Nat) : Prop := y < c ∧ y ∉ dn ∧ ∀ r, r < c → r ∉ dn → y ∉ us r
theorem needT_zero {c : Nat} {us : Nat → List Nat} {dn : List Nat} {u : Nat} : needT c us dn u = 0 ↔ ∀ r, r < c → r ∉ dn → u ∉ us r := by
  unfold needT
  rw [sum_zero]
  refine ⟨fun h r hr hd hu => ?_, fun h r hr => ?_⟩
  · have := h r (List.mem_range.2 hr)
    rw [if_neg hd] at this
    exact absurd hu (List.count_eq_zero.1 this)
  · by_cases hd : r ∈ dn
    · rw [if_pos hd]
    · rw [if_neg hd]; exact List.count_eq_zero.2 (h r (List.mem_range.1 hr) hd)
/-- Each time the least of those that could come next. -/
inductive Greedy (c : Nat) (us : Nat → List Nat) (lt : Nat → Nat → Prop) : List Nat → Prop
  | nil : Greedy c us lt []
  | snoc {dn : List Nat} {x : Nat} : Greedy c us lt dn → ReadyR c us dn x → (∀ y, ReadyR c us dn y → ¬ lt y x) → Greedy c us lt (dn ++ [x])
/-- What holds while those that wait for the last one are told of it: rest are still to be told. -/
structure TI (c : Nat) (us : Nat → List Nat) (dn rest rd : List Nat) (wt : Nat → Nat) : Prop where
  dnN : dn.Nodup
  dnC : ∀ x ∈ dn, x < c
  rdN : rd.Nodup
  rdI : ∀ y, y ∈ rd ↔ y < c ∧ y ∉ dn ∧ wt y = 0
  wtN : ∀ u, u < c → wt u = needT c us dn u + rest.count u
  wt0 : ∀ u ∈ dn, wt u = 0
  rsC : ∀ u ∈ rest, u < c
theorem TI.perm {c : Nat} {us : Nat → List Nat} {dn rest rd rd' : List Nat} {wt : Nat → Nat} (h : TI c us dn rest rd wt) (hp : rd'.Perm rd) : TI c us dn rest rd' wt :=
  ⟨h.dnN, h.dnC, hp.nodup_iff.2 h.rdN, fun y => (hp.mem_iff).trans (h.rdI y), h.wtN, h.wt0, h.rsC⟩
theorem TI.ready {c : Nat} {us : Nat → List Nat} {dn rd : List Nat} {wt : Nat → Nat} (h : TI c us dn [] rd wt) (y : Nat) : y ∈ rd ↔ ReadyR c us dn y := by
  rw [h.rdI y]
  refine ⟨fun ⟨a, b, z⟩ => ⟨a, b, needT_zero.1 (by have := h.wtN y a; simp at this; omega)⟩, fun ⟨a, b, z⟩ => ⟨a, b, ?_⟩⟩
  have := h.wtN y a
  simp at this
  rw [this]; exact needT_zero.2 z
theorem TI.pop {c : Nat} {us : Nat → List Nat} {dn rd rd' : List Nat} {wt : Nat → Nat} {x : Nat} (h : TI c us dn [] rd wt) (hp : rd.Perm (x :: rd')) (hus : ∀ u ∈ us x, u < c) : TI c us (dn ++ [x]) (us x) rd' wt := by
  have hx : x ∈ rd := hp.mem_iff.2 (List.mem_cons_self ..)
  obtain ⟨x1, x2, x3⟩ := (h.rdI x).1 hx
  have hn := hp.nodup_iff.1 h.rdN
  obtain ⟨n1, n2⟩ := List.nodup_cons.1 hn
  refine ⟨?_, ?_, n2, fun y => ?_, fun u hu => ?_, ?_, hus⟩
  · rw [List.nodup_append]
    exact ⟨h.dnN, by simp, fun a ha b hb => by simp at hb; subst hb; exact fun e => x2 (e ▸ ha)⟩
  · intro y hy
    rcases List.mem_append.1 hy with hy | hy
    · exact h.dnC y hy
    · simp at hy; omega
  · have e : y ∈ rd ↔ y = x ∨ y ∈ rd' := by rw [hp.mem_iff]; simp
    have e2 := h.rdI y
    constructor
    · intro hy
      obtain ⟨a, b, z⟩ := e2.1 (e.2 (.inr hy))
      refine ⟨a, ?_, z⟩
      simp only [List.mem_append, List.mem_singleton, not_or]
      exact ⟨b, fun ee => n1 (ee ▸ hy)⟩
    · rintro ⟨a, b, z⟩
      simp only [List.mem_append, List.mem_singleton, not_or] at b
      exact (e.1 (e2.2 ⟨a, b.1, z⟩)).resolve_left b.2
  · have := h.wtN u hu
    rw [needT_pop u x1 x2] at this
    simpa using this
  · intro u hu
    rcases List.mem_append.1 hu with hu | hu
    · exact h.wt0 u hu
    · simp at hu; subst hu; exact x3
/-- One of those that wait is told. -/
theorem TI.head {c : Nat} {us : Nat → List Nat} {dn rest rd : List Nat} {wt : Nat → Nat} {u : Nat} (h : TI c us dn (u :: rest) rd wt) : u < c ∧ 0 < wt u ∧ u ∉ dn ∧ u ∉ rd := by
  have hu := h.rsC u (List.mem_cons_self ..)
  have hw := h.wtN u hu
  rw [List.count_cons_self] at hw
  have hp : 0 < wt u := by omega
  exact ⟨hu, hp, fun hd => by have := h.wt0 u hd; omega, fun hd => by have := ((h.rdI u).1 hd).2.2; omega⟩
theorem TI.told {c : Nat} {us : Nat → List Nat} {dn rest rd rd' : List Nat} {wt : Nat → Nat} {u x : Nat} (h : TI c us dn (u :: rest) rd wt) (hx : wt u = x + 1) (hr : (x = 0 ∧ rd'.Perm (rd ++ [u])) ∨ (x ≠ 0 ∧ rd' = rd)) : TI c us dn rest rd' (updN wt u x) := by
  obtain ⟨hu, hp, hd, hn⟩ := h.head
  have up : ∀ y, updN wt u x y = if y = u then x else wt y := fun y => rfl
  refine ⟨h.dnN, h.dnC, ?_, fun y => ?_, fun y hy => ?_, fun y hy => ?_, fun y hy => h.rsC y (List.mem_cons_of_mem _ hy)⟩
  · rcases hr with ⟨_, hr⟩ | ⟨_, rfl⟩
    · rw [hr.nodup_iff, List.nodup_append]
      exact ⟨h.rdN, by simp, fun a ha b hb => by simp at hb; subst hb; exact fun e => hn (e ▸ ha)⟩
    · exact h.rdN
  · rw [up]
    rcases hr with ⟨h0, hr⟩ | ⟨h0, rfl⟩
    · rw [hr.mem_iff, List.mem_append, h.rdI y]
      by_cases e : y = u
      · subst e; simp [hu, hd, h0]
      · simp [e]
    · rw [h.rdI y]
      by_cases e : y = u
      · subst e; simp [h0]; omega
      · simp [e]
  · rw [up]
    have := h.wtN y hy
    by_cases e : y = u
    · subst e
      rw [if_pos rfl]
      rw [List.count_cons_self] at this
      omega
    · rw [if_neg e, this, List.count_cons_of_ne (Ne.symm e)]
  · rw [up, if_neg (fun e : y = u => hd (e ▸ hy))]
    exact h.wt0 y hy
theorem TI.start {c : Nat} {us : Nat → List Nat} {rd : List Nat} {wt : Nat → Nat} (hr : rd.Nodup) (hi : ∀ y, y ∈ rd ↔ y < c ∧ wt y = 0) (hw : ∀ u, u < c → wt u = needT c us [] u) : TI c us [] [] rd wt :=
  ⟨List.nodup_nil, fun _ h => (List.not_mem_nil h).elim, hr, fun y => by rw [hi y]; simp, fun u hu => by rw [hw u hu]; simp, fun _ h => (List.not_mem_nil h).elim, fun _ h => (List.not_mem_nil h).elim⟩
end Go.Proofs.Ytlpifioneafciaa
