/- SubstThen: what its statements keep; calls whose results are told. -/
import Derived.Test.YtmbaolcdjgilpaaSbThen
import Derived.Test.YtmbaolcdjgilpaaSbPairs
import Derived.Test.YtmbaolcdjgilpaaRegLast
namespace Go.Proofs.Ytmbaolcdjgilpaa
open Go.RowKit Go.Sort Go.Lib
attribute [local go_sem] Oper.semAt_some

theorem size_le (d : List PR) (M : Nat) (h1 : 1 ≤ M) (hd : ∀ x ∈ d, tsize x.t ≤ M) : ∀ t, tsize (app d t) ≤ tsize t * M := by
  intro t
  refine T.by_kids (P := fun t => tsize (app d t) ≤ tsize t * M) (fun t H => ?_) t
  cases t with
  | var n =>
    rw [app_v, tsize, Nat.one_mul]
    unfold ty
    cases h : lk n d with
    | none => exact h1
    | some x => exact hd x (lk_name h).1
  | con n l =>
    rw [app, tsize, tsize, apps_map]
    have key : ∀ m : List T, (∀ k ∈ m, k ∈ l) → tsizes (m.map (app d)) ≤ tsizes m * M := by
      intro m
      induction m with
      | nil => intro _; exact Nat.zero_le _
      | cons a m ih =>
        intro hm
        rw [List.map_cons, tsizes, tsizes, Nat.add_mul]
        exact Nat.add_le_add (H a (hm a (List.mem_cons_self ..))) (ih fun k hk => hm k (List.mem_cons_of_mem _ hk))
    have := key l (fun k hk => hk)
    rw [Nat.add_mul]; omega
  | fn a b =>
    have ha := H a (by simp [T.kids])
    have hb := H b (by simp [T.kids])
    rw [app, tsize, tsize, Nat.add_mul, Nat.add_mul]; omega
  | all n a =>
    have ha := H a (by simp [T.kids])
    rw [app, tsize, tsize, Nat.add_mul]; omega
/-- Of a row of pairs: how many, how great, what it does. -/
def Sb (M n : Nat) (f : T → T) (l : List PR) : Prop := l.length ≤ n ∧ (∀ x ∈ l, tsize x.t ≤ M) ∧ ∀ t, app l t = f t
theorem then_ret {sv uv : Value} {ls lu : List PR} {w : World} {M1 M2 M n1 n2 : Nat} {f1 f2 : T → T} (hs : SubAt sv ls w) (hu : SubAt uv lu w) (h1 : Sb M1 n1 f1 ls) (h2 : Sb M2 n2 f2 lu) (hn : n1 + n2 < 20) (h12 : M1 * M2 ≤ M) (hm1 : M1 ≤ M) (hm2 : M2 ≤ M) (hM : M ≤ 1000000000) (hp : 1 ≤ M2) :
    Calls Try.prog 17 #[.agg #[sv], .agg #[uv]] w fun e Y => (∃ zv zl, e = .returned (.agg #[zv]) ∧ (SubAt zv zl Y ∧ Sb M (n1 + n2) (fun t => f2 (f1 t)) zl)) ∧ Below w.heap.size w Y := by
  obtain ⟨a1, a2, a3⟩ := h1
  obtain ⟨b1, b2, b3⟩ := h2
  have hsz : ∀ x ∈ ls, tsize (app lu x.t) ≤ M := fun x hx => by
    have h := size_le lu M2 hp b2 x.t
    have h' : tsize x.t * M2 ≤ M1 * M2 := Nat.mul_le_mul_right M2 (a2 x hx)
    omega
  refine (then_any sv uv ls lu w hs hu (by omega) (fun x hx => by have := a2 x hx; omega) (fun x hx => by have := b2 x hx; omega) (fun x hx => by have := hsz x hx; omega)).mono ?_
  rintro e Y ⟨⟨v, l, rfl, hv, hm⟩, hb⟩
  refine ⟨⟨v, l, rfl, hv, ?_, ?_, fun t => ?_⟩, hb⟩
  · have := hm.len
    simp [thenL] at this; omega
  · intro x hx
    obtain ⟨y, hy, _, e⟩ := hm.sub x hx
    rw [e]
    rcases List.mem_append.1 hy with hy | hy
    · obtain ⟨z, hz, rfl⟩ := List.mem_map.1 hy
      exact hsz z hz
    · have := b2 y hy; omega
  · rw [made_ty hm, then_app, a3, b3]
theorem app_ret {l : List PR} {t t' : T} {M n : Nat} {f : T → T} {s : Value} {a : Option Addr} {c : Nat} {w : World} (hs : SubAt s l w) (h : Sb M n f l) (hn : n ≤ 1000) (hM : M ≤ 1000000000) (ht : tsize t ≤ 1000000000) (e : f t = t') (hT : TysAt w (.slice a t.kids.length c) t.kids) :
    Calls Try.prog 16 #[.agg #[s], .agg #[.int .i64 t.kind, .string t.name, .slice a t.kids.length c]] w fun e Y => (∃ za zc, e = .returned (.agg #[.int .i64 t'.kind, .string t'.name, .slice za t'.kids.length zc]) ∧ TysAt Y (.slice za t'.kids.length zc) t'.kids) ∧ Below w.heap.size w Y := by
  refine (apply_any (d := l) (t := t) (s := s) (w := w) (by have := h.1; omega) (fun x hx => by have := h.2.1 x hx; omega) ht hs hT).mono ?_
  rintro e1 w5 ⟨⟨a, c, rfl, hin⟩, hb5⟩
  rw [h.2.2, e] at hin ⊢
  exact ⟨⟨a, c, rfl, hin.tys⟩, hb5⟩

def nilV : Value := .slice none 0 0
/-- What the statements of SubstThen keep. -/
def SS (w : World) (b11 b12 b13 b14 b15 : Nat) (t : T) (pa : Option Addr) (ca : Nat) (sx sy sz : Value) (lx ly lz : List PR) (X : World) : Prop :=
  BoxT b11 t pa ca X ∧ ((BoxS b12 sx lx X ∧ BoxS b13 sy ly X) ∧ BoxS b14 sz lz X ∧ BoxS b15 nilV [] X) ∧ Below w.heap.size w X
theorem SS.below {w : World} {b11 b12 b13 b14 b15 : Nat} {t : T} {pa : Option Addr} {ca : Nat} {sx sy sz : Value} {lx ly lz : List PR} {X Y : World} (h : SS w b11 b12 b13 b14 b15 t pa ca sx sy sz lx ly lz X) (hb : Below X.heap.size X Y) : SS w b11 b12 b13 b14 b15 t pa ca sx sy sz lx ly lz Y :=
  ⟨h.1.below hb, ⟨⟨h.2.1.1.1.below hb, h.2.1.1.2.below hb⟩, h.2.1.2.1.below hb, h.2.1.2.2.below hb⟩, h.2.2.trans (hb.mono h.2.2.size)⟩
theorem SS.cells {w : World} {b11 b12 b13 b14 b15 : Nat} {t : T} {pa : Option Addr} {ca : Nat} {sx sy sz : Value} {lx ly lz : List PR} {X : World} (h : SS w b11 b12 b13 b14 b15 t pa ca sx sy sz lx ly lz X) :
    (X.cell? ⟨b11, 0, none⟩ = some (.int .i64 t.kind) ∧ X.cell? ⟨b11, 1, none⟩ = some (.string t.name) ∧ X.cell? ⟨b11, 2, none⟩ = some (.slice pa t.kids.length ca)) ∧
    (X.cell? ⟨b12, 0, none⟩ = some sx ∧ X.cell? ⟨b13, 0, none⟩ = some sy) ∧ X.cell? ⟨b14, 0, none⟩ = some sz ∧ X.cell? ⟨b15, 0, none⟩ = some nilV := ⟨h.1.cells, ⟨h.2.1.1.1.cell, h.2.1.1.2.cell⟩, h.2.1.2.1.cell, h.2.1.2.2.cell⟩

/-! A box that is still empty is filled: all else stays. -/
def zeroT : Obj := .cells #[.int .i64 0, .string ⟨#[]⟩, .slice none 0 0] 34
theorem BoxT.fill {b k : Nat} {t : T} {a : Option Addr} {c : Nat} {w W : World} (h : BoxT b t a c w) (h0 : w.heap[k]? = some zeroT) (hk : ∀ j, j ≠ k → W.heap[j]? = w.heap[j]?) : BoxT b t a c W := by
  refine ⟨(hk b ?_).trans h.1, h.2.elsewhere h0 hk⟩
  rintro rfl
  have h1 := h.1
  rw [h0] at h1
  unfold zeroT at h1
  simp only [Option.some.injEq, Obj.cells.injEq, Array.mk.injEq, List.cons.injEq, Value.int.injEq] at h1
  have := (T.kind_pos t).1
  omega
theorem SubAt.fill {v : Value} {d : List PR} {k : Nat} {w W : World} (h : SubAt v d w) (h0 : w.heap[k]? = some zeroT) (hk : ∀ j, j ≠ k → W.heap[j]? = w.heap[j]?) : SubAt v d W := by
  obtain ⟨⟨h1, h2⟩, h3⟩ := h
  refine ⟨⟨?_, h2⟩, fun x hx => (h3 x hx).elsewhere h0 hk⟩
  rcases h1 with h1 | ⟨g, cap, e, hc, hr⟩
  · exact .inl h1
  · refine .inr ⟨g, cap, e, hc, hr.same (hk g ?_)⟩
    rintro rfl
    obtain ⟨cs, hr, _⟩ := hr
    rw [h0] at hr
    unfold zeroT at hr
    simp at hr
theorem BoxS.fill {b k : Nat} {v : Value} {d : List PR} {w W : World} (h : BoxS b v d w) (h0 : w.heap[k]? = some zeroT) (hk : ∀ j, j ≠ k → W.heap[j]? = w.heap[j]?) : BoxS b v d W := by
  refine ⟨(hk b ?_).trans h.1, h.2.fill h0 hk⟩
  rintro rfl
  have h1 := h.1
  rw [h0] at h1
  unfold zeroT at h1
  simp at h1
theorem SS.fill {w : World} {b11 b12 b13 b14 b15 : Nat} {t : T} {pa : Option Addr} {ca : Nat} {sx sy sz : Value} {lx ly lz : List PR} {X Y : World} {k : Nat} (h : SS w b11 b12 b13 b14 b15 t pa ca sx sy sz lx ly lz X) (h0 : X.heap[k]? = some zeroT) (hk : ∀ j, j ≠ k → Y.heap[j]? = X.heap[j]?) (hb : Below w.heap.size X Y) : SS w b11 b12 b13 b14 b15 t pa ca sx sy sz lx ly lz Y :=
  ⟨h.1.fill h0 hk, ⟨⟨h.2.1.1.1.fill h0 hk, h.2.1.1.2.fill h0 hk⟩, h.2.1.2.1.fill h0 hk, h.2.1.2.2.fill h0 hk⟩, h.2.2.trans hb⟩
theorem fill_box {k : Nat} {p : T} {a : Option Addr} {c : Nat} {w : World} (h0 : w.heap[k]? = some zeroT) (hp : TysAt w (.slice a p.kids.length c) p.kids) :
    BoxT k p a c (((w.setCell ⟨k, 0, none⟩ (.int .i64 p.kind)).setCell ⟨k, 1, none⟩ (.string p.name)).setCell ⟨k, 2, none⟩ (.slice a p.kids.length c)) :=
  ⟨set3_block h0 _ _ _, hp.elsewhere h0 (fun _ hj => set3_others _ _ _ hj)⟩
end Go.Proofs.Ytmbaolcdjgilpaa
