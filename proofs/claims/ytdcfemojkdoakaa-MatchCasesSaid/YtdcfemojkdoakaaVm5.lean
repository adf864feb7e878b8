/- Merged: MtPlain, MpA, MtR, RegMark, MtM, MapV, MpM, McK, McS, McB, MpS, MpB, MtS. -/
import Derived.Test.YtdcfemojkdoakaaVm4
import Derived.Test.YtdcfemojkdoakaaVm3
import Derived.Deep.AppendLies
import Derived.Test.YtdcfemojkdoakaaVm1
import Derived.Test.YtdcfemojkdoakaaVm2
import Derived.Maps.OwnSet
/- Matching, as plain data: what the chapter's way finds; that it finds whatever there is. -/
namespace Go.Proofs.Ytdcfemojkdoakaa

/-- Names with their types, the first of a name counts. -/
noncomputable def lkt (n : ByteArray) (l : List (ByteArray × T)) : Option T := (l.find? fun x => decide (x.1 = n)).map (·.2)
theorem lkt_nt (n : ByteArray) : ∀ l : List PR, lkt n (l.map nt) = (lk n l).map (·.t)
  | [] => rfl
  | x :: l => by
    rw [lk_cons]
    unfold lkt
    rw [List.map_cons, List.find?_cons]
    by_cases h : x.n = n
    · simp [nt, h]
    · have e : decide ((nt x).1 = n) = false := decide_eq_false h
      rw [e, if_neg h]
      exact lkt_nt n l
theorem lkt_in {n : ByteArray} {l : List (ByteArray × T)} {t : T} (h : lkt n l = some t) : (n, t) ∈ l := by
  unfold lkt at h
  obtain ⟨x, hx, rfl⟩ := Option.map_eq_some_iff.1 h
  have h1 := List.mem_of_find?_eq_some hx
  have h2 := List.find?_some hx
  simp only [decide_eq_true_eq] at h2
  rw [← h2]; exact h1
/-- The parts, one after another, with what was found so far. -/
def mtL (rec : List (ByteArray × T) → T → T → Option (List (ByteArray × T))) : List (ByteArray × T) → List T → List T → Option (List (ByteArray × T))
  | s, a :: l, b :: m => match rec s a b with
    | none => none
    | some s' => mtL rec s' l m
  | s, _, _ => some s
/-- One type onto another. -/
noncomputable def mt : Nat → List (ByteArray × T) → T → T → Option (List (ByteArray × T))
  | 0, _, _, _ => none
  | f + 1, s, a, b =>
    if a.kind = 1 then match lkt a.name s with
      | some t => if eqB t b = true then some s else none
      | none => some (s ++ [(a.name, b)])
    else if a.kind = b.kind ∧ a.name = b.name ∧ a.kids.length = b.kids.length then mtL (mt f) s a.kids b.kids else none
/-- Types for variables that say what was found. -/
def SaysT (θ : Sg) (s : List (ByteArray × T)) : Prop := ∀ p ∈ s, θ p.1 = p.2
theorem tsize_kids_le {t k : T} (h : k ∈ t.kids) : tsize k < tsize t := by
  have e := tsize_eq t
  have : ∀ l : List T, k ∈ l → tsize k ≤ tsizes l := by
    intro l
    induction l with
    | nil => intro h; cases h
    | cons a l ih =>
      intro h
      rw [tsizes]
      rcases List.mem_cons.1 h with rfl | h
      · omega
      · have := ih h; omega
  have := this _ h
  omega
/-- What is there is found. -/
theorem mt_hit (θ : Sg) : ∀ (f : Nat) (s : List (ByteArray × T)) (a : T), tsize a ≤ f → SaysT θ s → ∃ s', mt f s a (sub θ a) = some s' ∧ SaysT θ s' ∧ s'.length ≤ s.length + tsize a
  | 0, s, a, h, _ => absurd (tsize_pos a) (by omega)
  | f + 1, s, a, h, hs => by
    by_cases hv : a.kind = 1
    · have ha := isV_var (isV_kind.2 hv)
      have e : sub θ a = θ a.name := by conv => lhs; rw [ha]
                                        rfl
      rw [mt, if_pos hv]
      cases hl : lkt a.name s with
      | some t =>
        have ht : θ a.name = t := hs _ (lkt_in hl)
        rw [e, ht]
        exact ⟨s, by simp [eqB], hs, by omega⟩
      | none =>
        refine ⟨_, rfl, fun p hp => ?_, by have := tsize_pos a; simp; omega⟩
        rcases List.mem_append.1 hp with hp | hp
        · exact hs p hp
        · obtain rfl := List.mem_singleton.1 hp
          exact e.symm
    · have hv' : a.isV = false := by
        cases hb : a.isV with
        | false => rfl
        | true => exact absurd (isV_kind.1 hb) hv
      obtain ⟨h1, h2, h3, _⟩ := sub_parts θ a hv'
      rw [mt, if_neg hv, if_pos ⟨h1.symm, h2.symm, by rw [h3, List.length_map]⟩, h3]
      have hz := tsize_eq a
      have key : ∀ (l : List T) (s : List (ByteArray × T)), (∀ k ∈ l, tsize k ≤ f) → SaysT θ s → ∃ s', mtL (mt f) s l (l.map (sub θ)) = some s' ∧ SaysT θ s' ∧ s'.length ≤ s.length + tsizes l := by
        intro l
        induction l with
        | nil => intro s _ hs; exact ⟨s, rfl, hs, by simp [tsizes]⟩
        | cons k l ih =>
          intro s hk hs
          obtain ⟨s1, e1, g1, l1⟩ := mt_hit θ f s k (hk k (by simp)) hs
          obtain ⟨s2, e2, g2, l2⟩ := ih s1 (fun x hx => hk x (List.mem_cons_of_mem _ hx)) g1
          refine ⟨s2, ?_, g2, by rw [tsizes]; omega⟩
          rw [List.map_cons, mtL, e1]; exact e2
      obtain ⟨s', e', g', l'⟩ := key a.kids s (fun k hk => by have := tsize_kids_le hk; omega) hs
      exact ⟨s', e', g', by omega⟩
end Go.Proofs.Ytdcfemojkdoakaa
/- Matching, as plain data: what is found is right, and of the first type's variables alone. -/
namespace Go.Proofs.Ytdcfemojkdoakaa

theorem lkt_append (n : ByteArray) (l m : List (ByteArray × T)) : lkt n (l ++ m) = (lkt n l).or (lkt n m) := by
  unfold lkt; rw [List.find?_append]; cases l.find? (fun x => decide (x.1 = n)) <;> simp
theorem lkt_none {n : ByteArray} {l : List (ByteArray × T)} (h : lkt n l = none) : ∀ p ∈ l, p.1 ≠ n := fun p hp e => by
  unfold lkt at h
  rw [Option.map_eq_none_iff] at h
  have := List.find?_eq_none.1 h p hp
  simp [e] at this
theorem lkt_mem {n : ByteArray} {t : T} : ∀ {l : List (ByteArray × T)}, (l.map Prod.fst).Nodup → (n, t) ∈ l → lkt n l = some t
  | [], _, h => nomatch h
  | x :: l, hn, h => by
    rw [List.map_cons, List.nodup_cons] at hn
    unfold lkt
    rw [List.find?_cons]
    rcases List.mem_cons.1 h with rfl | h
    · simp
    · have hne : x.1 ≠ n := fun e => hn.1 (List.mem_map.2 ⟨(n, t), h, e.symm⟩)
      rw [show decide (x.1 = n) = false from decide_eq_false hne]
      exact lkt_mem hn.2 h
/-- What matching adds. -/
structure MtR (s s' : List (ByteArray × T)) (V : List ByteArray) : Prop where
  ext : ∃ r, s' = s ++ r ∧ ∀ p ∈ r, p.1 ∈ V
  one : (s.map Prod.fst).Nodup → (s'.map Prod.fst).Nodup
theorem MtR.refl (s : List (ByteArray × T)) (V : List ByteArray) : MtR s s V := ⟨⟨[], by simp, fun _ h => nomatch h⟩, id⟩
theorem MtR.trans {a b c : List (ByteArray × T)} {V : List ByteArray} (h : MtR a b V) (k : MtR b c V) : MtR a c V := by
  obtain ⟨r1, rfl, h1⟩ := h.ext
  obtain ⟨r2, rfl, h2⟩ := k.ext
  exact ⟨⟨r1 ++ r2, by simp, fun p hp => (List.mem_append.1 hp).elim (h1 p) (h2 p)⟩, fun hn => k.one (h.one hn)⟩
theorem MtR.mono {a b : List (ByteArray × T)} {V V' : List ByteArray} (h : MtR a b V) (hV : ∀ x ∈ V, x ∈ V') : MtR a b V' := by
  obtain ⟨r, e, h1⟩ := h.ext
  exact ⟨⟨r, e, fun p hp => hV _ (h1 p hp)⟩, h.one⟩
theorem MtR.says {a b : List (ByteArray × T)} {V : List ByteArray} (h : MtR a b V) {σ : Sg} (hs : SaysT σ b) : SaysT σ a := fun p hp => by
  obtain ⟨r, rfl, _⟩ := h.ext
  exact hs p (List.mem_append.2 (.inl hp))
theorem mt_sound : ∀ (f : Nat) (s : List (ByteArray × T)) (a b : T) (s' : List (ByteArray × T)), mt f s a b = some s' → MtR s s' (vs a) ∧ ∀ σ, SaysT σ s' → sub σ a = b
  | 0, _, _, _, _, h => by cases h
  | f + 1, s, a, b, s', h => by
    rw [mt] at h
    by_cases hv : a.kind = 1
    · rw [if_pos hv] at h
      have ha := isV_var (isV_kind.2 hv)
      have e : ∀ σ : Sg, sub σ a = σ a.name := fun σ => by
        conv => lhs; rw [ha]
        rfl
      cases hl : lkt a.name s with
      | some t =>
        rw [hl] at h
        by_cases he : eqB t b = true
        · simp only [he, if_true, Option.some.injEq] at h
          subst h
          refine ⟨MtR.refl _ _, fun σ hs => ?_⟩
          rw [e, hs _ (lkt_in hl)]
          simpa [eqB] using he
        · simp only [he] at h; cases h
      | none =>
        rw [hl] at h
        simp only [Option.some.injEq] at h
        subst h
        refine ⟨⟨⟨_, rfl, fun p hp => ?_⟩, fun hn => ?_⟩, fun σ hs => ?_⟩
        · obtain rfl := List.mem_singleton.1 hp
          rw [ha]; simp [vs, T.name]
        · rw [List.map_append, List.nodup_append]
          refine ⟨hn, by simp, fun x hx y hy e => ?_⟩
          obtain ⟨p, hp, rfl⟩ := List.mem_map.1 hx
          obtain rfl : y = a.name := by simpa using hy
          exact lkt_none hl p hp e
        · rw [e]; exact hs (a.name, b) (by simp)
    · rw [if_neg hv] at h
      have hv' : a.isV = false := by
        cases hb : a.isV with
        | false => rfl
        | true => exact absurd (isV_kind.1 hb) hv
      by_cases hk : a.kind = b.kind ∧ a.name = b.name ∧ a.kids.length = b.kids.length
      · rw [if_pos hk] at h
        have key : ∀ (l m : List T) (s s' : List (ByteArray × T)), (∀ k ∈ l, k ∈ a.kids) → l.length = m.length → mtL (mt f) s l m = some s' → MtR s s' (vs a) ∧ ∀ σ, SaysT σ s' → l.map (sub σ) = m := by
          intro l
          induction l with
          | nil =>
            intro m s s' _ hlen h
            have : m = [] := List.length_eq_zero_iff.1 hlen.symm
            subst this
            simp only [mtL, Option.some.injEq] at h
            subst h
            exact ⟨MtR.refl _ _, fun _ _ => rfl⟩
          | cons x l ih =>
            intro m s s' hmem hlen h
            cases m with
            | nil => simp at hlen
            | cons y m =>
              rw [mtL] at h
              cases e : mt f s x y with
              | none => rw [e] at h; cases h
              | some s1 =>
                rw [e] at h
                obtain ⟨g1, g2⟩ := mt_sound f s x y s1 e
                obtain ⟨k1, k2⟩ := ih m s1 s' (fun k hk => hmem k (List.mem_cons_of_mem _ hk)) (by simpa using hlen) h
                refine ⟨(g1.mono fun n hn => (vs_kids hv').2 ⟨x, hmem x (by simp), hn⟩).trans k1, fun σ hs => ?_⟩
                rw [List.map_cons, k2 σ hs, g2 σ (k1.says hs)]
        obtain ⟨g1, g2⟩ := key a.kids b.kids s s' (fun _ h => h) hk.2.2 h
        refine ⟨g1, fun σ hs => ?_⟩
        obtain ⟨h1, h2, h3, _⟩ := sub_parts σ a hv'
        exact T.ext3 (h1.trans hk.1) (h2.trans hk.2.1) (h3.trans (g2 σ hs))
      · rw [if_neg hk] at h; cases h
/-- What a row of pairs says is what was found. -/
theorem says_ty {q : List PR} (hn : ((q.map nt).map Prod.fst).Nodup) : SaysT (fun n => ty n q) (q.map nt) := fun p hp => by
  have := lkt_mem (n := p.1) (t := p.2) hn hp
  rw [lkt_nt] at this
  show ((lk p.1 q).map PR.t).getD _ = _
  obtain ⟨x, hx, hx2⟩ := Option.map_eq_some_iff.1 this
  rw [hx]; exact hx2
theorem nodup_few {α : Type} [DecidableEq α] : ∀ {l m : List α}, l.Nodup → (∀ x ∈ l, x ∈ m) → l.length ≤ m.length
  | [], _, _, _ => Nat.zero_le _
  | a :: l, m, h, hs => by
    have ha : a ∈ m := hs a (by simp)
    have h1 := List.nodup_cons.1 h
    have := nodup_few (l := l) (m := m.erase a) h1.2 (fun x hx => (List.mem_erase_of_ne (fun e => h1.1 (by rw [← e]; exact hx))).2 (hs x (by simp [hx])))
    have h2 := List.length_erase_of_mem ha
    have h3 : 0 < m.length := List.length_pos_of_mem ha
    simp only [List.length_cons]
    omega
theorem mt_app {f : Nat} {a b : T} {q : List PR} {V : List ByteArray} (h : mt f [] a b = some (q.map nt)) (hV : TIn V a) : app q a = b ∧ q.length ≤ V.length := by
  obtain ⟨g1, g2⟩ := mt_sound f [] a b _ h
  have hn := g1.one (by simp)
  obtain ⟨r, e, hr⟩ := g1.ext
  rw [List.nil_append] at e
  have hm : ∀ x ∈ q, x.n ∈ V := fun x hx => hV _ (hr (nt x) (by rw [← e]; exact List.mem_map.2 ⟨x, hx, rfl⟩))
  refine ⟨by rw [app_sub]; exact g2 _ (says_ty hn), ?_⟩
  have := nodup_few (l := (q.map nt).map Prod.fst) (m := V) hn (fun n hn => by
    obtain ⟨p, hp, rfl⟩ := List.mem_map.1 hn
    obtain ⟨x, hx, rfl⟩ := List.mem_map.1 hp
    exact hm x hx)
  simpa using this
/-- The types that are found are parts of the second one. -/
theorem mt_size : ∀ (f : Nat) (s : List (ByteArray × T)) (a b : T) (s' : List (ByteArray × T)), mt f s a b = some s' → ∀ p ∈ s', p ∈ s ∨ tsize p.2 ≤ tsize b
  | 0, _, _, _, _, h, _, _ => by cases h
  | f + 1, s, a, b, s', h, p, hp => by
    rw [mt] at h
    by_cases hv : a.kind = 1
    · rw [if_pos hv] at h
      cases hl : lkt a.name s with
      | some t =>
        rw [hl] at h
        by_cases he : eqB t b = true
        · simp only [he, if_true, Option.some.injEq] at h
          subst h; exact .inl hp
        · simp only [he] at h; cases h
      | none =>
        rw [hl] at h
        simp only [Option.some.injEq] at h
        subst h
        rcases List.mem_append.1 hp with hp | hp
        · exact .inl hp
        · obtain rfl := List.mem_singleton.1 hp
          exact .inr (Nat.le_refl _)
    · rw [if_neg hv] at h
      by_cases hk : a.kind = b.kind ∧ a.name = b.name ∧ a.kids.length = b.kids.length
      · rw [if_pos hk] at h
        have key : ∀ (l m : List T) (s s' : List (ByteArray × T)), (∀ k ∈ m, tsize k ≤ tsize b) → mtL (mt f) s l m = some s' → ∀ p ∈ s', p ∈ s ∨ tsize p.2 ≤ tsize b := by
          intro l
          induction l with
          | nil =>
            intro m s s' _ h p hp
            have : s = s' := by simpa [mtL] using h
            subst this; exact .inl hp
          | cons x l ih =>
            intro m s s' hm h p hp
            cases m with
            | nil =>
              have : s = s' := by simpa [mtL] using h
              subst this; exact .inl hp
            | cons y m =>
              rw [mtL] at h
              cases e : mt f s x y with
              | none => rw [e] at h; cases h
              | some s1 =>
                rw [e] at h
                rcases ih m s1 s' (fun k hk => hm k (List.mem_cons_of_mem _ hk)) h p hp with h1 | h1
                · rcases mt_size f s x y s1 e p h1 with h2 | h2
                  · exact .inl h2
                  · exact .inr (Nat.le_trans h2 (hm y (by simp)))
                · exact .inr h1
        exact key a.kids b.kids s s' (fun k hk => Nat.le_of_lt (tsize_kids_le hk)) h p hp
      · rw [if_neg hk] at h; cases h
end Go.Proofs.Ytdcfemojkdoakaa
/- The document's match. -/
namespace Go.Proofs.Ytdcfemojkdoakaa
open Go.RowKit Go.Sort Go.Lib
attribute [local go_sem] Oper.semAt_some

theorem RowG.news {T : TypeId} {g : Nat} {l : List PR} {w : World} (h : RowG T g l w) : ∀ j u, (cellsP l)[j]? = some u → w.cell? ((⟨g, 0, none⟩ : Addr).add j) = some u := by
  intro j u hu
  have hj : j < l.length * 4 := by have := (List.getElem?_eq_some_iff.1 hu).1; rwa [cellsP_len] at this
  have hadd : (⟨g, 0, none⟩ : Addr).add j = ⟨g, j, none⟩ := by unfold Addr.add; split <;> simp_all
  obtain ⟨cs, h1, _, h3⟩ := h
  rw [hadd, Lib.cell_of_heap h1, row_cells (g := g) h3 rfl j hj, hu]
/-- A row with no elements in a block of its own. -/
theorem own_lit (w : World) (o : Obj) (base : Nat) (T : TypeId) (hb : base ≤ w.heap.size) : ((w.alloc o).alloc (.cells #[] T)).ownsRow base T 4 (.slice (some ⟨w.heap.size + 1, 0, none⟩) 0 0) 0 [] :=
  ⟨rfl, .inr ⟨w.heap.size + 1, 0, #[], rfl, by omega, new_two w o _, Nat.le_refl _, by unfold maxLen; omega, rfl, rfl⟩⟩
def MRes (r : Option (List (ByteArray × T))) (E : Ending) (w' : World) : Prop :=
  match r with
  | none => ∃ v, E = .returned (.tuple #[v, .bool false])
  | some s' => ∃ v q, E = .returned (.tuple #[v, .bool true]) ∧ GivenG 49 v q w' ∧ Typ q w' ∧ q.map nt = s'
theorem cell_new4'' (w : World) (o o' : Obj) (x y z u : Value) (t : TypeId) : ∀ j v, [x, y, z, u][j]? = some v → (((w.alloc o).alloc o').alloc (.cells #[x, y, z, u] t)).cell? ((⟨w.heap.size + 1 + 1, 0, none⟩ : Addr).add j) = some v := by
  have := cell_new4 ((w.alloc o).alloc o') x y z u t
  simpa using this
theorem own_lit2 (w : World) (o o' : Obj) (base : Nat) (T : TypeId) (hb : base ≤ w.heap.size) : (((w.alloc o).alloc o').alloc (.cells #[] T)).ownsRow base T 4 (.slice (some ⟨w.heap.size + 1 + 1, 0, none⟩) 0 0) 0 [] := by
  have := own_lit (w.alloc o) o' base T (by simp; omega)
  simpa using this
theorem below_3b (w : World) (o1 o2 o3 : Obj) : Below w.heap.size w (((w.alloc o1).alloc o2).alloc o3) := (below_two w o1 o2).alloc (by simp; omega) _
theorem new_3b (w : World) (o1 o2 o3 : Obj) : (((w.alloc o1).alloc o2).alloc o3).heap[w.heap.size + 1 + 1]? = some o3 := by
  have := new_two (w.alloc o1) o2 o3
  simpa using this
theorem new_mid (w : World) (o1 o2 o3 : Obj) : (((w.alloc o1).alloc o2).alloc o3).heap[w.heap.size + 1]? = some o2 :=
  (Below.heap_alloc _ _ _ (by simp)).trans (new_two w o1 o2)
theorem cell_mid4 (w : World) (o o' : Obj) (x y z u : Value) (t : TypeId) : ∀ j v, [x, y, z, u][j]? = some v → (((w.alloc o).alloc (.cells #[x, y, z, u] t)).alloc o').cell? ((⟨w.heap.size + 1, 0, none⟩ : Addr).add j) = some v := World.news_of_block (new_mid w o _ o')
theorem lit_keep {w w2 X W : World} {q a c : Nat} {L : List Value} {T : TypeId} (hw : Below w.heap.size w w2) (hx : Below w2.heap.size w2 X) (hg : X.grownBy W (Value.slice (some ⟨q, 0, none⟩) a c).ownBlock) (hq : w2.heap.size ≤ q) (ho : X.ownsRow w.heap.size T 4 (.slice (some ⟨q, 0, none⟩) a c) a L) : Below w.heap.size w W ∧ ∀ (k : Nat) (o : Obj), w2.heap[k]? = some o → W.heap[k]? = some o := by
  refine ⟨(hw.trans (hx.mono hw.size)).grown hg (Nat.le_trans hw.size hx.size) fun j hj => (ho.lt j hj).1, fun k o hk => ?_⟩
  have lk := (Array.getElem?_eq_some_iff.1 hk).1
  refine (hg.block k (Nat.lt_of_lt_of_le lk hx.size) (fun e => ?_)).trans ((hx.block k lk).trans hk)
  simp only [Value.ownBlock, Option.some.injEq] at e
  omega
theorem match_end {w W : World} {d : List PR} {x : PR} {v : Value} {k : Nat} {L : List Value} {T : TypeId} (ho : W.ownsRow w.heap.size T 4 v k L) (hk : k = d.length + 1) (hL : L = cellsP d ++ encP x) (hb : Below w.heap.size w W) (td : Typ d w) (hx : TysAt w (.slice x.a x.t.kids.length x.c) x.t.kids) : GivenG T v (d ++ [x]) W ∧ Typ (d ++ [x]) W := by
  have hkt := KeepT.of_below hb
  refine ⟨given_of_row (base := w.heap.size) ?_ (fun e => by simp at e), fun y hy => ?_⟩
  · rw [cellsP_snoc, List.length_append, ← hL]; rw [hk] at ho; exact ho
  · rcases List.mem_append.1 hy with hy | hy
    · exact (td y hy).keep hkt
    · obtain rfl := List.mem_singleton.1 hy
      exact hx.keep hkt
/-- Both boxes, behind a call. -/
theorem boxes_after {w W : World} {x0 x1 x2 y0 y1 y2 : Value} {T : TypeId} (hb : Below ((w.alloc (.cells #[x0, x1, x2] T)).alloc (.cells #[y0, y1, y2] T)).heap.size ((w.alloc (.cells #[x0, x1, x2] T)).alloc (.cells #[y0, y1, y2] T)) W) :
    W.heap[w.heap.size]? = some (.cells #[x0, x1, x2] T (0, 0)) ∧ W.heap[w.heap.size + 1]? = some (.cells #[y0, y1, y2] T (0, 0)) ∧ Below w.heap.size w W :=
  ⟨(hb.block _ (by simp; omega)).trans ((Below.heap_alloc _ _ _ (by simp)).trans (alloc_new w _)), (hb.block _ (by simp)).trans (new_two w _ _), (below_two w _ _).trans (hb.mono (by simp; omega))⟩
end Go.Proofs.Ytdcfemojkdoakaa
/- A region that draws its order, by an invariant and a mark: what holds between some of its operations alone (a row that one makes and another takes). -/
namespace Go.Proofs.Ytdcfemojkdoakaa

def updB (L : Nat → Bool) (i : Nat) : Nat → Bool := fun j => if j = i then true else L j
theorem updB_same (L : Nat → Bool) (i : Nat) : updB L i i = true := by simp [updB]
theorem updB_other (L : Nat → Bool) {i j : Nat} (h : j ≠ i) : updB L i j = L j := by simp [updB, h]

/-- What is asked of an operation that the mark speaks of. -/
structure MarkAt (P : Program) (fr : (Nat → Value) → Act) (S : World → Prop) (Vals : Nat → Value → World → Prop) (Mk : (Nat → Bool) → (Nat → Value) → World → Prop)
    (ops : Array Oper) (Q : Exit → Act → World → Prop) (i : Nat) (o : Oper) : Prop where
  back : ∀ e ∈ o.after, Region.binds .any e = true → e.on < i
  put : ∀ x v, (fr x).put o.dst v = fr (upd x i v)
  run : ∀ (L : Nat → Bool) (x : Nat → Value) (w : World), S w → (∀ j, L j = true → Vals j (x j) w) → Mk L x w → L i = false → (∀ e ∈ o.after, Region.binds .any e = true → L e.on = true) →
    ∀ K : Act → World → Prop, (∀ v w', S w' → (∀ j, L j = true → Vals j (x j) w') → Vals i v w' → Mk (updB L i) (upd x i v) w' → K ((fr x).put o.dst v) w') →
      if Region.wanted o (yielded ops (fr x).tmps) = true then Oper.wp P o (fr x) w K Q else K ((fr x).put o.dst undef) w

section
variable {P : Program} {ops : Array Oper} {Q : Exit → Act → World → Prop} {fr : (Nat → Value) → Act} {S : World → Prop} {Rel : World → World → Prop} {Vals : Nat → Value → World → Prop} {Mk : (Nat → Bool) → (Nat → Value) → World → Prop} {sp : Nat → Bool}

theorem mark_any (hput : ∀ i o, ops[i]? = some o → sp i = false → StepAt P fr S Rel Vals ops Q i o) (hmark : ∀ i o, ops[i]? = some o → sp i = true → MarkAt P fr S Vals Mk ops Q i o)
    (hrel : ∀ w w', S w → Rel w w' → S w') (hval : ∀ i v w w', S w → Vals i v w → Rel w w' → Vals i v w') (hmk : ∀ i L x v w w', sp i = false → S w → Mk L x w → Rel w w' → Mk (updB L i) (upd x i v) w')
    (hfin : ∀ L x w, S w → (∀ i, i < ops.size → L i = true ∧ Vals i (x i) w) → Mk L x w → Q .normal (fr x) w) :
    ∀ (fuel : Nat) (listed : Array Bool) (x : Nat → Value) (w : World), listed.size = ops.size → ops.size ≤ fuel + listed.toList.count true → S w →
      (∀ i, listed.getD i false = true → Vals i (x i) w) → Mk (fun i => listed.getD i false) x w → wpAny P .any ops Q fuel listed (fr x) w := by
  have hback : ∀ i o, ops[i]? = some o → ∀ e ∈ o.after, Region.binds .any e = true → e.on < i := fun i o h => by
    cases hs : sp i with
    | false => exact (hput i o h hs).back
    | true => exact (hmark i o h hs).back
  have hend : ∀ (listed : Array Bool) (x : Nat → Value) (w : World), listed.size = ops.size → S w → (∀ i, listed.getD i false = true → Vals i (x i) w) → Mk (fun i => listed.getD i false) x w →
      Region.ready .any ops listed = [] → Q .normal (fr x) w := fun listed x w hz hS hV hM h =>
    hfin _ x w hS (fun i hi => ⟨all_of_none hback hz h i hi, hV i (all_of_none hback hz h i hi)⟩) hM
  intro fuel
  induction fuel with
  | zero =>
    intro listed x w hz hc hS hV hM
    have hall : listed.toList.count true = listed.toList.length := by
      have := List.count_le_length (a := true) (l := listed.toList)
      simp at this hc ⊢; omega
    have hr : Region.ready .any ops listed = [] := by
      cases h : Region.ready .any ops listed with
      | nil => rfl
      | cons i l =>
        have hi : i ∈ Region.ready .any ops listed := by rw [h]; simp
        obtain ⟨h0, o, ho, _⟩ := mem_ready.1 hi
        have hlt : i < listed.size := by rw [hz]; exact (Array.getElem?_eq_some_iff.1 ho).1
        have := List.count_eq_length.1 hall listed[i] (by simp)
        simp [hlt] at h0
        rw [h0] at this; cases this
    exact ⟨hr, hend listed x w hz hS hV hM hr⟩
  | succ fuel ih =>
    intro listed x w hz hc hS hV hM
    refine ⟨hend listed x w hz hS hV hM, fun i hi => ?_⟩
    obtain ⟨h0, o, ho, hdep⟩ := mem_ready.1 hi
    have hlt : i < listed.size := by rw [hz]; exact (Array.getElem?_eq_some_iff.1 ho).1
    have h0' : listed[i] = false := by simpa [hlt] using h0
    have hcnt : ops.size ≤ fuel + (listed.setIfInBounds i true).toList.count true := by
      have : (listed.setIfInBounds i true).toList.count true = listed.toList.count true + 1 := by
        rw [Array.toList_setIfInBounds, List.count_set (by simpa using hlt)]
        simp [h0']
      omega
    have hL : (fun j => (listed.setIfInBounds i true).getD j false) = updB (fun j => listed.getD j false) i := by
      funext j
      by_cases e : j = i
      · subst e; rw [updB_same]; simp [hlt]
      · rw [updB_other _ e, getD_set_ne false (Ne.symm e)]
    have hVs : ∀ v w', (∀ j, listed.getD j false = true → Vals j (x j) w') → Vals i v w' → ∀ j, (listed.setIfInBounds i true).getD j false = true → Vals j (upd x i v j) w' := fun v w' h1 h2 j hj => by
      by_cases hji : j = i
      · subst hji; rw [upd_same]; exact h2
      · rw [upd_other x v hji]
        exact h1 j (by rw [getD_set_ne false (Ne.symm hji)] at hj; exact hj)
    cases hs : sp i with
    | false =>
      have H := hput i o ho hs
      have hK : ∀ v w', Rel w w' → Vals i v w' → wpAny P .any ops Q fuel (listed.setIfInBounds i true) ((fr x).put o.dst v) w' := fun v w' hr hv => by
        rw [H.put]
        exact ih _ _ _ (by simpa using hz) hcnt (hrel w w' hS hr) (hVs v w' (fun j hj => hval _ _ _ _ hS (hV j hj) hr) hv) (by rw [hL]; exact hmk i _ x v w w' hs hS hM hr)
      have := H.run x w hS (fun e he hb => hV e.on (hdep e he hb)) _ hK
      unfold wpOp
      simp only [ho]
      split
      · rename_i hw; rw [if_pos hw] at this; exact .inl this
      · rename_i hw; rw [if_neg hw] at this; exact this
    | true =>
      have H := hmark i o ho hs
      have hK : ∀ v w', S w' → (∀ j, listed.getD j false = true → Vals j (x j) w') → Vals i v w' → Mk (updB (fun j => listed.getD j false) i) (upd x i v) w' → wpAny P .any ops Q fuel (listed.setIfInBounds i true) ((fr x).put o.dst v) w' := fun v w' hS' hV' hv hM' => by
        rw [H.put]
        exact ih _ _ _ (by simpa using hz) hcnt hS' (hVs v w' hV' hv) (by rw [hL]; exact hM')
      have := H.run (fun j => listed.getD j false) x w hS hV hM (by simp [hlt, h0']) hdep _ hK
      unfold wpOp
      simp only [ho]
      split
      · rename_i hw; rw [if_pos hw] at this; exact .inl this
      · rename_i hw; rw [if_neg hw] at this; exact this

theorem region_mark (fr : (Nat → Value) → Act) (S : World → Prop) (Rel : World → World → Prop) (Vals : Nat → Value → World → Prop) (Mk : (Nat → Bool) → (Nat → Value) → World → Prop) (sp : Nat → Bool) (x0 : Nat → Value) {id : Nat} {a : Act} {w : World}
    (hm : P.follows .mixedOrders = true) (ha : a = fr x0) (hS : S w.drew) (hM : Mk (fun _ => false) x0 w.drew)
    (hrel : ∀ w w', S w → Rel w w' → S w') (hval : ∀ i v w w', S w → Vals i v w → Rel w w' → Vals i v w') (hmk : ∀ i L x v w w', sp i = false → S w → Mk L x w → Rel w w' → Mk (updB L i) (upd x i v) w')
    (hops : AllAt (fun i o => (sp i = false → StepAt P fr S Rel Vals ops Q i o) ∧ (sp i = true → MarkAt P fr S Vals Mk ops Q i o)) 0 ops.toList)
    (hfin : ∀ L x w, S w → (∀ i, i < ops.size → L i = true ∧ Vals i (x i) w) → Mk L x w → Q .normal (fr x) w) : (Code.region id ops true).wp P Q a w := by
  subst ha
  refine wp_region_any hm ?_
  have hg := fun (i : Nat) (o : Oper) (h : ops[i]? = some o) => hops.get (i := i) (o := o) (by simpa using h)
  have hnone : ∀ i, (Array.replicate ops.size false).getD i false = false := fun i => by
    by_cases h : i < ops.size
    · simp [h]
    · simp [h]
  refine mark_any (fun i o h hs => by have := (hg i o h).1 (by rwa [Nat.zero_add]); rwa [Nat.zero_add] at this) (fun i o h hs => by have := (hg i o h).2 (by rwa [Nat.zero_add]); rwa [Nat.zero_add] at this) hrel hval hmk hfin _ _ _ _ (by simp) (by simp) hS
    (fun i hi => by rw [hnone] at hi; cases hi) ?_
  rw [show (fun i => (Array.replicate ops.size false).getD i false) = fun _ => false from funext hnone]
  exact hM
end
end Go.Proofs.Ytdcfemojkdoakaa
/- The document's match: what its drawn region keeps between its operations. -/
namespace Go.Proofs.Ytdcfemojkdoakaa
open Go.RowKit Go.Sort Go.Lib
attribute [local go_sem] Oper.semAt_some

theorem own_below {w w' : World} {base : Nat} {e : TypeId} {size : Nat} {v : Value} {n : Nat} {xs : List Value} (h : w.ownsRow base e size v n xs) (hb : Below w.heap.size w w') : w'.ownsRow base e size v n xs := by
  refine ⟨h.1, ?_⟩
  rcases h.2 with h2 | ⟨g, cap, cur, rfl, hb', hg, r⟩
  · exact .inl h2
  · exact .inr ⟨g, cap, cur, rfl, hb', (hb.block g (Array.getElem?_eq_some_iff.1 hg).1).trans hg, r⟩
theorem nope {p : Prop} {c : Bool} (h : c = false) (e : c = true) : p := by rw [h] at e; cases e
theorem depL {o : Oper} {L : Nat → Bool} (h : ∀ e ∈ o.after, Region.binds .any e = true → L e.on = true) (j : Nat)
    (hj : (o.after.any fun e => Region.binds .any e && e.on == j) = true) : L j = true := by
  rw [Array.any_eq_true'] at hj
  obtain ⟨e, he, hj⟩ := hj
  simp only [Bool.and_eq_true, beq_iff_eq] at hj
  have := h e he hj.1
  rw [hj.2] at this; exact this
theorem grown_refl (w : World) (r : Option Nat) : w.grownBy w r := ⟨rfl, rfl, rfl, Nat.le_refl _, fun _ _ _ => rfl⟩
/-- Nothing is appended. -/
theorem step_append_none {P : Program} (w : World) {ops : Array Oper} {o : Oper} {a : Act} {K : Act → World → Prop} {Q : Exit → Act → World → Prop} {E : Prop} (hgd : o.guard = none) (s x : Operand) (t : TypeId)
    (ho : o.op = .call { callee := .builtin .append, args := #[s, x], argTypes := #[t, t] }) (e : TypeId) (i : TypeInfo) (ht : P.underlying t = some (.slice e)) (hi : P.info? e = some i)
    (g : Addr) (n c : Nat) (hs : a.eval s = .slice (some g) n c) (hle : n ≤ c) (hx : a.eval x = .slice none 0 0) (h : K (a.put o.dst (.slice (some g) n c)) w) :
    if Region.wanted o (yielded ops a.tmps) = true then Oper.wp P o a w K Q else E := by
  have hw : Region.wanted o (yielded ops a.tmps) = true := by simp [Region.wanted, hgd]
  rw [if_pos hw]
  have hr : (Builtin.append_ #[t, t] o.type #[.slice (some g) n c, .slice none 0 0]).run P w = .ok (.slice (some g) n c) w := by
    simp [Builtin.append_, run_underlying ht, sizeOf, typeInfo, hi, hle, storeCells, go_sem]
  unfold Oper.wp execOp
  simp only [ho, resolve, invoke, builtin, Sem.run_bind, Sem.run_pure, Result.andThen_ok, List.map_toArray, List.map_cons, List.map_nil, hs, hx, hr]
  exact h
abbrev prV (x : PR) : Array Value := #[.string x.n, .int .i64 x.t.kind, .string x.t.name, .slice x.a x.t.kids.length x.c]
/-- Rows that one operation makes and another takes: 0 an empty one, 2 a copy, 7 a row of one pair, 8 both. -/
structure MtK (b : Nat) (T : TypeId) (ds : List PR) (pr : PR) (L : Nat → Bool) (x : Nat → Value) (V : World) : Prop where
  l2 : L 2 = true → L 0 = true
  l8 : L 8 = true → L 2 = true ∧ L 7 = true
  l9 : L 9 = true → L 8 = true
  o0 : L 0 = true → L 2 = false → V.ownsRow b T 4 (x 0) 0 []
  o2 : L 2 = true → L 8 = false → V.ownsRow b T 4 (x 2) ds.length (cellsP ds)
  r7 : L 7 = true → L 8 = false → ∃ zb, x 7 = .slice (some ⟨zb, 0, none⟩) 1 1 ∧ V.heap[zb]? = some (.cells (prV pr) T (0, 0)) ∧ (L 0 = true → L 2 = false → (x 0).ownBlock ≠ some zb) ∧ (L 2 = true → (x 2).ownBlock ≠ some zb)
section
variable {b : Nat} {T : TypeId} {ds : List PR} {pr : PR} {L : Nat → Bool} {x : Nat → Value} {V Y : World}
theorem MtK.start (b : Nat) (T : TypeId) (ds : List PR) (pr : PR) (x : Nat → Value) (V : World) : MtK b T ds pr (fun _ => false) x V :=
  ⟨(fun h => nomatch h), (fun h => nomatch h), (fun h => nomatch h), (fun h => nomatch h), (fun h => nomatch h), (fun h => nomatch h)⟩
theorem MtK.below (h : MtK b T ds pr L x V) (hb : Below V.heap.size V Y) : MtK b T ds pr L x Y := by
  refine ⟨h.l2, h.l8, h.l9, fun h0 h2 => own_below (h.o0 h0 h2) hb, fun h2 h8 => own_below (h.o2 h2 h8) hb, fun h7 h8 => ?_⟩
  obtain ⟨zb, e, hz, r⟩ := h.r7 h7 h8
  exact ⟨zb, e, (hb.block zb (Array.getElem?_eq_some_iff.1 hz).1).trans hz, r⟩
/-- Any other operation. -/
theorem MtK.keep (h : MtK b T ds pr L x V) (hb : Below V.heap.size V Y) {i : Nat} (hi : (i == 0 || i == 2 || i == 7 || i == 8 || i == 9) = false) (v : Value) : MtK b T ds pr (updB L i) (upd x i v) Y := by
  simp only [Bool.or_eq_false_iff, beq_eq_false_iff_ne, ne_eq] at hi
  obtain ⟨⟨⟨⟨i0, i2⟩, i7⟩, i8⟩, i9⟩ := hi
  have h := h.below hb
  have e0 := updB_other L (Ne.symm i0); have e2 := updB_other L (Ne.symm i2); have e7 := updB_other L (Ne.symm i7); have e8 := updB_other L (Ne.symm i8); have e9 := updB_other L (Ne.symm i9)
  have f0 := upd_other x v (Ne.symm i0); have f2 := upd_other x v (Ne.symm i2); have f7 := upd_other x v (Ne.symm i7)
  refine ⟨?_, ?_, ?_, ?_, ?_, ?_⟩ <;> simp only [e0, e2, e7, e8, e9, f0, f2, f7]
  · exact h.l2
  · exact h.l8
  · exact h.l9
  · exact h.o0
  · exact h.o2
  · exact h.r7
theorem MtK.no2 (h : MtK b T ds pr L x V) (h0 : L 0 = false) : L 2 = false := by
  cases e : L 2 with
  | false => rfl
  | true => have := h.l2 e; rw [h0] at this; cases this
theorem MtK.no8 (h : MtK b T ds pr L x V) (h2 : L 2 = false ∨ L 7 = false) : L 8 = false := by
  cases e : L 8 with
  | false => rfl
  | true =>
    obtain ⟨a1, a2⟩ := h.l8 e
    rcases h2 with h2 | h2
    · rw [h2] at a1; cases a1
    · rw [h2] at a2; cases a2
theorem MtK.no9 (h : MtK b T ds pr L x V) (h8 : L 8 = false) : L 9 = false := by
  cases e : L 9 with
  | false => rfl
  | true => have := h.l9 e; rw [h8] at this; cases this
/-- An empty row is made. -/
theorem MtK.lit (h : MtK b T ds pr L x V) (h0 : L 0 = false) (hb : b ≤ V.heap.size) : MtK b T ds pr (updB L 0) (upd x 0 (.slice (some ⟨V.heap.size, 0, none⟩) 0 0)) (V.alloc (.cells #[] T)) := by
  have h2 := h.no2 h0
  have h8 := h.no8 (.inl h2)
  have h9 := h.no9 h8
  have hk := h.below ((Below.refl _ V).alloc (Nat.le_refl _) (.cells #[] T))
  have e2 : updB L 0 2 = false := h2; have e7 : updB L 0 7 = L 7 := rfl; have e8 : updB L 0 8 = false := h8; have e9 : updB L 0 9 = false := h9
  refine ⟨fun e => nope e2 e, fun e => nope e8 e, fun e => nope e9 e, fun _ _ => ?_, fun e => nope e2 e, fun h7 _ => ?_⟩
  · exact ⟨rfl, .inr ⟨V.heap.size, 0, #[], rfl, hb, alloc_new V _, Nat.le_refl _, by unfold maxLen; omega, rfl, rfl⟩⟩
  · obtain ⟨zb, e, hz, _⟩ := h.r7 h7 h8
    obtain ⟨zb', e', hz', _⟩ := hk.r7 h7 h8
    have : zb = zb' := by rw [e] at e'; injection e' with q; injection q with q; injection q
    subst this
    refine ⟨zb, e, hz', fun _ _ eq => ?_, fun e => nope e2 e⟩
    have : V.heap.size = zb := by simpa [upd, Value.ownBlock] using eq
    have := (Array.getElem?_eq_some_iff.1 hz).1
    omega
/-- A row of one pair is made. -/
theorem MtK.one (h : MtK b T ds pr L x V) (h7 : L 7 = false) : MtK b T ds pr (updB L 7) (upd x 7 (.slice (some ⟨V.heap.size, 0, none⟩) 1 1)) (V.alloc (.cells (prV pr) T)) := by
  have h8 := h.no8 (.inr h7)
  have h9 := h.no9 h8
  have hk := h.below ((Below.refl _ V).alloc (Nat.le_refl _) (.cells (prV pr) T))
  refine ⟨h.l2, fun e => nope (c := updB L 7 8) h8 e, fun e => nope (c := updB L 7 9) h9 e, hk.o0, hk.o2, fun _ _ => ?_⟩
  refine ⟨V.heap.size, rfl, alloc_new V _, fun e0 e2 eq => ?_, fun e2 eq => ?_⟩
  · have := ((h.o0 e0 e2).lt V.heap.size eq).2; omega
  · have := ((h.o2 e2 h8).lt V.heap.size eq).2; omega
/-- The copy. -/
theorem MtK.app (h : MtK b T ds pr L x V) (h2 : L 2 = false) (h0 : L 0 = true) {g c : Nat} (ho : Y.ownsRow b T 4 (.slice (some ⟨g, 0, none⟩) ds.length c) ds.length (cellsP ds)) (hg : V.grownBy Y (x 0).ownBlock) (hat : (x 0).ownBlock = some g ∨ g = V.heap.size) :
    MtK b T ds pr (updB L 2) (upd x 2 (.slice (some ⟨g, 0, none⟩) ds.length c)) Y := by
  have h8 := h.no8 (.inl h2)
  have h9 := h.no9 h8
  refine ⟨fun _ => h0, fun e => nope (c := updB L 2 8) h8 e, fun e => nope (c := updB L 2 9) h9 e, fun _ e => nope e (updB_same _ _), fun _ _ => ho, fun h7 _ => ?_⟩
  obtain ⟨zb, e, hz, hn, _⟩ := h.r7 h7 h8
  have hl := (Array.getElem?_eq_some_iff.1 hz).1
  refine ⟨zb, e, (hg.block zb hl (Ne.symm (hn h0 h2))).trans hz, fun _ e => nope e (updB_same _ _), fun _ eq => ?_⟩
  have eg : g = zb := by simpa [upd, Value.ownBlock] using eq
  subst eg
  rcases hat with hat | hat
  · exact hn h0 h2 hat
  · omega
/-- Both in one. -/
theorem MtK.last (h : MtK b T ds pr L x V) (h2 : L 2 = true) (h7 : L 7 = true) (h8 : L 8 = false) (v : Value) (Y : World) : MtK b T ds pr (updB L 8) (upd x 8 v) Y := by
  have h9 := h.no9 h8
  refine ⟨h.l2, fun _ => ⟨h2, h7⟩, fun e => nope (c := updB L 8 9) h9 e, fun _ e => ?_, fun _ e => nope e (updB_same _ _), fun _ e => nope e (updB_same _ _)⟩
  rw [show updB L 8 2 = L 2 from rfl, h2] at e; cases e
theorem MtK.asn (h : MtK b T ds pr L x V) (h8 : L 8 = true) (v : Value) : MtK b T ds pr (updB L 9) (upd x 9 v) V :=
  ⟨h.l2, h.l8, fun _ => h8, h.o0, h.o2, h.r7⟩
end
end Go.Proofs.Ytdcfemojkdoakaa
/- A map of numbers by texts, in memory. -/
namespace Go.Proofs.Ytdcfemojkdoakaa
open Go.RowKit Go.Maps
attribute [local go_sem] Oper.semAt_some
/-- Block M is a map that tells each variable's place. -/
def MapV (M m : Nat) (f : ByteArray → Option Nat) (w : World) : Prop := ∃ D : DataW Unit, IsMap D ∧ w.ownsMap Try.prog 9 (plainElem Try.prog 3) M m D ∧
  ∀ n : ByteArray, n.size ≤ maxLen → Maps.has D (.string n.data.toList) = (f n).isSome ∧ D.atKey (.string n.data.toList) (.lit (.int .i64 0)) = .lit (.int .i64 ((f n).getD 0 : Nat))
theorem MapV.kept {M m : Nat} {f : ByteArray → Option Nat} {w w' : World} {row : Option Nat} (h : MapV M m f w) (hg : w.grownBy w' row) (hne : some M ≠ row) : MapV M m f w' := by
  obtain ⟨D, hD, h1, h2⟩ := h
  exact ⟨D, hD, h1.kept hg hne, h2⟩
theorem MapV.lt {M m : Nat} {f : ByteArray → Option Nat} {w : World} (h : MapV M m f w) : M < w.heap.size := by
  obtain ⟨_, _, h1, _⟩ := h; exact h1.lt
theorem MapV.look {M m : Nat} {f : ByteArray → Option Nat} {w : World} (h : MapV M m f w) (n : ByteArray) (hn : n.size ≤ maxLen) :
    (Instr.lookup 53 (.map (some M)) (.string n) true).run Try.prog w = .ok (.tuple #[.int .i64 ((f n).getD 0 : Nat), .bool (f n).isSome]) w := by
  obtain ⟨D, _, h1, h2⟩ := h
  obtain ⟨v, ps, hrun, hv⟩ := h1.look_ok strLaw Try.underlying53 (zeroInt w) (plainElem_int Try.underlying3 (by decide)) (Go.WideMaps.keyOf_string_mk Try.underlying9 hn)
  obtain ⟨c, rfl, hc, _⟩ := plainElem_int_inv Try.underlying3 hv
  have e : D.atKey (.string n.data.toList) (.lit (.int .i64 0)) = .lit (.int .i64 c) := congrArg Prod.fst hc
  rw [(h2 n hn).2] at e
  cases e
  rw [hrun, (h2 n hn).1]
theorem MapV.upd {M m : Nat} {f g : ByteArray → Option Nat} {w : World} (h : MapV M m f w) (hm : m < maxLen) (n : ByteArray) (hn : n.size ≤ maxLen) (x : Nat) (hx : x ≤ 4000000000000) (hg : ∀ k, g k = if k = n then some x else f k) :
    ∃ w', (Instr.mapUpdate 53 (.map (some M)) (.string n) (.int .i64 (x : Int))).run Try.prog w = .ok () w' ∧ MapV M (m + 1) g w' ∧ w.grownBy w' (some M) := by
  obtain ⟨D, hD, h1, h2⟩ := h
  obtain ⟨w', hrun, h3, h4⟩ := h1.update strLaw Try.underlying53 hm (Go.WideMaps.keyOf_string_mk Try.underlying9 hn) (plainElem_int Try.underlying3 (WalkArith.wf_i64 (n := (x : Int)) (by omega)))
  refine ⟨w', hrun, ⟨_, hD.put _ _, h3, fun k hk => ?_⟩, h4⟩
  rw [hg]
  by_cases e : k = n
  · subst e
    rw [atKey_put_same hD (by trivial), has_put_same hD (by trivial)]
    simp
  · have e2 : (Lit.string k.data.toList) ≠ .string n.data.toList := by
      intro e'
      apply e
      have : k.data.toList = n.data.toList := by injection e'
      cases k; cases n; simp_all
    rw [atKey_put_other e2, has_put_other e2, if_neg e]
    exact h2 k hk
theorem MapV.ne {M m k : Nat} {f : ByteArray → Option Nat} {w : World} {cs : Array Value} {T : TypeId} {fz : Nat × Nat} (h : MapV M m f w) (hk : w.heap[k]? = some (.cells cs T fz)) : M ≠ k := by
  rintro rfl
  obtain ⟨_, _, ⟨es, clock, hh, _⟩, _⟩ := h
  rw [hk] at hh; cases hh
theorem MapV.mono {M m m' : Nat} {f : ByteArray → Option Nat} {w : World} (h : MapV M m f w) (hm : m ≤ m') : MapV M m' f w := by
  obtain ⟨D, hD, h1, h2⟩ := h
  exact ⟨D, hD, h1.mono hm, h2⟩
theorem MapV.start (w : World) : MapV w.heap.size 0 (fun _ => none) (w.alloc (.map #[] 0)) :=
  ⟨.map [], ⟨[], rfl⟩, World.ownsMap_made (H := Unit) w Try.prog 9 (plainElem Try.prog 3), fun _ _ => ⟨rfl, rfl⟩⟩
end Go.Proofs.Ytdcfemojkdoakaa
/- The program's matcher in memory. -/
namespace Go.Proofs.Ytdcfemojkdoakaa
open Go.RowKit Go.Maps Go.Sort Go.Lib
attribute [local go_sem] Oper.semAt_some

abbrev mp (g : Nat) : Value := .pointer (some ⟨g, 0, none⟩)
/-- The places of the pairs' names. -/
def PlP (d : List PR) (f : ByteArray → Option Nat) : Prop := ∀ n, (∀ i, f n = some i → i < d.length ∧ (d.getD i noP).n = n) ∧ (f n = none → ∀ x ∈ d, x.n ≠ n)
theorem plp_nil : PlP [] (fun _ => none) := fun _ => ⟨fun _ e => (nomatch e), fun _ _ hx => (nomatch hx)⟩
theorem plp_snoc {d : List PR} {f f' : ByteArray → Option Nat} (h : PlP d f) (x : PR) (hf : ∀ k, f' k = if k = x.n then some d.length else f k) : PlP (d ++ [x]) f' := by
  intro k
  rw [hf]
  refine ⟨fun i e => ?_, fun e y hy => ?_⟩
  · by_cases hk : k = x.n
    · subst hk
      rw [if_pos rfl] at e
      cases e
      exact ⟨by simp, by simp [List.getD]⟩
    · rw [if_neg hk] at e
      obtain ⟨h1, h2⟩ := (h k).1 i e
      refine ⟨by simp; omega, ?_⟩
      rw [← h2]
      simp [List.getD, List.getElem?_append_left h1]
  · by_cases hk : k = x.n
    · rw [if_pos hk] at e; cases e
    · rw [if_neg hk] at e
      rcases List.mem_append.1 hy with hy | hy
      · exact (h k).2 e y hy
      · obtain rfl := List.mem_singleton.1 hy
        exact fun e => hk e.symm
theorem lk_at {d : List PR} (hn : (d.map PR.n).Nodup) {i : Nat} (hi : i < d.length) : lk (d.getD i noP).n d = some (d.getD i noP) := by
  refine lk_ahead _ d i hi (fun j hj e => ?_) rfl
  have hji : j < d.length := by omega
  have e1 : (d.map PR.n)[j]'(by simpa using hji) = (d.map PR.n)[i]'(by simpa using hi) := by
    rw [List.getElem_map, List.getElem_map]
    simpa [List.getD, hji, hi] using e
  exact (List.pairwise_iff_getElem.1 hn) j i (by simpa using hji) (by simpa using hi) hj e1
theorem plp_lk {d : List PR} {f : ByteArray → Option Nat} (h : PlP d f) (hn : (d.map PR.n).Nodup) (n : ByteArray) : (∀ i, f n = some i → lk n d = some (d.getD i noP)) ∧ (f n = none → lk n d = none) := by
  refine ⟨fun i e => ?_, fun e => ?_⟩
  · obtain ⟨h1, h2⟩ := (h n).1 i e
    rw [← h2]; exact lk_at hn h1
  · exact lk_none n d fun j hj => (h n).2 e _ (by simp [List.getD, hj])
/-- A matcher: its pairs so far. -/
structure MM (B g mb : Nat) (d : List PR) (w : World) : Prop where
  lo : B ≤ g ∧ B ≤ mb
  top : ∃ pv, w.heap[g]? = some (.cells #[pv, .map (some mb)] 55 (0, 0)) ∧ w.ownsRow B 60 4 pv d.length (cellsP d) ∧ (d = [] → pv = .slice none 0 0)
  map : ∃ f, MapV mb d.length f w ∧ PlP d f
  typ : Typ d w
  one : (d.map PR.n).Nodup
  fits : ∀ x ∈ d, Fits x.t
theorem grown_below {w w' : World} (hb : Below w.heap.size w w') : w.grownBy w' none := ⟨hb.os, hb.tape, hb.output, hb.size, fun i hi _ => hb.block i hi⟩
theorem own_belowM {w w' : World} {base : Nat} {e : TypeId} {size : Nat} {v : Value} {n : Nat} {xs : List Value} (h : w.ownsRow base e size v n xs) (hb : Below w.heap.size w w') : w'.ownsRow base e size v n xs := own_below h hb
theorem MM.below {B g mb : Nat} {d : List PR} {w w' : World} (h : MM B g mb d w) (hb : Below w.heap.size w w') : MM B g mb d w' := by
  obtain ⟨h1, ⟨pv, h2, h3, h4⟩, ⟨f, h5, h6⟩, h7, h8, h9⟩ := h
  exact ⟨h1, ⟨pv, (hb.block g (Array.getElem?_eq_some_iff.1 h2).1).trans h2, own_below h3 hb, h4⟩, ⟨f, h5.kept (row := none) ⟨hb.os, hb.tape, hb.output, hb.size, fun i hi _ => hb.block i hi⟩ (by simp), h6⟩, h7.keep (KeepT.of_below hb), h8, h9⟩
/-- Rows of other kinds stay. -/
def KeepM (w w' : World) : Prop := ∀ (k : Nat) (cs : Array Value) (T : TypeId) (fz : Nat × Nat), w.heap[k]? = some (.cells cs T fz) → T ≠ 55 → T ≠ 60 → w'.heap[k]? = some (.cells cs T fz)
theorem KeepM.refl (w : World) : KeepM w w := fun _ _ _ _ h _ _ => h
theorem KeepM.trans {a b c : World} (h : KeepM a b) (k : KeepM b c) : KeepM a c := fun i cs T fz hi h1 h2 => k i cs T fz (h i cs T fz hi h1 h2) h1 h2
theorem KeepM.of_below {w w' : World} (h : Below w.heap.size w w') : KeepM w w' := fun k _ _ _ hk _ _ => (h.block k (Array.getElem?_eq_some_iff.1 hk).1).trans hk
theorem KeepM.tys {w w' : World} (h : KeepM w w') : KeepT w w' := fun _ _ _ hk => h _ _ _ _ hk (by decide) (by decide)
/-- What become's last drawn region keeps of the world at its beginning. -/
def BcS (b g : Nat) (pv : Value) (w V : World) : Prop := Below b w V ∧ ∀ k, k < w.heap.size → k ≠ g → pv.ownBlock ≠ some k → V.heap[k]? = w.heap[k]?
theorem BcS.refl (b g : Nat) (pv : Value) (w : World) : BcS b g pv w w := ⟨Below.refl _ _, fun _ _ _ _ => rfl⟩
theorem BcS.below {b g : Nat} {pv : Value} {w V Y : World} (h : BcS b g pv w V) (hb : Below V.heap.size V Y) (hbV : b ≤ V.heap.size) : BcS b g pv w Y :=
  ⟨h.1.trans (hb.mono hbV), fun k hk h1 h2 => (hb.block k (by have := h.1.size; omega)).trans (h.2 k hk h1 h2)⟩
theorem BcS.grown {b g : Nat} {pv : Value} {w V Y : World} (h : BcS b g pv w V) (hg : V.grownBy Y pv.ownBlock) (hb : ∀ j, pv.ownBlock = some j → b ≤ j) (hbw : b ≤ w.heap.size) : BcS b g pv w Y := by
  refine ⟨h.1.trans ⟨hg.os, hg.tape, hg.output, hg.size, fun k hk => hg.block k (by have := h.1.size; omega) fun e => ?_⟩, fun k hk h1 h2 => (hg.block k (by have := h.1.size; omega) (Ne.symm h2)).trans (h.2 k hk h1 h2)⟩
  have := hb k e.symm; omega
theorem BcS.set {b g : Nat} {pv : Value} {w V : World} (h : BcS b g pv w V) (hb : b ≤ g) (v : Value) : BcS b g pv w (V.setCell ⟨g, 0, none⟩ v) :=
  ⟨h.1.setCell (p := ⟨g, 0, none⟩) hb v, fun k hk h1 h2 => (Below.heap_setCell _ ⟨g, 0, none⟩ _ k h1).trans (h.2 k hk h1 h2)⟩
/-- Rows that one operation of it makes and another takes. -/
structure BcK (b : Nat) (ds : List PR) (pr : PR) (pv : Value) (g mb : Nat) (L : Nat → Bool) (x : Nat → Value) (V : World) : Prop where
  l9 : L 9 = true → L 8 = true ∧ L 4 = true
  l12 : L 12 = true → L 9 = true
  own : L 9 = false → V.ownsRow b 60 4 pv ds.length (cellsP ds)
  r8 : L 8 = true → L 9 = false → ∃ zb, x 8 = .slice (some ⟨zb, 0, none⟩) 1 1 ∧ V.heap[zb]? = some (.cells (prV pr) 60 (0, 0)) ∧ pv.ownBlock ≠ some zb
  new : L 9 = true → ∃ zg zc, x 9 = .slice (some ⟨zg, 0, none⟩) (ds.length + 1) zc ∧ V.ownsRow b 60 4 (.slice (some ⟨zg, 0, none⟩) (ds.length + 1) zc) (ds.length + 1) (cellsP ds ++ encP pr)
  top : L 12 = false → V.heap[g]? = some (.cells #[pv, .map (some mb)] 55 (0, 0))
  fin : L 12 = true → V.heap[g]? = some (.cells #[x 9, .map (some mb)] 55 (0, 0))
section
variable {b : Nat} {ds : List PR} {pr : PR} {pv : Value} {g mb : Nat} {L : Nat → Bool} {x : Nat → Value} {V Y : World}
theorem BcK.start (h1 : V.ownsRow b 60 4 pv ds.length (cellsP ds)) (h2 : V.heap[g]? = some (.cells #[pv, .map (some mb)] 55 (0, 0))) : BcK b ds pr pv g mb (fun _ => false) x V :=
  ⟨(fun h => nomatch h), (fun h => nomatch h), fun _ => h1, (fun h => nomatch h), (fun h => nomatch h), fun _ => h2, (fun h => nomatch h)⟩
theorem BcK.below (h : BcK b ds pr pv g mb L x V) (hb : Below V.heap.size V Y) : BcK b ds pr pv g mb L x Y := by
  have hk : ∀ {k : Nat} {o : Obj}, V.heap[k]? = some o → Y.heap[k]? = some o := fun hk => (hb.block _ (Array.getElem?_eq_some_iff.1 hk).1).trans hk
  refine ⟨h.l9, h.l12, fun e => own_below (h.own e) hb, fun h8 h9 => ?_, fun h9 => ?_, fun e => hk (h.top e), fun e => hk (h.fin e)⟩
  · obtain ⟨zb, e, hz, r⟩ := h.r8 h8 h9
    exact ⟨zb, e, hk hz, r⟩
  · obtain ⟨zg, zc, e, r⟩ := h.new h9
    exact ⟨zg, zc, e, own_below r hb⟩
theorem BcK.keep (h : BcK b ds pr pv g mb L x V) (hb : Below V.heap.size V Y) {i : Nat} (hi : (i == 4 || i == 8 || i == 9 || i == 12) = false) (v : Value) : BcK b ds pr pv g mb (updB L i) (upd x i v) Y := by
  simp only [Bool.or_eq_false_iff, beq_eq_false_iff_ne, ne_eq] at hi
  obtain ⟨⟨⟨i4, i8⟩, i9⟩, i12⟩ := hi
  have h := h.below hb
  have e4 := updB_other L (Ne.symm i4); have e8 := updB_other L (Ne.symm i8); have e9 := updB_other L (Ne.symm i9); have e12 := updB_other L (Ne.symm i12)
  have f8 := upd_other x v (Ne.symm i8); have f9 := upd_other x v (Ne.symm i9)
  refine ⟨?_, ?_, ?_, ?_, ?_, ?_, ?_⟩ <;> simp only [e4, e8, e9, e12, f8, f9]
  · exact h.l9
  · exact h.l12
  · exact h.own
  · exact h.r8
  · exact h.new
  · exact h.top
  · exact h.fin
theorem BcK.no9 (h : BcK b ds pr pv g mb L x V) (h2 : L 8 = false ∨ L 4 = false) : L 9 = false := by
  cases e : L 9 with
  | false => rfl
  | true =>
    obtain ⟨a1, a2⟩ := h.l9 e
    rcases h2 with h2 | h2
    · rw [h2] at a1; cases a1
    · rw [h2] at a2; cases a2
theorem BcK.no12 (h : BcK b ds pr pv g mb L x V) (h9 : L 9 = false) : L 12 = false := by
  cases e : L 12 with
  | false => rfl
  | true => have := h.l12 e; rw [h9] at this; cases this
theorem BcK.ld (h : BcK b ds pr pv g mb L x V) (v : Value) : BcK b ds pr pv g mb (updB L 4) (upd x 4 v) V :=
  ⟨fun e => ⟨(h.l9 e).1, rfl⟩, h.l12, h.own, h.r8, h.new, h.top, h.fin⟩
theorem BcK.row (h : BcK b ds pr pv g mb L x V) (h8 : L 8 = false) : BcK b ds pr pv g mb (updB L 8) (upd x 8 (.slice (some ⟨V.heap.size, 0, none⟩) 1 1)) (V.alloc (.cells (prV pr) 60)) := by
  have h9 := h.no9 (.inl h8)
  have h12 := h.no12 h9
  have hk := h.below (below_a V (.cells (prV pr) 60))
  refine ⟨fun e => nope (c := updB L 8 9) h9 e, h.l12, hk.own, fun _ _ => ⟨V.heap.size, rfl, alloc_new V _, fun e => ?_⟩, fun e => nope (c := updB L 8 9) h9 e, hk.top, fun e => nope (c := updB L 8 12) h12 e⟩
  have := ((h.own h9).lt V.heap.size e).2; omega
theorem BcK.app (h : BcK b ds pr pv g mb L x V) (h9 : L 9 = false) (h8 : L 8 = true) (h4 : L 4 = true) {zg zc : Nat} (ho : Y.ownsRow b 60 4 (.slice (some ⟨zg, 0, none⟩) (ds.length + 1) zc) (ds.length + 1) (cellsP ds ++ encP pr)) (hg : V.grownBy Y pv.ownBlock) :
    BcK b ds pr pv g mb (updB L 9) (upd x 9 (.slice (some ⟨zg, 0, none⟩) (ds.length + 1) zc)) Y := by
  have h12 := h.no12 h9
  refine ⟨fun _ => ⟨h8, h4⟩, fun e => nope (c := updB L 9 12) h12 e, fun e => nope e (updB_same _ _), fun _ e => nope e (updB_same _ _), fun _ => ⟨zg, zc, rfl, ho⟩, fun _ => ?_, fun e => nope (c := updB L 9 12) h12 e⟩
  have ht := h.top h12
  refine (hg.block g (Array.getElem?_eq_some_iff.1 ht).1 fun e => ?_).trans ht
  rcases (h.own h9).2 with ⟨e', _⟩ | ⟨q, cap, cur, e', _, hq, _⟩
  · rw [e'] at e; cases e
  · rw [e'] at e
    obtain rfl : g = q := by simpa [Value.ownBlock] using e
    rw [ht] at hq; cases hq
theorem BcK.put (h : BcK b ds pr pv g mb L x V) (h12 : L 12 = false) (h9 : L 9 = true) (v : Value) : BcK b ds pr pv g mb (updB L 12) (upd x 12 v) (V.setCell ⟨g, 0, none⟩ (x 9)) := by
  have ht := h.top h12
  obtain ⟨zg, zc, e, r⟩ := h.new h9
  have hne : (Value.slice (some ⟨zg, 0, none⟩) (ds.length + 1) zc).ownBlock ≠ some g := fun e' => by
    obtain rfl : zg = g := by simpa [Value.ownBlock] using e'
    rcases r.2 with ⟨e', _⟩ | ⟨q, cap, cur, e', _, hq, _⟩
    · cases e'
    · cases e'; rw [ht] at hq; cases hq
  refine ⟨h.l9, fun _ => h9, fun e' => nope e' h9, fun _ e' => nope e' h9, fun _ => ⟨zg, zc, e, ?_⟩, fun e' => nope e' (updB_same _ _), fun _ => ?_⟩
  · exact r.kept (grownBy_setCell' V g (x 9)) (.inr hne)
  · have := blk_set (o := 0) ht (x 9)
    simpa [upd] using this
end
/-- A new matcher. -/
theorem newMatcher_any (w : World) : Calls Try.prog 15 #[] w fun e w' => (∃ g mb, e = .returned (mp g) ∧ MM w.heap.size g mb [] w') ∧ Below w.heap.size w w' := by
  have hmm : ∀ W : World, (Instr.makeMap 53 none).run Try.prog W = .ok (.map (some W.heap.size)) (W.alloc (.map #[] 0)) := fun _ => rfl
  go_enter Try.func15, Try.ntmps15
  go_wp2
  go_ret
  have hb := below_two w (.map #[] 0) (.cells #[.slice none 0 0, .map (some w.heap.size)] 55)
  refine ⟨⟨w.heap.size + 1, w.heap.size, rfl, ⟨by omega, Nat.le_refl _⟩, ⟨_, new_two w _ _, ⟨rfl, .inl ⟨rfl, rfl⟩⟩, fun _ => rfl⟩, ⟨fun _ => none, (MapV.start w).kept (row := none) (grown_below (below_a _ _)) (by simp), plp_nil⟩, (fun _ hx => nomatch hx), List.nodup_nil, (fun _ hx => nomatch hx)⟩, hb⟩
end Go.Proofs.Ytdcfemojkdoakaa
/- The law's pairs (MatchCases): what their drawn region keeps between its operations. -/
namespace Go.Proofs.Ytdcfemojkdoakaa
open Go.RowKit Go.Maps Go.Sort Go.Lib
attribute [local go_sem] Oper.semAt_some

/-- What a round may touch: its numbers, and its own row. -/
def BxS (B p : Nat) (ov : Value) (w V : World) : Prop := Below B w V ∧ ∀ k o, w.heap[k]? = some o → k ≠ p → ov.ownBlock ≠ some k → V.heap[k]? = some o
theorem BxS.refl (B p : Nat) (ov : Value) (w : World) : BxS B p ov w w := ⟨Below.refl _ _, fun _ _ h _ _ => h⟩
theorem BxS.trans {B p : Nat} {ov : Value} {x y z : World} (h : BxS B p ov x y) (k : BxS B p ov y z) : BxS B p ov x z := ⟨h.1.trans k.1, fun i o hi h1 h2 => k.2 i o (h.2 i o hi h1 h2) h1 h2⟩
theorem BxS.of_below {B p : Nat} {ov : Value} {w V : World} (h : Below w.heap.size w V) (hB : B ≤ w.heap.size) : BxS B p ov w V := ⟨h.mono hB, fun k _ hk _ _ => (h.block k (Array.getElem?_eq_some_iff.1 hk).1).trans hk⟩
theorem BxS.of_mk {B p : Nat} {ov : Value} {w V : World} (h : MkFr B p w V) : BxS B p ov w V := ⟨h.1, fun k o hk h1 _ => h.2 k o hk h1⟩
theorem BxS.of_grown {B p : Nat} {ov : Value} {w V : World} (h : w.grownBy V ov.ownBlock) (hB : B ≤ w.heap.size) (hr : ∀ k, ov.ownBlock = some k → B ≤ k) : BxS B p ov w V :=
  ⟨⟨h.os, h.tape, h.output, h.size, fun k hk => h.block k (by omega) fun e => by have := hr k e.symm; omega⟩, fun k o hk _ h2 => (h.block k (Array.getElem?_eq_some_iff.1 hk).1 (Ne.symm h2)).trans hk⟩
/-- Rows that one operation makes and another takes: 6 a type, 7 a pair, 8 a row of one pair, 9 the row. -/
structure ByK (B b p : Nat) (a : Option Addr) (n c k : Nat) (ds : List PR) (ov : Value) (nm : ByteArray) (pr : PR) (L : Nat → Bool) (x : Nat → Value) (V : World) : Prop where
  l7 : L 7 = true → L 6 = true
  l8 : L 8 = true → L 7 = true
  l9 : L 9 = true → L 8 = true
  l10 : L 10 = true → L 9 = true
  l0 : L 9 = true → L 0 = true
  a0 : L 10 = false → x 10 = ov
  s0 : L 6 = false → SeqAt B p a n c k V
  s1 : L 6 = true → (pr.n = nm ∧ T.Good pr.t ∧ Fits pr.t ∧ (T.text pr.t).length + 10 ≤ 56) ∧ x 6 = .agg #[.int .i64 pr.t.kind, .string pr.t.name, .slice pr.a pr.t.kids.length pr.c] ∧ (∃ k', k' + 1 ≤ k + 8 ∧ SeqAt B p a n c k' V) ∧ TysAt V (.slice pr.a pr.t.kids.length pr.c) pr.t.kids
  s7 : L 7 = true → x 7 = .agg #[.string pr.n, .int .i64 pr.t.kind, .string pr.t.name, .slice pr.a pr.t.kids.length pr.c]
  own : L 9 = false → V.ownsRow b 49 4 ov ds.length (cellsP ds)
  r8 : L 8 = true → L 9 = false → ∃ zb, x 8 = .slice (some ⟨zb, 0, none⟩) 1 1 ∧ V.heap[zb]? = some (.cells (prV pr) 49 (0, 0)) ∧ ov.ownBlock ≠ some zb
  new : L 9 = true → ∃ zg zc, x 9 = .slice (some ⟨zg, 0, none⟩) (ds.length + 1) zc ∧ V.ownsRow b 49 4 (.slice (some ⟨zg, 0, none⟩) (ds.length + 1) zc) (ds.length + 1) (cellsP ds ++ encP pr)
  asn : L 10 = true → x 10 = x 9
  typ : Typ ds V
section
variable {B b p : Nat} {a : Option Addr} {n c k : Nat} {ds : List PR} {ov : Value} {nm : ByteArray} {pr : PR} {L : Nat → Bool} {x : Nat → Value} {V Y : World}
theorem ByK.start (hx : x 10 = ov) (h : SeqAt B p a n c k V) (ho : V.ownsRow b 49 4 ov ds.length (cellsP ds)) (ht : Typ ds V) : ByK B b p a n c k ds ov nm pr (fun _ => false) x V :=
  ⟨(fun h => nomatch h), (fun h => nomatch h), (fun h => nomatch h), (fun h => nomatch h), (fun h => nomatch h), fun _ => hx, fun _ => h, (fun h => nomatch h), (fun h => nomatch h), fun _ => ho, (fun h => nomatch h), (fun h => nomatch h), (fun h => nomatch h), ht⟩
theorem ByK.below (h : ByK B b p a n c k ds ov nm pr L x V) (hb : Below V.heap.size V Y) : ByK B b p a n c k ds ov nm pr L x Y := by
  have hk : ∀ {k : Nat} {o : Obj}, V.heap[k]? = some o → Y.heap[k]? = some o := fun hk => (hb.block _ (Array.getElem?_eq_some_iff.1 hk).1).trans hk
  refine ⟨h.l7, h.l8, h.l9, h.l10, h.l0, h.a0, fun e => (h.s0 e).below hb, fun e => ?_, h.s7, fun e => own_below (h.own e) hb, fun h8 h9 => ?_, fun h9 => ?_, h.asn, h.typ.keep (KeepT.of_below hb)⟩
  · obtain ⟨h1, h2, ⟨k', h3, h4⟩, h5⟩ := h.s1 e
    exact ⟨h1, h2, ⟨k', h3, h4.below hb⟩, h5.keep (KeepT.of_below hb)⟩
  · obtain ⟨zb, e, hz, r⟩ := h.r8 h8 h9
    exact ⟨zb, e, hk hz, r⟩
  · obtain ⟨zg, zc, e, r⟩ := h.new h9
    exact ⟨zg, zc, e, own_below r hb⟩
theorem ByK.keep (h : ByK B b p a n c k ds ov nm pr L x V) (hb : Below V.heap.size V Y) {i : Nat} (hi : (i == 0 || i == 6 || i == 7 || i == 8 || i == 9 || i == 10) = false) (v : Value) : ByK B b p a n c k ds ov nm pr (updB L i) (upd x i v) Y := by
  simp only [Bool.or_eq_false_iff, beq_eq_false_iff_ne, ne_eq] at hi
  obtain ⟨⟨⟨⟨⟨i0, i6⟩, i7⟩, i8⟩, i9⟩, i10⟩ := hi
  have h := h.below hb
  have e0 := updB_other L (Ne.symm i0); have e6 := updB_other L (Ne.symm i6); have e7 := updB_other L (Ne.symm i7); have e8 := updB_other L (Ne.symm i8); have e9 := updB_other L (Ne.symm i9); have e10 := updB_other L (Ne.symm i10)
  have f6 := upd_other x v (Ne.symm i6); have f7 := upd_other x v (Ne.symm i7); have f8 := upd_other x v (Ne.symm i8); have f9 := upd_other x v (Ne.symm i9); have f10 := upd_other x v (Ne.symm i10)
  refine ⟨?_, ?_, ?_, ?_, ?_, ?_, ?_, ?_, ?_, ?_, ?_, ?_, ?_, h.typ⟩ <;> simp only [e0, e6, e7, e8, e9, e10, f6, f7, f8, f9, f10]
  · exact h.l7
  · exact h.l8
  · exact h.l9
  · exact h.l10
  · exact h.l0
  · exact h.a0
  · exact h.s0
  · exact h.s1
  · exact h.s7
  · exact h.own
  · exact h.r8
  · exact h.new
  · exact h.asn
theorem ByK.no7 (h : ByK B b p a n c k ds ov nm pr L x V) (e : L 6 = false) : L 7 = false := by
  cases q : L 7 with
  | false => rfl
  | true => exact nope e (h.l7 q)
theorem ByK.no8 (h : ByK B b p a n c k ds ov nm pr L x V) (e : L 7 = false) : L 8 = false := by
  cases q : L 8 with
  | false => rfl
  | true => exact nope e (h.l8 q)
theorem ByK.no9 (h : ByK B b p a n c k ds ov nm pr L x V) (e : L 8 = false) : L 9 = false := by
  cases q : L 9 with
  | false => rfl
  | true => exact nope e (h.l9 q)
theorem ByK.no90 (h : ByK B b p a n c k ds ov nm pr L x V) (e : L 0 = false) : L 9 = false := by
  cases q : L 9 with
  | false => rfl
  | true => exact nope e (h.l0 q)
theorem ByK.no10 (h : ByK B b p a n c k ds ov nm pr L x V) (e : L 9 = false) : L 10 = false := by
  cases q : L 10 with
  | false => rfl
  | true => exact nope e (h.l10 q)
/-- The type is made. -/
theorem ByK.made (h : ByK B b p a n c k ds ov nm pr L x V) (h6 : L 6 = false) (hpb : p < b) {t : T} {za : Option Addr} {zc k' : Nat} (hg : T.Good t ∧ Fits t ∧ (T.text t).length + 10 ≤ 56) (hk : k' + 1 ≤ k + 8) (hs : SeqAt B p a n c k' Y) (hf : MkFr B p V Y) (ht : TysAt Y (.slice za t.kids.length zc) t.kids) :
    ByK B b p a n c k ds ov nm ⟨nm, t, za, zc⟩ (updB L 6) (upd x 6 (.agg #[.int .i64 t.kind, .string t.name, .slice za t.kids.length zc])) Y := by
  have h7 := h.no7 h6
  have h8 := h.no8 h7
  have h9 := h.no9 h8
  have h10 := h.no10 h9
  refine ⟨fun e => nope (c := updB L 6 7) h7 e, fun e => nope (c := updB L 6 8) h8 e, fun e => nope (c := updB L 6 9) h9 e, fun e => nope (c := updB L 6 10) h10 e, fun e => nope (c := updB L 6 9) h9 e, h.a0, fun e => nope e (updB_same _ _), fun _ => ⟨⟨rfl, hg⟩, rfl, ⟨k', hk, hs⟩, ht⟩, fun e => nope (c := updB L 6 7) h7 e, fun _ => own_keep (h.own h9) hf.2 hpb, fun e => nope (c := updB L 6 8) h8 e, fun e => nope (c := updB L 6 9) h9 e, fun e => nope (c := updB L 6 10) h10 e, h.typ.keep (KeepT.of_mk hf (h.s0 h6))⟩
/-- The pair is made. -/
theorem ByK.bld (h : ByK B b p a n c k ds ov nm pr L x V) (h7 : L 7 = false) (h6 : L 6 = true) : ByK B b p a n c k ds ov nm pr (updB L 7) (upd x 7 (.agg #[.string pr.n, .int .i64 pr.t.kind, .string pr.t.name, .slice pr.a pr.t.kids.length pr.c])) V := by
  have h8 := h.no8 h7
  have h9 := h.no9 h8
  have h10 := h.no10 h9
  exact ⟨fun _ => h6, fun e => nope (c := updB L 7 8) h8 e, fun e => nope (c := updB L 7 9) h9 e, fun e => nope (c := updB L 7 10) h10 e, h.l0, h.a0, h.s0, h.s1, fun _ => rfl, h.own, fun e => nope (c := updB L 7 8) h8 e, fun e => nope (c := updB L 7 9) h9 e, fun e => nope (c := updB L 7 10) h10 e, h.typ⟩
/-- A row of it alone. -/
theorem ByK.row (h : ByK B b p a n c k ds ov nm pr L x V) (h8 : L 8 = false) (h7 : L 7 = true) : ByK B b p a n c k ds ov nm pr (updB L 8) (upd x 8 (.slice (some ⟨V.heap.size, 0, none⟩) 1 1)) (V.alloc (.cells (prV pr) 49)) := by
  have h9 := h.no9 h8
  have h10 := h.no10 h9
  have hk := h.below (below_a V (.cells (prV pr) 49))
  refine ⟨h.l7, fun _ => h7, fun e => nope (c := updB L 8 9) h9 e, fun e => nope (c := updB L 8 10) h10 e, h.l0, h.a0, hk.s0, hk.s1, h.s7, hk.own, fun _ _ => ⟨V.heap.size, rfl, alloc_new V _, fun e => ?_⟩, fun e => nope (c := updB L 8 9) h9 e, fun e => nope (c := updB L 8 10) h10 e, hk.typ⟩
  have := ((h.own h9).lt V.heap.size e).2; omega
/-- The row so far. -/
theorem ByK.mv (h : ByK B b p a n c k ds ov nm pr L x V) (v : Value) : ByK B b p a n c k ds ov nm pr (updB L 0) (upd x 0 v) V :=
  ⟨h.l7, h.l8, h.l9, h.l10, fun _ => updB_same _ _, h.a0, h.s0, h.s1, h.s7, h.own, h.r8, h.new, h.asn, h.typ⟩
/-- It is appended. -/
theorem ByK.app (h : ByK B b p a n c k ds ov nm pr L x V) (h9 : L 9 = false) (h8 : L 8 = true) (h0 : L 0 = true) (hpb : p < b) (hbV : b ≤ V.heap.size) {zg zc : Nat} (ho : Y.ownsRow b 49 4 (.slice (some ⟨zg, 0, none⟩) (ds.length + 1) zc) (ds.length + 1) (cellsP ds ++ encP pr)) (hg : V.grownBy Y ov.ownBlock) :
    ByK B b p a n c k ds ov nm pr (updB L 9) (upd x 9 (.slice (some ⟨zg, 0, none⟩) (ds.length + 1) zc)) Y := by
  have h10 := h.no10 h9
  have hw := h.own h9
  have hb : Below B V Y := by
    have hB : B ≤ b := by
      have h6 := h.l7 (h.l8 h8)
      obtain ⟨_, _, ⟨k', _, hs⟩, _⟩ := h.s1 h6
      have := hs.1.1; omega
    exact (BxS.of_grown (p := p) hg (Nat.le_trans hB hbV) (fun j hj => Nat.le_trans hB (hw.lt j hj).1)).1
  have hkt : KeepT V Y := KeepT.grown hg hw (by decide)
  refine ⟨h.l7, h.l8, fun _ => h8, fun e => nope (c := updB L 9 10) h10 e, fun _ => h0, h.a0, fun e => nope (c := L 6) e (h.l7 (h.l8 h8)), fun e => ?_, h.s7, fun e => nope e (updB_same _ _), fun _ e => nope e (updB_same _ _), fun _ => ⟨zg, zc, rfl, ho⟩, fun e => nope (c := updB L 9 10) h10 e, h.typ.keep hkt⟩
  obtain ⟨h1, h2, ⟨k', h3, h4⟩, h5⟩ := h.s1 e
  refine ⟨h1, h2, ⟨k', h3, ⟨h4.1.1, ?_⟩, h4.2.keep hb⟩, h5.keep hkt⟩
  exact (hg.block p h4.lt fun e => by have := (hw.lt p e.symm).1; omega).trans h4.1.2
theorem ByK.put (h : ByK B b p a n c k ds ov nm pr L x V) (h9 : L 9 = true) : ByK B b p a n c k ds ov nm pr (updB L 10) (upd x 10 (x 9)) V :=
  ⟨h.l7, h.l8, h.l9, fun _ => h9, h.l0, fun e => nope e (updB_same _ _), h.s0, h.s1, h.s7, h.own, h.r8, h.new, fun _ => rfl, h.typ⟩
end
end Go.Proofs.Ytdcfemojkdoakaa
/- the law's pairs: its last statement, a region of 11 operations that draws its order, by an invariant. (Made by a program.) -/
namespace Go.Proofs.Ytdcfemojkdoakaa
open Go.RowKit Go.Maps Go.Sort Go.Lib
attribute [local go_sem] Oper.semAt_some

noncomputable def bysOps : Array Oper := regionIn 6 (Try.f7.body.getD .skip)
def bysFr (b : Nat → Value) (d : List Deferred) (x : Nat → Value) : Act := { tmps := #[b 0, b 1, b 2, b 3, x 10, b 5, b 6, b 7, b 8, b 9, b 10, b 11, b 12, x 0, x 1, x 2, x 3, x 4, x 5, x 6, x 7, x 8, x 9, b 23], defers := d }

def bysVals (ov : Value) (nm : ByteArray) (r p : Nat) (i : Nat) (v : Value) (V : World) : Prop :=
  match i with
  | 0 => v = ov
  | 1 => ∃ zg, v = .slice (some ⟨zg, 0, none⟩) 3 3 ∧ V.heap[zg]? = some (.cells #[.string ⟨#[97]⟩, .string ⟨#[98]⟩, .string ⟨#[99]⟩] 9 (0, 0)) ∧ zg ≠ p ∧ ov.ownBlock ≠ some zg
  | 2 => v = .int .i64 (r : Int)
  | 3 => ∃ zg, v = .pointer (some ⟨zg, r, none⟩) ∧ V.heap[zg]? = some (.cells #[.string ⟨#[97]⟩, .string ⟨#[98]⟩, .string ⟨#[99]⟩] 9 (0, 0)) ∧ zg ≠ p ∧ ov.ownBlock ≠ some zg
  | 4 => v = .string nm
  | 5 => v = .pointer (some ⟨p, 0, none⟩)
  | 6 => ∃ zu, v = zu ∧ True
  | 7 => ∃ zu, v = zu ∧ True
  | 8 => ∃ zu, v = zu ∧ True
  | 9 => ∃ zu, v = zu ∧ True
  | 10 => ∃ zu, v = zu ∧ True
  | _ => True

theorem bysVals_keep {ov : Value} {nm : ByteArray} {r p : Nat} (i : Nat) (v : Value) (V Y : World) (h : bysVals ov nm r p i v V) (hb : Below V.heap.size V Y) : bysVals ov nm r p i v Y := by
  unfold bysVals at *
  split at h <;> first
    | exact h
    | (obtain ⟨zg, e, h⟩ := h; exact ⟨zg, e, ⟨(hb.block zg (Array.getElem?_eq_some_iff.1 h.1).1).trans h.1, h.2⟩⟩)
    | (obtain ⟨zu, e, h⟩ := h; exact ⟨zu, e, h⟩)

theorem bysVals_keep2 {B p : Nat} {ov : Value} {nm : ByteArray} {r : Nat} (j : Nat) (v : Value) (V Y : World) (h : bysVals ov nm r p j v V) (hb : BxS B p ov V Y) : bysVals ov nm r p j v Y := by
  unfold bysVals at *
  split at h <;> first
    | exact h
    | (obtain ⟨zg, e, h⟩ := h; exact ⟨zg, e, hb.2 _ _ h.1 h.2.1 h.2.2, h.2⟩)

theorem bys_size : bysOps.size = 11 := by kernel_rfl
set_option linter.unusedSimpArgs false in
set_option maxRecDepth 100000 in
set_option maxHeartbeats 8000000 in
theorem bys_region {w : World} {B lo p n c k r : Nat} {sa : Option Addr} {nm : ByteArray} {ds : List PR} {ov : Value} (hw : lo ≤ w.heap.size) (hBb : B ≤ lo) (hpb : p < lo) (hi3 : r < 3) (hnm : [(⟨#[97]⟩ : ByteArray), ⟨#[98]⟩, ⟨#[99]⟩][r]? = some nm) (hbo : ∀ j, ov.ownBlock = some j → j < w.heap.size) (hkk : k + 8 < 1152921504606846976) (hnn : n < 1152921504606846976) (hds : ds.length ≤ 1000000000) (hseq : SeqAt B p sa n c k w) (hown : w.ownsRow lo 49 4 ov ds.length (cellsP ds)) (htyp : Typ ds w) {b : Nat → Value} {d : List Deferred}
    (h3 : b 3 = .pointer (some ⟨p, 0, none⟩)) (h5 : b 5 = .int .i64 (r : Int))
    
    {Q : Exit → Act → World → Prop} {ops : Array Oper} (hops : ops = bysOps) (x0 : Nat → Value) (X : World) (hS : BxS B p ov w X.drew) (hbX : Below w.heap.size w X.drew) (hx10 : x0 10 = ov)
    (hfin : ∀ (x : Nat → Value) V pr k' zg zc, BxS B p ov w V → x 10 = .slice (some ⟨zg, 0, none⟩) (ds.length + 1) zc → V.ownsRow lo 49 4 (.slice (some ⟨zg, 0, none⟩) (ds.length + 1) zc) (ds.length + 1) (cellsP ds ++ encP pr) → (pr.n = nm ∧ T.Good pr.t ∧ Fits pr.t ∧ (T.text pr.t).length + 10 ≤ 56) → k' + 1 ≤ k + 8 → SeqAt B p sa n c k' V → TysAt V (.slice pr.a pr.t.kids.length pr.c) pr.t.kids → Typ ds V → Q .normal (bysFr b d x) V) : (Code.region 6 ops true).wp Try.prog Q (bysFr b d x0) X := by
  refine region_mark (bysFr b d) (fun V => BxS B p ov w V) (fun V Y => Below V.heap.size V Y) (bysVals ov nm r p) (fun L x V => ∃ pr, ByK B lo p sa n c k ds ov nm pr L x V) (fun i => i == 0 || i == 6 || i == 7 || i == 8 || i == 9 || i == 10) x0 (by kernel_rfl) rfl hS (⟨⟨nm, .var nm, none, 0⟩, ByK.start hx10 (hseq.below hbX) (own_below hown hbX) (htyp.keep (KeepT.of_below hbX))⟩) (fun V Y h hb => h.trans (BxS.of_below hb (by have := h.1.size; omega))) (fun i v V Y _ h hb => bysVals_keep  i v V Y h hb) (fun i L x v w w' hs hS hM hr => by obtain ⟨pr, hM⟩ := hM; exact ⟨pr, hM.keep hr hs v⟩) ?_ (fun L x V hS hall hM => by obtain ⟨pr, hM⟩ := hM; have h10 := (hall 10 (by rw [hops, bys_size]; decide)).1; have h9 := hM.l10 h10; have h6 := hM.l7 (hM.l8 (hM.l9 h9)); obtain ⟨zg, zc, e9, ho9⟩ := hM.new h9; obtain ⟨hg, _, ⟨k2, hk2, hs2⟩, ht⟩ := hM.s1 h6; exact hfin x V pr k2 zg zc hS ((hM.asn h10).trans e9) ho9 hg hk2 hs2 ht hM.typ)
  clear hfin hS
  obtain ⟨f, hf⟩ : ∃ qq, (fun i o => ((fun i => i == 0 || i == 6 || i == 7 || i == 8 || i == 9 || i == 10) i = false → StepAt Try.prog (bysFr b d) (fun V => BxS B p ov w V) (fun V Y => Below V.heap.size V Y) (bysVals ov nm r p) ops Q i o) ∧ ((fun i => i == 0 || i == 6 || i == 7 || i == 8 || i == 9 || i == 10) i = true → MarkAt Try.prog (bysFr b d) (fun V => BxS B p ov w V) (bysVals ov nm r p) (fun L x V => ∃ pr, ByK B lo p sa n c k ds ov nm pr L x V) ops Q i o)) = qq := ⟨_, rfl⟩
  rw [hf, hops]
  simp only [bysOps, Try.f7, regionIn, Option.getD_some, Nat.reduceBEq, Bool.false_eq_true, if_false, if_true, beq_self_eq_true, Array.append_empty, Array.empty_append, List.append_eq, List.cons_append, List.nil_append, AllAt, Nat.reduceAdd, Nat.zero_add]
  -- 0: slot 13 := Op.move t4
  refine And.intro ?_ ?_
  · rw [← hf]; clear hf
    refine ⟨fun h => absurd h (by decide), fun _ => ⟨by decide +kernel, fun x v => by kernel_rfl, fun L x V hV hVs hMk hLi hdep K hK => ?_⟩⟩
    obtain ⟨pr, hMk⟩ := hMk
    have e10 : x 10 = ov := hMk.a0 (hMk.no10 (hMk.no90 hLi))
    refine run_bare (by kernel_rfl) ?_
    have H := Lib.hid (hMk.mv ov)
    have HVs := Lib.hid hVs
    clear hVs hMk hdep
    unfold bysFr at hK ⊢
    go_simp
    refine kfit (hK _ _ hV HVs.out rfl ⟨pr, H.out⟩) ?_
    first | (simp only [Act.put, List.setIfInBounds_toArray, List.set_cons_zero, List.set_cons_succ, h3, h5, e10]; done) | (simp only [Act.put, List.setIfInBounds_toArray, List.set_cons_zero, List.set_cons_succ, h3, h5, e10]; rfl)
  -- 1: slot 14 := Op.buildSlice 43 3 #[(0, const (Value.string { data := #[97]
  refine And.intro ?_ ?_
  · rw [← hf]; clear hf
    refine ⟨fun _ => ⟨by decide +kernel, fun x v => by kernel_rfl, fun x V hV hdep K hK => ?_⟩, fun h => absurd h (by decide)⟩
    clear hdep
    refine run_bare (by kernel_rfl) ?_
    unfold bysFr
    go_simp
    refine kfit (hK _ _ (below_a _ _) ⟨_, rfl, ⟨alloc_new _ _, by have := hV.1.size; omega, fun e => by have := hbo _ e; have := hV.1.size; omega⟩⟩) ?_
    first | (simp only [bysFr, Act.put, List.setIfInBounds_toArray, List.set_cons_zero, List.set_cons_succ, h3, h5]; done) | (simp only [bysFr, Act.put, List.setIfInBounds_toArray, List.set_cons_zero, List.set_cons_succ, h3, h5]; rfl)
  -- 2: slot 15 := Op.move t5
  refine And.intro ?_ ?_
  · rw [← hf]; clear hf
    refine ⟨fun _ => ⟨by decide +kernel, fun x v => by kernel_rfl, fun x V hV hdep K hK => ?_⟩, fun h => absurd h (by decide)⟩
    clear hdep
    refine run_bare (by kernel_rfl) ?_
    unfold bysFr
    go_simp
    refine kfit (hK _ _ (Below.refl _ V) rfl) ?_
    first | (simp only [bysFr, Act.put, List.setIfInBounds_toArray, List.set_cons_zero, List.set_cons_succ, h3, h5]; done) | (simp only [bysFr, Act.put, List.setIfInBounds_toArray, List.set_cons_zero, List.set_cons_succ, h3, h5]; rfl)
  -- 3: slot 16 := Op.indexAddr 43 t14 t15
  refine And.intro ?_ ?_
  · rw [← hf]; clear hf
    refine ⟨fun _ => ⟨by decide +kernel, fun x v => by kernel_rfl, fun x V hV hdep K hK => ?_⟩, fun h => absurd h (by decide)⟩
    obtain ⟨zg1, e1, d1⟩ : ∃ zg1, x 1 = .slice (some ⟨zg1, 0, none⟩) 3 3 ∧ V.heap[zg1]? = some (.cells #[.string ⟨#[97]⟩, .string ⟨#[98]⟩, .string ⟨#[99]⟩] 9 (0, 0)) ∧ zg1 ≠ p ∧ ov.ownBlock ≠ some zg1 := depOf hdep 1 (by decide +kernel)
    have e2 : x 2 = .int .i64 (r : Int) := depOf hdep 2 (by decide +kernel)
    clear hdep
    refine run_bare (by kernel_rfl) ?_
    unfold bysFr
    have hI : (r : Int) < 3 := by omega
    go_simp
    refine kfit (hK _ _ (Below.refl _ V) ⟨_, rfl, d1⟩) ?_
    first | (simp only [bysFr, Act.put, List.setIfInBounds_toArray, List.set_cons_zero, List.set_cons_succ, h3, h5, e1, e2]; done) | (simp only [bysFr, Act.put, List.setIfInBounds_toArray, List.set_cons_zero, List.set_cons_succ, h3, h5, e1, e2]; rfl)
  -- 4: slot 17 := Op.load 9 t16
  refine And.intro ?_ ?_
  · rw [← hf]; clear hf
    refine ⟨fun _ => ⟨by decide +kernel, fun x v => by kernel_rfl, fun x V hV hdep K hK => ?_⟩, fun h => absurd h (by decide)⟩
    obtain ⟨zg3, e3, d3⟩ : ∃ zg3, x 3 = .pointer (some ⟨zg3, r, none⟩) ∧ V.heap[zg3]? = some (.cells #[.string ⟨#[97]⟩, .string ⟨#[98]⟩, .string ⟨#[99]⟩] 9 (0, 0)) ∧ zg3 ≠ p ∧ ov.ownBlock ≠ some zg3 := depOf hdep 3 (by decide +kernel)
    clear hdep
    refine run_bare (by kernel_rfl) ?_
    unfold bysFr
    obtain ⟨d3, _, _⟩ := d3; have y1 : V.cell? ⟨zg3, r, none⟩ = some (.string nm) := (Lib.cell_of_heap d3 r).trans (by match r, hi3, hnm with | 0, _, h => simpa using h | 1, _, h => simpa using h | 2, _, h => simpa using h | n + 3, h, _ => omega)
    go_simp
    refine kfit (hK _ _ (Below.refl _ V) rfl) ?_
    first | (simp only [bysFr, Act.put, List.setIfInBounds_toArray, List.set_cons_zero, List.set_cons_succ, h3, h5, e3]; done) | (simp only [bysFr, Act.put, List.setIfInBounds_toArray, List.set_cons_zero, List.set_cons_succ, h3, h5, e3]; rfl)
  -- 5: slot 18 := Op.move t3
  refine And.intro ?_ ?_
  · rw [← hf]; clear hf
    refine ⟨fun _ => ⟨by decide +kernel, fun x v => by kernel_rfl, fun x V hV hdep K hK => ?_⟩, fun h => absurd h (by decide)⟩
    clear hdep
    refine run_bare (by kernel_rfl) ?_
    unfold bysFr
    go_simp
    refine kfit (hK _ _ (Below.refl _ V) rfl) ?_
    first | (simp only [bysFr, Act.put, List.setIfInBounds_toArray, List.set_cons_zero, List.set_cons_succ, h3, h5]; done) | (simp only [bysFr, Act.put, List.setIfInBounds_toArray, List.set_cons_zero, List.set_cons_succ, h3, h5]; rfl)
  -- 6: slot 19 := Op.call { value (Operand.func 5), args := #[t18, const (2:i6
  refine And.intro ?_ ?_
  · rw [← hf]; clear hf
    refine ⟨fun h => absurd h (by decide), fun _ => ⟨by decide +kernel, fun x v => by kernel_rfl, fun L x V hV hVs hMk hLi hdep K hK => ?_⟩⟩
    have e5 : x 5 = .pointer (some ⟨p, 0, none⟩) := hVs 5 (depL hdep 5 (by decide +kernel))
    obtain ⟨pr0, hMk⟩ := hMk
    have hs := hMk.s0 hLi
    have HC6 := Lib.hid (make_type2 B p sa n c k V hs hkk hnn)
    refine run_bare (by kernel_rfl) ?_
    have H := Lib.hid (fun t za zc k2 Y hg hk hs hf ht => hMk.made (Y := Y) hLi hpb (t := t) (za := za) (zc := zc) (k' := k2) hg hk hs hf ht)
    have HVs := Lib.hid hVs
    have HS := Lib.hid hV
    clear hVs hMk hdep hs hV
    unfold bysFr at hK ⊢
    go_simp
    go_at_call 5
    refine HC6.out.mono ?_
    rintro e Y ⟨⟨t, u, rfl, hg, hu⟩, ⟨k3, hk3, hs3⟩, hf3⟩
    obtain ⟨a2, n2, rfl⟩ := hu.shape
    simp only [tyV] at *
    refine kfit (hK _ _ (HS.out.trans (BxS.of_mk hf3)) (fun j hj => bysVals_keep2 j _ V _ (HVs.out j hj) (BxS.of_mk hf3)) ⟨_, rfl, trivial⟩ ⟨_, H.out t a2 n2 k3 Y hg hk3 hs3 hf3 hu⟩) ?_
    first | (simp only [Act.put, List.setIfInBounds_toArray, List.set_cons_zero, List.set_cons_succ, h3, h5, e5]; done) | (simp only [Act.put, List.setIfInBounds_toArray, List.set_cons_zero, List.set_cons_succ, h3, h5, e5]; rfl)
  -- 7: slot 20 := Op.build 49 #[(0, t17), (1, t19)]
  refine And.intro ?_ ?_
  · rw [← hf]; clear hf
    refine ⟨fun h => absurd h (by decide), fun _ => ⟨by decide +kernel, fun x v => by kernel_rfl, fun L x V hV hVs hMk hLi hdep K hK => ?_⟩⟩
    have e4 : x 4 = .string nm := hVs 4 (depL hdep 4 (by decide +kernel))
    have q6 := depL hdep 6 (by decide +kernel)
    obtain ⟨pr, hMk⟩ := hMk
    obtain ⟨⟨hn, _⟩, e6, _⟩ := hMk.s1 q6
    rw [← hn] at e4
    refine run_bare (by kernel_rfl) ?_
    have H := Lib.hid (hMk.bld hLi q6)
    have HVs := Lib.hid hVs
    clear hVs hMk hdep hn
    unfold bysFr at hK ⊢
    go_simp
    refine kfit (hK _ _ hV HVs.out ⟨_, rfl, trivial⟩ ⟨pr, H.out⟩) ?_
    first | (simp only [Act.put, List.setIfInBounds_toArray, List.set_cons_zero, List.set_cons_succ, h3, h5, e4, e6]; done) | (simp only [Act.put, List.setIfInBounds_toArray, List.set_cons_zero, List.set_cons_succ, h3, h5, e4, e6]; rfl)
  -- 8: slot 21 := Op.buildSlice 32 1 #[(0, t20)]
  refine And.intro ?_ ?_
  · rw [← hf]; clear hf
    refine ⟨fun h => absurd h (by decide), fun _ => ⟨by decide +kernel, fun x v => by kernel_rfl, fun L x V hV hVs hMk hLi hdep K hK => ?_⟩⟩
    have q7 := depL hdep 7 (by decide +kernel)
    obtain ⟨pr, hMk⟩ := hMk
    have e7 := hMk.s7 q7
    refine run_bare (by kernel_rfl) ?_
    have hz : B ≤ V.heap.size := by have := hV.1.size; omega
    have H := Lib.hid (hMk.row hLi q7)
    have HVs := Lib.hid hVs
    have HS := Lib.hid hV
    clear hVs hMk hdep hV
    unfold bysFr at hK ⊢
    go_simp
    refine kfit (hK _ _ (HS.out.trans (BxS.of_below (below_a _ _) hz)) (fun j hj => bysVals_keep2 j _ V _ (HVs.out j hj) (BxS.of_below (below_a _ _) hz)) ⟨_, rfl, trivial⟩ ⟨pr, H.out⟩) ?_
    first | (simp only [Act.put, List.setIfInBounds_toArray, List.set_cons_zero, List.set_cons_succ, h3, h5, e7]; done) | (simp only [Act.put, List.setIfInBounds_toArray, List.set_cons_zero, List.set_cons_succ, h3, h5, e7]; rfl)
  -- 9: slot 22 := Op.call { builtin append, args := #[t13, t21], argTypes := #
  refine And.intro ?_ ?_
  · rw [← hf]; clear hf
    refine ⟨fun h => absurd h (by decide), fun _ => ⟨by decide +kernel, fun x v => by kernel_rfl, fun L x V hV hVs hMk hLi hdep K hK => ?_⟩⟩
    have q0 := depL hdep 0 (by decide +kernel)
    have q8 := depL hdep 8 (by decide +kernel)
    have e0 : x 0 = ov := hVs 0 q0
    obtain ⟨pr, hMk⟩ := hMk
    have ho := hMk.own hLi
    obtain ⟨zb, e8, hzb, _⟩ := hMk.r8 q8 hLi
    have HVs := Lib.hid hVs
    obtain ⟨i0, hi, hz0, hz1, hz2⟩ := info_parts Try.infoRefPair
    clear hdep hVs
    have hz : lo ≤ V.heap.size := by have := hV.1.size; omega
    have hzB : B ≤ V.heap.size := by omega
    unfold bysFr at hK ⊢
    refine step_append_lies V (by kernel_rfl) (.tmp 13) (.tmp 21) 32 (by kernel_rfl) lo 49 i0 (.agg zeroP) 4 64 Try.underlying32 hi hz0 hz1 hz2 rfl (by decide) ov ds.length (cellsP ds) e0 ho ⟨zb, 0, none⟩ 1 1 (encP pr) e8 rfl (World.news_of_block hzb) (encP_one pr) (by decide) (by unfold maxLen; omega) (by omega) hz V.heap.size rfl ?_
    intro g9 c9 w9 hown9 hgr9 hat9 _
    have hbx : BxS B p ov V w9 := BxS.of_grown hgr9 hzB (fun j hj => Nat.le_trans hBb (ho.lt j hj).1)
    exact hK _ _ (hV.trans hbx) (fun j hj => bysVals_keep2 j _ V _ (HVs.out j hj) hbx) ⟨_, rfl, trivial⟩ ⟨pr, hMk.app hLi q8 q0 hpb hz hown9 hgr9⟩
  -- 10: slot 4 := Op.assign t22
  refine And.intro ?_ ?_
  · rw [← hf]; clear hf
    refine ⟨fun h => absurd h (by decide), fun _ => ⟨by decide +kernel, fun x v => by kernel_rfl, fun L x V hV hVs hMk hLi hdep K hK => ?_⟩⟩
    have q9 := depL hdep 9 (by decide +kernel)
    obtain ⟨pr, hMk⟩ := hMk
    refine run_bare (by kernel_rfl) ?_
    have H := Lib.hid (hMk.put q9)
    have HVs := Lib.hid hVs
    clear hVs hMk hdep
    unfold bysFr at hK ⊢
    go_simp
    refine kfit (hK _ _ hV HVs.out ⟨_, rfl, trivial⟩ ⟨pr, H.out⟩) ?_
    first | (simp only [Act.put, List.setIfInBounds_toArray, List.set_cons_zero, List.set_cons_succ, h3, h5]; done) | (simp only [Act.put, List.setIfInBounds_toArray, List.set_cons_zero, List.set_cons_succ, h3, h5]; rfl)
  exact trivial
theorem bys_here {w : World} {B lo p n c k r : Nat} {sa : Option Addr} {nm : ByteArray} {ds : List PR} {ov : Value} (hw : lo ≤ w.heap.size) (hBb : B ≤ lo) (hpb : p < lo) (hi3 : r < 3) (hnm : [(⟨#[97]⟩ : ByteArray), ⟨#[98]⟩, ⟨#[99]⟩][r]? = some nm) (hbo : ∀ j, ov.ownBlock = some j → j < w.heap.size) (hkk : k + 8 < 1152921504606846976) (hnn : n < 1152921504606846976) (hds : ds.length ≤ 1000000000) (hseq : SeqAt B p sa n c k w) (hown : w.ownsRow lo 49 4 ov ds.length (cellsP ds)) (htyp : Typ ds w)
    
    {Q : Exit → Act → World → Prop} {ops : Array Oper} {a : Act} (X : World) (hops : ops = bysOps)
    (h3 : a.tmps.getD 3 undef = .pointer (some ⟨p, 0, none⟩)) (h5 : a.tmps.getD 5 undef = .int .i64 (r : Int))
    (ha : a = bysFr (fun j => a.tmps.getD j undef) a.defers (fun i => a.tmps.getD (if i = 10 then 4 else 13 + i) undef)) (hS : BxS B p ov w X.drew) (hbX : Below w.heap.size w X.drew) (h4 : a.tmps.getD 4 undef = ov)
    (hfin : ∀ (x : Nat → Value) V pr k' zg zc, BxS B p ov w V → x 10 = .slice (some ⟨zg, 0, none⟩) (ds.length + 1) zc → V.ownsRow lo 49 4 (.slice (some ⟨zg, 0, none⟩) (ds.length + 1) zc) (ds.length + 1) (cellsP ds ++ encP pr) → (pr.n = nm ∧ T.Good pr.t ∧ Fits pr.t ∧ (T.text pr.t).length + 10 ≤ 56) → k' + 1 ≤ k + 8 → SeqAt B p sa n c k' V → TysAt V (.slice pr.a pr.t.kids.length pr.c) pr.t.kids → Typ ds V → Q .normal (bysFr (fun j => a.tmps.getD j undef) a.defers x) V) : (Code.region 6 ops true).wp Try.prog Q a X :=
  cast (congrArg (fun z => (Code.region 6 ops true).wp Try.prog Q z X) ha.symm) (bys_region hw hBb hpb hi3 hnm hbo hkk hnn hds hseq hown htyp (b := fun j => a.tmps.getD j undef) (d := a.defers) h3 h5  hops _ X hS hbX h4 hfin)
end Go.Proofs.Ytdcfemojkdoakaa
/- The law's pairs (MatchCases): types for a, b, c. -/
namespace Go.Proofs.Ytdcfemojkdoakaa
open Go.RowKit Go.Maps Go.Sort Go.Lib
attribute [local go_sem] Oper.semAt_some

/-- What `by` hands back. -/
def MadeB (w : World) (e : Ending) (w' : World) : Prop :=
  (∃ (q : List PR) (v : Value), e = .returned v ∧ q.map PR.n = [(⟨#[97]⟩ : ByteArray), ⟨#[98]⟩, ⟨#[99]⟩] ∧ (∀ x ∈ q, T.Good x.t ∧ Fits x.t ∧ (T.text x.t).length + 10 ≤ 56) ∧ GivenG 49 v q w' ∧ Typ q w') ∧ Below w.heap.size w w'
theorem names_next {q : List PR} {r : Nat} {nm : ByteArray} {pr : PR} (h : q.map PR.n = [(⟨#[97]⟩ : ByteArray), ⟨#[98]⟩, ⟨#[99]⟩].take r) (hn : [(⟨#[97]⟩ : ByteArray), ⟨#[98]⟩, ⟨#[99]⟩][r]? = some nm) (e : pr.n = nm) : (q ++ [pr]).map PR.n = [(⟨#[97]⟩ : ByteArray), ⟨#[98]⟩, ⟨#[99]⟩].take (r + 1) := by
  rw [List.map_append, h, List.map_singleton, e, List.take_add_one, hn]; rfl
set_option maxRecDepth 100000 in
set_option maxHeartbeats 4000000 in
theorem by_any (a : Option Addr) (n c : Nat) (w : World) (hi : IntsAt w.heap.size a n w) (hn : n < 1152921504606846976) :
    Calls Try.prog 7 #[.slice a n c] w (MadeB w) := by
  have hS0 := seq_new (c := c) (Below.refl w.heap.size w) hi
  have hb0 := below_a w (.cells #[.slice a n c, .int .i64 0] 30)
  have hz0 : (w.alloc (.cells #[.slice a n c, .int .i64 0] 30)).heap.size = w.heap.size + 1 := by simp
  have HS0 := Lib.hid hS0; have HB0 := Lib.hid hb0; have HZ0 := Lib.hid hz0
  clear hi hS0 hb0 hz0
  go_enter Try.func7, Try.ntmps7
  go_wp2
  go_loopw [4, 5] (fun vo vi wr => ∃ (q : List PR) (r k' : Nat), vi = .int .i64 (r : Int) ∧ Hid (q.length = r) ∧ r ≤ 3 ∧ Hid (wr.ownsRow (w.heap.size + 1) 49 4 vo q.length (cellsP q) ∧ (q = [] → vo = .slice none 0 0)) ∧ Hid (Typ q wr) ∧ Hid (∀ x ∈ q, T.Good x.t ∧ Fits x.t ∧ (T.text x.t).length + 10 ≤ 56) ∧ Hid (q.map PR.n = [(⟨#[97]⟩ : ByteArray), ⟨#[98]⟩, ⟨#[99]⟩].take r) ∧ Hid (k' ≤ 8 * r ∧ SeqAt w.heap.size w.heap.size a n c k' wr) ∧ Hid (w.heap.size + 1 ≤ wr.heap.size ∧ Below w.heap.size w wr)) (fun _ vi _ => (3 - intOf vi).toNat)
  case atStart => exact ⟨[], 0, 0, rfl, Lib.hid rfl, by omega, Lib.hid ⟨World.ownsRow_nil _ _ _ _, fun _ => rfl⟩, Lib.hid (fun x hx => by cases hx), Lib.hid (fun x hx => by cases hx), Lib.hid rfl, Lib.hid ⟨by omega, HS0.out⟩, Lib.hid ⟨by rw [HZ0.out]; omega, HB0.out⟩⟩
  case round =>
    obtain ⟨q, r, k', rfl, hql, hr3, hrow, hty, hgd, hnm, hsq, hbl⟩ := hrel
    by_cases hlt : r < 3
    · have hltI : (r : Int) < 3 := by omega
      obtain ⟨nm, hnm1⟩ : ∃ nm, [(⟨#[97]⟩ : ByteArray), ⟨#[98]⟩, ⟨#[99]⟩][r]? = some nm := ⟨_, List.getElem?_eq_getElem (by simpa using hlt)⟩
      have HN := Lib.hid hnm1
      clear hnm1
      go_wp2
      have hownb : ∀ j, u4.ownBlock = some j → j < wr.heap.size := fun j hj => (hrow.out.1.lt j hj).2
      refine bys_here (w := wr) (B := w.heap.size) (lo := w.heap.size + 1) (p := w.heap.size) (n := n) (c := c) (k := k') (r := r) (sa := a) (nm := nm) (ds := q) (ov := u4) hbl.out.1 (by omega) (by omega) hlt HN.out hownb (by have := hsq.out.1; omega) hn (by have := hql.out; omega) hsq.out.2 hrow.out.1 hty.out wr (by kernel_rfl) (by kernel_rfl) (by kernel_rfl) (by kernel_rfl) (BxS.of_below (below_d wr) (by have := hbl.out.1; omega)) (below_d wr) (by kernel_rfl) ?_
      intro x V pr k2 zg zc hS e10 ho hpr hk2 hs2 ht2 hty2
      have HEnd := Lib.hid (And.intro hS.1 (And.intro ho (And.intro hpr (And.intro hk2 (And.intro hs2 (And.intro ht2 hty2))))))
      clear hS ho hpr hk2 hs2 ht2 hty2 hownb
      simp only [bysFr, e10]
      simp only [Array.getD_eq_getD_getElem?, List.getElem?_toArray, List.getElem?_cons_succ, List.getElem?_cons_zero, Option.getD_some]
      go_wp2
      go_roundw
      case rel =>
        refine ⟨q ++ [pr], r + 1, k2, congrArg (Value.int .i64) (by omega), Lib.hid (by have := hql.out; simp; exact this), by omega, Lib.hid ⟨?_, fun e => by simp at e⟩, Lib.hid ?_, Lib.hid ?_, Lib.hid (names_next hnm.out HN.out HEnd.out.2.2.1.1), Lib.hid ⟨?_, HEnd.out.2.2.2.2.1⟩, Lib.hid ⟨?_, ?_⟩⟩
        · rw [cellsP_snoc, List.length_append]; exact HEnd.out.2.1
        · intro y hy
          rcases List.mem_append.1 hy with hy | hy
          · exact HEnd.out.2.2.2.2.2.2 y hy
          · obtain rfl := List.mem_singleton.1 hy
            exact HEnd.out.2.2.2.2.2.1
        · intro y hy
          rcases List.mem_append.1 hy with hy | hy
          · exact hgd.out y hy
          · obtain rfl := List.mem_singleton.1 hy
            exact HEnd.out.2.2.1.2
        · have := HEnd.out.2.2.2.1; have := hsq.out.1; omega
        · have := HEnd.out.1.size; have := hbl.out.1; omega
        · exact hbl.out.2.trans HEnd.out.1
      case measure => simp [intOf]; omega
    · have hltI : ¬ ((r : Int) < 3) := by omega
      have hr : r = 3 := by omega
      have HR := Lib.hid hr
      clear hr
      go_wp2
      go_ret
      refine ⟨⟨q, u4, rfl, ?_, hgd.out, given_of_row hrow.out.1 hrow.out.2, hty.out⟩, hbl.out.2⟩
      have := hnm.out; rw [HR.out] at this; exact this
end Go.Proofs.Ytdcfemojkdoakaa
/- the program's become: its last statement, a region of 13 operations that draws its order, by an invariant. (Made by a program.) -/
namespace Go.Proofs.Ytdcfemojkdoakaa
open Go.RowKit Go.Maps Go.Sort Go.Lib
attribute [local go_sem] Oper.semAt_some

noncomputable def bcmOps : Array Oper := regionIn 5 (Try.f19.body.getD .skip)
def bcmFr (b : Nat → Value) (d : List Deferred) (x : Nat → Value) : Act := { tmps := #[b 0, b 1, b 2, b 3, b 4, b 5, b 6, b 7, b 8, b 9, b 10, b 11, b 12, b 13, b 14, b 15, b 16, b 17, b 18, b 19, b 20, b 21, b 22, b 23, b 24, b 25, b 26, b 27, b 28, b 29, b 30, b 31, b 32, b 33, b 34, b 35, b 36, b 37, b 38, x 0, x 1, x 2, x 3, x 4, x 5, x 6, x 7, x 8, x 9, x 10, x 11], defers := d }

def bcmVals (pv : Value) (g : Nat) (pr : PR) (ds : List PR) (i : Nat) (v : Value) (_ : World) : Prop :=
  match i with
  | 0 => v = mp g
  | 1 => v = mp g
  | 2 => v = mp g
  | 3 => v = .pointer (some ⟨g, 0, none⟩)
  | 4 => v = pv
  | 5 => v = .string pr.n
  | 6 => v = .agg #[.int .i64 pr.t.kind, .string pr.t.name, .slice pr.a pr.t.kids.length pr.c]
  | 7 => v = .agg #[.string pr.n, .int .i64 pr.t.kind, .string pr.t.name, .slice pr.a pr.t.kids.length pr.c]
  | 8 => ∃ zb, v = .slice (some ⟨zb, 0, none⟩) 1 1 ∧ True
  | 9 => ∃ zg zc, v = .slice (some ⟨zg, 0, none⟩) (ds.length + 1) zc ∧ True
  | 10 => v = mp g
  | 11 => v = .pointer (some ⟨g, 0, none⟩)
  | 12 => ∃ zu, v = zu ∧ True
  | _ => True

theorem bcmVals_keep {pv : Value} {g : Nat} {pr : PR} {ds : List PR} (i : Nat) (v : Value) (V Y : World) (h : bcmVals pv g pr ds i v V) (_ : Below V.heap.size V Y) : bcmVals pv g pr ds i v Y := by
  unfold bcmVals at *
  split at h <;> first
    | exact h
    | (obtain ⟨zb, e, h⟩ := h; exact ⟨zb, e, h⟩)
    | (obtain ⟨zg, zc, e, h⟩ := h; exact ⟨zg, zc, e, h⟩)
    | (obtain ⟨zu, e, h⟩ := h; exact ⟨zu, e, h⟩)

theorem bcmVals_any {pv : Value} {g : Nat} {pr : PR} {ds : List PR} (i : Nat) (v : Value) (V Y : World) (h : bcmVals pv g pr ds i v V) : bcmVals pv g pr ds i v Y := by
  unfold bcmVals at *
  split at h <;> exact h

theorem bcm_size : bcmOps.size = 13 := by kernel_rfl
set_option linter.unusedSimpArgs false in
set_option maxRecDepth 100000 in
set_option maxHeartbeats 8000000 in
theorem bcm_region {w : World} {bb g mb b5 : Nat} {pr : PR} {ds : List PR} {pv : Value} (hbw : bb ≤ w.heap.size) (hbg : bb ≤ g ∧ g < w.heap.size) (hds : ds.length ≤ 1000000000) (hb5 : b5 < w.heap.size ∧ b5 ≠ g ∧ pv.ownBlock ≠ some b5) (hown : w.ownsRow bb 60 4 pv ds.length (cellsP ds)) (htop : w.heap[g]? = some (.cells #[pv, .map (some mb)] 55 (0, 0))) (hc50 : w.cell? ⟨b5, 0, none⟩ = some (.int .i64 pr.t.kind)) (hc51 : w.cell? ⟨b5, 1, none⟩ = some (.string pr.t.name)) (hc52 : w.cell? ⟨b5, 2, none⟩ = some (.slice pr.a pr.t.kids.length pr.c)) {b : Nat → Value} {d : List Deferred}
    (h0 : b 0 = mp g) (h1 : b 1 = .string pr.n) (h5 : b 5 = .pointer (some ⟨b5, 0, none⟩))
    
    {Q : Exit → Act → World → Prop} {ops : Array Oper} (hops : ops = bcmOps) (x0 : Nat → Value) (X : World) (hS : BcS bb g pv w X.drew) (hbX : Below w.heap.size w X.drew)
    (hfin : ∀ (x : Nat → Value) V zg zc, BcS bb g pv w V → V.heap[g]? = some (.cells #[.slice (some ⟨zg, 0, none⟩) (ds.length + 1) zc, .map (some mb)] 55 (0, 0)) → V.ownsRow bb 60 4 (.slice (some ⟨zg, 0, none⟩) (ds.length + 1) zc) (ds.length + 1) (cellsP ds ++ encP pr) → Q .normal (bcmFr b d x) V) : (Code.region 5 ops true).wp Try.prog Q (bcmFr b d x0) X := by
  refine region_mark (bcmFr b d) (fun V => BcS bb g pv w V) (fun V Y => Below V.heap.size V Y) (bcmVals pv g pr ds) (BcK bb ds pr pv g mb) (fun i => i == 4 || i == 8 || i == 9 || i == 12) x0 (by kernel_rfl) rfl hS (BcK.start (own_below hown hbX) ((hbX.block g hbg.2).trans htop)) (fun V Y h hb => h.below hb (by have := h.1.size; omega)) (fun i v V Y _ h hb => bcmVals_keep  i v V Y h hb) (fun i L x v w w' hs hS hM hr => hM.keep hr hs v) ?_ (fun L x V hS hall hM => by obtain ⟨zg, zc, e9, h9⟩ := hM.new (hall 9 (by rw [hops, bcm_size]; decide)).1; have ht := hM.fin (hall 12 (by rw [hops, bcm_size]; decide)).1; rw [e9] at ht; exact hfin x V zg zc hS ht h9)
  clear hfin hS
  obtain ⟨f, hf⟩ : ∃ qq, (fun i o => ((fun i => i == 4 || i == 8 || i == 9 || i == 12) i = false → StepAt Try.prog (bcmFr b d) (fun V => BcS bb g pv w V) (fun V Y => Below V.heap.size V Y) (bcmVals pv g pr ds) ops Q i o) ∧ ((fun i => i == 4 || i == 8 || i == 9 || i == 12) i = true → MarkAt Try.prog (bcmFr b d) (fun V => BcS bb g pv w V) (bcmVals pv g pr ds) (BcK bb ds pr pv g mb) ops Q i o)) = qq := ⟨_, rfl⟩
  rw [hf, hops]
  simp only [bcmOps, Try.f19, regionIn, Option.getD_some, Nat.reduceBEq, Bool.false_eq_true, if_false, if_true, beq_self_eq_true, Array.append_empty, Array.empty_append, List.append_eq, List.cons_append, List.nil_append, AllAt, Nat.reduceAdd, Nat.zero_add]
  -- 0: slot 39 := Op.move t0
  refine And.intro ?_ ?_
  · rw [← hf]; clear hf
    refine ⟨fun _ => ⟨by decide +kernel, fun x v => by kernel_rfl, fun x V hV hdep K hK => ?_⟩, fun h => absurd h (by decide)⟩
    clear hdep
    refine run_bare (by kernel_rfl) ?_
    unfold bcmFr
    go_simp
    refine kfit (hK _ _ (Below.refl _ V) rfl) ?_
    first | (simp only [bcmFr, Act.put, List.setIfInBounds_toArray, List.set_cons_zero, List.set_cons_succ, h0, h1, h5]; done) | (simp only [bcmFr, Act.put, List.setIfInBounds_toArray, List.set_cons_zero, List.set_cons_succ, h0, h1, h5]; rfl)
  -- 1: slot 40 := Op.move t0
  refine And.intro ?_ ?_
  · rw [← hf]; clear hf
    refine ⟨fun _ => ⟨by decide +kernel, fun x v => by kernel_rfl, fun x V hV hdep K hK => ?_⟩, fun h => absurd h (by decide)⟩
    clear hdep
    refine run_bare (by kernel_rfl) ?_
    unfold bcmFr
    go_simp
    refine kfit (hK _ _ (Below.refl _ V) rfl) ?_
    first | (simp only [bcmFr, Act.put, List.setIfInBounds_toArray, List.set_cons_zero, List.set_cons_succ, h0, h1, h5]; done) | (simp only [bcmFr, Act.put, List.setIfInBounds_toArray, List.set_cons_zero, List.set_cons_succ, h0, h1, h5]; rfl)
  -- 2: slot 41 := Op.nilCheck t40
  refine And.intro ?_ ?_
  · rw [← hf]; clear hf
    refine ⟨fun _ => ⟨by decide +kernel, fun x v => by kernel_rfl, fun x V hV hdep K hK => ?_⟩, fun h => absurd h (by decide)⟩
    have e1 : x 1 = mp g := depOf hdep 1 (by decide +kernel)
    clear hdep
    refine run_bare (by kernel_rfl) ?_
    unfold bcmFr
    go_simp
    refine kfit (hK _ _ (Below.refl _ V) rfl) ?_
    first | (simp only [bcmFr, Act.put, List.setIfInBounds_toArray, List.set_cons_zero, List.set_cons_succ, h0, h1, h5, e1]; done) | (simp only [bcmFr, Act.put, List.setIfInBounds_toArray, List.set_cons_zero, List.set_cons_succ, h0, h1, h5, e1]; rfl)
  -- 3: slot 42 := Op.fieldAddr 56 t41 0
  refine And.intro ?_ ?_
  · rw [← hf]; clear hf
    refine ⟨fun _ => ⟨by decide +kernel, fun x v => by kernel_rfl, fun x V hV hdep K hK => ?_⟩, fun h => absurd h (by decide)⟩
    have e2 : x 2 = mp g := depOf hdep 2 (by decide +kernel)
    clear hdep
    refine run_bare (by kernel_rfl) ?_
    unfold bcmFr
    go_simp
    refine kfit (hK _ _ (Below.refl _ V) rfl) ?_
    first | (simp only [bcmFr, Act.put, List.setIfInBounds_toArray, List.set_cons_zero, List.set_cons_succ, h0, h1, h5, e2]; done) | (simp only [bcmFr, Act.put, List.setIfInBounds_toArray, List.set_cons_zero, List.set_cons_succ, h0, h1, h5, e2]; rfl)
  -- 4: slot 43 := Op.load 31 t42
  refine And.intro ?_ ?_
  · rw [← hf]; clear hf
    refine ⟨fun h => absurd h (by decide), fun _ => ⟨by decide +kernel, fun x v => by kernel_rfl, fun L x V hV hVs hMk hLi hdep K hK => ?_⟩⟩
    have e3 : x 3 = .pointer (some ⟨g, 0, none⟩) := hVs 3 (depL hdep 3 (by decide +kernel))
    have q9 := hMk.no9 (.inr hLi)
    have q0 := (Lib.cell_of_heap (hMk.top (hMk.no12 q9)) 0).trans rfl
    refine run_bare (by kernel_rfl) ?_
    have H := Lib.hid (hMk.ld pv)
    have HVs := Lib.hid hVs
    clear hVs hMk hdep
    unfold bcmFr at hK ⊢
    go_simp
    refine kfit (hK _ _ hV HVs.out rfl H.out) ?_
    first | (simp only [Act.put, List.setIfInBounds_toArray, List.set_cons_zero, List.set_cons_succ, h0, h1, h5, e3]; done) | (simp only [Act.put, List.setIfInBounds_toArray, List.set_cons_zero, List.set_cons_succ, h0, h1, h5, e3]; rfl)
  -- 5: slot 44 := Op.move t1
  refine And.intro ?_ ?_
  · rw [← hf]; clear hf
    refine ⟨fun _ => ⟨by decide +kernel, fun x v => by kernel_rfl, fun x V hV hdep K hK => ?_⟩, fun h => absurd h (by decide)⟩
    clear hdep
    refine run_bare (by kernel_rfl) ?_
    unfold bcmFr
    go_simp
    refine kfit (hK _ _ (Below.refl _ V) rfl) ?_
    first | (simp only [bcmFr, Act.put, List.setIfInBounds_toArray, List.set_cons_zero, List.set_cons_succ, h0, h1, h5]; done) | (simp only [bcmFr, Act.put, List.setIfInBounds_toArray, List.set_cons_zero, List.set_cons_succ, h0, h1, h5]; rfl)
  -- 6: slot 45 := Op.load 26 t5
  refine And.intro ?_ ?_
  · rw [← hf]; clear hf
    refine ⟨fun _ => ⟨by decide +kernel, fun x v => by kernel_rfl, fun x V hV hdep K hK => ?_⟩, fun h => absurd h (by decide)⟩
    clear hdep
    refine run_bare (by kernel_rfl) ?_
    unfold bcmFr
    have y1 := (World.cell?_of_block (a := ⟨b5, 0, none⟩) (hV.2 b5 hb5.1 hb5.2.1 hb5.2.2)).trans hc50; have y2 := (World.cell?_of_block (a := ⟨b5, 1, none⟩) (hV.2 b5 hb5.1 hb5.2.1 hb5.2.2)).trans hc51; have y3 := (World.cell?_of_block (a := ⟨b5, 2, none⟩) (hV.2 b5 hb5.1 hb5.2.1 hb5.2.2)).trans hc52; clear hc50 hc51 hc52
    go_simp
    refine kfit (hK _ _ (Below.refl _ V) rfl) ?_
    first | (simp only [bcmFr, Act.put, List.setIfInBounds_toArray, List.set_cons_zero, List.set_cons_succ, h0, h1, h5]; done) | (simp only [bcmFr, Act.put, List.setIfInBounds_toArray, List.set_cons_zero, List.set_cons_succ, h0, h1, h5]; rfl)
  -- 7: slot 46 := Op.build 68 #[(0, t44), (1, t45)]
  refine And.intro ?_ ?_
  · rw [← hf]; clear hf
    refine ⟨fun _ => ⟨by decide +kernel, fun x v => by kernel_rfl, fun x V hV hdep K hK => ?_⟩, fun h => absurd h (by decide)⟩
    have e5 : x 5 = .string pr.n := depOf hdep 5 (by decide +kernel)
    have e6 : x 6 = .agg #[.int .i64 pr.t.kind, .string pr.t.name, .slice pr.a pr.t.kids.length pr.c] := depOf hdep 6 (by decide +kernel)
    clear hdep
    refine run_bare (by kernel_rfl) ?_
    unfold bcmFr
    go_simp
    refine kfit (hK _ _ (Below.refl _ V) rfl) ?_
    first | (simp only [bcmFr, Act.put, List.setIfInBounds_toArray, List.set_cons_zero, List.set_cons_succ, h0, h1, h5, e5, e6]; done) | (simp only [bcmFr, Act.put, List.setIfInBounds_toArray, List.set_cons_zero, List.set_cons_succ, h0, h1, h5, e5, e6]; rfl)
  -- 8: slot 47 := Op.buildSlice 31 1 #[(0, t46)]
  refine And.intro ?_ ?_
  · rw [← hf]; clear hf
    refine ⟨fun h => absurd h (by decide), fun _ => ⟨by decide +kernel, fun x v => by kernel_rfl, fun L x V hV hVs hMk hLi hdep K hK => ?_⟩⟩
    have e7 : x 7 = .agg #[.string pr.n, .int .i64 pr.t.kind, .string pr.t.name, .slice pr.a pr.t.kids.length pr.c] := hVs 7 (depL hdep 7 (by decide +kernel))
    refine run_bare (by kernel_rfl) ?_
    have hz : bb ≤ V.heap.size := by have := hV.1.size; omega
    have H := Lib.hid (hMk.row hLi)
    have HVs := Lib.hid hVs
    clear hVs hMk hdep
    unfold bcmFr at hK ⊢
    go_simp
    refine kfit (hK _ _ (hV.below (below_a _ _) hz) (fun j hj => bcmVals_any j _ V _ (HVs.out j hj)) ⟨_, rfl, trivial⟩ H.out) ?_
    first | (simp only [Act.put, List.setIfInBounds_toArray, List.set_cons_zero, List.set_cons_succ, h0, h1, h5, e7]; done) | (simp only [Act.put, List.setIfInBounds_toArray, List.set_cons_zero, List.set_cons_succ, h0, h1, h5, e7]; rfl)
  -- 9: slot 48 := Op.call { builtin append, args := #[t43, t47], argTypes := #
  refine And.intro ?_ ?_
  · rw [← hf]; clear hf
    refine ⟨fun h => absurd h (by decide), fun _ => ⟨by decide +kernel, fun x v => by kernel_rfl, fun L x V hV hVs hMk hLi hdep K hK => ?_⟩⟩
    have q4 := depL hdep 4 (by decide +kernel)
    have q8 := depL hdep 8 (by decide +kernel)
    have e4 : x 4 = pv := hVs 4 q4
    have ho := hMk.own hLi
    obtain ⟨zb, e8, hzb, _⟩ := hMk.r8 q8 hLi
    have HVs := Lib.hid hVs
    obtain ⟨i0, hi, hz0, hz1, hz2⟩ := info_parts Try.infoPair
    clear hdep hVs
    have hz : bb ≤ V.heap.size := by have := hV.1.size; omega
    unfold bcmFr at hK ⊢
    refine step_append_lies V (by kernel_rfl) (.tmp 43) (.tmp 47) 34 (by kernel_rfl) bb 60 i0 (.agg zeroP) 4 64 Try.underlying34 hi hz0 hz1 hz2 rfl (by decide) pv ds.length (cellsP ds) e4 ho ⟨zb, 0, none⟩ 1 1 (encP pr) e8 rfl (World.news_of_block hzb) (encP_one pr) (by decide) (by unfold maxLen; omega) (by omega) hz V.heap.size rfl ?_
    intro g9 c9 w9 hown9 hgr9 hat9 _
    exact hK _ _ (hV.grown hgr9 (fun j hj => (ho.lt j hj).1) hbw) (fun j hj => bcmVals_any j _ V _ (HVs.out j hj)) ⟨_, _, rfl, trivial⟩ (hMk.app hLi q8 q4 hown9 hgr9)
  -- 10: slot 49 := Op.nilCheck t39
  refine And.intro ?_ ?_
  · rw [← hf]; clear hf
    refine ⟨fun _ => ⟨by decide +kernel, fun x v => by kernel_rfl, fun x V hV hdep K hK => ?_⟩, fun h => absurd h (by decide)⟩
    have e0 : x 0 = mp g := depOf hdep 0 (by decide +kernel)
    clear hdep
    refine run_bare (by kernel_rfl) ?_
    unfold bcmFr
    go_simp
    refine kfit (hK _ _ (Below.refl _ V) rfl) ?_
    first | (simp only [bcmFr, Act.put, List.setIfInBounds_toArray, List.set_cons_zero, List.set_cons_succ, h0, h1, h5, e0]; done) | (simp only [bcmFr, Act.put, List.setIfInBounds_toArray, List.set_cons_zero, List.set_cons_succ, h0, h1, h5, e0]; rfl)
  -- 11: slot 50 := Op.fieldAddr 56 t49 0
  refine And.intro ?_ ?_
  · rw [← hf]; clear hf
    refine ⟨fun _ => ⟨by decide +kernel, fun x v => by kernel_rfl, fun x V hV hdep K hK => ?_⟩, fun h => absurd h (by decide)⟩
    have e10 : x 10 = mp g := depOf hdep 10 (by decide +kernel)
    clear hdep
    refine run_bare (by kernel_rfl) ?_
    unfold bcmFr
    go_simp
    refine kfit (hK _ _ (Below.refl _ V) rfl) ?_
    first | (simp only [bcmFr, Act.put, List.setIfInBounds_toArray, List.set_cons_zero, List.set_cons_succ, h0, h1, h5, e10]; done) | (simp only [bcmFr, Act.put, List.setIfInBounds_toArray, List.set_cons_zero, List.set_cons_succ, h0, h1, h5, e10]; rfl)
  -- 12: slot none := Op.store 31 t50 t48
  refine And.intro ?_ ?_
  · rw [← hf]; clear hf
    refine ⟨fun h => absurd h (by decide), fun _ => ⟨by decide +kernel, fun x v => by kernel_rfl, fun L x V hV hVs hMk hLi hdep K hK => ?_⟩⟩
    have q9 := depL hdep 9 (by decide +kernel)
    obtain ⟨zg, zc, e9, _⟩ := hMk.new q9
    have e11 : x 11 = .pointer (some ⟨g, 0, none⟩) := hVs 11 (depL hdep 11 (by decide +kernel))
    have ht := hMk.top hLi
    have q0 := (Lib.cell_of_heap ht 0).trans rfl
    have qf := Lib.frozen_of_heap ht 0
    have ql := (Array.getElem?_eq_some_iff.1 ht).1
    refine run_bare (by kernel_rfl) ?_
    have H := Lib.hid (fun v => hMk.put hLi q9 v)
    have HVs := Lib.hid hVs
    clear hVs hMk hdep ht
    rw [e9] at H
    unfold bcmFr at hK ⊢
    go_simp
    refine kfit (hK undef _ (hV.set hbg.1 _) (fun j hj => bcmVals_any j _ V _ (HVs.out j hj)) ⟨undef, rfl, trivial⟩ (H.out undef)) ?_
    first | (simp only [Act.put, List.setIfInBounds_toArray, List.set_cons_zero, List.set_cons_succ, h0, h1, h5, e9, e11]; done) | (simp only [Act.put, List.setIfInBounds_toArray, List.set_cons_zero, List.set_cons_succ, h0, h1, h5, e9, e11]; rfl)
  exact trivial
theorem bcm_here {w : World} {bb g mb b5 : Nat} {pr : PR} {ds : List PR} {pv : Value} (hbw : bb ≤ w.heap.size) (hbg : bb ≤ g ∧ g < w.heap.size) (hds : ds.length ≤ 1000000000) (hb5 : b5 < w.heap.size ∧ b5 ≠ g ∧ pv.ownBlock ≠ some b5) (hown : w.ownsRow bb 60 4 pv ds.length (cellsP ds)) (htop : w.heap[g]? = some (.cells #[pv, .map (some mb)] 55 (0, 0))) (hc50 : w.cell? ⟨b5, 0, none⟩ = some (.int .i64 pr.t.kind)) (hc51 : w.cell? ⟨b5, 1, none⟩ = some (.string pr.t.name)) (hc52 : w.cell? ⟨b5, 2, none⟩ = some (.slice pr.a pr.t.kids.length pr.c))
    
    {Q : Exit → Act → World → Prop} {ops : Array Oper} {a : Act} (X : World) (hops : ops = bcmOps)
    (h0 : a.tmps.getD 0 undef = mp g) (h1 : a.tmps.getD 1 undef = .string pr.n) (h5 : a.tmps.getD 5 undef = .pointer (some ⟨b5, 0, none⟩))
    (ha : a = bcmFr (fun j => a.tmps.getD j undef) a.defers (fun i => a.tmps.getD (39 + i) undef)) (hS : BcS bb g pv w X.drew) (hbX : Below w.heap.size w X.drew)
    (hfin : ∀ (x : Nat → Value) V zg zc, BcS bb g pv w V → V.heap[g]? = some (.cells #[.slice (some ⟨zg, 0, none⟩) (ds.length + 1) zc, .map (some mb)] 55 (0, 0)) → V.ownsRow bb 60 4 (.slice (some ⟨zg, 0, none⟩) (ds.length + 1) zc) (ds.length + 1) (cellsP ds ++ encP pr) → Q .normal (bcmFr (fun j => a.tmps.getD j undef) a.defers x) V) : (Code.region 5 ops true).wp Try.prog Q a X :=
  cast (congrArg (fun z => (Code.region 5 ops true).wp Try.prog Q z X) ha.symm) (bcm_region hbw hbg hds hb5 hown htop hc50 hc51 hc52 (b := fun j => a.tmps.getD j undef) (d := a.defers) h0 h1 h5  hops _ X hS hbX hfin)
end Go.Proofs.Ytdcfemojkdoakaa
/- The program's become. -/
namespace Go.Proofs.Ytdcfemojkdoakaa
open Go.RowKit Go.Maps Go.Sort Go.Lib
attribute [local go_sem] Oper.semAt_some

theorem cmp_eqB (t u : T) : (cmpT t u == 0) = eqB t u := by
  rw [Bool.eq_iff_iff, beq_iff_eq, eqB_iff]; exact cmp_zero t u
/-- What become tells. -/
def BecR (B g mb : Nat) (d : List PR) (n : ByteArray) (t : T) (w : World) (e : Ending) (w' : World) : Prop :=
  (match lk n d with
    | some x => e = .returned (.bool (eqB x.t t)) ∧ MM B g mb d w'
    | none => e = .returned (.bool true) ∧ ∃ x : PR, x.n = n ∧ x.t = t ∧ MM B g mb (d ++ [x]) w') ∧ KeepM w w' ∧ Below B w w'
theorem MapV.same {M m : Nat} {f : ByteArray → Option Nat} {w w' : World} (h : MapV M m f w) (hk : w'.heap[M]? = w.heap[M]?) : MapV M m f w' := by
  obtain ⟨D, hD, ⟨es, clock, hh, r⟩, h2⟩ := h
  exact ⟨D, hD, ⟨es, clock, hk.trans hh, r⟩, h2⟩
/-- What become makes of the matcher. -/
theorem bec_end {B g mb : Nat} {d : List PR} {w W1 w6 V : World} {x : PR} {f : ByteArray → Option Nat} {pv : Value} {zg zc : Nat} (h : MM B g mb d w) (hb1 : Below w.heap.size w W1) (hB : B ≤ w.heap.size) (hl : lk x.n d = none) (hP : PlP d f) (hno : ∀ y ∈ d, y.n ≠ x.n) (hf : Fits x.t) (ht : TysAt w (.slice x.a x.t.kids.length x.c) x.t.kids)
    (hM6 : MapV mb (d.length + 1) (fun k => if k = x.n then some d.length else f k) w6) (hg6 : W1.drew.grownBy w6 (some mb)) (hgm : mb ≠ g) (ng : pv.ownBlock ≠ some mb) (ho : w6.ownsRow B 60 4 pv d.length (cellsP d)) (hbs : BcS B g pv w6 V)
    (htop : V.heap[g]? = some (.cells #[.slice (some ⟨zg, 0, none⟩) (d.length + 1) zc, .map (some mb)] 55 (0, 0))) (hown : V.ownsRow B 60 4 (.slice (some ⟨zg, 0, none⟩) (d.length + 1) zc) (d.length + 1) (cellsP d ++ encP x)) : BecR B g mb d x.n x.t w (.returned (.bool true)) V := by
  have hs : w.heap.size ≤ w6.heap.size := Nat.le_trans hb1.size hg6.size
  obtain ⟨f0, hM0, _⟩ := h.map
  obtain ⟨pv0, ht0, _⟩ := h.top
  have keep : KeepM w V := fun k cs T fz hk h1 h2 => by
    have hlt := (Array.getElem?_eq_some_iff.1 hk).1
    have k1 : w6.heap[k]? = some (.cells cs T fz) := (hg6.block k (Nat.lt_of_lt_of_le hlt hb1.size) (fun e => by injection e with e; exact hM0.ne hk e.symm)).trans ((hb1.block k hlt).trans hk)
    refine (hbs.2 k (by omega) (fun e => by subst e; rw [ht0] at hk; cases hk; exact h1 rfl) fun e => ?_).trans k1
    rcases ho.2 with ⟨e', _⟩ | ⟨q, cap, cur, e', _, hq, _⟩
    · rw [e'] at e; cases e
    · rw [e'] at e
      obtain rfl : q = k := by simpa [Value.ownBlock] using e
      rw [k1] at hq; cases hq; exact h2 rfl
  unfold BecR
  rw [hl]
  refine ⟨⟨rfl, x, rfl, rfl, h.lo, ⟨.slice (some ⟨zg, 0, none⟩) (d.length + 1) zc, htop, ?_, fun e => by simp at e⟩, ⟨_, ?_, plp_snoc hP x fun k => rfl⟩, fun y hy => ?_, ?_, fun y hy => ?_⟩, keep, ?_⟩
  · rw [List.length_append, List.length_singleton, cellsP_snoc]; exact hown
  · rw [List.length_append, List.length_singleton]
    exact hM6.same (hbs.2 mb hM6.lt hgm ng)
  · rcases List.mem_append.1 hy with hy | hy
    · exact (h.typ y hy).keep keep.tys
    · obtain rfl := List.mem_singleton.1 hy
      exact ht.keep keep.tys
  · rw [List.map_append, List.nodup_append]
    refine ⟨h.one, by simp, fun a ha b hb e => ?_⟩
    obtain ⟨y, hy, rfl⟩ := List.mem_map.1 ha
    obtain rfl : b = x.n := by simpa using hb
    exact hno y hy e
  · rcases List.mem_append.1 hy with hy | hy
    · exact h.fits y hy
    · obtain rfl := List.mem_singleton.1 hy
      exact hf
  · refine ⟨hbs.1.os.trans (hg6.os.trans hb1.os), hbs.1.tape.trans (hg6.tape.trans hb1.tape), hbs.1.output.trans (hg6.output.trans hb1.output), Nat.le_trans hs hbs.1.size, fun k hk => ?_⟩
    have := h.lo.2
    exact (hbs.1.block k hk).trans ((hg6.block k (show k < W1.heap.size from Nat.lt_of_lt_of_le (Nat.lt_of_lt_of_le hk hB) hb1.size) (fun e => by injection e with e; omega)).trans (hb1.block k (by omega)))
theorem MM.row {B g mb : Nat} {d : List PR} {w : World} (h : MM B g mb d w) {i : Nat} (hi : i < d.length) : ∃ q cap, w.heap[g]? = some (.cells #[.slice (some ⟨q, 0, none⟩) d.length cap, .map (some mb)] 55 (0, 0)) ∧ RowG 60 q d w := by
  obtain ⟨pv, h1, h2, h3⟩ := h.top
  rcases given_of_row h2 h3 with ⟨rfl, _⟩ | ⟨_, q, cap, rfl, hr⟩
  · cases hi
  · exact ⟨q, cap, h1, hr⟩
set_option maxRecDepth 100000 in
set_option maxHeartbeats 4000000 in
theorem become_any {B g mb : Nat} {d : List PR} {n : ByteArray} {t : T} {a : Option Addr} {c : Nat} {w : World} (h : MM B g mb d w) (hB : B ≤ w.heap.size) (hn : n.size ≤ 1000) (hd : d.length ≤ 1000000) (hf : Fits t) (ht : TysAt w (.slice a t.kids.length c) t.kids) :
    Calls Try.prog 19 #[mp g, .string n, .agg #[.int .i64 t.kind, .string t.name, .slice a t.kids.length c]] w fun e w' => BecR B g mb d n t w e w' := by
  have hb1 := below_a w (.cells #[.int .i64 t.kind, .string t.name, .slice a t.kids.length c] 26)
  have hx1 := alloc_new w (.cells #[.int .i64 t.kind, .string t.name, .slice a t.kids.length c] 26)
  have h1 := h.below hb1
  have ht1 := ht.keep (KeepT.of_below hb1)
  have hs1 : w.heap.size < (w.alloc (.cells #[.int .i64 t.kind, .string t.name, .slice a t.kids.length c] 26)).heap.size := (Array.getElem?_eq_some_iff.1 hx1).1
  obtain ⟨f, hM, hP⟩ := h1.map
  have hlk := hM.look n (by unfold maxLen; omega)
  obtain ⟨x0, x1, x2⟩ := three_cells hx1
  obtain ⟨kt, hkt⟩ : ∃ k, t.kind = k := ⟨_, rfl⟩
  cases hfn : f n with
  | some i =>
    rw [hfn] at hlk
    simp only [Option.getD_some, Option.isSome_some] at hlk
    obtain ⟨hi, hin⟩ := (hP n).1 i hfn
    have hl := (plp_lk hP h1.one n).1 i hfn
    obtain ⟨q, cap, hg, hr⟩ := h1.row hi
    have g0 := (Lib.cell_of_heap hg 0).trans rfl
    have g1 := (Lib.cell_of_heap hg 1).trans rfl
    have gl := (Array.getElem?_eq_some_iff.1 hg).1
    obtain ⟨r0, r1, r2, r3⟩ := hr.cells hi
    obtain ⟨x, hx⟩ : ∃ x, d.getD i noP = x := ⟨_, rfl⟩
    rw [hx] at r0 r1 r2 r3 hl
    have hxm : x ∈ d := by rw [← hx]; simp [List.getD, hi]
    have hbd := below_d (w.alloc (.cells #[.int .i64 t.kind, .string t.name, .slice a t.kids.length c] 26))
    have hS := same_any (t := x.t) (t' := t) (h1.fits x hxm) ((h1.typ x hxm).keep (KeepT.of_below hbd)) (ht1.keep (KeepT.of_below hbd))
    rw [cmp_eqB] at hS
    simp only [tyV] at hS
    have HS := Lib.hid hS
    have HFin : Hid (∀ w2, Below (w.alloc (.cells #[.int .i64 t.kind, .string t.name, .slice a t.kids.length c] 26)).drew.heap.size (w.alloc (.cells #[.int .i64 t.kind, .string t.name, .slice a t.kids.length c] 26)).drew w2 → BecR B g mb d n t w (.returned (.bool (eqB x.t t))) w2) := Lib.hid fun w2 hb2 => by
      have hb := hb1.trans ((hbd.trans hb2).mono (Nat.le_of_lt hs1))
      unfold BecR; rw [hl]
      exact ⟨⟨rfl, h.below hb⟩, KeepM.of_below hb, hb.mono hB⟩
    have hiz : (i : Int) < (d.length : Int) := by omega
    have hiz0 : (0 : Int) ≤ (i : Int) := by omega
    clear h h1 ht ht1 hb1 hx1 hM hP hfn hr hg hx hxm hl hf hS hbd hin
    obtain ⟨sm, hsm⟩ : ∃ b, eqB x.t t = b := ⟨_, rfl⟩
    rw [hsm] at HS HFin
    rw [hkt] at *
    clear hsm hkt
    go_enter Try.func19, Try.ntmps19
    go_wp2
    go_region_with (go_at_call 23; refine HS.out.mono ?_; rintro e w2 ⟨rfl, hb2⟩; have HB2 := Lib.hid hb2; clear hb2)
    all_goals
      go_wp2
      refine bodyPost_ret (v := .bool sm) (by simp [results, Try.results19, go_sem, Act.put]) rfl ?_
      exact HFin.out _ HB2.out
  | none =>
    rw [hfn] at hlk
    simp only [Option.getD_none, Option.isSome_none] at hlk
    have hl := (plp_lk hP h1.one n).2 hfn
    obtain ⟨pv, hg, ho, hnil⟩ := h1.top
    obtain ⟨pa, pc, rfl⟩ := row_val ho
    have g0 := (Lib.cell_of_heap hg 0).trans rfl
    have g1 := (Lib.cell_of_heap hg 1).trans rfl
    have gl := (Array.getElem?_eq_some_iff.1 hg).1
    have hbd := below_d (w.alloc (.cells #[.int .i64 t.kind, .string t.name, .slice a t.kids.length c] 26))
    have hMd := hM.kept (row := none) (grown_below hbd) (by simp)
    obtain ⟨w6, hup, hM6, hg6⟩ := hMd.upd (g := fun k => if k = n then some d.length else f k) (by unfold maxLen; omega) n (by unfold maxLen; omega) d.length (by omega) (fun k => rfl)
    have hgm : mb ≠ g := fun e => hM.ne hg e
    have ng : ¬ (some mb = (Value.slice pa d.length pc).ownBlock) := fun e => by
      have := (own_below ho hbd).2
      rcases this with ⟨e', _⟩ | ⟨q, cap, cur, e', _, hq, _⟩
      · rw [e'] at e; cases e
      · rw [e'] at e
        obtain rfl : mb = q := by simpa [Value.ownBlock] using e
        exact hMd.ne hq rfl
    have k6 : ∀ {k : Nat} {o : Obj}, (w.alloc (.cells #[.int .i64 t.kind, .string t.name, .slice a t.kids.length c] 26)).heap[k]? = some o → k ≠ mb → w6.heap[k]? = some o := fun hk hne => (hg6.block _ (Array.getElem?_eq_some_iff.1 hk).1 (fun e => hne (by injection e))).trans hk
    have hg' := k6 hg (Ne.symm hgm)
    have hx' := k6 hx1 (fun e => by subst e; exact hM.ne hx1 rfl)
    have ho' := (own_below ho hbd).kept hg6 (.inr (Ne.symm ng))
    have hlo := h.lo
    have hs6 : (w.alloc (.cells #[.int .i64 t.kind, .string t.name, .slice a t.kids.length c] 26)).heap.size ≤ w6.heap.size := hg6.size
    obtain ⟨c0, c1, c2⟩ := three_cells hx'
    have no5 : (Value.slice pa d.length pc).ownBlock ≠ some w.heap.size := fun e => by
      rcases ho'.2 with ⟨e', _⟩ | ⟨q, cap, cur, e', _, hq, _⟩
      · rw [e'] at e; cases e
      · rw [e'] at e
        obtain rfl : q = w.heap.size := by simpa [Value.ownBlock] using e
        rw [hx'] at hq; cases hq
    have ne5 : w.heap.size ≠ g := fun e => by rw [e] at hx'; rw [hg'] at hx'; cases hx'
    have HEnd : Hid (∀ V zg zc, BcS B g (.slice pa d.length pc) w6 V → V.heap[g]? = some (.cells #[.slice (some ⟨zg, 0, none⟩) (d.length + 1) zc, .map (some mb)] 55 (0, 0)) → V.ownsRow B 60 4 (.slice (some ⟨zg, 0, none⟩) (d.length + 1) zc) (d.length + 1) (cellsP d ++ encP ⟨n, t, a, c⟩) → BecR B g mb d n t w (.returned (.bool true)) V) := Lib.hid fun V zg zc b1 b2 b3 => bec_end (x := ⟨n, t, a, c⟩) h hb1 hB hl hP ((hP n).2 hfn) hf ht hM6 hg6 hgm (Ne.symm ng) ho' b1 b2 b3
    have HO := Lib.hid ho'; have HG := Lib.hid hg'
    clear h h1 ht ht1 hb1 hx1 hM hP hfn hg hl hf hbd hMd ho hg' hx' ho' hM6 hg6 k6 hnil hkt
    go_enter Try.func19, Try.ntmps19
    go_wp2
    go_region
    all_goals
      go_wp2
      refine bcm_here (w := w6) (bb := B) (g := g) (mb := mb) (b5 := w.heap.size) (pr := ⟨n, t, a, c⟩) (ds := d) (pv := .slice pa d.length pc) (by omega) ⟨hlo.1, by omega⟩ (by omega) ⟨by omega, ne5, no5⟩ HO.out HG.out c0 c1 c2 w6 (by kernel_rfl) (by kernel_rfl) (by kernel_rfl) (by kernel_rfl) (by kernel_rfl) ((BcS.refl _ _ _ _).below (below_d w6) (by omega)) (below_d w6) ?_
      intro xv V zg zc hbs htop hown
      have HR := Lib.hid (HEnd.out V zg zc hbs htop hown)
      clear hbs htop hown
      simp only [bcmFr]
      simp only [Array.getD_eq_getD_getElem?, List.getElem?_toArray, List.getElem?_cons_succ, List.getElem?_cons_zero, Option.getD_some]
      go_wp2
      refine bodyPost_ret (v := .bool true) (by simp [results, Try.results19, go_sem]) rfl ?_
      exact HR.out
end Go.Proofs.Ytdcfemojkdoakaa
/- the document's match: its last statement, a region of 11 operations that draws its order, by an invariant. (Made by a program.) -/
namespace Go.Proofs.Ytdcfemojkdoakaa
open Go.RowKit Go.Sort Go.Lib
attribute [local go_sem] Oper.semAt_some

def mtcFr (b : Nat → Value) (d : List Deferred) (x : Nat → Value) : Act := { tmps := #[b 0, b 1, b 2, b 3, b 4, b 5, x 9, x 10, b 8, b 9, b 10, b 11, b 12, b 13, b 14, b 15, b 16, b 17, b 18, b 19, b 20, b 21, b 22, b 23, b 24, b 25, b 26, x 0, x 1, x 2, x 3, x 4, x 5, x 6, x 7, x 8, b 36, b 37, b 38, b 39, b 40, b 41, b 42, b 43, b 44, b 45, b 46, b 47, b 48, b 49, b 50, b 51, b 52, b 53, b 54, b 55, b 56, b 57, b 58, b 59, b 60, b 61, b 62, b 63, b 64, b 65, b 66, b 67, b 68, b 69, b 70, b 71, b 72, b 73, b 74, b 75, b 76, b 77, b 78, b 79, b 80, b 81, b 82, b 83], defers := d }

def mtcVals (b4 : Nat) (pr : PR) (ds : List PR) (sv : Value) (w : World) (i : Nat) (v : Value) (V : World) : Prop :=
  match i with
  | 0 => ∃ zg, v = .slice (some ⟨zg, 0, none⟩) 0 0 ∧ True
  | 1 => v = sv
  | 2 => ∃ zg zc, v = .slice (some ⟨zg, 0, none⟩) ds.length zc ∧ True
  | 3 => v = .pointer (some ⟨b4, 1, none⟩)
  | 4 => v = .string pr.n
  | 5 => v = .agg #[.int .i64 pr.t.kind, .string pr.t.name, .slice pr.a pr.t.kids.length pr.c]
  | 6 => v = .agg #[.string pr.n, .int .i64 pr.t.kind, .string pr.t.name, .slice pr.a pr.t.kids.length pr.c]
  | 7 => ∃ zg, v = .slice (some ⟨zg, 0, none⟩) 1 1 ∧ True
  | 8 => ∃ zg zc, v = .slice (some ⟨zg, 0, none⟩) (ds.length + 1) zc ∧ V.ownsRow w.heap.size 49 4 (.slice (some ⟨zg, 0, none⟩) (ds.length + 1) zc) (ds.length + 1) (cellsP ds ++ encP pr)
  | 9 => ∃ zg zc, v = .slice (some ⟨zg, 0, none⟩) (ds.length + 1) zc ∧ V.ownsRow w.heap.size 49 4 (.slice (some ⟨zg, 0, none⟩) (ds.length + 1) zc) (ds.length + 1) (cellsP ds ++ encP pr)
  | 10 => v = .bool true
  | _ => True

theorem mtcVals_keep {b4 : Nat} {pr : PR} {ds : List PR} {sv : Value} {w : World} (i : Nat) (v : Value) (V Y : World) (h : mtcVals b4 pr ds sv w i v V) (hb : Below V.heap.size V Y) : mtcVals b4 pr ds sv w i v Y := by
  unfold mtcVals at *
  split at h <;> first
    | exact h
    | (obtain ⟨zg, e, h⟩ := h; exact ⟨zg, e, h⟩)
    | (obtain ⟨zg, zc, e, h⟩ := h; exact ⟨zg, zc, e, h⟩)
    | (obtain ⟨zg, zc, e, h⟩ := h; exact ⟨zg, zc, e, own_below h hb⟩)

theorem mtcVals_any {b4 : Nat} {pr : PR} {ds : List PR} {sv : Value} {w : World} (i : Nat) (v : Value) (V Y : World) (h8 : i ≠ 8) (h9 : i ≠ 9) (h : mtcVals b4 pr ds sv w i v V) : mtcVals b4 pr ds sv w i v Y := by
  unfold mtcVals at *
  split at h <;> first
    | exact h
    | exact absurd rfl h8
    | exact absurd rfl h9

end Go.Proofs.Ytdcfemojkdoakaa
