/- Merged: RegTail, UgFoundF, UgFoundS, UgFoundG. -/
import Derived.Test.YthpphjkoiipkkaaDoorUm11
import Derived.Test.YthpphjkoiipkkaaDoorUm12
import Derived.Test.YthpphjkoiipkkaaDoorUm18
import Derived.Deep.AppendLies
/- A region that draws its order and ends with an append and the assignment of what it gives: all but these two by an invariant. -/
namespace Go.Proofs.YthpphjkoiipkkaaDoor

section
variable {P : Program} {ops : Array Oper} {Q : Exit → Act → World → Prop} {fr : (Nat → Value) → Act} {S : World → Prop} {Rel : World → World → Prop} {Vals : Nat → Value → World → Prop} {s : Nat}

/-- What is asked of the last operation, behind the last but one. -/
def LastOf (P : Program) (ops : Array Oper) (Q : Exit → Act → World → Prop) (o : Oper) (a : Act) (w : World) : Prop :=
  ∀ K : Act → World → Prop, (∀ v w', Q .normal (a.put o.dst v) w' → K (a.put o.dst v) w') → if Region.wanted o (yielded ops a.tmps) = true then Oper.wp P o a w K Q else K (a.put o.dst undef) w

theorem count_low {l : Array Bool} (hz : l.size = s + 2) (h0 : l.getD s false = false) (h1 : l.getD (s + 1) false = false) : l.toList.count true ≤ s := by
  have hl : l.toList.length = s + 2 := by simpa using hz
  have : l.toList.count true = (l.toList.take s).count true + (l.toList.drop s).count true := by rw [← List.count_append, List.take_append_drop]
  have hd : (l.toList.drop s).count true = 0 := by
    rw [List.count_eq_zero]
    intro hm
    obtain ⟨k, hk, e⟩ := List.getElem_of_mem hm
    rw [List.length_drop, hl] at hk
    rw [List.getElem_drop] at e
    have : k = 0 ∨ k = 1 := by omega
    rcases this with rfl | rfl
    · simp [show s < l.size by omega] at h0; simp at e; rw [h0] at e; cases e
    · simp [show s + 1 < l.size by omega] at h1; simp at e; rw [h1] at e; cases e
  have ht : (l.toList.take s).count true ≤ s := Nat.le_trans List.count_le_length (by rw [List.length_take]; omega)
  omega

theorem tail_any {o1 o2 : Oper} (ho1 : ops[s]? = some o1) (ho2 : ops[s + 1]? = some o2) (hsz : ops.size = s + 2) (hput : ∀ i o, i < s → ops[i]? = some o → StepAt P fr S Rel Vals ops Q i o)
    (hb1 : ∀ e ∈ o1.after, Region.binds .any e = true → e.on < s) (hb2 : ∀ e ∈ o2.after, Region.binds .any e = true → e.on < s + 1) (hd2 : ∃ e ∈ o2.after, Region.binds .any e = true ∧ e.on = s)
    (hcov : ∀ i, i < s → ∃ j o e, i < j ∧ j ≤ s ∧ ops[j]? = some o ∧ e ∈ o.after ∧ Region.binds .any e = true ∧ e.on = i)
    (hrel : ∀ w w', S w → Rel w w' → S w') (hval : ∀ i v w w', S w → Vals i v w → Rel w w' → Vals i v w')
    (hlast : ∀ x w, S w → (∀ i, i < s → Vals i (x i) w) → ∀ K : Act → World → Prop, (∀ v w', LastOf P ops Q o2 ((fr x).put o1.dst v) w' → K ((fr x).put o1.dst v) w') →
      if Region.wanted o1 (yielded ops (fr x).tmps) = true then Oper.wp P o1 (fr x) w K Q else K ((fr x).put o1.dst undef) w) :
    ∀ (fuel : Nat) (listed : Array Bool) (x : Nat → Value) (w : World), listed.size = ops.size → ops.size ≤ fuel + listed.toList.count true → S w → listed.getD s false = false → listed.getD (s + 1) false = false →
      (∀ j o, listed.getD j false = true → ops[j]? = some o → ∀ e ∈ o.after, Region.binds .any e = true → listed.getD e.on false = true) →
      (∀ i, listed.getD i false = true → Vals i (x i) w) → wpAny P .any ops Q fuel listed (fr x) w := by
  have hback : ∀ i o, ops[i]? = some o → ∀ e ∈ o.after, Region.binds .any e = true → e.on < i := fun i o ho => by
    have hi : i < s + 2 := by rw [← hsz]; exact (Array.getElem?_eq_some_iff.1 ho).1
    by_cases e : i = s
    · subst e; rw [ho1] at ho; cases ho; exact hb1
    · by_cases e2 : i = s + 1
      · subst e2; rw [ho2] at ho; cases ho; exact hb2
      · exact (hput i o (by omega) ho).back
  have hend : ∀ (listed : Array Bool), listed.size = ops.size → listed.getD (s + 1) false = false → Region.ready .any ops listed = [] → False := fun listed hz h0 h => by
    have := all_of_none hback hz h (s + 1) (by omega)
    rw [h0] at this; cases this
  intro fuel
  induction fuel with
  | zero =>
    intro listed x w hz hc hS h0 h1 hcl hV
    have := count_low (s := s) (by omega) h0 h1
    omega
  | succ fuel ih =>
    intro listed x w hz hc hS h0 h1 hcl hV
    refine ⟨fun h => (hend listed hz h1 h).elim, fun i hi => ?_⟩
    obtain ⟨hi0, o, ho, hdep⟩ := mem_ready.1 hi
    have hlt : i < listed.size := by rw [hz]; exact (Array.getElem?_eq_some_iff.1 ho).1
    have hi0' : listed[i] = false := by simpa [hlt] using hi0
    have hsetD : ∀ j, (listed.setIfInBounds i true).getD j false = true → j = i ∨ listed.getD j false = true := fun j hj => by
      by_cases hji : j = i
      · exact .inl hji
      · rw [getD_set_ne false (Ne.symm hji)] at hj; exact .inr hj
    have hsetI : (listed.setIfInBounds i true).getD i false = true := by simp [hlt]
    have hmono : ∀ j, listed.getD j false = true → (listed.setIfInBounds i true).getD j false = true := fun j hj => by
      by_cases hji : j = i
      · subst hji; exact hsetI
      · rw [getD_set_ne false (Ne.symm hji)]; exact hj
    by_cases hi2 : i = s + 1
    · subst hi2
      rw [ho2] at ho; cases ho
      obtain ⟨e, he, hb, hon⟩ := hd2
      have := hdep e he hb
      rw [hon, h0] at this; cases this
    by_cases his : i = s
    · subst his
      rw [ho1] at ho; cases ho
      have hall : ∀ j, j < i → listed.getD j false = true := fun j hj => all_ahead hcov hcl (fun o' ho' => by rw [ho1] at ho'; cases ho'; exact hdep) (i - j) j (by omega) (by omega)
      have hcl2 := count_low (s := i) (by omega) h0 h1
      obtain ⟨fuel', rfl⟩ : ∃ f, fuel = f + 1 := ⟨fuel - 1, by omega⟩
      have hK : ∀ v w', LastOf P ops Q o2 ((fr x).put o1.dst v) w' → wpAny P .any ops Q (fuel' + 1) (listed.setIfInBounds i true) ((fr x).put o1.dst v) w' := fun v w' hq => by
        refine ⟨fun h => (hend _ (by simpa using hz) (by rw [getD_set_ne false (by omega)]; exact h1) h).elim, fun j hj => ?_⟩
        obtain ⟨hj0, oj, hoj, hjd⟩ := mem_ready.1 hj
        have hjl : j < i + 2 := by rw [← hsz]; exact (Array.getElem?_eq_some_iff.1 hoj).1
        have hj2 : j = i + 1 := by
          by_cases e : j = i
          · subst e; rw [getD_tt hsetI] at hj0; cases hj0
          · by_cases e2 : j = i + 1
            · exact e2
            · have := hmono j (hall j (by omega))
              rw [getD_tt this] at hj0; cases hj0
        subst hj2
        rw [ho2] at hoj; cases hoj
        have hK2 : ∀ v2 w2, Q .normal (((fr x).put o1.dst v).put o2.dst v2) w2 → wpAny P .any ops Q fuel' ((listed.setIfInBounds i true).setIfInBounds (i + 1) true) (((fr x).put o1.dst v).put o2.dst v2) w2 := fun v2 w2 hq2 => by
          have hlt2 : i + 1 < listed.size := by omega
          have hnone : Region.ready .any ops ((listed.setIfInBounds i true).setIfInBounds (i + 1) true) = [] := by
            cases h : Region.ready .any ops ((listed.setIfInBounds i true).setIfInBounds (i + 1) true) with
            | nil => rfl
            | cons k l =>
              have hk : k ∈ Region.ready .any ops ((listed.setIfInBounds i true).setIfInBounds (i + 1) true) := by rw [h]; simp
              obtain ⟨hk0, ok, hok, _⟩ := mem_ready.1 hk
              have hkl : k < i + 2 := by rw [← hsz]; exact (Array.getElem?_eq_some_iff.1 hok).1
              have : ((listed.setIfInBounds i true).setIfInBounds (i + 1) true).getD k false = true := by
                by_cases e : k = i + 1
                · subst e; simp [hlt2]
                · rw [getD_set_ne false (Ne.symm e)]
                  by_cases e2 : k = i
                  · subst e2; exact hsetI
                  · exact hmono k (hall k (by omega))
              rw [getD_tt this] at hk0; cases hk0
          cases fuel' with
          | zero => exact ⟨hnone, hq2⟩
          | succ f => exact ⟨fun _ => hq2, fun j hj => by rw [hnone] at hj; cases hj⟩
        have := hq _ hK2
        unfold wpOp
        simp only [ho2]
        split
        · rename_i hw; rw [if_pos hw] at this; exact .inl this
        · rename_i hw; rw [if_neg hw] at this; exact this
      have := hlast x w hS (fun j hj => hV j (hall j hj)) _ hK
      unfold wpOp
      simp only [ho1]
      split
      · rename_i hw; rw [if_pos hw] at this; exact .inl this
      · rename_i hw; rw [if_neg hw] at this; exact this
    · have hil : i < s := by have := (Array.getElem?_eq_some_iff.1 ho).1; omega
      have H := hput i o hil ho
      have hK : ∀ v w', Rel w w' → Vals i v w' → wpAny P .any ops Q fuel (listed.setIfInBounds i true) ((fr x).put o.dst v) w' := fun v w' hr hv => by
        rw [H.put]
        refine ih _ _ _ (by simpa using hz) ?_ (hrel w w' hS hr) (by rw [getD_set_ne false his]; exact h0) (by rw [getD_set_ne false hi2]; exact h1) (fun j oj hj hoj e he hb => ?_) fun j hj => ?_
        · have : (listed.setIfInBounds i true).toList.count true = listed.toList.count true + 1 := by
            rw [Array.toList_setIfInBounds, List.count_set (by simpa using hlt)]
            simp [hi0']
          omega
        · rcases hsetD j hj with rfl | hj'
          · rw [ho] at hoj; cases hoj
            exact hmono _ (hdep e he hb)
          · exact hmono _ (hcl j oj hj' hoj e he hb)
        · by_cases hji : j = i
          · subst hji; rw [upd_same]; exact hv
          · rw [upd_other x v hji]
            exact hval _ _ _ _ hS (hV j (by rw [getD_set_ne false (Ne.symm hji)] at hj; exact hj)) hr
      have := H.run x w hS (fun e he hb => hV e.on (hdep e he hb)) _ hK
      unfold wpOp
      simp only [ho]
      split
      · rename_i hw; rw [if_pos hw] at this; exact .inl this
      · rename_i hw; rw [if_neg hw] at this; exact this

/-- What is asked of all but the last two operations, and of these. -/
def AllTail (f : Nat → Oper → Prop) (g : Oper → Oper → Prop) : Nat → List Oper → Prop
  | _, [] => False
  | _, [_] => False
  | _, [o, o'] => g o o'
  | n, o :: o' :: o'' :: os => f n o ∧ AllTail f g (n + 1) (o' :: o'' :: os)
theorem AllTail.get {f : Nat → Oper → Prop} {g : Oper → Oper → Prop} : ∀ {l : List Oper} {n : Nat}, AllTail f g n l → (∀ {i : Nat} {o : Oper}, l[i]? = some o → i + 2 < l.length → f (n + i) o) ∧ (∀ {i : Nat} {o o' : Oper}, l[i]? = some o → l[i + 1]? = some o' → i + 2 = l.length → g o o')
  | [], _, h => h.elim
  | [_], _, h => h.elim
  | [a, b], n, h => ⟨fun {i o} _ hi => by simp at hi; omega, fun {i o o'} h1 h2 hi => by
      have : i = 0 := by simp at hi; omega
      subst this; simp at h1 h2; subst h1; subst h2; exact h⟩
  | a :: b :: c :: l, n, h => by
    obtain ⟨r1, r2⟩ := AllTail.get h.2
    refine ⟨fun {i o} h1 hi => ?_, fun {i o o'} h1 h2 hi => ?_⟩
    · cases i with
      | zero => simp at h1; subst h1; exact h.1
      | succ i =>
        have := r1 (i := i) (o := o) (by simpa using h1) (by simp at hi ⊢; omega)
        rw [show n + (i + 1) = n + 1 + i by omega]; exact this
    · cases i with
      | zero => simp at hi
      | succ i => exact r2 (i := i) (by simpa using h1) (by simpa using h2) (by simp at hi ⊢; omega)

/-- What is asked of the last but one. -/
structure TailAt (P : Program) (fr : (Nat → Value) → Act) (S : World → Prop) (Vals : Nat → Value → World → Prop) (ops : Array Oper) (Q : Exit → Act → World → Prop) (s : Nat) (o o2 : Oper) : Prop where
  back : ∀ e ∈ o.after, Region.binds .any e = true → e.on < s
  back2 : ∀ e ∈ o2.after, Region.binds .any e = true → e.on < s + 1
  dep : ∃ e ∈ o2.after, Region.binds .any e = true ∧ e.on = s
  run : ∀ (x : Nat → Value) (w : World), S w → (∀ i, i < s → Vals i (x i) w) → ∀ K : Act → World → Prop, (∀ v w', LastOf P ops Q o2 ((fr x).put o.dst v) w' → K ((fr x).put o.dst v) w') →
      if Region.wanted o (yielded ops (fr x).tmps) = true then Oper.wp P o (fr x) w K Q else K ((fr x).put o.dst undef) w

theorem region_tail (fr : (Nat → Value) → Act) (S : World → Prop) (Rel : World → World → Prop) (Vals : Nat → Value → World → Prop) (x0 : Nat → Value) (s : Nat) {id : Nat} {a : Act} {w : World}
    (hm : P.follows .mixedOrders = true) (ha : a = fr x0) (hS : S w.drew) (hsz : ops.size = s + 2) (hcov : covered ops s = true)
    (hrel : ∀ w w', S w → Rel w w' → S w') (hval : ∀ i v w w', S w → Vals i v w → Rel w w' → Vals i v w')
    (hops : AllTail (StepAt P fr S Rel Vals ops Q) (TailAt P fr S Vals ops Q s) 0 ops.toList) : (Code.region id ops true).wp P Q a w := by
  subst ha
  refine wp_region_any hm ?_
  obtain ⟨g1, g2⟩ := hops.get
  obtain ⟨o1, ho1⟩ : ∃ o, ops[s]? = some o := ⟨ops[s]'(by omega), Array.getElem?_eq_getElem (by omega)⟩
  obtain ⟨o2, ho2⟩ : ∃ o, ops[s + 1]? = some o := ⟨ops[s + 1]'(by omega), Array.getElem?_eq_getElem (by omega)⟩
  have T := g2 (i := s) (by simpa using ho1) (by simpa using ho2) (by simp [hsz])
  refine tail_any ho1 ho2 hsz (fun i o hi h => ?_) T.back T.back2 T.dep (covered_get hcov) hrel hval T.run _ _ _ _ (by simp) (by simp) hS (by simp [hsz]) (by simp [hsz]) (fun j o hj => ?_) (fun i hi => ?_)
  · have := g1 (i := i) (o := o) (by simpa using h) (by simp [hsz]; omega); rwa [Nat.zero_add] at this
  · by_cases h : j < ops.size
    · simp [h] at hj
    · simp [h] at hj
  · by_cases h : i < ops.size
    · simp [h] at hi
    · simp [h] at hi
end
end Go.Proofs.YthpphjkoiipkkaaDoor
/- found: what its second loop's drawn region keeps. -/
namespace Go.Proofs.YthpphjkoiipkkaaDoor
open Go.RowKit Go.Maps Go.Sort Go.Lib
attribute [local go_sem] Oper.semAt_some

/-- The cells that a part's round reads. -/
structure TC (p b2 b5 b14 M N r g : Nat) (x : PR) (w : World) : Prop where
  c2 : w.cell? ⟨b2, 0, none⟩ = some (gp g)
  c5 : w.cell? ⟨b5, 0, none⟩ = some (.slice (some ⟨M, 0, none⟩) N N)
  m0 : w.cell? ⟨M, r * 3, none⟩ = some (.int .i64 x.t.kind)
  m1 : w.cell? ⟨M, r * 3 + 1, none⟩ = some (.string x.t.name)
  m2 : w.cell? ⟨M, r * 3 + 2, none⟩ = some (.slice x.a x.t.kids.length x.c)
  n1 : w.cell? ⟨b14, 1, none⟩ = some (.string x.n)
  ne : b2 ≠ p ∧ b5 ≠ p ∧ M ≠ p ∧ b14 ≠ p ∧ p < w.heap.size
theorem TC.fr {p b2 b5 b14 M N r g : Nat} {x : PR} {w v : World} (h : TC p b2 b5 b14 M N r g x w) (hf : Fr p w v) : TC p b2 b5 b14 M N r g x v := by
  obtain ⟨c2, c5, m0, m1, m2, n1, e0, e1, e2, e3, e4⟩ := h
  exact ⟨hf.cell c2 e0, hf.cell c5 e1, hf.cell m0 e2, hf.cell m1 e2, hf.cell m2 e2, hf.cell n1 e3, e0, e1, e2, e3, Nat.lt_of_lt_of_le e4 hf.1.size⟩
def TSt (B : Nat) (G : Gr) (rt : Nat → Nat) (E c g mb p cap : Nat) (sl : Nat → Value) (b2 b5 b14 M r : Nat) (x : PR) (wr V : World) : Prop :=
  GM B G rt E c g mb (.slice (some ⟨p, 0, none⟩) G.N cap) sl V ∧ Fr p wr V ∧ TC p b2 b5 b14 M G.N r g x V
theorem TSt.step {B : Nat} {G : Gr} {rt : Nat → Nat} {E c g mb p cap : Nat} {sl : Nat → Value} {b2 b5 b14 M r : Nat} {x : PR} {wr V Y : World} (h : TSt B G rt E c g mb p cap sl b2 b5 b14 M r x wr V) (hr : FRel B G rt E c g mb p cap sl V Y) : TSt B G rt E c g mb p cap sl b2 b5 b14 M r x wr Y :=
  ⟨hr.1, h.2.1.trans hr.2, h.2.2.fr hr.2⟩
theorem TSt.rel {B : Nat} {G : Gr} {rt : Nat → Nat} {E c g mb p cap : Nat} {sl : Nat → Value} {b2 b5 b14 M r : Nat} {x : PR} {wr V : World} (h : TSt B G rt E c g mb p cap sl b2 b5 b14 M r x wr V) : FRel B G rt E c g mb p cap sl V V := ⟨h.1, Fr.refl _ _⟩
theorem TSt.made {B : Nat} {G : Gr} {rt : Nat → Nat} {E c g mb p cap : Nat} {sl : Nat → Value} {b2 b5 b14 M r : Nat} {x : PR} {wr V : World} (h : TSt B G rt E c g mb p cap sl b2 b5 b14 M r x wr V) (o : Obj) : FRel B G rt E c g mb p cap sl V (V.alloc o) :=
  ⟨h.1.keep ((Below.refl _ V).alloc (Nat.le_refl _) o), Fr.of_below ((Below.refl _ V).alloc (Nat.le_refl _) o)⟩
theorem TSt.start {B : Nat} {G : Gr} {rt : Nat → Nat} {E c g mb p cap : Nat} {sl : Nat → Value} {b2 b5 b14 M r : Nat} {x : PR} {wr : World} (h : GM B G rt E c g mb (.slice (some ⟨p, 0, none⟩) G.N cap) sl wr) (hc : TC p b2 b5 b14 M G.N r g x wr) : TSt B G rt E c g mb p cap sl b2 b5 b14 M r x wr wr.drew :=
  ⟨h.drew, (Fr.refl _ _).drew, hc.fr (Fr.refl _ _).drew⟩
/-- The row of one pair that is to be appended. -/
def RowX (p : Nat) (x : PR) (zb : Nat) (V : World) : Prop := V.heap[zb]? = some (.cells #[.string x.n, .int .i64 x.t.kind, .string x.t.name, .slice x.a x.t.kids.length x.c] 93 (0, 0)) ∧ zb ≠ p
theorem RowX.fr {p : Nat} {x : PR} {zb : Nat} {V Y : World} (h : RowX p x zb V) (hf : Fr p V Y) : RowX p x zb Y := ⟨(hf.2 zb (Array.getElem?_eq_some_iff.1 h.1).1 h.2).trans h.1, h.2⟩
theorem RowX.news {p : Nat} {x : PR} {zb : Nat} {V : World} (h : RowX p x zb V) : ∀ j u, (encP x)[j]? = some u → V.cell? ((⟨zb, 0, none⟩ : Addr).add j) = some u := by
  intro j u hu
  have hadd : (⟨zb, 0, none⟩ : Addr).add j = ⟨zb, j, none⟩ := by unfold Addr.add; split <;> simp_all
  rw [hadd]
  simp only [World.cell?, h.1]
  simp only [encP] at hu
  match j, hu with
  | 0, hu => simpa using hu
  | 1, hu => simpa using hu
  | 2, hu => simpa using hu
  | 3, hu => simpa using hu
  | n + 4, hu => simp at hu
theorem RowX.new {p : Nat} {x : PR} {V : World} (hp : p < V.heap.size) : RowX p x V.heap.size (V.alloc (.cells #[.string x.n, .int .i64 x.t.kind, .string x.t.name, .slice x.a x.t.kids.length x.c] 93)) := ⟨alloc_new V _, by omega⟩
theorem own_fr {w w' : World} {p base : Nat} {e : TypeId} {size : Nat} {v : Value} {n : Nat} {xs : List Value} (h : w.ownsRow base e size v n xs) (hf : Fr p w w') (hp : p < base) : w'.ownsRow base e size v n xs :=
  own_keep h (fun k _ hk hne => (hf.2 k (Array.getElem?_eq_some_iff.1 hk).1 hne).trans hk) hp
end Go.Proofs.YthpphjkoiipkkaaDoor
/- found: its last statement, a region of 13 operations that draws its order, by an invariant. (Made by a program.) -/
namespace Go.Proofs.YthpphjkoiipkkaaDoor
open Go.RowKit Go.Maps Go.Sort Go.Lib
attribute [local go_sem] Oper.semAt_some

noncomputable def trdOps : Array Oper := regionIn 17 (Tryd.f37.body.getD .skip)
def trdFr (b : Nat → Value) (d : List Deferred) (x : Nat → Value) : Act := { tmps := #[b 0, b 1, b 2, b 3, b 4, b 5, b 6, b 7, b 8, b 9, b 10, b 11, b 12, b 13, b 14, b 15, b 16, b 17, b 18, b 19, b 20, b 21, b 22, b 23, b 24, b 25, b 26, b 27, b 28, b 29, b 30, b 31, b 32, b 33, b 34, b 35, b 36, b 37, b 38, b 39, b 40, b 41, b 42, b 43, b 44, b 45, b 46, b 47, b 48, b 49, b 50, b 51, b 52, b 53, b 54, b 55, b 56, b 57, b 58, b 59, b 60, b 61, b 62, b 63, b 64, b 65, b 66, b 67, b 68, b 69, b 70, b 71, b 72, b 73, b 74, b 75, x 0, x 1, x 2, x 3, x 4, x 5, x 6, x 7, x 8, x 9, x 10, x 11, b 88, b 89, b 90], defers := d }

def trdVals (G : Gr) (rt : Nat → Nat) (g p : Nat) (M b14 ix : Nat) (pr : PR) (lv : Value) (i : Nat) (v : Value) (V : World) : Prop :=
  match i with
  | 0 => v = lv
  | 1 => v = .pointer (some ⟨b14, 1, none⟩)
  | 2 => v = .string pr.n
  | 3 => v = .slice (some ⟨M, 0, none⟩) G.N G.N
  | 4 => v = gp g
  | 5 => v = .int .i64 (ix : Int)
  | 6 => v = .int .i64 (rt ix : Nat)
  | 7 => v = .pointer (some ⟨M, rt ix * 3, none⟩)
  | 8 => v = .agg #[.int .i64 pr.t.kind, .string pr.t.name, .slice pr.a pr.t.kids.length pr.c]
  | 9 => v = .agg #[.string pr.n, .int .i64 pr.t.kind, .string pr.t.name, .slice pr.a pr.t.kids.length pr.c]
  | 10 => ∃ zb, v = .slice (some ⟨zb, 0, none⟩) 1 1 ∧ RowX p pr zb V
  | _ => True

theorem trdVals_keep {G : Gr} {rt : Nat → Nat} {g p : Nat} {M b14 ix : Nat} {pr : PR} {lv : Value} {B : Nat} {E c mb cap : Nat} {sl : Nat → Value} (i : Nat) (v : Value) (V Y : World) (h : trdVals G rt g p M b14 ix pr lv i v V) (hb : FRel B G rt E c g mb p cap sl V Y) : trdVals G rt g p M b14 ix pr lv i v Y := by
  unfold trdVals at *
  split at h <;> first
    | exact h
    | (obtain ⟨zb, e, h⟩ := h; exact ⟨zb, e, h.fr hb.2⟩)

theorem trd_size : trdOps.size = 13 := by kernel_rfl
theorem trd_cov : covered trdOps 11 = true := by kernel_rfl
set_option linter.unusedSimpArgs false in
set_option maxRecDepth 100000 in
set_option maxHeartbeats 8000000 in
theorem trd_region {B : Nat} {G : Gr} {rt : Nat → Nat} {E c g mb p cap : Nat} {sl : Nat → Value} {b2 b5 b14 M base ix : Nat} {pr : PR} {ds : List PR} {lv : Value} {wr : World} (hrz : ((rt ix : Nat) : Int) < (G.N : Int)) (hown : wr.ownsRow base 93 4 lv ds.length (cellsP ds)) (hpb : p < base) (hbw : base ≤ wr.heap.size) (hds : ds.length ≤ 1000) {b : Nat → Value} {d : List Deferred}
    (h12 : b 12 = lv) (h13 : b 13 = .int .i64 (ix : Int)) (h5 : b 5 = .pointer (some ⟨b5, 0, none⟩)) (h2 : b 2 = .pointer (some ⟨b2, 0, none⟩)) (h14 : b 14 = .pointer (some ⟨b14, 0, none⟩))
    (HC6 : ∀ V, TSt B G rt E c g mb p cap sl b2 b5 b14 M (rt ix) pr wr V → Calls Tryd.prog 46 #[gp g, .int .i64 (ix : Int)] V fun e Y => e = .returned (.int .i64 (rt ix : Nat)) ∧ FRel B G rt E c g mb p cap sl V Y)
    {Q : Exit → Act → World → Prop} {ops : Array Oper} (hops : ops = trdOps) (x0 : Nat → Value) (X : World) (hS : TSt B G rt E c g mb p cap sl b2 b5 b14 M (rt ix) pr wr X.drew)
    (hfin : ∀ (x : Nat → Value) V g9 c9 w9, TSt B G rt E c g mb p cap sl b2 b5 b14 M (rt ix) pr wr V → w9.ownsRow base 93 4 (.slice (some ⟨g9, 0, none⟩) (ds.length + 1) c9) (ds.length + 1) (cellsP ds ++ encP pr) → V.grownBy w9 lv.ownBlock → Q .normal (((trdFr b d x).put (some 87) (.slice (some ⟨g9, 0, none⟩) (ds.length + 1) c9)).put (some 12) (.slice (some ⟨g9, 0, none⟩) (ds.length + 1) c9)) w9) : (Code.region 17 ops true).wp Tryd.prog Q (trdFr b d x0) X := by
  have HC := Lib.hid (HC6)
  clear HC6
  have hszo : ops.size = 11 + 2 := by rw [hops]; exact trd_size
  have hcovo : covered ops 11 = true := by rw [hops]; exact trd_cov
  refine region_tail (trdFr b d) (fun V => TSt B G rt E c g mb p cap sl b2 b5 b14 M (rt ix) pr wr V) (fun V Y => FRel B G rt E c g mb p cap sl V Y) (trdVals G rt g p M b14 ix pr lv) x0 11 (by kernel_rfl) rfl hS hszo hcovo (fun V Y h hb => h.step hb) (fun i v V Y _ h hb => trdVals_keep i v V Y h hb) ?_
  have HFIN := Lib.hid hfin
  clear hfin hS hszo hcovo
  obtain ⟨gl, hgl⟩ : ∃ qq, TailAt Tryd.prog (trdFr b d) (fun V => TSt B G rt E c g mb p cap sl b2 b5 b14 M (rt ix) pr wr V) (trdVals G rt g p M b14 ix pr lv) ops Q 11 = qq := ⟨_, rfl⟩
  rw [hgl]
  obtain ⟨f, hf⟩ : ∃ qq, StepAt Tryd.prog (trdFr b d) (fun V => TSt B G rt E c g mb p cap sl b2 b5 b14 M (rt ix) pr wr V) (fun V Y => FRel B G rt E c g mb p cap sl V Y) (trdVals G rt g p M b14 ix pr lv) ops Q = qq := ⟨_, rfl⟩
  rw [hf, hops]
  simp only [trdOps, Tryd.f37, regionIn, Option.getD_some, Nat.reduceBEq, Bool.false_eq_true, if_false, if_true, beq_self_eq_true, Array.append_empty, Array.empty_append, List.append_eq, List.cons_append, List.nil_append, AllTail, Nat.reduceAdd, Nat.zero_add]
  -- 0: slot 76 := Op.move t12
  refine And.intro ?_ ?_
  · clear HFIN hgl
    rw [← hf]; clear hf
    refine ⟨by decide +kernel, fun x v => by kernel_rfl, fun x V hV hdep K hK => ?_⟩
    clear hdep
    refine run_bare (by kernel_rfl) ?_
    unfold trdFr
    go_simp
    refine kfit (hK _ _ (hV.rel) rfl) ?_
    first | (simp only [trdFr, Act.put, List.setIfInBounds_toArray, List.set_cons_zero, List.set_cons_succ, h12, h13, h5, h2, h14]; done) | (simp only [trdFr, Act.put, List.setIfInBounds_toArray, List.set_cons_zero, List.set_cons_succ, h12, h13, h5, h2, h14]; rfl)
  -- 1: slot 77 := Op.fieldAddr 102 t14 1
  refine And.intro ?_ ?_
  · clear HFIN hgl
    rw [← hf]; clear hf
    refine ⟨by decide +kernel, fun x v => by kernel_rfl, fun x V hV hdep K hK => ?_⟩
    clear hdep
    refine run_bare (by kernel_rfl) ?_
    unfold trdFr
    go_simp
    refine kfit (hK _ _ (hV.rel) rfl) ?_
    first | (simp only [trdFr, Act.put, List.setIfInBounds_toArray, List.set_cons_zero, List.set_cons_succ, h12, h13, h5, h2, h14]; done) | (simp only [trdFr, Act.put, List.setIfInBounds_toArray, List.set_cons_zero, List.set_cons_succ, h12, h13, h5, h2, h14]; rfl)
  -- 2: slot 78 := Op.load 9 t77
  refine And.intro ?_ ?_
  · clear HFIN hgl
    rw [← hf]; clear hf
    refine ⟨by decide +kernel, fun x v => by kernel_rfl, fun x V hV hdep K hK => ?_⟩
    have e1 : x 1 = .pointer (some ⟨b14, 1, none⟩) := depOf hdep 1 (by decide +kernel)
    clear hdep
    refine run_bare (by kernel_rfl) ?_
    unfold trdFr
    obtain ⟨y0, y1, y2, y3, y4, y5, y6⟩ := hV.2.2
    go_simp
    refine kfit (hK _ _ (hV.rel) rfl) ?_
    first | (simp only [trdFr, Act.put, List.setIfInBounds_toArray, List.set_cons_zero, List.set_cons_succ, h12, h13, h5, h2, h14, e1]; done) | (simp only [trdFr, Act.put, List.setIfInBounds_toArray, List.set_cons_zero, List.set_cons_succ, h12, h13, h5, h2, h14, e1]; rfl)
  -- 3: slot 79 := Op.load 27 t5
  refine And.intro ?_ ?_
  · clear HFIN hgl
    rw [← hf]; clear hf
    refine ⟨by decide +kernel, fun x v => by kernel_rfl, fun x V hV hdep K hK => ?_⟩
    clear hdep
    refine run_bare (by kernel_rfl) ?_
    unfold trdFr
    obtain ⟨y0, y1, y2, y3, y4, y5, y6⟩ := hV.2.2
    go_simp
    refine kfit (hK _ _ (hV.rel) rfl) ?_
    first | (simp only [trdFr, Act.put, List.setIfInBounds_toArray, List.set_cons_zero, List.set_cons_succ, h12, h13, h5, h2, h14]; done) | (simp only [trdFr, Act.put, List.setIfInBounds_toArray, List.set_cons_zero, List.set_cons_succ, h12, h13, h5, h2, h14]; rfl)
  -- 4: slot 80 := Op.load 96 t2
  refine And.intro ?_ ?_
  · clear HFIN hgl
    rw [← hf]; clear hf
    refine ⟨by decide +kernel, fun x v => by kernel_rfl, fun x V hV hdep K hK => ?_⟩
    clear hdep
    refine run_bare (by kernel_rfl) ?_
    unfold trdFr
    obtain ⟨y0, y1, y2, y3, y4, y5, y6⟩ := hV.2.2
    go_simp
    refine kfit (hK _ _ (hV.rel) rfl) ?_
    first | (simp only [trdFr, Act.put, List.setIfInBounds_toArray, List.set_cons_zero, List.set_cons_succ, h12, h13, h5, h2, h14]; done) | (simp only [trdFr, Act.put, List.setIfInBounds_toArray, List.set_cons_zero, List.set_cons_succ, h12, h13, h5, h2, h14]; rfl)
  -- 5: slot 81 := Op.move t13
  refine And.intro ?_ ?_
  · clear HFIN hgl
    rw [← hf]; clear hf
    refine ⟨by decide +kernel, fun x v => by kernel_rfl, fun x V hV hdep K hK => ?_⟩
    clear hdep
    refine run_bare (by kernel_rfl) ?_
    unfold trdFr
    go_simp
    refine kfit (hK _ _ (hV.rel) rfl) ?_
    first | (simp only [trdFr, Act.put, List.setIfInBounds_toArray, List.set_cons_zero, List.set_cons_succ, h12, h13, h5, h2, h14]; done) | (simp only [trdFr, Act.put, List.setIfInBounds_toArray, List.set_cons_zero, List.set_cons_succ, h12, h13, h5, h2, h14]; rfl)
  -- 6: slot 82 := Op.call { value (Operand.func 46), args := #[t80, t81], argT
  refine And.intro ?_ ?_
  · clear HFIN hgl
    rw [← hf]; clear hf
    refine ⟨by decide +kernel, fun x v => by kernel_rfl, fun x V hV hdep K hK => ?_⟩
    have e4 : x 4 = gp g := depOf hdep 4 (by decide +kernel)
    have e5 : x 5 = .int .i64 (ix : Int) := depOf hdep 5 (by decide +kernel)
    clear hdep
    refine run_bare (by kernel_rfl) ?_
    unfold trdFr
    have HC6 := HC.out
    have H := HC6 V hV
    replace H := Lib.hid H; clear HC6
    go_simp
    go_at_call 46
    refine H.out.mono ?_
    rintro e Y ⟨rfl, hb⟩; refine kfit (hK _ _ hb rfl) ?_
    first | (simp only [trdFr, Act.put, List.setIfInBounds_toArray, List.set_cons_zero, List.set_cons_succ, h12, h13, h5, h2, h14, e4, e5]; done) | (simp only [trdFr, Act.put, List.setIfInBounds_toArray, List.set_cons_zero, List.set_cons_succ, h12, h13, h5, h2, h14, e4, e5]; rfl)
  -- 7: slot 83 := Op.indexAddr 27 t79 t82
  refine And.intro ?_ ?_
  · clear HFIN hgl
    rw [← hf]; clear hf
    refine ⟨by decide +kernel, fun x v => by kernel_rfl, fun x V hV hdep K hK => ?_⟩
    have e3 : x 3 = .slice (some ⟨M, 0, none⟩) G.N G.N := depOf hdep 3 (by decide +kernel)
    have e6 : x 6 = .int .i64 (rt ix : Nat) := depOf hdep 6 (by decide +kernel)
    clear hdep
    refine run_bare (by kernel_rfl) ?_
    unfold trdFr
    go_simp
    refine kfit (hK _ _ (hV.rel) rfl) ?_
    first | (simp only [trdFr, Act.put, List.setIfInBounds_toArray, List.set_cons_zero, List.set_cons_succ, h12, h13, h5, h2, h14, e3, e6]; done) | (simp only [trdFr, Act.put, List.setIfInBounds_toArray, List.set_cons_zero, List.set_cons_succ, h12, h13, h5, h2, h14, e3, e6]; rfl)
  -- 8: slot 84 := Op.load 29 t83
  refine And.intro ?_ ?_
  · clear HFIN hgl
    rw [← hf]; clear hf
    refine ⟨by decide +kernel, fun x v => by kernel_rfl, fun x V hV hdep K hK => ?_⟩
    have e7 : x 7 = .pointer (some ⟨M, rt ix * 3, none⟩) := depOf hdep 7 (by decide +kernel)
    clear hdep
    refine run_bare (by kernel_rfl) ?_
    unfold trdFr
    obtain ⟨y0, y1, y2, y3, y4, y5, y6⟩ := hV.2.2
    go_simp
    refine kfit (hK _ _ (hV.rel) rfl) ?_
    first | (simp only [trdFr, Act.put, List.setIfInBounds_toArray, List.set_cons_zero, List.set_cons_succ, h12, h13, h5, h2, h14, e7]; done) | (simp only [trdFr, Act.put, List.setIfInBounds_toArray, List.set_cons_zero, List.set_cons_succ, h12, h13, h5, h2, h14, e7]; rfl)
  -- 9: slot 85 := Op.build 93 #[(0, t78), (1, t84)]
  refine And.intro ?_ ?_
  · clear HFIN hgl
    rw [← hf]; clear hf
    refine ⟨by decide +kernel, fun x v => by kernel_rfl, fun x V hV hdep K hK => ?_⟩
    have e2 : x 2 = .string pr.n := depOf hdep 2 (by decide +kernel)
    have e8 : x 8 = .agg #[.int .i64 pr.t.kind, .string pr.t.name, .slice pr.a pr.t.kids.length pr.c] := depOf hdep 8 (by decide +kernel)
    clear hdep
    refine run_bare (by kernel_rfl) ?_
    unfold trdFr
    go_simp
    refine kfit (hK _ _ (hV.rel) rfl) ?_
    first | (simp only [trdFr, Act.put, List.setIfInBounds_toArray, List.set_cons_zero, List.set_cons_succ, h12, h13, h5, h2, h14, e2, e8]; done) | (simp only [trdFr, Act.put, List.setIfInBounds_toArray, List.set_cons_zero, List.set_cons_succ, h12, h13, h5, h2, h14, e2, e8]; rfl)
  -- 10: slot 86 := Op.buildSlice 31 1 #[(0, t85)]
  refine And.intro ?_ ?_
  · clear HFIN hgl
    rw [← hf]; clear hf
    refine ⟨by decide +kernel, fun x v => by kernel_rfl, fun x V hV hdep K hK => ?_⟩
    have e9 : x 9 = .agg #[.string pr.n, .int .i64 pr.t.kind, .string pr.t.name, .slice pr.a pr.t.kids.length pr.c] := depOf hdep 9 (by decide +kernel)
    clear hdep
    refine run_bare (by kernel_rfl) ?_
    unfold trdFr
    go_simp
    refine kfit (hK _ _ (hV.made _) ⟨_, rfl, RowX.new hV.2.2.ne.2.2.2.2⟩) ?_
    first | (simp only [trdFr, Act.put, List.setIfInBounds_toArray, List.set_cons_zero, List.set_cons_succ, h12, h13, h5, h2, h14, e9]; done) | (simp only [trdFr, Act.put, List.setIfInBounds_toArray, List.set_cons_zero, List.set_cons_succ, h12, h13, h5, h2, h14, e9]; rfl)
  -- 11: slot 87 := Op.call { builtin append, args := #[t76, t86], argTypes := #
  · clear HC
    rw [← hgl]; clear hgl
    refine ⟨by decide +kernel, by decide +kernel, ⟨_, Array.mem_of_getElem (i := 0) (h := by decide) rfl, by decide, rfl⟩, fun x V hV hall K hK => ?_⟩
    have e0 : x 0 = lv := hall 0 (by decide)
    obtain ⟨zb, e10, hz⟩ : ∃ zb, x 10 = .slice (some ⟨zb, 0, none⟩) 1 1 ∧ RowX p pr zb V := hall 10 (by decide)
    clear hall
    have hV2 := hV.2.1
    have ho := own_fr hown hV2 hpb
    obtain ⟨i0, hi, hz0, hz1, hz2⟩ := info_parts Tryd.infoPair
    have hsz : base ≤ V.heap.size := Nat.le_trans hbw hV2.1.size
    have HF := Lib.hid (fun g9 c9 w9 => HFIN.out x V g9 c9 w9 hV)
    clear HFIN
    unfold trdFr at hK ⊢
    refine step_append_lies V (by kernel_rfl) (.tmp 76) (.tmp 86) 31 (by kernel_rfl) base 93 i0 (.agg zeroP) 4 64 Tryd.underlying31 hi hz0 hz1 hz2 rfl (by decide) lv ds.length (cellsP ds) e0 ho ⟨zb, 0, none⟩ 1 1 (encP pr) e10 rfl hz.news (encP_one pr) (by decide) (by unfold maxLen; omega) (by omega) hsz V.heap.size rfl ?_
    intro g9 c9 w9 hown9 hgr9 _ _
    have H := Lib.hid (HF.out g9 c9 w9 hown9 hgr9)
    clear HF hown9 hgr9 hV hV2 ho hz
    unfold trdFr at H
    refine hK _ _ fun K2 hK2 => run_bare (by kernel_rfl) ?_
    clear hK
    go_simp
    refine kfit (hK2 _ _ H.out) ?_
    first | (simp only [Act.put, List.setIfInBounds_toArray, List.set_cons_zero, List.set_cons_succ, h12, h13, h5, h2, h14, e0, e10]; done) | (simp only [Act.put, List.setIfInBounds_toArray, List.set_cons_zero, List.set_cons_succ, h12, h13, h5, h2, h14, e0, e10]; rfl)
  -- 12: slot 12 := Op.assign t87
theorem trd_here {B : Nat} {G : Gr} {rt : Nat → Nat} {E c g mb p cap : Nat} {sl : Nat → Value} {b2 b5 b14 M base ix : Nat} {pr : PR} {ds : List PR} {lv : Value} {wr : World} (hrz : ((rt ix : Nat) : Int) < (G.N : Int)) (hown : wr.ownsRow base 93 4 lv ds.length (cellsP ds)) (hpb : p < base) (hbw : base ≤ wr.heap.size) (hds : ds.length ≤ 1000)
    (HC6 : ∀ V, TSt B G rt E c g mb p cap sl b2 b5 b14 M (rt ix) pr wr V → Calls Tryd.prog 46 #[gp g, .int .i64 (ix : Int)] V fun e Y => e = .returned (.int .i64 (rt ix : Nat)) ∧ FRel B G rt E c g mb p cap sl V Y)
    {Q : Exit → Act → World → Prop} {ops : Array Oper} {a : Act} (X : World) (hops : ops = trdOps)
    (h12 : a.tmps.getD 12 undef = lv) (h13 : a.tmps.getD 13 undef = .int .i64 (ix : Int)) (h5 : a.tmps.getD 5 undef = .pointer (some ⟨b5, 0, none⟩)) (h2 : a.tmps.getD 2 undef = .pointer (some ⟨b2, 0, none⟩)) (h14 : a.tmps.getD 14 undef = .pointer (some ⟨b14, 0, none⟩))
    (ha : a = trdFr (fun j => a.tmps.getD j undef) a.defers (fun i => a.tmps.getD (76 + i) undef)) (hS : TSt B G rt E c g mb p cap sl b2 b5 b14 M (rt ix) pr wr X.drew)
    (hfin : ∀ (x : Nat → Value) V g9 c9 w9, TSt B G rt E c g mb p cap sl b2 b5 b14 M (rt ix) pr wr V → w9.ownsRow base 93 4 (.slice (some ⟨g9, 0, none⟩) (ds.length + 1) c9) (ds.length + 1) (cellsP ds ++ encP pr) → V.grownBy w9 lv.ownBlock → Q .normal (((trdFr (fun j => a.tmps.getD j undef) a.defers x).put (some 87) (.slice (some ⟨g9, 0, none⟩) (ds.length + 1) c9)).put (some 12) (.slice (some ⟨g9, 0, none⟩) (ds.length + 1) c9)) w9) : (Code.region 17 ops true).wp Tryd.prog Q a X :=
  cast (congrArg (fun z => (Code.region 17 ops true).wp Tryd.prog Q z X) ha.symm) (trd_region hrz hown hpb hbw hds (b := fun j => a.tmps.getD j undef) (d := a.defers) h12 h13 h5 h2 h14 HC6 hops _ X hS hfin)
end Go.Proofs.YthpphjkoiipkkaaDoor
/- found: what its second loop keeps; what it answers. -/
namespace Go.Proofs.YthpphjkoiipkkaaDoor
open Go.RowKit Go.Maps Go.Sort Go.Lib
attribute [local go_sem] Oper.semAt_some

theorem Fr.keepT' {p : Nat} {w v : World} (h : Fr p w v) {cs : Array Value} {fz : Nat × Nat} (hp : w.heap[p]? = some (.cells cs 102 fz)) : KeepT w v := by
  intro k cs' fz' hk
  refine (h.2 k (Array.getElem?_eq_some_iff.1 hk).1 fun e => ?_).trans hk
  subst e; rw [hp] at hk; cases hk
/-- What the second loop keeps; W: the world at its beginning. -/
structure PS (B : Nat) (G : Gr) (rt : Nat → Nat) (σ : Sg) (E c g mb p cap : Nat) (sl : Nat → Value) (W : World) (k : Nat) (d : List PR) (v : Value) (wr : World) : Prop where
  gm : GM B G rt E c g mb (.slice (some ⟨p, 0, none⟩) G.N cap) sl wr
  fr : Fr p W wr
  own : wr.ownsRow W.heap.size 93 4 v d.length (cellsP d)
  nil : d = [] → v = .slice none 0 0
  typ : Typ d wr
  pl : PL G σ k d
theorem PS.start {B : Nat} {G : Gr} {rt : Nat → Nat} {σ : Sg} {E c g mb p cap : Nat} {sl : Nat → Value} {W : World} (h : GM B G rt E c g mb (.slice (some ⟨p, 0, none⟩) G.N cap) sl W) : PS B G rt σ E c g mb p cap sl W 0 [] (.slice none 0 0) W :=
  ⟨h, Fr.refl _ _, ⟨rfl, .inl ⟨rfl, rfl⟩⟩, fun _ => rfl, (fun _ hx => nomatch hx), PL.start _ _⟩
theorem PS.made {B : Nat} {G : Gr} {rt : Nat → Nat} {σ : Sg} {E c g mb p cap : Nat} {sl : Nat → Value} {W : World} {k : Nat} {d : List PR} {v : Value} {wr Y : World} (h : PS B G rt σ E c g mb p cap sl W k d v wr) (hb : Below wr.heap.size wr Y) (hp : p < W.heap.size) : PS B G rt σ E c g mb p cap sl W k d v Y :=
  ⟨h.gm.keep hb, h.fr.trans (Fr.of_below hb), own_fr h.own (Fr.of_below hb) hp, h.nil, h.typ.keep (KeepT.of_below hb), h.pl⟩
theorem PS.skip {B : Nat} {G : Gr} {rt : Nat → Nat} {σ : Sg} {E c g mb p cap : Nat} {sl : Nat → Value} {W : World} {k : Nat} {d : List PR} {v : Value} {wr : World} (h : PS B G rt σ E c g mb p cap sl W k d v wr) (hv : (G.tr k).isV = false) : PS B G rt σ E c g mb p cap sl W (k + 1) d v wr :=
  ⟨h.gm, h.fr, h.own, h.nil, h.typ, h.pl.skip hv⟩
theorem PS.next {B : Nat} {G : Gr} {rt : Nat → Nat} {σ : Sg} {E c g mb p cap : Nat} {sl : Nat → Value} {W : World} {k : Nat} {d : List PR} {v : Value} {wr V w9 : World} {x : PR} {g9 c9 : Nat} (h : PS B G rt σ E c g mb p cap sl W k d v wr) (gi : GI G rt) (hW : GM B G rt E c g mb (.slice (some ⟨p, 0, none⟩) G.N cap) sl W) (hp : p < W.heap.size)
    (hV : FRel B G rt E c g mb p cap sl wr V) (ho : w9.ownsRow W.heap.size 93 4 (.slice (some ⟨g9, 0, none⟩) (d.length + 1) c9) (d.length + 1) (cellsP d ++ encP x)) (hg : V.grownBy w9 v.ownBlock)
    (hk : k < G.N) (hx : G.tr k = .var x.n) (ht : x.t = σ x.n) (hty : TysAt V (.slice x.a x.t.kids.length x.c) x.t.kids) : PS B G rt σ E c g mb p cap sl W (k + 1) (d ++ [x]) (.slice (some ⟨g9, 0, none⟩) (d.length + 1) c9) w9 := by
  have hown := own_fr h.own hV.2 hp
  have hlow : ∀ j, j < W.heap.size → w9.heap[j]? = V.heap[j]? := fun j hj => hg.block j (by have := h.fr.1.size; have := hV.2.1.size; omega) (fun e => by have := (hown.lt j e.symm).1; omega)
  have hbl : Below W.heap.size V w9 := ⟨hg.os, hg.tape, hg.output, hg.size, fun j hj => hlow j hj⟩
  have hfr := h.fr.trans hV.2
  have hkt : KeepT V w9 := KeepT.grown hg hown (by decide)
  refine ⟨GM.low hW hV.1 hbl, ⟨hfr.1.trans (hbl.mono (Nat.zero_le _)), fun j hj hjp => (hlow j hj).trans (hfr.2 j hj hjp)⟩, ?_, fun e => by simp at e, fun y hy => ?_, h.pl.next gi.ok hk hx ht⟩
  · rw [cellsP_snoc, List.length_append, List.length_singleton]; exact ho
  · rcases List.mem_append.1 hy with hy | hy
    · exact ((h.typ.keep (hV.2.keepT' h.gm.kind.choose_spec)) y hy).keep hkt
    · obtain rfl := List.mem_singleton.1 hy
      exact hty.keep hkt
theorem SubAt.turn {v : Value} {d : List PR} {w w' : World} (h : SubAt v d w) (hk : ∀ (k : Nat) (cs : Array Value) (T : TypeId) (fz : Nat × Nat), w.heap[k]? = some (.cells cs T fz) → w'.heap[k]? = some (.cells cs T fz)) : SubAt v d w' := by
  refine ⟨⟨?_, h.1.2⟩, h.2.keep fun k cs fz hh => hk _ _ _ _ hh⟩
  rcases h.1.1 with e | ⟨g, cap, e, hc, hr⟩
  · exact .inl e
  · refine .inr ⟨g, cap, e, hc, ?_⟩
    obtain ⟨cs, h1, h2⟩ := hr
    exact ⟨cs, hk _ _ _ _ h1, h2⟩
/-- All is ready for the list of pairs to be made a substitution. -/
theorem PS.ready {B : Nat} {G : Gr} {rt : Nat → Nat} {σ : Sg} {E c g mb p cap : Nat} {sl : Nat → Value} {W : World} {d : List PR} {v : Value} {wr : World} {V : List ByteArray} (h : PS B G rt σ E c g mb p cap sl W G.N d v wr) (hsi : SI G σ rt) (hV : VarIn V G) (hl : V.length < 20) (hz : ∀ x ∈ V, tsize (σ x) ≤ 900000000) :
    GivenP v d wr ∧ Typ d wr ∧ FitsAll d ∧ SizedAll d ∧ d.length < 20 ∧ IsSg d σ := by
  have hs : ∀ x ∈ d, tsize x.t ≤ 900000000 := fun x hx => by rw [(h.pl.mem x hx).1]; exact hz _ (h.pl.inV (Nat.le_refl _) hV x hx)
  exact ⟨given_of_row h.own h.nil, h.typ, fun x hx => fits_le (hs x hx), fun x hx => Nat.le_trans (hs x hx) (by omega), Nat.lt_of_le_of_lt (h.pl.small (Nat.le_refl _) hV) hl, h.pl.isSg hsi.out⟩
end Go.Proofs.YthpphjkoiipkkaaDoor
