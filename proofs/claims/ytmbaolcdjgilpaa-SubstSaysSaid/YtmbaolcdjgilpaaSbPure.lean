/- Pairs of a name and a type as plain data: sorted by names in the way of an insertion sort, compacted, filtered; what a name has stays. -/
import Derived.Test.YtmbaolcdjgilpaaTyPure
import Derived.Sort.LotA
import Derived.Lib.SlKept
namespace Go.Proofs.Ytmbaolcdjgilpaa
open Go.Sort

/-- A pair as it lies in memory: the name, the type, where the type's parts lie. -/
structure PR where
  n : ByteArray
  t : T
  a : Option Addr
  c : Nat
def noP : PR := ⟨⟨#[]⟩, .var ⟨#[]⟩, none, 0⟩
instance : Inhabited PR := ⟨noP⟩
/-- The order by names. -/
def cmpP (x y : PR) : Int := cmpL x.n.data.toList y.n.data.toList
def ltP (x y : PR) : Bool := decide (cmpP x y < 0)

theorem name_of_cmp {x y : PR} (h : cmpP x y = 0) : x.n = y.n := by
  have := cmpL_zero.1 h
  cases x with | mk n _ _ _ => cases y with | mk m _ _ _ => cases n; cases m; simp at this ⊢; exact this
theorem cmp_of_name {x y : PR} (h : x.n = y.n) : cmpP x y = 0 := by
  unfold cmpP; rw [h]; exact cmpL_zero.2 rfl
theorem ltP_iff {x y : PR} : ltP x y = true ↔ cmpP x y < 0 := by simp [ltP]
theorem swoP : SWO ltP where
  irrefl x := by
    have := cmp_of_name (x := x) (y := x) rfl
    simp [ltP, this]
  trans x y z h1 h2 := by
    rw [ltP_iff] at *
    have := cmpL_tri x.n.data.toList y.n.data.toList z.n.data.toList
    unfold Tri at this
    unfold cmpP at *
    have u := cmpL_unit x.n.data.toList y.n.data.toList
    have v := cmpL_unit y.n.data.toList z.n.data.toList
    have k := cmpL_unit x.n.data.toList z.n.data.toList
    unfold Unit1 at u v k
    generalize cmpL x.n.data.toList y.n.data.toList = p at *
    generalize cmpL y.n.data.toList z.n.data.toList = q at *
    generalize cmpL x.n.data.toList z.n.data.toList = r at *
    omega
  ntrans x y z h1 h2 := by
    have e1 : ¬ cmpP x y < 0 := fun h => by rw [ltP_iff.2 h] at h1; cases h1
    have e2 : ¬ cmpP y z < 0 := fun h => by rw [ltP_iff.2 h] at h2; cases h2
    have e3 : ¬ cmpP x z < 0 := by
      have := cmpL_tri x.n.data.toList y.n.data.toList z.n.data.toList
      unfold Tri at this
      unfold cmpP at *
      have u := cmpL_unit x.n.data.toList y.n.data.toList
      have v := cmpL_unit y.n.data.toList z.n.data.toList
      have k := cmpL_unit x.n.data.toList z.n.data.toList
      unfold Unit1 at u v k
      generalize cmpL x.n.data.toList y.n.data.toList = p at *
      generalize cmpL y.n.data.toList z.n.data.toList = q at *
      generalize cmpL x.n.data.toList z.n.data.toList = r at *
      omega
    cases h : ltP x z with
    | false => rfl
    | true => exact absurd (ltP_iff.1 h) e3

open Classical in
/-- The first of a name. -/
noncomputable def lk (n : ByteArray) (l : List PR) : Option PR := l.find? (fun x => decide (x.n = n))
theorem lk_nil (n : ByteArray) : lk n [] = none := rfl
theorem lk_cons (n : ByteArray) (x : PR) (l : List PR) : lk n (x :: l) = if x.n = n then some x else lk n l := by
  unfold lk
  rw [List.find?_cons]
  by_cases h : x.n = n <;> simp [h]
theorem lk_append (n : ByteArray) (l m : List PR) : lk n (l ++ m) = (lk n l).or (lk n m) := by
  unfold lk; rw [List.find?_append]
theorem lk_swap (n : ByteArray) (l m : List PR) (x y : PR) (h : x.n ≠ y.n) : lk n (l ++ x :: y :: m) = lk n (l ++ y :: x :: m) := by
  rw [lk_append, lk_append, lk_cons, lk_cons, lk_cons, lk_cons]
  by_cases h1 : x.n = n
  · have : y.n ≠ n := fun e => h (h1.trans e.symm)
    simp [h1, this]
  · simp [h1]

theorem bang (d : Array PR) (i : Nat) (h : i < d.size) : d[i]! = d.toList[i]'(by simpa using h) := by rw [getElem!_pos d i h]; simp
theorem split_two (l : List PR) (j : Nat) (h : j + 1 < l.length) : l = l.take j ++ l[j] :: l[j + 1] :: l.drop (j + 2) := by
  conv => lhs; rw [← List.take_append_drop j l]
  rw [List.drop_eq_getElem_cons (by omega), List.drop_eq_getElem_cons (by omega)]
theorem swp_list (d : Array PR) (j : Nat) (h : j + 1 < d.size) : (swp d (j + 1) j).toList = d.toList.take j ++ d.toList[j + 1] :: d.toList[j]'(by simp; omega) :: d.toList.drop (j + 2) := by
  apply List.ext_getElem
  · simp [swp_size]; omega
  · intro i h1 h2
    have hi : i < d.size := by simpa [swp_size] using h1
    have e : (swp d (j + 1) j).toList[i] = (swp d (j + 1) j)[i]! := (bang _ i (by rw [swp_size]; exact hi)).symm
    rw [e, swp_get d h (by omega)]
    by_cases a : i = j
    · subst a
      rw [if_pos rfl, List.getElem_append_right (by simp; omega), bang d _ h]
      simp [Nat.min_eq_left (by omega : i ≤ d.size)]
    · by_cases b : i = j + 1
      · subst b
        rw [if_neg (by omega), if_pos rfl, List.getElem_append_right (by simp; omega), bang d _ (by omega)]
        simp [Nat.min_eq_left (by omega : j ≤ d.size)]
      · rw [if_neg a, if_neg b, bang d _ hi]
        by_cases c : i < j
        · rw [List.getElem_append_left (by simp; omega)]
          simp
        · rw [List.getElem_append_right (by simp; omega)]
          obtain ⟨k, rfl⟩ : ∃ k, i = j + 2 + k := ⟨i - (j + 2), by omega⟩
          simp [Nat.min_eq_left (by omega : j ≤ d.size), show j + 2 + k - j = k + 1 + 1 by omega]
theorem lk_swp (n : ByteArray) (d : Array PR) (j : Nat) (h : j + 1 < d.size) (hlt : ltP d[j + 1]! d[j]! = true) : lk n (swp d (j + 1) j).toList = lk n d.toList := by
  rw [swp_list d j h]
  conv => rhs; rw [split_two d.toList j (by simpa using h)]
  refine lk_swap n _ _ _ _ ?_
  intro e
  rw [bang d _ h, bang d _ (by omega)] at hlt
  have := ltP_iff.1 hlt
  have e2 := cmp_of_name e
  omega
theorem lk_inner (n : ByteArray) (a : Nat) : ∀ (j : Nat) (d : Array PR), j < d.size → lk n (insInner ltP a j d).toList = lk n d.toList
  | 0, d, _ => rfl
  | j + 1, d, h => by
    rw [insInner]
    by_cases hc : (decide (j + 1 > a) && ltP d[j + 1]! d[j]!) = true
    · rw [if_pos hc, lk_inner n a j _ (by rw [swp_size]; omega)]
      exact lk_swp n d j h (by simp at hc; exact hc.2)
    · rw [if_neg hc]
theorem size_inner (a : Nat) : ∀ (j : Nat) (d : Array PR), (insInner ltP a j d).size = d.size
  | 0, d => rfl
  | j + 1, d => by
    rw [insInner]
    split
    · rw [size_inner a j, swp_size]
    · rfl
theorem lk_outer (n : ByteArray) (a b i : Nat) (d : Array PR) (h : b ≤ d.size) : lk n (insOuter ltP a b i d).toList = lk n d.toList := by
  rw [insOuter]
  split
  · rename_i hi
    rw [lk_outer n a b (i + 1) _ (by rw [size_inner]; exact h), lk_inner n a i d (by omega)]
  · rfl
termination_by b - i
/-- What the insertion sort makes: the same pairs, in order; the first of each name as it was. -/
theorem sort_facts (d : Array PR) : (∀ x, x ∈ (insertionSort ltP d 0 d.size).toList ↔ x ∈ d.toList) ∧ (insertionSort ltP d 0 d.size).toList.length = d.toList.length ∧
    (∀ n, lk n (insertionSort ltP d 0 d.size).toList = lk n d.toList) ∧ (insertionSort ltP d 0 d.size).toList.Pairwise (fun x y => ltP y x = false) := by
  obtain ⟨⟨h1, _, h3⟩, h4⟩ := insertionSort_holds (lt := ltP) swoP d 0 d.size (Nat.zero_le _) (Nat.le_refl _)
  refine ⟨fun x => ?_, ?_, fun n => lk_outer n 0 d.size 1 d (Nat.le_refl _), ?_⟩
  · have := h3.mem_iff (a := x)
    rw [Array.extract_eq_self_of_le (by omega), Array.extract_eq_self_of_le (Nat.le_refl _)] at this
    exact this
  · simpa using h1
  · rw [List.pairwise_iff_getElem]
    intro i j hi hj hij
    have hi' : i < (insertionSort ltP d 0 d.size).size := by simpa using hi
    have hj' : j < (insertionSort ltP d 0 d.size).size := by simpa using hj
    have := h4 i j (Nat.zero_le _) hij (by omega)
    rw [bang _ _ hj', bang _ _ hi'] at this
    exact this

/-- One that counts: the first, or one of another name than the one ahead of it. -/
noncomputable def kpC (d : Array PR) : Nat → Bool := fun j => @decide (j = 0 ∨ d[j - 1]!.n ≠ d[j]!.n) (Classical.propDecidable _)
theorem kpC_true {d : Array PR} {j : Nat} (h : j = 0 ∨ d[j - 1]!.n ≠ d[j]!.n) : kpC d j = true := by unfold kpC; exact @decide_eq_true _ (Classical.propDecidable _) h
theorem kpC_false {d : Array PR} {j : Nat} (h : ¬ (j = 0 ∨ d[j - 1]!.n ≠ d[j]!.n)) : kpC d j = false := by unfold kpC; exact @decide_eq_false _ (Classical.propDecidable _) h
/-- In order by names, none twice. -/
def Sorted (l : List PR) : Prop := l.Pairwise fun x y => cmpP x y < 0
theorem lt_of_not {x y : PR} (h : ltP y x = false) (hn : x.n ≠ y.n) : cmpP x y < 0 := by
  have h1 : ¬ cmpP y x < 0 := fun h' => by rw [ltP_iff.2 h'] at h; cases h
  have h2 : cmpP x y ≠ 0 := fun e => hn (name_of_cmp e)
  have h3 : cmpP y x = - cmpP x y := cmpL_neg _ _
  omega
theorem cmpP_trans {x y z : PR} (h : cmpP x y < 0) (k : cmpP y z < 0) : cmpP x z < 0 := ltP_iff.1 (swoP.trans x y z (ltP_iff.2 h) (ltP_iff.2 k))
/-- What the compaction keeps of a row in order: in order, none twice, the first of each name. -/
theorem comp_facts (d : Array PR) (hs : d.toList.Pairwise (fun x y => ltP y x = false)) : ∀ j, j ≤ d.size →
    Sorted (Go.Lib.keptUpTo (kpC d) d j) ∧ (∀ x ∈ Go.Lib.keptUpTo (kpC d) d j, x ∈ d.toList.take j) ∧ (∀ n, lk n (Go.Lib.keptUpTo (kpC d) d j) = lk n (d.toList.take j)) ∧
    (∀ x ∈ d.toList.take j, ∃ y ∈ Go.Lib.keptUpTo (kpC d) d j, y.n = x.n) := by
  have hp : ∀ a b, a < b → b < d.size → ltP d[b]! d[a]! = false := fun a b hab hb => by
    have := List.pairwise_iff_getElem.1 hs a b (by simpa using Nat.lt_trans hab hb) (by simpa using hb) hab
    rw [bang d _ hb, bang d _ (Nat.lt_trans hab hb)]
    exact this
  intro j
  induction j with
  | zero => intro _; refine ⟨List.Pairwise.nil, ?_, ?_, ?_⟩ <;> simp [Go.Lib.keptUpTo]
  | succ j ih =>
    intro hj
    obtain ⟨i1, i2, i3, i4⟩ := ih (by omega)
    have et : d.toList.take (j + 1) = d.toList.take j ++ [d[j]!] := by
      rw [List.take_succ_eq_append_getElem (by simp; omega), bang d j (by omega)]
    have mem : ∀ x, x ∈ d.toList.take j → ∃ k, k < j ∧ d[k]! = x := fun x hx => by
      obtain ⟨k, hk, e⟩ := List.mem_iff_getElem.1 hx
      have hk' : k < min j d.size := by simpa using hk
      exact ⟨k, by omega, by rw [bang d k (by omega)]; simpa using e⟩
    have hle : ∀ x ∈ d.toList.take j, ltP d[j]! x = false := fun x hx => by
      obtain ⟨k, hk, rfl⟩ := mem x hx
      exact hp k j hk (by omega)
    by_cases hc : j = 0 ∨ d[j - 1]!.n ≠ d[j]!.n
    · rw [Go.Lib.keptUpTo_succ, kpC_true hc, if_pos rfl, et]
      have hne : ∀ x ∈ d.toList.take j, x.n ≠ d[j]!.n := fun x hx e => by
        obtain ⟨k, hk, rfl⟩ := mem x hx
        rcases hc with h0 | hn
        · omega
        · rcases Nat.lt_or_ge k (j - 1) with hk1 | hk1
          · have a := hp k (j - 1) hk1 (by omega)
            have b := hp (j - 1) j (by omega) (by omega)
            have b' := lt_of_not b hn
            have a1 : ¬ cmpP d[j - 1]! d[k]! < 0 := fun h => by rw [ltP_iff.2 h] at a; cases a
            have e1 : cmpP d[j - 1]! d[k]! = cmpP d[j - 1]! d[j]! := by unfold cmpP; rw [e]
            omega
          · obtain rfl : k = j - 1 := by omega
            exact hn e
      refine ⟨?_, ?_, ?_, ?_⟩
      · rw [Sorted, List.pairwise_append]
        refine ⟨i1, List.pairwise_singleton _ _, fun x hx y hy => ?_⟩
        obtain rfl : y = d[j]! := by simpa using hy
        exact lt_of_not (hle x (i2 x hx)) (hne x (i2 x hx))
      · intro x hx
        rcases List.mem_append.1 hx with h | h
        · exact List.mem_append_left _ (i2 x h)
        · exact List.mem_append_right _ h
      · intro n; rw [lk_append, lk_append, i3 n]
      · intro x hx
        rcases List.mem_append.1 hx with h | h
        · obtain ⟨y, hy, e⟩ := i4 x h; exact ⟨y, List.mem_append_left _ hy, e⟩
        · exact ⟨x, List.mem_append_right _ h, rfl⟩
    · rw [Go.Lib.keptUpTo_succ, kpC_false hc, et]
      have h0 : j ≠ 0 := fun e => hc (.inl e)
      have hn : d[j - 1]!.n = d[j]!.n := Classical.byContradiction fun e => hc (.inr e)
      have hin : d[j - 1]! ∈ d.toList.take j := by
        rw [List.mem_iff_getElem]
        refine ⟨j - 1, by simp; omega, ?_⟩
        rw [bang d _ (by omega)]; simp
      simp only [Bool.false_eq_true, if_false, List.append_nil]
      refine ⟨i1, fun x hx => List.mem_append_left _ (i2 x hx), fun n => ?_, fun x hx => ?_⟩
      · rw [i3 n, lk_append, lk_cons, lk_nil]
        by_cases e : d[j]!.n = n
        · have : (lk n (d.toList.take j)).isSome = true := by
            unfold lk
            rw [List.find?_isSome]
            exact ⟨_, hin, by simpa using hn.trans e⟩
          obtain ⟨y, hy⟩ := Option.isSome_iff_exists.1 this
          rw [hy]; rfl
        · rw [if_neg e]; simp
      · rcases List.mem_append.1 hx with h | h
        · exact i4 x h
        · obtain rfl : x = d[j]! := by simpa using h
          obtain ⟨y, hy, e⟩ := i4 _ hin
          exact ⟨y, hy, e.trans hn⟩

/-- One that is its own type. -/
noncomputable def ownP (x : PR) : Bool := @decide (x.t = .var x.n) (Classical.propDecidable _)
theorem ownP_iff {x : PR} : ownP x = true ↔ x.t = .var x.n := by unfold ownP; exact @decide_eq_true_iff _ (Classical.propDecidable _)
theorem lk_name {n : ByteArray} {l : List PR} {x : PR} (h : lk n l = some x) : x ∈ l ∧ x.n = n := by
  unfold lk at h
  exact ⟨List.mem_of_find?_eq_some h, by simpa using List.find?_some h⟩
theorem lk_sorted {l : List PR} (h : Sorted l) {x : PR} (hx : x ∈ l) : lk x.n l = some x := by
  induction l with
  | nil => cases hx
  | cons y l ih =>
    rw [lk_cons]
    have hs := List.pairwise_cons.1 h
    rcases List.mem_cons.1 hx with rfl | hx
    · rw [if_pos rfl]
    · rw [if_neg, ih hs.2 hx]
      intro e
      have := hs.1 x hx
      rw [cmp_of_name e] at this
      exact absurd this (by decide)
/-- The type that a name has. -/
noncomputable def ty (n : ByteArray) (l : List PR) : T := ((lk n l).map PR.t).getD (.var n)
/-- A row of pairs by names, none its own type. -/
def Neat (l : List PR) : Prop := Sorted l ∧ ∀ x ∈ l, ownP x = false
theorem neat_filter {l : List PR} (h : Sorted l) : Neat (l.filter fun x => !ownP x) ∧ ∀ n, ty n (l.filter fun x => !ownP x) = ty n l := by
  have h1 : Neat (l.filter fun x => !ownP x) := ⟨h.filter _, fun x hx => by have := (List.mem_filter.1 hx).2; simpa using this⟩
  refine ⟨h1, fun n => ?_⟩
  unfold ty
  cases e : lk n l with
  | none =>
    cases e2 : lk n (l.filter fun x => !ownP x) with
    | none => rfl
    | some x =>
      obtain ⟨hm, rfl⟩ := lk_name e2
      rw [lk_sorted h (List.mem_filter.1 hm).1] at e; cases e
  | some x =>
    obtain ⟨hm, rfl⟩ := lk_name e
    by_cases ho : ownP x = true
    · cases e2 : lk x.n (l.filter fun x => !ownP x) with
      | none => simpa using (ownP_iff.1 ho).symm
      | some y =>
        obtain ⟨hy, ey⟩ := lk_name e2
        have hy' := (List.mem_filter.1 hy).1
        have := lk_sorted h hy'
        rw [ey, e] at this
        cases this
        have h9 := (List.mem_filter.1 hy).2
        simp [ho] at h9
    · rw [lk_sorted h1.1 (List.mem_filter.2 ⟨hm, by simpa using ho⟩)]
/-- What gather makes of a row. -/
structure Gath (d l : List PR) : Prop where
  neat : Neat l
  sub : ∀ x ∈ l, x ∈ d
  len : l.length ≤ d.length
  same : ∀ n, ty n l = ty n d
end Go.Proofs.Ytmbaolcdjgilpaa
