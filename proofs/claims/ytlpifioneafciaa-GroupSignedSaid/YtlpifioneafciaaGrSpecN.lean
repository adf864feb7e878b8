/- The groups of the first n of N nodes: what stands behind them joins them, but is not told. -/
import Derived.Test.YtlpifioneafciaaGrSpec
namespace Go.Proofs.Ytlpifioneafciaa
open Go.RowKit Go.Maps Go.Lib

/-- What the groups are, where further nodes join them. -/
structure GrSpec5 (n : Nat) (nd : Nat → List Nat) (gs : List (List Nat)) : Prop where
  cls : ∀ g ∈ gs, ∃ i, i < n ∧ i ∈ g ∧ ∀ j, j ∈ g ↔ j < n ∧ Rch nd i j ∧ Rch nd j i
  srt : ∀ g ∈ gs, g.Pairwise fun x y => x < y
  all : ∀ i, i < n → ∃ g ∈ gs, i ∈ g
  dis : gs.Pairwise fun g h => ∀ i ∈ g, i ∉ h
  ord : gs.Pairwise fun g h => ∀ i ∈ g, ∀ j ∈ h, ¬ Rch nd i j
/-- A greedy row of the search's rings gives the groups of the first n nodes. -/
theorem spec_ofN {n N : Nat} {nd : Nat → List Nat} {t : SS} {dn : List Nat} (hnN : n ≤ N) (hn : N + 1 < grTop) (hne : ∀ i, i < N → ∀ x ∈ nd i, x < N) (ht : RA N (grInit nd) N t) (hg : Greedy t.rings ((builtS n t.ring nd N).1 true) (ltM ((builtS n t.ring nd N).1 false)) dn) (hno : ∀ y, ¬ ReadyR t.rings ((builtS n t.ring nd N).1 true) dn y) :
    GrSpec5 n nd ((dn.filter fun r => !((builtS n t.ring nd N).1 false r).isEmpty).map ((builtS n t.ring nd N).1 false)) := by
  obtain ⟨c1, c2⟩ := ht.classes hn hne
  have hrg := ht.ring hn hne
  have hus : ∀ r y, y ∈ (builtS n t.ring nd N).1 true r ↔ ∃ k, k < N ∧ t.ring k = y ∧ r ≠ y ∧ ∃ x ∈ nd k, t.ring x = r := fun r y => builtS_users n t.ring nd r y N
  have hms : ∀ r i, i ∈ (builtS n t.ring nd N).1 false r ↔ i < n ∧ t.ring i = r := fun r i => by
    rw [builtS_mem]
    simp only [List.mem_filter, List.mem_range, Bool.and_eq_true, decide_eq_true_eq]
    exact ⟨fun h => ⟨h.2.1, h.2.2⟩, fun h => ⟨by omega, h.1, h.2⟩⟩
  have htold := all_told hno fun r _ y hy => by
    obtain ⟨k, h1, h2, h3, x, h4, h5⟩ := (hus r y).1 hy
    have := c1 k h1 x h4
    omega
  have hdn := hg.lt
  have hah := hg.ahead
  have hmem : ∀ g, g ∈ (dn.filter fun r => !((builtS n t.ring nd N).1 false r).isEmpty).map ((builtS n t.ring nd N).1 false) ↔ ∃ r, r ∈ dn ∧ (∃ i, i ∈ (builtS n t.ring nd N).1 false r) ∧ (builtS n t.ring nd N).1 false r = g := fun g => by
    rw [List.mem_map]
    constructor
    · rintro ⟨r, h1, h2⟩
      obtain ⟨h3, h4⟩ := List.mem_filter.1 h1
      refine ⟨r, h3, ?_, h2⟩
      cases hl : (builtS n t.ring nd N).1 false r with
      | nil => rw [hl] at h4; cases h4
      | cons a l => exact ⟨a, List.mem_cons_self ..⟩
    · rintro ⟨r, h1, ⟨i, h2⟩, h3⟩
      refine ⟨r, List.mem_filter.2 ⟨h1, ?_⟩, h3⟩
      cases hl : (builtS n t.ring nd N).1 false r with
      | nil => rw [hl] at h2; cases h2
      | cons a l => rfl
  have hpre : ∀ A B : List Nat, dn = A ++ B → ∀ i j, Rch nd i j → i < N → t.ring i ∈ A → t.ring j ∈ A := fun A B e i j hij => by
    induction hij with
    | refl _ => exact fun _ h => h
    | @step x z y h1 _ ih =>
      intro hx hxA
      have hz := hne x hx z h1
      refine ih hz ?_
      have hzd := htold (t.ring z) (hrg z hz)
      rw [e] at hzd
      rcases List.mem_append.1 hzd with h2 | h2
      · exact h2
      · by_cases hxz : t.ring z = t.ring x
        · rw [hxz]; exact hxA
        · have h3 : t.ring x ∈ (builtS n t.ring nd N).1 true (t.ring z) := (hus _ _).2 ⟨x, hx, rfl, hxz, z, h1, rfl⟩
          rw [e] at hah
          exact absurd h3 ((List.pairwise_append.1 hah).2.2 _ hxA _ h2)
  have hsr : ∀ r, ((builtS n t.ring nd N).1 false r).Pairwise fun x y => x < y := fun r => by
    rw [builtS_mem]
    exact List.Pairwise.filter _ List.pairwise_lt_range
  refine ⟨fun g hg => ?_, fun g hg => ?_, fun i hi => ?_, ?_, ?_⟩
  · obtain ⟨r, h1, ⟨i, h2⟩, rfl⟩ := (hmem g).1 hg
    have h3 := (hms r i).1 h2
    refine ⟨i, h3.1, h2, fun j => ?_⟩
    rw [hms]
    constructor
    · rintro ⟨a, b⟩
      exact ⟨a, (c2 i j (by omega) (by omega)).1 (h3.2.trans b.symm)⟩
    · rintro ⟨a, b⟩
      exact ⟨a, ((c2 i j (by omega) (by omega)).2 b).symm.trans h3.2⟩
  · obtain ⟨r, h1, _, rfl⟩ := (hmem g).1 hg
    rw [builtS_mem]
    exact List.Pairwise.filter _ List.pairwise_lt_range
  · exact ⟨(builtS n t.ring nd N).1 false (t.ring i), (hmem _).2 ⟨t.ring i, htold _ (hrg i (by omega)), ⟨i, (hms _ _).2 ⟨hi, rfl⟩⟩, rfl⟩, (hms _ _).2 ⟨hi, rfl⟩⟩
  · rw [List.pairwise_map]
    refine (List.Pairwise.filter _ hdn.1).imp fun {x y} hxy i hi hj => ?_
    exact hxy (((hms x i).1 hi).2.symm.trans ((hms y i).1 hj).2)
  · rw [List.pairwise_map]
    refine List.Pairwise.filter _ ?_
    rw [List.pairwise_iff_getElem]
    intro a b ha hb hab i hi j hj hr
    have hi' := (hms _ i).1 hi
    have hj' := (hms _ j).1 hj
    have h1 := hpre (dn.take b) (dn.drop b) (List.take_append_drop b dn).symm i j hr (by omega) (by rw [hi'.2]; exact List.mem_take_iff_getElem.2 ⟨a, by omega, rfl⟩)
    rw [hj'.2] at h1
    obtain ⟨k, hk, e⟩ := List.mem_take_iff_getElem.1 h1
    exact List.pairwise_iff_getElem.1 hdn.1 k b (by omega) hb (by omega) e
/-- The groups are a given chain of classes, each of which leads to those ahead. -/
theorem GrSpec5.chain {n : Nat} {nd : Nat → List Nat} {gs L : List (List Nat)} (h : GrSpec5 n nd gs) (hc : ∀ g ∈ L, g.Pairwise (fun x y => x < y) ∧ ∃ i, i < n ∧ i ∈ g ∧ ∀ j, j ∈ g ↔ j < n ∧ Rch nd i j ∧ Rch nd j i) (ha : ∀ i, i < n → ∃ g ∈ L, i ∈ g) (hl : L.Pairwise fun g k => (∃ i ∈ k, ∃ j ∈ g, Rch nd i j) ∧ ∀ i ∈ g, i ∉ k) : gs = L := by
  have same : ∀ g k : List Nat, (g.Pairwise (fun x y => x < y) ∧ ∃ i, i < n ∧ i ∈ g ∧ ∀ j, j ∈ g ↔ j < n ∧ Rch nd i j ∧ Rch nd j i) → (k.Pairwise (fun x y => x < y) ∧ ∃ i, i < n ∧ i ∈ k ∧ ∀ j, j ∈ k ↔ j < n ∧ Rch nd i j ∧ Rch nd j i) → ∀ x, x ∈ g → x ∈ k → g = k := by
    rintro g k ⟨s1, i, i1, i2, i3⟩ ⟨s2, j, j1, j2, j3⟩ x hx hy
    obtain ⟨_, a1, a2⟩ := (i3 x).1 hx
    obtain ⟨_, b1, b2⟩ := (j3 x).1 hy
    refine sorted_same g k s1 s2 fun z => ?_
    rw [i3, j3]
    exact ⟨fun ⟨z1, z2, z3⟩ => ⟨z1, (b1.trans a2).trans z2, z3.trans (a1.trans b2)⟩, fun ⟨z1, z2, z3⟩ => ⟨z1, (a1.trans b2).trans z2, z3.trans (b1.trans a2)⟩⟩
  have gc : ∀ g ∈ gs, g.Pairwise (fun x y => x < y) ∧ ∃ i, i < n ∧ i ∈ g ∧ ∀ j, j ∈ g ↔ j < n ∧ Rch nd i j ∧ Rch nd j i := fun g hg => ⟨h.srt g hg, h.cls g hg⟩
  have nd1 : ∀ M : List (List Nat), (∀ g ∈ M, ∃ i, i ∈ g) → M.Pairwise (fun g k => ∀ i ∈ g, i ∉ k) → M.Nodup := fun M hM hp => hp.imp_of_mem fun {g k} hg _ hh e => by
    obtain ⟨i, hi⟩ := hM g hg
    exact hh i hi (e ▸ hi)
  refine chain_eq (T := fun a b => ∃ i ∈ a, ∃ j ∈ b, Rch nd i j) L gs (fun g => ⟨fun hg => ?_, fun hg => ?_⟩) (nd1 gs (fun g hg => by obtain ⟨_, i, _, hi, _⟩ := gc g hg; exact ⟨i, hi⟩) h.dis) (nd1 L (fun g hg => by obtain ⟨_, i, _, hi, _⟩ := hc g hg; exact ⟨i, hi⟩) (hl.imp fun hh => hh.2)) (h.ord.imp fun hh ⟨i, hi, j, hj, hr⟩ => hh i hi j hj hr) (hl.imp fun hh => hh.1)
  · obtain ⟨_, i, i1, i2, _⟩ := gc g hg
    obtain ⟨k, hk, hik⟩ := ha i i1
    rw [same g k (gc g hg) (hc k hk) i i2 hik]; exact hk
  · obtain ⟨_, i, i1, i2, _⟩ := hc g hg
    obtain ⟨k, hk, hik⟩ := h.all i i1
    rw [same g k (hc g hg) (gc k hk) i i2 hik]; exact hk
/-- A row, each of which needs the next by way of its name: node n + i is the name of i. -/
def ndN (n : Nat) : Nat → List Nat := fun k => if k < n then (if k + 1 < n then [n + k + 1] else []) else if k < 2 * n then [k - n] else []
theorem ndN_in {n : Nat} : ∀ i, i < 2 * n → ∀ x ∈ ndN n i, x < 2 * n := fun i hi x hx => by
  unfold ndN at hx
  split at hx
  · split at hx
    · simp at hx; omega
    · cases hx
  · first
    | (simp at hx; omega)
    | (split at hx
       · simp at hx; omega
       · cases hx)
theorem ndN_up {n i j : Nat} (h : Rch (ndN n) i j) : (if i < n then i else i - n) ≤ (if j < n then j else j - n) := by
  induction h with
  | refl _ => exact Nat.le_refl _
  | @step x z y h1 _ ih =>
    refine Nat.le_trans ?_ ih
    unfold ndN at h1
    split at h1
    · split at h1
      · simp at h1; subst h1; split <;> split <;> omega
      · cases h1
    · split at h1
      · simp at h1; subst h1; split <;> split <;> omega
      · cases h1
theorem ndN_next {n : Nat} : ∀ (d i : Nat), i + d < n → Rch (ndN n) i (i + d)
  | 0, i, _ => .refl _
  | d + 1, i, h => by
    have h1 : Rch (ndN n) i (i + 1) := by
      refine .step (b := n + i + 1) ?_ (.one ?_)
      · show n + i + 1 ∈ (if i < n then (if i + 1 < n then [n + i + 1] else []) else if i < 2 * n then [i - n] else [])
        rw [if_pos (show i < n by omega), if_pos (show i + 1 < n by omega)]; simp
      · show i + 1 ∈ (if n + i + 1 < n then (if n + i + 1 + 1 < n then [n + (n + i + 1) + 1] else []) else if n + i + 1 < 2 * n then [n + i + 1 - n] else [])
        rw [if_neg (show ¬ n + i + 1 < n by omega), if_pos (show n + i + 1 < 2 * n by omega)]; simp; omega
    have := ndN_next (n := n) d (i + 1) (by omega)
    rw [show i + 1 + d = i + (d + 1) by omega] at this
    exact h1.trans this
/-- The row stands the other way round. -/
theorem gsN {n : Nat} {gs : List (List Nat)} (h : GrSpec5 n (ndN n) gs) : gs = (List.range n).map fun i => [n - 1 - i] := by
  have single : ∀ i j, i < n → j < n → Rch (ndN n) i j → Rch (ndN n) j i → j = i := fun i j hi hj h1 h2 => by
    have a := ndN_up h1; have b := ndN_up h2
    rw [if_pos hi, if_pos hj] at a
    rw [if_pos hi, if_pos hj] at b
    omega
  refine h.chain (fun g hg => ?_) (fun i hi => ?_) ?_
  · obtain ⟨k, hk, rfl⟩ := List.mem_map.1 hg
    have hk' := List.mem_range.1 hk
    refine ⟨List.pairwise_singleton _ _, n - 1 - k, by omega, by simp, fun j => ⟨fun hj => ?_, fun ⟨hj, h1, h2⟩ => ?_⟩⟩
    · obtain rfl : j = n - 1 - k := by simpa using hj
      exact ⟨by omega, .refl _, .refl _⟩
    · rw [single _ j (by omega) hj h1 h2]; simp
  · exact ⟨[i], List.mem_map.2 ⟨n - 1 - i, List.mem_range.2 (by omega), by congr 1; omega⟩, by simp⟩
  · rw [List.pairwise_map, List.pairwise_iff_getElem]
    intro a b ha hb hab
    simp only [List.length_range] at ha hb
    simp only [List.getElem_range]
    refine ⟨⟨n - 1 - b, by simp, n - 1 - a, by simp, ?_⟩, fun i hi => ?_⟩
    · have := ndN_next (n := n) (b - a) (n - 1 - b) (by omega)
      rw [show n - 1 - b + (b - a) = n - 1 - a by omega] at this
      exact this
    · have e : i = n - 1 - a := by simpa using hi
      subst e
      simp; omega
/-- Where nobody needs anything, each is a group, in their order. -/
theorem gs0 {n : Nat} {gs : List (List Nat)} (h : GrSpec n (fun _ => []) gs) : gs = (List.range n).map fun i => [i] := by
  have hr : ∀ i j, Rch (fun _ => []) i j → j = i := fun i j hij => by
    cases hij with
    | refl _ => rfl
    | step h1 _ => cases h1
  refine GrSpec.unique (fun i j hi hij => by rw [hr i j hij]; exact hi) gs _ [] h ?_
  refine ⟨fun g hg => ?_, fun g hg => ?_, fun i hi => ?_, ?_, ?_, fun A g B e k hk _ => ?_⟩
  · obtain ⟨k, hk, rfl⟩ := List.mem_map.1 hg
    refine ⟨k, List.mem_range.1 hk, by simp, fun j => ⟨fun hj => ?_, fun ⟨_, hj, _⟩ => by rw [hr k j hj]; simp⟩⟩
    obtain rfl : j = k := by simpa using hj
    exact ⟨List.mem_range.1 hk, .refl _, .refl _⟩
  · obtain ⟨k, hk, rfl⟩ := List.mem_map.1 hg
    exact List.pairwise_singleton _ _
  · exact ⟨[i], List.mem_map.2 ⟨i, List.mem_range.2 hi, rfl⟩, by simp⟩
  · show List.Pairwise _ ((List.range n).map fun i => [i])
    rw [List.pairwise_map]
    refine List.pairwise_lt_range.imp fun {a b} hab i hi => ?_
    simp at hi; subst hi; simp; omega
  · show List.Pairwise _ ((List.range n).map fun i => [i])
    rw [List.pairwise_map]
    refine List.pairwise_lt_range.imp fun {a b} hab i hi j hj hij => ?_
    simp at hi hj
    have := hr i j hij
    omega
  · have e' : (List.range n).map (fun i => [i]) = A ++ g :: B := e
    have hp : List.Pairwise (fun x y : List Nat => ∃ i ∈ x, ∀ j ∈ y, i < j) ((List.range n).map fun i => [i]) := by
      rw [List.pairwise_map]
      exact List.pairwise_lt_range.imp fun {a b} hab => ⟨a, by simp, fun j hj => by simp at hj; omega⟩
    rw [e'] at hp
    exact (List.pairwise_cons.1 (List.pairwise_append.1 hp).2.1).1 k hk
end Go.Proofs.Ytlpifioneafciaa
