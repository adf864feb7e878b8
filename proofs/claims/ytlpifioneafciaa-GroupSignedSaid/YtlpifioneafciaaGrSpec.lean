/- What the groups are, in plain words: the classes of mutual need, none ahead of one that it leads to. -/
import Derived.Test.YtlpifioneafciaaGrTar
import Derived.Test.YtlpifioneafciaaGrBuilt
import Derived.Test.YtlpifioneafciaaGrTopoB
namespace Go.Proofs.Ytlpifioneafciaa
open Go.RowKit Go.Maps Go.Lib

theorem tos_users {ring : Nat → Nat} {q r y : Nat} : ∀ (l : List Nat) (st : TblS), y ∈ (l.foldl (toStep ring q) st).1 true r ↔ y ∈ st.1 true r ∨ (y = q ∧ r ≠ q ∧ ∃ x ∈ l, ring x = r)
  | [], st => by simp
  | x :: l, st => by
    rw [List.foldl_cons, tos_users l]
    unfold toStep
    by_cases h : ring x = q
    · rw [if_pos h]
      constructor
      · rintro (h1 | ⟨h1, h2, z, h3, h4⟩)
        · exact .inl h1
        · exact .inr ⟨h1, h2, z, List.mem_cons_of_mem _ h3, h4⟩
      · rintro (h1 | ⟨h1, h2, z, h3, h4⟩)
        · exact .inl h1
        · rcases List.mem_cons.1 h3 with e | h3
          · subst e; exact absurd (h4.symm.trans h) h2
          · exact .inr ⟨h1, h2, z, h3, h4⟩
    · rw [if_neg h]
      show y ∈ updBR st.1 true (ring x) (st.1 true (ring x) ++ [q]) true r ∨ _ ↔ _
      by_cases hr : r = ring x
      · subst hr
        rw [updBR_same, List.mem_append, List.mem_singleton]
        constructor
        · rintro ((h1 | h1) | ⟨h1, h2, z, h3, h4⟩)
          · exact .inl h1
          · exact .inr ⟨h1, h, x, List.mem_cons_self .., rfl⟩
          · exact .inr ⟨h1, h2, z, List.mem_cons_of_mem _ h3, h4⟩
        · rintro (h1 | ⟨h1, _⟩)
          · exact .inl (.inl h1)
          · exact .inl (.inr h1)
      · rw [updBR_ne st.1 _ (show ¬ (true = true ∧ r = ring x) by simp [hr])]
        constructor
        · rintro (h1 | ⟨h1, h2, z, h3, h4⟩)
          · exact .inl h1
          · exact .inr ⟨h1, h2, z, List.mem_cons_of_mem _ h3, h4⟩
        · rintro (h1 | ⟨h1, h2, z, h3, h4⟩)
          · exact .inl h1
          · rcases List.mem_cons.1 h3 with e | h3
            · subst e; exact absurd h4.symm hr
            · exact .inr ⟨h1, h2, z, h3, h4⟩
/-- Who needs a ring: the rings of those that need one of it, but itself. -/
theorem builtS_users (n : Nat) (ring : Nat → Nat) (needs : Nat → List Nat) (r y : Nat) : ∀ i, y ∈ (builtS n ring needs i).1 true r ↔ ∃ k, k < i ∧ ring k = y ∧ r ≠ y ∧ ∃ x ∈ needs k, ring x = r
  | 0 => by
    constructor
    · intro h; exact (List.not_mem_nil h).elim
    · rintro ⟨k, hk, _⟩; omega
  | i + 1 => by
    rw [builtS_succ]
    unfold nodeStep
    rw [tos_users]
    have e : (memStep n ring (builtS n ring needs i) i).1 true r = (builtS n ring needs i).1 true r := by
      unfold memStep
      split
      · exact updBR_ne (builtS n ring needs i).1 ((builtS n ring needs i).1 false (ring i) ++ [i]) (show ¬ (true = false ∧ r = ring i) by simp)
      · rfl
    rw [e, builtS_users n ring needs r y i]
    constructor
    · rintro (⟨k, h1, h2⟩ | ⟨h1, h2, h3⟩)
      · exact ⟨k, by omega, h2⟩
      · exact ⟨i, by omega, h1.symm, by rw [h1]; exact h2, h3⟩
    · rintro ⟨k, h1, h2, h3, h4⟩
      by_cases hk : k = i
      · subst hk; exact .inr ⟨h2.symm, by rw [h2]; exact h3, h4⟩
      · exact .inl ⟨k, by omega, h2, h3, h4⟩
theorem Greedy.ahead {c : Nat} {us : Nat → List Nat} {lt : Nat → Nat → Prop} {dn : List Nat} (h : Greedy c us lt dn) : dn.Pairwise fun x y => x ∉ us y := by
  rw [List.pairwise_iff_getElem]
  intro i j hi hj hij hm
  have := h.behind j i hj hi (by simpa [List.getD, hi, hj] using hm)
  omega
/-- What the groups are. -/
structure GrSpec (n : Nat) (nd : Nat → List Nat) (gs : List (List Nat)) : Prop where
  cls : ∀ g ∈ gs, ∃ i, i < n ∧ i ∈ g ∧ ∀ j, j ∈ g ↔ j < n ∧ Rch nd i j ∧ Rch nd j i
  srt : ∀ g ∈ gs, g.Pairwise fun x y => x < y
  all : ∀ i, i < n → ∃ g ∈ gs, i ∈ g
  dis : gs.Pairwise fun g h => ∀ i ∈ g, i ∉ h
  ord : gs.Pairwise fun g h => ∀ i ∈ g, ∀ j ∈ h, ¬ Rch nd i j
  min : ∀ A g B, gs = A ++ g :: B → ∀ h ∈ B, (∀ i ∈ h, ∀ j, Rch nd i j → j ∈ h ∨ ∃ k ∈ A, j ∈ k) → ∃ i ∈ g, ∀ j ∈ h, i < j
theorem Rch.inside {n : Nat} {nd : Nat → List Nat} (hne : ∀ i, i < n → ∀ x ∈ nd i, x < n) {i j : Nat} (h : Rch nd i j) (hi : i < n) : j < n := by
  induction h with
  | refl _ => exact hi
  | step h1 _ ih => exact ih (hne _ hi _ h1)
theorem Rch.congr {n : Nat} {nd nd' : Nat → List Nat} (hne : ∀ i, i < n → ∀ x ∈ nd i, x < n) (he : ∀ i, i < n → nd' i = nd i) {i j : Nat} (h : Rch nd i j) (hi : i < n) : Rch nd' i j := by
  induction h with
  | refl _ => exact .refl _
  | step h1 _ ih => exact .step (by rw [he _ hi]; exact h1) (ih (hne _ hi _ h1))
theorem GrSpec.congrR {n : Nat} {nd nd' : Nat → List Nat} {gs : List (List Nat)} (h : GrSpec n nd' gs) (cg : ∀ i j, i < n → (Rch nd' i j ↔ Rch nd i j)) : GrSpec n nd gs := by
  have hn : ∀ g ∈ gs, ∀ i ∈ g, i < n := fun g hg i hi => by
    obtain ⟨_, _, _, h2⟩ := h.cls g hg
    exact ((h2 i).1 hi).1
  refine ⟨fun g hg => ?_, h.srt, h.all, h.dis, h.ord.imp_of_mem fun {g k} hg hk hh i hi j hj r => hh i hi j hj ((cg i j (hn g hg i hi)).2 r), fun A g B e k hk hr => h.min A g B e k hk fun i hi j hj => hr i hi j ((cg i j (hn k (by rw [e]; exact List.mem_append_right _ (List.mem_cons_of_mem _ hk)) i hi)).1 hj)⟩
  obtain ⟨i, h1, h2, h3⟩ := h.cls g hg
  refine ⟨i, h1, h2, fun j => (h3 j).trans ⟨fun ⟨a, b, c⟩ => ⟨a, (cg i j h1).1 b, (cg j i a).1 c⟩, fun ⟨a, b, c⟩ => ⟨a, (cg i j h1).2 b, (cg j i a).2 c⟩⟩⟩
theorem GrSpec.congr {n : Nat} {nd nd' : Nat → List Nat} {gs : List (List Nat)} (h : GrSpec n nd' gs) (hne : ∀ i, i < n → ∀ x ∈ nd i, x < n) (he : ∀ i, i < n → nd' i = nd i) : GrSpec n nd gs := by
  have hne' : ∀ i, i < n → ∀ x ∈ nd' i, x < n := fun i hi x hx => hne i hi x (he i hi ▸ hx)
  exact h.congrR fun i j hi => ⟨fun r => r.congr hne' (fun i hi => (he i hi).symm) hi, fun r => r.congr hne he hi⟩
theorem Greedy.at {c : Nat} {us : Nat → List Nat} {lt : Nat → Nat → Prop} {dn : List Nat} (h : Greedy c us lt dn) : ∀ P x Q, dn = P ++ x :: Q → ReadyR c us P x ∧ ∀ y, ReadyR c us P y → ¬ lt y x := by
  induction h with
  | nil => intro P x Q e; simp at e
  | @snoc dn z h1 hr hl ih =>
    intro P x Q e
    rcases List.eq_nil_or_concat Q with rfl | ⟨Q', q, rfl⟩
    · obtain ⟨e1, e2⟩ := List.append_inj' e rfl
      cases e2
      subst e1
      exact ⟨hr, hl⟩
    · have e' : dn ++ [z] = (P ++ x :: Q') ++ [q] := by rw [e]; simp
      obtain ⟨e1, _⟩ := List.append_inj' e' rfl
      exact ih P x Q' e1
theorem cmpN_head {a b : Nat} {l m : List Nat} (h : ¬ cmpN (a :: l) (b :: m) < 0) (hne : a ≠ b) : b < a := by
  unfold cmpN at h
  by_cases h1 : a < b
  · rw [if_pos h1] at h; exact absurd (by decide) h
  · omega
/-- A greedy row of the search's rings gives the groups. -/
theorem spec_of {n : Nat} {nd : Nat → List Nat} {t : SS} {dn : List Nat} (hn : n + 1 < grTop) (hne : ∀ i, i < n → ∀ x ∈ nd i, x < n) (ht : RA n (grInit nd) n t) (hg : Greedy t.rings ((builtS n t.ring nd n).1 true) (ltM ((builtS n t.ring nd n).1 false)) dn) (hno : ∀ y, ¬ ReadyR t.rings ((builtS n t.ring nd n).1 true) dn y) :
    GrSpec n nd ((dn.filter fun r => !((builtS n t.ring nd n).1 false r).isEmpty).map ((builtS n t.ring nd n).1 false)) := by
  obtain ⟨c1, c2⟩ := ht.classes hn hne
  have hrg := ht.ring hn hne
  have hus : ∀ r y, y ∈ (builtS n t.ring nd n).1 true r ↔ ∃ k, k < n ∧ t.ring k = y ∧ r ≠ y ∧ ∃ x ∈ nd k, t.ring x = r := fun r y => builtS_users n t.ring nd r y n
  have hms : ∀ r i, i ∈ (builtS n t.ring nd n).1 false r ↔ i < n ∧ t.ring i = r := fun r i => by
    rw [builtS_mem]
    simp only [List.mem_filter, List.mem_range, Bool.and_eq_true, decide_eq_true_eq]
    exact ⟨fun h => ⟨h.1, h.2.2⟩, fun h => ⟨h.1, h.1, h.2⟩⟩
  have htold := all_told hno fun r _ y hy => by
    obtain ⟨k, h1, h2, h3, x, h4, h5⟩ := (hus r y).1 hy
    have := c1 k h1 x h4
    omega
  have hdn := hg.lt
  have hah := hg.ahead
  have hmem : ∀ g, g ∈ (dn.filter fun r => !((builtS n t.ring nd n).1 false r).isEmpty).map ((builtS n t.ring nd n).1 false) ↔ ∃ r, r ∈ dn ∧ (∃ i, i ∈ (builtS n t.ring nd n).1 false r) ∧ (builtS n t.ring nd n).1 false r = g := fun g => by
    rw [List.mem_map]
    constructor
    · rintro ⟨r, h1, h2⟩
      obtain ⟨h3, h4⟩ := List.mem_filter.1 h1
      refine ⟨r, h3, ?_, h2⟩
      cases hl : (builtS n t.ring nd n).1 false r with
      | nil => rw [hl] at h4; cases h4
      | cons a l => exact ⟨a, List.mem_cons_self ..⟩
    · rintro ⟨r, h1, ⟨i, h2⟩, h3⟩
      refine ⟨r, List.mem_filter.2 ⟨h1, ?_⟩, h3⟩
      cases hl : (builtS n t.ring nd n).1 false r with
      | nil => rw [hl] at h2; cases h2
      | cons a l => rfl
  have hpre : ∀ A B : List Nat, dn = A ++ B → ∀ i j, Rch nd i j → i < n → t.ring i ∈ A → t.ring j ∈ A := fun A B e i j hij => by
    induction hij with
    | refl _ => exact fun _ h => h
    | @step x z y h1 _ ih =>
      intro hx hxA
      have hz := hne x hx z h1
      refine ih hz ?_
      have hzd := htold (t.ring z) (hrg z hz)
      rw [e] at hzd
      rcases List.mem_append.1 hzd with h2 | h2
      · exact h2
      · by_cases hxz : t.ring z = t.ring x
        · rw [hxz]; exact hxA
        · have h3 : t.ring x ∈ (builtS n t.ring nd n).1 true (t.ring z) := (hus _ _).2 ⟨x, hx, rfl, hxz, z, h1, rfl⟩
          rw [e] at hah
          exact absurd h3 ((List.pairwise_append.1 hah).2.2 _ hxA _ h2)
  have hsr : ∀ r, ((builtS n t.ring nd n).1 false r).Pairwise fun x y => x < y := fun r => by
    rw [builtS_mem]
    exact List.Pairwise.filter _ List.pairwise_lt_range
  refine ⟨fun g hg => ?_, fun g hg => ?_, fun i hi => ?_, ?_, ?_, ?_⟩
  · obtain ⟨r, h1, ⟨i, h2⟩, rfl⟩ := (hmem g).1 hg
    have h3 := (hms r i).1 h2
    refine ⟨i, h3.1, h2, fun j => ?_⟩
    rw [hms]
    constructor
    · rintro ⟨a, b⟩
      exact ⟨a, (c2 i j h3.1 a).1 (h3.2.trans b.symm)⟩
    · rintro ⟨a, b⟩
      exact ⟨a, ((c2 i j h3.1 a).2 b).symm.trans h3.2⟩
  · obtain ⟨r, h1, _, rfl⟩ := (hmem g).1 hg
    rw [builtS_mem]
    exact List.Pairwise.filter _ List.pairwise_lt_range
  · exact ⟨(builtS n t.ring nd n).1 false (t.ring i), (hmem _).2 ⟨t.ring i, htold _ (hrg i hi), ⟨i, (hms _ _).2 ⟨hi, rfl⟩⟩, rfl⟩, (hms _ _).2 ⟨hi, rfl⟩⟩
  · rw [List.pairwise_map]
    refine (List.Pairwise.filter _ hdn.1).imp fun {x y} hxy i hi hj => ?_
    exact hxy (((hms x i).1 hi).2.symm.trans ((hms y i).1 hj).2)
  · rw [List.pairwise_map]
    refine List.Pairwise.filter _ ?_
    rw [List.pairwise_iff_getElem]
    intro a b ha hb hab i hi j hj hr
    have hi' := (hms _ i).1 hi
    have hj' := (hms _ j).1 hj
    have h1 := hpre (dn.take b) (dn.drop b) (List.take_append_drop b dn).symm i j hr hi'.1 (by rw [hi'.2]; exact List.mem_take_iff_getElem.2 ⟨a, by omega, rfl⟩)
    rw [hj'.2] at h1
    obtain ⟨k, hk, e⟩ := List.mem_take_iff_getElem.1 h1
    exact List.pairwise_iff_getElem.1 hdn.1 k b (by omega) hb (by omega) e
  · intro A g B e h hh hrd
    obtain ⟨A', L, e1, rfl, e2⟩ := List.map_eq_append_iff.1 e
    obtain ⟨x, B', rfl, rfl, rfl⟩ := List.map_eq_cons_iff.1 e2
    obtain ⟨P, M, e3, e4, e5⟩ := List.filter_eq_append_iff.1 e1
    obtain ⟨M1, M2, e6, e7, e8, e9⟩ := List.filter_eq_cons_iff.1 e5
    obtain ⟨y, hy, rfl⟩ := List.mem_map.1 hh
    have hyM : y ∈ M2.filter fun r => !((builtS n t.ring nd n).1 false r).isEmpty := by rw [e9]; exact hy
    obtain ⟨hy1, hy2⟩ := List.mem_filter.1 hyM
    have hdn2 : dn = (P ++ M1) ++ x :: M2 := by rw [e3, e6]; simp
    obtain ⟨_, hmin⟩ := hg.at _ _ _ hdn2
    have hnd := hdn.1
    rw [hdn2] at hnd
    obtain ⟨_, nd2, nd3⟩ := List.nodup_append.1 hnd
    have hyx : y ≠ x := fun e => (List.nodup_cons.1 nd2).1 (e ▸ hy1)
    have hyP : y ∉ P ++ M1 := fun h => nd3 y h y (List.mem_cons_of_mem _ hy1) rfl
    have hyc : y < t.rings := hdn.2 y (by rw [hdn2]; exact List.mem_append_right _ (List.mem_cons_of_mem _ hy1))
    have hnl := hmin y ⟨hyc, hyP, fun r hr hrP hyr => by
      obtain ⟨k, k1, k2, k3, z, k4, k5⟩ := (hus r y).1 hyr
      rcases hrd k ((hms y k).2 ⟨k1, k2⟩) z (.one k4) with h1 | ⟨w, h1, h2⟩
      · exact k3 (k5.symm.trans ((hms y z).1 h1).2)
      · obtain ⟨u, hu, rfl⟩ := List.mem_map.1 h1
        rw [← e4] at hu
        have h3 := ((hms u z).1 h2).2
        exact hrP (List.mem_append_left _ (by rw [← k5, h3]; exact (List.mem_filter.1 hu).1))⟩
    have sx := hsr x
    have sy := hsr y
    have mx := hms x
    have my := hms y
    unfold ltM at hnl
    cases hlx : (builtS n t.ring nd n).1 false x with
    | nil => rw [hlx] at e8; cases e8
    | cons b m =>
      cases hly : (builtS n t.ring nd n).1 false y with
      | nil => rw [hly] at hy2; cases hy2
      | cons a l =>
        rw [hlx, hly] at hnl
        rw [hlx] at mx
        rw [hly] at my sy
        have hab : a ≠ b := fun e => hyx (((my a).1 (List.mem_cons_self ..)).2.symm.trans (e ▸ ((mx b).1 (List.mem_cons_self ..)).2))
        have hba := cmpN_head hnl hab
        refine ⟨b, List.mem_cons_self .., fun j hj => ?_⟩
        rcases List.mem_cons.1 hj with rfl | hj
        · exact hba
        · have := (List.pairwise_cons.1 sy).1 j hj; omega
/-- Two rows of the same ones, of which one is a chain that the other may not turn round. -/
theorem chain_eq {α : Type} {T : α → α → Prop} : ∀ (L gs : List α), (∀ g, g ∈ gs ↔ g ∈ L) → gs.Nodup → L.Nodup → gs.Pairwise (fun a b => ¬ T a b) → L.Pairwise (fun a b => T b a) → gs = L
  | [], gs, hm, _, _, _, _ => by
    cases gs with
    | nil => rfl
    | cons x gs => have := (hm x).1 (List.mem_cons_self ..); cases this
  | g0 :: L, gs, hm, hn, hl, hp, hc => by
    cases gs with
    | nil => have := (hm g0).2 (List.mem_cons_self ..); cases this
    | cons x gs =>
      obtain ⟨n1, n2⟩ := List.nodup_cons.1 hn
      obtain ⟨l1, l2⟩ := List.nodup_cons.1 hl
      obtain ⟨p1, p2⟩ := List.pairwise_cons.1 hp
      obtain ⟨q1, q2⟩ := List.pairwise_cons.1 hc
      have e : x = g0 := by
        refine Classical.byContradiction fun hne => ?_
        have h1 : g0 ∈ gs := (List.mem_cons.1 ((hm g0).2 (List.mem_cons_self ..))).resolve_left (Ne.symm hne)
        have h2 : x ∈ L := (List.mem_cons.1 ((hm x).1 (List.mem_cons_self ..))).resolve_left hne
        exact p1 g0 h1 (q1 x h2)
      subst e
      rw [chain_eq L gs (fun g => ⟨fun h => (List.mem_cons.1 ((hm g).1 (List.mem_cons_of_mem _ h))).resolve_left fun e => n1 (e ▸ h), fun h => (List.mem_cons.1 ((hm g).2 (List.mem_cons_of_mem _ h))).resolve_left fun e => l1 (e ▸ h)⟩) n2 l2 p2 q2]
theorem sorted_same : ∀ (l m : List Nat), l.Pairwise (fun x y => x < y) → m.Pairwise (fun x y => x < y) → (∀ i, i ∈ l ↔ i ∈ m) → l = m
  | [], m, _, _, h => by
    cases m with
    | nil => rfl
    | cons a m => have := (h a).2 (List.mem_cons_self ..); cases this
  | a :: l, m, hl, hm, h => by
    cases m with
    | nil => have := (h a).1 (List.mem_cons_self ..); cases this
    | cons b m =>
      obtain ⟨l1, l2⟩ := List.pairwise_cons.1 hl
      obtain ⟨m1, m2⟩ := List.pairwise_cons.1 hm
      have e : a = b := by
        have h1 := List.mem_cons.1 ((h a).1 (List.mem_cons_self ..))
        have h2 := List.mem_cons.1 ((h b).2 (List.mem_cons_self ..))
        rcases h1 with h1 | h1
        · exact h1
        · rcases h2 with h2 | h2
          · exact h2.symm
          · have := m1 a h1; have := l1 b h2; omega
      subst e
      rw [sorted_same l m l2 m2 fun i => ⟨fun hi => (List.mem_cons.1 ((h i).1 (List.mem_cons_of_mem _ hi))).resolve_left fun e => by have := l1 i hi; omega, fun hi => (List.mem_cons.1 ((h i).2 (List.mem_cons_of_mem _ hi))).resolve_left fun e => by have := m1 i hi; omega⟩]
/-- The groups are a given chain of classes, each of which leads to those ahead. -/
theorem GrSpec.chain {n : Nat} {nd : Nat → List Nat} {gs L : List (List Nat)} (h : GrSpec n nd gs) (hc : ∀ g ∈ L, g.Pairwise (fun x y => x < y) ∧ ∃ i, i < n ∧ i ∈ g ∧ ∀ j, j ∈ g ↔ j < n ∧ Rch nd i j ∧ Rch nd j i) (ha : ∀ i, i < n → ∃ g ∈ L, i ∈ g) (hl : L.Pairwise fun g k => (∃ i ∈ k, ∃ j ∈ g, Rch nd i j) ∧ ∀ i ∈ g, i ∉ k) : gs = L := by
  have same : ∀ g k : List Nat, (g.Pairwise (fun x y => x < y) ∧ ∃ i, i < n ∧ i ∈ g ∧ ∀ j, j ∈ g ↔ j < n ∧ Rch nd i j ∧ Rch nd j i) → (k.Pairwise (fun x y => x < y) ∧ ∃ i, i < n ∧ i ∈ k ∧ ∀ j, j ∈ k ↔ j < n ∧ Rch nd i j ∧ Rch nd j i) → ∀ x, x ∈ g → x ∈ k → g = k := by
    rintro g k ⟨s1, i, i1, i2, i3⟩ ⟨s2, j, j1, j2, j3⟩ x hx hy
    obtain ⟨_, a1, a2⟩ := (i3 x).1 hx
    obtain ⟨_, b1, b2⟩ := (j3 x).1 hy
    refine sorted_same g k s1 s2 fun z => ?_
    rw [i3, j3]
    exact ⟨fun ⟨z1, z2, z3⟩ => ⟨z1, (b1.trans a2).trans z2, z3.trans (a1.trans b2)⟩, fun ⟨z1, z2, z3⟩ => ⟨z1, (a1.trans b2).trans z2, z3.trans (b1.trans a2)⟩⟩
  have gc : ∀ g ∈ gs, g.Pairwise (fun x y => x < y) ∧ ∃ i, i < n ∧ i ∈ g ∧ ∀ j, j ∈ g ↔ j < n ∧ Rch nd i j ∧ Rch nd j i := fun g hg => ⟨h.srt g hg, h.cls g hg⟩
  have nd1 : ∀ M : List (List Nat), (∀ g ∈ M, ∃ i, i ∈ g) → M.Pairwise (fun g k => ∀ i ∈ g, i ∉ k) → M.Nodup := fun M hM hp => hp.imp_of_mem fun {g k} hg _ hh e => by
    obtain ⟨i, hi⟩ := hM g hg
    exact hh i hi (e ▸ hi)
  refine chain_eq (T := fun a b => ∃ i ∈ a, ∃ j ∈ b, Rch nd i j) L gs (fun g => ⟨fun hg => ?_, fun hg => ?_⟩) (nd1 gs (fun g hg => by obtain ⟨_, i, _, hi, _⟩ := gc g hg; exact ⟨i, hi⟩) h.dis) (nd1 L (fun g hg => by obtain ⟨_, i, _, hi, _⟩ := hc g hg; exact ⟨i, hi⟩) (hl.imp fun hh => hh.2)) (h.ord.imp fun hh ⟨i, hi, j, hj, hr⟩ => hh i hi j hj hr) (hl.imp fun hh => hh.1)
  · obtain ⟨_, i, i1, i2, _⟩ := gc g hg
    obtain ⟨k, hk, hik⟩ := ha i i1
    rw [same g k (gc g hg) (hc k hk) i i2 hik]; exact hk
  · obtain ⟨_, i, i1, i2, _⟩ := hc g hg
    obtain ⟨k, hk, hik⟩ := h.all i i1
    rw [same g k (hc g hg) (gc k hk) i i2 hik]; exact hk
theorem GrSpec.mem {n : Nat} {nd : Nat → List Nat} {gs : List (List Nat)} (h : GrSpec n nd gs) {g : List Nat} (hg : g ∈ gs) {i j : Nat} (hi : i ∈ g) : j ∈ g ↔ j < n ∧ Rch nd i j ∧ Rch nd j i := by
  obtain ⟨x, x1, x2, x3⟩ := h.cls g hg
  obtain ⟨_, a1, a2⟩ := (x3 i).1 hi
  rw [x3]
  exact ⟨fun ⟨z1, z2, z3⟩ => ⟨z1, a2.trans z2, z3.trans a1⟩, fun ⟨z1, z2, z3⟩ => ⟨z1, a1.trans z2, z3.trans a2⟩⟩
theorem GrSpec.lt {n : Nat} {nd : Nat → List Nat} {gs : List (List Nat)} (h : GrSpec n nd gs) {g : List Nat} (hg : g ∈ gs) {i : Nat} (hi : i ∈ g) : i < n := ((h.mem hg hi).1 hi).1
/-- Of one relation there is one row of groups. -/
theorem GrSpec.unique {n : Nat} {nd : Nat → List Nat} (hxyn : ∀ i j, i < n → Rch nd i j → j < n) : ∀ (gs gs' A : List (List Nat)), GrSpec n nd (A ++ gs) → GrSpec n nd (A ++ gs') → gs = gs'
  | [], gs', A, h, h' => by
    cases gs' with
    | nil => rfl
    | cons g t =>
      exfalso
      have hg : g ∈ A ++ g :: t := by simp
      obtain ⟨i, i1, i2, _⟩ := h'.cls g hg
      obtain ⟨k, hk, hik⟩ := h.all i i1
      rw [List.append_nil] at hk
      exact (List.pairwise_append.1 h'.dis).2.2 k hk g (List.mem_cons_self ..) i hik i2
  | g :: t, gs', A, h, h' => by
    cases gs' with
    | nil =>
      exfalso
      have hg : g ∈ A ++ g :: t := by simp
      obtain ⟨i, i1, i2, _⟩ := h.cls g hg
      obtain ⟨k, hk, hik⟩ := h'.all i i1
      rw [List.append_nil] at hk
      exact (List.pairwise_append.1 h.dis).2.2 k hk g (List.mem_cons_self ..) i hik i2
    | cons g' t' =>
      -- each one's first stands in the other, and could come next there
      have key : ∀ (g g' : List Nat) (t t' : List (List Nat)), GrSpec n nd (A ++ g :: t) → GrSpec n nd (A ++ g' :: t') → g ≠ g' → ∃ i ∈ g, ∀ j ∈ g', i < j := fun g g' t t' h h' hne => by
        have hg' : g' ∈ A ++ g' :: t' := by simp
        obtain ⟨i, i1, i2, _⟩ := h'.cls g' hg'
        obtain ⟨k, hk, hik⟩ := h.all i i1
        have e : k = g' := sorted_same k g' (h.srt k hk) (h'.srt g' hg') fun z => by rw [h.mem hk hik, h'.mem hg' i2]
        subst e
        have hkt : k ∈ t := by
          rcases List.mem_append.1 hk with h1 | h1
          · exact absurd i2 ((List.pairwise_append.1 h'.dis).2.2 k h1 k (List.mem_cons_self ..) i hik)
          · exact (List.mem_cons.1 h1).resolve_left (Ne.symm hne)
        refine h.min A g t rfl k hkt fun x hx y hxy => ?_
        have hxn := h.lt hk hx
        obtain ⟨m, hm, hym⟩ := h'.all y (hxyn x y hxn hxy)
        rcases List.mem_append.1 hm with h1 | h1
        · exact .inr ⟨m, h1, hym⟩
        · rcases List.mem_cons.1 h1 with rfl | h1
          · exact .inl hym
          · exact absurd hxy ((List.pairwise_cons.1 (List.pairwise_append.1 h'.ord).2.1).1 m h1 x hx y hym)
      by_cases e : g = g'
      · subst e
        rw [GrSpec.unique hxyn t t' (A ++ [g]) (by simpa using h) (by simpa using h')]
      · exfalso
        obtain ⟨i, i1, i2⟩ := key g g' t t' h h' e
        obtain ⟨j, j1, j2⟩ := key g' g t' t h' h (Ne.symm e)
        have := i2 j j1; have := j2 i i1; omega
end Go.Proofs.Ytlpifioneafciaa
