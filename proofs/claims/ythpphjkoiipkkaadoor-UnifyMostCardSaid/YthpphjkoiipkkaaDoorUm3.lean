/- Merged: UgSim, UgOrd, TyMem. -/
import Derived.Test.YthpphjkoiipkkaaDoorUm2
import Derived.Test.YthpphjkoiipkkaaDoorUm1
import Derived.Test.YthpphjkoiipkkaaDoorRows
import Derived.Test.YthpphjkoiipkkaaDoorChecked
import Derived.WalkKit
import Derived.WalkSpells
import Derived.WalkLawsBesides
import Derived.Lib.Hide
import Derived.BigQuiet
import Derived.Maps.AppendAt
import Derived.OwnWalk
import Derived.Deep.RegionWith
import Derived.Lib.Strings
import Derived.Lib.Slices
/- A graph of parts: what is found in it is what the chapter's way finds. -/
namespace Go.Proofs.YthpphjkoiipkkaaDoor

/-- What was found so far, as types for variables, is what the graph says. -/
structure SI (G : Gr) (σ : Sg) (rt : Nat → Nat) : Prop where
  idem : Idem σ
  eqv : ∀ i j, i < G.N → j < G.N → rt i = rt j → sub σ (G.tr i) = sub σ (G.tr j)
  free : ∀ i, i < G.N → rt i = i → (G.tr i).isV = true → sub σ (G.tr i) = G.tr i
  out : ∀ x, (∀ i, i < G.N → G.tr i ≠ .var x) → σ x = .var x
theorem SI.root {G : Gr} {σ : Sg} {rt : Nat → Nat} (h : SI G σ rt) (g : GI G rt) {i : Nat} (hi : i < G.N) : sub σ (G.tr i) = sub σ (G.tr (rt i)) := h.eqv _ _ hi (g.lt _ hi) (g.fix _ hi).symm
theorem SI.acyc {G : Gr} {σ : Sg} {rt : Nat → Nat} (h : SI G σ rt) (g : GI G rt) : Acyc G rt := by
  refine ⟨fun i => tsize (sub σ (G.tr i)), fun i hi ri x hx => ?_⟩
  have hx' := g.ok.arg hi hx
  show tsize (sub σ (G.tr (rt x))) < tsize (sub σ (G.tr i))
  rw [← h.root g hx']
  have hv : (G.tr i).isV = false := by
    cases hv : (G.tr i).isV with
    | false => rfl
    | true => rw [g.ok.var_no hi hv] at hx; cases hx
  refine tsize_kid ?_
  rw [(sub_parts σ _ hv).2.2.1, g.ok.kids i hi, List.map_map]
  exact List.mem_map.2 ⟨x, hx, rfl⟩
/-- A root that is a variable goes where another root goes. -/
theorem SI.bind {G : Gr} {σ τ : Sg} {rt : Nat → Nat} {a b : Nat} {x : ByteArray} (h : SI G σ rt) (g : GI G rt) (ha : a < G.N) (hb : b < G.N) (ra : rt a = a) (rb : rt b = b) (hne : a ≠ b) (ea : G.tr a = .var x) (hB : Binds σ x (sub σ (G.tr b)) τ) : SI G τ (un rt a b) := by
  have hsa : sub σ (G.tr a) = .var x := by rw [h.free a ha ra (by rw [ea]; rfl), ea]
  have hin : ∀ i, i < G.N → rt i = a → sub τ (G.tr i) = sub σ (G.tr b) := fun i hi e => by
    rw [hB.sub, h.eqv i a hi ha (e.trans ra.symm), hsa]; exact one_at _ _
  have hbb : ∀ i, i < G.N → rt i = b → sub τ (G.tr i) = sub σ (G.tr b) := fun i hi e => by
    rw [hB.sub, h.eqv i b hi hb (e.trans rb.symm)]; exact one_out hB.out
  refine ⟨hB.idem h.idem, fun i j hi hj e => ?_, fun i hi ri hv => ?_, fun y hy => ?_⟩
  · by_cases ei : rt i = a
    · by_cases ej : rt j = a
      · rw [hin i hi ei, hin j hj ej]
      · rw [un_ren, un_ren, ei, ren_at, ren_ne ej] at e
        rw [hin i hi ei, hbb j hj e.symm]
    · by_cases ej : rt j = a
      · rw [un_ren, un_ren, ej, ren_at, ren_ne ei] at e
        rw [hin j hj ej, hbb i hi e]
      · rw [un_ren, un_ren, ren_ne ei, ren_ne ej] at e
        rw [hB.sub, hB.sub, h.eqv i j hi hj e]
  · have hia : i ≠ a := by
      rintro rfl
      rw [un_ren, ra, ren_at] at ri
      exact hne ri.symm
    by_cases e : rt i = a
    · rw [un_ren, e, ren_at] at ri
      subst ri
      exact (hne (by rw [← e, rb])).elim
    · rw [un_ren, ren_ne e] at ri
      have h1 := h.free i hi ri hv
      rw [hB.sub, h1, isV_var hv]
      show one x _ (G.tr i).name = _
      refine one_ne _ fun e' => hia ?_
      refine g.ok.vars i a hi ha hv ?_
      rw [isV_var hv, ea, e']
  · have hyx : y ≠ x := fun e => hy a ha (by rw [ea, e])
    rw [hB.new]
    show sub (one x _) (σ y) = _
    rw [h.out y hy]
    exact one_ne _ hyx
/-- A variable that stands in what it gets: a part stands within itself. -/
theorem SI.occ {G : Gr} {σ : Sg} {rt : Nat → Nat} {a b : Nat} {x : ByteArray} (h : SI G σ rt) (g : GI G rt) (ha : a < G.N) (hb : b < G.N) (rb : rt b = b) (hne : a ≠ b) (ea : G.tr a = .var x) (hx : x ∈ vs (sub σ (G.tr b))) : ¬ Acyc G (un rt a b) := by
  rintro ⟨m, hm⟩
  have key : ∀ n i, i < G.N → tsize (sub σ (G.tr i)) ≤ n → x ∈ vs (sub σ (G.tr i)) → rt i = a ∨ m b < m (un rt a b i) := by
    intro n
    induction n with
    | zero => intro i _ h0 _; have := tsize_pos (sub σ (G.tr i)); omega
    | succ n ih =>
      intro i hi hn hxi
      have er := h.root g hi
      have lr := g.lt i hi
      cases hv : (G.tr (rt i)).isV with
      | true =>
        left
        rw [er, h.free _ lr (g.fix _ hi) hv, isV_var hv] at hxi
        simp [vs] at hxi
        refine g.ok.vars _ _ lr ha hv ?_
        rw [ea, hxi]; exact isV_var hv
      | false =>
        by_cases hia : rt i = a
        · exact .inl hia
        · right
          obtain ⟨_, _, s3, s4⟩ := sub_parts σ _ hv
          rw [er] at hxi hn
          obtain ⟨k, hk, hxk⟩ := (vs_kids s4).1 hxi
          have hsz := tsize_kid hk
          rw [s3, g.ok.kids _ lr, List.map_map] at hk
          obtain ⟨y, hy, rfl⟩ := List.mem_map.1 hk
          have hroot : un rt a b (rt i) = rt i := by rw [un_ren, g.fix _ hi, ren_ne hia]
          have hlt := hm _ lr hroot y hy
          have hui : un rt a b i = rt i := by rw [un_ren, ren_ne hia]
          rw [hui]
          rcases ih y (g.ok.arg lr hy) (by have : tsize (sub σ (G.tr y)) < _ := hsz; omega) hxk with e | e
          · rw [un_ren, e, ren_at] at hlt; exact hlt
          · exact Nat.lt_trans e hlt
  rcases key _ b hb (Nat.le_refl _) hx with e | e
  · exact hne (by rw [← e, rb])
  · rw [un_ren, rb, ren_ne (fun e => hne e.symm)] at e
    exact Nat.lt_irrefl _ e
/-- Two parts whose arguments are one are one. -/
theorem SI.join {G : Gr} {σ : Sg} {rt : Nat → Nat} {a b : Nat} (h : SI G σ rt) (g : GI G rt) (ha : a < G.N) (hb : b < G.N) (ra : rt a = a) (rb : rt b = b) (hl : Like G rt a b) : SI G σ (un rt a b) := by
  obtain ⟨v1, v2, k1, n1, m1⟩ := hl
  have e0 : sub σ (G.tr a) = sub σ (G.tr b) := by
    refine kids_same v1 v2 k1 n1 ?_
    rw [g.ok.kids a ha, g.ok.kids b hb, List.map_map, List.map_map]
    have hlen : (G.ag a).length = (G.ag b).length := by have := congrArg List.length m1; simpa using this
    refine List.ext_getElem (by simpa using hlen) fun k h1 h2 => ?_
    rw [List.getElem_map, List.getElem_map]
    have h1' : k < (G.ag a).length := by simpa using h1
    have h2' : k < (G.ag b).length := by simpa using h2
    refine h.eqv _ _ (g.ok.arg ha (List.getElem_mem h1')) (g.ok.arg hb (List.getElem_mem h2')) ?_
    have : ((G.ag a).map rt)[k]'(by simpa using h1') = ((G.ag b).map rt)[k]'(by simpa using h2') := by simp only [m1]
    simpa using this
  refine ⟨h.idem, fun i j hi hj e => ?_, fun i hi ri hv => ?_, h.out⟩
  · have hin : ∀ i, i < G.N → rt i = a → sub σ (G.tr i) = sub σ (G.tr b) := fun i hi e => by rw [h.eqv i a hi ha (e.trans ra.symm), e0]
    have hbb : ∀ i, i < G.N → rt i = b → sub σ (G.tr i) = sub σ (G.tr b) := fun i hi e => h.eqv i b hi hb (e.trans rb.symm)
    by_cases ei : rt i = a
    · by_cases ej : rt j = a
      · rw [hin i hi ei, hin j hj ej]
      · rw [un_ren, un_ren, ei, ren_at, ren_ne ej] at e
        rw [hin i hi ei, hbb j hj e.symm]
    · by_cases ej : rt j = a
      · rw [un_ren, un_ren, ej, ren_at, ren_ne ei] at e
        rw [hin j hj ej, hbb i hi e]
      · rw [un_ren, un_ren, ren_ne ei, ren_ne ej] at e
        exact h.eqv i j hi hj e
  · by_cases e : rt i = a
    · rw [un_ren, e, ren_at] at ri
      subst ri
      rw [v2] at hv; cases hv
    · rw [un_ren, ren_ne e] at ri
      exact h.free i hi ri hv

/-- As many steps as there can be at once. K: how many steps there are from one look to the next. -/
def capM (G : Gr) (E K : Nat) : Nat := 1 + (G.N + K + 2) * (E + 1)
/-- How join ends, in so many rounds: what it answers, and what is one then. -/
inductive EndsIn (G : Gr) (E K : Nat) : Nat → (Nat → Nat) → List Stp → Nat → Bool → (Nat → Nat) → Prop
  | empty (rt : Nat → Nat) (c : Nat) : EndsIn G E K 0 rt [] c true rt
  | stop (rt : Nat → Nat) (s : Stp) (ws : List Stp) (c : Nat) : stepG G rt s ws = none → EndsIn G E K 1 rt (s :: ws) c false rt
  | round (rt rt' : Nat → Nat) (s : Stp) (ws ws' : List Stp) (c : Nat) : stepG G rt s ws = some (rt', ws') → ws'.length ≤ capM G E K → K < c + 1 → ¬ Acyc G rt' → EndsIn G E K 1 rt (s :: ws) c false rt'
  | go (n : Nat) (rt rt' rf : Nat → Nat) (s : Stp) (ws ws' : List Stp) (c : Nat) (fl : Bool) : stepG G rt s ws = some (rt', ws') → ws'.length ≤ capM G E K → (c + 1 ≤ K ∨ Acyc G rt') → EndsIn G E K n rt' ws' (if c + 1 ≤ K then c + 1 else 0) fl rf → EndsIn G E K (n + 1) rt (s :: ws) c fl rf
def Ends (G : Gr) (E K : Nat) (rt : Nat → Nat) (ws : List Stp) (c : Nat) (Q : Bool → (Nat → Nat) → Prop) : Prop := ∃ n fl rf, EndsIn G E K n rt ws c fl rf ∧ GI G rf ∧ Q fl rf
theorem cap_of {G : Gr} {E K : Nat} {rt : Nat → Nat} {ws : List Stp} (h : SK G E rt ws) (hn : numJ ws ≤ G.N + K + 2) : ws.length ≤ capM G E K := by
  have h1 := h.2.2.len
  have h2 := Nat.mul_le_mul_right (E + 1) hn
  unfold capM; omega
theorem Ends.next {G : Gr} {E K : Nat} {rt rt' : Nat → Nat} {s : Stp} {ws ws' : List Stp} {c : Nat} {Q : Bool → (Nat → Nat) → Prop} (e : stepG G rt s ws = some (rt', ws')) (g : GI G rt') (hs : SK G E rt' ws') (k : Acyc G rt') (h : ∀ c', Ends G E K rt' ws' c' Q) : Ends G E K rt (s :: ws) c Q := by
  obtain ⟨n, fl, rf, h1, h2⟩ := h (if c + 1 ≤ K then c + 1 else 0)
  exact ⟨n + 1, fl, rf, .go n rt rt' rf s ws ws' c fl e (cap_of hs (by have := hs.few g k; omega)) (.inr k) h1, h2⟩
/-- Once a part stands within itself join comes to its end, and it still does. -/
theorem cyc_ends {G : Gr} {E K : Nat} (hE : ∀ i, i < G.N → (G.ag i).length ≤ E) : ∀ (n : Nat) (rt : Nat → Nat) (ws : List Stp) (c : Nat), K + 1 - c ≤ n → numJ ws + n + 1 ≤ G.N + K + 2 → GI G rt → SK G E rt ws → ¬ Acyc G rt → Ends G E K rt ws c fun _ rf => ¬ Acyc G rf := by
  intro n
  induction n with
  | zero =>
    intro rt ws c hn hJ g hs hA
    cases ws with
    | nil => exact ⟨_, _, _, .empty rt c, g, hA⟩
    | cons s ws =>
      cases e : stepG G rt s ws with
      | none => exact ⟨_, _, _, .stop rt s ws c e, g, hA⟩
      | some q =>
        obtain ⟨rt', ws'⟩ := q
        obtain ⟨⟨g', hs'⟩, hb, hn'⟩ := step_inv hE g hs e
        exact ⟨_, _, _, .round rt rt' s ws ws' c e (cap_of hs' (by omega)) (by omega) (fun h => hA (hb h)), g', fun h => hA (hb h)⟩
  | succ n ih =>
    intro rt ws c hn hJ g hs hA
    cases ws with
    | nil => exact ⟨_, _, _, .empty rt c, g, hA⟩
    | cons s ws =>
      cases e : stepG G rt s ws with
      | none => exact ⟨_, _, _, .stop rt s ws c e, g, hA⟩
      | some q =>
        obtain ⟨rt', ws'⟩ := q
        obtain ⟨⟨g', hs'⟩, hb, hn'⟩ := step_inv hE g hs e
        have hM := cap_of (K := K) hs' (by omega)
        by_cases hc : c + 1 ≤ K
        · obtain ⟨m, fl, rf, h1, h2⟩ := ih rt' ws' (c + 1) (by omega) (by omega) g' hs' (fun h => hA (hb h))
          exact ⟨m + 1, fl, rf, .go m rt rt' rf s ws ws' c fl e hM (.inl hc) (by rw [if_pos hc]; exact h1), h2⟩
        · exact ⟨_, _, _, .round rt rt' s ws ws' c e hM (by omega) (fun h => hA (hb h)), g', fun h => hA (hb h)⟩
theorem cyc_next {G : Gr} {E K : Nat} (hE : ∀ i, i < G.N → (G.ag i).length ≤ E) {rt rt' : Nat → Nat} {s : Stp} {ws ws' : List Stp} {c : Nat} (e : stepG G rt s ws = some (rt', ws')) (g : GI G rt') (hs : SK G E rt' ws') (hA : ¬ Acyc G rt') (hJ : numJ ws' ≤ G.N) : Ends G E K rt (s :: ws) c fun _ rf => ¬ Acyc G rf := by
  have hM := cap_of (K := K) hs (by omega)
  by_cases hc : c + 1 ≤ K
  · obtain ⟨m, fl, rf, h1, h2⟩ := cyc_ends hE (K + 1 - (c + 1)) rt' ws' (c + 1) (Nat.le_refl _) (by omega) g hs hA
    exact ⟨m + 1, fl, rf, .go m rt rt' rf s ws ws' c fl e hM (.inl hc) (by rw [if_pos hc]; exact h1), h2⟩
  · exact ⟨_, _, _, .round rt rt' s ws ws' c e hM (by omega) hA, g, hA⟩

/-- Two that are the same already: nothing is found. -/
theorem uniL_eq {u : Sg → T → T → Option UR} (H : ∀ σ a b r, u σ a b = some r → Idem σ → sub σ a = sub σ b → r = .ok σ) (σ : Sg) (hi : Idem σ) : ∀ (l m : List T) (r : UR), uniL u σ l m = some r → l.map (sub σ) = m.map (sub σ) → r = .ok σ
  | [], _, r, h, _ => by simp [uniL] at h; exact h.symm
  | _ :: _, [], r, h, _ => by simp [uniL] at h; exact h.symm
  | a :: l, b :: m, r, h, e => by
    rw [List.map_cons, List.map_cons] at e
    injection e with e1 e2
    rw [uniL] at h
    cases hu : u σ a b with
    | none => rw [hu] at h; cases h
    | some q =>
      have := H σ a b q hu hi e1
      subst this
      rw [hu] at h
      exact uniL_eq H σ hi l m r h e2
theorem uni_eq : ∀ (f : Nat) (σ : Sg) (a b : T) (r : UR), uni f σ a b = some r → Idem σ → sub σ a = sub σ b → r = .ok σ
  | 0, _, _, _, _, h, _, _ => by cases h
  | f + 1, σ, a, b, r, h, hi, e => by
    rw [uni] at h
    have hs := stepU_is (uni f) σ a b hi
    rw [h] at hs
    generalize hr : some r = q at hs
    cases hs with
    | same x e1 e2 => injection hr
    | left x τ e1 hb =>
      have := hb.out
      rw [← e, e1] at this
      exact (this (by simp [vs])).elim
    | leftIn x e1 ho hv => rw [← e, e1] at hv; cases hv
    | right x τ hv e2 hb => rw [e, e2] at hv; cases hv
    | rightIn x hv e2 => rw [e, e2] at hv; cases hv
    | parts h1 h2 h3 h4 h5 => exact uniL_eq (uni_eq f) σ hi _ _ r hr.symm (by rw [e])
    | bad h1 h2 hn => exact (hn ⟨by rw [e], by rw [e], by rw [e]⟩).elim
/-- Only what was found so far in the two counts. -/
theorem uni_on {f : Nat} {σ : Sg} {a b a' b' : T} (ea : sub σ a = sub σ a') (eb : sub σ b = sub σ b') : uni f σ a b = uni f σ a' b' := by
  cases f with
  | zero => rfl
  | succ f => rw [uni, uni, ea, eb]
/-- What is said of an end. -/
def BadQ (G : Gr) (e : Bool) (fl : Bool) (rf : Nat → Nat) : Prop := if e then ¬ Acyc G rf else fl = false ∧ Acyc G rf
def Sim (G : Gr) (E K : Nat) (u : Sg → T → T → Option UR) : Prop := ∀ (σ : Sg) (rt : Nat → Nat) (c i j : Nat) (ws : List Stp) (r : UR), GI G rt → SK G E rt (⟨i, j, false⟩ :: ws) → SI G σ rt → u σ (G.tr i) (G.tr j) = some r →
  (∀ e, r = .bad e → Ends G E K rt (⟨i, j, false⟩ :: ws) c (BadQ G e)) ∧
  (∀ τ, r = .ok τ → ∀ Q, (∀ rt' c', GI G rt' → SK G E rt' ws → SI G τ rt' → Ends G E K rt' ws c' Q) → Ends G E K rt (⟨i, j, false⟩ :: ws) c Q)
theorem sim_list {G : Gr} {E K f : Nat} (H : Sim G E K (uni f)) (σ0 : Sg) (i0 : Idem σ0) : ∀ (l m : List Nat) (σ : Sg) (rt : Nat → Nat) (c : Nat) (ws : List Stp) (r : UR), l.length = m.length → ExtU σ0 σ → GI G rt → SK G E rt (pairsU l m ++ ws) → SI G σ rt →
    uniL (uni f) σ (l.map fun x => sub σ0 (G.tr x)) (m.map fun x => sub σ0 (G.tr x)) = some r →
    (∀ e, r = .bad e → Ends G E K rt (pairsU l m ++ ws) c (BadQ G e)) ∧
    (∀ τ, r = .ok τ → ∀ Q, (∀ rt' c', GI G rt' → SK G E rt' ws → SI G τ rt' → Ends G E K rt' ws c' Q) → Ends G E K rt (pairsU l m ++ ws) c Q)
  | [], [], σ, rt, c, ws, r, _, _, g, hs, h, e => by
    simp [uniL] at e
    subst e
    exact ⟨fun _ e => (nomatch e), fun τ e Q k => by injection e with e; subst e; exact k rt c g hs h⟩
  | [], _ :: _, _, _, _, _, _, hl, _, _, _, _, _ => by simp at hl
  | _ :: _, [], _, _, _, _, _, hl, _, _, _, _, _ => by simp at hl
  | x :: l, y :: m, σ, rt, c, ws, r, hl, hE, g, hs, h, e => by
    rw [List.map_cons, List.map_cons, uniL, uni_on (hE.sub i0 _) (hE.sub i0 _)] at e
    cases hu : uni f σ (G.tr x) (G.tr y) with
    | none => rw [hu] at e; cases e
    | some q =>
      rw [hu] at e
      have hh := H σ rt c x y (pairsU l m ++ ws) q g hs h hu
      cases q with
      | bad e' =>
        simp only [Option.some.injEq] at e
        subst e
        exact ⟨fun e h => by injection h with h; subst h; exact hh.1 _ rfl, fun _ e => by cases e⟩
      | ok ρ =>
        have hρ := uni_sound f σ _ _ ρ hu h.idem
        have hrec := fun rt' c' g' hs' h' => sim_list H σ0 i0 l m ρ rt' c' ws r (by simpa using hl) (hE.trans hρ.2.1) g' hs' h' e
        exact ⟨fun e' he => hh.2 ρ rfl _ fun rt' c' g' hs' h' => (hrec rt' c' g' hs' h').1 e' he,
          fun τ hτ Q k => hh.2 ρ rfl _ fun rt' c' g' hs' h' => (hrec rt' c' g' hs' h').2 τ hτ Q k⟩
theorem sim {G : Gr} {E K : Nat} (hE : ∀ i, i < G.N → (G.ag i).length ≤ E) : ∀ f, Sim G E K (uni f)
  | 0 => fun σ rt c i j ws r _ _ _ h => by cases h
  | f + 1 => fun σ rt c i j ws r g hs h hu => by
    obtain ⟨hi, hj, _⟩ := hs.1.1
    have hi : i < G.N := hi
    have hj : j < G.N := hj
    have ea := h.root g hi
    have eb := h.root g hj
    have la := g.lt i hi
    have lb := g.lt j hj
    have ra := g.fix i hi
    have rb := g.fix j hj
    have hJ : numJ ws ≤ G.N := Nat.le_trans (numJ_le _ _) (hs.few g (h.acyc g))
    by_cases he : rt i = rt j
    · have hr := uni_eq _ _ _ _ _ hu h.idem (by rw [ea, eb, he])
      subst hr
      have e : stepG G rt ⟨i, j, false⟩ ws = some (rt, ws) := by unfold stepG; rw [if_pos he]
      obtain ⟨⟨_, hs'⟩, _, _⟩ := step_inv hE g hs e
      exact ⟨fun _ e => (nomatch e), fun τ eq Q k => Ends.next e g hs' (h.acyc g) fun c' => by injection eq with eq; subst eq; exact k rt c' g hs' h⟩
    · rw [uni, ea, eb] at hu
      have hS := stepU_is (uni f) σ (G.tr (rt i)) (G.tr (rt j)) h.idem
      rw [hu] at hS
      generalize hr : some r = q at hS
      have hnv : ∀ k, k < G.N → (G.tr k).isV = false → (sub σ (G.tr k)).isV = false := fun k _ hv => (sub_parts σ _ hv).2.2.2
      have hvr : ∀ k, k < G.N → rt k = k → (G.tr k).isV = true → ∀ x, sub σ (G.tr k) = .var x → G.tr k = .var x := fun k hk rk hv x e => by rw [← h.free k hk rk hv, e]
      have hvt : ∀ k, k < G.N → rt k = k → (G.tr k).isV = true → (sub σ (G.tr k)).isV = true := fun k hk rk hv => by rw [h.free k hk rk hv]; exact hv
      by_cases va : (G.tr (rt i)).isV = true
      · have e : stepG G rt ⟨i, j, false⟩ ws = some (un rt (rt i) (rt j), ws) := by unfold stepG; rw [if_neg he, if_pos (Or.inr va)]
        obtain ⟨⟨g', hs'⟩, _, _⟩ := step_inv hE g hs e
        cases hS with
        | same x e1 e2 =>
          refine (he ?_).elim
          have ta := hvr _ la ra va x e1
          cases vb : (G.tr (rt j)).isV with
          | true => exact g.ok.vars _ _ la lb va (by rw [ta, hvr _ lb rb vb x e2])
          | false => have := hnv _ lb vb; rw [e2] at this; cases this
        | left x τ e1 hB =>
          have ta := hvr _ la ra va x e1
          injection hr with hr
          subst hr
          have h' := h.bind g la lb ra rb he ta hB
          exact ⟨fun _ e => (nomatch e), fun τ' eq Q k => Ends.next e g' hs' (h'.acyc g') fun c' => by injection eq with eq; subst eq; exact k _ c' g' hs' h'⟩
        | leftIn x e1 ho hv =>
          have ta := hvr _ la ra va x e1
          injection hr with hr
          subst hr
          refine ⟨fun e' eq => ?_, fun _ e => by cases e⟩
          injection eq with eq; subst eq
          exact cyc_next hE e g' hs' (h.occ g la lb rb he ta ho) hJ
        | right x τ hv => rw [hvt _ la ra va] at hv; cases hv
        | rightIn x hv => rw [hvt _ la ra va] at hv; cases hv
        | parts hv => rw [hvt _ la ra va] at hv; cases hv
        | bad hv => rw [hvt _ la ra va] at hv; cases hv
      · have va' : (G.tr (rt i)).isV = false := by simpa using va
        have sa := hnv _ la va'
        have hc : ¬ ((⟨i, j, false⟩ : Stp).j = true ∨ (G.tr (rt i)).isV = true) := fun h => h.elim (fun h => by cases h) va
        by_cases vb : (G.tr (rt j)).isV = true
        · have e : stepG G rt ⟨i, j, false⟩ ws = some (un rt (rt j) (rt i), ws) := by unfold stepG; rw [if_neg he, if_neg hc, if_pos vb]
          obtain ⟨⟨g', hs'⟩, _, _⟩ := step_inv hE g hs e
          have he' : rt j ≠ rt i := fun e => he e.symm
          cases hS with
          | same x e1 e2 => rw [e1] at sa; cases sa
          | left x τ e1 hB => rw [e1] at sa; cases sa
          | leftIn x e1 => rw [e1] at sa; cases sa
          | right x τ _ e2 hB =>
            have tb := hvr _ lb rb vb x e2
            injection hr with hr
            subst hr
            have h' := h.bind g lb la rb ra he' tb hB
            exact ⟨fun _ e => (nomatch e), fun τ' eq Q k => Ends.next e g' hs' (h'.acyc g') fun c' => by injection eq with eq; subst eq; exact k _ c' g' hs' h'⟩
          | rightIn x _ e2 ho =>
            have tb := hvr _ lb rb vb x e2
            injection hr with hr
            subst hr
            refine ⟨fun e' eq => ?_, fun _ e => by cases e⟩
            injection eq with eq; subst eq
            exact cyc_next hE e g' hs' (h.occ g lb la ra he' tb ho) hJ
          | parts _ hv => rw [hvt _ lb rb vb] at hv; cases hv
          | bad _ hv => rw [hvt _ lb rb vb] at hv; cases hv
        · have vb' : (G.tr (rt j)).isV = false := by simpa using vb
          have sb := hnv _ lb vb'
          obtain ⟨a1, a2, a3, _⟩ := sub_parts σ _ va'
          obtain ⟨b1, b2, b3, _⟩ := sub_parts σ _ vb'
          have hlk : likeB G (rt i) (rt j) = true ↔ ((sub σ (G.tr (rt i))).kind = (sub σ (G.tr (rt j))).kind ∧ (sub σ (G.tr (rt i))).name = (sub σ (G.tr (rt j))).name ∧ (sub σ (G.tr (rt i))).kids.length = (sub σ (G.tr (rt j))).kids.length) := by
            unfold likeB
            rw [decide_eq_true_iff, a1, a2, a3, b1, b2, b3, List.length_map, List.length_map, g.ok.len la, g.ok.len lb]
          cases hS with
          | same x e1 e2 => rw [e1] at sa; cases sa
          | left x τ e1 hB => rw [e1] at sa; cases sa
          | leftIn x e1 => rw [e1] at sa; cases sa
          | right x τ _ e2 => rw [e2] at sb; cases sb
          | rightIn x _ e2 => rw [e2] at sb; cases sb
          | parts _ _ p3 p4 p5 =>
            have hk := hlk.2 ⟨p3, p4, p5⟩
            have e : stepG G rt ⟨i, j, false⟩ ws = some (rt, pairsU (G.ag (rt i)) (G.ag (rt j)) ++ ⟨rt i, rt j, true⟩ :: ws) := by unfold stepG; rw [if_neg he, if_neg hc, if_neg vb, if_pos hk]
            obtain ⟨⟨_, hs'⟩, _, _⟩ := step_inv hE g hs e
            have hlen : (G.ag (rt i)).length = (G.ag (rt j)).length := by rw [← g.ok.len la, ← g.ok.len lb]; rw [a3, b3] at p5; simpa using p5
            rw [a3, b3, g.ok.kids _ la, g.ok.kids _ lb, List.map_map, List.map_map] at hr
            have hl := fun c' => sim_list (K := K) (sim hE f) σ h.idem (G.ag (rt i)) (G.ag (rt j)) σ rt c' (⟨rt i, rt j, true⟩ :: ws) r hlen (.refl σ) g hs' h hr.symm
            refine ⟨fun e' eq => Ends.next e g hs' (h.acyc g) fun c' => (hl c').1 e' eq, fun τ eq Q k => Ends.next e g hs' (h.acyc g) fun c' => (hl c').2 τ eq Q fun rt' c' g' hs'' h' => ?_⟩
            have hL := joined_like g' hs''.1.1 rfl
            by_cases hee : rt' (rt i) = rt' (rt j)
            · have e9 : stepG G rt' ⟨rt i, rt j, true⟩ ws = some (rt', ws) := by unfold stepG; rw [if_pos hee]
              obtain ⟨⟨_, hs9⟩, _, _⟩ := step_inv hE g' hs'' e9
              exact Ends.next e9 g' hs9 (h'.acyc g') fun c9 => k rt' c9 g' hs9 h'
            · have e9 : stepG G rt' ⟨rt i, rt j, true⟩ ws = some (un rt' (rt' (rt i)) (rt' (rt j)), ws) := by unfold stepG; rw [if_neg hee, if_pos (Or.inl rfl)]
              obtain ⟨⟨g9, hs9⟩, _, _⟩ := step_inv hE g' hs'' e9
              have h9 := h'.join g' (g'.lt _ la) (g'.lt _ lb) (g'.fix _ la) (g'.fix _ lb) hL
              exact Ends.next e9 g9 hs9 (h9.acyc g9) fun c9 => k _ c9 g9 hs9 h9
          | bad _ _ hn =>
            injection hr with hr
            subst hr
            have hk : ¬ likeB G (rt i) (rt j) = true := fun h => hn (hlk.1 h)
            have e : stepG G rt ⟨i, j, false⟩ ws = none := by unfold stepG; rw [if_neg he, if_neg hc, if_neg vb, if_neg hk]
            refine ⟨fun e' eq => ?_, fun _ e => by cases e⟩
            injection eq with eq; subst eq
            exact ⟨_, _, _, .stop rt _ ws c e, g, rfl, h.acyc g⟩
/-- What join comes to, of two parts. -/
def JQ (G : Gr) (r : UR) (fl : Bool) (rf : Nat → Nat) : Prop := match r with
  | .ok τ => fl = true ∧ SI G τ rf
  | .bad e => BadQ G e fl rf
theorem join_ends {G : Gr} {E K : Nat} (hE : ∀ i, i < G.N → (G.ag i).length ≤ E) {σ : Sg} {rt : Nat → Nat} {i j : Nat} {r : UR} (g : GI G rt) (hi : i < G.N) (hj : j < G.N) (h : SI G σ rt) (hu : Uni σ (G.tr i) (G.tr j) r) (c : Nat) : Ends G E K rt [⟨i, j, false⟩] c (JQ G r) := by
  obtain ⟨f, hu⟩ := hu
  have hs : SK G E rt [⟨i, j, false⟩] := ⟨⟨⟨hi, hj, fun h => by cases h⟩, trivial⟩, ⟨fun t ht => (by cases ht), trivial⟩, ⟨by simp, trivial⟩⟩
  have := sim (G := G) (E := E) (K := K) hE f σ rt c i j [] r g hs h hu
  cases r with
  | bad e => exact this.1 e rfl
  | ok τ => exact this.2 τ rfl _ fun rt' c' g' _ h' => ⟨0, true, rt', .empty rt' c', g', rfl, h'⟩
end Go.Proofs.YthpphjkoiipkkaaDoor
/- A graph of parts: an order in which each part is ahead of its arguments, found by counting. -/
namespace Go.Proofs.YthpphjkoiipkkaaDoor

/-- The roots. -/
def rootsU (rt : Nat → Nat) (n : Nat) : List Nat := (List.range n).filter fun i => decide (rt i = i)
theorem rootsU_nodup (rt : Nat → Nat) (n : Nat) : (rootsU rt n).Nodup := List.nodup_range.filter _
theorem mem_roots {rt : Nat → Nat} {n i : Nat} : i ∈ rootsU rt n ↔ i < n ∧ rt i = i := by simp [rootsU]
theorem roots_succ (rt : Nat → Nat) (n : Nat) : rootsU rt (n + 1) = rootsU rt n ++ if rt n = n then [n] else [] := by
  unfold rootsU
  rw [List.range_succ, List.filter_append]
  congr 1
  by_cases h : rt n = n <;> simp [h]
/-- How often part r is an argument of these. -/
def cntUA (ag : Nat → List Nat) (rt : Nat → Nat) (i r : Nat) : Nat := ((ag i).map rt).count r
def cntU (ag : Nat → List Nat) (rt : Nat → Nat) : List Nat → Nat → Nat
  | [], _ => 0
  | i :: D, r => cntUA ag rt i r + cntU ag rt D r
theorem cntU_append (ag : Nat → List Nat) (rt : Nat → Nat) (r : Nat) : ∀ D D' : List Nat, cntU ag rt (D ++ D') r = cntU ag rt D r + cntU ag rt D' r
  | [], D' => by simp [cntU]
  | i :: D, D' => by rw [List.cons_append, cntU, cntU, cntU_append ag rt r D D']; omega
theorem cntU_perm {ag : Nat → List Nat} {rt : Nat → Nat} {r : Nat} {D D' : List Nat} (h : D.Perm D') : cntU ag rt D r = cntU ag rt D' r := by
  induction h with
  | nil => rfl
  | cons a _ ih => rw [cntU, cntU, ih]
  | swap a b l => simp only [cntU]; omega
  | trans _ _ h1 h2 => rw [h1, h2]
theorem cntU_le {ag : Nat → List Nat} {rt : Nat → Nat} {r : Nat} : ∀ {D R : List Nat}, D.Nodup → (∀ i ∈ D, i ∈ R) → cntU ag rt D r ≤ cntU ag rt R r
  | [], _, _, _ => Nat.zero_le _
  | i :: D, R, hn, hs => by
    have hp := List.perm_cons_erase (hs i (by simp))
    rw [cntU_perm (ag := ag) (rt := rt) (r := r) hp, cntU, cntU]
    have hn' := List.nodup_cons.1 hn
    have := cntU_le (ag := ag) (rt := rt) (r := r) (R := R.erase i) hn'.2 fun j hj => (List.mem_erase_of_ne (fun e => hn'.1 (by rw [← e]; exact hj))).2 (hs j (List.mem_cons_of_mem _ hj))
    omega
theorem cntU_lt {ag : Nat → List Nat} {rt : Nat → Nat} {r i : Nat} {D R : List Nat} (hn : D.Nodup) (hs : ∀ i ∈ D, i ∈ R) (hi : i ∈ R) (hni : i ∉ D) : cntU ag rt D r + cntUA ag rt i r ≤ cntU ag rt R r := by
  have := cntU_le (ag := ag) (rt := rt) (r := r) (D := i :: D) (R := R) (List.nodup_cons.2 ⟨hni, hn⟩) fun j hj => by
    rcases List.mem_cons.1 hj with rfl | hj
    · exact hi
    · exact hs j hj
  rw [cntU] at this; omega
theorem cntU_all {ag : Nat → List Nat} {rt : Nat → Nat} {r : Nat} {D R : List Nat} (hn : D.Nodup) (hs : ∀ i ∈ D, i ∈ R) (e : cntU ag rt D r = cntU ag rt R r) {i : Nat} (hi : i ∈ R) (hr : r ∈ (ag i).map rt) : i ∈ D := by
  by_cases h : i ∈ D
  · exact h
  · have h1 := cntU_lt (ag := ag) (rt := rt) (r := r) hn hs hi h
    have h2 : 0 < cntUA ag rt i r := List.count_pos_iff.2 hr
    omega

/-- Each part behind all those that it is an argument of. -/
def Topo (ag : Nat → List Nat) (rt : Nat → Nat) (n : Nat) (l : List Nat) : Prop := ∀ q (hq : q < l.length), ∀ i, i ∈ rootsU rt n → l[q] ∈ (ag i).map rt → ∃ p, ∃ hp : p < l.length, p < q ∧ l[p] = i
/-- Where the order stands: the first m parts of l are done, and the first k arguments of the next one; W r: for how many places part r waits still. -/
structure Ord (ag : Nat → List Nat) (rt : Nat → Nat) (n : Nat) (l : List Nat) (m : Nat) (A : List Nat) (W : Nat → Nat) : Prop where
  nodup : l.Nodup
  sub : ∀ i ∈ l, i ∈ rootsU rt n
  waits : ∀ r, r ∈ rootsU rt n → W r + (cntU ag rt (l.take m) r + A.count r) = cntU ag rt (rootsU rt n) r
  done : ∀ r, r ∈ rootsU rt n → (r ∈ l ↔ W r = 0)
  topo : Topo ag rt n l
theorem Topo.snoc {ag : Nat → List Nat} {rt : Nat → Nat} {n : Nat} {l : List Nat} {r : Nat} (h : Topo ag rt n l) (k : ∀ i, i ∈ rootsU rt n → r ∈ (ag i).map rt → i ∈ l) : Topo ag rt n (l ++ [r]) := by
  intro q hq i hi hr
  by_cases hql : q < l.length
  · rw [List.getElem_append_left hql] at hr
    obtain ⟨p, hp, hpq, e⟩ := h q hql i hi hr
    exact ⟨p, by simp; omega, hpq, by rw [List.getElem_append_left hp]; exact e⟩
  · have hq2 : q < l.length + 1 := by simpa using hq
    obtain rfl : q = l.length := by omega
    rw [List.getElem_concat_length (by rfl)] at hr
    obtain ⟨p, hp, e⟩ := List.getElem_of_mem (k i hi hr)
    exact ⟨p, by simp; omega, hp, by rw [List.getElem_append_left hp]; exact e⟩
/-- At the start those that wait for nothing. -/
theorem Ord.start {ag : Nat → List Nat} {rt : Nat → Nat} {n : Nat} {l : List Nat} {W : Nat → Nat} (hW : ∀ r, r ∈ rootsU rt n → W r = cntU ag rt (rootsU rt n) r) (hl : l = (rootsU rt n).filter fun r => decide (W r = 0)) : Ord ag rt n l 0 [] W := by
  subst hl
  refine ⟨(rootsU_nodup rt n).filter _, fun i hi => (List.mem_filter.1 hi).1, fun r hr => by simp [cntU, hW r hr], fun r hr => by simp [hr], fun q hq i hi hr => ?_⟩
  have hm := List.getElem_mem hq
  rw [List.mem_filter] at hm
  have h0 : W _ = 0 := of_decide_eq_true hm.2
  rw [hW _ hm.1] at h0
  have := cntU_le (ag := ag) (rt := rt) (r := (List.filter (fun r => decide (W r = 0)) (rootsU rt n))[q]) (D := [i]) (R := rootsU rt n) (by simp) (by simpa using hi)
  have h2 : 0 < cntUA ag rt i (List.filter (fun r => decide (W r = 0)) (rootsU rt n))[q] := List.count_pos_iff.2 hr
  simp only [cntU] at this
  omega
/-- One more argument of the part in hand. -/
theorem Ord.arg {ag : Nat → List Nat} {rt : Nat → Nat} {n : Nat} {l : List Nat} {m k : Nat} {W : Nat → Nat} (h : Ord ag rt n l m (((ag (l.getD m 0)).map rt).take k) W) (hm : m < l.length) (hk : k < (ag (l.getD m 0)).length) (hr : rt ((ag (l.getD m 0)).getD k 0) ∈ rootsU rt n) :
    let r := rt ((ag (l.getD m 0)).getD k 0)
    0 < W r ∧ Ord ag rt n (if W r = 1 then l ++ [r] else l) m (((ag ((if W r = 1 then l ++ [r] else l).getD m 0)).map rt).take (k + 1)) (fun i => if i = r then W r - 1 else W i) := by
  intro r
  have hlm : l.getD m 0 = l[m] := by simp [hm]
  have hin : ∀ r', (l ++ [r']).getD m 0 = l.getD m 0 := fun r' => by rw [List.getD_eq_getElem?_getD, List.getElem?_append_left hm, ← List.getD_eq_getElem?_getD]
  generalize hA : (ag (l.getD m 0)).map rt = A at h ⊢
  have hkA : k < A.length := by rw [← hA, List.length_map]; exact hk
  have hrA : A[k] = r := by
    simp only [← hA, List.getElem_map, r]
    rw [List.getD_eq_getElem?_getD (l := ag _), List.getElem?_eq_getElem hk]; rfl
  have hsnoc : A.take (k + 1) = A.take k ++ [r] := by rw [List.take_succ_eq_append_getElem hkA, hrA]
  have hif : (ag ((if W r = 1 then l ++ [r] else l).getD m 0)).map rt = A := by
    split
    · rw [hin, hA]
    · exact hA
  rw [hif]
  have hroots : ∀ i ∈ l.take (m + 1), i ∈ rootsU rt n := fun i hi => h.sub i (List.mem_of_mem_take hi)
  have hnd : (l.take (m + 1)).Nodup := h.nodup.sublist (List.take_sublist _ _)
  have htk : l.take (m + 1) = l.take m ++ [l.getD m 0] := by rw [List.take_succ_eq_append_getElem hm, hlm]
  have hle := cntU_le (ag := ag) (rt := rt) (r := r) hnd hroots
  have hcA : (A.take (k + 1)).count r ≤ A.count r := (List.take_sublist _ _).count_le _
  have e1 : cntU ag rt (l.take (m + 1)) r = cntU ag rt (l.take m) r + A.count r := by
    rw [htk, cntU_append]; simp only [cntU, cntUA, hA]; omega
  have e2 : (A.take (k + 1)).count r = (A.take k).count r + 1 := by rw [hsnoc, List.count_append]; simp
  have hw := h.waits r hr
  have hpos : 0 < W r := by omega
  refine ⟨hpos, ?_⟩
  have hnl : r ∉ l := fun hc => by have := (h.done r hr).1 hc; omega
  have hwaits : ∀ r', r' ∈ rootsU rt n → (if r' = r then W r - 1 else W r') + (cntU ag rt (l.take m) r' + (A.take (k + 1)).count r') = cntU ag rt (rootsU rt n) r' := fun r' hr' => by
    have := h.waits r' hr'
    by_cases e : r' = r
    · subst e; rw [if_pos rfl]; omega
    · rw [if_neg e, hsnoc, List.count_append]
      have : List.count r' [r] = 0 := List.count_eq_zero.2 (by simpa using e)
      omega
  by_cases h1 : W r = 1
  · rw [if_pos h1]
    refine ⟨List.nodup_append.2 ⟨h.nodup, by simp, fun a ha b hb e => by simp at hb; exact hnl (by rw [← hb, ← e]; exact ha)⟩, fun i hi => ?_, fun r' hr' => ?_, fun r' hr' => ?_, h.topo.snoc fun i hi hri => ?_⟩
    · rcases List.mem_append.1 hi with hi | hi
      · exact h.sub i hi
      · simp at hi; subst hi; exact hr
    · rw [List.take_append_of_le_length (by omega)]; exact hwaits r' hr'
    · by_cases e : r' = r
      · subst e; simp; omega
      · rw [if_neg e, ← h.done r' hr']; simp [e]
    · refine List.mem_of_mem_take (cntU_all hnd hroots ?_ hi hri)
      omega
  · rw [if_neg h1]
    refine ⟨h.nodup, h.sub, hwaits, fun r' hr' => ?_, h.topo⟩
    by_cases e : r' = r
    · subst e; simp [hnl]; omega
    · rw [if_neg e]; exact h.done r' hr'
theorem getD_snoc {l : List Nat} {m : Nat} (hm : m < l.length) (r : Nat) : (l ++ [r]).getD m 0 = l.getD m 0 := by rw [List.getD_eq_getElem?_getD, List.getElem?_append_left hm, ← List.getD_eq_getElem?_getD]
theorem Ord.arg' {ag : Nat → List Nat} {rt : Nat → Nat} {n : Nat} {l : List Nat} {m k j x : Nat} {W : Nat → Nat} (hj : l.getD m 0 = j) (h : Ord ag rt n l m (((ag j).map rt).take k) W) (hm : m < l.length) (hk : k < (ag j).length) (hx : (ag j).getD k 0 = x) (hr : rt x ∈ rootsU rt n) :
    0 < W (rt x) ∧ (W (rt x) = 1 → Ord ag rt n (l ++ [rt x]) m (((ag j).map rt).take (k + 1)) (fun i => if i = rt x then W (rt x) - 1 else W i)) ∧ (W (rt x) ≠ 1 → Ord ag rt n l m (((ag j).map rt).take (k + 1)) (fun i => if i = rt x then W (rt x) - 1 else W i)) := by
  subst hj; subst hx
  obtain ⟨h1, h2⟩ := Ord.arg h hm hk hr
  refine ⟨h1, fun e => ?_, fun e => ?_⟩
  · rw [if_pos e, getD_snoc hm] at h2; exact h2
  · rw [if_neg e] at h2; exact h2
theorem Ord.next {ag : Nat → List Nat} {rt : Nat → Nat} {n : Nat} {l : List Nat} {m k : Nat} {W : Nat → Nat} (h : Ord ag rt n l m (((ag (l.getD m 0)).map rt).take k) W) (hm : m < l.length) (hk : (ag (l.getD m 0)).length ≤ k) : Ord ag rt n l (m + 1) [] W := by
  refine ⟨h.nodup, h.sub, fun r hr => ?_, h.done, h.topo⟩
  have := h.waits r hr
  rw [List.take_of_length_le (show ((ag (l.getD m 0)).map rt).length ≤ k by rw [List.length_map]; exact hk)] at this
  have hlm : l.getD m 0 = l[m] := by simp [hm]
  rw [List.take_succ_eq_append_getElem hm, cntU_append]
  simp only [cntU, cntUA, List.count_nil]
  rw [hlm] at this
  omega
theorem cntU_zero {ag : Nat → List Nat} {rt : Nat → Nat} {r : Nat} : ∀ {D : List Nat}, (∀ i ∈ D, r ∉ (ag i).map rt) → cntU ag rt D r = 0
  | [], _ => rfl
  | a :: D, hD => by
    rw [cntU, cntU_zero fun i hi => hD i (List.mem_cons_of_mem _ hi)]
    have : cntUA ag rt a r = 0 := List.count_eq_zero.2 (hD a (by simp))
    omega
theorem cntU_split {ag : Nat → List Nat} {rt : Nat → Nat} {r : Nat} (p : Nat → Bool) : ∀ R : List Nat, cntU ag rt R r = cntU ag rt (R.filter p) r + cntU ag rt (R.filter fun i => !p i) r
  | [] => rfl
  | a :: R => by
    rw [cntU, cntU_split p R, List.filter_cons, List.filter_cons]
    cases hp : p a <;> simp [cntU] <;> omega
/-- A part with the most of a measure. -/
theorem most_of (m : Nat → Nat) : ∀ (l : List Nat), l ≠ [] → ∃ r ∈ l, ∀ i ∈ l, m i ≤ m r
  | [], h => absurd rfl h
  | a :: l, _ => by
    by_cases hl : l = []
    · exact ⟨a, by simp, fun i hi => by rw [hl] at hi; simp at hi; rw [hi]; exact Nat.le_refl _⟩
    · obtain ⟨r, hr, h⟩ := most_of m l hl
      by_cases h1 : m a ≤ m r
      · exact ⟨r, List.mem_cons_of_mem _ hr, fun i hi => (List.mem_cons.1 hi).elim (fun e => e ▸ h1) (h i)⟩
      · exact ⟨a, by simp, fun i hi => (List.mem_cons.1 hi).elim (fun e => e ▸ Nat.le_refl _) (fun hi => by have := h i hi; omega)⟩
theorem all_of_len {l R : List Nat} (hn : l.Nodup) (hs : ∀ i ∈ l, i ∈ R) (hl : l.length = R.length) : ∀ i ∈ R, i ∈ l := by
  intro i hi
  by_cases h : i ∈ l
  · exact h
  · have := nodup_len (l := i :: l) (R := R) (List.nodup_cons.2 ⟨h, hn⟩) fun j hj => by
      rcases List.mem_cons.1 hj with rfl | hj
      · exact hi
      · exact hs j hj
    rw [List.length_cons] at this; omega
/-- In the end: all roots are told just if no part stands within itself. -/
theorem Ord.ends {G : Gr} {rt : Nat → Nat} {l : List Nat} {W : Nat → Nat} (g : GI G rt) (h : Ord G.ag rt G.N l l.length [] W) : (l.length = (rootsU rt G.N).length ↔ Acyc G rt) ∧ (l.length = (rootsU rt G.N).length → (∀ i, i < G.N → rt i = i → i ∈ l) ∧ ∀ q (hq : q < l.length), ∀ x ∈ G.ag l[q], ∃ p, ∃ hp : p < l.length, q < p ∧ l[p] = rt x) := by
  have key : l.length = (rootsU rt G.N).length → (∀ i, i < G.N → rt i = i → i ∈ l) ∧ ∀ q (hq : q < l.length), ∀ x ∈ G.ag l[q], ∃ p, ∃ hp : p < l.length, q < p ∧ l[p] = rt x := by
    intro hl
    have hall := all_of_len h.nodup h.sub hl
    refine ⟨fun i hi ri => hall i (mem_roots.2 ⟨hi, ri⟩), fun q hq x hx => ?_⟩
    have hlq := mem_roots.1 (h.sub _ (List.getElem_mem hq))
    have hxN := g.ok.arg hlq.1 hx
    have hrx := hall (rt x) (mem_roots.2 ⟨g.lt x hxN, g.fix x hxN⟩)
    obtain ⟨p, hp, e⟩ := List.getElem_of_mem hrx
    obtain ⟨q', hq', hlt, e'⟩ := h.topo p hp l[q] (h.sub _ (List.getElem_mem hq)) (by rw [e]; exact List.mem_map.2 ⟨x, hx, rfl⟩)
    have : q' = q := by have := congrArg (fun x => l.idxOf x) e'; simpa only [h.nodup.idxOf_getElem q' hq', h.nodup.idxOf_getElem q hq] using this
    exact ⟨p, hp, by omega, e⟩
  refine ⟨⟨fun hl => ?_, fun hA => ?_⟩, key⟩
  · obtain ⟨k1, k2⟩ := key hl
    refine ⟨fun i => l.length - l.idxOf i, fun i hi ri x hx => ?_⟩
    obtain ⟨q, hq, e⟩ := List.getElem_of_mem (k1 i hi ri)
    subst e
    obtain ⟨p, hp, hlt, e⟩ := k2 q hq x hx
    show l.length - l.idxOf (rt x) < l.length - l.idxOf l[q]
    rw [← e, h.nodup.idxOf_getElem q hq, h.nodup.idxOf_getElem p hp]
    omega
  · obtain ⟨m, hm⟩ := hA
    by_cases hl : l.length = (rootsU rt G.N).length
    · exact hl
    · exfalso
      have hex : ((rootsU rt G.N).filter fun i => decide (i ∉ l)) ≠ [] := by
        intro he
        apply hl
        refine Nat.le_antisymm (nodup_len h.nodup h.sub) (nodup_len (rootsU_nodup rt G.N) fun i hi => ?_)
        rw [List.filter_eq_nil_iff] at he
        simpa using he i hi
      obtain ⟨r, hr, hmost⟩ := most_of m _ hex
      rw [List.mem_filter] at hr
      have hrl : r ∉ l := of_decide_eq_true hr.2
      have hw := h.waits r hr.1
      rw [List.take_length, List.count_nil] at hw
      have hpos : 0 < W r := by
        rcases Nat.eq_zero_or_pos (W r) with h0 | h0
        · exact absurd ((h.done r hr.1).2 h0) hrl
        · exact h0
      have hno : ∀ i ∈ (rootsU rt G.N).filter (fun i => !decide (i ∈ l)), r ∉ (G.ag i).map rt := fun i hi hri => by
        have hi2 := hmost i (by simpa using hi)
        have hi3 := mem_roots.1 (List.mem_filter.1 hi).1
        obtain ⟨x, hx, e⟩ := List.mem_map.1 hri
        have := hm i hi3.1 hi3.2 x hx
        rw [e] at this; omega
      have h1 := cntU_split (ag := G.ag) (rt := rt) (r := r) (fun i => decide (i ∈ l)) (rootsU rt G.N)
      rw [cntU_zero hno] at h1
      have h2 := cntU_le (ag := G.ag) (rt := rt) (r := r) (D := (rootsU rt G.N).filter fun i => decide (i ∈ l)) (R := l) ((rootsU_nodup rt G.N).filter _) fun i hi => of_decide_eq_true (List.mem_filter.1 hi).2
      omega
end Go.Proofs.YthpphjkoiipkkaaDoor
/- A type in memory; what is kept of it; rows that lie in blocks of a kind. -/
namespace Go.Proofs.YthpphjkoiipkkaaDoor
open Go.RowKit
attribute [local go_sem] Oper.semAt_some


/-- Type t stands in three cells: its kind, its name, the row of its parts. -/
inductive TyAt (w : World) : T → Value → Value → Value → Prop
  | leaf (t : T) (a : Option Addr) (c : Nat) : t.kids = [] → TyAt w t (.int .i64 t.kind) (.string t.name) (.slice a 0 c)
  | row (t : T) (g cap : Nat) (cs : Array Value) (fz : Nat × Nat) (x y z : Nat → Value) : w.heap[g]? = some (.cells cs 29 fz) → t.kids.length ≤ cap →
      (∀ i, i < t.kids.length → cs[i * 3]? = some (x i) ∧ cs[i * 3 + 1]? = some (y i) ∧ cs[i * 3 + 2]? = some (z i)) →
      (∀ i (h : i < t.kids.length), TyAt w t.kids[i] (x i) (y i) (z i)) →
      TyAt w t (.int .i64 t.kind) (.string t.name) (.slice (some ⟨g, 0, none⟩) t.kids.length cap)
/-- v is a slice of the types l. -/
def TysAt (w : World) (v : Value) (l : List T) : Prop :=
  (l = [] ∧ ∃ a c, v = .slice a 0 c) ∨ ∃ g cap cs fz, ∃ x y z : Nat → Value, v = .slice (some ⟨g, 0, none⟩) l.length cap ∧ w.heap[g]? = some (.cells cs 29 fz) ∧ l.length ≤ cap ∧
    (∀ i, i < l.length → cs[i * 3]? = some (x i) ∧ cs[i * 3 + 1]? = some (y i) ∧ cs[i * 3 + 2]? = some (z i)) ∧ ∀ i (h : i < l.length), TyAt w l[i] (x i) (y i) (z i)
theorem tyAt_iff (w : World) (t : T) (k n v : Value) : TyAt w t k n v ↔ k = .int .i64 t.kind ∧ n = .string t.name ∧ TysAt w v t.kids := by
  constructor
  · intro h
    cases h with
    | leaf _ a c h => exact ⟨rfl, rfl, .inl ⟨h, a, c, rfl⟩⟩
    | row _ g cap cs fz x y z h1 h2 h3 h4 => exact ⟨rfl, rfl, .inr ⟨g, cap, cs, fz, x, y, z, rfl, h1, h2, h3, h4⟩⟩
  · rintro ⟨rfl, rfl, ⟨h, a, c, rfl⟩ | ⟨g, cap, cs, fz, x, y, z, rfl, h1, h2, h3, h4⟩⟩
    · exact .leaf t a c h
    · exact .row t g cap cs fz x y z h1 h2 h3 h4
/-- The rows of types stand as they stood. -/
def KeepT (w w' : World) : Prop := ∀ (k : Nat) (cs : Array Value) (fz : Nat × Nat), w.heap[k]? = some (.cells cs 29 fz) → w'.heap[k]? = some (.cells cs 29 fz)
theorem KeepT.refl (w : World) : KeepT w w := fun _ _ _ h => h
theorem KeepT.trans {a b c : World} (h : KeepT a b) (k : KeepT b c) : KeepT a c := fun i cs fz hi => k i cs fz (h i cs fz hi)
theorem KeepT.of_below {w w' : World} (h : Below w.heap.size w w') : KeepT w w' := fun k _ _ hk => (h.block k (Array.getElem?_eq_some_iff.1 hk).1).trans hk
theorem TyAt.keep {w w' : World} (hk : KeepT w w') {t : T} {k n v : Value} (h : TyAt w t k n v) : TyAt w' t k n v := by
  induction h with
  | leaf t a c h => exact .leaf t a c h
  | row t g cap cs fz x y z h1 h2 h3 _ ih => exact .row t g cap cs fz x y z (hk _ _ _ h1) h2 h3 ih
theorem TysAt.keep {w w' : World} (hk : KeepT w w') {v : Value} {l : List T} (h : TysAt w v l) : TysAt w' v l := by
  rcases h with h | ⟨g, cap, cs, fz, x, y, z, rfl, h1, h2, h3, h4⟩
  · exact .inl h
  · exact .inr ⟨g, cap, cs, fz, x, y, z, rfl, hk _ _ _ h1, h2, h3, fun i hi => (h4 i hi).keep hk⟩
theorem TysAt.shape {w : World} {v : Value} {l : List T} (h : TysAt w v l) : ∃ a c, v = .slice a l.length c := by
  rcases h with ⟨rfl, a, c, rfl⟩ | ⟨g, cap, cs, fz, x, y, z, rfl, _⟩
  · exact ⟨a, c, rfl⟩
  · exact ⟨_, _, rfl⟩
theorem TyAt.shape {w : World} {t : T} {k n v : Value} (h : TyAt w t k n v) : k = .int .i64 t.kind ∧ n = .string t.name ∧ (∃ a c, v = .slice a t.kids.length c) ∧ TysAt w v t.kids := by
  obtain ⟨h1, h2, h3⟩ := (tyAt_iff w t k n v).1 h
  exact ⟨h1, h2, h3.shape, h3⟩
/-- A row with a part: where it lies, and each part. -/
theorem TysAt.row {w : World} {v : Value} {l : List T} (h : TysAt w v l) (h0 : l ≠ []) : ∃ g cap, v = .slice (some ⟨g, 0, none⟩) l.length cap ∧ g < w.heap.size ∧ l.length ≤ cap ∧
    ∀ i (h : i < l.length), ∃ a c, w.cell? ⟨g, i * 3, none⟩ = some (.int .i64 l[i].kind) ∧ w.cell? ⟨g, i * 3 + 1, none⟩ = some (.string l[i].name) ∧ w.cell? ⟨g, i * 3 + 2, none⟩ = some (.slice a l[i].kids.length c) ∧
      TysAt w (.slice a l[i].kids.length c) l[i].kids := by
  rcases h with ⟨h, _⟩ | ⟨g, cap, cs, fz, x, y, z, rfl, h1, h2, h3, h4⟩
  · exact absurd h h0
  · refine ⟨g, cap, rfl, (Array.getElem?_eq_some_iff.1 h1).1, h2, fun i hi => ?_⟩
    obtain ⟨c1, c2, c3⟩ := h3 i hi
    obtain ⟨e1, e2, ⟨a, c, e3⟩, e4⟩ := (h4 i hi).shape
    rw [e1] at c1; rw [e2] at c2; rw [e3] at c3 e4
    refine ⟨a, c, ?_, ?_, ?_, e4⟩
    · simp only [World.cell?, h1]; simpa using c1
    · simp only [World.cell?, h1]; simpa using c2
    · simp only [World.cell?, h1]; simpa using c3
theorem TyAt.mk {w : World} (t : T) {v : Value} (h : TysAt w v t.kids) : TyAt w t (.int .i64 t.kind) (.string t.name) v := (tyAt_iff w t _ _ v).2 ⟨rfl, rfl, h⟩
theorem TysAt.nil (w : World) (a : Option Addr) (c : Nat) : TysAt w (.slice a 0 c) [] := .inl ⟨rfl, a, c, rfl⟩
theorem alloc_new (w : World) (o : Obj) : (w.alloc o).heap[w.heap.size]? = some o := by show (w.heap.push o)[w.heap.size]? = _; simp
theorem keepT_alloc (w : World) (o : Obj) : KeepT w (w.alloc o) := .of_below ((Below.refl _ w).alloc (Nat.le_refl _) o)
theorem TysAt.one {w : World} {t : T} {k n v : Value} {g : Nat} (hg : g = w.heap.size) (h : TyAt w t k n v) : TysAt (w.alloc (.cells #[k, n, v] 29)) (.slice (some ⟨g, 0, none⟩) 1 1) [t] := by
  subst hg
  refine .inr ⟨w.heap.size, 1, #[k, n, v], (0, 0), fun _ => k, fun _ => n, fun _ => v, rfl, alloc_new w _, Nat.le_refl _, ?_, ?_⟩
  · intro i hi
    obtain rfl : i = 0 := by simpa using hi
    exact ⟨rfl, rfl, rfl⟩
  · intro i hi
    obtain rfl : i = 0 := by simpa using hi
    exact h.keep (keepT_alloc w _)
theorem TysAt.two {w : World} {t u : T} {k n v k' n' v' : Value} {g : Nat} (hg : g = w.heap.size) (h : TyAt w t k n v) (h' : TyAt w u k' n' v') : TysAt (w.alloc (.cells #[k, n, v, k', n', v'] 29)) (.slice (some ⟨g, 0, none⟩) 2 2) [t, u] := by
  subst hg
  refine .inr ⟨w.heap.size, 2, #[k, n, v, k', n', v'], (0, 0), fun i => if i = 0 then k else k', fun i => if i = 0 then n else n', fun i => if i = 0 then v else v', rfl, alloc_new w _, Nat.le_refl _, ?_, ?_⟩
  · intro i hi
    match i, hi with
    | 0, _ => exact ⟨rfl, rfl, rfl⟩
    | 1, _ => exact ⟨rfl, rfl, rfl⟩
    | n + 2, hi => simp at hi; omega
  · intro i hi
    match i, hi with
    | 0, _ => exact h.keep (keepT_alloc w _)
    | 1, _ => exact h'.keep (keepT_alloc w _)
    | n + 2, hi => simp at hi; omega

theorem three_cells {w : World} {p : Nat} {x y z : Value} {T : TypeId} {fz : Nat × Nat} (h : w.heap[p]? = some (.cells #[x, y, z] T fz)) : w.cell? ⟨p, 0, none⟩ = some x ∧ w.cell? ⟨p, 1, none⟩ = some y ∧ w.cell? ⟨p, 2, none⟩ = some z := by
  refine ⟨?_, ?_, ?_⟩ <;> (rw [Lib.cell_of_heap h]; rfl)

/-- As TyAt, of rows in blocks that are ok. -/
inductive TyIn (ok : Nat → Prop) (w : World) : T → Value → Prop
  | leaf (t : T) (a : Option Addr) (c : Nat) : t.kids = [] → TyIn ok w t (.slice a 0 c)
  | row (t : T) (g cap : Nat) (cs : Array Value) (fz : Nat × Nat) (z : Nat → Value) : ok g → w.heap[g]? = some (.cells cs 29 fz) → t.kids.length ≤ cap →
      (∀ i (h : i < t.kids.length), cs[i * 3]? = some (.int .i64 t.kids[i].kind) ∧ cs[i * 3 + 1]? = some (.string t.kids[i].name) ∧ cs[i * 3 + 2]? = some (z i)) →
      (∀ i (h : i < t.kids.length), TyIn ok w t.kids[i] (z i)) →
      TyIn ok w t (.slice (some ⟨g, 0, none⟩) t.kids.length cap)
theorem TyIn.keep {ok : Nat → Prop} {w w' : World} (hk : ∀ (k : Nat) (cs : Array Value) (fz : Nat × Nat), ok k → w.heap[k]? = some (.cells cs 29 fz) → w'.heap[k]? = some (.cells cs 29 fz)) {t : T} {v : Value} (h : TyIn ok w t v) : TyIn ok w' t v := by
  induction h with
  | leaf t a c h => exact .leaf t a c h
  | row t g cap cs fz z h0 h1 h2 h3 _ ih => exact .row t g cap cs fz z h0 (hk _ _ _ h0 h1) h2 h3 ih
theorem TyIn.mono {ok ok' : Nat → Prop} {w : World} (hk : ∀ k, ok k → ok' k) {t : T} {v : Value} (h : TyIn ok w t v) : TyIn ok' w t v := by
  induction h with
  | leaf t a c h => exact .leaf t a c h
  | row t g cap cs fz z h0 h1 h2 h3 _ ih => exact .row t g cap cs fz z (hk _ h0) h1 h2 h3 ih
theorem TyIn.lt {ok : Nat → Prop} {w : World} {t : T} {v : Value} (h : TyIn ok w t v) : TyIn (fun k => ok k ∧ k < w.heap.size) w t v := by
  induction h with
  | leaf t a c h => exact .leaf t a c h
  | row t g cap cs fz z h0 h1 h2 h3 _ ih => exact .row t g cap cs fz z ⟨h0, (Array.getElem?_eq_some_iff.1 h1).1⟩ h1 h2 h3 ih
theorem TyIn.shape {ok : Nat → Prop} {w : World} {t : T} {v : Value} (h : TyIn ok w t v) : ∃ a c, v = .slice a t.kids.length c := by
  cases h with
  | leaf _ a c h => exact ⟨a, c, by rw [h]; rfl⟩
  | row _ g cap cs fz z h0 h1 h2 h3 _ => exact ⟨_, _, rfl⟩
theorem TyIn.tys {ok : Nat → Prop} {w : World} {t : T} {v : Value} (h : TyIn ok w t v) : TysAt w v t.kids := by
  induction h with
  | leaf t a c h => rw [h]; exact .inl ⟨rfl, a, c, rfl⟩
  | row t g cap cs fz z h0 h1 h2 h3 _ ih => exact .inr ⟨g, cap, cs, fz, fun i => if h : i < t.kids.length then .int .i64 t.kids[i].kind else undef, fun i => if h : i < t.kids.length then .string t.kids[i].name else undef, z, rfl, h1, h2, fun i hi => by simp only [dif_pos hi]; exact h3 i hi, fun i hi => by simp only [dif_pos hi]; exact TyAt.mk _ (ih i hi)⟩
theorem TyIn.keep_below {ok : Nat → Prop} {w w' : World} {N : Nat} (hb : Below N w w') {t : T} {v : Value} (h : TyIn (fun k => ok k ∧ k < N) w t v) : TyIn (fun k => ok k ∧ k < N) w' t v := h.keep fun k _ _ hk hh => (hb.block k hk.2).trans hh

/-- A type's value. -/
def tyV (t : T) (v : Value) : Value := .agg #[.int .i64 t.kind, .string t.name, v]

set_option maxHeartbeats 1000000 in
theorem var_any (n : ByteArray) (w : World) :
    Calls Tryd.prog 24 #[.string n] w fun e w' => (∃ u, e = .returned (tyV (.var n) u) ∧ TysAt w' u []) ∧ Below w.heap.size w w' := by
  go_enter Tryd.func24, Tryd.ntmps24
  go_wp2
  refine bodyPost_ret (v := tyV (.var n) (.slice none 0 0)) (by simp [results, Tryd.results24, go_sem, tyV, T.kind, T.name]) rfl ⟨⟨_, rfl, TysAt.nil _ _ _⟩, (Below.refl _ w).alloc (Nat.le_refl _) _⟩

set_option maxHeartbeats 1000000 in
theorem con_any (n : ByteArray) (a : Option Addr) (l : List T) (k c : Nat) (w : World) (h : TysAt w (.slice a k c) l) :
    Calls Tryd.prog 25 #[.string n, .slice a k c] w fun e w' => (∃ u, e = .returned (tyV (.con n l) u) ∧ TysAt w' u l) ∧ Below w.heap.size w w' := by
  have H := Lib.hid h; clear h
  go_enter Tryd.func25, Tryd.ntmps25
  go_wp2
  refine bodyPost_ret (v := tyV (.con n l) (.slice a k c)) (by simp [results, Tryd.results25, go_sem, tyV, T.kind, T.name]) rfl ⟨⟨_, rfl, H.out.keep (keepT_alloc w _)⟩, (Below.refl _ w).alloc (Nat.le_refl _) _⟩

set_option maxHeartbeats 1000000 in
theorem fun2_any (x y : T) (a b : Option Addr) (c d : Nat) (w : World) (hx : TysAt w (.slice a x.kids.length c) x.kids) (hy : TysAt w (.slice b y.kids.length d) y.kids) :
    Calls Tryd.prog 26 #[tyV x (.slice a x.kids.length c), tyV y (.slice b y.kids.length d)] w fun e w' => (∃ u, e = .returned (tyV (.fn x y) u) ∧ TysAt w' u [x, y]) ∧ Below w.heap.size w w' := by
  have HX := Lib.hid (TyAt.mk x hx); clear hx
  have HY := Lib.hid (TyAt.mk y hy); clear hy
  simp only [tyV]
  go_enter Tryd.func26, Tryd.ntmps26
  go_wp2
  have k3 : ∀ o1 o2 o3 : Obj, KeepT w (((w.alloc o1).alloc o2).alloc o3) := fun o1 o2 o3 => ((keepT_alloc w o1).trans (keepT_alloc _ o2)).trans (keepT_alloc _ o3)
  refine bodyPost_ret (v := .agg #[.int .i64 3, .string ⟨#[]⟩, .slice (some ⟨w.heap.size + 1 + 1 + 1, 0, none⟩) 2 2]) (by simp [results, Tryd.results26, go_sem]) rfl ⟨⟨_, rfl, ?_⟩, ?_⟩
  · exact TysAt.two (by simp) (HX.out.keep (k3 _ _ _)) (HY.out.keep (k3 _ _ _))
  · exact ((((Below.refl _ w).alloc (Nat.le_refl _) _).alloc (by simp) _).alloc (by simp; omega) _).alloc (by simp; omega) _
end Go.Proofs.YthpphjkoiipkkaaDoor
