/- Merged: UfEnds, UgGraph. -/
import Derived.Test.YthpphjkoiipkkaaDoorUm1
/- Two types as one: it ends; how great what is found can be. -/
namespace Go.Proofs.YthpphjkoiipkkaaDoor

theorem filter_lt {α : Type} {p q : α → Bool} : ∀ {l : List α}, (∀ y ∈ l, q y = true → p y = true) → (∃ x ∈ l, p x = true ∧ q x = false) → (l.filter q).length < (l.filter p).length
  | [], _, h => by obtain ⟨x, hx, _⟩ := h; cases hx
  | a :: l, h, he => by
    have hle : (l.filter q).length ≤ (l.filter p).length := by
      clear he
      induction l with
      | nil => simp
      | cons b l ih =>
        have h1 := ih fun y hy => h y (by rcases List.mem_cons.1 hy with rfl | hy <;> simp [*])
        have hb := h b (by simp)
        rw [List.filter_cons, List.filter_cons]
        cases eq : q b with
        | false => cases ep : p b <;> simp <;> omega
        | true => rw [hb eq]; simp; omega
    obtain ⟨x, hx, hp, hq⟩ := he
    rw [List.filter_cons, List.filter_cons]
    rcases List.mem_cons.1 hx with rfl | hx
    · rw [hp, hq]; simp; omega
    · have := filter_lt (fun y hy => h y (List.mem_cons_of_mem _ hy)) ⟨x, hx, hp, hq⟩
      have ha := h a (by simp)
      cases eq : q a with
      | false => cases ep : p a <;> simp <;> omega
      | true => rw [ha eq]; simp; omega
open Classical in
/-- How many of these variables have no type yet. -/
noncomputable def uns (V : List ByteArray) (σ : Sg) : Nat := (V.filter fun x => decide (σ x = .var x)).length
def VIn (V : List ByteArray) (σ : Sg) : Prop := ∀ x ∈ V, ∀ y ∈ vs (σ x), y ∈ V
def TIn (V : List ByteArray) (t : T) : Prop := ∀ x ∈ vs t, x ∈ V
theorem VIn.sub {V : List ByteArray} {σ : Sg} (h : VIn V σ) {t : T} (ht : TIn V t) : TIn V (Go.Proofs.YthpphjkoiipkkaaDoor.sub σ t) := by
  intro y hy
  obtain ⟨x, hx, hy⟩ := (vs_sub t).1 hy
  exact h x (ht x hx) y hy
theorem vin_var (V : List ByteArray) : VIn V T.var := fun x hx y hy => by simp [vs] at hy; exact hy ▸ hx
theorem TIn.kid {V : List ByteArray} {t k : T} (h : TIn V t) (hv : t.isV = false) (hk : k ∈ t.kids) : TIn V k := fun x hx => h x ((vs_kids hv).2 ⟨k, hk, hx⟩)
theorem Binds.still {σ τ : Sg} {x y : ByteArray} {u : T} (h : Binds σ x u τ) (e : τ y = .var y) : σ y = .var y := by
  rw [h.new] at e
  have e : Go.Proofs.YthpphjkoiipkkaaDoor.sub (one x u) (σ y) = .var y := e
  cases hv : (σ y).isV with
  | false =>
    have := (sub_parts (one x u) _ hv).2.2.2
    rw [e] at this; cases this
  | true =>
    have ez := isV_var hv
    rw [ez] at e
    have e : one x u (σ y).name = .var y := e
    by_cases hz : (σ y).name = x
    · rw [hz, one_at] at e
      have := h.fix
      rw [e] at this
      exact this
    · rw [one_ne u hz] at e
      rw [ez]; exact e
open Classical in
theorem Binds.fewer {V : List ByteArray} {σ τ : Sg} {x : ByteArray} {u : T} (h : Binds σ x u τ) (hx : x ∈ V) : uns V τ < uns V σ := by
  unfold uns
  refine filter_lt (fun y _ hy => decide_eq_true (h.still (of_decide_eq_true hy))) ⟨x, hx, decide_eq_true h.free, decide_eq_false fun e => ?_⟩
  rw [h.new] at e
  have e : Go.Proofs.YthpphjkoiipkkaaDoor.sub (one x u) (σ x) = .var x := e
  rw [h.free] at e
  have e : one x u x = .var x := e
  rw [one_at] at e
  exact h.out (by rw [e]; simp [vs])
theorem Binds.vin {V : List ByteArray} {σ τ : Sg} {x : ByteArray} {u : T} (h : Binds σ x u τ) (hi : VIn V σ) (hu : TIn V u) : VIn V τ := by
  intro z hz y hy
  rw [h.new] at hy
  obtain ⟨w, hw, hy⟩ := (vs_sub _).1 hy
  by_cases e : w = x
  · subst e; rw [one_at] at hy; exact hu y hy
  · rw [one_ne u e] at hy
    simp [vs] at hy
    exact hy ▸ hi z hz w hw
def AfterU (V : List ByteArray) (σ : Sg) (r : UR) : Prop := ∀ τ, r = .ok τ → VIn V τ ∧ (τ = σ ∨ uns V τ < uns V σ)
theorem ends_list (V : List ByteArray) (σ0 : Sg) (h0 : Idem σ0) (v0 : VIn V σ0) : ∀ (l m : List T)
    (_ : ∀ k ∈ l, ∀ k' ∈ m, ∃ r, Uni σ0 k k' r ∧ AfterU V σ0 r)
    (_ : ∀ σ, Idem σ → VIn V σ → uns V σ < uns V σ0 → ∀ k ∈ l, ∀ k' ∈ m, ∃ r, Uni σ k k' r ∧ AfterU V σ r)
    (σ : Sg) (_ : σ = σ0 ∨ Idem σ ∧ VIn V σ ∧ uns V σ < uns V σ0), ∃ f r, uniL (uni f) σ l m = some r ∧ AfterU V σ0 r
  | [], m, _, _, σ, hs => by
    refine ⟨0, .ok σ, by simp [uniL], fun τ e => ?_⟩
    injection e with e
    subst e
    rcases hs with rfl | hs
    · exact ⟨v0, .inl rfl⟩
    · exact ⟨hs.2.1, .inr hs.2.2⟩
  | a :: l, [], _, _, σ, hs => by
    refine ⟨0, .ok σ, by simp [uniL], fun τ e => ?_⟩
    injection e with e
    subst e
    rcases hs with rfl | hs
    · exact ⟨v0, .inl rfl⟩
    · exact ⟨hs.2.1, .inr hs.2.2⟩
  | a :: l, b :: m, H1, H2, σ, hs => by
    have hiv : Idem σ ∧ VIn V σ := by
      rcases hs with rfl | hs
      · exact ⟨h0, v0⟩
      · exact ⟨hs.1, hs.2.1⟩
    obtain ⟨r, ⟨f, hf⟩, hr⟩ : ∃ r, Uni σ a b r ∧ AfterU V σ r := by
      rcases hs with rfl | hs
      · exact H1 a (by simp) b (by simp)
      · exact H2 σ hs.1 hs.2.1 hs.2.2 a (by simp) b (by simp)
    cases r with
    | bad e =>
      refine ⟨f, .bad e, by rw [uniL, hf], fun τ e => by cases e⟩
    | ok ρ =>
      have hρ := hr ρ rfl
      have hs2 : ρ = σ0 ∨ Idem ρ ∧ VIn V ρ ∧ uns V ρ < uns V σ0 := by
        have i1 := (uni_sound f σ a b ρ hf hiv.1).1
        rcases hρ.2 with e | e
        · rw [e]; exact hs
        · refine .inr ⟨i1, hρ.1, ?_⟩
          rcases hs with rfl | hs
          · exact e
          · exact Nat.lt_trans e hs.2.2
      obtain ⟨g, q, hg, hq⟩ := ends_list V σ0 h0 v0 l m (fun k hk k' hk' => H1 k (List.mem_cons_of_mem _ hk) k' (List.mem_cons_of_mem _ hk')) (fun σ a b c k hk k' hk' => H2 σ a b c k (List.mem_cons_of_mem _ hk) k' (List.mem_cons_of_mem _ hk')) ρ hs2
      refine ⟨max f g, q, ?_, hq⟩
      rw [uniL, uni_le (Nat.le_max_left f g) hf]
      exact uniL_more (fun _ _ _ _ h => uni_le (Nat.le_max_right f g) h) l m ρ q hg
theorem uni_ends (V : List ByteArray) (n : Nat) : ∀ (m : Nat) (σ : Sg) (a b : T), Idem σ → VIn V σ → TIn V a → TIn V b → uns V σ ≤ n → tsize (sub σ a) ≤ m → ∃ r, Uni σ a b r ∧ AfterU V σ r := by
  induction n using Nat.strongRecOn with
  | ind n ihn =>
    intro m
    induction m with
    | zero => intro σ a b _ _ _ _ _ h; have := tsize_pos (sub σ a); omega
    | succ m ihm =>
      intro σ a b hi hv ha hb hn hm
      have ta := hv.sub ha
      have tb := hv.sub hb
      have hs : ∀ f, StepU (uni f) σ a b (uni (f + 1) σ a b) := fun f => by rw [uni]; exact stepU_is (uni f) σ a b hi
      have fin : ∀ r, uni 1 σ a b = some r → AfterU V σ r → ∃ r, Uni σ a b r ∧ AfterU V σ r := fun r h k => ⟨r, ⟨1, h⟩, k⟩
      have h1 := hs 0
      generalize hr : uni 1 σ a b = r1 at h1
      have hbd : ∀ {x : ByteArray} {u : T} {τ : Sg}, Binds σ x u τ → TIn V u → x ∈ V → AfterU V σ (.ok τ) := fun {x u τ} hb hu hx τ' e => by
        injection e with e
        subst e
        exact ⟨hb.vin hv hu, .inr (hb.fewer hx)⟩
      cases h1 with
      | same x e1 e2 => exact fin _ hr fun τ e => by injection e with e; exact ⟨e ▸ hv, .inl e.symm⟩
      | left x τ e1 h => exact fin _ hr (hbd h tb (ta x (by rw [e1]; simp [vs])))
      | leftIn => exact fin _ hr fun τ e => by cases e
      | right x τ _ e2 h => exact fin _ hr (hbd h ta (tb x (by rw [e2]; simp [vs])))
      | rightIn => exact fin _ hr fun τ e => by cases e
      | bad => exact fin _ hr fun τ e => by cases e
      | parts p1 p2 p3 p4 p5 =>
        clear hr fin hbd
        obtain ⟨f, r, hf, hA⟩ := ends_list V σ hi hv (sub σ a).kids (sub σ b).kids
          (fun k hk k' hk' => ihm σ k k' hi hv (ta.kid p1 hk) (tb.kid p2 hk') hn (by
            have e : sub σ k = k := sub_id fun y hy => hi.on (t := a) ((vs_kids p1).2 ⟨k, hk, hy⟩)
            rw [e]; have := tsize_kid hk; omega))
          (fun ρ i1 i2 i3 k hk k' hk' => ihn (uns V ρ) (by omega) (tsize (sub ρ k)) ρ k k' i1 i2 (ta.kid p1 hk) (tb.kid p2 hk') (Nat.le_refl _) (Nat.le_refl _))
          σ (.inl rfl)
        refine ⟨r, ⟨f + 1, ?_⟩, hA⟩
        have h2 := hs f
        generalize uni (f + 1) σ a b = q at h2
        cases h2 with
        | parts => exact hf
        | same x e1 e2 => rw [e1] at p1; cases p1
        | left x τ e1 => rw [e1] at p1; cases p1
        | leftIn x e1 => rw [e1] at p1; cases p1
        | right x τ _ e2 => rw [e2] at p2; cases p2
        | rightIn x _ e2 => rw [e2] at p2; cases p2
        | bad _ _ hn => exact (hn ⟨p3, p4, p5⟩).elim
theorem uni_total (V : List ByteArray) (σ : Sg) (a b : T) (hi : Idem σ) (hv : VIn V σ) (ha : TIn V a) (hb : TIn V b) : ∃ r, Uni σ a b r ∧ AfterU V σ r :=
  uni_ends V _ _ σ a b hi hv ha hb (Nat.le_refl _) (Nat.le_refl _)

/-- Each variable's type is made of a part that was there at the start. -/
def FromU (O : T → Prop) (σ : Sg) : Prop := ∀ x, (σ x).isV = true ∨ ∃ t, O t ∧ t.isV = false ∧ σ x = sub σ t
def InstU (O : T → Prop) (σ : Sg) (a : T) : Prop := ∃ o, O o ∧ sub σ a = sub σ o
theorem from_var (O : T → Prop) : FromU O T.var := fun _ => .inl rfl
theorem InstU.of {O : T → Prop} {σ : Sg} {a : T} (h : O a) : InstU O σ a := ⟨a, h, rfl⟩
theorem InstU.ext {O : T → Prop} {σ τ : Sg} {a : T} (h : InstU O σ a) (he : ExtU σ τ) (hi : Idem σ) : InstU O τ a := by
  obtain ⟨o, h, e⟩ := h
  exact ⟨o, h, by rw [← he.sub hi a, e, he.sub hi]⟩
/-- A type that is no variable is what a part at the start, none either, came to. -/
theorem InstU.solid {O : T → Prop} {σ : Sg} {a : T} (h : InstU O σ a) (hF : FromU O σ) (hv : (sub σ a).isV = false) : ∃ o, O o ∧ o.isV = false ∧ sub σ a = sub σ o := by
  obtain ⟨o, h, e⟩ := h
  cases ho : o.isV with
  | false => exact ⟨o, h, ho, e⟩
  | true =>
    have eo := isV_var ho
    rcases hF o.name with h1 | ⟨t, ht, hvt, et⟩
    · have h9 : (sub σ o).isV = true := by rw [eo]; exact h1
      rw [e, h9] at hv; cases hv
    · exact ⟨t, ht, hvt, e.trans (by rw [eo]; exact et)⟩
theorem InstU.kid {O : T → Prop} (hO : ∀ t, O t → ∀ k ∈ t.kids, O k) {σ : Sg} {a k : T} (h : InstU O σ a) (hF : FromU O σ) (hi : Idem σ) (hv : (sub σ a).isV = false) (hk : k ∈ (sub σ a).kids) : InstU O σ k := by
  obtain ⟨o, h, ho, e⟩ := h.solid hF hv
  rw [e, (sub_parts σ o ho).2.2.1] at hk
  obtain ⟨k0, hk0, rfl⟩ := List.mem_map.1 hk
  exact ⟨k0, hO o h k0 hk0, hi.twice k0⟩
theorem Binds.from {O : T → Prop} {σ τ : Sg} {x : ByteArray} {a : T} (h : Binds σ x (Go.Proofs.YthpphjkoiipkkaaDoor.sub σ a) τ) (hF : FromU O σ) (ha : InstU O σ a) : FromU O τ := by
  have hin : ∀ {t : T} {v : T}, t.isV = false → v = Go.Proofs.YthpphjkoiipkkaaDoor.sub σ t → v.isV = false := fun {t v} ht e => by rw [e]; exact (sub_parts σ t ht).2.2.2
  intro y
  have ey : τ y = Go.Proofs.YthpphjkoiipkkaaDoor.sub (one x (Go.Proofs.YthpphjkoiipkkaaDoor.sub σ a)) (σ y) := by rw [h.new]
  rcases hF y with hv | ⟨t, ht, hvt, et⟩
  · have ez := isV_var hv
    by_cases hz : (σ y).name = x
    · have e1 : τ y = Go.Proofs.YthpphjkoiipkkaaDoor.sub σ a := by rw [ey, ez, hz]; exact one_at _ _
      cases hu : (Go.Proofs.YthpphjkoiipkkaaDoor.sub σ a).isV with
      | true => exact .inl (by rw [e1]; exact hu)
      | false =>
        obtain ⟨o, ho, hvo, eo⟩ := ha.solid hF hu
        refine .inr ⟨o, ho, hvo, ?_⟩
        rw [e1, h.sub o, ← eo, one_out h.out]
    · refine .inl ?_
      rw [ey, ez]
      show (one x (Go.Proofs.YthpphjkoiipkkaaDoor.sub σ a) (σ y).name).isV = true
      rw [one_ne _ hz]; rfl
  · refine .inr ⟨t, ht, hvt, ?_⟩
    rw [ey, et, h.sub t]
def FromKeeps (O : T → Prop) (u : Sg → T → T → Option UR) : Prop := ∀ σ a b τ, u σ a b = some (.ok τ) → Idem σ → FromU O σ → InstU O σ a → InstU O σ b → FromU O τ
theorem uniL_from {O : T → Prop} {u : Sg → T → T → Option UR} (S : Sound u) (H : FromKeeps O u) : ∀ (l m : List T) (σ τ : Sg), uniL u σ l m = some (.ok τ) → Idem σ → FromU O σ → (∀ k ∈ l, InstU O σ k) → (∀ k ∈ m, InstU O σ k) → FromU O τ
  | [], m, σ, τ, h, _, hF, _, _ => by
    simp only [uniL, Option.some.injEq, UR.ok.injEq] at h
    subst h; exact hF
  | a :: l, [], σ, τ, h, _, hF, _, _ => by
    simp only [uniL, Option.some.injEq, UR.ok.injEq] at h
    subst h; exact hF
  | a :: l, b :: m, σ, τ, h, hi, hF, hl, hm => by
    rw [uniL] at h
    cases e : u σ a b with
    | none => rw [e] at h; cases h
    | some r =>
      rw [e] at h
      cases r with
      | bad q => cases h
      | ok ρ =>
        obtain ⟨h1, h2, _⟩ := S σ a b ρ e hi
        exact uniL_from S H l m ρ τ h h1 (H σ a b ρ e hi hF (hl a (by simp)) (hm b (by simp)))
          (fun k hk => (hl k (List.mem_cons_of_mem _ hk)).ext h2 hi) (fun k hk => (hm k (List.mem_cons_of_mem _ hk)).ext h2 hi)
theorem uni_from {O : T → Prop} (hO : ∀ t, O t → ∀ k ∈ t.kids, O k) : ∀ f, FromKeeps O (uni f)
  | 0 => fun σ a b τ h _ _ _ _ => by cases h
  | f + 1 => fun σ a b τ h hi hF ha hb => by
    have ih := uni_from hO f
    rw [uni] at h
    have hs := stepU_is (uni f) σ a b hi
    rw [h] at hs
    generalize hr : some (UR.ok τ) = r at hs
    cases hs with
    | same x e1 e2 =>
      simp only [Option.some.injEq, UR.ok.injEq] at hr
      subst hr
      exact hF
    | left x ρ e1 h =>
      simp only [Option.some.injEq, UR.ok.injEq] at hr
      subst hr
      exact h.from hF hb
    | leftIn => cases hr
    | right x ρ _ e2 h =>
      simp only [Option.some.injEq, UR.ok.injEq] at hr
      subst hr
      exact h.from hF ha
    | rightIn => cases hr
    | parts h1 h2 h3 h4 h5 => exact uniL_from (uni_sound f) ih _ _ σ τ hr.symm hi hF (fun k hk => ha.kid hO hF hi h1 hk) (fun k hk => hb.kid hO hF hi h2 hk)
    | bad => cases hr
theorem Uni.from {O : T → Prop} (hO : ∀ t, O t → ∀ k ∈ t.kids, O k) {σ τ : Sg} {a b : T} (h : Uni σ a b (.ok τ)) (hi : Idem σ) (hF : FromU O σ) (ha : InstU O σ a) (hb : InstU O σ b) : FromU O τ := by
  obtain ⟨f, h⟩ := h; exact uni_from hO f σ a b τ h hi hF ha hb
/-- A type's size with types for its variables. -/
theorem size_subs {σ : Sg} {M : Nat} (hM : 1 ≤ M) : ∀ t, (∀ y ∈ vs t, tsize (σ y) ≤ M) → tsize (sub σ t) ≤ tsize t * M := by
  refine T.kidsInd fun t ih h => ?_
  cases hv : t.isV with
  | true =>
    rw [isV_var hv] at h ⊢
    have := h t.name (by simp [vs])
    simpa [sub, tsize] using this
  | false =>
    obtain ⟨_, _, a3, _⟩ := sub_parts σ t hv
    rw [tsize_eq, a3, tsize_eq t]
    have key : ∀ l : List T, (∀ k ∈ l, tsize (sub σ k) ≤ tsize k * M) → tsizes (l.map (sub σ)) ≤ tsizes l * M := by
      intro l
      induction l with
      | nil => intro _; simp [tsizes]
      | cons a l ih2 =>
        intro hl
        have h1 := hl a (by simp)
        have h2 := ih2 fun k hk => hl k (List.mem_cons_of_mem _ hk)
        rw [List.map_cons, tsizes, tsizes, Nat.add_mul]; omega
    have := key t.kids fun k hk => ih k hk fun y hy => h y ((vs_kids hv).2 ⟨k, hk, hy⟩)
    rw [Nat.add_mul]; omega
noncomputable def rankU (V : List ByteArray) (σ : Sg) (x : ByteArray) : Nat := (V.filter fun y => decide (tsize (σ y) < tsize (σ x))).length
theorem rank_lt {V : List ByteArray} {σ : Sg} {x y : ByteArray} (hy : y ∈ V) (h : tsize (σ y) < tsize (σ x)) : rankU V σ y < rankU V σ x := by
  unfold rankU
  refine filter_lt (fun z _ hz => decide_eq_true (Nat.lt_trans (of_decide_eq_true hz) h)) ⟨y, hy, decide_eq_true h, decide_eq_false (Nat.lt_irrefl _)⟩
theorem rank_in {V : List ByteArray} {σ : Sg} {x : ByteArray} (hx : x ∈ V) : rankU V σ x < V.length := by
  have := filter_lt (l := V) (p := fun _ => true) (q := fun y => decide (tsize (σ y) < tsize (σ x))) (fun _ _ _ => rfl) ⟨x, hx, rfl, decide_eq_false (Nat.lt_irrefl _)⟩
  have e : V.filter (fun _ => true) = V := by simp
  rw [e] at this
  exact this
/-- How great a variable's type can be. -/
theorem from_size {O : T → Prop} {V : List ByteArray} {σ : Sg} {N : Nat} (hF : FromU O σ) (hV : ∀ t, O t → t.isV = false → TIn V t) (hN : ∀ t, O t → tsize t ≤ N) (h1 : 1 ≤ N) : ∀ n x, tsize (σ x) ≤ n → tsize (σ x) ≤ N ^ (rankU V σ x + 1) := by
  intro n
  induction n with
  | zero => intro x h; have := tsize_pos (σ x); omega
  | succ n ih =>
    intro x hx
    have hp : 1 ≤ N ^ (rankU V σ x + 1) := Nat.one_le_pow _ _ h1
    rcases hF x with hv | ⟨t, ht, hvt, et⟩
    · rw [isV_var hv]; simpa [tsize] using hp
    · have hp' : 1 ≤ N ^ rankU V σ x := Nat.one_le_pow _ _ h1
      have := size_subs (σ := σ) hp' t fun y hy => by
        have hlt : tsize (σ y) < tsize (σ x) := by rw [et]; exact size_sub_lt hvt hy
        have h2 := ih y (by omega)
        have h3 := rank_lt (hV t ht hvt y hy) hlt
        exact Nat.le_trans h2 (Nat.pow_le_pow_right h1 h3)
      rw [et] at hx ⊢
      rw [← et] at hx ⊢
      have h9 := Nat.mul_le_mul_right (N ^ rankU V σ x) (hN t ht)
      rw [Nat.pow_succ, Nat.mul_comm, et]
      exact Nat.le_trans this h9
theorem from_le {O : T → Prop} {V : List ByteArray} {σ : Sg} {N : Nat} (hF : FromU O σ) (hV : ∀ t, O t → t.isV = false → TIn V t) (hN : ∀ t, O t → tsize t ≤ N) (h1 : 1 ≤ N) {x : ByteArray} (hx : x ∈ V) : tsize (σ x) ≤ N ^ V.length :=
  Nat.le_trans (from_size hF hV hN h1 _ x (Nat.le_refl _)) (Nat.pow_le_pow_right h1 (rank_in hx))
theorem from_le' {O : T → Prop} {V : List ByteArray} {σ : Sg} {N : Nat} (hF : FromU O σ) (hV : ∀ t, O t → t.isV = false → TIn V t) (hN : ∀ t, O t → tsize t ≤ N) (h1 : 1 ≤ N) (x : ByteArray) : tsize (σ x) ≤ N ^ (V.length + 1) := by
  refine Nat.le_trans (from_size hF hV hN h1 _ x (Nat.le_refl _)) (Nat.pow_le_pow_right h1 ?_)
  have := List.length_filter_le (fun y => decide (tsize (σ y) < tsize (σ x))) V
  unfold rankU; omega
end Go.Proofs.YthpphjkoiipkkaaDoor
/- A graph of parts, in which two parts are made one: what the program's unification keeps, as plain data. -/
namespace Go.Proofs.YthpphjkoiipkkaaDoor

/-- Parts as they were laid: each a type, its arguments are parts that were laid ahead of it; each variable once. -/
structure Gr where
  N : Nat
  tr : Nat → T
  ag : Nat → List Nat
structure Gr.OK (G : Gr) : Prop where
  kids : ∀ i, i < G.N → (G.tr i).kids = (G.ag i).map G.tr
  low : ∀ i, i < G.N → ∀ x ∈ G.ag i, x < i
  vars : ∀ i j, i < G.N → j < G.N → (G.tr i).isV = true → G.tr i = G.tr j → i = j
  three : ∀ i, i < G.N → (G.tr i).kind ≠ 4
theorem Gr.OK.var_no {G : Gr} (h : G.OK) {i : Nat} (hi : i < G.N) (hv : (G.tr i).isV = true) : G.ag i = [] := by
  have := h.kids i hi
  rw [isV_var hv] at this
  simpa [T.kids] using this.symm
theorem Gr.OK.arg {G : Gr} (h : G.OK) {i x : Nat} (hi : i < G.N) (hx : x ∈ G.ag i) : x < G.N := Nat.lt_trans (h.low i hi x hx) hi
theorem Gr.OK.len {G : Gr} (h : G.OK) {i : Nat} (hi : i < G.N) : (G.tr i).kids.length = (G.ag i).length := by rw [h.kids i hi, List.length_map]
/-- What parts have become one with: rt i is where part i's way ends. -/
structure GI (G : Gr) (rt : Nat → Nat) : Prop where
  ok : G.OK
  lt : ∀ i, i < G.N → rt i < G.N
  fix : ∀ i, i < G.N → rt (rt i) = rt i
  con : ∀ i j, i < G.N → j < G.N → rt i = rt j → (G.tr i).isV = false → (G.tr j).isV = false → (G.tr i).kind = (G.tr j).kind ∧ (G.tr i).name = (G.tr j).name ∧ (G.ag i).map rt = (G.ag j).map rt
  nv : ∀ i, i < G.N → (G.tr i).isV = false → (G.tr (rt i)).isV = false
/-- Part a goes where part b goes. -/
def un (rt : Nat → Nat) (a b : Nat) : Nat → Nat := fun i => if rt i = a then b else rt i
def ren (a b : Nat) : Nat → Nat := fun i => if i = a then b else i
theorem un_ren (rt : Nat → Nat) (a b i : Nat) : un rt a b i = ren a b (rt i) := rfl
theorem ren_at (a b : Nat) : ren a b a = b := by simp [ren]
theorem ren_ne {a b i : Nat} (h : i ≠ a) : ren a b i = i := by simp [ren, h]
theorem un_same {rt : Nat → Nat} {i j : Nat} (a b : Nat) (h : rt i = rt j) : un rt a b i = un rt a b j := by rw [un_ren, un_ren, h]
theorem map_un (rt : Nat → Nat) (a b : Nat) (l : List Nat) : l.map (un rt a b) = (l.map rt).map (ren a b) := by rw [List.map_map]; rfl
/-- Two roots, of which the first is a variable, or which have the same arguments. -/
def Like (G : Gr) (rt : Nat → Nat) (a b : Nat) : Prop := (G.tr a).isV = false ∧ (G.tr b).isV = false ∧ (G.tr a).kind = (G.tr b).kind ∧ (G.tr a).name = (G.tr b).name ∧ (G.ag a).map rt = (G.ag b).map rt
theorem GI.un {G : Gr} {rt : Nat → Nat} {a b : Nat} (h : GI G rt) (ha : a < G.N) (hb : b < G.N) (ra : rt a = a) (rb : rt b = b) (hne : a ≠ b) (hl : (G.tr a).isV = true ∨ Like G rt a b) : GI G (un rt a b) := by
  have hb' : Go.Proofs.YthpphjkoiipkkaaDoor.un rt a b b = b := by rw [un_ren, rb, ren_ne (fun e => hne e.symm)]
  refine ⟨h.ok, fun i hi => ?_, fun i hi => ?_, fun i j hi hj e vi vj => ?_, fun i hi vi => ?_⟩
  · by_cases e : rt i = a
    · rw [un_ren, e, ren_at]; exact hb
    · rw [un_ren, ren_ne e]; exact h.lt i hi
  · by_cases e : rt i = a
    · have : Go.Proofs.YthpphjkoiipkkaaDoor.un rt a b i = b := by rw [un_ren, e, ren_at]
      rw [this, hb']
    · have : Go.Proofs.YthpphjkoiipkkaaDoor.un rt a b i = rt i := by rw [un_ren, ren_ne e]
      rw [this, un_ren, h.fix i hi, ren_ne e]
  · have key : rt i = rt j → (G.tr i).kind = (G.tr j).kind ∧ (G.tr i).name = (G.tr j).name ∧ (G.ag i).map (Go.Proofs.YthpphjkoiipkkaaDoor.un rt a b) = (G.ag j).map (Go.Proofs.YthpphjkoiipkkaaDoor.un rt a b) := fun e => by
      obtain ⟨h1, h2, h3⟩ := h.con i j hi hj e vi vj
      exact ⟨h1, h2, by rw [map_un, map_un, h3]⟩
    by_cases ei : rt i = a
    · by_cases ej : rt j = a
      · exact key (ei.trans ej.symm)
      · rw [un_ren, un_ren, ei, ren_at, ren_ne ej] at e
        have va : (G.tr a).isV = false := by rw [← ei]; exact h.nv i hi vi
        rcases hl with hl | ⟨l1, l2, l3, l4, l5⟩
        · rw [hl] at va; cases va
        · obtain ⟨h1, h2, h3⟩ := h.con i a hi ha (ei.trans ra.symm) vi l1
          obtain ⟨k1, k2, k3⟩ := h.con b j hb hj (rb.trans e) l2 vj
          exact ⟨h1.trans (l3.trans k1), h2.trans (l4.trans k2), by rw [map_un, map_un, h3, l5, k3]⟩
    · by_cases ej : rt j = a
      · rw [un_ren, un_ren, ej, ren_at, ren_ne ei] at e
        have va : (G.tr a).isV = false := by rw [← ej]; exact h.nv j hj vj
        rcases hl with hl | ⟨l1, l2, l3, l4, l5⟩
        · rw [hl] at va; cases va
        · obtain ⟨h1, h2, h3⟩ := h.con i b hi hb (e.trans rb.symm) vi l2
          obtain ⟨k1, k2, k3⟩ := h.con a j ha hj (ra.trans ej.symm) l1 vj
          exact ⟨h1.trans (l3.symm.trans k1), h2.trans (l4.symm.trans k2), by rw [map_un, map_un, h3, ← l5, k3]⟩
      · rw [un_ren, un_ren, ren_ne ei, ren_ne ej] at e
        exact key e
  · by_cases ei : rt i = a
    · have va : (G.tr a).isV = false := by rw [← ei]; exact h.nv i hi vi
      rcases hl with hl | ⟨_, l2, _⟩
      · rw [hl] at va; cases va
      · rw [un_ren, ei, ren_at]; exact l2
    · rw [un_ren, ren_ne ei]; exact h.nv i hi vi

/-- Each part is above its arguments. -/
def Meas (G : Gr) (rt m : Nat → Nat) : Prop := ∀ i, i < G.N → rt i = i → ∀ x ∈ G.ag i, m (rt x) < m i
/-- No part stands within itself. -/
def Acyc (G : Gr) (rt : Nat → Nat) : Prop := ∃ m : Nat → Nat, Meas G rt m
theorem Meas.back {G : Gr} {rt m : Nat → Nat} {a b : Nat} (h : GI G rt) (ha : a < G.N) (hb : b < G.N) (rb : rt b = b) (hne : a ≠ b) (hl : (G.tr a).isV = true ∨ Like G rt a b) (hm : Meas G (un rt a b) m) : Meas G rt (fun r => m (ren a b r)) := by
  have hb' : un rt a b b = b := by rw [un_ren, rb, ren_ne (fun e => hne e.symm)]
  intro i hi ri x hx
  by_cases e : i = a
  · subst e
    rcases hl with hl | ⟨_, _, _, _, l5⟩
    · rw [h.ok.var_no hi hl] at hx; cases hx
    · have : rt x ∈ (G.ag b).map rt := by rw [← l5]; exact List.mem_map.2 ⟨x, hx, rfl⟩
      obtain ⟨y, hy, ey⟩ := List.mem_map.1 this
      have := hm b hb hb' y hy
      rw [un_ren, ey] at this
      show m (ren i b (rt x)) < m (ren i b i)
      rw [ren_at]; exact this
  · have hi' : un rt a b i = i := by rw [un_ren, ri, ren_ne e]
    have := hm i hi hi' x hx
    rw [un_ren] at this
    show m (ren a b (rt x)) < m (ren a b i)
    rw [ren_ne e]; exact this

/-- Two parts to be made one. -/
structure Stp where
  a : Nat
  b : Nat
  j : Bool
/-- A relation by which two are one if what was found says so, or a step that is to be made. -/
structure Gd (rt : Nat → Nat) (up : List Stp) (R : Nat → Nat → Prop) : Prop where
  sym : ∀ i j, R i j → R j i
  trans : ∀ i j k, R i j → R j k → R i k
  rt : ∀ i j, rt i = rt j → R i j
  up : ∀ s ∈ up, R s.a s.b
def StpOK (G : Gr) (rt : Nat → Nat) (up : List Stp) (s : Stp) : Prop := s.a < G.N ∧ s.b < G.N ∧ (s.j = true →
  ((G.tr s.a).isV = false ∧ (G.tr s.b).isV = false ∧ (G.tr s.a).kind = (G.tr s.b).kind ∧ (G.tr s.a).name = (G.tr s.b).name ∧ (G.ag s.a).length = (G.ag s.b).length) ∧
  ∀ R, Gd rt up R → ∀ k (h1 : k < (G.ag s.a).length) (h2 : k < (G.ag s.b).length), R (G.ag s.a)[k] (G.ag s.b)[k])
/-- Steps, the next one first. -/
def StkOK (G : Gr) (rt : Nat → Nat) : List Stp → List Stp → Prop
  | _, [] => True
  | up, s :: ws => StpOK G rt up s ∧ StkOK G rt (s :: up) ws
theorem StkOK.mono {G : Gr} {rt rt' : Nat → Nat} : ∀ {ws : List Stp} {up up' : List Stp}, (∀ R, Gd rt' up' R → Gd rt up R) → StkOK G rt up ws → StkOK G rt' up' ws
  | [], _, _, _, _ => trivial
  | s :: ws, up, up', H, h => ⟨⟨h.1.1, h.1.2.1, fun hj => ⟨(h.1.2.2 hj).1, fun R hR => (h.1.2.2 hj).2 R (H R hR)⟩⟩,
      StkOK.mono (fun R hR => by
        have h1 := H R ⟨hR.sym, hR.trans, hR.rt, fun t ht => hR.up t (List.mem_cons_of_mem _ ht)⟩
        exact ⟨h1.sym, h1.trans, h1.rt, fun t ht => by
          rcases List.mem_cons.1 ht with rfl | ht
          · exact hR.up _ (List.mem_cons_self ..)
          · exact h1.up t ht⟩) h.2⟩
def pairsU : List Nat → List Nat → List Stp
  | x :: l, y :: m => ⟨x, y, false⟩ :: pairsU l m
  | _, _ => []
theorem pairsU_len : ∀ {l m : List Nat}, l.length = m.length → (pairsU l m).length = l.length
  | [], [], _ => rfl
  | x :: l, y :: m, h => by rw [pairsU, List.length_cons, pairsU_len (by simpa using h), List.length_cons]
theorem pairsU_get : ∀ {l m : List Nat} {k : Nat} (h1 : k < l.length) (h2 : k < m.length), (⟨l[k], m[k], false⟩ : Stp) ∈ pairsU l m
  | x :: l, y :: m, 0, _, _ => by simp [pairsU]
  | x :: l, y :: m, k + 1, h1, h2 => by
    rw [pairsU]
    exact List.mem_cons_of_mem _ (pairsU_get (l := l) (m := m) (k := k) (by simpa using h1) (by simpa using h2))
theorem StkOK.pairs {G : Gr} {rt : Nat → Nat} {ws : List Stp} : ∀ {l m : List Nat} {up : List Stp}, (∀ x ∈ l, x < G.N) → (∀ y ∈ m, y < G.N) → StkOK G rt ((pairsU l m).reverse ++ up) ws → StkOK G rt up (pairsU l m ++ ws)
  | [], m, up, _, _, h => by simpa [pairsU] using h
  | x :: l, [], up, _, _, h => by simpa [pairsU] using h
  | x :: l, y :: m, up, hx, hy, h => by
    rw [pairsU] at h ⊢
    refine ⟨⟨hx x (by simp), hy y (by simp), fun hj => by cases hj⟩, ?_⟩
    refine StkOK.pairs (fun z hz => hx z (List.mem_cons_of_mem _ hz)) (fun z hz => hy z (List.mem_cons_of_mem _ hz)) ?_
    simpa using h
theorem StkOK.tail {G : Gr} {rt rt' : Nat → Nat} {s : Stp} {ws up : List Stp} (h : StkOK G rt [] (s :: ws)) (H : ∀ R, Gd rt' up R → (∀ i j, rt i = rt j → R i j) ∧ R s.a s.b) : StkOK G rt' up ws :=
  h.2.mono fun R hR => ⟨hR.sym, hR.trans, (H R hR).1, fun t ht => by simp at ht; subst ht; exact (H R hR).2⟩

open Classical in
/-- Whether two parts that are no variables are one when their arguments are. -/
noncomputable def likeB (G : Gr) (a b : Nat) : Bool := decide ((G.tr a).kind = (G.tr b).kind ∧ (G.tr a).name = (G.tr b).name ∧ (G.ag a).length = (G.ag b).length)
/-- One step: what is one behind it, and what is to be done still; none: it can't go on. -/
noncomputable def stepG (G : Gr) (rt : Nat → Nat) (s : Stp) (ws : List Stp) : Option ((Nat → Nat) × List Stp) :=
  if rt s.a = rt s.b then some (rt, ws)
  else if s.j = true ∨ (G.tr (rt s.a)).isV = true then some (un rt (rt s.a) (rt s.b), ws)
  else if (G.tr (rt s.b)).isV = true then some (un rt (rt s.b) (rt s.a), ws)
  else if likeB G (rt s.a) (rt s.b) = true then some (rt, pairsU (G.ag (rt s.a)) (G.ag (rt s.b)) ++ ⟨rt s.a, rt s.b, true⟩ :: ws)
  else none
theorem joined_like {G : Gr} {rt : Nat → Nat} {s : Stp} (h : GI G rt) (hs : StpOK G rt [] s) (hj : s.j = true) : Like G rt (rt s.a) (rt s.b) := by
  obtain ⟨la, lb, hs⟩ := hs
  obtain ⟨⟨v1, v2, k1, n1, l1⟩, hR⟩ := hs hj
  have ha := h.con s.a (rt s.a) la (h.lt _ la) (h.fix _ la).symm v1 (h.nv _ la v1)
  have hb := h.con s.b (rt s.b) lb (h.lt _ lb) (h.fix _ lb).symm v2 (h.nv _ lb v2)
  have he : (G.ag s.a).map rt = (G.ag s.b).map rt := by
    refine List.ext_getElem (by simp [l1]) fun k h1 h2 => ?_
    rw [List.getElem_map, List.getElem_map]
    exact hR (fun i j => rt i = rt j) ⟨fun i j e => e.symm, fun i j k e e' => e.trans e', fun i j e => e, fun t ht => nomatch ht⟩ k (by simpa using h1) (by simpa using h2)
  exact ⟨h.nv _ la v1, h.nv _ lb v2, ha.1.symm.trans (k1.trans hb.1), ha.2.1.symm.trans (n1.trans hb.2.1), ha.2.2.symm.trans (he.trans hb.2.2)⟩
theorem nodup_len {l R : List Nat} (hn : l.Nodup) (hs : ∀ i ∈ l, i ∈ R) : l.length ≤ R.length := by
  induction l generalizing R with
  | nil => exact Nat.zero_le _
  | cons a l ih =>
    have hp := List.perm_cons_erase (hs a (by simp))
    have hn' := List.nodup_cons.1 hn
    have := ih (R := R.erase a) hn'.2 fun j hj => (List.mem_erase_of_ne (fun e => hn'.1 (by rw [← e]; exact hj))).2 (hs j (List.mem_cons_of_mem _ hj))
    rw [hp.length_eq, List.length_cons, List.length_cons]; omega

/-- The next step behind which arguments were to be made one. -/
def topJ (ws : List Stp) : Option Stp := ws.find? (fun s => s.j)
def Ch (G : Gr) (rt : Nat → Nat) : List Stp → Prop
  | [] => True
  | s :: ws => (∀ t, topJ ws = some t → (s.j = true → ∀ m, Meas G rt m → m (rt s.a) < m (rt t.a)) ∧ (s.j = false → s.a ∈ G.ag t.a)) ∧ Ch G rt ws
def numJ (ws : List Stp) : Nat := (ws.filter fun s => s.j).length
/-- How many steps there can be. -/
def Lb (E : Nat) : List Stp → Prop
  | [] => True
  | s :: ws => (s :: ws).length ≤ 1 + numJ (s :: ws) * (E + 1) ∧ Lb E ws
theorem Ch.mono {G : Gr} {rt rt' : Nat → Nat} {f : Nat → Nat} (hf : ∀ i, rt' i = f (rt i)) (hm : ∀ m, Meas G rt' m → Meas G rt (fun r => m (f r))) : ∀ {ws : List Stp}, Ch G rt ws → Ch G rt' ws
  | [], _ => trivial
  | s :: ws, h => ⟨fun t ht => ⟨fun hj m hM => by rw [hf, hf]; exact (h.1 t ht).1 hj _ (hm m hM), (h.1 t ht).2⟩, Ch.mono hf hm h.2⟩
theorem topJ_pairs (l m : List Nat) (s : Stp) (hs : s.j = true) (ws : List Stp) : topJ (pairsU l m ++ s :: ws) = some s := by
  induction l generalizing m with
  | nil => simp [pairsU, topJ, hs]
  | cons x l ih =>
    cases m with
    | nil => simp [pairsU, topJ, hs]
    | cons y m =>
      have := ih m
      unfold topJ at this ⊢
      rw [pairsU, List.cons_append, List.find?_cons]
      exact this
theorem Ch.pairs {G : Gr} {rt : Nat → Nat} {s : Stp} {ws : List Stp} (hs : s.j = true) (h : Ch G rt (s :: ws)) : ∀ {l m : List Nat}, (∀ x ∈ l, x ∈ G.ag s.a) → Ch G rt (pairsU l m ++ s :: ws)
  | [], m, _ => by simpa [pairsU] using h
  | x :: l, [], _ => by simpa [pairsU] using h
  | x :: l, y :: m, hx => by
    rw [pairsU]
    refine ⟨fun t ht => ?_, Ch.pairs hs h fun z hz => hx z (List.mem_cons_of_mem _ hz)⟩
    have : topJ (pairsU l m ++ s :: ws) = some t := ht
    rw [topJ_pairs l m s hs ws] at this
    cases this
    exact ⟨fun h => (nomatch h), fun _ => hx x (by simp)⟩
theorem numJ_pairs (ws : List Stp) : ∀ l m : List Nat, numJ (pairsU l m ++ ws) = numJ ws
  | [], _ => by simp [pairsU]
  | _ :: _, [] => by simp [pairsU]
  | x :: l, y :: m => by
    have := numJ_pairs ws l m
    unfold numJ at this ⊢
    rw [pairsU, List.cons_append, List.filter_cons]
    exact this
theorem numJ_cons (s : Stp) (ws : List Stp) (hs : s.j = true) : numJ (s :: ws) = numJ ws + 1 := by simp [numJ, hs]
theorem numJ_le (s : Stp) (ws : List Stp) : numJ ws ≤ numJ (s :: ws) := by
  unfold numJ; rw [List.filter_cons]; split <;> simp
theorem Lb.len {E : Nat} {ws : List Stp} (h : Lb E ws) : ws.length ≤ 1 + numJ ws * (E + 1) := by
  cases ws with
  | nil => simp
  | cons s ws => exact h.1
theorem Lb.pairs {E : Nat} {s : Stp} {ws : List Stp} (hs : s.j = true) (h : Lb E ws) : ∀ {l m : List Nat}, l.length ≤ E → Lb E (pairsU l m ++ s :: ws) := by
  have hl := h.len
  have hJ := numJ_cons s ws hs
  have h0 : Lb E (s :: ws) := ⟨by rw [hJ, List.length_cons, Nat.add_mul]; omega, h⟩
  intro l
  induction l with
  | nil => intro m _; simpa [pairsU] using h0
  | cons x l ih =>
    intro m hE
    cases m with
    | nil => simpa [pairsU] using h0
    | cons y m =>
      rw [pairsU]
      refine ⟨?_, ih (m := m) (by simp at hE; omega)⟩
      have e : numJ (⟨x, y, false⟩ :: (pairsU l m ++ s :: ws)) = numJ (s :: ws) := by
        have := numJ_pairs (s :: ws) (x :: l) (y :: m)
        rw [pairsU] at this; exact this
      have hlen : (pairsU l m).length ≤ l.length := by
        clear ih hE e
        induction l generalizing m with
        | nil => simp [pairsU]
        | cons a l ih2 =>
          cases m with
          | nil => simp [pairsU]
          | cons b m => have := ih2 m; simp [pairsU]; omega
      show (⟨x, y, false⟩ :: (pairsU l m ++ s :: ws) : List Stp).length ≤ 1 + numJ (⟨x, y, false⟩ :: (pairsU l m ++ s :: ws)) * (E + 1)
      rw [e, hJ, List.length_cons, List.length_append, List.length_cons, Nat.add_mul]
      simp at hE; omega
theorem StkOK.mem {G : Gr} {rt : Nat → Nat} : ∀ {ws up : List Stp}, StkOK G rt up ws → ∀ t ∈ ws, t.a < G.N ∧ (t.j = true → (G.tr t.a).isV = false)
  | [], _, _, t, ht => by cases ht
  | s :: ws, up, h, t, ht => by
    rcases List.mem_cons.1 ht with rfl | ht
    · exact ⟨h.1.1, fun hj => (h.1.2.2 hj).1.1⟩
    · exact StkOK.mem h.2 t ht
/-- Steps: each is right, each is below the one behind it, and they are few. -/
def SK (G : Gr) (E : Nat) (rt : Nat → Nat) (ws : List Stp) : Prop := StkOK G rt [] ws ∧ Ch G rt ws ∧ Lb E ws
theorem chJ {G : Gr} {rt m : Nat → Nat} (hm : Meas G rt m) : ∀ {ws : List Stp}, Ch G rt ws → ((ws.filter fun s => s.j).map fun t => m (rt t.a)).Pairwise (· < ·)
  | [], _ => by simp
  | s :: ws, h => by
    have ih := chJ hm h.2
    rw [List.filter_cons]
    split
    next hj =>
      rw [List.map_cons, List.pairwise_cons]
      refine ⟨fun x hx => ?_, ih⟩
      cases ht : topJ ws with
      | none =>
        unfold topJ at ht
        rw [List.find?_eq_none] at ht
        obtain ⟨t, ht2, _⟩ := List.mem_map.1 hx
        exact absurd (List.mem_filter.1 ht2).2 (ht t (List.mem_filter.1 ht2).1)
      | some t =>
        have h1 := (h.1 t ht).1 hj m hm
        have hd : (ws.filter fun s => s.j).head? = some t := by rw [List.head?_filter]; exact ht
        cases hl : ws.filter fun s => s.j with
        | nil => rw [hl] at hd; cases hd
        | cons t' l =>
          rw [hl] at hd hx ih
          injection hd with hd
          subst hd
          rw [List.map_cons] at hx ih
          rcases List.mem_cons.1 hx with rfl | hx
          · exact h1
          · exact Nat.lt_trans h1 ((List.pairwise_cons.1 ih).1 x hx)
    next => exact ih
theorem SK.few {G : Gr} {E : Nat} {rt : Nat → Nat} {ws : List Stp} (g : GI G rt) (h : SK G E rt ws) (hA : Acyc G rt) : numJ ws ≤ G.N := by
  obtain ⟨m, hm⟩ := hA
  have hp := chJ hm h.2.1
  have hn : ((ws.filter fun s => s.j).map fun t => rt t.a).Nodup := by
    refine List.pairwise_map.2 ((List.pairwise_map.1 hp).imp ?_)
    intro a b hab e
    rw [e] at hab; exact Nat.lt_irrefl _ hab
  have := nodup_len (R := List.range G.N) hn fun x hx => by
    obtain ⟨t, ht, rfl⟩ := List.mem_map.1 hx
    exact List.mem_range.2 (g.lt _ (h.1.mem t (List.mem_filter.1 ht).1).1)
  simpa [numJ] using this
theorem step_inv {G : Gr} {E : Nat} {rt rt' : Nat → Nat} {s : Stp} {ws ws' : List Stp} (hE : ∀ i, i < G.N → (G.ag i).length ≤ E) (h : GI G rt) (hk : SK G E rt (s :: ws)) (e : stepG G rt s ws = some (rt', ws')) : (GI G rt' ∧ SK G E rt' ws') ∧ (Acyc G rt' → Acyc G rt) ∧ numJ ws' ≤ numJ (s :: ws) + 1 := by
  obtain ⟨hs, hC, hL⟩ := hk
  obtain ⟨la, lb, _⟩ := hs.1
  have ra := h.fix _ la
  have rb := h.fix _ lb
  have hJ := numJ_le s ws
  unfold stepG at e
  split at e
  next he =>
    simp only [Option.some.injEq, Prod.mk.injEq] at e
    obtain ⟨rfl, rfl⟩ := e
    exact ⟨⟨h, hs.tail fun R hR => ⟨hR.rt, hR.rt _ _ he⟩, hC.2, hL.2⟩, id, by omega⟩
  next he =>
    split at e
    next hc =>
      simp only [Option.some.injEq, Prod.mk.injEq] at e
      obtain ⟨rfl, rfl⟩ := e
      have hl : (G.tr (rt s.a)).isV = true ∨ Like G rt (rt s.a) (rt s.b) := by
        rcases hc with hc | hc
        · exact .inr (joined_like h hs.1 hc)
        · exact .inl hc
      have hb := fun m => Meas.back (m := m) h (h.lt _ la) (h.lt _ lb) rb he hl
      refine ⟨⟨h.un (h.lt _ la) (h.lt _ lb) ra rb he hl, hs.tail fun R hR => ⟨fun i j e => hR.rt _ _ (un_same _ _ e), hR.rt _ _ ?_⟩, hC.2.mono (un_ren rt _ _) hb, hL.2⟩, fun ⟨m, hm⟩ => ⟨_, hb m hm⟩, by omega⟩
      rw [un_ren, un_ren, ren_at, ren_ne (fun e => he e.symm)]
    next hc =>
      split at e
      next hv =>
        simp only [Option.some.injEq, Prod.mk.injEq] at e
        obtain ⟨rfl, rfl⟩ := e
        have he' : rt s.b ≠ rt s.a := fun e => he e.symm
        have hb := fun m => Meas.back (m := m) h (h.lt _ lb) (h.lt _ la) ra he' (.inl hv)
        refine ⟨⟨h.un (h.lt _ lb) (h.lt _ la) rb ra he' (.inl hv), hs.tail fun R hR => ⟨fun i j e => hR.rt _ _ (un_same _ _ e), hR.rt _ _ ?_⟩, hC.2.mono (un_ren rt _ _) hb, hL.2⟩, fun ⟨m, hm⟩ => ⟨_, hb m hm⟩, by omega⟩
        rw [un_ren, un_ren, ren_at, ren_ne he]
      next hv =>
        split at e
        next hk =>
          simp only [Option.some.injEq, Prod.mk.injEq] at e
          obtain ⟨rfl, rfl⟩ := e
          unfold likeB at hk
          obtain ⟨k1, k2, k3⟩ := of_decide_eq_true hk
          have va : (G.tr (rt s.a)).isV = false := by
            cases h : (G.tr (rt s.a)).isV with
            | false => rfl
            | true => exact (hc (.inr h)).elim
          have hsj : s.j = false := by
            cases h : s.j with
            | false => rfl
            | true => exact (hc (.inl h)).elim
          refine ⟨⟨h, StkOK.pairs (fun x hx => h.ok.arg (h.lt _ la) hx) (fun x hx => h.ok.arg (h.lt _ lb) hx) ⟨⟨h.lt _ la, h.lt _ lb, fun _ => ⟨⟨va, by simpa using hv, k1, k2, k3⟩, fun R hR k h1 h2 => ?_⟩⟩, ?_⟩, ?_, Lb.pairs rfl hL.2 (hE _ (h.lt _ la))⟩, id, ?_⟩
          · exact hR.up _ (by simpa using pairsU_get h1 h2)
          · exact hs.tail fun R hR => ⟨hR.rt, hR.trans _ _ _ (hR.rt _ _ ra.symm) (hR.trans _ _ _ (hR.up _ (List.mem_cons_self ..)) (hR.rt _ _ rb))⟩
          · refine Ch.pairs rfl ⟨fun t ht => ⟨fun _ m hm => ?_, fun h => (by cases h)⟩, hC.2⟩ fun x hx => hx
            have hmem := (hC.1 t ht).2 hsj
            have htm : t ∈ ws := List.mem_of_find?_eq_some ht
            have htj : t.j = true := List.find?_some (p := fun s : Stp => s.j) ht
            obtain ⟨lt, nvt⟩ := hs.2.mem t htm
            have hcon := (h.con t.a (rt t.a) lt (h.lt _ lt) (h.fix _ lt).symm (nvt htj) (h.nv _ lt (nvt htj))).2.2
            have : rt s.a ∈ (G.ag (rt t.a)).map rt := by rw [← hcon]; exact List.mem_map.2 ⟨_, hmem, rfl⟩
            obtain ⟨y, hy, ey⟩ := List.mem_map.1 this
            have := hm (rt t.a) (h.lt _ lt) (h.fix _ lt) y hy
            show m (rt (rt s.a)) < m (rt t.a)
            rw [ra, ← ey]; exact this
          · rw [numJ_pairs, numJ_cons _ _ rfl]; omega
        next hk => cases e
end Go.Proofs.YthpphjkoiipkkaaDoor
