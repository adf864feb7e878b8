/- Merged: UfMost, UfEnds, SbThen, UfList, TySize, TyHas, UfGood, SbRGet, Told, Range, SbIter, SbThenA, SbThenB, SbNext, SbRApp, SbRApp2. -/
import Derived.Test.YtdcfemojkdoakaaDoorVs4
import Derived.Test.YtdcfemojkdoakaaDoorVs3
import Derived.Deep.RegionLaw
import Derived.Test.YtdcfemojkdoakaaDoorVs2
import Derived.RangeFuncNested
import Derived.RangeFuncBound
import Derived.RangeFuncCalls
import Derived.RangeFuncLeaves
import Derived.Stop.RegionWithIn
import Derived.OwnWalkIn
import Derived.TacticsInMore
import Derived.LoopNIn
import Derived.LoopIn
import Derived.Deep.AppendLies
/- Two types as one: what is found makes them one; whatever else does goes by it. -/
namespace Go.Proofs.YtdcfemojkdoakaaDoor

theorem kids_same {σ : Sg} {a b : T} (ha : a.isV = false) (hb : b.isV = false) (hk : a.kind = b.kind) (hn : a.name = b.name) (h : a.kids.map (sub σ) = b.kids.map (sub σ)) : sub σ a = sub σ b := by
  obtain ⟨a1, a2, a3, _⟩ := sub_parts σ a ha
  obtain ⟨b1, b2, b3, _⟩ := sub_parts σ b hb
  exact T.ext3 (a1.trans (hk.trans b1.symm)) (a2.trans (hn.trans b2.symm)) (by rw [a3, b3, h])
/-- What is found makes the two one. -/
def Sound (u : Sg → T → T → Option UR) : Prop := ∀ σ a b τ, u σ a b = some (.ok τ) → Idem σ → Idem τ ∧ ExtU σ τ ∧ sub τ a = sub τ b
theorem uniL_sound {u : Sg → T → T → Option UR} (H : Sound u) : ∀ (l m : List T) (σ τ : Sg), l.length = m.length → uniL u σ l m = some (.ok τ) → Idem σ → Idem τ ∧ ExtU σ τ ∧ l.map (sub τ) = m.map (sub τ)
  | [], [], σ, τ, _, h, hi => by
    simp only [uniL, Option.some.injEq, UR.ok.injEq] at h
    subst h; exact ⟨hi, .refl _, rfl⟩
  | [], b :: m, _, _, hl, _, _ => by simp at hl
  | a :: l, [], _, _, hl, _, _ => by simp at hl
  | a :: l, b :: m, σ, τ, hl, h, hi => by
    rw [uniL] at h
    cases e : u σ a b with
    | none => rw [e] at h; cases h
    | some r =>
      rw [e] at h
      cases r with
      | bad q => cases h
      | ok ρ =>
        obtain ⟨h1, h2, h3⟩ := H σ a b ρ e hi
        obtain ⟨k1, k2, k3⟩ := uniL_sound H l m ρ τ (by simpa using hl) h h1
        refine ⟨k1, h2.trans k2, ?_⟩
        have : sub τ a = sub τ b := by rw [← k2.sub h1 a, ← k2.sub h1 b, h3]
        rw [List.map_cons, List.map_cons, k3, this]
theorem uni_sound : ∀ f, Sound (uni f)
  | 0 => fun σ a b τ h _ => by cases h
  | f + 1 => fun σ a b τ h hi => by
    have ih := uni_sound f
    rw [uni] at h
    have hs := stepU_is (uni f) σ a b hi
    rw [h] at hs
    generalize hr : some (UR.ok τ) = r at hs
    cases hs with
    | same x e1 e2 =>
      simp only [Option.some.injEq, UR.ok.injEq] at hr
      subst hr
      exact ⟨hi, .refl _, e1.trans e2.symm⟩
    | left x ρ e1 hb =>
      simp only [Option.some.injEq, UR.ok.injEq] at hr
      subst hr
      exact ⟨hb.idem hi, hb.ext, hb.same e1 rfl⟩
    | leftIn => cases hr
    | right x ρ _ e2 hb =>
      simp only [Option.some.injEq, UR.ok.injEq] at hr
      subst hr
      exact ⟨hb.idem hi, hb.ext, (hb.same e2 rfl).symm⟩
    | rightIn => cases hr
    | parts h1 h2 h3 h4 h5 =>
      obtain ⟨k1, k2, k3⟩ := uniL_sound ih _ _ σ τ h5 hr.symm hi
      refine ⟨k1, k2, ?_⟩
      rw [← k2.sub hi a, ← k2.sub hi b]
      exact kids_same h1 h2 h3 h4 k3
    | bad => cases hr
/-- Types that go by what was found so far. -/
def Goes (θ σ : Sg) : Prop := ∀ x, sub θ (σ x) = θ x
theorem Goes.sub {θ σ : Sg} (h : Goes θ σ) (t : T) : Go.Proofs.YtdcfemojkdoakaaDoor.sub θ (Go.Proofs.YtdcfemojkdoakaaDoor.sub σ t) = Go.Proofs.YtdcfemojkdoakaaDoor.sub θ t := by
  rw [sub_sub]; exact sub_ext t fun x _ => h x
theorem goes_var (θ : Sg) : Goes θ T.var := fun _ => rfl
theorem Goes.binds {θ σ τ : Sg} {x : ByteArray} {u : T} (h : Goes θ σ) (hb : Binds σ x u τ) (e : θ x = Go.Proofs.YtdcfemojkdoakaaDoor.sub θ u) : Goes θ τ := by
  intro y
  rw [hb.new]
  show Go.Proofs.YtdcfemojkdoakaaDoor.sub θ (Go.Proofs.YtdcfemojkdoakaaDoor.sub (one x u) (σ y)) = θ y
  rw [sub_sub, ← h y]
  refine sub_ext _ fun z _ => ?_
  by_cases hz : z = x
  · subst hz; rw [one_at]; exact e.symm
  · rw [one_ne u hz]; rfl
/-- Whatever makes the two one goes by what is found, and it is found. -/
def Most (u : Sg → T → T → Option UR) : Prop := ∀ σ a b r θ, u σ a b = some r → Idem σ → Goes θ σ → sub θ a = sub θ b → ∃ τ, r = .ok τ ∧ Goes θ τ
theorem uniL_most {u : Sg → T → T → Option UR} (S : Sound u) (H : Most u) (θ : Sg) : ∀ (l m : List T) (σ : Sg) (r : UR), l.length = m.length → uniL u σ l m = some r → Idem σ → Goes θ σ → l.map (sub θ) = m.map (sub θ) → ∃ τ, r = .ok τ ∧ Goes θ τ
  | [], [], σ, r, _, h, _, hg, _ => by
    simp only [uniL, Option.some.injEq] at h
    exact ⟨σ, h.symm, hg⟩
  | [], b :: m, _, _, hl, _, _, _, _ => by simp at hl
  | a :: l, [], _, _, hl, _, _, _, _ => by simp at hl
  | a :: l, b :: m, σ, r, hl, h, hi, hg, he => by
    rw [List.map_cons, List.map_cons] at he
    injection he with he1 he2
    rw [uniL] at h
    cases e : u σ a b with
    | none => rw [e] at h; cases h
    | some q =>
      obtain ⟨ρ, rfl, hg2⟩ := H σ a b q θ e hi hg he1
      rw [e] at h
      exact uniL_most S H θ l m ρ r (by simpa using hl) h (S σ a b ρ e hi).1 hg2 he2
theorem occ_not {θ : Sg} {x : ByteArray} {u : T} (hv : u.isV = false) (h : x ∈ vs u) (e : θ x = sub θ u) : False := by
  have := size_sub_lt (σ := θ) hv h
  rw [e] at this; omega
theorem uni_most : ∀ f, Most (uni f)
  | 0 => fun σ a b r θ h _ _ _ => by cases h
  | f + 1 => fun σ a b r θ h hi hg he => by
    have ih := uni_most f
    have is := uni_sound f
    rw [uni] at h
    have hs := stepU_is (uni f) σ a b hi
    rw [h] at hs
    have ea := hg.sub a
    have eb := hg.sub b
    generalize hr : some r = q at hs
    cases hs with
    | same x e1 e2 => injection hr with hr; exact ⟨σ, hr, hg⟩
    | left x ρ e1 hb =>
      injection hr with hr
      refine ⟨ρ, hr, hg.binds hb ?_⟩
      rw [eb, ← he, ← ea, e1]; rfl
    | leftIn x e1 ho hv =>
      refine (occ_not (θ := θ) hv ho ?_).elim
      rw [eb, ← he, ← ea, e1]; rfl
    | right x ρ _ e2 hb =>
      injection hr with hr
      refine ⟨ρ, hr, hg.binds hb ?_⟩
      rw [ea, he, ← eb, e2]; rfl
    | rightIn x hv e2 ho =>
      refine (occ_not (θ := θ) hv ho ?_).elim
      rw [ea, he, ← eb, e2]; rfl
    | parts h1 h2 h3 h4 h5 =>
      refine uniL_most is ih θ _ _ σ r h5 hr.symm hi hg ?_
      have e9 : sub θ (sub σ a) = sub θ (sub σ b) := by rw [ea, eb, he]
      obtain ⟨_, _, a3, _⟩ := sub_parts θ _ h1
      obtain ⟨_, _, b3, _⟩ := sub_parts θ _ h2
      rw [← a3, ← b3, e9]
    | bad h1 h2 hn =>
      have e9 : sub θ (sub σ a) = sub θ (sub σ b) := by rw [ea, eb, he]
      obtain ⟨a1, a2, a3, _⟩ := sub_parts θ _ h1
      obtain ⟨b1, b2, b3, _⟩ := sub_parts θ _ h2
      refine (hn ⟨?_, ?_, ?_⟩).elim
      · rw [← a1, ← b1, e9]
      · rw [← a2, ← b2, e9]
      · have := congrArg (fun t => t.kids.length) e9
        simp only [a3, b3, List.length_map] at this
        exact this
/-- More fuel finds the same. -/
theorem uniL_more {u v : Sg → T → T → Option UR} (H : ∀ σ a b r, u σ a b = some r → v σ a b = some r) : ∀ (l m : List T) (σ : Sg) (r : UR), uniL u σ l m = some r → uniL v σ l m = some r
  | [], _, σ, r, h => by simpa [uniL] using h
  | _ :: _, [], σ, r, h => by simpa [uniL] using h
  | a :: l, b :: m, σ, r, h => by
    rw [uniL] at h ⊢
    cases e : u σ a b with
    | none => rw [e] at h; cases h
    | some q =>
      rw [e] at h
      rw [H σ a b q e]
      cases q with
      | bad => exact h
      | ok ρ => exact uniL_more H l m ρ r h
theorem uni_succ : ∀ f σ a b r, uni f σ a b = some r → uni (f + 1) σ a b = some r
  | 0, _, _, _, _, h => by cases h
  | f + 1, σ, a, b, r, h => by
    rw [uni] at h ⊢
    unfold stepU at h ⊢
    by_cases c1 : (sub σ a).isV = true ∧ (sub σ b).isV = true ∧ (sub σ a).name = (sub σ b).name
    · rwa [if_pos c1] at h ⊢
    · rw [if_neg c1] at h ⊢
      by_cases c2 : (sub σ a).isV = true
      · rwa [if_pos c2] at h ⊢
      · rw [if_neg c2] at h ⊢
        by_cases c3 : (sub σ b).isV = true
        · rwa [if_pos c3] at h ⊢
        · rw [if_neg c3] at h ⊢
          by_cases c4 : (sub σ a).kind = (sub σ b).kind ∧ (sub σ a).name = (sub σ b).name ∧ (sub σ a).kids.length = (sub σ b).kids.length
          · rw [if_pos c4] at h ⊢
            exact uniL_more (uni_succ f) _ _ _ _ h
          · rwa [if_neg c4] at h ⊢
theorem uni_le {f g : Nat} (hfg : f ≤ g) {σ : Sg} {a b : T} {r : UR} (h : uni f σ a b = some r) : uni g σ a b = some r := by
  obtain ⟨k, rfl⟩ : ∃ k, g = f + k := ⟨g - f, by omega⟩
  clear hfg
  induction k with
  | zero => exact h
  | succ k ih => exact uni_succ _ _ _ _ _ ih
/-- What two types come to, whatever the fuel. -/
def Uni (σ : Sg) (a b : T) (r : UR) : Prop := ∃ f, uni f σ a b = some r
theorem Uni.only {σ : Sg} {a b : T} {r q : UR} (h : Uni σ a b r) (k : Uni σ a b q) : r = q := by
  obtain ⟨f, h⟩ := h; obtain ⟨g, k⟩ := k
  have h1 := uni_le (Nat.le_max_left f g) h
  have k1 := uni_le (Nat.le_max_right f g) k
  rw [h1] at k1; injection k1
theorem Uni.sound {σ τ : Sg} {a b : T} (h : Uni σ a b (.ok τ)) (hi : Idem σ) : Idem τ ∧ ExtU σ τ ∧ sub τ a = sub τ b := by
  obtain ⟨f, h⟩ := h; exact uni_sound f σ a b τ h hi
theorem Uni.most {σ θ : Sg} {a b : T} {r : UR} (h : Uni σ a b r) (hi : Idem σ) (hg : Goes θ σ) (he : sub θ a = sub θ b) : ∃ τ, r = .ok τ ∧ Goes θ τ := by
  obtain ⟨f, h⟩ := h; exact uni_most f σ a b r θ h hi hg he
end Go.Proofs.YtdcfemojkdoakaaDoor
/- Two types as one: it ends; how great what is found can be. -/
namespace Go.Proofs.YtdcfemojkdoakaaDoor

theorem filter_lt {α : Type} {p q : α → Bool} : ∀ {l : List α}, (∀ y ∈ l, q y = true → p y = true) → (∃ x ∈ l, p x = true ∧ q x = false) → (l.filter q).length < (l.filter p).length
  | [], _, h => by obtain ⟨x, hx, _⟩ := h; cases hx
  | a :: l, h, he => by
    have hle : (l.filter q).length ≤ (l.filter p).length := by
      clear he
      induction l with
      | nil => simp
      | cons b l ih =>
        have h1 := ih fun y hy => h y (by rcases List.mem_cons.1 hy with rfl | hy <;> simp [*])
        have hb := h b (by simp)
        rw [List.filter_cons, List.filter_cons]
        cases eq : q b with
        | false => cases ep : p b <;> simp <;> omega
        | true => rw [hb eq]; simp; omega
    obtain ⟨x, hx, hp, hq⟩ := he
    rw [List.filter_cons, List.filter_cons]
    rcases List.mem_cons.1 hx with rfl | hx
    · rw [hp, hq]; simp; omega
    · have := filter_lt (fun y hy => h y (List.mem_cons_of_mem _ hy)) ⟨x, hx, hp, hq⟩
      have ha := h a (by simp)
      cases eq : q a with
      | false => cases ep : p a <;> simp <;> omega
      | true => rw [ha eq]; simp; omega
open Classical in
/-- How many of these variables have no type yet. -/
noncomputable def uns (V : List ByteArray) (σ : Sg) : Nat := (V.filter fun x => decide (σ x = .var x)).length
def VIn (V : List ByteArray) (σ : Sg) : Prop := ∀ x ∈ V, ∀ y ∈ vs (σ x), y ∈ V
def TIn (V : List ByteArray) (t : T) : Prop := ∀ x ∈ vs t, x ∈ V
theorem VIn.sub {V : List ByteArray} {σ : Sg} (h : VIn V σ) {t : T} (ht : TIn V t) : TIn V (Go.Proofs.YtdcfemojkdoakaaDoor.sub σ t) := by
  intro y hy
  obtain ⟨x, hx, hy⟩ := (vs_sub t).1 hy
  exact h x (ht x hx) y hy
theorem vin_var (V : List ByteArray) : VIn V T.var := fun x hx y hy => by simp [vs] at hy; exact hy ▸ hx
theorem TIn.kid {V : List ByteArray} {t k : T} (h : TIn V t) (hv : t.isV = false) (hk : k ∈ t.kids) : TIn V k := fun x hx => h x ((vs_kids hv).2 ⟨k, hk, hx⟩)
theorem Binds.still {σ τ : Sg} {x y : ByteArray} {u : T} (h : Binds σ x u τ) (e : τ y = .var y) : σ y = .var y := by
  rw [h.new] at e
  have e : Go.Proofs.YtdcfemojkdoakaaDoor.sub (one x u) (σ y) = .var y := e
  cases hv : (σ y).isV with
  | false =>
    have := (sub_parts (one x u) _ hv).2.2.2
    rw [e] at this; cases this
  | true =>
    have ez := isV_var hv
    rw [ez] at e
    have e : one x u (σ y).name = .var y := e
    by_cases hz : (σ y).name = x
    · rw [hz, one_at] at e
      have := h.fix
      rw [e] at this
      exact this
    · rw [one_ne u hz] at e
      rw [ez]; exact e
open Classical in
theorem Binds.fewer {V : List ByteArray} {σ τ : Sg} {x : ByteArray} {u : T} (h : Binds σ x u τ) (hx : x ∈ V) : uns V τ < uns V σ := by
  unfold uns
  refine filter_lt (fun y _ hy => decide_eq_true (h.still (of_decide_eq_true hy))) ⟨x, hx, decide_eq_true h.free, decide_eq_false fun e => ?_⟩
  rw [h.new] at e
  have e : Go.Proofs.YtdcfemojkdoakaaDoor.sub (one x u) (σ x) = .var x := e
  rw [h.free] at e
  have e : one x u x = .var x := e
  rw [one_at] at e
  exact h.out (by rw [e]; simp [vs])
theorem Binds.vin {V : List ByteArray} {σ τ : Sg} {x : ByteArray} {u : T} (h : Binds σ x u τ) (hi : VIn V σ) (hu : TIn V u) : VIn V τ := by
  intro z hz y hy
  rw [h.new] at hy
  obtain ⟨w, hw, hy⟩ := (vs_sub _).1 hy
  by_cases e : w = x
  · subst e; rw [one_at] at hy; exact hu y hy
  · rw [one_ne u e] at hy
    simp [vs] at hy
    exact hy ▸ hi z hz w hw
def AfterU (V : List ByteArray) (σ : Sg) (r : UR) : Prop := ∀ τ, r = .ok τ → VIn V τ ∧ (τ = σ ∨ uns V τ < uns V σ)
theorem ends_list (V : List ByteArray) (σ0 : Sg) (h0 : Idem σ0) (v0 : VIn V σ0) : ∀ (l m : List T)
    (_ : ∀ k ∈ l, ∀ k' ∈ m, ∃ r, Uni σ0 k k' r ∧ AfterU V σ0 r)
    (_ : ∀ σ, Idem σ → VIn V σ → uns V σ < uns V σ0 → ∀ k ∈ l, ∀ k' ∈ m, ∃ r, Uni σ k k' r ∧ AfterU V σ r)
    (σ : Sg) (_ : σ = σ0 ∨ Idem σ ∧ VIn V σ ∧ uns V σ < uns V σ0), ∃ f r, uniL (uni f) σ l m = some r ∧ AfterU V σ0 r
  | [], m, _, _, σ, hs => by
    refine ⟨0, .ok σ, by simp [uniL], fun τ e => ?_⟩
    injection e with e
    subst e
    rcases hs with rfl | hs
    · exact ⟨v0, .inl rfl⟩
    · exact ⟨hs.2.1, .inr hs.2.2⟩
  | a :: l, [], _, _, σ, hs => by
    refine ⟨0, .ok σ, by simp [uniL], fun τ e => ?_⟩
    injection e with e
    subst e
    rcases hs with rfl | hs
    · exact ⟨v0, .inl rfl⟩
    · exact ⟨hs.2.1, .inr hs.2.2⟩
  | a :: l, b :: m, H1, H2, σ, hs => by
    have hiv : Idem σ ∧ VIn V σ := by
      rcases hs with rfl | hs
      · exact ⟨h0, v0⟩
      · exact ⟨hs.1, hs.2.1⟩
    obtain ⟨r, ⟨f, hf⟩, hr⟩ : ∃ r, Uni σ a b r ∧ AfterU V σ r := by
      rcases hs with rfl | hs
      · exact H1 a (by simp) b (by simp)
      · exact H2 σ hs.1 hs.2.1 hs.2.2 a (by simp) b (by simp)
    cases r with
    | bad e =>
      refine ⟨f, .bad e, by rw [uniL, hf], fun τ e => by cases e⟩
    | ok ρ =>
      have hρ := hr ρ rfl
      have hs2 : ρ = σ0 ∨ Idem ρ ∧ VIn V ρ ∧ uns V ρ < uns V σ0 := by
        have i1 := (uni_sound f σ a b ρ hf hiv.1).1
        rcases hρ.2 with e | e
        · rw [e]; exact hs
        · refine .inr ⟨i1, hρ.1, ?_⟩
          rcases hs with rfl | hs
          · exact e
          · exact Nat.lt_trans e hs.2.2
      obtain ⟨g, q, hg, hq⟩ := ends_list V σ0 h0 v0 l m (fun k hk k' hk' => H1 k (List.mem_cons_of_mem _ hk) k' (List.mem_cons_of_mem _ hk')) (fun σ a b c k hk k' hk' => H2 σ a b c k (List.mem_cons_of_mem _ hk) k' (List.mem_cons_of_mem _ hk')) ρ hs2
      refine ⟨max f g, q, ?_, hq⟩
      rw [uniL, uni_le (Nat.le_max_left f g) hf]
      exact uniL_more (fun _ _ _ _ h => uni_le (Nat.le_max_right f g) h) l m ρ q hg
theorem uni_ends (V : List ByteArray) (n : Nat) : ∀ (m : Nat) (σ : Sg) (a b : T), Idem σ → VIn V σ → TIn V a → TIn V b → uns V σ ≤ n → tsize (sub σ a) ≤ m → ∃ r, Uni σ a b r ∧ AfterU V σ r := by
  induction n using Nat.strongRecOn with
  | ind n ihn =>
    intro m
    induction m with
    | zero => intro σ a b _ _ _ _ _ h; have := tsize_pos (sub σ a); omega
    | succ m ihm =>
      intro σ a b hi hv ha hb hn hm
      have ta := hv.sub ha
      have tb := hv.sub hb
      have hs : ∀ f, StepU (uni f) σ a b (uni (f + 1) σ a b) := fun f => by rw [uni]; exact stepU_is (uni f) σ a b hi
      have fin : ∀ r, uni 1 σ a b = some r → AfterU V σ r → ∃ r, Uni σ a b r ∧ AfterU V σ r := fun r h k => ⟨r, ⟨1, h⟩, k⟩
      have h1 := hs 0
      generalize hr : uni 1 σ a b = r1 at h1
      have hbd : ∀ {x : ByteArray} {u : T} {τ : Sg}, Binds σ x u τ → TIn V u → x ∈ V → AfterU V σ (.ok τ) := fun {x u τ} hb hu hx τ' e => by
        injection e with e
        subst e
        exact ⟨hb.vin hv hu, .inr (hb.fewer hx)⟩
      cases h1 with
      | same x e1 e2 => exact fin _ hr fun τ e => by injection e with e; exact ⟨e ▸ hv, .inl e.symm⟩
      | left x τ e1 h => exact fin _ hr (hbd h tb (ta x (by rw [e1]; simp [vs])))
      | leftIn => exact fin _ hr fun τ e => by cases e
      | right x τ _ e2 h => exact fin _ hr (hbd h ta (tb x (by rw [e2]; simp [vs])))
      | rightIn => exact fin _ hr fun τ e => by cases e
      | bad => exact fin _ hr fun τ e => by cases e
      | parts p1 p2 p3 p4 p5 =>
        clear hr fin hbd
        obtain ⟨f, r, hf, hA⟩ := ends_list V σ hi hv (sub σ a).kids (sub σ b).kids
          (fun k hk k' hk' => ihm σ k k' hi hv (ta.kid p1 hk) (tb.kid p2 hk') hn (by
            have e : sub σ k = k := sub_id fun y hy => hi.on (t := a) ((vs_kids p1).2 ⟨k, hk, hy⟩)
            rw [e]; have := tsize_kid hk; omega))
          (fun ρ i1 i2 i3 k hk k' hk' => ihn (uns V ρ) (by omega) (tsize (sub ρ k)) ρ k k' i1 i2 (ta.kid p1 hk) (tb.kid p2 hk') (Nat.le_refl _) (Nat.le_refl _))
          σ (.inl rfl)
        refine ⟨r, ⟨f + 1, ?_⟩, hA⟩
        have h2 := hs f
        generalize uni (f + 1) σ a b = q at h2
        cases h2 with
        | parts => exact hf
        | same x e1 e2 => rw [e1] at p1; cases p1
        | left x τ e1 => rw [e1] at p1; cases p1
        | leftIn x e1 => rw [e1] at p1; cases p1
        | right x τ _ e2 => rw [e2] at p2; cases p2
        | rightIn x _ e2 => rw [e2] at p2; cases p2
        | bad _ _ hn => exact (hn ⟨p3, p4, p5⟩).elim
theorem uni_total (V : List ByteArray) (σ : Sg) (a b : T) (hi : Idem σ) (hv : VIn V σ) (ha : TIn V a) (hb : TIn V b) : ∃ r, Uni σ a b r ∧ AfterU V σ r :=
  uni_ends V _ _ σ a b hi hv ha hb (Nat.le_refl _) (Nat.le_refl _)

/-- Each variable's type is made of a part that was there at the start. -/
def FromU (O : T → Prop) (σ : Sg) : Prop := ∀ x, (σ x).isV = true ∨ ∃ t, O t ∧ t.isV = false ∧ σ x = sub σ t
def InstU (O : T → Prop) (σ : Sg) (a : T) : Prop := ∃ o, O o ∧ sub σ a = sub σ o
theorem from_var (O : T → Prop) : FromU O T.var := fun _ => .inl rfl
theorem InstU.of {O : T → Prop} {σ : Sg} {a : T} (h : O a) : InstU O σ a := ⟨a, h, rfl⟩
theorem InstU.ext {O : T → Prop} {σ τ : Sg} {a : T} (h : InstU O σ a) (he : ExtU σ τ) (hi : Idem σ) : InstU O τ a := by
  obtain ⟨o, h, e⟩ := h
  exact ⟨o, h, by rw [← he.sub hi a, e, he.sub hi]⟩
/-- A type that is no variable is what a part at the start, none either, came to. -/
theorem InstU.solid {O : T → Prop} {σ : Sg} {a : T} (h : InstU O σ a) (hF : FromU O σ) (hv : (sub σ a).isV = false) : ∃ o, O o ∧ o.isV = false ∧ sub σ a = sub σ o := by
  obtain ⟨o, h, e⟩ := h
  cases ho : o.isV with
  | false => exact ⟨o, h, ho, e⟩
  | true =>
    have eo := isV_var ho
    rcases hF o.name with h1 | ⟨t, ht, hvt, et⟩
    · have h9 : (sub σ o).isV = true := by rw [eo]; exact h1
      rw [e, h9] at hv; cases hv
    · exact ⟨t, ht, hvt, e.trans (by rw [eo]; exact et)⟩
theorem InstU.kid {O : T → Prop} (hO : ∀ t, O t → ∀ k ∈ t.kids, O k) {σ : Sg} {a k : T} (h : InstU O σ a) (hF : FromU O σ) (hi : Idem σ) (hv : (sub σ a).isV = false) (hk : k ∈ (sub σ a).kids) : InstU O σ k := by
  obtain ⟨o, h, ho, e⟩ := h.solid hF hv
  rw [e, (sub_parts σ o ho).2.2.1] at hk
  obtain ⟨k0, hk0, rfl⟩ := List.mem_map.1 hk
  exact ⟨k0, hO o h k0 hk0, hi.twice k0⟩
theorem Binds.from {O : T → Prop} {σ τ : Sg} {x : ByteArray} {a : T} (h : Binds σ x (Go.Proofs.YtdcfemojkdoakaaDoor.sub σ a) τ) (hF : FromU O σ) (ha : InstU O σ a) : FromU O τ := by
  have hin : ∀ {t : T} {v : T}, t.isV = false → v = Go.Proofs.YtdcfemojkdoakaaDoor.sub σ t → v.isV = false := fun {t v} ht e => by rw [e]; exact (sub_parts σ t ht).2.2.2
  intro y
  have ey : τ y = Go.Proofs.YtdcfemojkdoakaaDoor.sub (one x (Go.Proofs.YtdcfemojkdoakaaDoor.sub σ a)) (σ y) := by rw [h.new]
  rcases hF y with hv | ⟨t, ht, hvt, et⟩
  · have ez := isV_var hv
    by_cases hz : (σ y).name = x
    · have e1 : τ y = Go.Proofs.YtdcfemojkdoakaaDoor.sub σ a := by rw [ey, ez, hz]; exact one_at _ _
      cases hu : (Go.Proofs.YtdcfemojkdoakaaDoor.sub σ a).isV with
      | true => exact .inl (by rw [e1]; exact hu)
      | false =>
        obtain ⟨o, ho, hvo, eo⟩ := ha.solid hF hu
        refine .inr ⟨o, ho, hvo, ?_⟩
        rw [e1, h.sub o, ← eo, one_out h.out]
    · refine .inl ?_
      rw [ey, ez]
      show (one x (Go.Proofs.YtdcfemojkdoakaaDoor.sub σ a) (σ y).name).isV = true
      rw [one_ne _ hz]; rfl
  · refine .inr ⟨t, ht, hvt, ?_⟩
    rw [ey, et, h.sub t]
def FromKeeps (O : T → Prop) (u : Sg → T → T → Option UR) : Prop := ∀ σ a b τ, u σ a b = some (.ok τ) → Idem σ → FromU O σ → InstU O σ a → InstU O σ b → FromU O τ
theorem uniL_from {O : T → Prop} {u : Sg → T → T → Option UR} (S : Sound u) (H : FromKeeps O u) : ∀ (l m : List T) (σ τ : Sg), uniL u σ l m = some (.ok τ) → Idem σ → FromU O σ → (∀ k ∈ l, InstU O σ k) → (∀ k ∈ m, InstU O σ k) → FromU O τ
  | [], m, σ, τ, h, _, hF, _, _ => by
    simp only [uniL, Option.some.injEq, UR.ok.injEq] at h
    subst h; exact hF
  | a :: l, [], σ, τ, h, _, hF, _, _ => by
    simp only [uniL, Option.some.injEq, UR.ok.injEq] at h
    subst h; exact hF
  | a :: l, b :: m, σ, τ, h, hi, hF, hl, hm => by
    rw [uniL] at h
    cases e : u σ a b with
    | none => rw [e] at h; cases h
    | some r =>
      rw [e] at h
      cases r with
      | bad q => cases h
      | ok ρ =>
        obtain ⟨h1, h2, _⟩ := S σ a b ρ e hi
        exact uniL_from S H l m ρ τ h h1 (H σ a b ρ e hi hF (hl a (by simp)) (hm b (by simp)))
          (fun k hk => (hl k (List.mem_cons_of_mem _ hk)).ext h2 hi) (fun k hk => (hm k (List.mem_cons_of_mem _ hk)).ext h2 hi)
theorem uni_from {O : T → Prop} (hO : ∀ t, O t → ∀ k ∈ t.kids, O k) : ∀ f, FromKeeps O (uni f)
  | 0 => fun σ a b τ h _ _ _ _ => by cases h
  | f + 1 => fun σ a b τ h hi hF ha hb => by
    have ih := uni_from hO f
    rw [uni] at h
    have hs := stepU_is (uni f) σ a b hi
    rw [h] at hs
    generalize hr : some (UR.ok τ) = r at hs
    cases hs with
    | same x e1 e2 =>
      simp only [Option.some.injEq, UR.ok.injEq] at hr
      subst hr
      exact hF
    | left x ρ e1 h =>
      simp only [Option.some.injEq, UR.ok.injEq] at hr
      subst hr
      exact h.from hF hb
    | leftIn => cases hr
    | right x ρ _ e2 h =>
      simp only [Option.some.injEq, UR.ok.injEq] at hr
      subst hr
      exact h.from hF ha
    | rightIn => cases hr
    | parts h1 h2 h3 h4 h5 => exact uniL_from (uni_sound f) ih _ _ σ τ hr.symm hi hF (fun k hk => ha.kid hO hF hi h1 hk) (fun k hk => hb.kid hO hF hi h2 hk)
    | bad => cases hr
theorem Uni.from {O : T → Prop} (hO : ∀ t, O t → ∀ k ∈ t.kids, O k) {σ τ : Sg} {a b : T} (h : Uni σ a b (.ok τ)) (hi : Idem σ) (hF : FromU O σ) (ha : InstU O σ a) (hb : InstU O σ b) : FromU O τ := by
  obtain ⟨f, h⟩ := h; exact uni_from hO f σ a b τ h hi hF ha hb
/-- A type's size with types for its variables. -/
theorem size_subs {σ : Sg} {M : Nat} (hM : 1 ≤ M) : ∀ t, (∀ y ∈ vs t, tsize (σ y) ≤ M) → tsize (sub σ t) ≤ tsize t * M := by
  refine T.kidsInd fun t ih h => ?_
  cases hv : t.isV with
  | true =>
    rw [isV_var hv] at h ⊢
    have := h t.name (by simp [vs])
    simpa [sub, tsize] using this
  | false =>
    obtain ⟨_, _, a3, _⟩ := sub_parts σ t hv
    rw [tsize_eq, a3, tsize_eq t]
    have key : ∀ l : List T, (∀ k ∈ l, tsize (sub σ k) ≤ tsize k * M) → tsizes (l.map (sub σ)) ≤ tsizes l * M := by
      intro l
      induction l with
      | nil => intro _; simp [tsizes]
      | cons a l ih2 =>
        intro hl
        have h1 := hl a (by simp)
        have h2 := ih2 fun k hk => hl k (List.mem_cons_of_mem _ hk)
        rw [List.map_cons, tsizes, tsizes, Nat.add_mul]; omega
    have := key t.kids fun k hk => ih k hk fun y hy => h y ((vs_kids hv).2 ⟨k, hk, hy⟩)
    rw [Nat.add_mul]; omega
noncomputable def rankU (V : List ByteArray) (σ : Sg) (x : ByteArray) : Nat := (V.filter fun y => decide (tsize (σ y) < tsize (σ x))).length
theorem rank_lt {V : List ByteArray} {σ : Sg} {x y : ByteArray} (hy : y ∈ V) (h : tsize (σ y) < tsize (σ x)) : rankU V σ y < rankU V σ x := by
  unfold rankU
  refine filter_lt (fun z _ hz => decide_eq_true (Nat.lt_trans (of_decide_eq_true hz) h)) ⟨y, hy, decide_eq_true h, decide_eq_false (Nat.lt_irrefl _)⟩
theorem rank_in {V : List ByteArray} {σ : Sg} {x : ByteArray} (hx : x ∈ V) : rankU V σ x < V.length := by
  have := filter_lt (l := V) (p := fun _ => true) (q := fun y => decide (tsize (σ y) < tsize (σ x))) (fun _ _ _ => rfl) ⟨x, hx, rfl, decide_eq_false (Nat.lt_irrefl _)⟩
  have e : V.filter (fun _ => true) = V := by simp
  rw [e] at this
  exact this
/-- How great a variable's type can be. -/
theorem from_size {O : T → Prop} {V : List ByteArray} {σ : Sg} {N : Nat} (hF : FromU O σ) (hV : ∀ t, O t → t.isV = false → TIn V t) (hN : ∀ t, O t → tsize t ≤ N) (h1 : 1 ≤ N) : ∀ n x, tsize (σ x) ≤ n → tsize (σ x) ≤ N ^ (rankU V σ x + 1) := by
  intro n
  induction n with
  | zero => intro x h; have := tsize_pos (σ x); omega
  | succ n ih =>
    intro x hx
    have hp : 1 ≤ N ^ (rankU V σ x + 1) := Nat.one_le_pow _ _ h1
    rcases hF x with hv | ⟨t, ht, hvt, et⟩
    · rw [isV_var hv]; simpa [tsize] using hp
    · have hp' : 1 ≤ N ^ rankU V σ x := Nat.one_le_pow _ _ h1
      have := size_subs (σ := σ) hp' t fun y hy => by
        have hlt : tsize (σ y) < tsize (σ x) := by rw [et]; exact size_sub_lt hvt hy
        have h2 := ih y (by omega)
        have h3 := rank_lt (hV t ht hvt y hy) hlt
        exact Nat.le_trans h2 (Nat.pow_le_pow_right h1 h3)
      rw [et] at hx ⊢
      rw [← et] at hx ⊢
      have h9 := Nat.mul_le_mul_right (N ^ rankU V σ x) (hN t ht)
      rw [Nat.pow_succ, Nat.mul_comm, et]
      exact Nat.le_trans this h9
theorem from_le {O : T → Prop} {V : List ByteArray} {σ : Sg} {N : Nat} (hF : FromU O σ) (hV : ∀ t, O t → t.isV = false → TIn V t) (hN : ∀ t, O t → tsize t ≤ N) (h1 : 1 ≤ N) {x : ByteArray} (hx : x ∈ V) : tsize (σ x) ≤ N ^ V.length :=
  Nat.le_trans (from_size hF hV hN h1 _ x (Nat.le_refl _)) (Nat.pow_le_pow_right h1 (rank_in hx))
theorem from_le' {O : T → Prop} {V : List ByteArray} {σ : Sg} {N : Nat} (hF : FromU O σ) (hV : ∀ t, O t → t.isV = false → TIn V t) (hN : ∀ t, O t → tsize t ≤ N) (h1 : 1 ≤ N) (x : ByteArray) : tsize (σ x) ≤ N ^ (V.length + 1) := by
  refine Nat.le_trans (from_size hF hV hN h1 _ x (Nat.le_refl _)) (Nat.pow_le_pow_right h1 ?_)
  have := List.length_filter_le (fun y => decide (tsize (σ y) < tsize (σ x))) V
  unfold rankU; omega
end Go.Proofs.YtdcfemojkdoakaaDoor
/- (Subst).Then: one after the other. -/
namespace Go.Proofs.YtdcfemojkdoakaaDoor
open Go.RowKit Go.Sort Go.Lib
attribute [local go_sem] Oper.semAt_some

theorem make_cap4 (N : Nat) (hn : N ≤ 1000000000) (w : World) :
    (Instr.makeSlice 31 (.int .i64 0) (.int .i64 (N : Int))).run Tryd.prog w = .ok (.slice (some ⟨w.heap.size, 0, none⟩) 0 N) (w.alloc (.cells (zeros4 N) 119)) := by
  obtain ⟨i, hi, hzz⟩ := Option.map_eq_some_iff.1 Tryd.infoPair
  simp only [Prod.mk.injEq] at hzz
  obtain ⟨hz, hs, hb⟩ := hzz
  have hr := run_make (P := Tryd.prog) w 31 119 i _ Tryd.underlying31 hi hz .i64 .i64 0 N (by omega) (by omega) (by rw [hb]; omega) (by omega)
  simp only [Int.toNat_natCast, hs, Int.toNat_zero] at hr
  exact hr
theorem setCells_set4 (w : World) (g i : Nat) (x : PR) : w.setCells g (0 + i * 4) (encP x) = set4 w g i x := by
  rw [Nat.zero_add]; rfl
/-- The list that Then gathers. -/
noncomputable def thenL (ls lu : List PR) : List PR := ls.map (fun x => { x with t := app lu x.t }) ++ lu
theorem ty_append (n : ByteArray) (d e : List PR) : ty n (d ++ e) = if (lk n d).isSome then ty n d else ty n e := by
  unfold ty
  rw [lk_append]
  cases lk n d <;> rfl
theorem lk_map (f : T → T) (n : ByteArray) : ∀ d : List PR, lk n (d.map fun x => { x with t := f x.t }) = (lk n d).map fun x => { x with t := f x.t }
  | [] => rfl
  | x :: d => by
    rw [List.map_cons, lk_cons, lk_cons]
    by_cases h : x.n = n
    · rw [if_pos h, if_pos h]; rfl
    · rw [if_neg h, if_neg h]; exact lk_map f n d
theorem then_app (ls lu : List PR) : ∀ t, app (thenL ls lu) t = app lu (app ls t) := by
  intro t
  refine T.by_kids (P := fun t => app (thenL ls lu) t = app lu (app ls t)) (fun t H => ?_) t
  cases t with
  | var n =>
    rw [app_v, app_v, thenL, ty_append, lk_map]
    cases h : lk n ls with
    | none =>
      have e : ty n ls = .var n := by unfold ty; rw [h]; rfl
      rw [e]; rfl
    | some x =>
      have e : ty n ls = x.t := by unfold ty; rw [h]; rfl
      rw [e]
      unfold ty
      rw [lk_map, h]; rfl
  | con n l =>
    rw [app, app, app, apps_map, apps_map, apps_map, List.map_map]
    congr 1
    exact List.map_congr_left fun k hk => H k hk
  | fn a b => rw [app, app, app, H a (by simp [T.kids]), H b (by simp [T.kids])]
  | all n a => rw [app, app, app, H a (by simp [T.kids])]

theorem RowK.spare {g k : Nat} {l : List PR} {w : World} (h : RowK g k l w) {i : Nat} (hi : i < k) : ∀ j, j < 4 → (w.cell? ⟨g, 0 + i * 4 + j, none⟩).isSome = true ∧ w.frozen? ⟨g, 0 + i * 4 + j, none⟩ = false := by
  obtain ⟨x, y, z, u, h0, h1, h2, h3⟩ := h.cells hi
  intro j hj
  rw [Nat.zero_add]
  refine ⟨?_, h.row.free _⟩
  match j, hj with
  | 0, _ => rw [Nat.add_zero, h0]; rfl
  | 1, _ => rw [h1]; rfl
  | 2, _ => rw [h2]; rfl
  | 3, _ => rw [h3]; rfl
  | n + 4, hj => omega

theorem cellsP_get (d : List PR) (j : Nat) (hj : j < d.length * 4) : (cellsP d)[j]? = (encP (d.getD (j / 4) noP))[j % 4]? := by
  have := cellsP_at d (j / 4) (j % 4) (by omega) (by omega)
  rwa [show j / 4 * 4 + j % 4 = j by omega] at this
theorem enc_get {x : PR} {j : Nat} (hj : j < 4) : (encP x)[j]? = some (if j = 0 then .string x.n else if j = 1 then .int .i64 x.t.kind else if j = 2 then .string x.t.name else .slice x.a x.t.kids.length x.c) := by
  match j, hj with
  | 0, _ => rfl
  | 1, _ => rfl
  | 2, _ => rfl
  | 3, _ => rfl
  | n + 4, hj => omega
theorem row_cells {g : Nat} {l : List PR} {cs : Array Value} (h : ∀ i, i < l.length → cs[i * 4]? = some (.string (l.getD i noP).n) ∧ cs[i * 4 + 1]? = some (.int .i64 (l.getD i noP).t.kind) ∧ cs[i * 4 + 2]? = some (.string (l.getD i noP).t.name) ∧ cs[i * 4 + 3]? = some (.slice (l.getD i noP).a (l.getD i noP).t.kids.length (l.getD i noP).c)) (_ : g = g) (j : Nat) (hj : j < l.length * 4) : cs[j]? = (cellsP l)[j]? := by
  rw [cellsP_get l j hj, enc_get (by omega)]
  obtain ⟨a0, a1, a2, a3⟩ := h (j / 4) (by omega)
  have hc : j % 4 = 0 ∨ j % 4 = 1 ∨ j % 4 = 2 ∨ j % 4 = 3 := by omega
  rcases hc with e | e | e | e
  · rw [e, if_pos rfl, ← a0, show j = j / 4 * 4 by omega]; congr 1; omega
  · rw [e, if_neg (by decide), if_pos rfl, ← a1]; congr 1; omega
  · rw [e, if_neg (by decide), if_neg (by decide), if_pos rfl, ← a2]; congr 1; omega
  · rw [e, if_neg (by decide), if_neg (by decide), if_neg (by decide), ← a3]; congr 1; omega
theorem RowK.owns {g k base : Nat} {l : List PR} {w : World} (h : RowK g k l w) (hb : base ≤ g) (hk : k ≤ 1000000) : w.ownsRow base 119 4 (.slice (some ⟨g, 0, none⟩) l.length k) l.length (cellsP l) := by
  obtain ⟨cs, h1, h2, h3, h4⟩ := h
  refine ⟨cellsP_len l, .inr ⟨g, k, cs, rfl, hb, h1, h3, by unfold maxLen; omega, h2, ?_⟩⟩
  apply List.ext_getElem?
  intro j
  by_cases hj : j < l.length * 4
  · rw [List.getElem?_take_of_lt hj, Array.getElem?_toList, row_cells (g := g) h4 rfl j hj]
  · rw [List.getElem?_eq_none (by simp; omega), List.getElem?_eq_none (by rw [cellsP_len]; omega)]
theorem RowP.news {g : Nat} {l : List PR} {w : World} (h : RowP g l w) : ∀ j u, (cellsP l)[j]? = some u → w.cell? ((⟨g, 0, none⟩ : Addr).add j) = some u := by
  intro j u hu
  have hj : j < l.length * 4 := by have := (List.getElem?_eq_some_iff.1 hu).1; rwa [cellsP_len] at this
  have hadd : (⟨g, 0, none⟩ : Addr).add j = ⟨g, j, none⟩ := by unfold Addr.add; split <;> simp_all
  obtain ⟨cs, h1, _, h3⟩ := h
  rw [hadd, Lib.cell_of_heap h1, row_cells (g := g) h3 rfl j hj, hu]
theorem cellsP_one (l : List PR) : ∀ u ∈ cellsP l, u.oneCell' = true := by
  intro u hu
  obtain ⟨x, _, hx⟩ := List.mem_flatMap.1 hu
  exact encP_one x u hx
theorem cellsP_append (l m : List PR) : cellsP l ++ cellsP m = cellsP (l ++ m) := by simp [cellsP]
theorem row_of_owns {W : World} {base g cap : Nat} {d : List PR} (h : W.ownsRow base 119 4 (.slice (some ⟨g, 0, none⟩) d.length cap) d.length (cellsP d)) : RowP g d W := by
  rcases h.2 with ⟨e, _⟩ | ⟨g', cap', cur, e, _, hg, hc, hm, hcs, htk⟩
  · cases e
  · cases e
    refine ⟨cur, hg, by rw [hcs]; exact Nat.mul_le_mul_right 4 hc, fun i hi => ?_⟩
    have cell : ∀ j, j < 4 → cur[i * 4 + j]? = (encP (d.getD i noP))[j]? := fun j hj => by
      have hlt : i * 4 + j < d.length * 4 := by omega
      rw [← cellsP_at d i j hi hj, ← htk, List.getElem?_take, if_pos hlt, Array.getElem?_toList]
    exact ⟨(cell 0 (by omega)).trans rfl, (cell 1 (by omega)).trans rfl, (cell 2 (by omega)).trans rfl, (cell 3 (by omega)).trans rfl⟩
theorem SubAt.setS {v x : Value} {d : List PR} {w : World} {b : Nat} {cs : Array Value} {fz : Nat × Nat} (h : SubAt v d w) (hb : w.heap[b]? = some (.cells cs 33 fz)) : SubAt v d (w.setCell ⟨b, 0, none⟩ x) := by
  obtain ⟨⟨h1, h2⟩, h3⟩ := h
  refine ⟨⟨?_, h2⟩, h3.keep ?_⟩
  · rcases h1 with h1 | ⟨g, cap, e, hc, hr⟩
    · exact .inl h1
    · refine .inr ⟨g, cap, e, hc, hr.same (Below.heap_setCell _ ⟨b, 0, none⟩ _ _ ?_)⟩
      show g ≠ b
      rintro rfl
      obtain ⟨cs', hr, _⟩ := hr
      rw [hb] at hr
      simp at hr
  · intro k cs' fz' hk
    refine (Below.heap_setCell _ ⟨b, 0, none⟩ _ k ?_).trans hk
    show k ≠ b
    rintro rfl
    rw [hb] at hk
    simp at hk
theorem Made.copy {d d' l : List PR} (h : Made d l) (k : Copy d d') : Made d' l :=
  ⟨fun x hx => by obtain ⟨y, hy, e1, e2⟩ := h.sub x hx; obtain ⟨z, hz, f1, f2⟩ := k.mem y hy; exact ⟨z, hz, e1.trans f1, e2.trans f2⟩, by rw [← k.1]; exact h.len, fun n => by rw [h.same n]; unfold ty; rw [k.lk]⟩
theorem copy_then {q ls lu : List PR} (h1 : q.length = ls.length) (h2 : ∀ j, j < ls.length → (q.getD j noP).n = (ls.getD j noP).n ∧ (q.getD j noP).t = app lu (ls.getD j noP).t) : Copy (q ++ lu) (thenL ls lu) := by
  refine ⟨by simp [thenL, h1], fun i hi => ?_⟩
  unfold thenL
  by_cases hlt : i < ls.length
  · have e1 : (q ++ lu).getD i noP = q.getD i noP := by simp [List.getD, List.getElem?_append_left (show i < q.length by omega)]
    have e2 : (ls.map (fun x : PR => { x with t := app lu x.t }) ++ lu).getD i noP = { ls.getD i noP with t := app lu (ls.getD i noP).t } := by
      simp [List.getD, List.getElem?_append_left (show i < (ls.map (fun x : PR => { x with t := app lu x.t })).length by simpa using hlt), hlt]
    rw [e1, e2]; exact h2 i hlt
  · have e1 : (q ++ lu).getD i noP = lu.getD (i - ls.length) noP := by simp [List.getD, List.getElem?_append_right (show q.length ≤ i by omega), h1]
    have e2 : (ls.map (fun x : PR => { x with t := app lu x.t }) ++ lu).getD i noP = lu.getD (i - ls.length) noP := by
      simp [List.getD, List.getElem?_append_right (show (ls.map (fun x : PR => { x with t := app lu x.t })).length ≤ i by simp; omega)]
    rw [e1, e2]; exact ⟨rfl, rfl⟩

end Go.Proofs.YtdcfemojkdoakaaDoor
/- Two types as one: what is found as a list of pairs. -/
namespace Go.Proofs.YtdcfemojkdoakaaDoor

theorem app_sub (d : List PR) : ∀ t, app d t = sub (fun n => ty n d) t := by
  refine T.kidsInd fun t ih => ?_
  cases hv : t.isV with
  | true => rw [isV_var hv]; rfl
  | false =>
    have hn : ∀ n, t ≠ .var n := fun n e => by rw [e] at hv; cases hv
    obtain ⟨a1, a2, a3⟩ := app_parts d t hn
    obtain ⟨b1, b2, b3, _⟩ := sub_parts (fun n => ty n d) t hv
    refine T.ext3 (a1.trans b1.symm) (a2.trans b2.symm) ?_
    rw [a3, b3]
    exact List.map_congr_left ih
theorem ty_none {n : ByteArray} {d : List PR} (h : lk n d = none) : ty n d = .var n := by unfold ty; rw [h]; rfl
theorem ty_some {n : ByteArray} {d : List PR} {x : PR} (h : lk n d = some x) : ty n d = x.t := by unfold ty; rw [h]; rfl
theorem ty_one (n : ByteArray) (p : PR) : ty n [p] = one p.n p.t n := by
  by_cases h : n = p.n
  · subst h
    rw [one_at]
    exact ty_some (by rw [lk_cons, if_pos rfl])
  · rw [one_ne _ h]
    exact ty_none (by rw [lk_cons, if_neg (fun e => h e.symm)]; rfl)
/-- The document's Then. -/
noncomputable def thenR (s u : List PR) : List PR := (s.map fun x => { x with t := app u x.t }) ++ u.filter fun y => (lk y.n s).isNone
theorem lk_filter {n : ByteArray} {s : List PR} (h : lk n s = none) : ∀ u : List PR, lk n (u.filter fun y => (lk y.n s).isNone) = lk n u
  | [] => rfl
  | y :: u => by
    rw [List.filter_cons]
    by_cases e : y.n = n
    · rw [if_pos (by rw [e, h]; rfl), lk_cons, lk_cons, if_pos e, if_pos e]
    · rw [lk_cons n y u, if_neg e]
      split
      · rw [lk_cons, if_neg e]; exact lk_filter h u
      · exact lk_filter h u
theorem thenR_ty (s u : List PR) (n : ByteArray) : ty n (thenR s u) = app u (ty n s) := by
  unfold thenR
  rw [ty_append, lk_map (app u)]
  cases h : lk n s with
  | some x =>
    rw [if_pos (by rfl), ty_some h]
    exact ty_some (x := { x with t := app u x.t }) (by rw [lk_map (app u), h]; rfl)
  | none =>
    rw [if_neg (by simp), ty_none h]
    show ty n _ = ty n u
    unfold ty; rw [lk_filter h]
/-- Pairs that say what was found. -/
def IsSg (d : List PR) (σ : Sg) : Prop := ∀ n, ty n d = σ n
theorem IsSg.app {d : List PR} {σ : Sg} (h : IsSg d σ) (t : T) : app d t = sub σ t := by rw [app_sub]; exact sub_ext t fun n _ => h n
theorem isSg_nil : IsSg [] T.var := fun _ => rfl
theorem IsSg.bind {d e : List PR} {σ : Sg} {p : PR} (h : IsSg d σ) (he : ∀ n, ty n e = Go.Proofs.YtdcfemojkdoakaaDoor.app [p] (ty n d)) : IsSg e (fun n => sub (one p.n p.t) (σ n)) := by
  intro n
  rw [he, app_sub, h n]
  exact sub_ext _ fun m _ => ty_one m p
end Go.Proofs.YtdcfemojkdoakaaDoor
/- types.Size, types.Has; the document's Size. -/
namespace Go.Proofs.YtdcfemojkdoakaaDoor
open Go.RowKit
attribute [local go_sem] Oper.semAt_some

end Go.Proofs.YtdcfemojkdoakaaDoor
/- types.Has; the document's Size; texts in rows: Place, Has, SameTexts. -/
namespace Go.Proofs.YtdcfemojkdoakaaDoor
open Go.RowKit
attribute [local go_sem] Oper.semAt_some

/-- Whether a name is free in a type. -/
noncomputable def hasN (m : ByteArray) (t : T) (r : Bool) : Bool := (eqB t.kind 1 && eqB t.name m) || (!(eqB t.kind 4 && eqB t.name m) && r)
mutual
noncomputable def hasT (m : ByteArray) : T → Bool
  | .var n => eqB n m
  | .con _ l => hasTs m l
  | .fn a b => hasT m a || hasT m b
  | .all n a => !eqB n m && hasT m a
noncomputable def hasTs (m : ByteArray) : List T → Bool
  | [] => false
  | a :: l => hasT m a || hasTs m l
end
theorem hasT_eq (m : ByteArray) (t : T) : hasT m t = hasN m t (hasTs m t.kids) := by
  have e1 : ∀ (a b : Int), eqB a b = decide (a = b) := fun a b => by simp [eqB]
  cases t <;> simp [hasT, hasN, T.kind, T.name, T.kids, hasTs, e1]
theorem hasTs_take (m : ByteArray) (l : List T) (i : Nat) (h : i < l.length) : hasTs m (l.drop i) = (hasT m l[i] || hasTs m (l.drop (i + 1))) := by
  rw [List.drop_eq_getElem_cons h, hasTs]
open Classical in
mutual
theorem fv_mem (t : T) (bd out : List ByteArray) (n : ByteArray) : n ∈ fv bd out t ↔ n ∈ out ∨ (¬ n ∈ bd ∧ hasT n t = true) := by
  cases t with
  | var x =>
    rw [fv, hasT, eqB_iff]
    by_cases h : x ∈ bd ∨ x ∈ out
    · rw [if_pos h]
      constructor
      · exact .inl
      · rintro (h1 | ⟨h1, rfl⟩)
        · exact h1
        · exact h.resolve_left h1
    · rw [if_neg h]
      simp only [List.mem_append, List.mem_singleton]
      constructor
      · rintro (h1 | rfl)
        · exact .inl h1
        · exact .inr ⟨fun e => h (.inl e), rfl⟩
      · rintro (h1 | ⟨_, rfl⟩)
        · exact .inl h1
        · exact .inr rfl
  | con x l => rw [fv, hasT]; exact fvs_mem l bd out n
  | fn a b =>
    rw [fv, hasT, fv_mem b, fv_mem a, Bool.or_eq_true]
    constructor
    · rintro ((h | ⟨h1, h2⟩) | ⟨h1, h2⟩)
      · exact .inl h
      · exact .inr ⟨h1, .inl h2⟩
      · exact .inr ⟨h1, .inr h2⟩
    · rintro (h | ⟨h1, h2 | h2⟩)
      · exact .inl (.inl h)
      · exact .inl (.inr ⟨h1, h2⟩)
      · exact .inr ⟨h1, h2⟩
  | all x a =>
    rw [fv, hasT, fv_mem a, Bool.and_eq_true, Bool.not_eq_true']
    have : eqB x n = false ↔ ¬ n = x := by
      constructor
      · rintro h rfl; rw [eqB_true rfl] at h; cases h
      · intro h; exact eqB_false fun e => h e.symm
    rw [this, List.mem_cons]
    constructor
    · rintro (h | ⟨h1, h2⟩)
      · exact .inl h
      · exact .inr ⟨fun e => h1 (.inr e), fun e => h1 (.inl e), h2⟩
    · rintro (h | ⟨h1, h2, h3⟩)
      · exact .inl h
      · exact .inr ⟨fun e => e.elim h2 h1, h3⟩
theorem fvs_mem (l : List T) (bd out : List ByteArray) (n : ByteArray) : n ∈ fvs bd out l ↔ n ∈ out ∨ (¬ n ∈ bd ∧ hasTs n l = true) := by
  cases l with
  | nil => simp [fvs, hasTs]
  | cons a l =>
    rw [fvs, hasTs, fvs_mem l, fv_mem a, Bool.or_eq_true]
    constructor
    · rintro ((h | ⟨h1, h2⟩) | ⟨h1, h2⟩)
      · exact .inl h
      · exact .inr ⟨h1, .inl h2⟩
      · exact .inr ⟨h1, .inr h2⟩
    · rintro (h | ⟨h1, h2 | h2⟩)
      · exact .inl (.inl h)
      · exact .inl (.inr ⟨h1, h2⟩)
      · exact .inr ⟨h1, h2⟩
end
mutual
theorem has_good (t : T) (h : T.Good t) (n : ByteArray) (hn : ¬ n.data.toList ∈ T.vnames) : hasT n t = false := by
  cases t with
  | var x =>
    rw [hasT]
    exact eqB_false fun e => hn (by rw [T.Good] at h; rw [← e]; exact h)
  | con x l => rw [T.Good] at h; rw [hasT]; exact hass_good l h.2 n hn
  | fn a b => rw [T.Good] at h; rw [hasT, has_good a h.1 n hn, has_good b h.2 n hn]; rfl
  | all x a => rw [T.Good] at h; exact h.elim
theorem hass_good (l : List T) (h : T.Goods l) (n : ByteArray) (hn : ¬ n.data.toList ∈ T.vnames) : hasTs n l = false := by
  cases l with
  | nil => rw [hasTs]
  | cons a l => rw [T.Goods] at h; rw [hasTs, has_good a h.1 n hn, hass_good l h.2 n hn]; rfl
end

end Go.Proofs.YtdcfemojkdoakaaDoor
/- Two types as one: of the types that the statements make. -/
namespace Go.Proofs.YtdcfemojkdoakaaDoor

theorem br_ge2 (b : Bool) (s : List UInt8) : s.length ≤ (T.br b s).length := by
  unfold T.br; split <;> simp; omega
theorem vname_len {x : List UInt8} (h : x ∈ T.vnames) : 1 ≤ x.length := by
  simp [T.vnames] at h; rcases h with rfl | rfl | rfl <;> simp
theorem cname_len {x : List UInt8} (h : x ∈ T.cnames) : 1 ≤ x.length := by
  simp [T.cnames] at h; rcases h with rfl | rfl | rfl | rfl <;> simp
mutual
theorem tsize2_text (t : T) (h : T.Good t) : 2 * tsize t ≤ (T.text t).length + 1 := by
  cases t with
  | var n =>
    simp only [T.Good] at h
    have := vname_len h
    simp only [tsize, T.text]; omega
  | con n l =>
    simp only [T.Good] at h
    have h1 := cname_len h.1
    have h2 := tsizes2_texts l h.2
    simp only [tsize, T.text, List.length_append]; omega
  | fn a b =>
    simp only [T.Good] at h
    have h1 := tsize2_text a h.1
    have h2 := tsize2_text b h.2
    have h3 := br_ge2 a.arrow (T.text a)
    simp only [tsize, T.text, List.length_append, List.length_cons, List.length_nil]; omega
  | all n a => simp only [T.Good] at h
theorem tsizes2_texts (l : List T) (h : T.Goods l) : 2 * tsizes l ≤ (T.texts l).length := by
  cases l with
  | nil => simp [tsizes]
  | cons a r =>
    simp only [T.Goods] at h
    have h1 := tsize2_text a h.1
    have h2 := tsizes2_texts r h.2
    have h3 := br_ge2 a.wide (T.text a)
    simp only [tsizes, T.texts, List.length_append, List.length_cons, List.length_nil]; omega
end
theorem goods_mem {k : T} : ∀ {l : List T}, T.Goods l → k ∈ l → T.Good k
  | [], _, h => by cases h
  | a :: l, h, hk => by
    simp only [T.Goods] at h
    rcases List.mem_cons.1 hk with rfl | hk
    · exact h.1
    · exact goods_mem h.2 hk
theorem good_kid {t k : T} (h : T.Good t) (hk : k ∈ t.kids) : T.Good k := by
  cases t with
  | var n => cases hk
  | con n l => simp only [T.Good] at h; exact goods_mem h.2 hk
  | fn a b =>
    simp only [T.Good] at h
    simp [T.kids] at hk
    rcases hk with rfl | rfl
    · exact h.1
    · exact h.2
  | all n a => simp only [T.Good] at h
/-- The three variables of types that are made. -/
def V3 : List ByteArray := [⟨#[97]⟩, ⟨#[98]⟩, ⟨#[99]⟩]
theorem vname_in {n : ByteArray} (h : n.data.toList ∈ T.vnames) : n ∈ V3 := by
  have e : ∀ l : List UInt8, n.data.toList = l → n = ⟨l.toArray⟩ := fun l e => by
    cases n with | mk d => cases d; simp at e; rw [e]
  simp [T.vnames] at h
  rcases h with h | h | h
  · rw [e _ h]; simp [V3]
  · rw [e _ h]; simp [V3]
  · rw [e _ h]; simp [V3]
theorem good_in : ∀ t, T.Good t → TIn V3 t := by
  refine T.kidsInd fun t ih h x hx => ?_
  cases hv : t.isV with
  | true =>
    rw [isV_var hv] at h hx
    simp [vs] at hx
    subst hx
    exact vname_in (by simpa [T.Good] using h)
  | false =>
    obtain ⟨k, hk, hx⟩ := (vs_kids hv).1 hx
    exact ih k hk (good_kid h hk) x hx
/-- No variable is bound. -/
def NoAll (t : T) : Prop := ∀ x, hasT x t = true ↔ x ∈ vs t
theorem hasTs_any (x : ByteArray) : ∀ l : List T, hasTs x l = true ↔ ∃ k ∈ l, hasT x k = true
  | [] => by simp [hasTs]
  | a :: l => by rw [hasTs, Bool.or_eq_true, hasTs_any x l]; simp
theorem noAll_of {t : T} (h4 : t.kind ≠ 4) (hk : ∀ k ∈ t.kids, NoAll k) : NoAll t := by
  intro x
  cases t with
  | var n => rw [hasT, eqB_iff]; simp [vs, eq_comm]
  | con n l =>
    rw [hasT, hasTs_any, vs_kids rfl]
    exact ⟨fun ⟨k, h1, h2⟩ => ⟨k, h1, (hk k h1 x).1 h2⟩, fun ⟨k, h1, h2⟩ => ⟨k, h1, (hk k h1 x).2 h2⟩⟩
  | fn a b =>
    rw [hasT, Bool.or_eq_true, hk a (by simp [T.kids]) x, hk b (by simp [T.kids]) x]
    simp [vs]
  | all n a => exact absurd rfl h4
/-- No kind but the three, anywhere. -/
inductive Plain3 : T → Prop
  | mk (t : T) : t.kind ≠ 4 → (∀ k ∈ t.kids, Plain3 k) → Plain3 t
theorem Plain3.no {t : T} (h : Plain3 t) : NoAll t := by
  induction h with
  | mk t h _ ih => exact noAll_of h ih
theorem Plain3.kid {t k : T} (h : Plain3 t) (hk : k ∈ t.kids) : Plain3 k := by cases h with | mk _ _ h => exact h k hk
theorem Plain3.four {t : T} (h : Plain3 t) : t.kind ≠ 4 := by cases h; assumption
theorem good_plain : ∀ t, T.Good t → Plain3 t := by
  refine T.kidsInd fun t ih h => .mk t ?_ fun k hk => ih k hk (good_kid h hk)
  cases t with
  | all n a => simp only [T.Good] at h
  | _ => simp [T.kind]
theorem plain_sub {σ : Sg} : ∀ t, Plain3 t → (∀ y ∈ vs t, Plain3 (σ y)) → Plain3 (sub σ t) := by
  refine T.kidsInd fun t ih h hs => ?_
  cases hv : t.isV with
  | true =>
    rw [isV_var hv] at hs ⊢
    exact hs _ (by simp [vs])
  | false =>
    obtain ⟨a1, _, a3, _⟩ := sub_parts σ t hv
    refine .mk _ (by rw [a1]; exact h.four) fun k hk => ?_
    rw [a3] at hk
    obtain ⟨k0, hk0, rfl⟩ := List.mem_map.1 hk
    exact ih k0 hk0 (h.kid hk0) fun y hy => hs y ((vs_kids hv).2 ⟨k0, hk0, hy⟩)
theorem from_plain {O : T → Prop} {σ : Sg} (hF : FromU O σ) (hP : ∀ t, O t → Plain3 t) : ∀ n x, tsize (σ x) ≤ n → Plain3 (σ x) := by
  intro n
  induction n with
  | zero => intro x h; have := tsize_pos (σ x); omega
  | succ n ih =>
    intro x hx
    rcases hF x with hv | ⟨t, ht, hvt, et⟩
    · rw [isV_var hv]; exact .mk _ (by simp [T.kind]) fun k hk => by cases hk
    · rw [et]
      refine plain_sub t (hP t ht) fun y hy => ih y ?_
      have hlt : tsize (σ y) < tsize (σ x) := by rw [et]; exact size_sub_lt hvt hy
      omega
theorem size_sub_ge {σ : Sg} : ∀ t, tsize t ≤ tsize (sub σ t) := by
  refine T.kidsInd fun t ih => ?_
  cases hv : t.isV with
  | true => rw [isV_var hv]; exact tsize_pos _
  | false =>
    obtain ⟨_, _, a3, _⟩ := sub_parts σ t hv
    rw [tsize_eq t, tsize_eq (sub σ t), a3]
    have key : ∀ l : List T, (∀ k ∈ l, tsize k ≤ tsize (sub σ k)) → tsizes l ≤ tsizes (l.map (sub σ)) := by
      intro l
      induction l with
      | nil => intro _; simp [tsizes]
      | cons a l ih2 =>
        intro hl
        have h1 := hl a (by simp)
        have h2 := ih2 fun k hk => hl k (List.mem_cons_of_mem _ hk)
        rw [List.map_cons, tsizes, tsizes]; omega
    have := key t.kids ih
    omega
/-- Types that a statement starts with: closed under parts; of so many variables; never too great. -/
structure USet where
  V : List ByteArray
  O : T → Prop
  kid : ∀ t, O t → ∀ k ∈ t.kids, O k
  tin : ∀ t, O t → TIn V t
  var : ∀ x ∈ V, O (.var x)
  plain : ∀ t, O t → Plain3 t
  G : Sg → Prop
  P : T → T → Prop
  start : G T.var
  kids : ∀ a b, P a b → a.isV = false → b.isV = false → a.kids.length = b.kids.length → ∀ i (h1 : i < a.kids.length) (h2 : i < b.kids.length), P a.kids[i] b.kids[i]
  «at» : ∀ σ a b, G σ → P a b → P (sub σ a) (sub σ b)
  fin : ∀ f σ a b τ, Idem σ → G σ → P a b → uni f σ a b = some (.ok τ) → G τ
  le : ∀ σ, FromU O σ → G σ → ∀ t, O t → tsize (sub σ t) ≤ 900000000
  nm : ∀ x ∈ V, x.size ≤ 1000
  sz : ∀ t, O t → tsize t ≤ 400000
/-- Types of these variables, of at most so many parts. -/
def usetV (V : List ByteArray) (N : Nat) (h1 : 1 ≤ N) (h : N * N ^ V.length ≤ 900000000) (hn : ∀ x ∈ V, x.size ≤ 1000) (hN : N ≤ 400000) : USet where
  V := V
  O := fun t => TIn V t ∧ Plain3 t ∧ tsize t ≤ N
  kid := fun t ht k hk => ⟨fun x hx => by
      cases hv : t.isV with
      | true => rw [isV_var hv] at hk; cases hk
      | false => exact ht.1.kid hv hk x hx, ht.2.1.kid hk, by have := tsize_kid hk; have := ht.2.2; omega⟩
  tin := fun t ht => ht.1
  var := fun x hx => ⟨fun y hy => by simp [vs] at hy; exact hy ▸ hx, .mk _ (by simp [T.kind]) (fun k hk => by cases hk), by simpa [tsize] using h1⟩
  plain := fun t ht => ht.2.1
  G := fun _ => True
  P := fun _ _ => True
  start := trivial
  kids := fun _ _ _ _ _ _ _ _ _ => trivial
  «at» := fun _ _ _ _ _ => trivial
  fin := fun _ _ _ _ _ _ _ _ _ => trivial
  le := fun σ hF _ t ht => by
    have h0 : ∀ x ∈ V, tsize (σ x) ≤ N ^ V.length := fun x hx => from_le (V := V) (N := N) hF (fun t ht _ => ht.1) (fun t ht => ht.2.2) h1 hx
    have h2 := size_subs (σ := σ) (M := N ^ V.length) (Nat.one_le_pow _ _ h1) t fun y hy => h0 y (ht.1 y hy)
    have h3 := Nat.mul_le_mul_right (N ^ V.length) ht.2.2
    omega
  nm := hn
  sz := fun t ht => Nat.le_trans ht.2.2 hN
theorem v3_small : ∀ x ∈ V3, x.size ≤ 1000 := by
  intro x hx
  simp [V3] at hx
  rcases hx with rfl | rfl | rfl <;> decide
def uset3 : USet := usetV V3 107 (by decide) (by decide) v3_small (by decide)
theorem good_o3 {t : T} (h : T.Good t) (hs : tsize t ≤ 107) : uset3.O t := ⟨good_in t h, good_plain t h, hs⟩
/-- What was found so far, of types that a statement makes. -/
structure UInv (S : USet) (σ : Sg) : Prop where
  idem : Idem σ
  src : FromU S.O σ
  vin : VIn S.V σ
  good : S.G σ
theorem uinv_var (S : USet) : UInv S T.var := ⟨idem_var, from_var _, vin_var _, S.start⟩
/-- A type within what was made, with what was found so far in it. -/
def UArg (S : USet) (σ : Sg) (a : T) : Prop := InstU S.O σ a
theorem UInv.var_le {S : USet} {σ : Sg} (h : UInv S σ) {x : ByteArray} (hx : x ∈ S.V) : tsize (σ x) ≤ 900000000 := S.le σ h.src h.good (.var x) (S.var x hx)
theorem UInv.plain {S : USet} {σ : Sg} (h : UInv S σ) {t : T} (ht : S.O t) : Plain3 (sub σ t) :=
  plain_sub t (S.plain t ht) fun y _ => from_plain h.src S.plain _ y (Nat.le_refl _)
theorem UArg.le {S : USet} {σ : Sg} {a : T} (h : UArg S σ a) (hi : UInv S σ) : tsize (sub σ a) ≤ 900000000 ∧ tsize a ≤ 900000000 := by
  obtain ⟨o, ho, e⟩ := h
  have h1 := S.le σ hi.src hi.good o ho
  rw [← e] at h1
  exact ⟨h1, Nat.le_trans (size_sub_ge a) h1⟩
theorem UArg.plain {S : USet} {σ : Sg} {a : T} (h : UArg S σ a) (hi : UInv S σ) : Plain3 (sub σ a) := by
  obtain ⟨o, ho, e⟩ := h
  rw [e]; exact hi.plain ho
theorem UArg.tin {S : USet} {σ : Sg} {a : T} (h : UArg S σ a) (hi : UInv S σ) : TIn S.V (sub σ a) := by
  obtain ⟨o, ho, e⟩ := h
  rw [e]; exact hi.vin.sub (S.tin o ho)
theorem UArg.ext {S : USet} {σ τ : Sg} {a : T} (h : UArg S σ a) (hi : UInv S σ) (he : ExtU σ τ) : UArg S τ a := InstU.ext h he hi.idem
theorem UArg.kid {S : USet} {σ : Sg} {a k : T} (h : UArg S σ a) (hi : UInv S σ) (hv : (sub σ a).isV = false) (hk : k ∈ (sub σ a).kids) : UArg S σ k := InstU.kid S.kid h hi.src hi.idem hv hk
theorem UArg.of {S : USet} {σ : Sg} {a : T} (h : S.O a) : UArg S σ a := ⟨a, h, rfl⟩
/-- Pairs that say what was found, none twice, of these variables. -/
structure PInv (S : USet) (d : List PR) (σ : Sg) : Prop where
  is : IsSg d σ
  each : ∀ x ∈ d, x.n ∈ S.V ∧ x.t = σ x.n
  few : d.length + uns S.V σ ≤ S.V.length
theorem pinv_nil (S : USet) : PInv S [] T.var := ⟨isSg_nil, (fun _ h => nomatch h), by have := List.length_filter_le (fun x => @decide (T.var x = .var x) (Classical.propDecidable _)) S.V; simpa [uns] using this⟩
theorem PInv.len {S : USet} {d : List PR} {σ : Sg} (h : PInv S d σ) : d.length ≤ S.V.length := by have := h.few; omega
theorem PInv.sized {S : USet} {d : List PR} {σ : Sg} (h : PInv S d σ) (hi : UInv S σ) : ∀ x ∈ d, tsize x.t ≤ 900000000 := fun x hx => by
  rw [(h.each x hx).2]; exact hi.var_le (h.each x hx).1
/-- One more pair, as the document's Then and as the program's make it. -/
theorem PInv.bind {S : USet} {d q : List PR} {σ τ : Sg} {p : PR} (h : PInv S d σ) (hb : Binds σ p.n p.t τ) (hx : p.n ∈ S.V) (hq : ∀ y ∈ q, (∃ x ∈ d, y.n = x.n ∧ y.t = app [p] x.t) ∨ y.n = p.n ∧ y.t = p.t) (hl : q.length ≤ d.length + 1) (ht : ∀ n, ty n q = app [p] (ty n d)) : PInv S q τ := by
  have ha : ∀ t, app [p] t = sub (one p.n p.t) t := fun t => by rw [app_sub]; exact sub_ext t fun n _ => ty_one n p
  refine ⟨fun n => ?_, fun y hy => ?_, ?_⟩
  · rw [ht, h.is n, ha, hb.new]
  · rcases hq y hy with ⟨x, hx, e1, e2⟩ | ⟨e1, e2⟩
    · rw [e1, e2, (h.each x hx).2, ha, hb.new]
      exact ⟨(h.each x hx).1, rfl⟩
    · rw [e1, e2, hb.new]
      refine ⟨hx, ?_⟩
      show p.t = sub (one p.n p.t) (σ p.n)
      rw [hb.free]
      exact (one_at p.n p.t).symm
  · have h1 := hb.fewer (V := S.V) hx
    have h2 := h.few
    omega
end Go.Proofs.YtdcfemojkdoakaaDoor
/- The document's get: the first of a name. -/
namespace Go.Proofs.YtdcfemojkdoakaaDoor
open Go.RowKit Go.Sort Go.Lib
attribute [local go_sem] Oper.semAt_some

theorem RowG.lt {T : TypeId} {g : Nat} {l : List PR} {w : World} (h : RowG T g l w) : g < w.heap.size := by
  obtain ⟨cs, h1, _⟩ := h; exact (Array.getElem?_eq_some_iff.1 h1).1
theorem RowG.same {T : TypeId} {g : Nat} {l : List PR} {w w' : World} (h : RowG T g l w) (k : w'.heap[g]? = w.heap[g]?) : RowG T g l w' := by
  obtain ⟨cs, h1, h2⟩ := h; exact ⟨cs, k.trans h1, h2⟩
theorem RowG.below {T : TypeId} {g : Nat} {l : List PR} {w w' : World} (h : RowG T g l w) (k : Below w.heap.size w w') : RowG T g l w' := h.same (k.block g h.lt)
theorem RowG.cells {T : TypeId} {g : Nat} {l : List PR} {w : World} (h : RowG T g l w) {i : Nat} (hi : i < l.length) :
    w.cell? ⟨g, i * 4, none⟩ = some (.string (l.getD i noP).n) ∧ w.cell? ⟨g, i * 4 + 1, none⟩ = some (.int .i64 (l.getD i noP).t.kind) ∧ w.cell? ⟨g, i * 4 + 2, none⟩ = some (.string (l.getD i noP).t.name) ∧ w.cell? ⟨g, i * 4 + 3, none⟩ = some (.slice (l.getD i noP).a (l.getD i noP).t.kids.length (l.getD i noP).c) := by
  obtain ⟨cs, h1, _, h3⟩ := h
  rw [Lib.cell_of_heap h1, Lib.cell_of_heap h1, Lib.cell_of_heap h1, Lib.cell_of_heap h1]
  exact h3 i hi
theorem GivenG.shape {T : TypeId} {v : Value} {d : List PR} {w : World} (h : GivenG T v d w) : ∃ a c, v = .slice a d.length c ∧ ∀ i, i < d.length → ∃ g, a = some ⟨g, 0, none⟩ ∧ RowG T g d w := by
  rcases h with ⟨rfl, rfl⟩ | ⟨_, g, cap, rfl, hr⟩
  · exact ⟨none, 0, rfl, fun i hi => absurd hi (Nat.not_lt_zero _)⟩
  · exact ⟨_, cap, rfl, fun i _ => ⟨g, rfl, hr⟩⟩
theorem GivenG.below {T : TypeId} {v : Value} {d : List PR} {w w' : World} (h : GivenG T v d w) (hb : Below w.heap.size w w') : GivenG T v d w' := by
  rcases h with h | ⟨h0, g, cap, e, hr⟩
  · exact .inl h
  · exact .inr ⟨h0, g, cap, e, hr.below hb⟩
theorem lk_ahead (n : ByteArray) : ∀ (l : List PR) (i : Nat), i < l.length → (∀ j, j < i → (l.getD j noP).n ≠ n) → (l.getD i noP).n = n → lk n l = some (l.getD i noP)
  | [], i, hi, _, _ => absurd hi (Nat.not_lt_zero _)
  | x :: l, 0, _, _, h => by rw [lk_cons]; exact if_pos h
  | x :: l, i + 1, hi, ha, h => by
    rw [lk_cons, if_neg (show ¬ x.n = n from ha 0 (Nat.succ_pos _))]
    exact lk_ahead n l i (by simpa using hi) (fun j hj => ha (j + 1) (by omega)) h
theorem lk_none (n : ByteArray) : ∀ (l : List PR), (∀ j, j < l.length → (l.getD j noP).n ≠ n) → lk n l = none
  | [], _ => rfl
  | x :: l, ha => by
    rw [lk_cons, if_neg (show ¬ x.n = n from ha 0 (Nat.succ_pos _))]
    exact lk_none n l (fun j hj => ha (j + 1) (by simpa using hj))

theorem next_none {d : List PR} {n : ByteArray} {i : Nat} (hA : ∀ j, j < i → (d.getD j noP).n ≠ n) (h : (d.getD i noP).n ≠ n) : ∀ j, j < i + 1 → (d.getD j noP).n ≠ n := by
  intro j hj
  by_cases e : j = i
  · rw [e]; exact h
  · exact hA j (by omega)
set_option maxRecDepth 100000 in
set_option maxHeartbeats 2000000 in
theorem rget_any (v : Value) (d : List PR) (n : ByteArray) (w : World) (h : GivenG 73 v d w) (hl : d.length < 1152921504606846976) :
    Calls Tryd.prog 46 #[v, .string n] w fun e w' => e = .returned (.tuple #[fv' (lk n d), .bool (lk n d).isSome]) ∧ Below w.heap.size w w' := by
  obtain ⟨a, c, rfl, hr⟩ := h.shape
  have HR := Lib.hid hr
  have HB0 := Lib.hid (fun o => (Below.refl _ w).alloc (Nat.le_refl _) o)
  clear h hr
  obtain ⟨res, hres⟩ : ∃ r, lk n d = r := ⟨_, rfl⟩
  have HRes := Lib.hid hres
  rw [hres]
  clear hres
  go_enter Tryd.func46, Tryd.ntmps46
  go_wp2
  go_loopw [6] (fun vi wr => ∃ i : Nat, i ≤ d.length ∧ vi = .int .i64 i ∧ Hid (∀ j, j < i → (d.getD j noP).n ≠ n) ∧ Hid (Below w.heap.size w wr) ∧ Hid (wr.heap[w.heap.size]? = some (.cells #[.int .i64 0, .string ⟨#[]⟩, .slice none 0 0] 29 (0, 0)))) (fun vi _ => d.length - (intOf vi).toNat)
  case atStart => exact ⟨0, Nat.zero_le _, rfl, Lib.hid (fun j hj => absurd hj (Nat.not_lt_zero _)), Lib.hid (HB0.out _), Lib.hid (alloc_new w _)⟩
  case round =>
    obtain ⟨i, hi, rfl, hA, hB, hZ⟩ := hrel
    obtain ⟨z0, z1, z2⟩ := three_cells hZ.out
    have u0 := Lib.frozen_of_heap hZ.out 0
    have u1 := Lib.frozen_of_heap hZ.out 1
    have u2 := Lib.frozen_of_heap hZ.out 2
    have lz := (Array.getElem?_eq_some_iff.1 hZ.out).1
    by_cases hlt : i < d.length
    · obtain ⟨g, rfl, hr⟩ := HR.out i hlt
      obtain ⟨x0, x1, x2, x3⟩ := (hr.below hB.out).cells hlt
      have hiz : (i : Int) < (d.length : Int) := by omega
      have HN := Lib.hid (fun h => lk_ahead n d i hlt hA.out h)
      have HE := Lib.hid (next_none (d := d) (n := n) hA.out)
      clear hr HR
      generalize d.getD i noP = x at x0 x1 x2 x3 HN HE
      by_cases hq : x.n = n
      · have hqB : (x.n.toList == n.toList) = true := by rw [bytes_beq]; exact eqB_true hq
        have hs : res = some x := by rw [← HRes.out]; exact HN.out hq
        subst hs
        clear HRes HN HE hq
        go_wp2
        have hs3 := set3_block hZ.out (.int .i64 x.t.kind) (.string x.t.name) (.slice x.a x.t.kids.length x.c)
        have hc := three_cells hs3
        refine bodyPost_ret (v := .tuple #[.agg #[.int .i64 x.t.kind, .string x.t.name, .slice x.a x.t.kids.length x.c], .bool true]) (by simp [results, Tryd.results46, go_sem, hc.1, hc.2.1, hc.2.2]) rfl ⟨rfl, below_set3 hB.out (Nat.le_refl _) _ _ _⟩
      · have hqB : (x.n.toList == n.toList) = false := by rw [bytes_beq]; exact eqB_false hq
        have HQ := Lib.hid hq
        clear hq HN
        go_wp2
        go_roundw
        case rel => exact ⟨i + 1, by omega, by go_num, Lib.hid (HE.out HQ.out), hB, hZ⟩
        case measure => simp [intOf]; omega
    · obtain rfl : i = d.length := by omega
      have hs : res = none := by rw [← HRes.out]; exact lk_none n d hA.out
      subst hs
      clear HRes HR
      go_wp2
      have hs3 := set3_block hZ.out (.int .i64 0) (.string ⟨#[]⟩) (.slice none 0 0)
      have hc := three_cells hs3
      refine bodyPost_ret (v := .tuple #[.agg #[.int .i64 0, .string ⟨#[]⟩, .slice none 0 0], .bool false]) (by simp [results, Tryd.results46, go_sem, hc.1, hc.2.1, hc.2.2]) rfl ⟨rfl, below_set3 hB.out (Nat.le_refl _) _ _ _⟩
end Go.Proofs.YtdcfemojkdoakaaDoor
/- A loop over an iterator whose rounds are told something of the memory beside what they are handed (an error that the iterator has just made), and that goes on reading blocks of its own behind a round: our own contract and our own law for the caller, over the library's steps of the loop's record. -/
namespace Go.Proofs.YtdcfemojkdoakaaDoor
open Go.RowKit

theorem grown_of_below {X Y : World} (h : Below X.heap.size X Y) : X.grownBy Y none := ⟨h.os, h.tape, h.output, h.size, fun k hk _ => h.block k hk⟩

/-- What a round keeps: the blocks from N on that were there, and those that K names. -/
structure Kept (K : Nat → Prop) (N : Nat) (X Y : World) : Prop where
  size : X.heap.size ≤ Y.heap.size
  block : ∀ k, N ≤ k ∨ K k → k < X.heap.size → Y.heap[k]? = X.heap[k]?

/-- The contract. Between two rounds the iterator may have laid blocks ('Below', from X0, where the last round ended, to X, where the next begins); the rounds may be told 'Ex x' of the world in which they are handed x; a round that goes on keeps what the iterator has laid since X0, and the blocks of K. -/
def SeqTold {α : Type} (n : Nat) (P : Program) (g : Nat) (lb : Array Value) (encs : α → Array Value) (Ex : α → World → Prop) (K : Nat → Prop) (S Sp : List α → Prop) (N : Nat) (w : World) : Prop :=
  ∀ (l : Nat) (J Jx : List α → World → Prop) (W : World), Below w.heap.size w W →
    (∀ pre x X0 X, J pre X0 → pre.length < N → Below X0.heap.size X0 X → Ex x X → YieldAt Fence.wide (n - 1) P l (encs x) X fun e Y =>
      (e = .returned (.bool true) ∧ J (pre ++ [x]) Y ∧ Kept K X0.heap.size X Y) ∨ (e = .returned (.bool false) ∧ Jx (pre ++ [x]) Y)) →
    J [] W →
    CallsIn Fence.wide n P g (#[.func (.yield l) #[] #[]] ++ lb) W fun e Y => (∃ v, e = .returned v) ∧ ((∃ xs, S xs ∧ J xs Y) ∨ (∃ pre, Sp pre ∧ Jx pre Y))

/-- How a round's body may be left: by its end, or by a return. The body may write the blocks of T alone, and what it has made itself. -/
def RoundPost {σ α : Type} (B : Nat) (T : Nat → Prop) (I : σ → List α → World → Prop) (Ix : List α → World → Prop) (xs : List α) (X : World) : Exit → Act → World → Prop
  | .normal, _, Y => KeepsFrom B X Y ∧ (∀ k, ¬ T k → k < X.heap.size → Y.heap[k]? = X.heap[k]?) ∧ ∃ s, I s xs Y
  | .ret, _, Y => KeepsFrom B X Y ∧ Ix xs Y
  | _, _, _ => False

/-- **The statement 'for .. := range f', its body left by its end or by a return.** 's': what the body keeps of its own; 'T s': the blocks that it may write there. -/
theorem range_told {n : Nat} {P : Program} {σ α : Type} {g : Operand} {ps : Array Tmp} {assign body : Code} {Q : Exit → Act → World → Prop} {a : Act} {w : World} (h1 : 1 ≤ n)
    {gf : Nat} {lb : Array Value} (hg : a.eval g = .func (.func gf) #[] lb) (eg : ∀ args w, (callFunc gf args).run P w = .ok (.enter gf args) w)
    {encs : α → Array Value} {Ex : α → World → Prop} {K : Nat → Prop} {S Sp : List α → Prop} {N : Nat} {w0 : World} (hseq : SeqTold (n - 1) P gf lb encs Ex K S Sp N w0)
    (hK : ∀ k, K k → k < w.heap.size) (hb0 : Below w0.heap.size w0 w) (hps : ∀ x, (encs x).size = ps.size)
    (I : σ → List α → World → Prop) (Ix : List α → World → Prop) (T : σ → Nat → Prop) (hI : ∀ s, OwnFrom w.heap.size (I s)) (hIx : OwnFrom w.heap.size Ix)
    (hT : ∀ s pre X k, I s pre X → T s k → k < X.heap.size ∧ ¬ K k) (h0 : ∃ s, I s [] w)
    (Ax : α → Act → World → Prop) (hAx : ∀ x a', OwnFrom w.heap.size (fun (_ : Unit) W => Ax x a' W))
    (hassign : ∀ (l : Nat) (s : σ) (pre : List α) (x : α) (X : World) (C : Act → World → Prop), I s pre X → Ex x X →
      (∀ a' Y, KeepsFrom w.heap.size X Y → Below X.heap.size X Y → Ax x a' Y → C a' Y) →
      assign.wpIn (Fence.wide.inRound l) (n - 1 - 1) P (Exit.then C (fun _ _ _ => False)) { tmps := (ps.zip (encs x)).foldl (fun t (p, v) => t.setIfInBounds p v) a.tmps, defers := [] } X)
    (hbody : ∀ (l : Nat) (s : σ) (pre : List α) (x : α) (a' : Act) (X : World), I s pre X → pre.length < N → Ax x a' X → body.wpIn (Fence.wide.inRound l) (n - 1 - 1) P (RoundPost w.heap.size (T s) I Ix (pre ++ [x]) X) a' X)
    (hdone : ∀ (D : Nat) (s : σ) (xs : List α) (W : World), w.heap.size ≤ D → S xs → I s xs W → W.heap[D]? = some (.deferred (some [])) → Q .normal { a with defers := { target := .collected D, args := #[] } :: a.defers } W)
    (hstop : ∀ (D : Nat) (pre : List α) (W : World), w.heap.size ≤ D → Sp pre → Ix pre W → W.heap[D]? = some (.deferred (some [])) → Code.ret.wpIn Fence.wide n P Q { a with defers := { target := .collected D, args := #[] } :: a.defers } W) :
    (Code.rangeFunc g ps assign body).wpIn Fence.wide n P Q a w := by
  refine wpIn_rangeFunc fun fn _ => ?_
  -- the two blocks that the loop lays: the rounds' deferred calls at B, the record behind it
  generalize hB : w.heap.size = B at *
  obtain ⟨R, hR⟩ : ∃ R : LoopState → Option Code → Obj, R = fun st pe => .loop { state := st, pending := pe, fn, tmps := a.tmps, params := ps, assign, body, defers := B } := ⟨_, rfl⟩
  have hcells : ∀ st pe, (R st pe).isCells = false := fun st pe => by rw [hR]; rfl
  obtain ⟨V, hV⟩ : ∃ V, (w.alloc (.deferred (some []))).alloc (R .ready none) = V := ⟨_, rfl⟩
  have below : Below w.heap.size w V := by rw [← hV]; exact ((Below.refl _ w).alloc (Nat.le_refl _) _).alloc (by simp) _
  have hVL : V.heap[B + 1]? = some (R .ready none) := by
    rw [← hV]
    have := World.alloc_heap_new (w.alloc (.deferred (some []))) (R .ready none)
    rwa [World.size_alloc, hB] at this
  have hVB : V.heap[B]? = some (.deferred (some [])) := by
    rw [← hV, Below.heap_alloc _ _ _ (by simp; omega), ← hB]
    exact World.alloc_heap_new w _
  obtain ⟨s0, h0⟩ := h0
  have hVI : I s0 [] V := hI _ _ _ _ none h0 (grown_of_below below) (fun r e => by cases e)
  -- turning the record keeps what is asked
  have turn : ∀ {X : World} {o : Obj} (o' : Obj), X.heap[B + 1]? = some o → o.isCells = false → (∀ s xs, I s xs X → I s xs (X.putObj (B + 1) o')) ∧ (∀ xs, Ix xs X → Ix xs (X.putObj (B + 1) o')) ∧
      (∀ x a', Ax x a' X → Ax x a' (X.putObj (B + 1) o')) ∧ (∀ k, k ≠ B + 1 → (X.putObj (B + 1) o').heap[k]? = X.heap[k]?) ∧ (X.putObj (B + 1) o').heap[B + 1]? = some o' ∧ (X.putObj (B + 1) o').heap[B]? = X.heap[B]? :=
    fun {X o} o' hl ho => by
      have hlt := (Array.getElem?_eq_some_iff.1 hl).1
      exact ⟨fun s xs h => (hI s).putObj _ h (by omega) hl ho, fun xs h => hIx.putObj _ h (by omega) hl ho, fun x a' h => (hAx x a').putObj (s := ()) _ h (by omega) hl ho,
        fun k hk => World.putObj_heap_other hk, World.putObj_heap_same hlt, World.putObj_heap_other (by omega)⟩
  refine ⟨B + 1, [{ target := .collected B, args := #[] }], V, { target := .fn (.func gf) lb, args := #[.func (.yield (B + 1)) #[] #[]] }, V, gf, #[.func (.yield (B + 1)) #[] #[]] ++ lb, V, ?_, ?_, fun _ _ => trivial, ?_, fun _ => h1, ?_⟩
  · have e := run_enterLoop_outer (P := P) (w := w) fn a.tmps ps assign body
    rw [hB] at e
    rw [← hV, hR]
    exact e
  · simp only [resolve, hg]
    simp [go_sem]
  · simp [invoke, go_sem, eg]
  · refine (hseq (B + 1)
      (fun pre X => (∃ s, I s pre X) ∧ X.heap[B + 1]? = some (R .ready none) ∧ X.heap[B]? = some (.deferred (some [])))
      (fun pre X => Ix pre X ∧ X.heap[B + 1]? = some (R .done (some .ret)) ∧ X.heap[B]? = some (.deferred (some [])))
      V (hb0.trans (below.mono (by rw [hB]; have := hb0.size; omega)))
      ?_ ⟨⟨s0, hVI⟩, hVL, hVB⟩).mono ?_
    · -- a round
      rintro pre x X0 X ⟨⟨s, hi0⟩, hl0, hd0⟩ hlen hX hex
      have hlt0 := (Array.getElem?_eq_some_iff.1 hl0).1
      have hi : I s pre X := hI _ _ _ _ none hi0 (grown_of_below hX) (fun r e => by cases e)
      have hl := (hX.block _ hlt0).trans hl0
      have hd := (hX.block _ (Array.getElem?_eq_some_iff.1 hd0).1).trans hd0
      have hl' := hl
      rw [hR] at hl'
      refine ⟨fn, _, assign, body, run_yield (P := P) (args := encs x) hl' (hps x), roundIn_of_wpIn trivial (hassign _ s pre x X _ hi hex ?_)⟩
      intro a' Y hk hb hax
      have hiY : I s pre Y := hI _ _ _ _ none hi (grown_of_below hb) (fun r e => by cases e)
      have hlY := hk.same _ _ (by omega) hl (hcells _ _)
      have hdY := hk.same _ _ (Nat.le_refl _) hd rfl
      have hlY' := hlY
      rw [hR] at hlY'
      have begins := run_beginRound (P := P) hlY' rfl
      obtain ⟨t1, _, t3, t4, t5, t6⟩ := turn (R .busy none) hlY (hcells _ _)
      refine ⟨Y.putObj (B + 1) (R .busy none), by rw [begins, hR], ?_⟩
      have ends : ∀ (jump : Option Code) (Z : World), KeepsFrom B (Y.putObj (B + 1) (R .busy none)) Z → Z.heap[B + 1]? = some (R .busy none) ∧ Z.heap[B]? = some (.deferred (some [])) ∧
          (Instr.endRound (B + 1) jump).run P Z = .ok (.bool jump.isNone) (Z.putObj (B + 1) (R (if jump.isNone then .ready else .done) jump)) := fun jump Z hz => by
        have z1 := hz.same _ _ (by omega) t5 (hcells _ _)
        refine ⟨z1, hz.same _ _ (Nat.le_refl _) (t6.trans hdY) rfl, ?_⟩
        rw [hR] at z1 ⊢
        exact run_endRound (P := P) jump z1
      refine wpIn_mono (hbody _ s pre x a' _ (t1 _ _ hiY) hlen (t3 _ _ hax)) ?_
      rintro e a3 Z hp
      cases e with
      | normal =>
        obtain ⟨hz, hzb, s', hzi⟩ := hp
        obtain ⟨z1, z2, z3⟩ := ends none Z hz
        obtain ⟨u1, _, _, u4, u5, u6⟩ := turn (R .ready none) z1 (hcells _ _)
        refine ⟨_, _, z3, .inl ⟨rfl, ⟨⟨s', u1 _ _ hzi⟩, u5, u6.trans z2⟩, ?_, ?_⟩⟩
        · have := hb.size; have := hz.size; simp at this ⊢; omega
        · intro k hk hkX
          have hne : k ≠ B + 1 := by
            rcases hk with hk | hk
            · omega
            · have := hK k hk; omega
          have hnT : ¬ T s k := by
            intro ht
            rcases hk with hk | hk
            · have := (hT s pre X0 k hi0 ht).1; omega
            · exact (hT s pre X0 k hi0 ht).2 hk
          have hkY : k < Y.heap.size := by have := hb.size; omega
          exact (u4 k hne).trans ((hzb k hnT (by simpa using hkY)).trans ((t4 k hne).trans (hb.block k hkX)))
      | ret =>
        obtain ⟨hz, hzi⟩ := hp
        obtain ⟨z1, z2, z3⟩ := ends (some .ret) Z hz
        obtain ⟨_, u2, _, _, u5, u6⟩ := turn (R .done (some .ret)) z1 (hcells _ _)
        exact ⟨_, _, z3, .inr ⟨rfl, u2 _ hzi, u5, u6.trans z2⟩⟩
      | exit id => exact hp.elim
      | goto t => exact hp.elim
      | panic ch => exact hp.elim
      | outgrown => exact hp.elim
    · -- behind the iterator
      rintro e Z ⟨⟨v, rfl⟩, (⟨xs, hS, ⟨s, hi⟩, hl, hd⟩ | ⟨pre, hSp, hi, hl, hd⟩)⟩
      · obtain ⟨u1, _, _, _, _, u6⟩ := turn (R .exhausted none) hl (hcells _ _)
        have hl' := hl
        rw [hR] at hl'
        refine ⟨none, _, by have e := run_endLoop (P := P) hl' (by simp); exact e, ?_⟩
        have := hdone B s xs _ (Nat.le_refl _) hS (u1 _ _ hi) (u6.trans hd)
        rw [hR] at this
        exact this
      · obtain ⟨_, u2, _, _, _, u6⟩ := turn (R .exhausted (some .ret)) hl (hcells _ _)
        have hl' := hl
        rw [hR] at hl'
        refine ⟨some .ret, _, by have e := run_endLoop (P := P) hl' (by simp); exact e, ?_⟩
        have := hstop B pre _ (Nat.le_refl _) hSp (u2 _ hi) (u6.trans hd)
        rw [hR] at this
        exact this
end Go.Proofs.YtdcfemojkdoakaaDoor
/- A loop over an iterator, once more: the rounds are told of the memory since the last round's end; the loop may be left by one jump (a return, or a break); what a round's frame holds may hang on what the body keeps. -/
namespace Go.Proofs.YtdcfemojkdoakaaDoor
open Go.RowKit

/-- The contract. Between two rounds the iterator may have laid blocks ('Below', from X0, where the last round ended, to X, where the next begins); the rounds may be told 'Ex x' of the world in which they are handed x; a round that goes on keeps what the iterator has laid since X0, and the blocks of K. -/
def SeqGen {α : Type} (n : Nat) (P : Program) (g : Nat) (lb : Array Value) (encs : α → Array Value) (Ex : List α → α → World → World → Prop) (K : Nat → Prop) (S Sp : List α → Prop) (N : Nat) (w : World) : Prop :=
  ∀ (l : Nat) (J Jx : List α → World → Prop) (W : World), Below w.heap.size w W →
    (∀ pre x X0 X, J pre X0 → pre.length < N → Below X0.heap.size X0 X → Ex pre x X0 X → YieldAt Fence.wide (n - 1) P l (encs x) X fun e Y =>
      (e = .returned (.bool true) ∧ J (pre ++ [x]) Y ∧ Kept K X0.heap.size X Y) ∨ (e = .returned (.bool false) ∧ Jx (pre ++ [x]) Y)) →
    J [] W →
    CallsIn Fence.wide n P g (#[.func (.yield l) #[] #[]] ++ lb) W fun e Y => (∃ v, e = .returned v) ∧ ((∃ xs, S xs ∧ J xs Y) ∨ (∃ pre, Sp pre ∧ Jx pre Y))

/-- How a round's body may be left: by its end, or by a return. The body may write the blocks of T alone, and what it has made itself. -/
def RoundGen {σ α : Type} (jump : Code) (B : Nat) (T : Nat → Prop) (I : σ → List α → World → Prop) (Ix : List α → World → Prop) (xs : List α) (X : World) : Exit → Act → World → Prop
  | .normal, _, Y => KeepsFrom B X Y ∧ (∀ k, ¬ T k → k < X.heap.size → Y.heap[k]? = X.heap[k]?) ∧ ∃ s, I s xs Y
  | .ret, _, Y => jump = .ret ∧ KeepsFrom B X Y ∧ Ix xs Y
  | .exit id, _, Y => jump = .exit id ∧ KeepsFrom B X Y ∧ Ix xs Y
  | _, _, _ => False

/-- **The statement 'for .. := range f', its body left by its end or by a return.** 's': what the body keeps of its own; 'T s': the blocks that it may write there. -/
theorem range_gen {n : Nat} {P : Program} {σ α : Type} {g : Operand} {ps : Array Tmp} {assign body : Code} {Q : Exit → Act → World → Prop} {a : Act} {w : World} (h1 : 1 ≤ n)
    {gf : Nat} {lb : Array Value} (hg : a.eval g = .func (.func gf) #[] lb) (eg : ∀ args w, (callFunc gf args).run P w = .ok (.enter gf args) w)
    {encs : α → Array Value} {Ex : List α → α → World → World → Prop} {K : Nat → Prop} {S Sp : List α → Prop} {N : Nat} {w0 : World} (hseq : SeqGen (n - 1) P gf lb encs Ex K S Sp N w0)
    (hK : ∀ k, K k → k < w.heap.size) (hb0 : Below w0.heap.size w0 w) (hps : ∀ x, (encs x).size = ps.size)
    (I : σ → List α → World → Prop) (Ix : List α → World → Prop) (T : σ → Nat → Prop) (hI : ∀ s, OwnFrom w.heap.size (I s)) (hIx : OwnFrom w.heap.size Ix)
    (hT : ∀ s pre X k, I s pre X → T s k → k < X.heap.size ∧ ¬ K k) (h0 : ∃ s, I s [] w)
    (Ax : σ → List α → α → Act → World → Prop) (hAx : ∀ s pre x a', OwnFrom w.heap.size (fun (_ : Unit) W => Ax s pre x a' W)) (jump : Code)
    (hassign : ∀ (l : Nat) (s : σ) (pre : List α) (x : α) (X0 X : World) (C : Act → World → Prop), I s pre X0 → Below X0.heap.size X0 X → I s pre X → Ex pre x X0 X →
      (∀ a' Y, KeepsFrom w.heap.size X Y → Below X.heap.size X Y → Ax s pre x a' Y → C a' Y) →
      assign.wpIn (Fence.wide.inRound l) (n - 1 - 1) P (Exit.then C (fun _ _ _ => False)) { tmps := (ps.zip (encs x)).foldl (fun t (p, v) => t.setIfInBounds p v) a.tmps, defers := [] } X)
    (hbody : ∀ (l : Nat) (s : σ) (pre : List α) (x : α) (a' : Act) (X : World), I s pre X → pre.length < N → Ax s pre x a' X → body.wpIn (Fence.wide.inRound l) (n - 1 - 1) P (RoundGen jump w.heap.size (T s) I Ix (pre ++ [x]) X) a' X)
    (hdone : ∀ (D : Nat) (s : σ) (xs : List α) (W : World), w.heap.size ≤ D → S xs → I s xs W → W.heap[D]? = some (.deferred (some [])) → Q .normal { a with defers := { target := .collected D, args := #[] } :: a.defers } W)
    (hstop : ∀ (D : Nat) (pre : List α) (W : World), w.heap.size ≤ D → Sp pre → Ix pre W → W.heap[D]? = some (.deferred (some [])) → jump.wpIn Fence.wide n P Q { a with defers := { target := .collected D, args := #[] } :: a.defers } W) :
    (Code.rangeFunc g ps assign body).wpIn Fence.wide n P Q a w := by
  refine wpIn_rangeFunc fun fn _ => ?_
  -- the two blocks that the loop lays: the rounds' deferred calls at B, the record behind it
  generalize hB : w.heap.size = B at *
  obtain ⟨R, hR⟩ : ∃ R : LoopState → Option Code → Obj, R = fun st pe => .loop { state := st, pending := pe, fn, tmps := a.tmps, params := ps, assign, body, defers := B } := ⟨_, rfl⟩
  have hcells : ∀ st pe, (R st pe).isCells = false := fun st pe => by rw [hR]; rfl
  obtain ⟨V, hV⟩ : ∃ V, (w.alloc (.deferred (some []))).alloc (R .ready none) = V := ⟨_, rfl⟩
  have below : Below w.heap.size w V := by rw [← hV]; exact ((Below.refl _ w).alloc (Nat.le_refl _) _).alloc (by simp) _
  have hVL : V.heap[B + 1]? = some (R .ready none) := by
    rw [← hV]
    have := World.alloc_heap_new (w.alloc (.deferred (some []))) (R .ready none)
    rwa [World.size_alloc, hB] at this
  have hVB : V.heap[B]? = some (.deferred (some [])) := by
    rw [← hV, Below.heap_alloc _ _ _ (by simp; omega), ← hB]
    exact World.alloc_heap_new w _
  obtain ⟨s0, h0⟩ := h0
  have hVI : I s0 [] V := hI _ _ _ _ none h0 (grown_of_below below) (fun r e => by cases e)
  -- turning the record keeps what is asked
  have turn : ∀ {X : World} {o : Obj} (o' : Obj), X.heap[B + 1]? = some o → o.isCells = false → (∀ s xs, I s xs X → I s xs (X.putObj (B + 1) o')) ∧ (∀ xs, Ix xs X → Ix xs (X.putObj (B + 1) o')) ∧
      (∀ s pre x a', Ax s pre x a' X → Ax s pre x a' (X.putObj (B + 1) o')) ∧ (∀ k, k ≠ B + 1 → (X.putObj (B + 1) o').heap[k]? = X.heap[k]?) ∧ (X.putObj (B + 1) o').heap[B + 1]? = some o' ∧ (X.putObj (B + 1) o').heap[B]? = X.heap[B]? :=
    fun {X o} o' hl ho => by
      have hlt := (Array.getElem?_eq_some_iff.1 hl).1
      exact ⟨fun s xs h => (hI s).putObj _ h (by omega) hl ho, fun xs h => hIx.putObj _ h (by omega) hl ho, fun s pre x a' h => (hAx s pre x a').putObj (s := ()) _ h (by omega) hl ho,
        fun k hk => World.putObj_heap_other hk, World.putObj_heap_same hlt, World.putObj_heap_other (by omega)⟩
  refine ⟨B + 1, [{ target := .collected B, args := #[] }], V, { target := .fn (.func gf) lb, args := #[.func (.yield (B + 1)) #[] #[]] }, V, gf, #[.func (.yield (B + 1)) #[] #[]] ++ lb, V, ?_, ?_, fun _ _ => trivial, ?_, fun _ => h1, ?_⟩
  · have e := run_enterLoop_outer (P := P) (w := w) fn a.tmps ps assign body
    rw [hB] at e
    rw [← hV, hR]
    exact e
  · simp only [resolve, hg]
    simp [go_sem]
  · simp [invoke, go_sem, eg]
  · refine (hseq (B + 1)
      (fun pre X => (∃ s, I s pre X) ∧ X.heap[B + 1]? = some (R .ready none) ∧ X.heap[B]? = some (.deferred (some [])))
      (fun pre X => Ix pre X ∧ X.heap[B + 1]? = some (R .done (some jump)) ∧ X.heap[B]? = some (.deferred (some [])))
      V (hb0.trans (below.mono (by rw [hB]; have := hb0.size; omega)))
      ?_ ⟨⟨s0, hVI⟩, hVL, hVB⟩).mono ?_
    · -- a round
      rintro pre x X0 X ⟨⟨s, hi0⟩, hl0, hd0⟩ hlen hX hex
      have hlt0 := (Array.getElem?_eq_some_iff.1 hl0).1
      have hi : I s pre X := hI _ _ _ _ none hi0 (grown_of_below hX) (fun r e => by cases e)
      have hl := (hX.block _ hlt0).trans hl0
      have hd := (hX.block _ (Array.getElem?_eq_some_iff.1 hd0).1).trans hd0
      have hl' := hl
      rw [hR] at hl'
      refine ⟨fn, _, assign, body, run_yield (P := P) (args := encs x) hl' (hps x), roundIn_of_wpIn trivial (hassign _ s pre x X0 X _ hi0 hX hi hex ?_)⟩
      intro a' Y hk hb hax
      have hiY : I s pre Y := hI _ _ _ _ none hi (grown_of_below hb) (fun r e => by cases e)
      have hlY := hk.same _ _ (by omega) hl (hcells _ _)
      have hdY := hk.same _ _ (Nat.le_refl _) hd rfl
      have hlY' := hlY
      rw [hR] at hlY'
      have begins := run_beginRound (P := P) hlY' rfl
      obtain ⟨t1, _, t3, t4, t5, t6⟩ := turn (R .busy none) hlY (hcells _ _)
      refine ⟨Y.putObj (B + 1) (R .busy none), by rw [begins, hR], ?_⟩
      have ends : ∀ (jump : Option Code) (Z : World), KeepsFrom B (Y.putObj (B + 1) (R .busy none)) Z → Z.heap[B + 1]? = some (R .busy none) ∧ Z.heap[B]? = some (.deferred (some [])) ∧
          (Instr.endRound (B + 1) jump).run P Z = .ok (.bool jump.isNone) (Z.putObj (B + 1) (R (if jump.isNone then .ready else .done) jump)) := fun jump Z hz => by
        have z1 := hz.same _ _ (by omega) t5 (hcells _ _)
        refine ⟨z1, hz.same _ _ (Nat.le_refl _) (t6.trans hdY) rfl, ?_⟩
        rw [hR] at z1 ⊢
        exact run_endRound (P := P) jump z1
      refine wpIn_mono (hbody _ s pre x a' _ (t1 _ _ hiY) hlen (t3 _ _ _ _ hax)) ?_
      rintro e a3 Z hp
      cases e with
      | normal =>
        obtain ⟨hz, hzb, s', hzi⟩ := hp
        obtain ⟨z1, z2, z3⟩ := ends none Z hz
        obtain ⟨u1, _, _, u4, u5, u6⟩ := turn (R .ready none) z1 (hcells _ _)
        refine ⟨_, _, z3, .inl ⟨rfl, ⟨⟨s', u1 _ _ hzi⟩, u5, u6.trans z2⟩, ?_, ?_⟩⟩
        · have := hb.size; have := hz.size; simp at this ⊢; omega
        · intro k hk hkX
          have hne : k ≠ B + 1 := by
            rcases hk with hk | hk
            · omega
            · have := hK k hk; omega
          have hnT : ¬ T s k := by
            intro ht
            rcases hk with hk | hk
            · have := (hT s pre X0 k hi0 ht).1; omega
            · exact (hT s pre X0 k hi0 ht).2 hk
          have hkY : k < Y.heap.size := by have := hb.size; omega
          exact (u4 k hne).trans ((hzb k hnT (by simpa using hkY)).trans ((t4 k hne).trans (hb.block k hkX)))
      | ret =>
        obtain ⟨rfl, hz, hzi⟩ := hp
        obtain ⟨z1, z2, z3⟩ := ends (some .ret) Z hz
        obtain ⟨_, u2, _, _, u5, u6⟩ := turn (R .done (some .ret)) z1 (hcells _ _)
        exact ⟨_, _, z3, .inr ⟨rfl, u2 _ hzi, u5, u6.trans z2⟩⟩
      | exit id =>
        obtain ⟨rfl, hz, hzi⟩ := hp
        obtain ⟨z1, z2, z3⟩ := ends (some (.exit id)) Z hz
        obtain ⟨_, u2, _, _, u5, u6⟩ := turn (R .done (some (.exit id))) z1 (hcells _ _)
        exact ⟨_, _, z3, .inr ⟨rfl, u2 _ hzi, u5, u6.trans z2⟩⟩
      | goto t => exact hp.elim
      | panic ch => exact hp.elim
      | outgrown => exact hp.elim
    · -- behind the iterator
      rintro e Z ⟨⟨v, rfl⟩, (⟨xs, hS, ⟨s, hi⟩, hl, hd⟩ | ⟨pre, hSp, hi, hl, hd⟩)⟩
      · obtain ⟨u1, _, _, _, _, u6⟩ := turn (R .exhausted none) hl (hcells _ _)
        have hl' := hl
        rw [hR] at hl'
        refine ⟨none, _, by have e := run_endLoop (P := P) hl' (by simp); exact e, ?_⟩
        have := hdone B s xs _ (Nat.le_refl _) hS (u1 _ _ hi) (u6.trans hd)
        rw [hR] at this
        exact this
      · obtain ⟨_, u2, _, _, _, u6⟩ := turn (R .exhausted (some jump)) hl (hcells _ _)
        have hl' := hl
        rw [hR] at hl'
        refine ⟨some jump, _, by have e := run_endLoop (P := P) hl' (by simp); exact e, ?_⟩
        have := hstop B pre _ (Nat.le_refl _) hSp (u2 _ hi) (u6.trans hd)
        rw [hR] at this
        exact this
end Go.Proofs.YtdcfemojkdoakaaDoor
/- (Subst).Pairs: the pairs, told one by one. -/
namespace Go.Proofs.YtdcfemojkdoakaaDoor
open Go.RowKit Go.Sort Go.Lib
attribute [local go_sem] Oper.semAt_some

def encQ (x : PR) : Array Value := #[.string x.n, .agg #[.int .i64 x.t.kind, .string x.t.name, .slice x.a x.t.kids.length x.c]]
/-- What is told is the next one of the row; its rows are new since the last round. -/
def ExQ (d : List PR) (pre : List PR) (x : PR) (X0 X : World) : Prop := TyIn (fun k => X0.heap.size ≤ k) X x.t (.slice x.a x.t.kids.length x.c) ∧ (pre.length < d.length ∧ x.n = (d.getD pre.length noP).n ∧ x.t = (d.getD pre.length noP).t)
/-- Rows of types, all of them in blocks that are ok. -/
theorem TyAt.inside {ok : Nat → Prop} {w : World} (hk : ∀ (k : Nat) (cs : Array Value) (fz : Nat × Nat), w.heap[k]? = some (.cells cs 29 fz) → ok k) {t : T} {k n v : Value} (h : TyAt w t k n v) : TyIn ok w t v := by
  induction h with
  | leaf t a c h => exact .leaf t a c h
  | row t g cap cs fz x y z h1 h2 h3 h4 ih =>
    refine .row t g cap cs fz z (hk _ _ _ h1) h1 h2 (fun i hi => ?_) ih
    obtain ⟨e1, e2, _⟩ := (h4 i hi).shape
    obtain ⟨c1, c2, c3⟩ := h3 i hi
    exact ⟨by rw [c1, e1], by rw [c2, e2], c3⟩
theorem TysAt.inside {ok : Nat → Prop} {w : World} (hk : ∀ (k : Nat) (cs : Array Value) (fz : Nat × Nat), w.heap[k]? = some (.cells cs 29 fz) → ok k) {t : T} {v : Value} (h : TysAt w v t.kids) : TyIn ok w t v := (TyAt.mk t h).inside hk
def KeepK (K : Nat → Prop) (X W : World) : Prop := ∀ k, K k → k < X.heap.size → W.heap[k]? = X.heap[k]?
theorem KeepK.trans {K : Nat → Prop} {X Y Z : World} (h : KeepK K X Y) (k : KeepK K Y Z) (hs : X.heap.size ≤ Y.heap.size) : KeepK K X Z := fun i hi hx => (k i hi (by omega)).trans (h i hi hx)
theorem KeepK.of_below {K : Nat → Prop} {X Y : World} (h : Below X.heap.size X Y) : KeepK K X Y := fun i _ hx => h.block i hx
theorem TyIn.keepK {K : Nat → Prop} {X W : World} {t : T} {v : Value} (h : TyIn K X t v) (hk : KeepK K X W) : TyIn K W t v := h.keep fun k _ _ h1 h2 => (hk k h1 (Array.getElem?_eq_some_iff.1 h2).1).trans h2
/-- The row of pairs that the iterator goes through: in blocks of K. -/
def Src (K : Nat → Prop) (a : Option Addr) (d : List PR) (w : World) : Prop := (∀ i, i < d.length → ∃ g, a = some ⟨g, 0, none⟩ ∧ K g ∧ RowP g d w) ∧ ∀ x ∈ d, TyIn K w x.t (.slice x.a x.t.kids.length x.c)
theorem Src.keepK {K : Nat → Prop} {a : Option Addr} {d : List PR} {X W : World} (h : Src K a d X) (hk : KeepK K X W) : Src K a d W :=
  ⟨fun i hi => by obtain ⟨g, e, h1, h2⟩ := h.1 i hi; exact ⟨g, e, h1, h2.same (hk g h1 h2.lt)⟩, fun x hx => (h.2 x hx).keepK hk⟩
theorem Src.of {K : Nat → Prop} {a : Option Addr} {n c : Nat} {d : List PR} {w : World} (h : SubAt (.slice a n c) d w) (h1 : ∀ (k : Nat) (cs : Array Value) (fz : Nat × Nat), w.heap[k]? = some (.cells cs 29 fz) → K k)
    (h2 : ∀ (k : Nat) (cs : Array Value) (fz : Nat × Nat), w.heap[k]? = some (.cells cs 119 fz) → K k) : Src K a d w := by
  obtain ⟨⟨hs, _⟩, ht⟩ := h
  refine ⟨fun i hi => ?_, fun x hx => (ht x hx).inside h1⟩
  rcases hs with ⟨rfl, _⟩ | ⟨g, cap, e, _, hr⟩
  · cases hi
  · simp only [Value.slice.injEq] at e
    have hr0 := hr
    obtain ⟨cs, hg, _⟩ := hr
    exact ⟨g, e.1, h2 g _ _ hg, hr0⟩
end Go.Proofs.YtdcfemojkdoakaaDoor
/- SubstThen: what its statements keep; calls whose results are told. -/
namespace Go.Proofs.YtdcfemojkdoakaaDoor
open Go.RowKit Go.Sort Go.Lib
attribute [local go_sem] Oper.semAt_some

theorem size_le (d : List PR) (M : Nat) (h1 : 1 ≤ M) (hd : ∀ x ∈ d, tsize x.t ≤ M) : ∀ t, tsize (app d t) ≤ tsize t * M := by
  intro t
  refine T.by_kids (P := fun t => tsize (app d t) ≤ tsize t * M) (fun t H => ?_) t
  cases t with
  | var n =>
    rw [app_v, tsize, Nat.one_mul]
    unfold ty
    cases h : lk n d with
    | none => exact h1
    | some x => exact hd x (lk_name h).1
  | con n l =>
    rw [app, tsize, tsize, apps_map]
    have key : ∀ m : List T, (∀ k ∈ m, k ∈ l) → tsizes (m.map (app d)) ≤ tsizes m * M := by
      intro m
      induction m with
      | nil => intro _; exact Nat.zero_le _
      | cons a m ih =>
        intro hm
        rw [List.map_cons, tsizes, tsizes, Nat.add_mul]
        exact Nat.add_le_add (H a (hm a (List.mem_cons_self ..))) (ih fun k hk => hm k (List.mem_cons_of_mem _ hk))
    have := key l (fun k hk => hk)
    rw [Nat.add_mul]; omega
  | fn a b =>
    have ha := H a (by simp [T.kids])
    have hb := H b (by simp [T.kids])
    rw [app, tsize, tsize, Nat.add_mul, Nat.add_mul]; omega
  | all n a =>
    have ha := H a (by simp [T.kids])
    rw [app, tsize, tsize, Nat.add_mul]; omega
/-- Of a row of pairs: how many, how great, what it does. -/
def Sb (M n : Nat) (f : T → T) (l : List PR) : Prop := l.length ≤ n ∧ (∀ x ∈ l, tsize x.t ≤ M) ∧ ∀ t, app l t = f t
theorem app_ret {l : List PR} {t t' : T} {M n : Nat} {f : T → T} {s : Value} {a : Option Addr} {c : Nat} {w : World} (hs : SubAt s l w) (h : Sb M n f l) (hn : n ≤ 1000) (hM : M ≤ 1000000000) (ht : tsize t ≤ 1000000000) (e : f t = t') (hT : TysAt w (.slice a t.kids.length c) t.kids) :
    Calls Tryd.prog 14 #[.agg #[s], .agg #[.int .i64 t.kind, .string t.name, .slice a t.kids.length c]] w fun e Y => (∃ za zc, e = .returned (.agg #[.int .i64 t'.kind, .string t'.name, .slice za t'.kids.length zc]) ∧ TysAt Y (.slice za t'.kids.length zc) t'.kids) ∧ Below w.heap.size w Y := by
  refine (apply_any (d := l) (t := t) (s := s) (w := w) (by have := h.1; omega) (fun x hx => by have := h.2.1 x hx; omega) ht hs hT).mono ?_
  rintro e1 w5 ⟨⟨a, c, rfl, hin⟩, hb5⟩
  rw [h.2.2, e] at hin ⊢
  exact ⟨⟨a, c, rfl, hin.tys⟩, hb5⟩

def nilV : Value := .slice none 0 0
/-- What the statements of SubstThen keep. -/
def SS (w : World) (b11 b12 b13 b14 b15 : Nat) (t : T) (pa : Option Addr) (ca : Nat) (sx sy sz : Value) (lx ly lz : List PR) (X : World) : Prop :=
  BoxT b11 t pa ca X ∧ ((BoxS b12 sx lx X ∧ BoxS b13 sy ly X) ∧ BoxS b14 sz lz X ∧ BoxS b15 nilV [] X) ∧ Below w.heap.size w X
theorem SS.below {w : World} {b11 b12 b13 b14 b15 : Nat} {t : T} {pa : Option Addr} {ca : Nat} {sx sy sz : Value} {lx ly lz : List PR} {X Y : World} (h : SS w b11 b12 b13 b14 b15 t pa ca sx sy sz lx ly lz X) (hb : Below X.heap.size X Y) : SS w b11 b12 b13 b14 b15 t pa ca sx sy sz lx ly lz Y :=
  ⟨h.1.below hb, ⟨⟨h.2.1.1.1.below hb, h.2.1.1.2.below hb⟩, h.2.1.2.1.below hb, h.2.1.2.2.below hb⟩, h.2.2.trans (hb.mono h.2.2.size)⟩
theorem SS.cells {w : World} {b11 b12 b13 b14 b15 : Nat} {t : T} {pa : Option Addr} {ca : Nat} {sx sy sz : Value} {lx ly lz : List PR} {X : World} (h : SS w b11 b12 b13 b14 b15 t pa ca sx sy sz lx ly lz X) :
    (X.cell? ⟨b11, 0, none⟩ = some (.int .i64 t.kind) ∧ X.cell? ⟨b11, 1, none⟩ = some (.string t.name) ∧ X.cell? ⟨b11, 2, none⟩ = some (.slice pa t.kids.length ca)) ∧
    (X.cell? ⟨b12, 0, none⟩ = some sx ∧ X.cell? ⟨b13, 0, none⟩ = some sy) ∧ X.cell? ⟨b14, 0, none⟩ = some sz ∧ X.cell? ⟨b15, 0, none⟩ = some nilV := ⟨h.1.cells, ⟨h.2.1.1.1.cell, h.2.1.1.2.cell⟩, h.2.1.2.1.cell, h.2.1.2.2.cell⟩

/-! A box that is still empty is filled: all else stays. -/
def zeroT : Obj := .cells #[.int .i64 0, .string ⟨#[]⟩, .slice none 0 0] 29
theorem BoxT.fill {b k : Nat} {t : T} {a : Option Addr} {c : Nat} {w W : World} (h : BoxT b t a c w) (h0 : w.heap[k]? = some zeroT) (hk : ∀ j, j ≠ k → W.heap[j]? = w.heap[j]?) : BoxT b t a c W := by
  refine ⟨(hk b ?_).trans h.1, h.2.elsewhere h0 hk⟩
  rintro rfl
  have h1 := h.1
  rw [h0] at h1
  unfold zeroT at h1
  simp only [Option.some.injEq, Obj.cells.injEq, Array.mk.injEq, List.cons.injEq, Value.int.injEq] at h1
  have := (T.kind_pos t).1
  omega
theorem SubAt.fill {v : Value} {d : List PR} {k : Nat} {w W : World} (h : SubAt v d w) (h0 : w.heap[k]? = some zeroT) (hk : ∀ j, j ≠ k → W.heap[j]? = w.heap[j]?) : SubAt v d W := by
  obtain ⟨⟨h1, h2⟩, h3⟩ := h
  refine ⟨⟨?_, h2⟩, fun x hx => (h3 x hx).elsewhere h0 hk⟩
  rcases h1 with h1 | ⟨g, cap, e, hc, hr⟩
  · exact .inl h1
  · refine .inr ⟨g, cap, e, hc, hr.same (hk g ?_)⟩
    rintro rfl
    obtain ⟨cs, hr, _⟩ := hr
    rw [h0] at hr
    unfold zeroT at hr
    simp at hr
theorem BoxS.fill {b k : Nat} {v : Value} {d : List PR} {w W : World} (h : BoxS b v d w) (h0 : w.heap[k]? = some zeroT) (hk : ∀ j, j ≠ k → W.heap[j]? = w.heap[j]?) : BoxS b v d W := by
  refine ⟨(hk b ?_).trans h.1, h.2.fill h0 hk⟩
  rintro rfl
  have h1 := h.1
  rw [h0] at h1
  unfold zeroT at h1
  simp at h1
theorem SS.fill {w : World} {b11 b12 b13 b14 b15 : Nat} {t : T} {pa : Option Addr} {ca : Nat} {sx sy sz : Value} {lx ly lz : List PR} {X Y : World} {k : Nat} (h : SS w b11 b12 b13 b14 b15 t pa ca sx sy sz lx ly lz X) (h0 : X.heap[k]? = some zeroT) (hk : ∀ j, j ≠ k → Y.heap[j]? = X.heap[j]?) (hb : Below w.heap.size X Y) : SS w b11 b12 b13 b14 b15 t pa ca sx sy sz lx ly lz Y :=
  ⟨h.1.fill h0 hk, ⟨⟨h.2.1.1.1.fill h0 hk, h.2.1.1.2.fill h0 hk⟩, h.2.1.2.1.fill h0 hk, h.2.1.2.2.fill h0 hk⟩, h.2.2.trans hb⟩
theorem fill_box {k : Nat} {p : T} {a : Option Addr} {c : Nat} {w : World} (h0 : w.heap[k]? = some zeroT) (hp : TysAt w (.slice a p.kids.length c) p.kids) :
    BoxT k p a c (((w.setCell ⟨k, 0, none⟩ (.int .i64 p.kind)).setCell ⟨k, 1, none⟩ (.string p.name)).setCell ⟨k, 2, none⟩ (.slice a p.kids.length c)) :=
  ⟨set3_block h0 _ _ _, hp.elsewhere h0 (fun _ hj => set3_others _ _ _ hj)⟩
end Go.Proofs.YtdcfemojkdoakaaDoor
/- SubstThen: the pairs it is given, kept; its calls ahead of the regions. -/
namespace Go.Proofs.YtdcfemojkdoakaaDoor
open Go.RowKit Go.Sort Go.Lib
attribute [local go_sem] Oper.semAt_some

/-- What a call of pairs hands out. -/
def GP (v : Value) (d : List PR) (w : World) : Prop := (GivenP v d w ∧ Typ d w) ∧ d.length ≤ 4 ∧ ∀ x ∈ d, tsize x.t ≤ 56
theorem GP.keep {v : Value} {d : List PR} {w w' : World} (h : GP v d w) (hk : KeepT w w') (hr : ∀ g, RowP g d w → w'.heap[g]? = w.heap[g]?) : GP v d w' := by
  obtain ⟨⟨h1, h2⟩, h3⟩ := h
  refine ⟨⟨?_, h2.keep hk⟩, h3⟩
  rcases h1 with h1 | ⟨h0, g, cap, e, hg⟩
  · exact .inl h1
  · exact .inr ⟨h0, g, cap, e, hg.same (hr g hg)⟩
theorem GP.below {v : Value} {d : List PR} {w w' : World} (h : GP v d w) (hb : Below w.heap.size w w') : GP v d w' := h.keep (KeepT.of_below hb) fun g hg => hb.block g hg.lt
theorem GP.mk {B p : Nat} {a : Option Addr} {n c k : Nat} {v : Value} {d : List PR} {w w' : World} (h : GP v d w) (hf : MkFr B p w w') (hs : SeqAt B p a n c k w) : GP v d w' :=
  h.keep (KeepT.of_mk hf hs) fun g hg => by
    obtain ⟨cs, h1, _⟩ := hg
    refine (hf.2 g _ h1 ?_).trans h1.symm
    rintro rfl
    have := h1.symm.trans hs.1.2
    simp at this
theorem of_gp {v : Value} {d : List PR} {w : World} (h : GP v d w) :
    Calls Tryd.prog 81 #[v] w fun e w' => (∃ sv l, e = .returned (.agg #[sv]) ∧ SubAt sv l w' ∧ Sb 56 4 (app l) l) ∧ Below w.heap.size w w' := by
  obtain ⟨⟨h1, h2⟩, h3, h4⟩ := h
  refine (of_any h1 h2 (fun x hx => fits_small (by have := h4 x hx; omega)) (fun x hx => by have := h4 x hx; omega) (by omega)).mono ?_
  rintro e w' ⟨⟨sv, l, rfl, hs, hm⟩, hb⟩
  refine ⟨⟨sv, l, rfl, hs, by have := hm.len; omega, fun x hx => ?_, fun t => rfl⟩, hb⟩
  obtain ⟨y, hy, _, e⟩ := hm.sub x hx
  rw [e]; exact h4 y hy
theorem sb_nil : Sb 1 0 (fun t => t) [] := ⟨Nat.le_refl _, (fun _ h => nomatch h), app_nil⟩

theorem thl_one (w w5 : World) (t : T) (pa : Option Addr) (ca : Nat) (vA vB vC : Value) (dA dB dC : List PR) (HB : Below w.heap.size w w5) (HT : TysAt w5 (.slice pa t.kids.length ca) t.kids) (hA : GP vA dA w5) (hB : GP vB dB w5) (hC : GP vC dC w5) :
    Calls Tryd.prog 81 #[vA] (w5.alloc (.cells #[.int .i64 t.kind, .string t.name, .slice pa t.kids.length ca] 29))
      fun e w' => (∃ sv l, e = .returned (.agg #[sv]) ∧ SubAt sv l w' ∧ Sb 56 4 (app l) l) ∧ BoxT w5.heap.size t pa ca w' ∧ (GP vB dB w' ∧ GP vC dC w') ∧ Below w.heap.size w w' := by
  have b1 := below_a w5 (.cells #[.int .i64 t.kind, .string t.name, .slice pa t.kids.length ca] 29)
  have k1 := BoxT.new (t := t) HT
  generalize w5.alloc (.cells #[.int .i64 t.kind, .string t.name, .slice pa t.kids.length ca] 29) = V at *
  refine (of_gp (hA.below b1)).mono ?_
  rintro e w' ⟨h1, hb⟩
  exact ⟨h1, k1.below hb, ⟨(hB.below b1).below hb, (hC.below b1).below hb⟩, (HB.trans (b1.mono HB.size)).trans (hb.mono (Nat.le_trans HB.size b1.size))⟩
theorem thl_two (w w6 : World) (b11 : Nat) (t : T) (pa : Option Addr) (ca : Nat) (sx : Value) (lx : List PR) (vB vC : Value) (dB dC : List PR) (HB : Below w.heap.size w w6) (H1 : BoxT b11 t pa ca w6) (hx : SubAt sx lx w6) (hB : GP vB dB w6) (hC : GP vC dC w6) :
    Calls Tryd.prog 81 #[vB] (w6.alloc (.cells #[sx] 33))
      fun e w' => (∃ sv l, e = .returned (.agg #[sv]) ∧ SubAt sv l w' ∧ Sb 56 4 (app l) l) ∧ (BoxT b11 t pa ca w' ∧ BoxS w6.heap.size sx lx w') ∧ GP vC dC w' ∧ Below w.heap.size w w' := by
  have b1 := below_a w6 (.cells #[sx] 33)
  have k1 := BoxS.new hx
  generalize w6.alloc (.cells #[sx] 33) = V at *
  refine (of_gp (hB.below b1)).mono ?_
  rintro e w' ⟨h1, hb⟩
  exact ⟨h1, ⟨(H1.below b1).below hb, k1.below hb⟩, (hC.below b1).below hb, (HB.trans (b1.mono HB.size)).trans (hb.mono (Nat.le_trans HB.size b1.size))⟩
theorem thl_three (w w7 : World) (b11 b12 : Nat) (t : T) (pa : Option Addr) (ca : Nat) (sx sy : Value) (lx ly : List PR) (vC : Value) (dC : List PR) (HB : Below w.heap.size w w7) (H1 : BoxT b11 t pa ca w7) (H2 : BoxS b12 sx lx w7) (hy : SubAt sy ly w7) (hC : GP vC dC w7) :
    Calls Tryd.prog 81 #[vC] (w7.alloc (.cells #[sy] 33))
      fun e w' => (∃ sv l, e = .returned (.agg #[sv]) ∧ SubAt sv l w' ∧ Sb 56 4 (app l) l) ∧ (BoxT b11 t pa ca w' ∧ BoxS b12 sx lx w' ∧ BoxS w7.heap.size sy ly w') ∧ Below w.heap.size w w' := by
  have b1 := below_a w7 (.cells #[sy] 33)
  have k1 := BoxS.new hy
  generalize w7.alloc (.cells #[sy] 33) = V at *
  refine (of_gp (hC.below b1)).mono ?_
  rintro e w' ⟨h1, hb⟩
  exact ⟨h1, ⟨(H1.below b1).below hb, (H2.below b1).below hb, k1.below hb⟩, (HB.trans (b1.mono HB.size)).trans (hb.mono (Nat.le_trans HB.size b1.size))⟩
theorem thl_start (w w8 : World) (b11 b12 b13 : Nat) (t : T) (pa : Option Addr) (ca : Nat) (sx sy sz : Value) (lx ly lz : List PR) (HB : Below w.heap.size w w8) (H1 : BoxT b11 t pa ca w8) (H2 : BoxS b12 sx lx w8) (H3 : BoxS b13 sy ly w8) (hz : SubAt sz lz w8) :
    SS w b11 b12 b13 w8.heap.size (w8.heap.size + 1) t pa ca sx sy sz lx ly lz (((w8.alloc (.cells #[sz] 33)).alloc (.cells #[.slice none 0 0] 33)).drew) := by
  have b1 := below_a w8 (.cells #[sz] 33)
  have k1 := BoxS.new hz
  have b2 := below_a (w8.alloc (.cells #[sz] 33)) (.cells #[.slice none 0 0] 33)
  have k2 : BoxS (w8.alloc (.cells #[sz] 33)).heap.size nilV [] ((w8.alloc (.cells #[sz] 33)).alloc (.cells #[.slice none 0 0] 33)) := BoxS.new (sub_nil _ _ _ (fun _ => rfl))
  have e : (w8.alloc (.cells #[sz] 33)).heap.size = w8.heap.size + 1 := by simp
  rw [e] at k2
  exact SS.below ⟨((H1.below b1).below b2), ⟨⟨(H2.below b1).below b2, (H3.below b1).below b2⟩, k1.below b2, k2⟩, (HB.trans (b1.mono HB.size)).trans (b2.mono (Nat.le_trans HB.size b1.size))⟩ (below_d _)
end Go.Proofs.YtdcfemojkdoakaaDoor
/- (Subst).Pairs as a call; small facts of loops over it. -/
namespace Go.Proofs.YtdcfemojkdoakaaDoor
open Go.RowKit Go.Sort Go.Lib
attribute [local go_sem] Oper.semAt_some

theorem block_kept {W W' : World} {row : Option Nat} {b : Nat} {c : Array Value} {t : TypeId} {m : Nat × Nat} (h : W.heap[b]? = some (.cells c t m)) (hg : W.grownBy W' row)
    (hr : ∀ r, row = some r → ∃ o : Obj, W.heap[r]? = some o ∧ o.isCells = false) : W'.heap[b]? = some (.cells c t m) := by
  refine (hg.block b (Array.getElem?_eq_some_iff.1 h).1 fun e => ?_).trans h
  obtain ⟨o, ho, hc⟩ := hr b e.symm
  rw [h] at ho; cases ho; cases hc
theorem below_others {X Y : World} (h : Below X.heap.size X Y) : KeepsOthers X Y := ⟨h.size, fun k _ hk _ => (h.block k (Array.getElem?_eq_some_iff.1 hk).1).trans hk⟩
theorem own_cells {W : World} {base : Nat} {e : TypeId} {size : Nat} {v : Value} {n : Nat} {xs : List Value} (h : W.ownsRow base e size v n xs) (j : Nat) (o : Obj) (hj : v.ownBlock = some j) (ho : W.heap[j]? = some o) : o.isCells = true := by
  rcases h.2 with ⟨rfl, _⟩ | ⟨g, cap, cur, rfl, _, hg, _⟩
  · cases hj
  · obtain rfl : g = j := by simpa [Value.ownBlock] using hj
    rw [hg] at ho; cases ho; rfl
theorem others_grown {X w1 : World} {o : Obj} {base : Nat} {e : TypeId} {size : Nat} {v : Value} {n : Nat} {xs : List Value} (h : X.ownsRow base e size v n xs) (hg : (X.alloc o).grownBy w1 v.ownBlock) : KeepsOthers X w1 :=
  (KeepsOthers.alloc X o).trans (KeepsOthers.of_grownBy hg fun j ob hj ho => by
    have hlt := (h.lt j hj).2
    rw [Below.heap_alloc X o j hlt] at ho
    exact own_cells h j ob hj ho)

/-- The name of the last one. -/
def lastN (pre : List PR) : ByteArray := (pre.getLast?.map PR.n).getD ⟨#[]⟩
theorem lastN_snoc (pre : List PR) (x : PR) : lastN (pre ++ [x]) = x.n := by simp [lastN]
/-- As many as there are ahead; the same names, the same types. -/
def Ahead (ls pre : List PR) : Prop := pre.length ≤ ls.length ∧ ∀ i, i < pre.length → (pre.getD i noP).n = (ls.getD i noP).n ∧ (pre.getD i noP).t = (ls.getD i noP).t
theorem Ahead.nil (ls : List PR) : Ahead ls [] := ⟨Nat.zero_le _, fun _ hi => absurd hi (Nat.not_lt_zero _)⟩
theorem Ahead.snoc {ls pre : List PR} (h : Ahead ls pre) {x : PR} (hx : pre.length < ls.length ∧ x.n = (ls.getD pre.length noP).n ∧ x.t = (ls.getD pre.length noP).t) : Ahead ls (pre ++ [x]) := by
  refine ⟨by simp; omega, fun i hi => ?_⟩
  rw [List.length_append, List.length_singleton] at hi
  by_cases e : i = pre.length
  · subst e
    have : (pre ++ [x]).getD pre.length noP = x := by simp [List.getD]
    rw [this]; exact hx.2
  · have hlt : i < pre.length := by omega
    have : (pre ++ [x]).getD i noP = pre.getD i noP := by simp [List.getD, List.getElem?_append_left hlt]
    rw [this]; exact h.2 i hlt
theorem Ahead.copy {ls q : List PR} (h : Ahead ls q) (hl : q.length = ls.length) : Copy q ls := ⟨hl, h.2⟩
/-- In a row in order the last one's name is less than the next one's. -/
theorem Ahead.less {ls pre : List PR} (h : Ahead ls pre) (hn : Neat ls) (h0 : pre ≠ []) {x : PR} (hx : pre.length < ls.length ∧ x.n = (ls.getD pre.length noP).n) : Op.bytesLess x.n.toList (lastN pre).toList = false ∧ ¬ x.n.toList = (lastN pre).toList := by
  have hp : 0 < pre.length := List.length_pos_iff.2 h0
  have e : lastN pre = (pre.getD (pre.length - 1) noP).n := by
    unfold lastN
    rw [List.getLast?_eq_getElem?]
    simp [List.getD, List.getElem?_eq_getElem (show pre.length - 1 < pre.length by omega)]
  rw [e, (h.2 _ (by omega)).1, hx.2]
  have hs := List.pairwise_iff_getElem.1 hn.1 (pre.length - 1) pre.length (by omega) hx.1 (by omega)
  have e1 : ls.getD (pre.length - 1) noP = ls[pre.length - 1]'(by omega) := by simp [List.getD, List.getElem?_eq_getElem (show pre.length - 1 < ls.length by omega)]
  have e2 : ls.getD pre.length noP = ls[pre.length]'hx.1 := by simp [List.getD, List.getElem?_eq_getElem hx.1]
  rw [e1, e2, Lib.toList_data, Lib.toList_data, less_cmpL]
  have := hs
  unfold cmpP at this
  have hu := cmpL_neg (ls[pre.length - 1]'(by omega)).n.data.toList (ls[pre.length]'hx.1).n.data.toList
  refine ⟨by simp; omega, fun e => ?_⟩
  rw [e, cmpL_zero.2 rfl] at this
  omega
theorem next_lk {ls : List PR} (hn : Neat ls) {i : Nat} (hi : i < ls.length) : lk (ls.getD i noP).n ls = some (ls.getD i noP) := lk_sorted hn.1 (getD_mem hi)
theorem next_own {ls : List PR} (hn : Neat ls) {i : Nat} (hi : i < ls.length) : (ls.getD i noP).t ≠ .var (ls.getD i noP).n := fun e => by
  have := hn.2 _ (getD_mem hi)
  rw [ownP_iff.2 e] at this; cases this
theorem kind_name {t : T} {n : ByteArray} (hk : t.kind = 1) (h : t ≠ .var n) : t.name ≠ n := by
  cases t with
  | var m => intro e; exact h (by simp only [T.name] at e; rw [e])
  | con m l => simp [T.kind] at hk
  | fn a b => simp [T.kind] at hk
  | all m a => simp [T.kind] at hk

/-- What the rounds keep: how many, the last name, the row of what was told; all that lay in V. -/
def QI (b M : Nat) (V : World) (ls : List PR) (s : Value) (pre : List PR) (X : World) : Prop :=
  ((X.heap[b + 1]? = some (.cells #[.int .i64 (pre.length : Int)] 3 (0, 0)) ∧ X.heap[b + 2]? = some (.cells #[.string (lastN pre)] 9 (0, 0)) ∧ X.heap[b + 3]? = some (.cells #[s] 31 (0, 0))) ∧
    X.ownsRow M 119 4 s pre.length (cellsP pre) ∧ (pre = [] → s = .slice none 0 0)) ∧ (Typ pre X ∧ Ahead ls pre) ∧ M ≤ X.heap.size ∧ Below (b + 1) V X
theorem QI.kept {b M : Nat} {V : World} {ls : List PR} {s : Value} {pre : List PR} {X Y : World} {row : Option Nat} (h : QI b M V ls s pre X) (hg : X.grownBy Y row) (hr : ∀ r, row = some r → ∃ o : Obj, X.heap[r]? = some o ∧ o.isCells = false) (hb : Below (b + 1) V Y) : QI b M V ls s pre Y :=
  ⟨⟨⟨block_kept h.1.1.1 hg hr, block_kept h.1.1.2.1 hg hr, block_kept h.1.1.2.2 hg hr⟩, row_kept h.1.2.1 fun _ _ _ hk => block_kept hk hg hr, h.1.2.2⟩, ⟨h.2.1.1.keep fun _ _ _ hk => block_kept hk hg hr, h.2.1.2⟩, Nat.le_trans h.2.2.1 hg.size, hb⟩
theorem QI.below {b M : Nat} {V : World} {ls : List PR} {s : Value} {pre : List PR} {X Y : World} (h : QI b M V ls s pre X) (hb : Below X.heap.size X Y) (hN : b + 1 ≤ M) : QI b M V ls s pre Y :=
  h.kept (row := none) (grown_of_below hb) (fun r e => by cases e) (h.2.2.2.trans (hb.mono (by have := h.2.2.1; omega)))
end Go.Proofs.YtdcfemojkdoakaaDoor
/- The document's Apply. -/
namespace Go.Proofs.YtdcfemojkdoakaaDoor
open Go.RowKit Go.Sort Go.Lib
attribute [local go_sem] Oper.semAt_some

/-- A type, where its row lies. -/
abbrev Tl := T × Option Addr × Nat
/-- The cells of a row of types. -/
def cellsOf (l : List Tl) : List Value := l.flatMap (fun x => [.int .i64 x.1.kind, .string x.1.name, .slice x.2.1 x.1.kids.length x.2.2])
theorem cellsOf_snoc (l : List Tl) (x : Tl) : cellsOf (l ++ [x]) = cellsOf l ++ [.int .i64 x.1.kind, .string x.1.name, .slice x.2.1 x.1.kids.length x.2.2] := by simp [cellsOf]
theorem cellsOf_cons (x : Tl) (l : List Tl) : cellsOf (x :: l) = [.int .i64 x.1.kind, .string x.1.name, .slice x.2.1 x.1.kids.length x.2.2] ++ cellsOf l := by simp [cellsOf]
theorem cellsOf_at (l : List Tl) (i : Nat) (h : i < l.length) : (cellsOf l)[i * 3]? = some (.int .i64 l[i].1.kind) ∧ (cellsOf l)[i * 3 + 1]? = some (.string l[i].1.name) ∧ (cellsOf l)[i * 3 + 2]? = some (.slice l[i].2.1 l[i].1.kids.length l[i].2.2) := by
  induction l generalizing i with
  | nil => cases h
  | cons x l ih =>
    rw [cellsOf_cons]
    cases i with
    | zero => exact ⟨rfl, rfl, rfl⟩
    | succ i =>
      have := ih i (by simpa using h)
      rw [show (i + 1) * 3 = i * 3 + 3 by omega, List.getElem?_append_right (by simp), List.getElem?_append_right (by simp), List.getElem?_append_right (by simp)]
      simp only [List.length_cons, List.length_nil, List.getElem_cons_succ]
      rw [show i * 3 + 3 - (0 + 1 + 1 + 1) = i * 3 by omega, show i * 3 + 3 + 1 - (0 + 1 + 1 + 1) = i * 3 + 1 by omega, show i * 3 + 3 + 2 - (0 + 1 + 1 + 1) = i * 3 + 2 by omega]
      exact this
/-- A row of types out of its cells, in blocks that are ok. -/
theorem in_of_row {ok : Nat → Prop} {W : World} {B : Nat} {v : Value} {xs : List Tl} {t : T} (ht : t.kids = xs.map (·.1)) (h : W.ownsRow B 29 3 v xs.length (cellsOf xs)) (hv : ∀ g, v.ownBlock = some g → ok g) (hk : ∀ x ∈ xs, TyIn ok W x.1 (.slice x.2.1 x.1.kids.length x.2.2)) : TyIn ok W t v := by
  have hlen : t.kids.length = xs.length := by rw [ht]; simp
  rcases h.2 with ⟨rfl, h0⟩ | ⟨g, cap, cur, rfl, _, hg, hc, _, hsz, htk⟩
  · exact .leaf t none 0 (List.length_eq_zero_iff.1 (hlen.trans h0))
  · have hat : ∀ j, j < xs.length * 3 → cur[j]? = (cellsOf xs)[j]? := fun j hj => by
      rw [← htk, List.getElem?_take, if_pos hj, Array.getElem?_toList]
    rw [← hlen]
    refine .row t g cap cur (0, 0) (fun i => if h : i < xs.length then .slice xs[i].2.1 xs[i].1.kids.length xs[i].2.2 else undef) (hv g rfl) hg (by omega) (fun i hi => ?_) (fun i hi => ?_)
    · have hi' : i < xs.length := by omega
      obtain ⟨e1, e2, e3⟩ := cellsOf_at xs i hi'
      have ek : t.kids[i] = xs[i].1 := by simp [ht]
      simp only [dif_pos hi', ek]
      exact ⟨(hat _ (by omega)).trans e1, (hat _ (by omega)).trans e2, (hat _ (by omega)).trans e3⟩
    · have hi' : i < xs.length := by omega
      have ek : t.kids[i] = xs[i].1 := by simp [ht]
      simp only [dif_pos hi', ek]
      exact hk _ (List.getElem_mem hi')
/-- A part of a row. -/
theorem TyIn.part {K : Nat → Prop} {X : World} {t : T} {a : Option Addr} {c : Nat} (h : TyIn K X t (.slice a t.kids.length c)) (i : Nat) (hi : i < t.kids.length) : ∃ g pa ca, a = some ⟨g, 0, none⟩ ∧ t.kids.length ≤ c ∧ ∀ W, KeepK K X W → (g < W.heap.size ∧ W.cell? ⟨g, i * 3, none⟩ = some (.int .i64 t.kids[i].kind) ∧ W.cell? ⟨g, i * 3 + 1, none⟩ = some (.string t.kids[i].name) ∧ W.cell? ⟨g, i * 3 + 2, none⟩ = some (.slice pa t.kids[i].kids.length ca)) ∧ TyIn K W t.kids[i] (.slice pa t.kids[i].kids.length ca) := by
  obtain ⟨v, hv⟩ : ∃ v, v = Value.slice a t.kids.length c := ⟨_, rfl⟩
  rw [← hv] at h
  cases h with
  | leaf _ _ _ h0 => rw [h0] at hi; cases hi
  | row _ g cap cs fz z h0 h1 h2 h3 h4 =>
    cases hv
    obtain ⟨pa, ca, e⟩ := (h4 i hi).shape
    obtain ⟨c1, c2, c3⟩ := h3 i hi
    rw [e] at c3
    refine ⟨g, pa, ca, rfl, h2, fun W hk => ?_⟩
    have hW := (hk g h0 (Array.getElem?_eq_some_iff.1 h1).1).trans h1
    refine ⟨⟨(Array.getElem?_eq_some_iff.1 hW).1, ?_, ?_, ?_⟩, ?_⟩
    · simp only [World.cell?, hW]; simpa using c1
    · simp only [World.cell?, hW]; simpa using c2
    · simp only [World.cell?, hW]; simpa using c3
    · rw [← e]; exact (h4 i hi).keepK hk

/-- The pairs that the document's Apply is handed: their types' rows lie ahead of N. -/
def Src4 (N : Nat) (v : Value) (d : List PR) (w : World) : Prop := GivenG 73 v d w ∧ (∀ x ∈ d, TyIn (fun k => k < N) w x.t (.slice x.a x.t.kids.length x.c)) ∧ N ≤ w.heap.size
theorem Src4.below {N : Nat} {v : Value} {d : List PR} {w W : World} (h : Src4 N v d w) (hb : Below w.heap.size w W) : Src4 N v d W :=
  ⟨h.1.below hb, fun x hx => (h.2.1 x hx).keep fun k _ _ hk hh => (hb.block k (by have := h.2.2; omega)).trans hh, Nat.le_trans h.2.2 hb.size⟩
def RApp (d : List PR) (t : T) : Prop := ∀ (N : Nat) (v : Value) (a : Option Addr) (c : Nat) (w : World), Src4 N v d w → TyIn (fun k => k < N) w t (.slice a t.kids.length c) → tsize t ≤ 1000000000 →
    Calls Tryd.prog 15 #[v, tyV t (.slice a t.kids.length c)] w fun e w' => (∃ a' c', e = .returned (tyV (app d t) (.slice a' (app d t).kids.length c')) ∧ TyIn (fun k => k < N ∨ w.heap.size ≤ k) w' (app d t) (.slice a' (app d t).kids.length c')) ∧ Below w.heap.size w w'

set_option maxRecDepth 100000 in
set_option maxHeartbeats 4000000 in
theorem rapp_var (d : List PR) (hl : d.length < 1000000) (n : ByteArray) : RApp d (.var n) := by
  intro N v a c w hs ht hz
  have HG := Lib.hid (fun (V : World) (hb : Below w.heap.size w V) => rget_any v d n V (hs.1.below hb) (by omega))
  have HS := Lib.hid hs
  obtain ⟨av, cv, rfl, _⟩ := hs.1.shape
  have HB2 := Lib.hid (fun o1 o2 => below_two w o1 o2)
  have e0 : (T.var n).kids.length = 0 := rfl
  have e1 : (T.var n).kind = 1 := rfl
  have e2 : (T.var n).name = n := rfl
  obtain ⟨res, hres⟩ : ∃ r, lk n d = r := ⟨_, rfl⟩
  have HRes := Lib.hid hres
  have hap : app d (.var n) = ((res.map PR.t).getD (.var n)) := by rw [app_v]; unfold ty; rw [hres]
  rw [hap]
  simp only [tyV, e0, e1, e2]
  clear hs ht hz hap e0 e1 e2
  rw [hres] at HG
  clear hres
  go_enter Tryd.func15, Tryd.ntmps15
  cases res with
  | none =>
    simp only [fv', Option.isSome_none, Option.map_none, Option.getD_none] at HG ⊢
    go_wp2_with (go_at_call 46; refine (HG.out _ (HB2.out _ _)).mono ?_)
    rintro e w2 ⟨rfl, hb2⟩
    have hbw : Below w.heap.size w w2 := (HB2.out _ _).trans (hb2.mono (by simp; omega))
    have hy := (hb2.block w.heap.size (by simp; omega)).trans ((Below.heap_alloc _ _ _ (by simp)).trans (alloc_new w _))
    have hz := (hb2.block (w.heap.size + 1) (by simp)).trans (new_two w _ _)
    obtain ⟨y0, y1, y2⟩ := three_cells hy
    obtain ⟨z0, z1, z2⟩ := three_cells hz
    have u0 := Lib.frozen_of_heap hz 0
    have u1 := Lib.frozen_of_heap hz 1
    have u2 := Lib.frozen_of_heap hz 2
    have ly := (Array.getElem?_eq_some_iff.1 hy).1
    have lz := (Array.getElem?_eq_some_iff.1 hz).1
    have HB := Lib.hid hbw
    have HZ := Lib.hid hz
    have lW : w.heap.size < w2.heap.size := by omega
    clear hb2 hbw hy hz HG
    go_wp2
    have hs3 := set3_block HZ.out (.int .i64 1) (.string n) (.slice a 0 c)
    have hc := three_cells ((Below.heap_alloc _ (.cells #[.int .i64 0, .string ⟨#[]⟩, .slice none 0 0] 29) _ (Array.getElem?_eq_some_iff.1 hs3).1).trans hs3)
    exact bodyPost_ret (v := .agg #[.int .i64 1, .string n, .slice a 0 c]) (by simp [results, Tryd.results15, go_sem, hc.1, hc.2.1, hc.2.2]) rfl ⟨⟨a, c, rfl, .leaf _ _ _ rfl⟩, (below_set3 HB.out (Nat.le_succ _) _ _ _).alloc (by have := HB.out.size; simp; omega) _⟩
  | some x =>
    simp only [fv', Option.isSome_some, Option.map_some, Option.getD_some] at HG ⊢
    have HX := Lib.hid (HS.out.2.1 x (lk_name HRes.out).1)
    have HN := Lib.hid HS.out.2.2
    go_wp2_with (go_at_call 46; refine (HG.out _ (HB2.out _ _)).mono ?_)
    rintro e w2 ⟨rfl, hb2⟩
    have hbw : Below w.heap.size w w2 := (HB2.out _ _).trans (hb2.mono (by simp; omega))
    have hy := (hb2.block w.heap.size (by simp; omega)).trans ((Below.heap_alloc _ _ _ (by simp)).trans (alloc_new w _))
    have hz := (hb2.block (w.heap.size + 1) (by simp)).trans (new_two w _ _)
    obtain ⟨y0, y1, y2⟩ := three_cells hy
    obtain ⟨z0, z1, z2⟩ := three_cells hz
    have u0 := Lib.frozen_of_heap hz 0
    have u1 := Lib.frozen_of_heap hz 1
    have u2 := Lib.frozen_of_heap hz 2
    have ly := (Array.getElem?_eq_some_iff.1 hy).1
    have lz := (Array.getElem?_eq_some_iff.1 hz).1
    have HB := Lib.hid hbw
    have HZ := Lib.hid hz
    have lW : w.heap.size < w2.heap.size := by omega
    clear hb2 hbw hy hz HG
    go_wp2
    have hs3 := set3_block HZ.out (.int .i64 x.t.kind) (.string x.t.name) (.slice x.a x.t.kids.length x.c)
    have hc := three_cells ((Below.heap_alloc _ (.cells #[.int .i64 x.t.kind, .string x.t.name, .slice x.a x.t.kids.length x.c] 29) _ (Array.getElem?_eq_some_iff.1 hs3).1).trans hs3)
    refine bodyPost_ret (v := .agg #[.int .i64 x.t.kind, .string x.t.name, .slice x.a x.t.kids.length x.c]) (by simp [results, Tryd.results15, go_sem, hc.1, hc.2.1, hc.2.2]) rfl ⟨⟨x.a, x.c, rfl, ?_⟩, (below_set3 HB.out (Nat.le_succ _) _ _ _).alloc (by have := HB.out.size; simp; omega) _⟩
    refine (HX.out.keep fun k _ _ hk hh => ?_).mono fun k hk => .inl hk
    have hkw : k < w.heap.size := Nat.lt_of_lt_of_le hk HN.out
    exact (Below.heap_alloc _ _ k (by simp; omega)).trans ((set3_others _ _ _ (by omega)).trans ((HB.out.block k hkw).trans hh))
end Go.Proofs.YtdcfemojkdoakaaDoor
/- The document's Apply, of all types. -/
namespace Go.Proofs.YtdcfemojkdoakaaDoor
open Go.RowKit Go.Sort Go.Lib
attribute [local go_sem] Oper.semAt_some

/-- One more at the row's end: what lay beside the row lies beside it still. -/
theorem beside_next {ok : Nat → Prop} {X w1 : World} {o : Obj} {s v' : Value} {g : Nat} {xs : List Tl} {x : Tl} (hx : ∀ y ∈ xs, TyIn (fun k => ok k ∧ some k ≠ s.ownBlock) X y.1 (.slice y.2.1 y.1.kids.length y.2.2)) (hnew : TyIn (fun k => ok k ∧ some k ≠ s.ownBlock) X x.1 (.slice x.2.1 x.1.kids.length x.2.2))
    (hg : (X.alloc o).grownBy w1 s.ownBlock) (hat : s.ownBlock = some g ∨ g = (X.alloc o).heap.size) (hv' : v'.ownBlock = some g) : ∀ y ∈ xs ++ [x], TyIn (fun k => ok k ∧ some k ≠ v'.ownBlock) w1 y.1 (.slice y.2.1 y.1.kids.length y.2.2) := by
  have key : ∀ {t : T} {v : Value}, TyIn (fun k => ok k ∧ some k ≠ s.ownBlock) X t v → TyIn (fun k => ok k ∧ some k ≠ v'.ownBlock) w1 t v := fun {t v} ht => by
    have hgk : ∀ k, some k ≠ s.ownBlock ∧ k < X.heap.size → k ≠ g := fun k hk e => by
      subst e
      rcases hat with e | e
      · exact hk.1 e.symm
      · have := hk.2; simp at e; omega
    refine (ht.lt.keep fun k cs fz hk hh => ?_).mono fun k hk => ⟨hk.1.1, by rw [hv']; exact fun e => hgk k ⟨hk.1.2, hk.2⟩ (by simpa using e)⟩
    exact (hg.block k (by simp; omega) hk.1.2).trans ((Below.heap_alloc X o k hk.2).trans hh)
  intro y hy
  rcases List.mem_append.1 hy with hy | hy
  · exact key (hx y hy)
  · rw [List.mem_singleton.1 hy]; exact key hnew
theorem cell_new3 (w : World) (x y z : Value) (t : TypeId) : ∀ j v, [x, y, z][j]? = some v → (w.alloc (.cells #[x, y, z] t)).cell? ((⟨w.heap.size, 0, none⟩ : Addr).add j) = some v := by
  intro j v hv
  have hadd : (⟨w.heap.size, 0, none⟩ : Addr).add j = ⟨w.heap.size, j, none⟩ := by unfold Addr.add; split <;> simp_all
  rw [hadd]
  have := alloc_new w (.cells #[x, y, z] t)
  simp only [World.cell?, this]
  match j, hv with
  | 0, hv => simpa using hv
  | 1, hv => simpa using hv
  | 2, hv => simpa using hv
  | n + 3, hv => simp at hv
/-- What the loop keeps. -/
def AI (N : Nat) (w : World) (l : List T) (v : Value) (n : Nat) (wr : World) : Prop :=
  (∃ xs : List Tl, (xs.map (·.1) = l ∧ n = xs.length) ∧ wr.ownsRow (w.heap.size + 1 + 1) 29 3 v xs.length (cellsOf xs) ∧ ∀ x ∈ xs, TyIn (fun k => (k < N ∨ w.heap.size + 1 + 1 ≤ k) ∧ some k ≠ v.ownBlock) wr x.1 (.slice x.2.1 x.1.kids.length x.2.2)) ∧ Below w.heap.size w wr ∧ w.heap.size + 1 + 1 ≤ wr.heap.size
theorem AI.below {N : Nat} {w : World} {l : List T} {v : Value} {n : Nat} {X Y : World} (h : AI N w l v n X) (hb : Below X.heap.size X Y) : AI N w l v n Y := by
  obtain ⟨⟨xs, h1, h2, h3⟩, h4, h5⟩ := h
  refine ⟨⟨xs, h1, row_kept h2 fun k _ _ hk => (hb.block k (Array.getElem?_eq_some_iff.1 hk).1).trans hk, fun x hx => (h3 x hx).keep fun k _ _ _ hk => (hb.block k (Array.getElem?_eq_some_iff.1 hk).1).trans hk⟩, h4.trans (hb.mono h4.size), Nat.le_trans h5 hb.size⟩

set_option maxRecDepth 100000 in
set_option maxHeartbeats 4000000 in
theorem rapp_step (d : List PR) (t : T) (hv : ∀ n, t ≠ .var n) (H : ∀ k ∈ t.kids, RApp d k) : RApp d t := by
  intro N v a c w hs ht hz
  have hz' := tsize_eq t
  have hlen := len_sizes' t.kids
  have hk1 := kind_one hv
  obtain ⟨p1, p2, p3⟩ := app_parts d t hv
  have HS := Lib.hid hs
  have HR := Lib.hid ht.part
  have HH := Lib.hid H
  have HN := Lib.hid hs.2.2
  obtain ⟨av, cv, rfl, _⟩ := hs.1.shape
  obtain ⟨i0, hi, hz0, hz1, hz2⟩ := info_parts Tryd.infoTy
  have HB2 := Lib.hid (fun o1 o2 => below_two w o1 o2)
  have HP := Lib.hid (And.intro p1 (And.intro p2 p3))
  clear hs ht H p1 p2 p3 hv
  simp only [tyV]
  go_enter Tryd.func15, Tryd.ntmps15
  go_wp2
  go_loopw [7, 8] (fun vo vi wr => ∃ (i n e : Nat) (b : Option Addr), i ≤ t.kids.length ∧ vi = .int .i64 i ∧ vo = .slice b n e ∧ Hid (AI N w ((t.kids.take i).map (app d)) (.slice b n e) n wr) ∧ Hid (wr.heap[w.heap.size]? = some (.cells #[.int .i64 t.kind, .string t.name, .slice a t.kids.length c] 29 (0, 0)) ∧ wr.heap[w.heap.size + 1]? = some (.cells #[.int .i64 0, .string ⟨#[]⟩, .slice none 0 0] 29 (0, 0)))) (fun _ vi _ => t.kids.length - (intOf vi).toNat)
  case atStart =>
    exact ⟨0, 0, 0, none, Nat.zero_le _, rfl, rfl, Lib.hid ⟨⟨[], ⟨rfl, rfl⟩, World.ownsRow_nil _ _ _ _, (fun _ h => nomatch h)⟩, HB2.out _ _, by simp⟩, Lib.hid ⟨(Below.heap_alloc _ _ _ (by simp)).trans (alloc_new w _), new_two w _ _⟩⟩
  case round =>
    obtain ⟨i, n, e, b, hi', rfl, rfl, hF, hBox⟩ := hrel
    obtain ⟨b0, b1, b2⟩ := three_cells hBox.out.1
    obtain ⟨z0, z1, z2⟩ := three_cells hBox.out.2
    have lz := (Array.getElem?_eq_some_iff.1 hBox.out.2).1
    have ly := (Array.getElem?_eq_some_iff.1 hBox.out.1).1
    by_cases hlt : i < t.kids.length
    · obtain ⟨⟨xs, ⟨hx1, rfl⟩, hrow, hbs⟩, hBl, hsz⟩ := hF.out
      obtain ⟨g, pa, ca, rfl, hcap, hr⟩ := HR.out i hlt
      obtain ⟨⟨hg, x0, x1, x2⟩, xk⟩ := hr wr (fun k hk hx => hBl.block k hx)
      have hkk := size_mem' (List.getElem_mem hlt)
      have HC := Lib.hid (HH.out t.kids[i] (List.getElem_mem hlt) N _ pa ca wr (HS.out.below hBl) xk (by omega))
      obtain rfl : i = xs.length := by have := congrArg List.length hx1; simp at this; omega
      have HTk := Lib.hid (show (t.kids.take (xs.length + 1)).map (app d) = (t.kids.take xs.length).map (app d) ++ [app d t.kids[xs.length]] by rw [List.take_succ_eq_append_getElem hlt, List.map_append]; rfl)
      have HX1 := Lib.hid hx1
      have HRow := Lib.hid hrow; have HBs := Lib.hid hbs; have HBl := Lib.hid hBl; have HSz := Lib.hid hsz
      have HPc := Lib.hid HP.out.1
      clear hr xk hkk HH HR hx1 hrow hbs hBl hF
      generalize t.kids[xs.length] = u at x0 x1 x2 HC HTk
      simp only [tyV] at HC
      have hlt1 : ((xs.length : Int) < (t.kids.length : Int)) := by omega
      have hxs : xs.length ≤ 1000000000 := by omega
      go_wp2_with (first
        | (go_at_call 15; refine HC.out.mono ?_; rintro e2 w2 ⟨⟨a2, c2, rfl, g1⟩, g2⟩; have G1 := Lib.hid g1; have G2 := Lib.hid g2; have hq1 := (g2.block _ ly).trans hBox.out.1; have hq2 := (g2.block _ lz).trans hBox.out.2; have HBox2 := Lib.hid (And.intro hq1 hq2); have HRow2 := Lib.hid (row_kept HRow.out fun k cs fz hk => (g2.block k (Array.getElem?_eq_some_iff.1 hk).1).trans hk); clear g1 g2 hq1 hq2)
        | (at_builtin; refine wpList_append_lies _ rfl _ _ 27 rfl (w.heap.size + 1 + 1) 29 i0 (.agg #[.int .i64 0, .string ⟨#[]⟩, .slice none 0 0]) 3 48 Tryd.underlying27 hi hz0 hz1 hz2 rfl (by decide) _ _ _ rfl (HRow2.out.alloc _) ⟨w2.heap.size, 0, none⟩ 1 1 [.int .i64 (app d u).kind, .string (app d u).name, .slice a2 (app d u).kids.length c2] rfl rfl (cell_new3 _ _ _ _ _) (by simp [Value.oneCell']) (by decide) (by unfold maxLen; omega) (by omega) (by have := HSz.out; have := G2.out.size; simp; omega) _ rfl ?_; intro g3 cap3 w3 ho3 hg3 hat3 hlt3; have HO3 := Lib.hid ho3; have HG3 := Lib.hid hg3; have HAt3 := Lib.hid hat3; clear ho3 hg3 hat3 hlt3))
      go_roundw
      case rel =>
        have hlo := HRow.out.lt
        have hw2 := G2.out.size
        have hwl := HBl.out.size
        refine ⟨xs.length + 1, xs.length + 1, cap3, some ⟨g3, 0, none⟩, by omega, by go_num, rfl, Lib.hid ⟨⟨xs ++ [(app d u, a2, c2)], ⟨?_, by simp⟩, ?_, ?_⟩, ?_, ?_⟩, Lib.hid ⟨?_, ?_⟩⟩
        · rw [HTk.out, List.map_append, HX1.out]; rfl
        · rw [cellsOf_snoc, List.length_append]; exact HO3.out
        · refine beside_next (fun y hy => (HBs.out y hy).keep fun k _ _ _ hk => (G2.out.block k (Array.getElem?_eq_some_iff.1 hk).1).trans hk) (G1.out.mono fun k hk => ⟨?_, fun e => ?_⟩) HG3.out HAt3.out rfl
          · rcases hk with hk | hk
            · exact .inl hk
            · exact .inr (Nat.le_trans HSz.out hk)
          · have := hlo k e.symm
            have := HN.out
            rcases hk with hk | hk <;> omega
        · exact ((HBl.out.trans (G2.out.mono hwl)).alloc (by omega) _).grown HG3.out (by simp; omega) (fun j hj => by have := (hlo j hj).1; omega)
        · have := HG3.out.size; simp at this; omega
        · exact (HG3.out.block _ (by simp; omega) (fun e => by have := (hlo _ e.symm).1; omega)).trans ((Below.heap_alloc w2 _ _ (by omega)).trans HBox2.out.1)
        · exact (HG3.out.block _ (by simp; omega) (fun e => by have := (hlo _ e.symm).1; omega)).trans ((Below.heap_alloc w2 _ _ (by omega)).trans HBox2.out.2)
      case measure => simp [intOf]; omega
    · obtain rfl : i = t.kids.length := by omega
      rw [List.take_length] at hF
      have fb := Lib.frozen_of_heap hBox.out.1 2
      have u0 := Lib.frozen_of_heap hBox.out.2 0
      have u1 := Lib.frozen_of_heap hBox.out.2 1
      have u2 := Lib.frozen_of_heap hBox.out.2 2
      clear HR HH HS
      go_wp2
      obtain ⟨⟨xs, ⟨hx1, rfl⟩, hrow, hbs⟩, hBl, hsz⟩ := hF.out
      have hz4 := (Below.heap_setCell wr ⟨w.heap.size, 2, none⟩ (.slice b xs.length e) (w.heap.size + 1) (by simp)).trans hBox.out.2
      have hs3 := set3_block hz4 (.int .i64 t.kind) (.string t.name) (.slice b xs.length e)
      have hc := three_cells hs3
      have hlen2 : (app d t).kids.length = xs.length := by rw [HP.out.2.2, ← hx1]; simp
      have hin : TyIn (fun k => k < N ∨ w.heap.size + 1 + 1 ≤ k) wr (app d t) (.slice b xs.length e) := in_of_row (by rw [HP.out.2.2, hx1]) hrow (fun g hg => .inr (hrow.lt g hg).1) (fun x hx => (hbs x hx).mono fun k hk => hk.1)
      refine bodyPost_ret (v := .agg #[.int .i64 t.kind, .string t.name, .slice b xs.length e]) (by simp [results, Tryd.results15, go_sem, hc.1, hc.2.1, hc.2.2]) rfl ⟨⟨b, e, by rw [HP.out.1, HP.out.2.1, hlen2], ?_⟩, below_set3 (hBl.setCell (p := ⟨w.heap.size, 2, none⟩) (Nat.le_refl _) _) (Nat.le_succ _) _ _ _⟩
      rw [hlen2]
      refine (hin.keep fun k _ _ hk hh => ?_).mono fun k hk => hk.imp id (fun h => by omega)
      have hkN : k ≠ w.heap.size ∧ k ≠ w.heap.size + 1 := by have := HN.out; rcases hk with hk | hk <;> omega
      exact (set3_others _ _ _ hkN.2).trans ((Below.heap_setCell wr ⟨w.heap.size, 2, none⟩ _ k hkN.1).trans hh)
theorem rapp_ok (d : List PR) (hl : d.length < 1000000) (t : T) : RApp d t :=
  T.by_kids (P := RApp d) (fun t H => by
    cases t with
    | var n => exact rapp_var d hl n
    | con n l => exact rapp_step d _ (fun m h => by cases h) H
    | fn a b => exact rapp_step d _ (fun m h => by cases h) H
    | all n a => exact rapp_step d _ (fun m h => by cases h) H) t
/-- The document's Apply, whose result is told. -/
theorem rapp_big {d : List PR} {v : Value} {t : T} {a : Option Addr} {c : Nat} {w : World} (hl : d.length < 1000000) (hg : GivenG 73 v d w) (ht : Typ d w) (h : TysAt w (.slice a t.kids.length c) t.kids) (hz : tsize t ≤ 1000000000) :
    Calls Tryd.prog 15 #[v, .agg #[.int .i64 t.kind, .string t.name, .slice a t.kids.length c]] w fun e Y => (∃ za zc, e = .returned (.agg #[.int .i64 (app d t).kind, .string (app d t).name, .slice za (app d t).kids.length zc]) ∧ TysAt Y (.slice za (app d t).kids.length zc) (app d t).kids) ∧ Below w.heap.size w Y := by
  have lt : ∀ (k : Nat) (cs : Array Value) (fz : Nat × Nat), w.heap[k]? = some (.cells cs 29 fz) → k < w.heap.size := fun k _ _ hk => (Array.getElem?_eq_some_iff.1 hk).1
  refine (rapp_ok d hl t w.heap.size v a c w ⟨hg, fun x hx => (ht x hx).inside lt, Nat.le_refl _⟩ (h.inside lt) hz).mono ?_
  rintro e Y ⟨⟨a', c', rfl, hin⟩, hb⟩
  exact ⟨⟨a', c', rfl, hin.tys⟩, hb⟩
theorem rapp_ret {d : List PR} {v : Value} {t : T} {a : Option Addr} {c : Nat} {w : World} (hl : d.length < 1000000) (hg : GivenG 73 v d w) (ht : Typ d w) (h : TysAt w (.slice a t.kids.length c) t.kids) (hz : tsize t ≤ 1000000) :
    Calls Tryd.prog 15 #[v, .agg #[.int .i64 t.kind, .string t.name, .slice a t.kids.length c]] w fun e Y => (∃ za zc, e = .returned (.agg #[.int .i64 (app d t).kind, .string (app d t).name, .slice za (app d t).kids.length zc]) ∧ TysAt Y (.slice za (app d t).kids.length zc) (app d t).kids) ∧ Below w.heap.size w Y :=
  rapp_big hl hg ht h (Nat.le_trans hz (by decide))
end Go.Proofs.YtdcfemojkdoakaaDoor
