/- The search, as plain data: its rings are the classes of mutual need, and what a ring needs has a number that is no greater. -/
import Derived.Test.YtlpifioneafciaaGrTarA
namespace Go.Proofs.Ytlpifioneafciaa
open Go.RowKit Go.Maps Go.Lib

/-- One leads to the other, by however many needs. -/
inductive Rch (needs : Nat → List Nat) : Nat → Nat → Prop
  | refl (a : Nat) : Rch needs a a
  | step {a b c : Nat} : b ∈ needs a → Rch needs b c → Rch needs a c
theorem Rch.trans {needs : Nat → List Nat} {a b c : Nat} (h : Rch needs a b) (g : Rch needs b c) : Rch needs a c := by
  induction h with
  | refl _ => exact g
  | step h1 _ ih => exact .step h1 (ih g)
theorem Rch.one {needs : Nat → List Nat} {a b : Nat} (h : b ∈ needs a) : Rch needs a b := .step h (.refl b)
/-- What stays true of the search. -/
structure CL (ex : Nat → Prop) (n : Nat) (needs : Nat → List Nat) (s : SS) : Prop where
  fresh : ∀ i, i < n → s.met i = 0 → s.rest i = needs i
  suf : ∀ i, i < n → ∃ d, needs i = d ++ s.rest i ∧ (∀ x ∈ d, s.met x ≠ 0 ∨ ex x) ∧ ∀ p ∈ s.path, i ∈ s.opn → s.met p ≤ s.met i → (∀ q ∈ s.path, s.met q ≤ s.met i → s.met q ≤ s.met p) → ∀ u ∈ d, u ∈ s.opn → s.low p ≤ s.met u
  off : ∀ i ∈ s.opn, i ∉ s.path → s.rest i = [] ∧ s.low i < s.met i
  way : ∀ p ∈ s.path, ∀ x ∈ s.opn, s.met p ≤ s.met x → Rch needs p x
  lows : ∀ x ∈ s.opn, ∃ u ∈ s.opn, s.met u = s.low x ∧ Rch needs x u
  cl : ∀ i, i < n → s.met i = grTop → s.ring i < s.rings ∧ ∀ x ∈ needs i, s.met x = grTop ∧ s.ring x ≤ s.ring i
  eq : ∀ i j, i < n → j < n → s.met i = grTop → s.met j = grTop → s.ring i = s.ring j → Rch needs i j
def noneX : Nat → Prop := fun _ => False
theorem CL.meet {n a : Nat} {needs : Nat → List Nat} {s : SS} (h : CL (fun x => x = a) n needs s) (hpo : ∀ x ∈ s.path, x ∈ s.opn) (hon : ∀ x ∈ s.opn, 1 ≤ s.met x ∧ s.met x ≤ s.count) (hlo : ∀ x ∈ s.opn, s.low x ≤ s.met x) (ha : s.met a = 0) (hc : s.count + 1 < grTop) (hw : ∀ p ∈ s.path, Rch needs p a) : CL noneX n needs (s.meet a) := by
  have hao : a ∉ s.opn := fun e => by have := (hon a e).1; omega
  have mt : ∀ x, x ≠ a → updN s.met a (s.count + 1) x = s.met x := fun x hx => updN_other _ _ hx
  have lw : ∀ x, x ≠ a → updN s.low a (s.count + 1) x = s.low x := fun x hx => updN_other _ _ hx
  have ma : updN s.met a (s.count + 1) a = s.count + 1 := updN_same ..
  have la : updN s.low a (s.count + 1) a = s.count + 1 := updN_same ..
  have ne : ∀ x ∈ s.opn, x ≠ a := fun x hx e => hao (e ▸ hx)
  have memo : ∀ x, x ∈ s.opn ++ [a] → x ∈ s.opn ∨ x = a := fun x hx => by simpa using hx
  have memp : ∀ x, x ∈ s.path ++ [a] → x ∈ s.path ∨ x = a := fun x hx => by simpa using hx
  refine ⟨fun i hi hz => ?_, fun i hi => ?_, fun i hi hp => ?_, fun p hp x hx hle => ?_, fun x hx => ?_, fun i hi hm => ?_, fun i j hi hj hmi hmj hr => ?_⟩
  · have e : i ≠ a := fun e => by subst e; have hz' : updN s.met i (s.count + 1) i = 0 := hz; rw [ma] at hz'; omega
    exact h.fresh i hi ((mt i e).symm.trans hz)
  · by_cases e : i = a
    · subst e
      exact ⟨[], (h.fresh i hi ha).symm, fun x hx => (List.not_mem_nil hx).elim, fun _ _ _ _ _ u hu => (List.not_mem_nil hu).elim⟩
    · obtain ⟨d, h1, h2, h3⟩ := h.suf i hi
      refine ⟨d, h1, fun x hx => .inl ?_, fun p hp ho hle hq u hu huo => ?_⟩
      · show updN s.met a (s.count + 1) x ≠ 0
        by_cases ex : x = a
        · rw [ex, ma]; omega
        · rw [mt x ex]; exact (h2 x hx).resolve_right ex
      · have ho' : i ∈ s.opn := (memo i ho).resolve_right e
        have hle' : updN s.met a (s.count + 1) p ≤ updN s.met a (s.count + 1) i := hle
        have hic := (hon i ho').2
        rw [mt i e] at hle'
        have hpa : p ≠ a := fun e => by rw [e, ma] at hle'; omega
        rw [mt p hpa] at hle'
        have hpp := (memp p hp).resolve_right hpa
        show updN s.low a (s.count + 1) p ≤ updN s.met a (s.count + 1) u
        rw [lw p hpa]
        rcases memo u huo with h4 | h4
        · rw [mt u (ne u h4)]
          refine h3 p hpp ho' hle' (fun q hq1 hq2 => ?_) u hu h4
          have hqa := ne q (hpo q hq1)
          have h5 := hq q (List.mem_append_left _ hq1) (show updN s.met a (s.count + 1) q ≤ updN s.met a (s.count + 1) i by rw [mt q hqa, mt i e]; exact hq2)
          have h6 : updN s.met a (s.count + 1) q ≤ updN s.met a (s.count + 1) p := h5
          rw [mt q hqa, mt p hpa] at h6; exact h6
        · rw [h4, ma]
          have := hlo p (hpo p hpp); have := (hon p (hpo p hpp)).2; omega
  · have hpa : i ≠ a := fun e => hp (List.mem_append_right _ (by simp [e]))
    have hio := (memo i hi).resolve_right hpa
    have := h.off i hio fun e => hp (List.mem_append_left _ e)
    show s.rest i = [] ∧ updN s.low a (s.count + 1) i < updN s.met a (s.count + 1) i
    rw [mt i hpa, lw i hpa]; exact this
  · have hle' : updN s.met a (s.count + 1) p ≤ updN s.met a (s.count + 1) x := hle
    rcases memo x hx with h1 | h1
    · rw [mt x (ne x h1)] at hle'
      rcases memp p hp with h2 | h2
      · rw [mt p (ne p (hpo p h2))] at hle'
        exact h.way p h2 x h1 hle'
      · rw [h2, ma] at hle'; have := (hon x h1).2; omega
    · subst h1
      rcases memp p hp with h2 | h2
      · exact hw p h2
      · subst h2; exact .refl _
  · rcases memo x hx with h1 | h1
    · obtain ⟨u, h2, h3, h4⟩ := h.lows x h1
      refine ⟨u, List.mem_append_left _ h2, ?_, h4⟩
      show updN s.met a (s.count + 1) u = updN s.low a (s.count + 1) x
      rw [mt u (ne u h2), lw x (ne x h1)]; exact h3
    · subst h1
      exact ⟨x, hx, ma.trans la.symm, .refl _⟩
  · have hm' : updN s.met a (s.count + 1) i = grTop := hm
    have e : i ≠ a := fun e => by rw [e, ma] at hm'; omega
    rw [mt i e] at hm'
    obtain ⟨h1, h2⟩ := h.cl i hi hm'
    refine ⟨h1, fun x hx => ?_⟩
    obtain ⟨h3, h4⟩ := h2 x hx
    refine ⟨?_, h4⟩
    show updN s.met a (s.count + 1) x = grTop
    rw [mt x fun e => by rw [e, ha] at h3; exact absurd h3 (by decide)]; exact h3
  · have hmi' : updN s.met a (s.count + 1) i = grTop := hmi
    have hmj' : updN s.met a (s.count + 1) j = grTop := hmj
    have e : i ≠ a := fun e => by rw [e, ma] at hmi'; omega
    have e2 : j ≠ a := fun e => by rw [e, ma] at hmj'; omega
    rw [mt i e] at hmi'
    rw [mt j e2] at hmj'
    exact h.eq i j hi hj hmi' hmj' hr
theorem top_last {n v0 v : Nat} {l : List Nat} {s : SS} (h : WF n v0 s) (hl : s.path = l ++ [v]) : (∀ x ∈ l, s.met x < s.met v) ∧ (∀ x ∈ s.path, s.met x ≤ s.met v) ∧ (∀ x ∈ s.path, s.met x = s.met v → x = v) ∧ v ∈ s.opn ∧ v ∈ s.path := by
  have hls : ∀ x ∈ l, s.met x < s.met v := fun x hx => by
    have := h.ps; rw [hl] at this
    exact (List.pairwise_append.1 this).2.2 x hx v (by simp)
  have hvp : v ∈ s.path := by rw [hl]; simp
  have cs : ∀ x ∈ s.path, x ∈ l ∨ x = v := fun x hx => by rw [hl] at hx; simpa using hx
  refine ⟨hls, fun x hx => ?_, fun x hx e => ?_, h.pn v hvp, hvp⟩
  · rcases cs x hx with h1 | h1
    · have := hls x h1; omega
    · rw [h1]; exact Nat.le_refl _
  · rcases cs x hx with h1 | h1
    · have := hls x h1; omega
    · exact h1
theorem CL.new {n v0 v a : Nat} {needs : Nat → List Nat} {l r : List Nat} {s : SS} (h : CL noneX n needs s) (hw : WF n v0 s) (hl : s.path = l ++ [v]) (hr : s.rest v = a :: r) (hz : s.met a = 0) (hn : n + 1 < grTop) : CL noneX n needs s.step := by
  obtain ⟨t1, t2, t3, t4, t5⟩ := top_last hw hl
  have hvn := hw.on v t4
  have hav : a ∈ needs v := by
    obtain ⟨d, h1, _⟩ := h.suf v hvn
    rw [h1, hr]; simp
  have hvz := (hw.mo v t4).1
  rw [step_new hl hr hz]
  have hcn := hw.cn
  refine CL.meet (s := { s with rest := fun i => if i = v then r else s.rest i }) ⟨fun i hi hm => ?_, fun i hi => ?_, fun i hi hp => ?_, h.way, h.lows, h.cl, h.eq⟩ hw.pn hw.mo (fun x hx => (hw.lo x hx).2) hz (by show s.count + 1 < grTop; omega) fun p hp => (h.way p hp v t4 (t2 p hp)).trans (.one hav)
  · have hm' : s.met i = 0 := hm
    have e : i ≠ v := fun e => by rw [e] at hm'; omega
    show (if i = v then r else s.rest i) = needs i
    rw [if_neg e]; exact h.fresh i hi hm'
  · obtain ⟨d, h1, h2, h3⟩ := h.suf i hi
    by_cases e : i = v
    · subst e
      refine ⟨d ++ [a], ?_, fun x hx => ?_, fun p hp ho hle hq u hu huo => ?_⟩
      · show needs i = d ++ [a] ++ (if i = i then r else s.rest i)
        rw [if_pos rfl, h1, hr]; simp
      · rcases List.mem_append.1 hx with h4 | h4
        · exact .inl ((h2 x h4).resolve_right id)
        · exact .inr (by simpa using h4)
      · rcases List.mem_append.1 hu with h4 | h4
        · exact h3 p hp ho hle hq u h4 huo
        · have e : u = a := by simpa using h4
          have huo' : u ∈ s.opn := huo
          have := (hw.mo u huo').1
          rw [e, hz] at this; omega
    · refine ⟨d, ?_, fun x hx => .inl ((h2 x hx).resolve_right id), h3⟩
      show needs i = d ++ (if i = v then r else s.rest i)
      rw [if_neg e]; exact h1
  · have e : i ≠ v := fun e => hp (e ▸ t5)
    show (if i = v then r else s.rest i) = [] ∧ _
    rw [if_neg e]; exact h.off i hi hp
theorem CL.old {n v0 v a : Nat} {needs : Nat → List Nat} {l r : List Nat} {s : SS} (h : CL noneX n needs s) (hw : WF n v0 s) (hl : s.path = l ++ [v]) (hr : s.rest v = a :: r) (hz : s.met a ≠ 0) (hn : n + 1 < grTop) : CL noneX n needs s.step := by
  obtain ⟨t1, t2, t3, t4, t5⟩ := top_last hw hl
  have hvn := hw.on v t4
  have hrs := hw.rests v hvn
  rw [hr] at hrs
  have han := hrs a (List.mem_cons_self ..)
  have hav : a ∈ needs v := by
    obtain ⟨d, h1, _⟩ := h.suf v hvn
    rw [h1, hr]; simp
  have hvz := (hw.mo v t4).1
  have hvc := (hw.mo v t4).2
  have hvl := (hw.lo v t4).2
  have hcn := hw.cn
  rw [step_old hl hr hz]
  have lle : ∀ p, updN s.low v (min (s.low v) (s.met a)) p ≤ s.low p := fun p => by
    by_cases e : p = v
    · subst e; rw [updN_same]; omega
    · rw [updN_other _ _ e]; exact Nat.le_refl _
  refine ⟨fun i hi hm => ?_, fun i hi => ?_, fun i hi hp => ?_, h.way, fun x hx => ?_, h.cl, h.eq⟩
  · have hm' : s.met i = 0 := hm
    have e : i ≠ v := fun e => by rw [e] at hm'; omega
    show (if i = v then r else s.rest i) = needs i
    rw [if_neg e]; exact h.fresh i hi hm'
  · obtain ⟨d, h1, h2, h3⟩ := h.suf i hi
    by_cases e : i = v
    · subst e
      refine ⟨d ++ [a], ?_, fun x hx => .inl ?_, fun p hp ho hle hq u hu huo => ?_⟩
      · show needs i = d ++ [a] ++ (if i = i then r else s.rest i)
        rw [if_pos rfl, h1, hr]; simp
      · rcases List.mem_append.1 hx with h4 | h4
        · exact (h2 x h4).resolve_right id
        · have e : x = a := by simpa using h4
          rw [e]; exact hz
      · have hpv : p = i := t3 p hp (Nat.le_antisymm hle (hq i t5 (Nat.le_refl _)))
        show updN s.low i (min (s.low i) (s.met a)) p ≤ s.met u
        rw [hpv, updN_same]
        rcases List.mem_append.1 hu with h4 | h4
        · have := h3 i t5 ho (Nat.le_refl _) (fun q hq1 hq2 => hq2) u h4 huo
          omega
        · have e : u = a := by simpa using h4
          rw [e]; omega
    · refine ⟨d, ?_, h2, fun p hp ho hle hq u hu huo => Nat.le_trans (lle p) (h3 p hp ho hle hq u hu huo)⟩
      show needs i = d ++ (if i = v then r else s.rest i)
      rw [if_neg e]; exact h1
  · have e : i ≠ v := fun e => hp (e ▸ t5)
    show (if i = v then r else s.rest i) = [] ∧ updN s.low v (min (s.low v) (s.met a)) i < s.met i
    rw [if_neg e, updN_other _ _ e]; exact h.off i hi hp
  · show ∃ u ∈ s.opn, s.met u = updN s.low v (min (s.low v) (s.met a)) x ∧ Rch needs x u
    by_cases e : x = v
    · subst e
      rw [updN_same]
      by_cases hle : s.low x ≤ s.met a
      · rw [Nat.min_eq_left hle]; exact h.lows x hx
      · rw [Nat.min_eq_right (by omega)]
        refine ⟨a, ?_, rfl, .one hav⟩
        refine Classical.byContradiction fun hno => ?_
        have := (hw.mx a han hno).resolve_left hz
        omega
    · rw [updN_other _ _ e]; exact h.lows x hx
theorem CL.leave {n v0 v : Nat} {needs : Nat → List Nat} {l : List Nat} {s : SS} (h : CL noneX n needs s) (hw : WF n v0 s) (hl : s.path = l ++ [v]) (hr : s.rest v = []) (hn : n + 1 < grTop) (hne : ∀ i, i < n → ∀ x ∈ needs i, x < n) : CL noneX n needs (s.leave v) := by
  obtain ⟨t1, t2, t3, t4, t5⟩ := top_last hw hl
  have hvn := hw.on v t4
  have hdl : s.path.dropLast = l := by rw [hl]; simp
  have hlp : ∀ x ∈ l, x ∈ s.path := fun x hx => by rw [hl]; exact List.mem_append_left _ hx
  have cs : ∀ x ∈ s.path, x ∈ l ∨ x = v := fun x hx => by rw [hl] at hx; simpa using hx
  have hcn := hw.cn
  by_cases heq : s.low v = s.met v
  · obtain ⟨a, b, hab⟩ := split_at t4
    have hos := hw.os
    rw [hab] at hos
    obtain ⟨ha, hb, hvb, hva, hdis⟩ := pw_append hos
    have ec : s.leave v = { s with path := l, opn := a, ring := fun i => if i = v ∨ i ∈ b then s.rings else s.ring i, met := fun i => if i = v ∨ i ∈ b then grTop else s.met i, rings := s.rings + 1 } := by
      unfold SS.leave
      rw [if_pos heq]
      show SS.close _ v = _
      rw [close_spec (s := { s with path := s.path.dropLast }) (a := a) (b := b) hab hvb, hdl]
    have so : ∀ x, (x = v ∨ x ∈ b) → x ∈ s.opn := fun x hx => by rw [hab]; exact List.mem_append_right _ (List.mem_cons.2 hx)
    have ao : ∀ x ∈ a, x ∈ s.opn := fun x hx => by rw [hab]; exact List.mem_append_left _ hx
    have os : ∀ x ∈ s.opn, x ∈ a ∨ (x = v ∨ x ∈ b) := fun x hx => by
      rw [hab] at hx
      rcases List.mem_append.1 hx with h1 | h1
      · exact .inl h1
      · exact .inr (List.mem_cons.1 h1)
    have sle : ∀ x, (x = v ∨ x ∈ b) → s.met v ≤ s.met x := fun x hx => by
      rcases hx with e | e
      · rw [e]; exact Nat.le_refl _
      · have := hb x e; omega
    have aS : ∀ x ∈ a, ¬ (x = v ∨ x ∈ b) := fun x hx e => by have := sle x e; have := ha x hx; omega
    have lowtop : ∀ x ∈ s.opn, s.met x < grTop := fun x hx => by have := (hw.mo x hx).2; omega
    have topS : ∀ x, s.met x = grTop → ¬ (x = v ∨ x ∈ b) := fun x hx e => by have := lowtop x (so x e); omega
    have la : ∀ x ∈ l, x ∈ a := fun x hx => (os x (hw.pn x (hlp x hx))).resolve_right fun e => by have := sle x e; have := t1 x hx; omega
    have key1 : ∀ x, (x = v ∨ x ∈ b) → ∀ u ∈ needs x, s.met u = grTop ∨ (u = v ∨ u ∈ b) := fun x hx u hu => by
      have hxo := so x hx
      have hxn := hw.on x hxo
      obtain ⟨d, h1, h2, h3⟩ := h.suf x hxn
      have hrx : s.rest x = [] := by
        rcases hx with e | e
        · rw [e]; exact hr
        · exact (h.off x hxo fun hp => by have := t2 x hp; have := hb x e; omega).1
      rw [hrx, List.append_nil] at h1
      rw [h1] at hu
      have huz := (h2 u hu).resolve_right id
      by_cases huo : u ∈ s.opn
      · have h4 := h3 v t5 hxo (sle x hx) (fun q hq _ => t2 q hq) u hu huo
        exact .inr ((os u huo).resolve_left fun e => by have := ha u e; omega)
      · exact .inl ((hw.mx u (hne x hxn u (h1 ▸ hu)) huo).resolve_left huz)
    have key2 : ∀ x y, Rch needs x y → x < n → (s.met x = grTop ∨ (x = v ∨ x ∈ b)) → s.met y = grTop ∨ (y = v ∨ y ∈ b) := fun x y hxy => by
      induction hxy with
      | refl _ => exact fun _ h => h
      | @step x z y h1 _ ih =>
        intro hxn hx
        refine ih (hne x hxn z h1) ?_
        rcases hx with hx | hx
        · exact .inl ((h.cl x hxn hx).2 z h1).1
        · exact key1 x hx z h1
    have key3 : ∀ k x, s.met x = k → (x = v ∨ x ∈ b) → Rch needs x v := fun k => by
      induction k using Nat.strongRecOn with
      | ind k ih =>
        intro x hk hx
        rcases id hx with e | e
        · rw [e]; exact .refl _
        · have hxo := so x hx
          have h1 := (h.off x hxo fun hp => by have := t2 x hp; have := hb x e; omega).2
          obtain ⟨u, h2, h3, h4⟩ := h.lows x hxo
          have h5 := (key2 x u h4 (hw.on x hxo) (.inr hx)).resolve_left fun e => by have := lowtop u h2; omega
          exact h4.trans (ih (s.met u) (by omega) u rfl h5)
    rw [ec]
    refine ⟨fun i hi hm => ?_, fun i hi => ?_, fun i hi hp => ?_, fun p hp x hx hle => ?_, fun x hx => ?_, fun i hi hm => ?_, fun i j hi hj hmi hmj hrr => ?_⟩
    · have hm' : (if i = v ∨ i ∈ b then grTop else s.met i) = 0 := hm
      split at hm'
      · exact absurd hm' (by decide)
      · exact h.fresh i hi hm'
    · obtain ⟨d, h1, h2, h3⟩ := h.suf i hi
      refine ⟨d, h1, fun x hx => .inl ?_, fun p hp ho hle hq u hu huo => ?_⟩
      · show (if x = v ∨ x ∈ b then grTop else s.met x) ≠ 0
        split
        · decide
        · exact (h2 x hx).resolve_right id
      · have hle' : (if p = v ∨ p ∈ b then grTop else s.met p) ≤ (if i = v ∨ i ∈ b then grTop else s.met i) := hle
        rw [if_neg (aS p (la p hp)), if_neg (aS i ho)] at hle'
        show s.low p ≤ (if u = v ∨ u ∈ b then grTop else s.met u)
        rw [if_neg (aS u huo)]
        refine h3 p (hlp p hp) (ao i ho) hle' (fun q hq1 hq2 => ?_) u hu (ao u huo)
        rcases cs q hq1 with h4 | h4
        · have h5 : (if q = v ∨ q ∈ b then grTop else s.met q) ≤ (if p = v ∨ p ∈ b then grTop else s.met p) := hq q h4 (by show (if q = v ∨ q ∈ b then grTop else s.met q) ≤ (if i = v ∨ i ∈ b then grTop else s.met i); rw [if_neg (aS q (la q h4)), if_neg (aS i ho)]; exact hq2)
          rw [if_neg (aS q (la q h4)), if_neg (aS p (la p hp))] at h5; exact h5
        · rw [h4] at hq2; have := ha i ho; omega
    · have h1 := h.off i (ao i hi) fun e => by
        rcases cs i e with h4 | h4
        · exact hp h4
        · exact aS i hi (.inl h4)
      show s.rest i = [] ∧ s.low i < (if i = v ∨ i ∈ b then grTop else s.met i)
      rw [if_neg (aS i hi)]; exact h1
    · have hle' : (if p = v ∨ p ∈ b then grTop else s.met p) ≤ (if x = v ∨ x ∈ b then grTop else s.met x) := hle
      rw [if_neg (aS p (la p hp)), if_neg (aS x hx)] at hle'
      exact h.way p (hlp p hp) x (ao x hx) hle'
    · obtain ⟨u, h2, h3, h4⟩ := h.lows x (ao x hx)
      have hlo := (hw.lo x (ao x hx)).2
      have hua : u ∈ a := (os u h2).resolve_right fun e => by have := sle u e; have := ha x hx; omega
      refine ⟨u, hua, ?_, h4⟩
      show (if u = v ∨ u ∈ b then grTop else s.met u) = s.low x
      rw [if_neg (aS u hua)]; exact h3
    · have hm' : (if i = v ∨ i ∈ b then grTop else s.met i) = grTop := hm
      show (if i = v ∨ i ∈ b then s.rings else s.ring i) < s.rings + 1 ∧ ∀ x ∈ needs i, (if x = v ∨ x ∈ b then grTop else s.met x) = grTop ∧ (if x = v ∨ x ∈ b then s.rings else s.ring x) ≤ (if i = v ∨ i ∈ b then s.rings else s.ring i)
      by_cases hS : i = v ∨ i ∈ b
      · rw [if_pos hS]
        refine ⟨by omega, fun x hx => ?_⟩
        have hk := key1 i hS x hx
        by_cases hSx : x = v ∨ x ∈ b
        · rw [if_pos hSx, if_pos hSx]; exact ⟨rfl, Nat.le_refl _⟩
        · rw [if_neg hSx, if_neg hSx]
          have hk' := hk.resolve_right hSx
          exact ⟨hk', Nat.le_of_lt (h.cl x (hne i hi x hx) hk').1⟩
      · rw [if_neg hS] at hm' ⊢
        obtain ⟨h1, h2⟩ := h.cl i hi hm'
        refine ⟨by omega, fun x hx => ?_⟩
        obtain ⟨h3, h4⟩ := h2 x hx
        rw [if_neg (topS x h3), if_neg (topS x h3)]; exact ⟨h3, h4⟩
    · have hmi' : (if i = v ∨ i ∈ b then grTop else s.met i) = grTop := hmi
      have hmj' : (if j = v ∨ j ∈ b then grTop else s.met j) = grTop := hmj
      have hr' : (if i = v ∨ i ∈ b then s.rings else s.ring i) = (if j = v ∨ j ∈ b then s.rings else s.ring j) := hrr
      by_cases hi' : i = v ∨ i ∈ b
      · by_cases hj' : j = v ∨ j ∈ b
        · exact (key3 _ i rfl hi').trans (h.way v t5 j (so j hj') (sle j hj'))
        · rw [if_neg hj'] at hmj' hr'
          rw [if_pos hi'] at hr'
          have := (h.cl j hj hmj').1
          omega
      · rw [if_neg hi'] at hmi' hr'
        by_cases hj' : j = v ∨ j ∈ b
        · rw [if_pos hj'] at hr'
          have := (h.cl i hi hmi').1
          omega
        · rw [if_neg hj'] at hmj' hr'
          exact h.eq i j hi hj hmi' hmj' hr'
  · have hl0 := (hw.leave hl).2.2.1 heq
    obtain ⟨l2, u, hu⟩ : ∃ l2 u, l = l2 ++ [u] := ⟨l.dropLast, l.getLast hl0, (List.dropLast_concat_getLast hl0).symm⟩
    have ec : s.leave v = { s with path := l, low := updN s.low u (min (s.low u) (s.low v)) } := by
      unfold SS.leave
      rw [if_neg heq]
      show ({ s with path := s.path.dropLast, low := updN s.low (s.path.dropLast.getLastD 0) (min (s.low (s.path.dropLast.getLastD 0)) (s.low v)) } : SS) = _
      rw [hdl, hu, getLastD_snoc]
    have hul : u ∈ l := by rw [hu]; simp
    have huv := t1 u hul
    have hlps : l.Pairwise fun x y => s.met x < s.met y := by have := hw.ps; rw [hl] at this; exact (List.pairwise_append.1 this).1
    have hlu : ∀ x ∈ l, s.met x ≤ s.met u ∧ (s.met x = s.met u → x = u) := fun x hx => by
      rw [hu] at hx hlps
      rcases List.mem_append.1 hx with h1 | h1
      · have := (List.pairwise_append.1 hlps).2.2 x h1 u (by simp)
        exact ⟨by omega, fun e => by omega⟩
      · have e : x = u := by simpa using h1
        rw [e]; exact ⟨Nat.le_refl _, fun _ => rfl⟩
    have lle : ∀ p, updN s.low u (min (s.low u) (s.low v)) p ≤ s.low p := fun p => by
      by_cases e : p = u
      · subst e; rw [updN_same]; omega
      · rw [updN_other _ _ e]; exact Nat.le_refl _
    rw [ec]
    refine ⟨h.fresh, fun i hi => ?_, fun i hi hp => ?_, fun p hp => h.way p (hlp p hp), fun x hx => ?_, h.cl, h.eq⟩
    · obtain ⟨d, h1, h2, h3⟩ := h.suf i hi
      refine ⟨d, h1, h2, fun p hp ho hle hq y hy hyo => ?_⟩
      by_cases hvi : s.met v ≤ s.met i
      · have hpu : p = u := (hlu p hp).2 (Nat.le_antisymm (hlu p hp).1 (hq u hul (by show s.met u ≤ s.met i; omega)))
        have h4 := h3 v t5 ho hvi (fun q hq1 _ => t2 q hq1) y hy hyo
        show updN s.low u (min (s.low u) (s.low v)) p ≤ s.met y
        rw [hpu, updN_same]; omega
      · refine Nat.le_trans (lle p) (h3 p (hlp p hp) ho hle (fun q hq1 hq2 => ?_) y hy hyo)
        rcases cs q hq1 with h4 | h4
        · exact hq q h4 hq2
        · rw [h4] at hq2; exact absurd hq2 hvi
    · show s.rest i = [] ∧ updN s.low u (min (s.low u) (s.low v)) i < s.met i
      have hiu : i ≠ u := fun e => hp (e ▸ hul)
      rw [updN_other _ _ hiu]
      by_cases e : i = v
      · subst e
        have := (hw.lo i t4).2
        exact ⟨hr, by omega⟩
      · exact h.off i hi fun hp2 => (cs i hp2).elim hp e
    · show ∃ y ∈ s.opn, s.met y = updN s.low u (min (s.low u) (s.low v)) x ∧ Rch needs x y
      by_cases e : x = u
      · subst e
        rw [updN_same]
        by_cases hle : s.low x ≤ s.low v
        · rw [Nat.min_eq_left hle]; exact h.lows x hx
        · rw [Nat.min_eq_right (by omega)]
          obtain ⟨y, h2, h3, h4⟩ := h.lows v t4
          exact ⟨y, h2, h3, (h.way x (hlp x hul) v t4 (Nat.le_of_lt huv)).trans h4⟩
      · rw [updN_other _ _ e]; exact h.lows x hx
theorem CL.step {n v0 : Nat} {needs : Nat → List Nat} {s : SS} (h : CL noneX n needs s) (hw : WF n v0 s) (hn : n + 1 < grTop) (hne : ∀ i, i < n → ∀ x ∈ needs i, x < n) : CL noneX n needs s.step := by
  by_cases hp : s.path = []
  · have : s.step = s := by unfold SS.step; rw [hp]; rfl
    rw [this]; exact h
  · obtain ⟨l, v, hl⟩ : ∃ l v, s.path = l ++ [v] := ⟨s.path.dropLast, s.path.getLast hp, (List.dropLast_concat_getLast hp).symm⟩
    cases hr : s.rest v with
    | nil => rw [step_end hl hr]; exact h.leave hw hl hr hn hne
    | cons a r =>
      by_cases hz : s.met a = 0
      · exact h.new hw hl hr hz hn
      · exact h.old hw hl hr hz hn
theorem CL.run {n v0 : Nat} {needs : Nat → List Nat} (hn : n + 1 < grTop) (hne : ∀ i, i < n → ∀ x ∈ needs i, x < n) : ∀ (k : Nat) (s : SS), CL noneX n needs s → WF n v0 s → CL noneX n needs (SS.run k s) ∧ WF n v0 (SS.run k s)
  | 0, _, h, g => ⟨h, g⟩
  | k + 1, s, h, g => by
    have ih := CL.run hn hne k s h g
    rw [← run_step]
    exact ⟨ih.1.step ih.2 hn hne, ih.2.step (by omega)⟩
theorem CL.start {n a : Nat} {needs : Nat → List Nat} {s : SS} (h : CL noneX n needs s) (hi : Idle n s) (ha : a < n) (hz : s.met a = 0) (hn : n + 1 < grTop) : CL noneX n needs (s.meet a) := by
  have hp : ∀ x, x ∉ s.path := fun x hx => by rw [hi.path] at hx; exact (List.not_mem_nil hx).elim
  have ho : ∀ x, x ∉ s.opn := fun x hx => by rw [hi.opn] at hx; exact (List.not_mem_nil hx).elim
  refine CL.meet ⟨h.fresh, fun i hi => ?_, h.off, h.way, h.lows, h.cl, h.eq⟩ (fun x hx => absurd hx (hp x)) (fun x hx => absurd hx (ho x)) (fun x hx => absurd hx (ho x)) hz ?_ fun x hx => absurd hx (hp x)
  · obtain ⟨d, h1, h2, h3⟩ := h.suf i hi
    exact ⟨d, h1, fun x hx => .inl ((h2 x hx).resolve_right id), h3⟩
  · have := hi.ct; omega
theorem RA.cl {n : Nat} {needs : Nat → List Nat} (hn : n + 1 < grTop) (hne : ∀ i, i < n → ∀ x ∈ needs i, x < n) : ∀ (j : Nat) (t : SS), j ≤ n → RA n (grInit needs) j t → CL noneX n needs t
  | 0, t, _, h => by
    obtain rfl : t = grInit needs := h
    exact ⟨fun i hi hz => rfl, fun i hi => ⟨[], rfl, fun x hx => (List.not_mem_nil hx).elim, fun _ _ _ _ _ u hu => (List.not_mem_nil hu).elim⟩, fun i hi => (List.not_mem_nil hi).elim, fun p hp => (List.not_mem_nil hp).elim, fun x hx => (List.not_mem_nil hx).elim, fun i hi hm => absurd hm (by show ¬ (0 : Nat) = grTop; decide), fun i j hi hj hm => absurd hm (by show ¬ (0 : Nat) = grTop; decide)⟩
  | j + 1, t, hj, h => by
    obtain ⟨u, hu, h⟩ := h
    have ih := RA.cl hn hne j u (by omega) hu
    have ik := RA.keep hn hne j u (by omega) hu
    rcases h with ⟨hz, k, rfl, hp⟩ | ⟨hz, rfl⟩
    · exact (CL.run hn hne k _ (ih.start ik.1 (by omega) hz hn) (ik.1.meet (by omega) hz)).1
    · exact ih
/-- The rings are the classes of mutual need; what is needed has a ring of a number that is no greater. -/
theorem RA.classes {n : Nat} {needs : Nat → List Nat} {t : SS} (hn : n + 1 < grTop) (hne : ∀ i, i < n → ∀ x ∈ needs i, x < n) (h : RA n (grInit needs) n t) : (∀ i, i < n → ∀ x ∈ needs i, t.ring x ≤ t.ring i) ∧ ∀ i j, i < n → j < n → (t.ring i = t.ring j ↔ Rch needs i j ∧ Rch needs j i) := by
  have hc := RA.cl hn hne n t (Nat.le_refl _) h
  obtain ⟨i1, i2, i3⟩ := RA.keep hn hne n t (Nat.le_refl _) h
  have top : ∀ i, i < n → t.met i = grTop := fun i hi => (i1.mx i hi).resolve_left (i3 i hi)
  have dn : ∀ i, i < n → ∀ x ∈ needs i, t.ring x ≤ t.ring i := fun i hi x hx => ((hc.cl i hi (top i hi)).2 x hx).2
  have dr : ∀ i j, Rch needs i j → i < n → t.ring j ≤ t.ring i := fun i j hij => by
    induction hij with
    | refl _ => exact fun _ => Nat.le_refl _
    | step h1 _ ih => exact fun hi => Nat.le_trans (ih (hne _ hi _ h1)) (dn _ hi _ h1)
  refine ⟨dn, fun i j hi hj => ⟨fun e => ⟨hc.eq i j hi hj (top i hi) (top j hj) e, hc.eq j i hj hi (top j hj) (top i hi) e.symm⟩, fun e => ?_⟩⟩
  have := dr i j e.1 hi; have := dr j i e.2 hj; omega
end Go.Proofs.Ytlpifioneafciaa
