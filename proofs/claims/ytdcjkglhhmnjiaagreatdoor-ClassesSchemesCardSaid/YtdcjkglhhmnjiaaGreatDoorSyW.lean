/- A region that draws, whole: all orders. -/
import Derived.Test.YtdcjkglhhmnjiaaGreatDoorSyN
namespace Go.Proofs.YtdcjkglhhmnjiaaGreatDoor.Sx
noncomputable section
section
variable {P : Program} {gl n : Nat} {D : List Deferred} {R : Option Nat} {cl : Cl} {ops : Array Oper} {m : Tr Nat} {acts : List Nat} {base lo ro : Nat} {mk : List Mk} {F : Nat → Fr} {S : Nat → St} {V : Nat → Value}

theorem whole_obj (hid : ∀ x ∈ mk, base + x.1 < most) (p : Nat) (listed : Array Bool) (b : Nat) :
    (∃ x ∈ mk, unmet m acts p x = true ∧ listed.getD x.1 false = true ∧ b = base + x.1 ∧ (whole m acts base mk S p listed).obj b = some x.2) ∨
    ((∀ x ∈ mk, unmet m acts p x = true → listed.getD x.1 false = true → b ≠ base + x.1) ∧ (whole m acts base mk S p listed).obj b = (S p).obj b) := by
  unfold whole
  rcases putAll_obj base (mk.filter fun x => unmet m acts p x && listed.getD x.1 false) (S p) b (fun x hx => hid x (List.mem_filter.1 hx).1) with ⟨x, h1, h2, h3⟩ | ⟨h1, h2⟩
  · obtain ⟨k1, k2⟩ := List.mem_filter.1 h1
    rw [Bool.and_eq_true] at k2
    exact .inl ⟨x, k1, k2.1, k2.2, h2, h3⟩
  · exact .inr ⟨fun x k1 k2 k3 => h1 x (List.mem_filter.2 ⟨k1, by rw [k2, k3]; rfl⟩), h2⟩
theorem part_obj (hid : ∀ x ∈ mk, base + x.1 < most) (i p b : Nat) :
    (∃ x ∈ mk, bit m i x.1 = true ∧ unmet m acts p x = true ∧ b = base + x.1 ∧ (putAll base (S p) (sel m acts mk i p)).obj b = some x.2) ∨
    ((∀ x ∈ mk, bit m i x.1 = true → unmet m acts p x = true → b ≠ base + x.1) ∧ (putAll base (S p) (sel m acts mk i p)).obj b = (S p).obj b) := by
  rcases putAll_obj base (sel m acts mk i p) (S p) b (fun x hx => hid x (mem_sel.1 hx).1) with ⟨x, h1, h2, h3⟩ | ⟨h1, h2⟩
  · obtain ⟨k1, k2, k3⟩ := mem_sel.1 h1
    exact .inl ⟨x, k1, k2, k3, h2, h3⟩
  · exact .inr ⟨fun x k1 k2 k3 => h1 x (mem_sel.2 ⟨k1, k2, k3⟩), h2⟩

theorem part_whole (hid : ∀ x ∈ mk, base + x.1 < most) (huniq : ∀ x ∈ mk, ∀ y ∈ mk, x.1 = y.1 → x.2 = y.2) {i p : Nat} {listed : Array Bool} (hfree : ∀ x ∈ mk, unmet m acts p x = true → (S p).obj (base + x.1) = none)
    (hl : ∀ x ∈ mk, bit m i x.1 = true → listed.getD x.1 false = true) (b : Nat) (o : Obj) (h : (putAll base (S p) (sel m acts mk i p)).obj b = some o) : (whole m acts base mk S p listed).obj b = some o := by
  rcases part_obj (S := S) (m := m) (acts := acts) hid i p b with ⟨x, h1, h2, h3, h4, h5⟩ | ⟨h1, h2⟩
  · rcases whole_obj (S := S) (m := m) (acts := acts) hid p listed b with ⟨y, k1, k2, k3, k4, k5⟩ | ⟨k1, k2⟩
    · rw [k5, ← h, h5, huniq x h1 y k1 (by omega)]
    · exact absurd h4 (k1 x h1 h3 (hl x h1 h2))
  · rw [h2] at h
    rcases whole_obj (S := S) (m := m) (acts := acts) hid p listed b with ⟨y, k1, k2, k3, k4, k5⟩ | ⟨k1, k2⟩
    · rw [k4, hfree y k1 k2] at h; cases h
    · rw [k2]; exact h

theorem RZ.empty {ρ : Rho} {s : St} {w : World} (hz : RZ P ρ s w) {k : Nat} (hk : s.next ≤ k) : RZ P ρ ⟨k, s.lo, s.ro, .nil⟩ w := by
  have hnl : ∀ b, (St.mk k s.lo s.ro .nil).obj b = none := fun b => get_nil _ _
  refine ⟨fun b o h => (by rw [hnl] at h; cases h), fun b b' c h => (by rw [hnl] at h; cases h), fun b hb => hz.fresh b (Nat.le_trans hk hb), hz.lt, Nat.le_trans hz.roNext hk, fun b c h1 h2 e => ⟨(hz.sen b c h1 h2 e).1, fun j _ h => (by rw [hnl] at h; cases h)⟩, hz.apart⟩

theorem inv_wp (hG : Good P) (hcl : CallsOk P gl cl) (hops : ∀ (j : Nat) (p : Oper), ops[j]? = some p → okOper P gl n p = true) (hn : n ≤ most) (hD : Drawn P ops) (hacts : acts = deedsOf P ops) (hm : ∀ j q, bit m j q = true → Bef ops j q)
    (hT : Steps P cl ops m acts base lo ro mk F S V) {tr : List (Fr × St × Value)}
    (htr : ∀ j, j < ops.size → tr[j]? = some (F j, S j, V j)) (hreads : readsOk P cl ops m acts base mk tr (S ops.size) = true)
    {ρ0 : Rho} {s0 : St} {w0 : World} (hz0 : RZ P ρ0 s0 w0) (hb0 : s0.next = base) (hlo : s0.lo = lo) (hro : s0.ro = ro) (hgl : ∀ g, g < gl → ρ0.at_ g = some g ∧ ρ0.off g = 0) {Q : Exit → Act → World → Prop}
    (hQ : ∀ ρ' a' w', FR ρ' gl n D (F ops.size) a' → ST P ρ0 s0 w0 ρ' (putAll base (S ops.size) (mk.filter (unmet m acts ops.size))) w' → (S ops.size).next ≤ most → Q .normal a' w') :
    ∀ (fuel : Nat) (listed : Array Bool) (a : Act) (w : World), ops.size ≤ fuel + listed.toList.count true → Inv P ops gl n D m acts base mk (F 0) S V ρ0 s0 w0 listed a w → wpAnyIn (fen R) 0 P .any ops Q fuel listed a w := by
  have hF := fval (gl := gl) (n := n) hD hops hn hT
  have htm := top_most
  have hNl : ops.toList.length = ops.size := Array.length_toList
  have hends : ∀ p, (p = ops.size ∨ ∃ o, ops[p]? = some o ∧ isDeed P o.op = true) → (p, S p) ∈ endsOf tr (S ops.size) acts ops.toList.length := by
    intro p hp
    unfold endsOf
    rcases hp with rfl | ⟨o, h1, h2⟩
    · rw [hNl]; simp
    · refine List.mem_append.2 (.inl (List.mem_map.2 ⟨p, by rw [hacts]; exact mem_deeds.2 ⟨o, h1, h2⟩, ?_⟩))
      rw [htr p (Array.getElem?_eq_some_iff.1 h1).1]
  have hnext : ∀ p, (p = ops.size ∨ ∃ o, ops[p]? = some o ∧ isDeed P o.op = true) → (S p).next ≤ top := fun p hp => readsOk_next hreads (hends p hp)
  have hmN : ∀ x ∈ mk, x.1 < ops.size := fun x hx => by
    obtain ⟨o, h1, _⟩ := hT.made x hx
    exact (Array.getElem?_eq_some_iff.1 h1).1
  have huniq : ∀ x ∈ mk, ∀ y ∈ mk, x.1 = y.1 → x.2 = y.2 := fun x hx y hy e => by
    obtain ⟨o, h1, _, h2⟩ := hT.made x hx
    obtain ⟨o', h3, _, h4⟩ := hT.made y hy
    rw [← e, h1] at h3; cases h3
    rw [← e, h2] at h4
    simp at h4; exact h4
  have hrobase : s0.ro ≤ base := hb0 ▸ hz0.roNext
  have hend : ∀ (listed : Array Bool) (a : Act) (w : World), Inv P ops gl n D m acts base mk (F 0) S V ρ0 s0 w0 listed a w → Region.ready .any ops listed = [] → Q .normal a w := by
    intro listed a w hI hr
    have hall : ∀ i, i < ops.size → listed.getD i false = true := by
      intro i
      induction i using Nat.strongRecOn with
      | ind i ih =>
        intro hi
        cases hl : listed.getD i false with
        | true => rfl
        | false =>
          have : i ∈ Region.ready .any ops listed := mem_ready.2 ⟨by
            have : i < listed.size := by rw [hI.size]; exact hi
            simp [this] at hl ⊢; exact hl, ops[i], Array.getElem?_eq_getElem hi, fun e he hb => by
              have hlt := hD.back i ops[i] (Array.getElem?_eq_getElem hi) e he hb
              exact ih e.on hlt (by omega)⟩
          rw [hr] at this; cases this
    obtain ⟨p, hp, hpa, hpl, ρ, hS, hroom, hfree, hunl, hV, hf⟩ := hI.at_
    have hpN : p = ops.size := by
      rcases hpa with h | ⟨o, ho, ha⟩
      · exact h
      · have hlt := (Array.getElem?_eq_some_iff.1 ho).1
        have := (hpl p o ho ha).1 (hall p hlt)
        omega
    subst hpN
    obtain ⟨h1, h2⟩ := hF ops.size (Nat.le_refl _)
    have hwh : whole m acts base mk S ops.size listed = putAll base (S ops.size) (mk.filter (unmet m acts ops.size)) := by
      unfold whole
      congr 1
      exact List.filter_congr fun x hx => by rw [hall x.1 (hmN x hx), Bool.and_true]
    rw [hwh] at hS
    have hnx := hnext _ hpa
    refine hQ ρ a w ⟨fun t => ?_, hI.tsize, hI.defers, fun g hg => glob_le hS.le (hgl g hg), hn⟩ hS (by omega)
    by_cases hx : ∃ (j : Nat) (o : Oper), ops[j]? = some o ∧ o.dst = some t
    · obtain ⟨j, o, ho, hd⟩ := hx
      have hj := (Array.getElem?_eq_some_iff.1 ho).1
      rw [h2 j o t hj ho hd]
      exact hV j o t (hall j hj) ho hd
    · rw [h1 t fun j o _ ho hd => hx ⟨j, o, ho, hd⟩]
      exact hf t fun j o _ ho hd => hx ⟨j, o, ho, hd⟩
  intro fuel
  induction fuel with
  | zero =>
    intro listed a w hc hI
    have hz := hI.size
    have hall : listed.toList.count true = listed.toList.length := by
      have := List.count_le_length (a := true) (l := listed.toList)
      simp at this hc ⊢; omega
    have hr : Region.ready .any ops listed = [] := by
      cases h : Region.ready .any ops listed with
      | nil => rfl
      | cons i l =>
        have hi : i ∈ Region.ready .any ops listed := by rw [h]; simp
        obtain ⟨h0, o, ho, _⟩ := mem_ready.1 hi
        have hlt : i < listed.size := by rw [hz]; exact (Array.getElem?_eq_some_iff.1 ho).1
        have := List.count_eq_length.1 hall listed[i] (by simp)
        simp [hlt] at h0
        rw [h0] at this; cases this
    exact ⟨hr, hend listed a w hI hr⟩
  | succ fuel ih =>
    intro listed a w hc hI
    refine ⟨hend listed a w hI, fun i hi => ?_⟩
    obtain ⟨h0, o, ho, hdep⟩ := mem_ready.1 hi
    have hz := hI.size
    have hiN := (Array.getElem?_eq_some_iff.1 ho).1
    have hlt : i < listed.size := by rw [hz]; exact hiN
    have h0' : listed[i] = false := by simpa [hlt] using h0
    have hil : listed.getD i false = false := by simp [Array.getD, hlt, h0']
    obtain ⟨p, hp, hpa, hpl, ρ, hS, hroom, hfree, hunl, hV, hf⟩ := hI.at_
    have befL : ∀ {j}, Bef ops i j → listed.getD j false = true := fun hb => hI.ready hb fun o' ho' e he hb => by
      rw [ho] at ho'; cases ho'; exact hdep e he hb
    have befU : ∀ {j}, Bef ops j i → listed.getD j false = false := fun {j} hb => by
      cases hl : listed.getD j false with
      | false => rfl
      | true => rw [hI.listed hb hl] at hil; cases hil
    obtain ⟨hF1, hF2⟩ := hF i (by omega)
    have htmp : ∀ t, t ∈ tmpsOf ops o → VR ρ ((F i).get t) (a.tmps.getD t undef) := by
      intro t ht
      by_cases hx : ∃ (j : Nat) (oj : Oper), ops[j]? = some oj ∧ oj.dst = some t
      · obtain ⟨j, oj, hoj, hd⟩ := hx
        have huniq : ∀ (j' : Nat) (o' : Oper), ops[j']? = some o' → o'.dst = some t → j' = j := fun j' o' h1 h2 => hD.dst j' j o' oj t h1 hoj h2 hd
        have hno : listed.getD j false = false → ¬ j < i → VR ρ ((F i).get t) (a.tmps.getD t undef) := by
          intro hl hlt
          rw [hF1 t fun j' o' hj' ho' hd' => by have := huniq j' o' ho' hd'; omega]
          exact hf t fun j' o' hl' ho' hd' => by have := huniq j' o' ho' hd'; subst this; rw [hl] at hl'; cases hl'
        by_cases e : j = i
        · exact hno (e ▸ hil) (by omega)
        · rcases hD.reads j i oj o t hoj ho hd e ht with hb | hb
          · rw [hF2 j oj t (bef_lt hD hb) hoj hd]
            exact hV j oj t (befL hb) hoj hd
          · exact hno (befU hb) (by have := bef_lt hD hb; omega)
      · rw [hF1 t fun j' o' _ ho' hd' => hx ⟨j', o', ho', hd'⟩]
        exact hf t fun j' o' _ ho' hd' => hx ⟨j', o', ho', hd'⟩
    have hgl' : ∀ g, g < gl → ρ.at_ g = some g ∧ ρ.off g = 0 := fun g hg => glob_le hS.le (hgl g hg)
    have hev := okOper_eval (hops i o ho) hgl' (f := F i) (a := a) fun t ht => htmp t (tmp_mem ht)
    have hwe := wants_eq (ops := ops) (o := o) (f := F i) hI.tsize fun t ht => ⟨guard_lt hops ht, htmp t (guard_mem ht)⟩
    have hnx := hnext p hpa
    have hid : ∀ x ∈ mk, base + x.1 < (S p).next := fun x hx => by have := hmN x hx; omega
    have hidm : ∀ x ∈ mk, base + x.1 < most := fun x hx => by have := hid x hx; omega
    obtain ⟨wn, wl, wr⟩ := putAll_same base (mk.filter fun x => unmet m acts p x && listed.getD x.1 false) (S p)
    have wn : (whole m acts base mk S p listed).next = (S p).next := wn
    have wl : (whole m acts base mk S p listed).lo = (S p).lo := wl
    have wr : (whole m acts base mk S p listed).ro = (S p).ro := wr
    have hset : ∀ j, (listed.setIfInBounds i true).getD j false = true ↔ (listed.getD j false = true ∨ j = i) := by
      intro j
      by_cases e : j = i
      · subst e; simp [Array.getD, hlt]
      · rw [getD_set_ne false (Ne.symm e)]; simp [e]
    have hsetF : ∀ j, (listed.setIfInBounds i true).getD j false = false → listed.getD j false = false ∧ j ≠ i := by
      intro j hj
      constructor
      · cases hl : listed.getD j false with
        | false => rfl
        | true => rw [(hset j).2 (.inl hl)] at hj; cases hj
      · intro e; rw [(hset j).2 (.inr e)] at hj; cases hj
    have fin : ∀ (ρ2 : Rho) (v' : Value) (w2 : World) (p' : Nat), VR ρ2 (V i) v' → ST P ρ0 s0 w0 ρ2 (whole m acts base mk S p' (listed.setIfInBounds i true)) w2 → ρ.le ρ2 → p' ≤ ops.size → (p' = ops.size ∨ ∃ o, ops[p']? = some o ∧ isDeed P o.op = true) →
        (∀ (j : Nat) (oj : Oper), ops[j]? = some oj → isDeed P oj.op = true → ((listed.getD j false = true ∨ j = i) ↔ j < p')) → base + ops.size ≤ (S p').next → (∀ x ∈ mk, unmet m acts p' x = true → (S p').obj (base + x.1) = none) →
        (∀ x ∈ mk, (listed.setIfInBounds i true).getD x.1 false = false → ρ2.at_ (base + x.1) = none) → wpAnyIn (fen R) 0 P .any ops Q fuel (listed.setIfInBounds i true) (a.put o.dst v') w2 := by
      intro ρ2 v' w2 p' hv hS2 hle2 hp' hpa' hpl' hroom' hfree' hunl'
      refine ih _ _ _ ?_ ⟨by simpa using hz, fun j oj hj hoj e he hb => ?_, ⟨p', hp', hpa', fun j oj hj haj => by rw [hset]; exact hpl' j oj hj haj, ρ2, hS2, hroom', hfree', hunl', fun j oj t hj hoj hd => ?_, fun t ht => ?_⟩, ?_, ?_⟩
      · have : (listed.setIfInBounds i true).toList.count true = listed.toList.count true + 1 := by
          rw [Array.toList_setIfInBounds, List.count_set (by simpa using hlt)]
          simp [h0']
        omega
      · rw [hset] at hj ⊢
        rcases hj with hj | rfl
        · exact .inl (hI.down j oj hj hoj e he hb)
        · rw [ho] at hoj; cases hoj; exact .inl (hdep e he hb)
      · rw [hset] at hj
        have hdn : t < n := by
          have := hops j oj hoj
          unfold okOper at this
          rw [hd] at this
          simp only [Bool.and_eq_true] at this
          exact unblt this.2.2
        by_cases e : j = i
        · subst e
          rw [ho] at hoj; cases hoj
          rw [hd]
          have : t < a.tmps.size := by rw [hI.tsize]; exact hdn
          simp [Act.put, Array.getD, this]
          exact hv
        · have hj' := hj.resolve_right e
          have hne : o.dst ≠ some t := fun h => e (hD.dst j i oj o t hoj ho hd h)
          have := (hV j oj t hj' hoj hd).mono hle2
          cases hod : o.dst with
          | none => simpa [Act.put] using this
          | some d =>
            have hdt : d ≠ t := fun h => hne (by rw [hod, h])
            simp only [Act.put, Array.getD_eq_getD_getElem?, Array.getElem?_setIfInBounds] at this ⊢
            rw [if_neg hdt]; exact this
      · have hne : o.dst ≠ some t := ht i o ((hset i).2 (.inr rfl)) ho
        have := (hf t fun j oj hj hoj => ht j oj ((hset j).2 (.inl hj)) hoj).mono hle2
        cases hod : o.dst with
        | none => simpa [Act.put] using this
        | some d =>
          have hdt : d ≠ t := fun h => hne (by rw [hod, h])
          simp only [Act.put, Array.getD_eq_getD_getElem?, Array.getElem?_setIfInBounds] at this ⊢
          rw [if_neg hdt]; exact this
      · cases hod : o.dst <;> simp [Act.put, hI.tsize]
      · cases hod : o.dst <;> simp [Act.put, hI.defers]
    -- where no block of i's own is listed, all stays as it was
    have hsameW : (∀ x ∈ mk, x.1 ≠ i) → whole m acts base mk S p (listed.setIfInBounds i true) = whole m acts base mk S p listed := fun hni => by
      unfold whole
      congr 1
      exact List.filter_congr fun x hx => by rw [getD_set_ne false (Ne.symm (hni x hx))]
    have hplN : isDeed P o.op = false → ∀ (j : Nat) (oj : Oper), ops[j]? = some oj → isDeed P oj.op = true → ((listed.getD j false = true ∨ j = i) ↔ j < p) := fun hnd j oj hj haj => by
      constructor
      · rintro (hl | rfl)
        · exact (hpl j oj hj haj).1 hl
        · rw [ho] at hj; cases hj; rw [hnd] at haj; cases haj
      · exact fun hlt => .inl ((hpl j oj hj haj).2 hlt)
    have hunl2 : ∀ ρ2 : Rho, (∀ b, b < (S p).next → ρ2.at_ b = ρ.at_ b) → ∀ x ∈ mk, (listed.setIfInBounds i true).getD x.1 false = false → ρ2.at_ (base + x.1) = none := fun ρ2 h x hx hl => by
      rw [h _ (hid x hx)]
      exact hunl x hx (hsetF _ hl).1
    cases hmake : isMake o.op with
    | true =>
      have hnd : isDeed P o.op = false := by unfold isDeed; rw [hmake]; simp
      obtain ⟨r, hr, hin⟩ := hT.make i o ho hmake
      unfold make1 at hr
      cases hw : wants ops (F i) o with
      | false =>
        rw [hw] at hr
        simp only [cond_false, Option.some.injEq, Prod.mk.injEq] at hr
        obtain ⟨hvi, rfl⟩ := hr
        have hni : ∀ x ∈ mk, x.1 ≠ i := fun x hx e => by
          obtain ⟨o', h1, _, h2⟩ := hT.made x hx
          rw [e, ho] at h1; cases h1
          rw [e] at h2
          unfold make1 at h2
          rw [hw] at h2
          simp at h2
        have hrun : oper1 P cl ops o (F i) (whole m acts base mk S p listed) = some (undef, whole m acts base mk S p listed) := by
          rw [oper1_eq]; rw [hw]; rfl
        refine oper1_wp hG hcl ho hrun hev (okOper_ty (hops i o ho)) hwe hgl' hS.rz (by omega) fun ρ2 v' w2 hv hS2 hm2 => ?_
        exact fin ρ2 v' w2 p (hvi ▸ hv) (by rw [hsameW hni]; exact hS.trans hS2) hS2.le hp hpa (hplN hnd) hroom hfree (hunl2 ρ2 fun b hb => hS2.old b (by omega))
      | true =>
        rw [hw] at hr
        simp only [cond_true] at hr
        split at hr
        · rename_i v1 s1 hrun
          split at hr
          · rename_i v2 ob hnm hob
            cases hfo : freeO ob with
            | false => rw [hfo] at hr; cases hr
            | true =>
            rw [hfo] at hr
            simp only [cond_true, Option.some.injEq, Prod.mk.injEq] at hr
            obtain ⟨rfl, rfl⟩ := hr
            have hmem := hin ob rfl
            have elo : (whole m acts base mk S p listed).lo = lo := hS.lo.trans hlo
            have ero : (whole m acts base mk S p listed).ro = ro := hS.ro.trans hro
            have hze : RZ P ρ ⟨top, lo, ro, .nil⟩ w := by
              have := hS.rz.empty (k := top) (by omega)
              rwa [elo, ero] at this
            refine oper1_wp hG hcl ho hrun hev (okOper_ty (hops i o ho)) hwe hgl' hze (by show top ≤ most; omega) fun ρ1 v' w2 hv hS2 hm2 => ?_
            have hbi := hid _ hmem
            obtain ⟨ρ2, k1, k2, k3, k4⟩ := hS.make (id := base + i) (ob := ob) (ρ1 := ρ1) (s1 := s1) (w1 := w2) (by omega) (by rw [wn]; exact hbi) (by omega) (by rw [ero, ← hro]; omega) (hunl _ hmem hil) (by rw [elo, ero]; exact hS2) hm2 hob hfo
            have hun : unmet m acts p (i, ob) = true := by
              refine unmet_iff.2 fun q hq hqp => ?_
              cases hb : bit m q i with
              | false => rfl
              | true =>
                rw [hacts] at hq
                obtain ⟨oq, hoq, haq⟩ := mem_deeds.1 hq
                have := befU (hm _ _ hb)
                rw [(hpl q oq hoq haq).2 hqp] at this; cases this
            refine fin ρ2 v' w2 p (k4 _ _ _ hv hnm) (k1.congr ⟨?_, ?_, ?_⟩ fun b => ?_) k2 hp hpa (hplN hnd) hroom hfree fun x hx hl => ?_
            · exact ((putAll_same base _ (S p)).1.trans wn.symm : (whole m acts base mk S p (listed.setIfInBounds i true)).next = (whole m acts base mk S p listed).next)
            · exact ((putAll_same base _ (S p)).2.1.trans wl.symm : (whole m acts base mk S p (listed.setIfInBounds i true)).lo = (whole m acts base mk S p listed).lo)
            · exact ((putAll_same base _ (S p)).2.2.trans wr.symm : (whole m acts base mk S p (listed.setIfInBounds i true)).ro = (whole m acts base mk S p listed).ro)
            · rw [obj_put _ _ _ _ (hidm _ hmem)]
              rcases whole_obj (S := S) (m := m) (acts := acts) hidm p (listed.setIfInBounds i true) b with ⟨x, h1, h2, h3, h4, h5⟩ | ⟨h1, h2⟩
              · rw [h5]
                by_cases e : b = base + i
                · rw [if_pos e, huniq x h1 (i, ob) hmem (by show x.1 = i; omega)]
                · rw [if_neg e]
                  rcases whole_obj (S := S) (m := m) (acts := acts) hidm p listed b with ⟨y, l1, l2, l3, l4, l5⟩ | ⟨l1, l2⟩
                  · rw [l5, huniq x h1 y l1 (by omega)]
                  · rcases (hset x.1).1 h3 with hl | hl
                    · exact absurd h4 (l1 x h1 h2 hl)
                    · omega
              · have e : b ≠ base + i := h1 (i, ob) hmem hun ((hset i).2 (.inr rfl))
                rw [if_neg e, h2]
                rcases whole_obj (S := S) (m := m) (acts := acts) hidm p listed b with ⟨y, l1, l2, l3, l4, l5⟩ | ⟨l1, l2⟩
                · exact absurd l4 (h1 y l1 l2 ((hset y.1).2 (.inl l3)))
                · rw [l2]
            · obtain ⟨h1, h2⟩ := hsetF _ hl
              rw [k3 _ (by omega)]
              exact hunl x hx h1
          · cases hr
        · cases hr
    | false =>
      have hnom : ∀ x ∈ mk, x.1 ≠ i := fun x hx e => by
        obtain ⟨o', h1, h2, _⟩ := hT.made x hx
        rw [e, ho] at h1; cases h1
        rw [hmake] at h2; cases h2
      cases ha : isAct P o.op with
      | false =>
        have hnd : isDeed P o.op = false := by unfold isDeed; rw [ha]; rfl
        have hni : ∀ (j : Nat) (oj : Oper), ops[j]? = some oj → isDeed P oj.op = true → j ≠ i := fun j oj hj haj e => by subst e; rw [ho] at hj; cases hj; rw [hnd] at haj; cases haj
        have hval : oper1 P cl ops o (F i) (putAll base (S p) (sel m acts mk i p)) = some (V i, putAll base (S p) (sel m acts mk i p)) := by
          rcases readsOk_spec hacts hm hreads ho ha (htr i hiN) with hord | hchk
          · have hSp : S p = S i := by
              rcases Nat.lt_or_ge i p with hlt | hge
              · have := sconst hT (p - i) i (by omega) fun q oq h1 h2 h3 => by
                  cases haq : isDeed P oq.op with
                  | false => rfl
                  | true =>
                    have hl := (hpl q oq h3 haq).2 (by omega)
                    have hqi := hni q oq h3 haq
                    rcases hord q oq h3 haq with hb | hb
                    · have := bef_lt hD hb; omega
                    · rw [befU hb] at hl; cases hl
                rwa [show i + (p - i) = p by omega] at this
              · have := sconst hT (i - p) p (by omega) fun q oq h1 h2 h3 => by
                  cases haq : isDeed P oq.op with
                  | false => rfl
                  | true =>
                    rcases hord q oq h3 haq with hb | hb
                    · have := (hpl q oq h3 haq).1 (befL hb); omega
                    · have := bef_lt hD hb; omega
                rw [show p + (i - p) = i by omega] at this
                exact this.symm
            have hsel : sel m acts mk i p = sel m acts mk i i := by
              have side : ∀ q ∈ acts, (q < p ↔ q < i) := fun q hq => by
                rw [hacts] at hq
                obtain ⟨oq, hoq, haq⟩ := mem_deeds.1 hq
                have hqi := hni q oq hoq haq
                rcases hord q oq hoq haq with hb | hb
                · exact ⟨fun _ => bef_lt hD hb, fun _ => (hpl q oq hoq haq).1 (befL hb)⟩
                · constructor
                  · intro hl; have := (hpl q oq hoq haq).2 hl; rw [befU hb] at this; cases this
                  · intro hl; have := bef_lt hD hb; omega
              unfold sel
              refine List.filter_congr fun x _ => ?_
              congr 1
              rw [Bool.eq_iff_iff, unmet_iff, unmet_iff]
              exact ⟨fun h q hq hlt => h q hq ((side q hq).2 hlt), fun h q hq hlt => h q hq ((side q hq).1 hlt)⟩
            obtain ⟨s', h1⟩ := hT.read i o ho ha
            have h2 := oper1_still hG (okOper_ty (hops i o ho)) ha h1
            rw [hSp, hsel, h1, h2]
          · rcases hchk p (S p) (hends p hpa) with ⟨q, oq, hq, haq, hb⟩ | ⟨v', s2, he, rfl⟩
            · rcases hb with ⟨hb, hle⟩ | ⟨hb, hlt⟩
              · have := (hpl q oq hq haq).1 (befL hb); omega
              · have := (hpl q oq hq haq).2 hlt; rw [befU hb] at this; cases this
            · have h2 := oper1_still hG (okOper_ty (hops i o ho)) ha he
              rw [he, h2]
        have hsub := part_whole (S := S) (m := m) (acts := acts) (i := i) (listed := listed) hidm huniq hfree fun x hx hb => befL (hm _ _ hb)
        obtain ⟨q1, q2, q3⟩ := putAll_same base (sel m acts mk i p) (S p)
        have hnn : (putAll base (S p) (sel m acts mk i p)).next = (whole m acts base mk S p listed).next ∧ (putAll base (S p) (sel m acts mk i p)).lo = (whole m acts base mk S p listed).lo ∧ (putAll base (S p) (sel m acts mk i p)).ro = (whole m acts base mk S p listed).ro := ⟨q1.trans wn.symm, q2.trans wl.symm, q3.trans wr.symm⟩
        have hrB : ∀ b, b < (whole m acts base mk S p listed).ro → (putAll base (S p) (sel m acts mk i p)).obj b = (whole m acts base mk S p listed).obj b := fun b hb => by
          have hb' : b < base := by have := hS.ro; omega
          rcases part_obj (S := S) (m := m) (acts := acts) hidm i p b with ⟨x, _, _, _, h4, _⟩ | ⟨_, h2⟩
          · omega
          · rcases whole_obj (S := S) (m := m) (acts := acts) hidm p listed b with ⟨y, _, _, _, k4, _⟩ | ⟨_, k2⟩
            · omega
            · rw [h2, k2]
        refine oper1_wp hG hcl ho hval hev (okOper_ty (hops i o ho)) hwe hgl' (hS.rz.sub hsub hnn) (by omega) fun ρ2 v' w2 hv hS2 hm2 => ?_
        refine fin ρ2 v' w2 p hv ?_ hS2.le hp hpa (hplN hnd) hroom hfree (hunl2 ρ2 fun b hb => hS2.old b (by omega))
        rw [hsameW hnom]
        refine hS.trans (ST.frame hS.rz hsub hnn hrB hS2 ⟨hnn.1.symm, hnn.2.1.symm, hnn.2.2.symm⟩ (fun b ob hb => ?_) fun b hb => (hrB b hb).symm)
        cases hx : (putAll base (S p) (sel m acts mk i p)).obj b with
        | none => exact .inr ⟨hb, rfl⟩
        | some o' => have := hsub b o' hx; rw [hb] at this; cases this; exact .inl rfl
      | true =>
        have hd : isDeed P o.op = true := by unfold isDeed; rw [ha, hmake]; rfl
        have hpi : p ≤ i := by
          refine Nat.le_of_not_lt fun hlt => ?_
          rw [(hpl i o ho hd).2 hlt] at hil; cases hil
        have hpi' : p = i := by
          rcases Nat.lt_or_eq_of_le hpi with hlt | h
          · rcases hpa with h | ⟨op, hop, hap⟩
            · omega
            · have hb := hD.acts p i op o hop ho hap hd hlt
              have := (hpl p op hop hap).1 (befL hb)
              omega
          · exact h
        subst hpi'
        obtain ⟨p', h1, h2, h3, h4⟩ := next_act P ops (ops.size - (p + 1)) (p + 1) rfl (by omega)
        have hSp' : S p' = S (p + 1) := by
          have := sconst hT (p' - (p + 1)) (p + 1) (by omega) fun q o' a b c => h4 q o' a (by omega) c
          rw [show p + 1 + (p' - (p + 1)) = p' by omega] at this
          exact this
        have hpl' : ∀ (j : Nat) (oj : Oper), ops[j]? = some oj → isDeed P oj.op = true → ((listed.getD j false = true ∨ j = p) ↔ j < p') := fun j oj hj haj => by
          constructor
          · rintro (hl | rfl)
            · have := (hpl j oj hj haj).1 hl; omega
            · omega
          · intro hlt
            by_cases e : j = p
            · exact .inr e
            · by_cases e2 : j < p
              · exact .inl ((hpl j oj hj haj).2 e2)
              · rw [h4 j oj (by omega) hlt hj] at haj; cases haj
        have hsub := part_whole (S := S) (m := m) (acts := acts) (i := p) (listed := listed) hidm huniq hfree fun x hx hb => befL (hm _ _ hb)
        obtain ⟨q1, q2, q3⟩ := putAll_same base (sel m acts mk p p) (S p)
        have hnn : (putAll base (S p) (sel m acts mk p p)).next = (whole m acts base mk S p listed).next ∧ (putAll base (S p) (sel m acts mk p p)).lo = (whole m acts base mk S p listed).lo ∧ (putAll base (S p) (sel m acts mk p p)).ro = (whole m acts base mk S p listed).ro := ⟨q1.trans wn.symm, q2.trans wl.symm, q3.trans wr.symm⟩
        have hrB : ∀ b, b < (whole m acts base mk S p listed).ro → (putAll base (S p) (sel m acts mk p p)).obj b = (whole m acts base mk S p listed).obj b := fun b hb => by
          have hb' : b < base := by have := hS.ro; omega
          rcases part_obj (S := S) (m := m) (acts := acts) hidm p p b with ⟨x, _, _, _, h4, _⟩ | ⟨_, h2⟩
          · omega
          · rcases whole_obj (S := S) (m := m) (acts := acts) hidm p listed b with ⟨y, _, _, _, k4, _⟩ | ⟨_, k2⟩
            · omega
            · rw [h2, k2]
        have hrun := hT.deed p o ho hd
        refine oper1_wp hG hcl ho hrun hev (okOper_ty (hops p o ho)) hwe hgl' (hS.rz.sub hsub hnn) (by omega) fun ρ2 v' w2 hv hS2 hm2 => ?_
        have hmem : p ∈ acts := by rw [hacts]; exact mem_deeds.2 ⟨o, ho, hd⟩
        have down : ∀ x, unmet m acts p' x = true → unmet m acts p x = true := fun x hx => unmet_iff.2 fun q hq hlt => unmet_iff.1 hx q hq (by omega)
        have apartM : ∀ x ∈ mk, unmet m acts p' x = true → (putAll base (S p) (sel m acts mk p p)).obj (base + x.1) = none := fun x hx hu => by
          rcases part_obj (S := S) (m := m) (acts := acts) hidm p p (base + x.1) with ⟨y, l1, l2, _, l4, _⟩ | ⟨_, l2⟩
          · have e : y.1 = x.1 := by omega
            rw [e, unmet_iff.1 hu p hmem (by omega)] at l2; cases l2
          · rw [l2]; exact hfree x hx (down x hu)
        obtain ⟨wn', wl', wr'⟩ := putAll_same base (mk.filter fun x => unmet m acts p' x && (listed.setIfInBounds p true).getD x.1 false) (S p')
        refine fin ρ2 v' w2 p' hv (hS.trans (ST.frame hS.rz hsub hnn hrB hS2 ⟨?_, ?_, ?_⟩ (fun b ob hb => ?_) fun b hb => ?_)) hS2.le h2 h3 hpl' ?_ (fun x hx hu => ?_) (hunl2 ρ2 fun b hb => hS2.old b (by omega))
        · exact (wn'.trans (by rw [hSp']) : (whole m acts base mk S p' (listed.setIfInBounds p true)).next = _)
        · exact (wl'.trans (by rw [hSp']) : (whole m acts base mk S p' (listed.setIfInBounds p true)).lo = _)
        · exact (wr'.trans (by rw [hSp']) : (whole m acts base mk S p' (listed.setIfInBounds p true)).ro = _)
        · rcases whole_obj (S := S) (m := m) (acts := acts) hidm p' (listed.setIfInBounds p true) b with ⟨x, l1, l2, l3, l4, l5⟩ | ⟨_, l2⟩
          · right
            have hl : listed.getD x.1 false = true := ((hset x.1).1 l3).resolve_right (hnom x l1)
            rw [l5] at hb; cases hb
            subst l4
            refine ⟨?_, apartM x l1 l2⟩
            rcases whole_obj (S := S) (m := m) (acts := acts) hidm p listed (base + x.1) with ⟨y, k1, _, _, k4, k5⟩ | ⟨k1, _⟩
            · rw [k5, huniq x l1 y k1 (by omega)]
            · exact absurd rfl (k1 x l1 (down x l2) hl)
          · left; rw [← hSp', ← l2]; exact hb
        · have hb' : b < base := by have := hS.ro; omega
          rcases whole_obj (S := S) (m := m) (acts := acts) hidm p' (listed.setIfInBounds p true) b with ⟨x, _, _, _, l4, _⟩ | ⟨_, l2⟩
          · omega
          · rw [l2, hSp']
        · rw [hSp']; have := hS2.grow; omega
        · cases hx2 : (S p').obj (base + x.1) with
          | none => rfl
          | some ob =>
            exfalso
            rw [hSp'] at hx2
            obtain ⟨c, _, e1, _⟩ := hS2.rz.obj _ ob hx2
            have e2 : ρ.at_ (base + x.1) = some c := by rw [← hS2.old _ (by have := hid x hx; omega)]; exact e1
            cases hl : listed.getD x.1 false with
            | false => rw [hunl x hx hl] at e2; cases e2
            | true =>
              obtain ⟨b0, k1, k2⟩ := hS2.own _ c (by simp [hx2]) e1 (hS.rz.lt _ _ e2)
              obtain ⟨o1, k3⟩ := Option.isSome_iff_exists.1 k1
              have hxu : (whole m acts base mk S p listed).obj (base + x.1) = some x.2 := by
                rcases whole_obj (S := S) (m := m) (acts := acts) hidm p listed (base + x.1) with ⟨y, r1, _, _, r4, r5⟩ | ⟨r1, _⟩
                · rw [r5, huniq x hx y r1 (by omega)]
                · exact absurd rfl (r1 x hx (down x hu) hl)
              have := hS.rz.inj b0 (base + x.1) c (by simp [hsub b0 o1 k3]) (by simp [hxu]) k2 e2
              subst this
              rw [apartM x hx hu] at k3; cases k3
end
end
end Go.Proofs.YtdcjkglhhmnjiaaGreatDoor.Sx
