/- A region that draws, whole. -/
import Derived.Test.YtojlncopehjpiaaDoorSxM
namespace Go.Proofs.YtojlncopehjpiaaDoor.Sx
section
variable {P : Program} {gl n : Nat} {cl : FuncId → Array Value → St → Option (Value × St)} {ops : Array Oper}

theorem sconst (hG : Good P) (hops : ∀ (j : Nat) (p : Oper), ops[j]? = some p → okOper P gl n p = true) {F : Nat → Fr} {S : Nat → St} {V : Nat → Value} (hstep : ∀ (j : Nat) (o : Oper), ops[j]? = some o → oper1 P cl ops o (F j) (S j) = some (V j, S (j + 1)) ∧ F (j + 1) = (F j).put o.dst (V j)) :
    ∀ (d i : Nat), i + d ≤ ops.size → (∀ q o, i ≤ q → q < i + d → ops[q]? = some o → isAct o.op = false) → S (i + d) = S i := by
  intro d
  induction d with
  | zero => intro i _ _; rfl
  | succ d ih =>
    intro i hi hq
    have hlt : i + d < ops.size := by omega
    have ho := Array.getElem?_eq_getElem hlt
    have h1 := oper1_still hG (okOper_ty (hops _ _ ho)) (hq (i + d) _ (by omega) (by omega) ho) (hstep (i + d) _ ho).1
    rw [show i + (d + 1) = i + d + 1 by omega, h1]
    exact ih i (by omega) fun q o a b => hq q o a (by omega)

theorem fval (hD : Drawn ops) (hops : ∀ (j : Nat) (p : Oper), ops[j]? = some p → okOper P gl n p = true) (hn : n ≤ most) {F : Nat → Fr} {S : Nat → St} {V : Nat → Value} (hstep : ∀ (j : Nat) (o : Oper), ops[j]? = some o → oper1 P cl ops o (F j) (S j) = some (V j, S (j + 1)) ∧ F (j + 1) = (F j).put o.dst (V j)) :
    ∀ i, i ≤ ops.size → (∀ t, (∀ (j : Nat) (o : Oper), j < i → ops[j]? = some o → o.dst ≠ some t) → (F i).get t = (F 0).get t) ∧ ∀ (j : Nat) (o : Oper) (t : Nat), j < i → ops[j]? = some o → o.dst = some t → (F i).get t = V j := by
  intro i
  induction i with
  | zero => intro _; exact ⟨fun _ _ => rfl, fun j o t h => by omega⟩
  | succ i ih =>
    intro hi
    obtain ⟨ih1, ih2⟩ := ih (by omega)
    have hlt : i < ops.size := by omega
    have ho := Array.getElem?_eq_getElem hlt
    rw [(hstep i _ ho).2]
    cases hd : ops[i].dst with
    | none =>
      refine ⟨fun t h => ih1 t fun j o a b => h j o (by omega) b, fun j o t hj hjo ht => ?_⟩
      by_cases e : j = i
      · subst e; rw [ho] at hjo; cases hjo; rw [hd] at ht; cases ht
      · exact ih2 j o t (by omega) hjo ht
    | some d =>
      have hdn : d < most := by
        have := hops i _ ho
        unfold okOper at this
        rw [hd] at this
        simp only [Bool.and_eq_true] at this
        exact Nat.lt_of_lt_of_le (unblt this.2.2) hn
      refine ⟨fun t h => ?_, fun j o t hj hjo ht => ?_⟩
      · have hne : t ≠ d := fun e => h i _ (by omega) ho (by rw [hd, e])
        rw [get_put_other _ _ _ _ hne]
        exact ih1 t fun j o a b => h j o (by omega) b
      · by_cases e : j = i
        · subst e
          rw [ho] at hjo; cases hjo; rw [hd] at ht; cases ht
          exact get_put_same _ _ _ hdn
        · have hne : t ≠ d := fun e2 => e (hD.dst j i o _ t hjo ho ht (by rw [hd, e2]))
          rw [get_put_other _ _ _ _ hne]
          exact ih2 j o t (by omega) hjo ht

theorem readsOk_spec {tr : List (Fr × St × Value)} {s' : St} (hm : ∀ j q, bit (masks ops.toList 0 .nil) j q = true → Bef ops j q) (h : readsOk P cl ops tr s' = true) {i : Nat} {o : Oper} (hi : ops[i]? = some o) (ha : isAct o.op = false) {f : Fr} {s : St} {v : Value} (ht : tr[i]? = some (f, s, v)) :
    (∀ (q : Nat) (p : Oper), ops[q]? = some p → isAct p.op = true → Bef ops i q ∨ Bef ops q i) ∨
    ∀ (p : Nat) (sp : St), (p = ops.size ∧ sp = s') ∨ (∃ o, ops[p]? = some o ∧ isAct o.op = true ∧ ∃ fp vp, tr[p]? = some (fp, sp, vp)) →
      (∃ q o, ops[q]? = some o ∧ isAct o.op = true ∧ ((Bef ops i q ∧ p ≤ q) ∨ (Bef ops q i ∧ q < p))) ∨ ∃ v' s2, oper1 P cl ops o f sp = some (v', s2) ∧ v' = v := by
  unfold readsOk at h
  simp only [List.all_eq_true] at h
  have h1 := h (o, i) (mem_zip hi)
  dsimp only at h1
  rw [ha, ht] at h1
  simp only [Bool.false_or, Bool.or_eq_true, List.all_eq_true] at h1
  have mem : ∀ q p, ops[q]? = some p → isAct p.op = true → q ∈ (ops.toList.zipIdx.filter fun x => isAct x.1.op).map (·.2) := by
    intro q p hq hp
    refine List.mem_map.2 ⟨(p, q), List.mem_filter.2 ⟨mem_zip hq, hp⟩, rfl⟩
  have mem' : ∀ q, q ∈ (ops.toList.zipIdx.filter fun x => isAct x.1.op).map (·.2) → ∃ p, ops[q]? = some p ∧ isAct p.op = true := by
    intro q hq
    obtain ⟨⟨p, q'⟩, hx, rfl⟩ := List.mem_map.1 hq
    obtain ⟨hx1, hx2⟩ := List.mem_filter.1 hx
    rw [List.mem_zipIdx_iff_getElem?] at hx1
    exact ⟨p, by simpa using hx1, hx2⟩
  rcases h1 with h1 | h1
  · left
    intro q p hq hp
    rcases h1 q (mem q p hq hp) with h2 | h2
    · exact .inl (hm _ _ h2)
    · exact .inr (hm _ _ h2)
  · right
    intro p sp hp
    have hmem : (p, sp) ∈ ((((ops.toList.zipIdx.filter fun x => isAct x.1.op).map (·.2)).map fun p => (p, match tr[p]? with | some (_, s, _) => s | none => s')) ++ [(ops.toList.zipIdx.length, s')]) := by
      rcases hp with ⟨rfl, rfl⟩ | ⟨o2, ho2, ha2, fp, vp, htp⟩
      · simp
      · refine List.mem_append.2 (.inl (List.mem_map.2 ⟨p, mem p o2 ho2 ha2, ?_⟩))
        rw [htp]
    have h2 := h1 (p, sp) hmem
    rcases h2 with (h2 | h2) | h2
    · left
      obtain ⟨q, hq, hb⟩ := List.any_eq_true.1 h2
      obtain ⟨o2, ho2, ha2⟩ := mem' q hq
      simp only [Bool.and_eq_true, Nat.ble_eq] at hb
      exact ⟨q, o2, ho2, ha2, .inl ⟨hm _ _ hb.1, hb.2⟩⟩
    · left
      obtain ⟨q, hq, hb⟩ := List.any_eq_true.1 h2
      obtain ⟨o2, ho2, ha2⟩ := mem' q hq
      simp only [Bool.and_eq_true] at hb
      exact ⟨q, o2, ho2, ha2, .inr ⟨hm _ _ hb.1, unblt hb.2⟩⟩
    · right
      cases he : oper1 P cl ops o f sp with
      | none => rw [he] at h2; cases h2
      | some r =>
        obtain ⟨v', s2⟩ := r
        rw [he] at h2
        exact ⟨v', s2, rfl, sameV_eq 8 _ _ h2⟩

theorem tmp_mem {o : Oper} {t : Nat} (h : .tmp t ∈ o.op.operands) : t ∈ tmpsOf ops o :=
  List.mem_append.2 (.inl (List.mem_filterMap.2 ⟨.tmp t, Array.mem_toList_iff.2 h, rfl⟩))
theorem guard_mem {o : Oper} {t : Nat} (h : guardTmp ops o = some t) : t ∈ tmpsOf ops o :=
  List.mem_append.2 (.inr (by rw [h]; simp))

theorem inv_wp (hG : Good P) (hcl : CallsOk P gl cl) (hops : ∀ (j : Nat) (p : Oper), ops[j]? = some p → okOper P gl n p = true) (hn : n ≤ most) (hD : Drawn ops) (hm : ∀ j q, bit (masks ops.toList 0 .nil) j q = true → Bef ops j q)
    {F : Nat → Fr} {S : Nat → St} {V : Nat → Value} {tr : List (Fr × St × Value)}
    (hstep : ∀ (j : Nat) (o : Oper), ops[j]? = some o → oper1 P cl ops o (F j) (S j) = some (V j, S (j + 1)) ∧ F (j + 1) = (F j).put o.dst (V j))
    (htr : ∀ j, j < ops.size → tr[j]? = some (F j, S j, V j)) (hreads : readsOk P cl ops tr (S ops.size) = true)
    {ρ0 : Rho} {w0 : World} (hgl : ∀ g, g < gl → ρ0.at_ g = some g) {Q : Exit → Act → World → Prop}
    (hQ : ∀ ρ' a' w', FR ρ' gl n (F ops.size) a' → ST P ρ0 (S 0) w0 ρ' (S ops.size) w' → (S ops.size).next ≤ most → Q .normal a' w') :
    ∀ (fuel : Nat) (listed : Array Bool) (a : Act) (w : World), ops.size ≤ fuel + listed.toList.count true → Inv P ops gl n (F 0) S V ρ0 (S 0) w0 listed a w → wpAny P .any ops Q fuel listed a w := by
  have hF := fval (gl := gl) (n := n) hD hops hn hstep
  have hend : ∀ (listed : Array Bool) (a : Act) (w : World), Inv P ops gl n (F 0) S V ρ0 (S 0) w0 listed a w → Region.ready .any ops listed = [] → Q .normal a w := by
    intro listed a w hI hr
    have hall : ∀ i, i < ops.size → listed.getD i false = true := by
      intro i
      induction i using Nat.strongRecOn with
      | ind i ih =>
        intro hi
        cases hl : listed.getD i false with
        | true => rfl
        | false =>
          have : i ∈ Region.ready .any ops listed := mem_ready.2 ⟨by
            have : i < listed.size := by rw [hI.size]; exact hi
            simp [this] at hl ⊢; exact hl, ops[i], Array.getElem?_eq_getElem hi, fun e he hb => by
              have hlt := hD.back i ops[i] (Array.getElem?_eq_getElem hi) e he hb
              exact ih e.on hlt (by omega)⟩
          rw [hr] at this; cases this
    obtain ⟨p, hp, hpa, hpl, ρ, hS, hmm, hV, hf⟩ := hI.at_
    have hpN : p = ops.size := by
      rcases hpa with h | ⟨o, ho, ha⟩
      · exact h
      · have hlt := (Array.getElem?_eq_some_iff.1 ho).1
        have := (hpl p o ho ha).1 (hall p hlt)
        omega
    subst hpN
    obtain ⟨h1, h2⟩ := hF ops.size (Nat.le_refl _)
    refine hQ ρ a w ⟨fun t => ?_, hI.tsize, hI.defers, fun g hg => (hS.le _ _ (hgl g hg)).1, hn⟩ hS hmm
    by_cases hx : ∃ (j : Nat) (o : Oper), ops[j]? = some o ∧ o.dst = some t
    · obtain ⟨j, o, ho, hd⟩ := hx
      have hj := (Array.getElem?_eq_some_iff.1 ho).1
      rw [h2 j o t hj ho hd]
      exact hV j o t (hall j hj) ho hd
    · rw [h1 t fun j o _ ho hd => hx ⟨j, o, ho, hd⟩]
      exact hf t fun j o _ ho hd => hx ⟨j, o, ho, hd⟩
  intro fuel
  induction fuel with
  | zero =>
    intro listed a w hc hI
    have hz := hI.size
    have hall : listed.toList.count true = listed.toList.length := by
      have := List.count_le_length (a := true) (l := listed.toList)
      simp at this hc ⊢; omega
    have hr : Region.ready .any ops listed = [] := by
      cases h : Region.ready .any ops listed with
      | nil => rfl
      | cons i l =>
        have hi : i ∈ Region.ready .any ops listed := by rw [h]; simp
        obtain ⟨h0, o, ho, _⟩ := mem_ready.1 hi
        have hlt : i < listed.size := by rw [hz]; exact (Array.getElem?_eq_some_iff.1 ho).1
        have := List.count_eq_length.1 hall listed[i] (by simp)
        simp [hlt] at h0
        rw [h0] at this; cases this
    exact ⟨hr, hend listed a w hI hr⟩
  | succ fuel ih =>
    intro listed a w hc hI
    refine ⟨hend listed a w hI, fun i hi => ?_⟩
    obtain ⟨h0, o, ho, hdep⟩ := mem_ready.1 hi
    have hz := hI.size
    have hiN := (Array.getElem?_eq_some_iff.1 ho).1
    have hlt : i < listed.size := by rw [hz]; exact hiN
    have h0' : listed[i] = false := by simpa [hlt] using h0
    have hil : listed.getD i false = false := by simp [Array.getD, hlt, h0']
    obtain ⟨p, hp, hpa, hpl, ρ, hS, hmm, hV, hf⟩ := hI.at_
    have befL : ∀ {j}, Bef ops i j → listed.getD j false = true := fun hb => hI.ready hb fun o' ho' e he hb => by
      rw [ho] at ho'; cases ho'; exact hdep e he hb
    have befU : ∀ {j}, Bef ops j i → listed.getD j false = false := fun {j} hb => by
      cases hl : listed.getD j false with
      | false => rfl
      | true => rw [hI.listed hb hl] at hil; cases hil
    obtain ⟨hF1, hF2⟩ := hF i (by omega)
    have htmp : ∀ t, t ∈ tmpsOf ops o → VR ρ ((F i).get t) (a.tmps.getD t undef) := by
      intro t ht
      by_cases hx : ∃ (j : Nat) (oj : Oper), ops[j]? = some oj ∧ oj.dst = some t
      · obtain ⟨j, oj, hoj, hd⟩ := hx
        have huniq : ∀ (j' : Nat) (o' : Oper), ops[j']? = some o' → o'.dst = some t → j' = j := fun j' o' h1 h2 => hD.dst j' j o' oj t h1 hoj h2 hd
        have hno : listed.getD j false = false → ¬ j < i → VR ρ ((F i).get t) (a.tmps.getD t undef) := by
          intro hl hlt
          rw [hF1 t fun j' o' hj' ho' hd' => by have := huniq j' o' ho' hd'; omega]
          exact hf t fun j' o' hl' ho' hd' => by have := huniq j' o' ho' hd'; subst this; rw [hl] at hl'; cases hl'
        by_cases e : j = i
        · exact hno (e ▸ hil) (by omega)
        · rcases hD.reads j i oj o t hoj ho hd e ht with hb | hb
          · rw [hF2 j oj t (bef_lt hD hb) hoj hd]
            exact hV j oj t (befL hb) hoj hd
          · exact hno (befU hb) (by have := bef_lt hD hb; omega)
      · rw [hF1 t fun j' o' _ ho' hd' => hx ⟨j', o', ho', hd'⟩]
        exact hf t fun j' o' _ ho' hd' => hx ⟨j', o', ho', hd'⟩
    have hgl' : ∀ g, g < gl → ρ.at_ g = some g := fun g hg => (hS.le _ _ (hgl g hg)).1
    have hev := okOper_eval (hops i o ho) hgl' (f := F i) (a := a) fun t ht => htmp t (tmp_mem ht)
    have hwe := wants_eq (ops := ops) (o := o) (f := F i) hI.tsize fun t ht => ⟨guard_lt hops ht, htmp t (guard_mem ht)⟩
    -- the state that comes behind, and which act stands next
    have hgoal : ∃ S' p', p' ≤ ops.size ∧ (p' = ops.size ∨ ∃ o, ops[p']? = some o ∧ isAct o.op = true) ∧ S' = S p' ∧ oper1 P cl ops o (F i) (S p) = some (V i, S') ∧
        ∀ (j : Nat) (oj : Oper), ops[j]? = some oj → isAct oj.op = true → ((listed.getD j false = true ∨ j = i) ↔ j < p') := by
      cases ha : isAct o.op with
      | true =>
        have hpi : p ≤ i := by
          refine Nat.le_of_not_lt fun hlt => ?_
          rw [(hpl i o ho ha).2 hlt] at hil; cases hil
        have hpi' : p = i := by
          rcases Nat.lt_or_eq_of_le hpi with hlt | h
          · rcases hpa with h | ⟨op, hop, hap⟩
            · omega
            · have hb := hD.acts p i op o hop ho hap ha hlt
              have := (hpl p op hop hap).1 (befL hb)
              omega
          · exact h
        subst hpi'
        obtain ⟨p', h1, h2, h3, h4⟩ := next_act ops (ops.size - (p + 1)) (p + 1) rfl (by omega)
        refine ⟨S (p + 1), p', h2, h3, ?_, (hstep p o ho).1, fun j oj hj haj => ?_⟩
        · have := sconst hG hops hstep (p' - (p + 1)) (p + 1) (by omega) fun q o' a b c => h4 q o' a (by omega) c
          rw [show p + 1 + (p' - (p + 1)) = p' by omega] at this
          exact this.symm
        · constructor
          · rintro (hl | rfl)
            · have := (hpl j oj hj haj).1 hl; omega
            · omega
          · intro hlt
            by_cases e : j = p
            · exact .inr e
            · by_cases e2 : j < p
              · exact .inl ((hpl j oj hj haj).2 e2)
              · rw [h4 j oj (by omega) hlt hj] at haj; cases haj
      | false =>
        have hni : ∀ (j : Nat) (oj : Oper), ops[j]? = some oj → isAct oj.op = true → j ≠ i := fun j oj hj haj e => by subst e; rw [ho] at hj; cases hj; rw [ha] at haj; cases haj
        have hval : oper1 P cl ops o (F i) (S p) = some (V i, S p) := by
          rcases readsOk_spec hm hreads ho ha (htr i hiN) with hord | hchk
          · have hSp : S p = S i := by
              rcases Nat.lt_or_ge i p with hlt | hge
              · have := sconst hG hops hstep (p - i) i (by omega) fun q oq h1 h2 h3 => by
                  cases haq : isAct oq.op with
                  | false => rfl
                  | true =>
                    have hl := (hpl q oq h3 haq).2 (by omega)
                    have hqi := hni q oq h3 haq
                    rcases hord q oq h3 haq with hb | hb
                    · have := bef_lt hD hb; omega
                    · rw [befU hb] at hl; cases hl
                rwa [show i + (p - i) = p by omega] at this
              · have := sconst hG hops hstep (i - p) p (by omega) fun q oq h1 h2 h3 => by
                  cases haq : isAct oq.op with
                  | false => rfl
                  | true =>
                    rcases hord q oq h3 haq with hb | hb
                    · have := (hpl q oq h3 haq).1 (befL hb); omega
                    · have := bef_lt hD hb; omega
                rw [show p + (i - p) = i by omega] at this
                exact this.symm
            have h1 := (hstep i o ho).1
            have h2 := oper1_still hG (okOper_ty (hops i o ho)) ha h1
            rw [hSp, h1, h2]
          · have hsp : (p = ops.size ∧ S p = S ops.size) ∨ (∃ o, ops[p]? = some o ∧ isAct o.op = true ∧ ∃ fp vp, tr[p]? = some (fp, S p, vp)) := by
              rcases hpa with h | ⟨op, hop, hap⟩
              · exact .inl ⟨h, by rw [h]⟩
              · exact .inr ⟨op, hop, hap, _, _, htr p (Array.getElem?_eq_some_iff.1 hop).1⟩
            rcases hchk p (S p) hsp with ⟨q, oq, hq, haq, hb⟩ | ⟨v', s2, he, rfl⟩
            · rcases hb with ⟨hb, hle⟩ | ⟨hb, hlt⟩
              · have := (hpl q oq hq haq).1 (befL hb); omega
              · have := (hpl q oq hq haq).2 hlt; rw [befU hb] at this; cases this
            · have h2 := oper1_still hG (okOper_ty (hops i o ho)) ha he
              rw [he, h2]
        refine ⟨S p, p, hp, hpa, rfl, hval, fun j oj hj haj => ?_⟩
        constructor
        · rintro (hl | e)
          · exact (hpl j oj hj haj).1 hl
          · exact absurd e (hni j oj hj haj)
        · exact fun hlt => .inl ((hpl j oj hj haj).2 hlt)
    obtain ⟨S', p', hp', hpa', rfl, hrun, hpl'⟩ := hgoal
    have hset : ∀ j, (listed.setIfInBounds i true).getD j false = true ↔ (listed.getD j false = true ∨ j = i) := by
      intro j
      by_cases e : j = i
      · subst e; simp [Array.getD, hlt]
      · rw [getD_set_ne false (Ne.symm e)]; simp [e]
    refine oper1_wp hG hcl ho hrun hev (okOper_ty (hops i o ho)) hwe hgl' hS.rz hmm fun ρ2 v' w2 hv hS2 hm2 => ?_
    refine ih _ _ _ ?_ ⟨by simpa using hz, fun j oj hj hoj e he hb => ?_, ⟨p', hp', hpa', fun j oj hj haj => by rw [hset]; exact hpl' j oj hj haj, ρ2, hS.trans hS2, hm2, fun j oj t hj hoj hd => ?_, fun t ht => ?_⟩, ?_, ?_⟩
    · have : (listed.setIfInBounds i true).toList.count true = listed.toList.count true + 1 := by
        rw [Array.toList_setIfInBounds, List.count_set (by simpa using hlt)]
        simp [h0']
      omega
    · rw [hset] at hj ⊢
      rcases hj with hj | rfl
      · exact .inl (hI.down j oj hj hoj e he hb)
      · rw [ho] at hoj; cases hoj; exact .inl (hdep e he hb)
    · rw [hset] at hj
      have hdn : t < n := by
        have := hops j oj hoj
        unfold okOper at this
        rw [hd] at this
        simp only [Bool.and_eq_true] at this
        exact unblt this.2.2
      by_cases e : j = i
      · subst e
        rw [ho] at hoj; cases hoj
        rw [hd]
        have : t < a.tmps.size := by rw [hI.tsize]; exact hdn
        simp [Act.put, Array.getD, this]
        exact hv
      · have hj' := hj.resolve_right e
        have hne : o.dst ≠ some t := fun h => e (hD.dst j i oj o t hoj ho hd h)
        have := (hV j oj t hj' hoj hd).mono hS2.le
        cases hod : o.dst with
        | none => simpa [Act.put] using this
        | some d =>
          have hdt : d ≠ t := fun h => hne (by rw [hod, h])
          simp only [Act.put, Array.getD_eq_getD_getElem?, Array.getElem?_setIfInBounds] at this ⊢
          rw [if_neg hdt]; exact this
    · have hne : o.dst ≠ some t := ht i o ((hset i).2 (.inr rfl)) ho
      have := (hf t fun j oj hj hoj => ht j oj ((hset j).2 (.inl hj)) hoj).mono hS2.le
      cases hod : o.dst with
      | none => simpa [Act.put] using this
      | some d =>
        have hdt : d ≠ t := fun h => hne (by rw [hod, h])
        simp only [Act.put, Array.getD_eq_getD_getElem?, Array.getElem?_setIfInBounds] at this ⊢
        rw [if_neg hdt]; exact this
    · cases hod : o.dst <;> simp [Act.put, hI.tsize]
    · cases hod : o.dst <;> simp [Act.put, hI.defers]
end
end Go.Proofs.YtojlncopehjpiaaDoor.Sx
