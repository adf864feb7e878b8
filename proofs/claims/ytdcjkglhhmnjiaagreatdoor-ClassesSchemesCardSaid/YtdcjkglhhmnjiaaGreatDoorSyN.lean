/- A region that draws, whole. -/
import Derived.Test.YtdcjkglhhmnjiaaGreatDoorSyM
namespace Go.Proofs.YtdcjkglhhmnjiaaGreatDoor.Sx
noncomputable section
section
variable {P : Program} {gl n : Nat} {D : List Deferred} {R : Option Nat} {cl : Cl} {ops : Array Oper} {m : Tr Nat} {acts : List Nat} {base lo ro : Nat} {mk : List Mk} {F : Nat → Fr} {S : Nat → St} {V : Nat → Value}

theorem sconst (hT : Steps P cl ops m acts base lo ro mk F S V) :
    ∀ (d i : Nat), i + d ≤ ops.size → (∀ q o, i ≤ q → q < i + d → ops[q]? = some o → isDeed P o.op = false) → S (i + d) = S i := by
  intro d
  induction d with
  | zero => intro i _ _; rfl
  | succ d ih =>
    intro i hi hq
    have hlt : i + d < ops.size := by omega
    have ho := Array.getElem?_eq_getElem hlt
    have h1 := hT.still (i + d) _ ho (hq (i + d) _ (by omega) (by omega) ho)
    rw [show i + (d + 1) = i + d + 1 by omega, h1]
    exact ih i (by omega) fun q o a b => hq q o a (by omega)

theorem fval (hD : Drawn P ops) (hops : ∀ (j : Nat) (p : Oper), ops[j]? = some p → okOper P gl n p = true) (hn : n ≤ most) (hT : Steps P cl ops m acts base lo ro mk F S V) :
    ∀ i, i ≤ ops.size → (∀ t, (∀ (j : Nat) (o : Oper), j < i → ops[j]? = some o → o.dst ≠ some t) → (F i).get t = (F 0).get t) ∧ ∀ (j : Nat) (o : Oper) (t : Nat), j < i → ops[j]? = some o → o.dst = some t → (F i).get t = V j := by
  intro i
  induction i with
  | zero => intro _; exact ⟨fun _ _ => rfl, fun j o t h => by omega⟩
  | succ i ih =>
    intro hi
    obtain ⟨ih1, ih2⟩ := ih (by omega)
    have hlt : i < ops.size := by omega
    have ho := Array.getElem?_eq_getElem hlt
    rw [hT.put i _ ho]
    cases hd : ops[i].dst with
    | none =>
      refine ⟨fun t h => ih1 t fun j o a b => h j o (by omega) b, fun j o t hj hjo ht => ?_⟩
      by_cases e : j = i
      · subst e; rw [ho] at hjo; cases hjo; rw [hd] at ht; cases ht
      · exact ih2 j o t (by omega) hjo ht
    | some d =>
      have hdn : d < most := by
        have := hops i _ ho
        unfold okOper at this
        rw [hd] at this
        simp only [Bool.and_eq_true] at this
        exact Nat.lt_of_lt_of_le (unblt this.2.2) hn
      refine ⟨fun t h => ?_, fun j o t hj hjo ht => ?_⟩
      · have hne : t ≠ d := fun e => h i _ (by omega) ho (by rw [hd, e])
        rw [get_put_other _ _ _ _ hne]
        exact ih1 t fun j o a b => h j o (by omega) b
      · by_cases e : j = i
        · subst e
          rw [ho] at hjo; cases hjo; rw [hd] at ht; cases ht
          exact get_put_same _ _ _ hdn
        · have hne : t ≠ d := fun e2 => e (hD.dst j i o _ t hjo ho ht (by rw [hd, e2]))
          rw [get_put_other _ _ _ _ hne]
          exact ih2 j o t (by omega) hjo ht

/-- the numbers of the deeds -/
theorem mem_deeds {q : Nat} : q ∈ deedsOf P ops ↔ ∃ o, ops[q]? = some o ∧ isDeed P o.op = true := by
  unfold deedsOf
  constructor
  · intro hq
    obtain ⟨⟨p, q'⟩, hx, rfl⟩ := List.mem_map.1 hq
    obtain ⟨hx1, hx2⟩ := List.mem_filter.1 hx
    rw [List.mem_zipIdx_iff_getElem?] at hx1
    exact ⟨p, by simpa using hx1, hx2⟩
  · rintro ⟨o, h1, h2⟩
    exact List.mem_map.2 ⟨(o, q), List.mem_filter.2 ⟨mem_zip h1, h2⟩, rfl⟩

theorem unmet_iff {p : Nat} {x : Mk} : unmet m acts p x = true ↔ ∀ q ∈ acts, q < p → bit m q x.1 = false := by
  unfold unmet
  rw [List.all_eq_true]
  constructor
  · intro h q hq hlt
    have := h q hq
    rw [show Nat.blt q p = true from Nat.ble_eq_true_of_le hlt] at this
    simpa using this
  · intro h q hq
    cases hb : Nat.blt q p with
    | false => rfl
    | true => simp [h q hq (unblt hb)]

theorem mem_sel {i p : Nat} {x : Mk} : x ∈ sel m acts mk i p ↔ x ∈ mk ∧ bit m i x.1 = true ∧ unmet m acts p x = true := by
  unfold sel
  rw [List.mem_filter, Bool.and_eq_true]

theorem readsOk_next {tr : List (Fr × St × Value)} {s' : St} (h : readsOk P cl ops m acts base mk tr s' = true) {p : Nat} {sp : St} (hmem : (p, sp) ∈ endsOf tr s' acts ops.toList.length) : sp.next ≤ top := by
  unfold readsOk at h
  simp only [Bool.and_eq_true] at h
  exact Nat.le_of_ble_eq_true (List.all_eq_true.1 h.1 _ hmem)

theorem readsOk_spec {tr : List (Fr × St × Value)} {s' : St} (hacts : acts = deedsOf P ops) (hm : ∀ j q, bit m j q = true → Bef ops j q) (h : readsOk P cl ops m acts base mk tr s' = true) {i : Nat} {o : Oper} (hi : ops[i]? = some o) (ha : isAct P o.op = false) {f : Fr} {s : St} {v : Value} (ht : tr[i]? = some (f, s, v)) :
    (∀ (q : Nat) (p : Oper), ops[q]? = some p → isDeed P p.op = true → Bef ops i q ∨ Bef ops q i) ∨
    ∀ (p : Nat) (sp : St), (p, sp) ∈ endsOf tr s' acts ops.toList.length →
      (∃ q o, ops[q]? = some o ∧ isDeed P o.op = true ∧ ((Bef ops i q ∧ p ≤ q) ∨ (Bef ops q i ∧ q < p))) ∨ ∃ v' s2, oper1 P cl ops o f (putAll base sp (sel m acts mk i p)) = some (v', s2) ∧ v' = v := by
  unfold readsOk at h
  simp only [Bool.and_eq_true] at h
  have h0 := List.all_eq_true.1 h.2 (o, i) (mem_zip hi)
  dsimp only at h0
  rw [ha, ht] at h0
  simp only [Bool.false_or, Bool.or_eq_true, List.all_eq_true] at h0
  rcases h0 with h1 | h1
  · left
    intro q p hq hp
    rcases h1 q (by rw [hacts]; exact mem_deeds.2 ⟨p, hq, hp⟩) with h2 | h2
    · exact .inl (hm _ _ h2)
    · exact .inr (hm _ _ h2)
  · right
    intro p sp hmem
    have h2 := h1 (p, sp) hmem
    rcases h2 with (h2 | h2) | h2
    · left
      obtain ⟨q, hq, hb⟩ := List.any_eq_true.1 h2
      rw [hacts] at hq
      obtain ⟨o2, ho2, ha2⟩ := mem_deeds.1 hq
      simp only [Bool.and_eq_true, Nat.ble_eq] at hb
      exact ⟨q, o2, ho2, ha2, .inl ⟨hm _ _ hb.1, hb.2⟩⟩
    · left
      obtain ⟨q, hq, hb⟩ := List.any_eq_true.1 h2
      rw [hacts] at hq
      obtain ⟨o2, ho2, ha2⟩ := mem_deeds.1 hq
      simp only [Bool.and_eq_true] at hb
      exact ⟨q, o2, ho2, ha2, .inr ⟨hm _ _ hb.1, unblt hb.2⟩⟩
    · right
      cases he : oper1 P cl ops o f (putAll base sp (sel m acts mk i p)) with
      | none => rw [he] at h2; cases h2
      | some r =>
        obtain ⟨v', s2⟩ := r
        rw [he] at h2
        exact ⟨v', s2, rfl, sameV_eq 8 _ _ h2⟩

theorem tmp_mem {o : Oper} {t : Nat} (h : .tmp t ∈ o.op.operands) : t ∈ tmpsOf ops o :=
  List.mem_append.2 (.inl (List.mem_filterMap.2 ⟨.tmp t, Array.mem_toList_iff.2 h, rfl⟩))
theorem guard_mem {o : Oper} {t : Nat} (h : guardTmp ops o = some t) : t ∈ tmpsOf ops o :=
  List.mem_append.2 (.inr (by rw [h]; simp))


/-- a part of what lies in the world lies there -/
theorem RZ.sub {ρ : Rho} {u k : St} {w : World} (hz : RZ P ρ u w) (hM : ∀ b o, k.obj b = some o → u.obj b = some o) (hn : k.next = u.next ∧ k.lo = u.lo ∧ k.ro = u.ro) : RZ P ρ k w := by
  obtain ⟨n1, n2, n3⟩ := hn
  have live : ∀ b, (k.obj b).isSome → (u.obj b).isSome := fun b hb => by
    obtain ⟨o, ho⟩ := Option.isSome_iff_exists.1 hb
    simp [hM b o ho]
  refine ⟨fun b o h => hz.obj b o (hM b o h), fun b b' c h h' => hz.inj b b' c (live b h) (live b' h'), fun b hb => hz.fresh b (n1 ▸ hb), hz.lt, by rw [n3, n1]; exact hz.roNext, fun b c h1 h2 e => ?_, fun b b' c h1 h2 h3 h4 => hz.apart b b' c (n2 ▸ h1) (n3 ▸ h2) (n2 ▸ h3) (n3 ▸ h4)⟩
  obtain ⟨k1, k2⟩ := hz.sen b c (n2 ▸ h1) (n3 ▸ h2) e
  exact ⟨k1, fun j hj hl => k2 j (n3 ▸ hj) (live j hl)⟩

/-- the same blocks, laid in another order -/
theorem ST.congr {ρ0 ρ : Rho} {s0 u u2 : St} {w0 w : World} (h : ST P ρ0 s0 w0 ρ u w) (hn : u2.next = u.next ∧ u2.lo = u.lo ∧ u2.ro = u.ro) (ho : ∀ b, u2.obj b = u.obj b) : ST P ρ0 s0 w0 ρ u2 w := by
  obtain ⟨n1, n2, n3⟩ := hn
  exact ⟨h.le, h.rz.sub (fun b o hb => by rw [← ho]; exact hb) ⟨n1, n2, n3⟩, fun b c hb => h.own b c (by rw [← ho]; exact hb), h.kept, fun b c hb hl e => ⟨(ho b).trans (h.fixed b c hb hl e).1, (h.fixed b c hb hl e).2⟩, n3.trans h.ro, h.size, h.os, h.tape, h.output, by rw [n1]; exact h.grow, h.old, n2.trans h.lo⟩
end
end
end Go.Proofs.YtdcjkglhhmnjiaaGreatDoor.Sx
