/- What a tree of operations comes to in the small memory it comes to in every world that holds it. -/
import Derived.Test.YtdcjkglhhmnjiaaGreatDoorSyA
namespace Go.Proofs.YtdcjkglhhmnjiaaGreatDoor.Sx
noncomputable section

theorem SR.bind {α β γ δ : Type} {P : Program} {R : Rho → α → β → Prop} {R' : Rho → γ → δ → Prop} {ρ : Rho} {x : Sem α} {y : Sem β} {f : α → Sem γ} {g : β → Sem δ}
    (h : SR P R ρ x y) (hf : ∀ ρ' a b, ρ.le ρ' → R ρ' a b → SR P R' ρ' (f a) (g b)) : SR P R' ρ (x.bind f) (y.bind g) := by
  induction h with
  | pure h => exact hf _ _ _ (.refl _) h
  | load m h _ ih => exact .load m h fun v v' hv => ih v v' hv hf
  | store m h hv _ ih => exact .store m h hv (ih hf)
  | new h _ ih => exact .new h fun ρ' b b' hl hb => ih ρ' b b' hl hb fun ρ2 a b hl2 => hf ρ2 a b (hl.trans hl2)
  | shape h _ _ ih ih2 => exact .shape h (fun e n n' => ih e n n' hf) (ih2 hf)
  | frozen h _ ih => exact .frozen h fun b => ih b hf
  | getObj h _ ih => exact .getObj h fun o o' ho => ih o o' ho hf
  | setObj h ho _ ih => exact .setObj h ho (ih hf)
  | choose q _ ih => exact .choose q fun hq => ih hq hf
  | program _ ih => exact .program (ih hf)
  | mark m _ ih => exact .mark m (ih hf)
  | dead h y => exact .dead (Dead.left h f) _

theorem cell_of {w : World} {c o : Nat} {cs : Array Value} {e : TypeId} {f : Nat × Nat} (h : w.heap[c]? = some (.cells cs e f)) : w.cell? ⟨c, o, none⟩ = cs[o]? := by
  simp [World.cell?, h]
theorem frozen_of {w : World} {c o : Nat} {s : Option Nat} {cs : Array Value} {e : TypeId} {f : Nat × Nat} (h : w.heap[c]? = some (.cells cs e f)) : w.frozen? ⟨c, o, s⟩ = (f.1 ≤ o && o < f.2) := by
  obtain ⟨lo, hi⟩ := f
  simp [World.frozen?, h]

theorem some_lt {P : Program} {s : St} {b : Nat} {o : Obj} {ρ : Rho} {w : World} (hz : RZ P ρ s w) (h : s.obj b = some o) : b < s.next := by
  refine Nat.lt_of_not_le fun hle => ?_
  obtain ⟨c, o', hc, _⟩ := hz.obj b o h
  rw [hz.fresh b hle] at hc
  cases hc

theorem ex_lt {P : Program} {ρ : Rho} {s : St} {w : World} (hz : RZ P ρ s w) (hm : s.next ≤ most) {b : Nat} {o : Obj} (h : s.obj b = some o) : b < most := Nat.lt_of_lt_of_le (some_lt hz h) hm

/-- a block is turned: the world's, too -/
theorem ST.put {P : Program} {ρ : Rho} {s : St} {w w' : World} {b c : Nat} {o o' : Obj} (hz : RZ P ρ s w) (hm : s.next ≤ most) (hb : (s.obj b).isSome) (hc : ρ.at_ b = some c) (hro : s.ro ≤ b)
    (ho : OR ρ o o') (hw : w'.heap[c]? = some o') (hR : Roomy P (ρ.cap b) o') (hk : ∀ k, k ≠ c → w'.heap[k]? = w.heap[k]?) (hsz : w'.heap.size = w.heap.size)
    (h1 : w'.os = w.os) (h2 : w'.tape = w.tape) (h3 : w'.output = w.output) : ST P ρ s w ρ (s.put b o) w' := by
  obtain ⟨o0, hb0⟩ := Option.isSome_iff_exists.1 hb
  have hlt : b < most := ex_lt hz hm hb0
  have hlive : ∀ j, ((s.put b o).obj j).isSome = (s.obj j).isSome := by
    intro j; rw [obj_put s b o j hlt]; by_cases e : j = b
    · subst e; simp [hb]
    · simp [e]
  refine ⟨.refl _, ⟨fun j oj hj => ?_, fun j j' cj hj hj' e e' => ?_, hz.fresh, fun j cj e => ?_, hz.roNext, fun j cj h1 h2 e => ?_, hz.apart⟩, fun j cj hj e _ => ⟨j, by rw [← hlive]; exact hj, e⟩, fun k _ hn => ?_, fun j cj hj hs e => ?_, rfl, Nat.le_of_eq hsz.symm, h1, h2, h3, Nat.le_refl _, fun _ _ => rfl, rfl⟩
  · rw [obj_put s b o j hlt] at hj
    by_cases e : j = b
    · subst e; rw [if_pos rfl] at hj; cases hj; obtain ⟨_, _, hc1, _, _, _, hof⟩ := hz.obj j o0 hb0; exact ⟨c, o', hc, hw, ho, hR, hof⟩
    · rw [if_neg e] at hj
      obtain ⟨cj, oj', h1, h2, h3⟩ := hz.obj j oj hj
      refine ⟨cj, oj', h1, ?_, h3⟩
      rw [hk cj fun ec => e (hz.inj j b c (by simp [hj]) hb (ec ▸ h1) hc)]; exact h2
  · rw [hlive] at hj hj'; exact hz.inj j j' cj hj hj' e e'
  · rw [hsz]; exact hz.lt j cj e
  · obtain ⟨⟨cs, e1, h3⟩, h4⟩ := hz.sen j cj h1 h2 e
    refine ⟨⟨cs, e1, ?_⟩, fun q hq hl => h4 q hq (by rw [← hlive]; exact hl)⟩
    rw [hk cj fun ec => h4 b hro hb (ec ▸ hc)]; exact h3
  · exact hk k fun ec => hn b hb (ec ▸ hc)
  · have e1 : j ≠ b := by have := hj; omega
    refine ⟨by rw [obj_put s b o j hlt, if_neg e1], hk cj fun ec => e1 (hz.inj j b c hs hb (ec ▸ e) hc)⟩

/-- a block comes to be at place c of the world, whatever block b of the small memory goes -/
theorem ST.turn {P : Program} {ρ : Rho} {s s1 : St} {w w' : World} {o o' : Obj} {c k : Nat} (hz : RZ P ρ s w) (hm : s.next < most)
    (hs1 : s1.next = s.next ∧ s1.ro = s.ro ∧ s1.lo = s.lo) (hsub : ∀ j oj, s1.obj j = some oj → s.obj j = some oj) (hfix : ∀ j, j < s.ro → s1.obj j = s.obj j)
    (hfree : ∀ j, (s1.obj j).isSome → ρ.at_ j ≠ some c) (hown : c < w.heap.size → ∃ j, s.ro ≤ j ∧ (s.obj j).isSome ∧ ρ.at_ j = some c)
    (ho : OR ρ o o') (hw : w'.heap[c]? = some o') (hR : Roomy P k o') (hk : ∀ j, j ≠ c → j < w.heap.size → w'.heap[j]? = w.heap[j]?) (hsz : w.heap.size ≤ w'.heap.size)
    (h1 : w'.os = w.os) (h2 : w'.tape = w.tape) (h3 : w'.output = w.output) (hkm : k ≤ 9223372036854775807 := by first | exact Nat.zero_le _ | assumption) :
    ∃ ρ' : Rho, (ρ'.at_ s.next = some c ∧ ρ'.off s.next = 0) ∧ ρ'.cap s.next = k ∧ ST P ρ s w ρ' (s1.add o) w' := by
  have hle : ρ.le ⟨fun b => if b = s.next then some c else ρ.at_ b, fun b => if b = s.next then 0 else ρ.off b, fun b => if b = s.next then k else ρ.cap b, fun b => by (split <;> first | exact hkm | exact ρ.small b)⟩ := fun b d e => by
    by_cases h : b = s.next
    · subst h; rw [hz.fresh _ (Nat.le_refl _)] at e; cases e
    · simp [h, e]
  have hclt : c < w'.heap.size := (Array.getElem?_eq_some_iff.1 hw).1
  have hm1 : s1.next < most := by rw [hs1.1]; exact hm
  have hnn : s1.next = s.next := hs1.1
  refine ⟨_, by simp, by simp, hle, ⟨fun j oj hj => ?_, fun j j' cj hj hj' e e' => ?_, fun j hj => ?_, fun j cj e => ?_, ?_, fun j cj q1 q2 e => ?_, fun j j' cj q1 q2 q3 q4 q5 e e' => ?_⟩, fun j cj hj e hlt => ?_, fun q hq hn => ?_, fun j cj hj hs e => ?_, hs1.2.1, hsz, h1, h2, h3, by show s.next ≤ s1.next + 1; omega, fun j hj => by simp [Nat.ne_of_lt hj], hs1.2.2⟩
  · rw [obj_add s1 o j hm1, hnn] at hj
    by_cases h : j = s.next
    · subst h; rw [if_pos rfl] at hj; cases hj; exact ⟨c, o', by simp, hw, ho.mono hle, by simpa using hR, by simp⟩
    · rw [if_neg h] at hj
      obtain ⟨cj, oj', h1, h2, h3, h4, h5⟩ := hz.obj j oj (hsub _ _ hj)
      have hne : cj ≠ c := fun ec => hfree j (by simp [hj]) (ec ▸ h1)
      exact ⟨cj, oj', (hle _ _ h1).1, by rw [hk cj hne (hz.lt _ _ h1)]; exact h2, h3.mono hle, by simpa [h] using h4, by simpa [h] using h5⟩
  · rw [obj_add s1 o _ hm1, hnn] at hj hj'
    by_cases h : j = s.next <;> by_cases h' : j' = s.next
    · rw [h, h']
    · rw [if_neg h'] at hj'
      simp [h] at e; simp [h'] at e'
      exact absurd (e ▸ e') (hfree j' hj')
    · rw [if_neg h] at hj
      simp [h] at e; simp [h'] at e'
      exact absurd (e' ▸ e) (hfree j hj)
    · rw [if_neg h] at hj; rw [if_neg h'] at hj'
      simp [h] at e; simp [h'] at e'
      obtain ⟨x, hx⟩ := Option.isSome_iff_exists.1 hj
      obtain ⟨y, hy⟩ := Option.isSome_iff_exists.1 hj'
      exact hz.inj j j' cj (by simp [hsub _ _ hx]) (by simp [hsub _ _ hy]) e e'
  · have hj' : s1.next + 1 ≤ j := hj
    have : j ≠ s.next := by omega
    simp [this]; exact hz.fresh j (by omega)
  · by_cases h : j = s.next
    · simp [h] at e; omega
    · simp [h] at e; have := hz.lt j cj e; omega
  · show s1.ro ≤ s1.next + 1
    have := hz.roNext
    rw [hs1.2.1, hs1.1]; omega
  · have q1' : s.lo ≤ j := by have h : s1.lo ≤ j := q1; rw [hs1.2.2] at h; exact h
    have q2' : j < s.ro := by have h : j < s1.ro := q2; rw [hs1.2.1] at h; exact h
    have hjn : j ≠ s.next := by have := hz.roNext; omega
    simp [hjn] at e
    obtain ⟨⟨cs, e1, h3⟩, h4⟩ := hz.sen j cj q1' q2' e
    have hne : cj ≠ c := by
      intro ec
      subst ec
      obtain ⟨b0, hb0, h0, h0'⟩ := hown (hz.lt _ _ e)
      exact h4 b0 hb0 h0 h0'
    refine ⟨⟨cs, e1, by rw [hk cj hne (hz.lt _ _ e)]; exact h3⟩, fun q hq hl eq => ?_⟩
    have hq' : s.ro ≤ q := by have h : s1.ro ≤ q := hq; rw [hs1.2.1] at h; exact h
    rw [obj_add s1 o q hm1, hnn] at hl
    by_cases h : q = s.next
    · simp [h] at eq; exact hne eq.symm
    · rw [if_neg h] at hl
      simp [h] at eq
      obtain ⟨x, hx⟩ := Option.isSome_iff_exists.1 hl
      exact h4 q hq' (by simp [hsub _ _ hx]) eq
  · have p1 : s.lo ≤ j := by have h : s1.lo ≤ j := q1; rw [hs1.2.2] at h; exact h
    have p2 : j < s.ro := by have h : j < s1.ro := q2; rw [hs1.2.1] at h; exact h
    have p3 : s.lo ≤ j' := by have h : s1.lo ≤ j' := q3; rw [hs1.2.2] at h; exact h
    have p4 : j' < s.ro := by have h : j' < s1.ro := q4; rw [hs1.2.1] at h; exact h
    have n1 : j ≠ s.next := by have := hz.roNext; omega
    have n2 : j' ≠ s.next := by have := hz.roNext; omega
    simp [n1] at e
    simp [n2] at e'
    have := hz.apart j j' cj p1 p2 p3 p4 q5 e e'
    simpa [n1, n2] using this
  · rw [obj_add s1 o j hm1, hnn] at hj
    by_cases h : j = s.next
    · simp [h] at e
      obtain ⟨b0, _, h0, h0'⟩ := hown (e ▸ hlt)
      exact ⟨b0, h0, e ▸ h0'⟩
    · simp [h] at e; rw [if_neg h] at hj
      obtain ⟨x, hx⟩ := Option.isSome_iff_exists.1 hj
      exact ⟨j, by simp [hsub _ _ hx], e⟩
  · refine hk q (fun ec => ?_) hq
    subst ec
    obtain ⟨b0, _, h0, h0'⟩ := hown hq
    exact hn b0 h0 h0'
  · have hlt := hz.lt j cj e
    have h : j ≠ s.next := by
      intro h; subst h; rw [hz.fresh _ (Nat.le_refl _)] at e; cases e
    refine ⟨by rw [obj_add s1 o j hm1, hnn, if_neg h, hfix j hj], hk cj (fun ec => ?_) hlt⟩
    subst ec
    exact hfree j (by rw [hfix j hj]; exact hs) e

/-- a block is made -/
theorem ST.add {P : Program} {ρ : Rho} {s : St} {w w' : World} {o o' : Obj} {k : Nat} (hz : RZ P ρ s w) (hm : s.next < most) (ho : OR ρ o o') (hR : Roomy P k o') (hw : w'.heap = w.heap.push o')
    (h1 : w'.os = w.os) (h2 : w'.tape = w.tape) (h3 : w'.output = w.output) (hkm : k ≤ 9223372036854775807 := by first | exact Nat.zero_le _ | assumption) :
    ∃ ρ' : Rho, (ρ'.at_ s.next = some w.heap.size ∧ ρ'.off s.next = 0) ∧ ρ'.cap s.next = k ∧ ST P ρ s w ρ' (s.add o) w' :=
  ST.turn (c := w.heap.size) (s1 := s) hz hm ⟨rfl, rfl, rfl⟩ (fun _ _ h => h) (fun _ _ => rfl) (fun j _ e => absurd (hz.lt _ _ e) (Nat.lt_irrefl _)) (fun h => absurd h (Nat.lt_irrefl _)) ho
    (by rw [hw]; simp) hR (fun j hj hlt => by rw [hw, Array.getElem?_push, if_neg hj]) (by rw [hw]; simp) h1 h2 h3

theorem next_put (s : St) (b : Nat) (o : Obj) : (s.put b o).next = s.next := rfl

theorem SR.sound {α β : Type} {P : Program} {R : Rho → α → β → Prop} {ρ : Rho} {x : Sem α} {y : Sem β} (h : SR P R ρ x y) :
    ∀ (s : St) (a : α) (s' : St), ex P x s = some (a, s') → ∀ (w : World), RZ P ρ s w → s.next ≤ most → ∃ ρ' b w', y.run P w = .ok b w' ∧ R ρ' a b ∧ ST P ρ s w ρ' s' w' ∧ s'.next ≤ most := by
  induction h with
  | pure h =>
    intro s a s' he w hz hm
    simp only [ex, Option.some.injEq, Prod.mk.injEq] at he
    obtain ⟨rfl, rfl⟩ := he
    exact ⟨_, _, w, rfl, h, .refl hz, hm⟩
  | @load ρ m a a' k k' h hk ih =>
    intro s r s' he w hz hm
    cases h with
    | @mk b c o sp hb =>
    simp only [ex] at he
    split at he
    · rename_i cs e f ho
      cases hs : sp.isSome with
      | true => simp [hs] at he
      | false =>
      simp only [hs, cond_false] at he
      split at he
      · rename_i v hv
        obtain ⟨c', o', h1, h2, h3, h4, h5⟩ := hz.obj _ _ ho
        rw [hb] at h1; cases h1
        cases h3 with
        | @cells _ cs' _ _ f' hff hsz hall =>
        have hv' : cs[o]? = some v := by simpa using hv
        obtain ⟨hlt, hve⟩ := Array.getElem?_eq_some_iff.1 hv'
        have hlt' : o < cs'.size := Nat.lt_of_lt_of_le hlt hsz
        have e1 : cs'[o]? = some cs'[o] := Array.getElem?_eq_getElem hlt'
        obtain rfl : sp = none := by cases sp <;> simp_all
        obtain ⟨ρ', b, w', hr, hR, hS⟩ := ih v cs'[o] (hall o _ _ hv' e1) s r s' he w hz hm
        refine ⟨ρ', b, w', ?_, hR, hS⟩
        simp only [Sem.run, h5, Nat.zero_add, cell_of h2, e1]; exact hr
      · cases he
    · cases he
  | @store ρ m a a' v v' k k' h hv hk ih =>
    intro s r s' he w hz hm
    cases h with
    | @mk b c o sp hb =>
    have key : ∀ (hna : ∀ xs, v ≠ .agg xs) (hnt : ∀ xs, v ≠ .tuple xs), ∃ ρ' y w', (Sem.store m ⟨c, ρ.off b + o, sp⟩ v' k').run P w = .ok y w' ∧ R ρ' r y ∧ ST P ρ s w ρ' s' w' ∧ s'.next ≤ most := by
      intro hna hnt
      have he' : (match s.obj b with
        | some (.cells c e f) => bif sp.isSome || Nat.ble f.1 o && Nat.blt o f.2 || !(Nat.blt o c.toList.length) || Nat.blt b s.ro then none else ex P k (s.put b (.cells ⟨c.toList.set o v⟩ e f))
        | _ => none) = some (r, s') := by
        rw [ex] at he
        · exact he
        · exact fun xs e => hna _ e
        · exact fun xs e => hnt _ e
      clear he
      split at he'
      · rename_i cs e f ho
        cases hg : (sp.isSome || Nat.ble f.1 o && Nat.blt o f.2 || !(Nat.blt o cs.toList.length) || Nat.blt b s.ro) with
        | true => rw [hg] at he'; simp at he'
        | false =>
        simp only [hg, cond_false] at he'
        simp only [Bool.or_eq_false_iff, Bool.not_eq_false'] at hg
        obtain ⟨⟨⟨g1, g2⟩, g3⟩, g4⟩ := hg
        obtain rfl : sp = none := by cases sp <;> simp_all
        obtain ⟨c', o', h1, h2, h3, h4, h5⟩ := hz.obj _ _ ho
        rw [hb] at h1; cases h1
        rw [h5, Nat.zero_add]
        cases h3 with
        | @cells _ cs' _ _ f' hff hsz hall =>
        have hlt : o < cs.size := by have h5 : o + 1 ≤ cs.toList.length := Nat.le_of_ble_eq_true g3; have h6 : cs.toList.length = cs.size := (Array.length_toList); exact h6 ▸ h5
        have hlt' : o < cs'.size := Nat.lt_of_lt_of_le hlt hsz
        have hfz : w.frozen? ⟨c, o, none⟩ = false := by
          rw [frozen_of h2, frozen_same hff hsz hlt]; exact g2
        have hstep : ST P ρ s w ρ (s.put b (.cells ⟨cs.toList.set o v⟩ e f)) (w.setCell ⟨c, o, none⟩ v') := by
          refine .put (c := c) (o' := .cells (cs'.setIfInBounds o v') e f') hz hm (by simp [ho]) hb ?_ (.cells e f f' (by simpa using hff) (by simpa using hsz) ?_) ?_ (fun cs2 e2 f2 h => by cases h; simpa using h4 _ _ _ rfl) ?_ ?_ rfl rfl rfl
          · have : ¬ b < s.ro := fun hl => by simp [Nat.blt, Nat.ble_eq_true_of_le (show b + 1 ≤ s.ro from hl)] at g4
            omega
          · intro i x y hx hy
            have hx' : (cs.toList.set o v)[i]? = some x := by simpa using hx
            rw [List.getElem?_set] at hx'
            rw [Array.getElem?_setIfInBounds] at hy
            by_cases ei : o = i
            · subst ei
              simp [hlt] at hx'; simp [hlt'] at hy
              subst hx'; subst hy; exact hv
            · simp [ei] at hx' hy
              exact hall i x y (by simpa using hx') hy
          · simp [World.setCell, Array.getElem?_modify, h2]
          · intro j hj; simp [World.setCell, Array.getElem?_modify]; intro e; exact absurd e.symm hj
          · simp [World.setCell]
        obtain ⟨ρ', b', w', hr, hR, hS, hm'⟩ := ih _ r s' he' _ hstep.rz hm
        refine ⟨ρ', b', w', ?_, hR, hstep.trans hS, hm'⟩
        have hcell : w.cell? ⟨c, o, none⟩ = some cs'[o] := by rw [cell_of h2]; exact Array.getElem?_eq_getElem hlt'
        have hna' : ∀ xs, v' ≠ .agg xs := fun xs e => by subst e; cases hv; exact hna _ rfl
        have hnt' : ∀ xs, v' ≠ .tuple xs := fun xs e => by subst e; cases hv; exact hnt _ rfl
        rw [Sem.run]
        · simp only [hcell, hfz, Bool.false_eq_true, if_false]; exact hr
        · exact fun xs e => hna' _ e
        · exact fun xs e => hnt' _ e
      · cases he'
    cases v with
    | agg xs => simp [ex] at he
    | tuple xs => simp [ex] at he
    | _ => exact key (fun _ h => by cases h) (fun _ h => by cases h)
  | @new ρ o o' k k' h hk ih =>
    intro s r s' he w hz hm
    simp only [ex] at he
    cases hg : Nat.blt s.next most with
    | false => simp [hg] at he
    | true =>
    simp only [hg, cond_true] at he
    have hlt : s.next < most := Nat.le_of_ble_eq_true hg
    obtain ⟨ρ1, h1, _, hS1⟩ := ST.add (k := 0) (w' := { w with heap := w.heap.push o' }) hz hlt h (fun _ _ _ _ => by simp) rfl rfl rfl rfl
    obtain ⟨ρ', b, w', hr, hR, hS, hm'⟩ := ih ρ1 _ _ hS1.le h1 _ r s' he _ hS1.rz hlt
    exact ⟨ρ', b, w', by simpa only [Sem.run] using hr, hR, hS1.trans hS, hm'⟩
  | @shape ρ q q' k k' h hk hn ih ihn =>
    intro s r s' he w hz hm
    simp only [ex] at he
    split at he
    · rename_i cs e f ho
      obtain ⟨c', o', h1, h2, h3, h4, h5⟩ := hz.obj _ _ ho
      rw [h] at h1; cases h1
      cases h3 with
      | @cells _ cs' _ _ f' hff hsz hall =>
      obtain ⟨ρ', b, w', hr, hR, hS⟩ := ih e cs.size cs'.size s r s' he w hz hm
      refine ⟨ρ', b, w', ?_, hR, hS⟩
      simp only [Sem.run, World.shape?, h2]; exact hr
    · rename_i o hnc ho
      obtain ⟨c', o', h1, h2, h3, h4, h5⟩ := hz.obj _ _ ho
      rw [h] at h1; cases h1
      obtain ⟨ρ', b, w', hr, hR, hS⟩ := ihn s r s' he w hz hm
      refine ⟨ρ', b, w', ?_, hR, hS⟩
      cases h3 with
      | cells e f f' => exact absurd rfl (hnc _ _ _)
      | map => simp only [Sem.run, World.shape?, h2]; exact hr
      | stringIter => simp only [Sem.run, World.shape?, h2]; exact hr
      | loop => simp only [Sem.run, World.shape?, h2]; exact hr
    · cases he
  | @frozen ρ a a' k k' h hk ih =>
    intro s r s' he w hz hm
    cases h with
    | @mk b c o sp hb =>
    simp only [ex] at he
    split at he
    · rename_i cs e f ho
      cases hg : Nat.blt o cs.toList.length with
      | false => rw [hg] at he; simp at he
      | true =>
      rw [hg] at he; simp only [cond_true] at he
      have h8 : o + 1 ≤ cs.toList.length := Nat.le_of_ble_eq_true hg
      have h6 : cs.toList.length = cs.size := (Array.length_toList)
      obtain ⟨c', o', h1, h2, h3, h4, h5⟩ := hz.obj _ _ ho
      rw [hb] at h1; cases h1
      cases h3 with
      | @cells _ cs' _ _ f' hff hsz hall =>
      obtain ⟨ρ', b, w', hr, hR, hS⟩ := ih _ s r s' he w hz hm
      refine ⟨ρ', b, w', ?_, hR, hS⟩
      simp only [Sem.run, h5, Nat.zero_add, frozen_of h2]
      rw [frozen_same hff hsz (h6 ▸ h8)]; exact hr
    · rename_i o hnc ho
      obtain ⟨c', o', h1, h2, h3, h4, h5⟩ := hz.obj _ _ ho
      rw [hb] at h1; cases h1
      obtain ⟨ρ', b, w', hr, hR, hS⟩ := ih _ s r s' he w hz hm
      refine ⟨ρ', b, w', ?_, hR, hS⟩
      cases h3 with
      | cells e f f' => exact absurd rfl (hnc _ _ _)
      | map => simp only [Sem.run, World.frozen?, h2]; exact hr
      | stringIter => simp only [Sem.run, World.frozen?, h2]; exact hr
      | loop => simp only [Sem.run, World.frozen?, h2]; exact hr
    · cases he
  | @getObj ρ q q' k k' h hk ih =>
    intro s r s' he w hz hm
    simp only [ex] at he
    split at he
    · cases he
    · rename_i o hnc ho
      obtain ⟨c', o', h1, h2, h3, h4, h5⟩ := hz.obj _ _ ho
      rw [h] at h1; cases h1
      obtain ⟨ρ', b, w', hr, hR, hS⟩ := ih _ _ h3 s r s' he w hz hm
      refine ⟨ρ', b, w', ?_, hR, hS⟩
      cases h3 with
      | cells e f f' => exact absurd rfl (hnc _ _ _)
      | map => simp only [Sem.run, h2]; exact hr
      | stringIter => simp only [Sem.run, h2]; exact hr
      | loop => simp only [Sem.run, h2]; exact hr
    · cases he
  | @setObj ρ q q' o o' k k' h hoo hk ih =>
    intro s r s' he w hz hm
    simp only [ex] at he
    split at he
    · cases he
    · rename_i o1 hnc ho
      obtain ⟨c', o1', h1, h2, h3, h4, h5⟩ := hz.obj _ _ ho
      rw [h] at h1; cases h1
      have hlt' := hz.lt _ _ h
      split at he
      · cases he
      · rename_i hnc2
        cases hg : Nat.blt q s.ro with
        | true => simp [hg] at he
        | false =>
        simp only [hg, cond_false] at he
        have hstep : ST P ρ s w ρ (s.put q o) { w with heap := w.heap.setIfInBounds q' o' } := by
          refine .put (c := q') (o' := o') hz hm (by simp [ho]) h ?_ hoo ?_ (fun cs2 e2 f2 h => by subst h; cases hoo; exact absurd rfl (hnc2 _ _ _)) ?_ (by simp) rfl rfl rfl
          · have : ¬ q < s.ro := fun hl => by simp [Nat.blt, Nat.ble_eq_true_of_le (show q + 1 ≤ s.ro from hl)] at hg
            omega
          · simp [hlt']
          · intro j hj; simp [Array.getElem?_setIfInBounds]; intro e; exact absurd e.symm hj
        obtain ⟨ρ', b, w', hr, hR, hS, hm'⟩ := ih _ r s' he _ hstep.rz hm
        refine ⟨ρ', b, w', ?_, hR, hstep.trans hS, hm'⟩
        cases h3 with
        | cells e f f' => exact absurd rfl (hnc _ _ _)
        | map => simp only [Sem.run, h2]; exact hr
        | stringIter => simp only [Sem.run, h2]; exact hr
        | loop => simp only [Sem.run, h2]; exact hr
    · cases he
  | @choose ρ q k k' hk ih =>
    intro s r s' he w hz hm
    simp only [ex] at he
    cases hq : q.forced with
    | false => simp [hq] at he
    | true =>
    simp only [hq, cond_true] at he
    obtain ⟨ρ', b, w', hr, hR, hS⟩ := ih hq s r s' he w hz hm
    exact ⟨ρ', b, w', by simp only [Sem.run, hq, if_true]; exact hr, hR, hS⟩
  | program hk ih =>
    intro s r s' he w hz hm
    obtain ⟨ρ', b, w', hr, hR, hS⟩ := ih s r s' (by simpa only [ex] using he) w hz hm
    exact ⟨ρ', b, w', by simp only [Sem.run]; exact hr, hR, hS⟩
  | mark m hk ih =>
    intro s r s' he w hz hm
    obtain ⟨ρ', b, w', hr, hR, hS⟩ := ih s r s' (by simpa only [ex] using he) w hz hm
    exact ⟨ρ', b, w', by simp only [Sem.run]; exact hr, hR, hS⟩
  | dead h y => intro s r s' he; rw [h s] at he; cases he
end
end Go.Proofs.YtdcjkglhhmnjiaaGreatDoor.Sx
