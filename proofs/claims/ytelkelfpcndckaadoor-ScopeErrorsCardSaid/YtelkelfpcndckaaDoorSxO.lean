/- Code and calls on the small memory, and what they say of the world. -/
import Derived.Test.YtelkelfpcndckaaDoorSxW
namespace Go.Proofs.YtelkelfpcndckaaDoor.Sx

inductive Way where
  | normal
  | exit (id : Nat)
  | ret

def Way.toExit : Way → Exit
  | .normal => .normal
  | .exit id => .exit id
  | .ret => .ret

def rounds (body : Fr → St → Option (Way × Fr × St)) : Nat → Fr → St → Option (Way × Fr × St)
  | 0, _, _ => none
  | n + 1, f, s => match body f s with
    | some (.normal, f, s) => rounds body n f s
    | some (.exit i, f, s) => some (.exit i, f, s)
    | some (.ret, f, s) => some (.ret, f, s)
    | none => none

def code (P : Program) (cl : FuncId → Array Value → St → Option (Value × St)) (N : Nat) : Code → Fr → St → Option (Way × Fr × St)
  | .skip, f, s => some (.normal, f, s)
  | .label _, f, s => some (.normal, f, s)
  | .region _ ops d, f, s => match (bif d then drawn P cl ops f s else opers P cl ops ops.toList f s) with
    | some (f, s) => some (.normal, f, s)
    | none => none
  | .seq a b, f, s => match code P cl N a f s with
    | some (.normal, f, s) => code P cl N b f s
    | some (.exit i, f, s) => some (.exit i, f, s)
    | some (.ret, f, s) => some (.ret, f, s)
    | none => none
  | .cond c a b, f, s => match f.eval c with
    | .bool true => code P cl N a f s
    | .bool false => code P cl N b f s
    | _ => none
  | .block id b, f, s => match code P cl N b f s with
    | some (.normal, f, s) => some (.normal, f, s)
    | some (.exit i, f, s) => bif Nat.beq i id then some (.normal, f, s) else some (.exit i, f, s)
    | some (.ret, f, s) => some (.ret, f, s)
    | none => none
  | .loop b, f, s => rounds (code P cl N b) N f s
  | .exit id, f, s => some (.exit id, f, s)
  | .scope b, f, s => code P cl N b f s
  | .ret, f, s => some (.ret, f, s)
  | _, _, _ => none

def okCode (P : Program) (gl n : Nat) : Code → Bool
  | .region _ ops _ => ops.toList.all (okOper P gl n)
  | .seq a b => okCode P gl n a && okCode P gl n b
  | .cond c a b => okx gl c && okCode P gl n a && okCode P gl n b
  | .block _ b => okCode P gl n b
  | .loop b => okCode P gl n b
  | .scope b => okCode P gl n b
  | _ => true

def readRes (fn : Func) (f : Fr) : Option Value :=
  match fn.results.toList with
  | [.tmp t] => some (f.get t)
  | _ => none

section
variable {P : Program} {gl n : Nat} {cl : FuncId → Array Value → St → Option (Value × St)} {ops : Array Oper}

theorem ST.drew {ρ : Rho} {s : St} {w : World} (hz : RZ P ρ s w) : ST P ρ s w ρ s w.drew :=
  ⟨.refl _, ⟨hz.obj, hz.inj, hz.fresh, hz.lt, hz.roNext, hz.sen, hz.apart⟩, fun b _ hb e _ => ⟨b, hb, e⟩, fun _ _ _ => rfl, fun _ _ _ _ _ => ⟨rfl, rfl⟩, rfl, Nat.le_refl _, rfl, rfl, rfl, Nat.le_refl _, fun _ _ => rfl, rfl⟩

theorem steps_of {m : Tr Nat} {acts : List Nat} {base lo ro : Nat} {F : Nat → Fr} {S : Nat → St} {V : Nat → Value} {M : Nat → List Mk} (hD : Drawn P ops) (hm : ∀ j q, bit m j q = true → Bef ops j q) (hM0 : M 0 = [])
    (st : ∀ (j : Nat) (o : Oper), ops[j]? = some o → stepD P cl ops m acts base lo ro o j (F j) (S j) (M j) = some (V j, S (j + 1), M (j + 1)) ∧ F (j + 1) = (F j).put o.dst (V j)) :
    Steps P cl ops m acts base lo ro (M ops.size) F S V := by
  have cm : ∀ (j : Nat) (o : Oper), ops[j]? = some o → isMake o.op = true → ∃ r, make1 P cl ops o (F j) lo ro (base + j) = some (V j, r) ∧ S (j + 1) = S j ∧ ((∃ ob, r = some ob ∧ M (j + 1) = (j, ob) :: M j) ∨ (r = none ∧ M (j + 1) = M j)) := by
    intro j o ho hmk
    have h := (st j o ho).1
    unfold stepD at h
    rw [hmk] at h
    simp only [cond_true] at h
    cases he : make1 P cl ops o (F j) lo ro (Nat.add base j) with
    | none => rw [he] at h; cases h
    | some p =>
      obtain ⟨v, r⟩ := p
      rw [he] at h
      cases r with
      | none =>
        simp only [Option.some.injEq, Prod.mk.injEq] at h
        exact ⟨none, by rw [← h.1]; first | done | exact he, h.2.1.symm, .inr ⟨rfl, h.2.2.symm⟩⟩
      | some ob =>
        simp only [Option.some.injEq, Prod.mk.injEq] at h
        exact ⟨some ob, by rw [← h.1]; first | done | exact he, h.2.1.symm, .inl ⟨ob, rfl, h.2.2.symm⟩⟩
  have co : ∀ (j : Nat) (o : Oper), ops[j]? = some o → isMake o.op = false → ∃ s', oper1 P cl ops o (F j) (putAll base (S j) (sel m acts (M j) j j)) = some (V j, s') ∧ S (j + 1) = (bif isAct P o.op then s' else S j) ∧ M (j + 1) = M j := by
    intro j o ho hmk
    have h := (st j o ho).1
    unfold stepD at h
    rw [hmk] at h
    simp only [cond_false] at h
    cases he : oper1 P cl ops o (F j) (putAll base (S j) (sel m acts (M j) j j)) with
    | none => rw [he] at h; cases h
    | some p =>
      obtain ⟨v, s'⟩ := p
      rw [he] at h
      simp only [Option.some.injEq, Prod.mk.injEq] at h
      exact ⟨s', by rw [← h.1], h.2.1.symm, h.2.2.symm⟩
  have step : ∀ j, j < ops.size → (∃ ob o, ops[j]? = some o ∧ isMake o.op = true ∧ make1 P cl ops o (F j) lo ro (base + j) = some (V j, some ob) ∧ M (j + 1) = (j, ob) :: M j) ∨ M (j + 1) = M j := by
    intro j hj
    have ho := Array.getElem?_eq_getElem hj
    cases hmk : isMake ops[j].op with
    | true =>
      obtain ⟨r, h1, _, ⟨ob, rfl, h2⟩ | ⟨_, h2⟩⟩ := cm j _ ho hmk
      · exact .inl ⟨ob, _, ho, hmk, h1, h2⟩
      · exact .inr h2
    | false => obtain ⟨s', _, _, h2⟩ := co j _ ho hmk; exact .inr h2
  have hmem : ∀ k, k ≤ ops.size → ∀ x ∈ M k, ∃ o, ops[x.1]? = some o ∧ isMake o.op = true ∧ make1 P cl ops o (F x.1) lo ro (base + x.1) = some (V x.1, some x.2) := by
    intro k
    induction k with
    | zero => intro _ x hx; rw [hM0] at hx; cases hx
    | succ k ih =>
      intro hk x hx
      rcases step k (by omega) with ⟨ob, o, h1, h2, h3, h4⟩ | h4
      · rw [h4] at hx
        rcases List.mem_cons.1 hx with rfl | hx
        · exact ⟨o, h1, h2, h3⟩
        · exact ih (by omega) x hx
      · rw [h4] at hx; exact ih (by omega) x hx
  have hgrow : ∀ d j, j + d ≤ ops.size → (∀ x ∈ M j, x ∈ M (j + d)) ∧ sel m acts (M (j + d)) j j = sel m acts (M j) j j := by
    intro d
    induction d with
    | zero => intro j _; exact ⟨fun x h => h, rfl⟩
    | succ d ih =>
      intro j hj
      obtain ⟨h1, h2⟩ := ih j (by omega)
      rcases step (j + d) (by omega) with ⟨ob, o, _, _, _, h4⟩ | h4
      · rw [show j + (d + 1) = j + d + 1 by omega, h4]
        refine ⟨fun x hx => List.mem_cons_of_mem _ (h1 x hx), ?_⟩
        rw [← h2]
        unfold sel
        rw [List.filter_cons]
        cases hb : bit m j (j + d) with
        | false => simp
        | true => have := bef_lt hD (hm _ _ hb); omega
      · rw [show j + (d + 1) = j + d + 1 by omega, h4]; exact ⟨h1, h2⟩
  have hsel : ∀ j, j ≤ ops.size → sel m acts (M ops.size) j j = sel m acts (M j) j j := fun j hj => by
    have := (hgrow (ops.size - j) j (by omega)).2
    rwa [show j + (ops.size - j) = ops.size by omega] at this
  have lt : ∀ {j : Nat} {o : Oper}, ops[j]? = some o → j < ops.size := fun h => (Array.getElem?_eq_some_iff.1 h).1
  refine ⟨fun j o ho => (st j o ho).2, fun j o ho hd => ?_, fun j o ho ha => ?_, fun j o ho hmk => ?_, hmem _ (Nat.le_refl _), fun j o ho hd => ?_⟩
  · unfold isDeed at hd
    simp only [Bool.and_eq_true, Bool.not_eq_true'] at hd
    obtain ⟨s', h1, h2, _⟩ := co j o ho hd.2
    rw [hd.1] at h2
    simp only [cond_true] at h2
    rw [hsel j (by have := lt ho; omega), h2]; exact h1
  · have hmk : isMake o.op = false := by
      cases h : isMake o.op with
      | false => rfl
      | true => rw [make_act h] at ha; cases ha
    obtain ⟨s', h1, _, _⟩ := co j o ho hmk
    exact ⟨s', by rw [hsel j (by have := lt ho; omega)]; exact h1⟩
  · obtain ⟨r, h1, _, h2⟩ := cm j o ho hmk
    refine ⟨r, h1, fun ob hr => ?_⟩
    rcases h2 with ⟨ob', h3, h4⟩ | ⟨h3, _⟩
    · rw [hr] at h3; cases h3
      have hj := lt ho
      have := (hgrow (ops.size - (j + 1)) (j + 1) (by omega)).1 (j, ob) (by rw [h4]; simp)
      rwa [show j + 1 + (ops.size - (j + 1)) = ops.size by omega] at this
    · rw [hr] at h3; cases h3
  · cases hmk : isMake o.op with
    | true => obtain ⟨r, _, h2, _⟩ := cm j o ho hmk; exact h2
    | false =>
      unfold isDeed at hd
      rw [hmk] at hd
      have ha : isAct P o.op = false := by simpa using hd
      obtain ⟨s', _, h2, _⟩ := co j o ho hmk
      rw [ha] at h2; exact h2

theorem drawn_wp (hG : Good P) (hmix : P.follows .mixedOrders = true) (hcl : CallsOk P gl cl) {ops : Array Oper} (hops : ∀ (j : Nat) (p : Oper), ops[j]? = some p → okOper P gl n p = true) {id : Nat} {f f' : Fr} {s s' : St}
    (h : drawn P cl ops f s = some (f', s')) {ρ : Rho} {a : Act} {w : World} (hF : FR ρ gl n f a) (hz : RZ P ρ s w) (_hm : s.next ≤ most) {Q : Exit → Act → World → Prop}
    (hQ : ∀ ρ' a' w', FR ρ' gl n f' a' → ST P ρ s w ρ' s' w' → s'.next ≤ most → Q .normal a' w') : (Code.region id ops true).wp P Q a w := by
  unfold drawn at h
  cases hk : okDraw P ops with
  | false => rw [hk] at h; cases h
  | true =>
  rw [hk] at h
  simp only [cond_true] at h
  split at h
  · rename_i tr f1 s1 mk hrun
    cases hr : readsOk P cl ops (masks ops.toList 0 .nil) (deedsOf P ops) s.next mk tr s1 with
    | false => rw [hr] at h; cases h
    | true =>
    rw [hr] at h
    cases h
    have hlen : ops.toList.length = ops.size := Array.length_toList
    obtain ⟨F, S, V, M, e1, e2, e3, e4, e5, e6, hT⟩ := runD_told ops.toList 0 f _ [] tr _ _ _ rfl hrun
    rw [hlen, Nat.zero_add] at e4 e5 e6
    rw [hlen] at hT
    have hsz : ops.size < most := by
      unfold okDraw at hk
      simp only [Bool.and_eq_true] at hk
      have := unblt hk.1.1.1
      simpa using this
    have hmk : ∀ j q, bit (masks ops.toList 0 .nil) j q = true → Bef ops j q := masks_bef ops hsz ops.toList 0 .nil rfl (fun j q h => by unfold bit at h; rw [get_nil] at h; simp at h)
    have hD := okDraw_drawn hk
    have hSt := steps_of (cl := cl) (F := F) (S := S) (V := V) (M := M) (acts := deedsOf P ops) (base := s.next) (lo := s.lo) (ro := s.ro) hD hmk e3 fun j o ho => by
      have hj := (Array.getElem?_eq_some_iff.1 ho).1
      have := hT.step j o hj (by rw [Nat.zero_add]; exact ho)
      simpa only [Nat.zero_add] using this
    have htr : ∀ j, j < ops.size → tr[j]? = some (F j, S j, V j) := fun j hj => by
      have := hT.tr j hj
      simpa only [Nat.zero_add] using this
    have hd := ST.drew hz
    have hrs := ST.reserve hd.rz ops.size
    have hS0 : S 0 = ⟨s.next + ops.size, s.lo, s.ro, s.heap⟩ := by rw [e2, hlen]; rfl
    rw [e6] at hSt
    rw [← e5] at hr
    have hno : ∀ i, (Array.replicate ops.size false).getD i false = false := fun i => by
      by_cases hi : i < ops.size
      · simp [hi]
      · simp [hi]
    refine wp_region_any hmix ?_
    subst e1
    refine inv_wp (V := V) (S := S) (F := F) hG hcl hops hF.small hD rfl hmk hSt htr hr (ρ0 := ρ) (w0 := w.drew) (s0 := s) hd.rz rfl rfl rfl hF.glob (fun ρ' a' w' h1 h2 h3 => ?_) ops.size _ a _ (by simp) ⟨by simp, fun i o hl => ?_, ?_, hF.size, hF.defers⟩
    · rw [e4] at h1
      rw [e5] at h2 h3
      rw [← hlen] at h2
      refine hQ ρ' a' w' h1 (hd.trans h2) ?_
      rw [(putAll_same s.next _ s1).1]; exact h3
    · rw [hno i] at hl; cases hl
    · obtain ⟨p, h1, h2, h3, h4⟩ := next_act P ops ops.size 0 (by omega) (Nat.zero_le _)
      have hSp : S p = S 0 := by
        have := sconst hSt p 0 (by omega) fun q o _ b c => h4 q o (Nat.zero_le _) (by omega) c
        simpa only [Nat.zero_add] using this
      have hw : whole (masks ops.toList 0 .nil) (deedsOf P ops) s.next mk S p (Array.replicate ops.size false) = ⟨s.next + ops.size, s.lo, s.ro, s.heap⟩ := by
        unfold whole
        rw [List.filter_eq_nil_iff.2 (fun x _ => by rw [hno]; simp), hSp, hS0]; rfl
      refine ⟨p, h2, h3, fun i o hi ha => ?_, ρ, by rw [hw]; exact hrs, by rw [hSp, hS0]; exact Nat.le_refl _, fun x _ _ => ?_, fun x _ _ => hz.fresh _ (Nat.le_add_right _ _), fun i o t hl => ?_, fun t _ => hF.tmp t⟩
      · rw [hno i]
        constructor
        · intro h; cases h
        · intro h; rw [h4 i o (Nat.zero_le _) h hi] at ha; cases ha
      · rw [hSp, hS0]
        cases hx : (St.mk (s.next + ops.size) s.lo s.ro s.heap).obj (s.next + x.1) with
        | none => rfl
        | some ob =>
          have hx' : s.obj (s.next + x.1) = some ob := hx
          have := some_lt hz hx'
          omega
      · rw [hno i] at hl; cases hl
  · cases h

/-- what is told of a code -/
def CodeOk (P : Program) (gl n : Nat) (f : Fr) (s : St) (way : Way) (f' : Fr) (s' : St) (c : Code) : Prop :=
  ∀ (ρ : Rho) (a : Act) (w : World), FR ρ gl n f a → RZ P ρ s w → s.next ≤ most → ∀ Q : Exit → Act → World → Prop, (∀ ρ' a' w', FR ρ' gl n f' a' → ST P ρ s w ρ' s' w' → s'.next ≤ most → Q way.toExit a' w') → c.wp P Q a w

theorem rounds_ok {b : Code} {body : Fr → St → Option (Way × Fr × St)} (hb : ∀ f s way f' s', body f s = some (way, f', s') → CodeOk P gl n f s way f' s' b) :
    ∀ (N : Nat) (f : Fr) (s : St) (way : Way) (f' : Fr) (s' : St), rounds body N f s = some (way, f', s') → CodeOk P gl n f s way f' s' (.loop b) := by
  intro N f s way f' s' h ρ a w hF hz hm Q hQ fr k cs
  have key : ∀ (N : Nat) (f : Fr) (s : St), rounds body N f s = some (way, f', s') → ∀ (ρ1 : Rho) (a1 : Act) (w1 : World), FR ρ1 gl n f a1 → RZ P ρ1 s w1 → s.next ≤ most →
      (∀ ρ' a' w', FR ρ' gl n f' a' → ST P ρ1 s w1 ρ' s' w' → s'.next ≤ most → Q way.toExit a' w') →
      ∃ e a' w', Q e a' w' ∧ Arrives P (lone (fr.at a1 (.code b :: .inLoop b :: k)) cs w1) fr k cs e a' w' := by
    intro N
    induction N with
    | zero => intro f s h; cases h
    | succ N ih =>
      intro f s h ρ1 a1 w1 hF1 hz1 hm1 hQ1
      unfold rounds at h
      cases hbd : body f s with
      | none => rw [hbd] at h; cases h
      | some r =>
        obtain ⟨way1, f1, s1⟩ := r
        rw [hbd] at h
        have h1 := hb f s way1 f1 s1 hbd ρ1 a1 w1 hF1 hz1 hm1 (fun e a' w' => e = way1.toExit ∧ ∃ ρ', FR ρ' gl n f1 a' ∧ ST P ρ1 s w1 ρ' s1 w' ∧ s1.next ≤ most) (fun ρ' a' w' x y z => ⟨rfl, ρ', x, y, z⟩) fr (.inLoop b :: k) cs
        obtain ⟨e, a2, w2, ⟨rfl, ρ2, hF2, hS2, hm2⟩, harr⟩ := h1
        cases way1 with
        | normal =>
          obtain ⟨e, a3, w3, hq, harr3⟩ := ih f1 s1 h ρ2 a2 w2 hF2 hS2.rz hm2 fun ρ' a' w' x y z => hQ1 ρ' a' w' x (hS2.trans y) z
          exact ⟨e, a3, w3, hq, .of_steps (Steps.trans harr (.one step_inLoop)) harr3⟩
        | exit i =>
          cases h
          exact ⟨_, a2, w2, hQ1 ρ2 a2 w2 hF2 hS2 hm2, .pass (x := .inLoop b) rfl (fun _ _ => .inl (by simp [Way.toExit])) harr⟩
        | ret =>
          cases h
          exact ⟨_, a2, w2, hQ1 ρ2 a2 w2 hF2 hS2 hm2, .pass (x := .inLoop b) rfl (fun _ _ => .inl (by simp [Way.toExit])) harr⟩
  obtain ⟨e, a', w', hq, harr⟩ := key N f s h ρ a w hF hz hm hQ
  exact ⟨e, a', w', hq, .of_steps (.one step_loop) harr⟩

theorem code_ok (hG : Good P) (hmix : P.follows .mixedOrders = true) (hcl : CallsOk P gl cl) (N : Nat) : ∀ (c : Code), okCode P gl n c = true → ∀ (f : Fr) (s : St) (way : Way) (f' : Fr) (s' : St), code P cl N c f s = some (way, f', s') → CodeOk P gl n f s way f' s' c := by
  intro c
  induction c with
  | skip => intro _ f s way f' s' h ρ a w hF hz hm Q hQ; cases h; exact wp_skip (hQ ρ a w hF (.refl hz) hm)
  | label l => intro _ f s way f' s' h ρ a w hF hz hm Q hQ; cases h; exact wp_label (hQ ρ a w hF (.refl hz) hm)
  | exit id => intro _ f s way f' s' h ρ a w hF hz hm Q hQ; cases h; exact wp_exit (hQ ρ a w hF (.refl hz) hm)
  | ret => intro _ f s way f' s' h ρ a w hF hz hm Q hQ; cases h; exact wp_ret (hQ ρ a w hF (.refl hz) hm)
  | region id ops d =>
    intro hok f s way f' s' h ρ a w hF hz hm Q hQ
    have hops : ∀ (j : Nat) (p : Oper), ops[j]? = some p → okOper P gl n p = true := fun j p hp => List.all_eq_true.1 hok p (Array.mem_toList_iff.2 (Array.mem_of_getElem? hp))
    unfold code at h
    cases d with
    | true =>
      simp only [cond_true] at h
      cases hd : drawn P cl ops f s with
      | none => rw [hd] at h; cases h
      | some r =>
        obtain ⟨f1, s1⟩ := r
        rw [hd] at h; cases h
        exact drawn_wp hG hmix hcl hops hd hF hz hm hQ
    | false =>
      simp only [cond_false] at h
      cases hd : opers P cl ops ops.toList f s with
      | none => rw [hd] at h; cases h
      | some r =>
        obtain ⟨f1, s1⟩ := r
        rw [hd] at h; cases h
        refine wp_region ?_
        have := opers_wp hG hcl hops (Q := Q) ops.toList 0 f s f' s' rfl hd ρ a w hF hz hm hQ
        rw [List.range_eq_range']
        simpa using this
  | seq x y ihx ihy =>
    intro hok f s way f' s' h ρ a w hF hz hm Q hQ
    unfold okCode at hok
    simp only [Bool.and_eq_true] at hok
    unfold code at h
    cases hx : code P cl N x f s with
    | none => rw [hx] at h; cases h
    | some r =>
      obtain ⟨way1, f1, s1⟩ := r
      rw [hx] at h
      refine wp_seq ?_
      refine ihx hok.1 f s way1 f1 s1 hx ρ a w hF hz hm _ fun ρ1 a1 w1 hF1 hS1 hm1 => ?_
      cases way1 with
      | normal => exact ihy hok.2 f1 s1 way f' s' h ρ1 a1 w1 hF1 hS1.rz hm1 Q fun ρ2 a2 w2 hF2 hS2 hm2 => hQ ρ2 a2 w2 hF2 (hS1.trans hS2) hm2
      | exit i => cases h; exact hQ ρ1 a1 w1 hF1 hS1 hm1
      | ret => cases h; exact hQ ρ1 a1 w1 hF1 hS1 hm1
  | cond c x y ihx ihy =>
    intro hok f s way f' s' h ρ a w hF hz hm Q hQ
    unfold okCode at hok
    simp only [Bool.and_eq_true] at hok
    have hc := hF.eval hok.1.1
    unfold code at h
    split at h
    · rename_i hv
      rw [hv] at hc
      generalize hce : a.eval c = cv at hc
      cases hc
      exact wp_cond_true hce (ihx hok.1.2 f s way f' s' h ρ a w hF hz hm Q hQ)
    · rename_i hv
      rw [hv] at hc
      generalize hce : a.eval c = cv at hc
      cases hc
      exact wp_cond_false hce (ihy hok.2 f s way f' s' h ρ a w hF hz hm Q hQ)
    · cases h
  | block id x ih =>
    intro hok f s way f' s' h ρ a w hF hz hm Q hQ
    unfold code at h
    cases hx : code P cl N x f s with
    | none => rw [hx] at h; cases h
    | some r =>
      obtain ⟨way1, f1, s1⟩ := r
      rw [hx] at h
      refine wp_block ?_
      refine ih hok f s way1 f1 s1 hx ρ a w hF hz hm _ fun ρ1 a1 w1 hF1 hS1 hm1 => ?_
      cases way1 with
      | normal => cases h; exact hQ ρ1 a1 w1 hF1 hS1 hm1
      | exit i =>
        dsimp only at h
        cases hi : Nat.beq i id with
        | true =>
          rw [hi] at h; cases h
          have := Nat.eq_of_beq_eq_true hi
          simp only [Way.toExit, Exit.inBlock, this, if_true]
          exact hQ ρ1 a1 w1 hF1 hS1 hm1
        | false =>
          rw [hi] at h; cases h
          have : ¬ i = id := fun e => by subst e; simp at hi
          simp only [Way.toExit, Exit.inBlock, this, if_false]
          exact hQ ρ1 a1 w1 hF1 hS1 hm1
      | ret => cases h; exact hQ ρ1 a1 w1 hF1 hS1 hm1
  | loop x ih =>
    intro hok f s way f' s' h
    exact rounds_ok (fun f s way f' s' hb => ih hok f s way f' s' hb) N f s way f' s' h
  | scope x ih =>
    intro hok f s way f' s' h ρ a w hF hz hm Q hQ
    refine wp_scope_straight ?_
    refine ih hok f s way f' s' h ρ a w hF hz hm _ fun ρ1 a1 w1 hF1 hS1 hm1 => ?_
    have := hQ ρ1 a1 w1 hF1 hS1 hm1
    cases way <;> exact this
  | _ => intro _ f s way f' s' h; cases h
end
end Go.Proofs.YtelkelfpcndckaaDoor.Sx
