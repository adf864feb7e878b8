/- Code and calls on the small memory, and what they say of the world. -/
import Derived.Test.YtdcjkglhhmnjiaaGreatDoorSyZ
namespace Go.Proofs.YtdcjkglhhmnjiaaGreatDoor.Sx
noncomputable section

inductive Way where
  | normal
  | exit (id : Nat)
  | ret

def Way.toExit : Way → Exit
  | .normal => .normal
  | .exit id => .exit id
  | .ret => .ret

def rounds (body : Fr → St → Option (Way × Fr × St)) : Nat → Fr → St → Option (Way × Fr × St)
  | 0, _, _ => none
  | n + 1, f, s => match body f s with
    | some (.normal, f, s) => rounds body n f s
    | some (.exit i, f, s) => some (.exit i, f, s)
    | some (.ret, f, s) => some (.ret, f, s)
    | none => none

/-- the loop's record as it begins -/
def rec0 (n : Nat) (f : Fr) (ps : Array Tmp) (a b : Code) : Loop := { state := .ready, pending := none, fn := n, tmps := ⟨[enc dep f]⟩, params := ps, assign := a, body := b, defers := 0 }
/-- in a round: the loop is there -/
def around (s : St) : Option Nat → Bool
  | none => true
  | some l => match s.obj l with
    | some (.loop _) => true
    | _ => false
def bodied (P : Program) (h : FuncId) : Bool := match P.funcs[h]? with
  | some fn => fn.body.isSome
  | none => false
def isBusy : LoopState → Bool
  | .busy => true
  | _ => false
def isReady : LoopState → Bool
  | .ready => true
  | _ => false

def codeC (P : Program) (cl : Cl) (n : Nat) (rd : Option Nat) (N : Nat) : Code → Fr → St → Option (Way × Fr × St)
  | .skip, f, s => some (.normal, f, s)
  | .label _, f, s => some (.normal, f, s)
  | .region _ ops d, f, s => match (bif d then drawnX P cl ops f s else opers P cl ops ops.toList f s) with
    | some (f, s) => some (.normal, f, s)
    | none => none
  | .seq a b, f, s => match codeC P cl n rd N a f s with
    | some (.normal, f, s) => codeC P cl n rd N b f s
    | some (.exit i, f, s) => some (.exit i, f, s)
    | some (.ret, f, s) => some (.ret, f, s)
    | none => none
  | .cond c a b, f, s => match f.eval c with
    | .bool true => codeC P cl n rd N a f s
    | .bool false => codeC P cl n rd N b f s
    | _ => none
  | .block id b, f, s => match codeC P cl n rd N b f s with
    | some (.normal, f, s) => some (.normal, f, s)
    | some (.exit i, f, s) => bif Nat.beq i id then some (.normal, f, s) else some (.exit i, f, s)
    | some (.ret, f, s) => some (.ret, f, s)
    | none => none
  | .loop b, f, s => rounds (codeC P cl n rd N b) N f s
  | .exit id, f, s => some (.exit id, f, s)
  | .scope b, f, s => codeC P cl n rd N b f s
  | .ret, f, s => some (.ret, f, s)
  | .rangeFunc g ps a b, f, s => match f.eval g with
    | .func (.func h) xs ys =>
      bif around s rd && (bodied P h && (Nat.blt s.next most && fitsT dep f)) then
        match cl true h ((xs ++ #[.func (.yield s.next) #[] #[]]) ++ ys) (s.add (.loop (rec0 n f ps a b))) with
        | some (_, s2) => match s2.obj s.next with
          | some (.loop r) => bif isBusy r.state then none else
            match r.pending with
            | none => some (.normal, f, s2.put s.next (.loop { r with state := .exhausted }))
            | some .ret => some (.ret, f, s2.put s.next (.loop { r with state := .exhausted }))
            | some (.exit i) => some (.exit i, f, s2.put s.next (.loop { r with state := .exhausted }))
            | _ => none
          | _ => none
        | none => none
      else none
    | _ => none
  | _, _, _ => none

/-- what a code does, told of its kind first -/
abbrev KC := Program → Cl → Nat → Option Nat → Nat → Fr → St → Option (Way × Fr × St)
def cSkip : KC := fun _ _ _ _ _ f s => some (.normal, f, s)
def cDrawn (ops : Array Oper) : KC := fun P cl _ _ _ f s => match drawnX P cl ops f s with
  | some (f, s) => some (.normal, f, s)
  | none => none
def cPlain (ops : Array Oper) : KC := fun P cl _ _ _ f s => match opers P cl ops ops.toList f s with
  | some (f, s) => some (.normal, f, s)
  | none => none
def cRegionC (_ : Nat) (ops : Array Oper) (d : Bool) : KC := bif d then cDrawn ops else cPlain ops
def cRegion (_ : Nat) (ops : Array Oper) (d : Bool) : KC := Bool.rec (motive := fun _ => KC) (cPlain ops) (cDrawn ops) d
/-- where the first part ended as it should, the second one -/
def goOn (k : Fr → St → Option (Way × Fr × St)) (x : Option (Way × Fr × St)) : Option (Way × Fr × St) := match x with
  | some (.normal, f, s) => k f s
  | some (.exit i, f, s) => some (.exit i, f, s)
  | some (.ret, f, s) => some (.ret, f, s)
  | none => none
def cSeq (_ _ : Code) (ka kb : KC) : KC := fun P cl n rd N f s => goOn (kb P cl n rd N) (ka P cl n rd N f s)
def cCond (c : Operand) (_ _ : Code) (ka kb : KC) : KC := fun P cl n rd N f s => match f.eval c with
  | .bool true => ka P cl n rd N f s
  | .bool false => kb P cl n rd N f s
  | _ => none
def atEnd (id : Nat) (x : Option (Way × Fr × St)) : Option (Way × Fr × St) := match x with
  | some (.normal, f, s) => some (.normal, f, s)
  | some (.exit i, f, s) => bif Nat.beq i id then some (.normal, f, s) else some (.exit i, f, s)
  | some (.ret, f, s) => some (.ret, f, s)
  | none => none
def cBlock (id : Nat) (_ : Code) (kb : KC) : KC := fun P cl n rd N f s => atEnd id (kb P cl n rd N f s)
def cLoop (_ : Code) (kb : KC) : KC := fun P cl n rd N f s => rounds (kb P cl n rd N) N f s
def cRange (g : Operand) (ps : Array Tmp) (a b : Code) (_ _ : KC) : KC := fun P cl n rd N f s => codeC P cl n rd N (.rangeFunc g ps a b) f s
def cExit (id : Nat) : KC := fun _ _ _ _ _ f s => some (.exit id, f, s)
def cScope (_ : Code) (kb : KC) : KC := kb
def cLabel (_ : Nat) : KC := cSkip
def cGoto (_ : Nat) : KC := fun _ _ _ _ _ _ _ => none
def cRet : KC := fun _ _ _ _ _ f s => some (.ret, f, s)
def cRefuse (_ : String) : KC := fun _ _ _ _ _ _ _ => none
def codeKC (c : Code) : KC := fun P cl n rd N f s => codeC P cl n rd N c f s
def codeK (c : Code) : KC := Code.rec (motive := fun _ => KC) cSkip cRegion cSeq cCond cBlock cLoop cRange cExit cScope cLabel cGoto cRet cRefuse c
def code (P : Program) (cl : Cl) (n : Nat) (rd : Option Nat) (N : Nat) (c : Code) (f : Fr) (s : St) : Option (Way × Fr × St) := codeK c P cl n rd N f s

theorem code_eq (P : Program) (cl : Cl) (n : Nat) (rd : Option Nat) (N : Nat) : ∀ (c : Code) (f : Fr) (s : St), code P cl n rd N c f s = codeC P cl n rd N c f s := by
  intro c
  induction c with
  | region id ops d =>
    intro f s
    unfold codeC
    cases d with
    | true => exact (show (match drawnX P cl ops f s with
        | some (f, s) => some (Way.normal, f, s)
        | none => none) = _ from rfl)
    | false => exact (show (match opers P cl ops ops.toList f s with
        | some (f, s) => some (Way.normal, f, s)
        | none => none) = _ from rfl)
  | seq a b iha ihb =>
    intro f s
    show goOn (code P cl n rd N b) (code P cl n rd N a f s) = _
    rw [show code P cl n rd N b = codeC P cl n rd N b from funext fun f => funext fun s => ihb f s, iha]
    unfold goOn
    rw [codeC]
  | cond c a b iha ihb =>
    intro f s
    show (match f.eval c with
      | .bool true => code P cl n rd N a f s
      | .bool false => code P cl n rd N b f s
      | _ => none) = _
    rw [codeC, iha, ihb]
  | block id b ih =>
    intro f s
    show atEnd id (code P cl n rd N b f s) = _
    rw [ih]
    unfold atEnd
    rw [codeC]
  | loop b ih =>
    intro f s
    show rounds (code P cl n rd N b) N f s = _
    rw [show code P cl n rd N b = codeC P cl n rd N b from funext fun f => funext fun s => ih f s]
    rw [codeC]
  | scope b ih =>
    intro f s
    show code P cl n rd N b f s = _
    rw [ih, codeC]
  | rangeFunc g ps a b _ _ => intro f s; rfl
  | _ => intro f s; rfl

def okCode (P : Program) (gl n : Nat) : Code → Bool
  | .region _ ops _ => ops.toList.all (okOper P gl n)
  | .seq a b => okCode P gl n a && okCode P gl n b
  | .cond c a b => okx gl c && okCode P gl n a && okCode P gl n b
  | .block _ b => okCode P gl n b
  | .loop b => okCode P gl n b
  | .scope b => okCode P gl n b
  | .rangeFunc g _ _ _ => okx gl g
  | _ => true

def readRes (fn : Func) (f : Fr) : Option Value :=
  match fn.results.toList with
  | [.tmp t] => some (f.get t)
  | _ => none

section
variable {P : Program} {gl n : Nat} {D : List Deferred} {R : Option Nat} {cl : Cl} {ops : Array Oper}

theorem ST.drew {ρ : Rho} {s : St} {w : World} (hz : RZ P ρ s w) : ST P ρ s w ρ s w.drew :=
  ⟨.refl _, ⟨hz.obj, hz.inj, hz.fresh, hz.lt, hz.roNext, hz.sen, hz.apart⟩, fun b _ hb e _ => ⟨b, hb, e⟩, fun _ _ _ => rfl, fun _ _ _ _ _ => ⟨rfl, rfl⟩, rfl, Nat.le_refl _, rfl, rfl, rfl, Nat.le_refl _, fun _ _ => rfl, rfl⟩

theorem steps_of {m : Tr Nat} {acts : List Nat} {base lo ro : Nat} {F : Nat → Fr} {S : Nat → St} {V : Nat → Value} {M : Nat → List Mk} (hD : Drawn P ops) (hm : ∀ j q, bit m j q = true → Bef ops j q) (hM0 : M 0 = [])
    (st : ∀ (j : Nat) (o : Oper), ops[j]? = some o → stepD P cl ops m acts base lo ro o j (F j) (S j) (M j) = some (V j, S (j + 1), M (j + 1)) ∧ F (j + 1) = (F j).put o.dst (V j)) :
    Steps P cl ops m acts base lo ro (M ops.size) F S V := by
  have cm : ∀ (j : Nat) (o : Oper), ops[j]? = some o → isMake o.op = true → ∃ r, make1 P cl ops o (F j) lo ro (base + j) = some (V j, r) ∧ S (j + 1) = S j ∧ ((∃ ob, r = some ob ∧ M (j + 1) = (j, ob) :: M j) ∨ (r = none ∧ M (j + 1) = M j)) := by
    intro j o ho hmk
    have h := (st j o ho).1
    unfold stepD at h
    rw [hmk] at h
    simp only [cond_true] at h
    cases he : make1 P cl ops o (F j) lo ro (Nat.add base j) with
    | none => rw [he] at h; cases h
    | some p =>
      obtain ⟨v, r⟩ := p
      rw [he] at h
      cases r with
      | none =>
        simp only [Option.some.injEq, Prod.mk.injEq] at h
        exact ⟨none, by rw [← h.1]; first | done | exact he, h.2.1.symm, .inr ⟨rfl, h.2.2.symm⟩⟩
      | some ob =>
        simp only [Option.some.injEq, Prod.mk.injEq] at h
        exact ⟨some ob, by rw [← h.1]; first | done | exact he, h.2.1.symm, .inl ⟨ob, rfl, h.2.2.symm⟩⟩
  have co : ∀ (j : Nat) (o : Oper), ops[j]? = some o → isMake o.op = false → ∃ s', oper1 P cl ops o (F j) (putAll base (S j) (sel m acts (M j) j j)) = some (V j, s') ∧ S (j + 1) = (bif isAct P o.op then s' else S j) ∧ M (j + 1) = M j := by
    intro j o ho hmk
    have h := (st j o ho).1
    unfold stepD at h
    rw [hmk] at h
    simp only [cond_false] at h
    cases he : oper1 P cl ops o (F j) (putAll base (S j) (sel m acts (M j) j j)) with
    | none => rw [he] at h; cases h
    | some p =>
      obtain ⟨v, s'⟩ := p
      rw [he] at h
      simp only [Option.some.injEq, Prod.mk.injEq] at h
      exact ⟨s', by rw [← h.1], h.2.1.symm, h.2.2.symm⟩
  have step : ∀ j, j < ops.size → (∃ ob o, ops[j]? = some o ∧ isMake o.op = true ∧ make1 P cl ops o (F j) lo ro (base + j) = some (V j, some ob) ∧ M (j + 1) = (j, ob) :: M j) ∨ M (j + 1) = M j := by
    intro j hj
    have ho := Array.getElem?_eq_getElem hj
    cases hmk : isMake ops[j].op with
    | true =>
      obtain ⟨r, h1, _, ⟨ob, rfl, h2⟩ | ⟨_, h2⟩⟩ := cm j _ ho hmk
      · exact .inl ⟨ob, _, ho, hmk, h1, h2⟩
      · exact .inr h2
    | false => obtain ⟨s', _, _, h2⟩ := co j _ ho hmk; exact .inr h2
  have hmem : ∀ k, k ≤ ops.size → ∀ x ∈ M k, ∃ o, ops[x.1]? = some o ∧ isMake o.op = true ∧ make1 P cl ops o (F x.1) lo ro (base + x.1) = some (V x.1, some x.2) := by
    intro k
    induction k with
    | zero => intro _ x hx; rw [hM0] at hx; cases hx
    | succ k ih =>
      intro hk x hx
      rcases step k (by omega) with ⟨ob, o, h1, h2, h3, h4⟩ | h4
      · rw [h4] at hx
        rcases List.mem_cons.1 hx with rfl | hx
        · exact ⟨o, h1, h2, h3⟩
        · exact ih (by omega) x hx
      · rw [h4] at hx; exact ih (by omega) x hx
  have hgrow : ∀ d j, j + d ≤ ops.size → (∀ x ∈ M j, x ∈ M (j + d)) ∧ sel m acts (M (j + d)) j j = sel m acts (M j) j j := by
    intro d
    induction d with
    | zero => intro j _; exact ⟨fun x h => h, rfl⟩
    | succ d ih =>
      intro j hj
      obtain ⟨h1, h2⟩ := ih j (by omega)
      rcases step (j + d) (by omega) with ⟨ob, o, _, _, _, h4⟩ | h4
      · rw [show j + (d + 1) = j + d + 1 by omega, h4]
        refine ⟨fun x hx => List.mem_cons_of_mem _ (h1 x hx), ?_⟩
        rw [← h2]
        unfold sel
        rw [List.filter_cons]
        cases hb : bit m j (j + d) with
        | false => simp
        | true => have := bef_lt hD (hm _ _ hb); omega
      · rw [show j + (d + 1) = j + d + 1 by omega, h4]; exact ⟨h1, h2⟩
  have hsel : ∀ j, j ≤ ops.size → sel m acts (M ops.size) j j = sel m acts (M j) j j := fun j hj => by
    have := (hgrow (ops.size - j) j (by omega)).2
    rwa [show j + (ops.size - j) = ops.size by omega] at this
  have lt : ∀ {j : Nat} {o : Oper}, ops[j]? = some o → j < ops.size := fun h => (Array.getElem?_eq_some_iff.1 h).1
  refine ⟨fun j o ho => (st j o ho).2, fun j o ho hd => ?_, fun j o ho ha => ?_, fun j o ho hmk => ?_, hmem _ (Nat.le_refl _), fun j o ho hd => ?_⟩
  · unfold isDeed at hd
    simp only [Bool.and_eq_true, Bool.not_eq_true'] at hd
    obtain ⟨s', h1, h2, _⟩ := co j o ho hd.2
    rw [hd.1] at h2
    simp only [cond_true] at h2
    rw [hsel j (by have := lt ho; omega), h2]; exact h1
  · have hmk : isMake o.op = false := by
      cases h : isMake o.op with
      | false => rfl
      | true => rw [make_act h] at ha; cases ha
    obtain ⟨s', h1, _, _⟩ := co j o ho hmk
    exact ⟨s', by rw [hsel j (by have := lt ho; omega)]; exact h1⟩
  · obtain ⟨r, h1, _, h2⟩ := cm j o ho hmk
    refine ⟨r, h1, fun ob hr => ?_⟩
    rcases h2 with ⟨ob', h3, h4⟩ | ⟨h3, _⟩
    · rw [hr] at h3; cases h3
      have hj := lt ho
      have := (hgrow (ops.size - (j + 1)) (j + 1) (by omega)).1 (j, ob) (by rw [h4]; simp)
      rwa [show j + 1 + (ops.size - (j + 1)) = ops.size by omega] at this
    · rw [hr] at h3; cases h3
  · cases hmk : isMake o.op with
    | true => obtain ⟨r, _, h2, _⟩ := cm j o ho hmk; exact h2
    | false =>
      unfold isDeed at hd
      rw [hmk] at hd
      have ha : isAct P o.op = false := by simpa using hd
      obtain ⟨s', _, h2, _⟩ := co j o ho hmk
      rw [ha] at h2; exact h2

/-- all orders of a region whose deeds are in order -/
theorem drawn_any (hG : Good P) (hcl : CallsOk P gl cl) {ops : Array Oper} (hops : ∀ (j : Nat) (p : Oper), ops[j]? = some p → okOper P gl n p = true) {f f' : Fr} {s s' : St}
    (h : drawn P cl ops f s = some (f', s')) {ρ : Rho} {a : Act} {w : World} (hF : FR ρ gl n D f a) (hz : RZ P ρ s w) (_hm : s.next ≤ most) {Q : Exit → Act → World → Prop}
    (hQ : ∀ ρ' a' w', FR ρ' gl n D f' a' → ST P ρ s w ρ' s' w' → s'.next ≤ most → Q .normal a' w') : wpAnyIn (fen R) 0 P .any ops Q ops.size (Array.replicate ops.size false) a w := by
  unfold drawn at h
  cases hk : okDraw P ops with
  | false => rw [hk] at h; cases h
  | true =>
  rw [hk] at h
  simp only [cond_true] at h
  split at h
  · rename_i tr f1 s1 mk hrun
    cases hr : readsOk P cl ops (masks ops.toList 0 .nil) (deedsOf P ops) s.next mk tr s1 with
    | false => rw [hr] at h; cases h
    | true =>
    rw [hr] at h
    cases h
    have hlen : ops.toList.length = ops.size := Array.length_toList
    obtain ⟨F, S, V, M, e1, e2, e3, e4, e5, e6, hT⟩ := runD_told ops.toList 0 f _ [] tr _ _ _ rfl hrun
    rw [hlen, Nat.zero_add] at e4 e5 e6
    rw [hlen] at hT
    have hsz : ops.size < most := by
      unfold okDraw at hk
      simp only [Bool.and_eq_true] at hk
      have := unblt hk.1.1.1
      simpa using this
    have hmk : ∀ j q, bit (masks ops.toList 0 .nil) j q = true → Bef ops j q := masks_bef ops hsz ops.toList 0 .nil rfl (fun j q h => by unfold bit at h; rw [get_nil] at h; simp at h)
    have hD := okDraw_drawn hk
    have hSt := steps_of (cl := cl) (F := F) (S := S) (V := V) (M := M) (acts := deedsOf P ops) (base := s.next) (lo := s.lo) (ro := s.ro) hD hmk e3 fun j o ho => by
      have hj := (Array.getElem?_eq_some_iff.1 ho).1
      have := hT.step j o hj (by rw [Nat.zero_add]; exact ho)
      simpa only [Nat.zero_add] using this
    have htr : ∀ j, j < ops.size → tr[j]? = some (F j, S j, V j) := fun j hj => by
      have := hT.tr j hj
      simpa only [Nat.zero_add] using this
    have hrs := ST.reserve hz ops.size
    have hS0 : S 0 = ⟨s.next + ops.size, s.lo, s.ro, s.heap⟩ := by rw [e2, hlen]; rfl
    rw [e6] at hSt
    rw [← e5] at hr
    have hno : ∀ i, (Array.replicate ops.size false).getD i false = false := fun i => by
      by_cases hi : i < ops.size
      · simp [hi]
      · simp [hi]
    subst e1
    refine inv_wp (V := V) (S := S) (F := F) hG hcl hops hF.small hD rfl hmk hSt htr hr (ρ0 := ρ) (w0 := w) (s0 := s) hz rfl rfl rfl hF.glob (fun ρ' a' w' h1 h2 h3 => ?_) ops.size _ a _ (by simp) ⟨by simp, fun i o hl => ?_, ?_, hF.size, hF.defers⟩
    · rw [e4] at h1
      rw [e5] at h2 h3
      rw [← hlen] at h2
      refine hQ ρ' a' w' h1 h2 ?_
      rw [(putAll_same s.next _ s1).1]; exact h3
    · rw [hno i] at hl; cases hl
    · obtain ⟨p, h1, h2, h3, h4⟩ := next_act P ops ops.size 0 (by omega) (Nat.zero_le _)
      have hSp : S p = S 0 := by
        have := sconst hSt p 0 (by omega) fun q o _ b c => h4 q o (Nat.zero_le _) (by omega) c
        simpa only [Nat.zero_add] using this
      have hw : whole (masks ops.toList 0 .nil) (deedsOf P ops) s.next mk S p (Array.replicate ops.size false) = ⟨s.next + ops.size, s.lo, s.ro, s.heap⟩ := by
        unfold whole
        rw [List.filter_eq_nil_iff.2 (fun x _ => by rw [hno]; simp), hSp, hS0]; rfl
      refine ⟨p, h2, h3, fun i o hi ha => ?_, ρ, by rw [hw]; exact hrs, by rw [hSp, hS0]; exact Nat.le_refl _, fun x _ _ => ?_, fun x _ _ => hz.fresh _ (Nat.le_add_right _ _), fun i o t hl => ?_, fun t _ => hF.tmp t⟩
      · rw [hno i]
        constructor
        · intro h; cases h
        · intro h; rw [h4 i o (Nat.zero_le _) h hi] at ha; cases ha
      · rw [hSp, hS0]
        cases hx : (St.mk (s.next + ops.size) s.lo s.ro s.heap).obj (s.next + x.1) with
        | none => rfl
        | some ob =>
          have hx' : s.obj (s.next + x.1) = some ob := hx
          have := some_lt hz hx'
          omega
      · rw [hno i] at hl; cases hl
  · cases h

theorem drawn_wp (hG : Good P) (hmix : P.follows .mixedOrders = true) (hcl : CallsOk P gl cl) {ops : Array Oper} (hops : ∀ (j : Nat) (p : Oper), ops[j]? = some p → okOper P gl n p = true) {id : Nat} {f f' : Fr} {s s' : St}
    (h : drawn P cl ops f s = some (f', s')) {ρ : Rho} {a : Act} {w : World} (hF : FR ρ gl n D f a) (hz : RZ P ρ s w) (hm : s.next ≤ most) {Q : Exit → Act → World → Prop}
    (hQ : ∀ ρ' a' w', FR ρ' gl n D f' a' → ST P ρ s w ρ' s' w' → s'.next ≤ most → Q .normal a' w') : (Code.region id ops true).wpIn (fen R) 0 P Q a w := by
  have hd := ST.drew hz
  exact wpIn_region_any hmix (drawn_any hG hcl hops h hF hd.rz hm fun ρ' a' w' x y z => hQ ρ' a' w' x (hd.trans y) z)

theorem drawnX_wp (hG : Good P) (hmix : P.follows .mixedOrders = true) (hcl : CallsOk P gl cl) {ops : Array Oper} (hops : ∀ (j : Nat) (p : Oper), ops[j]? = some p → okOper P gl n p = true) {id : Nat} {f f' : Fr} {s s' : St}
    (h : drawnX P cl ops f s = some (f', s')) {ρ : Rho} {a : Act} {w : World} (hF : FR ρ gl n D f a) (hz : RZ P ρ s w) (hm : s.next ≤ most) {Q : Exit → Act → World → Prop}
    (hQ : ∀ ρ' a' w', FR ρ' gl n D f' a' → ST P ρ s w ρ' s' w' → s'.next ≤ most → Q .normal a' w') : (Code.region id ops true).wpIn (fen R) 0 P Q a w := by
  unfold drawnX at h
  cases hk0 : okDraw P ops with
  | true => rw [hk0] at h; exact drawn_wp hG hmix hcl hops h hF hz hm hQ
  | false =>
  rw [hk0] at h
  simp only [cond_false] at h
  generalize cutAt P ops = k at h
  cases hok : okCut ops k with
  | false => rw [hok] at h; cases h
  | true =>
  rw [hok] at h
  simp only [cond_true] at h
  split at h
  · rename_i f1 s1 hdr
    split at h
    · rename_i f2 st htl
      cases h
      unfold okCut at hok
      simp only [Bool.and_eq_true, List.all_eq_true] at hok
      obtain ⟨⟨h0, h0'⟩, h1, h2, h3⟩ := hok
      have hsz : ops.size < most := by have := unblt h0; simpa using this
      have hk : k ≤ ops.size := by have := Nat.le_of_ble_eq_true h0'; simpa using this
      have hmk : ∀ j q, bit (masks ops.toList 0 .nil) j q = true → Bef ops j q := masks_bef ops hsz ops.toList 0 .nil rfl (fun j q h => by unfold bit at h; rw [get_nil] at h; simp at h)
      have hback : ∀ (i : Nat) (o : Oper), ops[i]? = some o → ∀ e ∈ o.after, Region.binds .any e = true → e.on < i := fun i o hi e he hb => by
        have := h1 (o, i) (mem_zip hi)
        dsimp only at this
        rw [Array.all_eq_true_iff_forall_mem] at this
        have := this e he
        rw [hb] at this
        exact unblt (by simpa using this)
      have hdst : ∀ (i j : Nat) (oi oj : Oper) (t : Nat), ops[i]? = some oi → ops[j]? = some oj → oi.dst = some t → oj.dst = some t → i = j := fun i j oi oj t hi hj di dj => by
        have := h3 (oi, i) (mem_zip hi)
        dsimp only at this
        rw [di] at this
        dsimp only at this
        rw [List.all_eq_true] at this
        have := this (oj, j) (mem_zip hj)
        dsimp only at this
        rw [dj] at this
        simp at this
        exact this
      have hreads : ∀ (i j : Nat) (oi oj : Oper) (t : Nat), ops[i]? = some oi → ops[j]? = some oj → oi.dst = some t → i ≠ j → t ∈ tmpsOf ops oj → Bef ops j i ∨ Bef ops i j := fun i j oi oj t hi hj di hne ht => by
        have := h3 (oi, i) (mem_zip hi)
        dsimp only at this
        rw [di] at this
        dsimp only at this
        rw [List.all_eq_true] at this
        have := this (oj, j) (mem_zip hj)
        dsimp only at this
        have hne' : Nat.beq i j = false := by
          cases hb : Nat.beq i j with
          | false => rfl
          | true => exact absurd (Nat.eq_of_beq_eq_true hb) hne
        rw [hne'] at this
        have hc : (tmpsOf ops oj).contains t = true := by simpa using ht
        rw [hc] at this
        simp only [Bool.false_or, Bool.and_eq_true, Bool.not_true, Bool.or_eq_true] at this
        rcases this.2 with h | h
        · exact .inl (hmk _ _ h)
        · exact .inr (hmk _ _ h)
      have htail : ∀ (i : Nat) (o : Oper), k ≤ i → ops[i]? = some o → o.guard = none ∧ ∀ h, h < k → Bef ops i h := fun i o hki ho => by
        have := h2 (o, i) (mem_zip ho)
        dsimp only at this
        have hb : Nat.blt i k = false := by
          cases hb : Nat.blt i k with
          | false => rfl
          | true => have := unblt hb; omega
        rw [hb] at this
        simp only [cond_false, Bool.and_eq_true, List.all_eq_true, List.mem_range] at this
        have hgn : o.guard = none := by
          cases hg : o.guard with
          | none => rfl
          | some q => rw [hg] at this; cases this.1
        exact ⟨hgn, fun h hh => hmk _ _ (this.2 h hh)⟩
      have hguard : ∀ (i : Nat) (o : Oper) (j : Nat) (v : Bool), i < k → ops[i]? = some o → o.guard = some (j, v) → j < k := fun i o j v hik ho hg => by
        have := h2 (o, i) (mem_zip ho)
        dsimp only at this
        rw [show Nat.blt i k = true from Nat.ble_eq_true_of_le hik, hg] at this
        exact unblt this
      obtain ⟨F, V, e1, e2, _, e4, e5, e6⟩ := tailRun_told (ops := ops) (k := k) (ops.toList.drop k) k f1 [] f' st (Nat.le_refl _) rfl htl (fun x hx => by cases hx) (fun x hx => by cases hx)
      have hlen : k + (ops.toList.drop k).length = ops.size := by simp; omega
      rw [hlen] at e2
      have hT : TailTold P ops k s1 F V st := ⟨fun j o hj ho => (e5 j o hj ho).1, fun j o hj ho => (e5 j o hj ho).2, fun x hx => (e6 x hx).elim (fun h => by cases h) (fun h => h), e4⟩
      have hd := ST.drew hz
      have hhead : (headOf ops k).size = k := by unfold headOf; simp; omega
      refine wpIn_region_any hmix ?_
      have hcut := cut_wp (P := P) (F := fen R) (mm := 0) (ops := ops) (k := k) (Q := Q) (K := fun a1 w1 => ∃ ρ1, FR ρ1 gl n D f1 a1 ∧ ST P ρ s w ρ1 s1 w1 ∧ s1.next ≤ most) hk hback (fun i o a b => (htail i o a b).2) hguard
        (fun a1 w1 hK => by
          obtain ⟨ρ1, hF1, hS1, hm1⟩ := hK
          have hnl : ∀ i, k ≤ i → (joined (Array.replicate k true) (ops.size - k)).getD i false = false := fun i hi => joined_ge (by simpa using hi)
          have hyl : ∀ i, i < k → (joined (Array.replicate k true) (ops.size - k)).getD i false = true := fun i hi => by
            rw [joined_lt false (by simpa using hi)]; simp [hi]
          have hput : putsL (joined (Array.replicate k true) (ops.size - k)) st s1 = s1 := by
            have : ∀ (l : List Sto) (s : St), (∀ x ∈ l, k ≤ x.1) → putsL (joined (Array.replicate k true) (ops.size - k)) l s = s := by
              intro l
              induction l with
              | nil => intro s _; rfl
              | cons x l ih => intro s h; rw [putsL, hnl x.1 (h x (by simp))]; exact ih s fun y hy => h y (by simp [hy])
            exact this st s1 fun x hx => (hT.sto x hx).1
          refine tail_wp hG hcl hops hF.small hk hback hdst hreads (fun j o a b => (htail j o a b).1) hT hS1.rz hm1 hF1.glob (fun ρ' a' w' hF' hS' => ?_) (ops.size - k) _ a1 w1 ?_ ⟨?_, hyl, ?_, ⟨ρ1, ?_, ?_, ?_⟩, hF1.size, hF1.defers⟩
          · rw [e2] at hF'
            exact hQ ρ' a' w' hF' (hS1.trans hS') (by rw [(putEnd_same st s1).1]; exact hm1)
          · unfold joined
            simp; omega
          · unfold joined; simp; omega
          · intro i o hl ho e he hb
            have hik : i < k := Nat.lt_of_not_le fun hge => by rw [hnl i hge] at hl; cases hl
            exact hyl _ (Nat.lt_trans (hback i o ho e he hb) hik)
          · rw [hput]; exact .refl hS1.rz
          · intro i o t hki hl; rw [hnl i hki] at hl; cases hl
          · intro t _; rw [e1]; exact hF1.tmp t) k (Array.replicate k false) a w.drew (by simp) (by simp [List.count_replicate]) (fun i o hl => by
            have : (Array.replicate k false).getD i false = false := by
              by_cases hi : i < k
              · simp [hi]
              · simp [hi]
            rw [this] at hl; cases hl)
        (by
          have hx := drawn_any (R := R) hG hcl (ops := headOf ops k) (fun j p hp => by
            by_cases hj : j < k
            · rw [head_get hj] at hp; exact hops j p hp
            · rw [head_none (by omega)] at hp; cases hp) hdr hF hd.rz hm (Q := onward (fun a1 w1 => ∃ ρ1, FR ρ1 gl n D f1 a1 ∧ ST P ρ s w ρ1 s1 w1 ∧ s1.next ≤ most) Q) fun ρ' a' w' x y z => ⟨ρ', x, hd.trans y, z⟩
          rw [hhead] at hx
          exact hx)
      rw [show k + (ops.size - k) = ops.size by omega] at hcut
      have hjn : joined (Array.replicate k false) (ops.size - k) = Array.replicate ops.size false := by
        unfold joined
        rw [Array.replicate_append_replicate, show k + (ops.size - k) = ops.size by omega]
      rw [hjn] at hcut
      exact hcut
    · cases h
  · cases h

/-- in a round of a loop, or in none -/
def InRound (ρ : Rho) (rd R : Option Nat) : Prop := (rd = none ∧ R = none) ∨ ∃ l l', rd = some l ∧ R = some l' ∧ ρ.at_ l = some l'
theorem InRound.mono {ρ σ : Rho} {rd R : Option Nat} (h : InRound ρ rd R) (hl : ρ.le σ) : InRound σ rd R := h.imp id fun ⟨l, l', h1, h2, h3⟩ => ⟨l, l', h1, h2, (hl _ _ h3).1⟩

/-- the small memory's activation and the world's -/
structure Here (P : Program) (gl n : Nat) (rd : Option Nat) (B : Nat) (R : Option Nat) (D : List Deferred) (ρ : Rho) (f : Fr) (s : St) (a : Act) (w : World) : Prop where
  fr : FR ρ gl n D f a
  rz : RZ P ρ s w
  small : s.next ≤ most
  rd : InRound ρ rd R
  marks : Marks B ρ s w D
  base : B ≤ w.heap.size

theorem Here.next {rd : Option Nat} {B : Nat} {ρ ρ' : Rho} {f f' : Fr} {s s' : St} {a a' : Act} {w w' : World} (h : Here P gl n rd B R D ρ f s a w) (hF : FR ρ' gl n D f' a') (hS : ST P ρ s w ρ' s' w') (hm : s'.next ≤ most) : Here P gl n rd B R D ρ' f' s' a' w' :=
  ⟨hF, hS.rz, hm, h.rd.mono hS.le, h.marks.next hS, Nat.le_trans h.base hS.size⟩

/-- what is told of a code -/
def CodeOk (P : Program) (gl n : Nat) (rd : Option Nat) (f : Fr) (s : St) (way : Way) (f' : Fr) (s' : St) (c : Code) : Prop :=
  ∀ (B : Nat) (R : Option Nat) (D : List Deferred) (ρ : Rho) (a : Act) (w : World), Here P gl n rd B R D ρ f s a w → ∀ Q : Exit → Act → World → Prop, (∀ D' ρ' a' w', Here P gl n rd B R D' ρ' f' s' a' w' → ST P ρ s w ρ' s' w' → Q way.toExit a' w') → c.wpIn (fen R) 0 P Q a w

theorem calm {R : Option Nat} (m : Machine) : m.fenced P (fen R) := fenced_wide P m

theorem stepR_scope {b : Frame} {a : Act} {k : List Item} {cs : List Frame} {w : World} {c : Code} : step P (lone (b.atR a (.code (.scope c) :: k)) cs w) = .next (lone (b.atR a (.code c :: .inScope c :: k)) cs w) :=
  step_lone_go (by simp [stepG, stepG.exec, Frame.atR])
theorem stepR_inScope {b : Frame} {a : Act} {k : List Item} {cs : List Frame} {w : World} {c : Code} : step P (lone (b.atR a (.inScope c :: k)) cs w) = .next (lone (b.atR a k) cs w) :=
  step_lone_go (by simp [stepG, stepG.exec, Frame.atR])

theorem wpIn_scope_straight {c : Code} {Q : Exit → Act → World → Prop} {a : Act} {w : World} (h : c.wpIn (fen R) 0 P (Exit.noGoto Q) a w) : (Code.scope c).wpIn (fen R) 0 P Q a w := by
  intro b k cs hro hb hr
  obtain ⟨e, a₁, w₁, hq, harr⟩ := h b (.inScope c :: k) cs hro hb hr
  cases e with
  | normal => exact ⟨.normal, a₁, w₁, hq, .head (calm _) stepR_scope (StepsIn.trans harr (.one (calm _) stepR_inScope))⟩
  | exit id => exact ⟨.exit id, a₁, w₁, hq, fun k' hk => .head (calm _) stepR_scope (harr.1 k' (by simp [exitTo, hk])), fun h1 h2 => by
      obtain ⟨k₁, h3, h4⟩ := harr.2 h1 (by simp [exitTo, h2])
      exact ⟨k₁, h3, .head (calm _) stepR_scope h4⟩⟩
  | goto l => exact hq.elim
  | ret => exact ⟨_, a₁, w₁, hq, .of_steps (.one (calm _) stepR_scope) harr⟩
  | panic ch => exact ⟨_, a₁, w₁, hq, .of_steps (.one (calm _) stepR_scope) harr⟩
  | outgrown => exact ⟨_, a₁, w₁, hq, .of_steps (.one (calm _) stepR_scope) harr⟩

theorem rounds_ok {rd : Option Nat} {b : Code} {body : Fr → St → Option (Way × Fr × St)} (hb : ∀ f s way f' s', body f s = some (way, f', s') → CodeOk P gl n rd f s way f' s' b) :
    ∀ (N : Nat) (f : Fr) (s : St) (way : Way) (f' : Fr) (s' : St), rounds body N f s = some (way, f', s') → CodeOk P gl n rd f s way f' s' (.loop b) := by
  intro N f s way f' s' h B R D ρ a w hH Q hQ fr k cs hro hfn hr
  have key : ∀ (N : Nat) (f : Fr) (s : St), rounds body N f s = some (way, f', s') → ∀ (D1 : List Deferred) (ρ1 : Rho) (a1 : Act) (w1 : World), Here P gl n rd B R D1 ρ1 f s a1 w1 →
      (∀ D' ρ' a' w', Here P gl n rd B R D' ρ' f' s' a' w' → ST P ρ1 s w1 ρ' s' w' → Q way.toExit a' w') →
      ∃ e a' w', Q e a' w' ∧ ArrivesIn (Machine.fenced P (fen R)) P (lone (fr.atR a1 (.code b :: .inLoop b :: k)) cs w1) fr k cs e a' w' := by
    intro N
    induction N with
    | zero => intro f s h; cases h
    | succ N ih =>
      intro f s h D1 ρ1 a1 w1 hH1 hQ1
      unfold rounds at h
      cases hbd : body f s with
      | none => rw [hbd] at h; cases h
      | some r =>
        obtain ⟨way1, f1, s1⟩ := r
        rw [hbd] at h
        have h1 := hb f s way1 f1 s1 hbd B R D1 ρ1 a1 w1 hH1 (fun e a' w' => e = way1.toExit ∧ ∃ D' ρ', Here P gl n rd B R D' ρ' f1 s1 a' w' ∧ ST P ρ1 s w1 ρ' s1 w') (fun D' ρ' a' w' x y => ⟨rfl, D', ρ', x, y⟩) fr (.inLoop b :: k) cs hro hfn hr
        obtain ⟨e, a2, w2, ⟨rfl, D2, ρ2, hH2, hS2⟩, harr⟩ := h1
        cases way1 with
        | normal =>
          obtain ⟨e, a3, w3, hq, harr3⟩ := ih f1 s1 h D2 ρ2 a2 w2 hH2 fun D' ρ' a' w' x y => hQ1 D' ρ' a' w' x (hS2.trans y)
          exact ⟨e, a3, w3, hq, .of_steps (StepsIn.trans harr (.one (calm _) stepR_inLoop)) harr3⟩
        | exit i =>
          cases h
          exact ⟨_, a2, w2, hQ1 D2 ρ2 a2 w2 hH2 hS2, .pass (x := .inLoop b) rfl (fun _ _ => .inl (by simp [Way.toExit])) harr⟩
        | ret =>
          cases h
          exact ⟨_, a2, w2, hQ1 D2 ρ2 a2 w2 hH2 hS2, .pass (x := .inLoop b) rfl (fun _ _ => .inl (by simp [Way.toExit])) harr⟩
  obtain ⟨e, a', w', hq, harr⟩ := key N f s h D ρ a w hH hQ
  exact ⟨e, a', w', hq, .of_steps (.one (calm _) stepR_loop) harr⟩

theorem rec_or {ρ : Rho} {f : Fr} {a : Act} (hF : FR ρ gl n D f a) (hfit : fitsT dep f = true) (fn : FuncId) (ps : Array Tmp) (x y : Code) (df : Nat) : OR ρ (.loop (rec0 n f ps x y)) (.loop { state := .ready, pending := none, fn, tmps := a.tmps, params := ps, assign := x, body := y, defers := df }) := by
  refine .loop rfl rfl rfl rfl rfl hF.size fun t => ?_
  have : Tr.get dep (unpack (rec0 n f ps x y).tmps) t = Tr.get dep f t := by
    show Tr.get dep (dec dep (enc dep f)) t = _
    rw [dec_enc dep f hfit]
  rw [this]
  exact hF.tmp t

/-- a range over a function -/
theorem range_ok (hG : Good P) (hcl : CallsOk P gl cl) {rd : Option Nat} {g : Operand} {ps : Array Tmp} {x y : Code} (hg : okx gl g = true) {f f' : Fr} {s s' : St} {way : Way} {N : Nat}
    (h : code P cl n rd N (.rangeFunc g ps x y) f s = some (way, f', s')) : CodeOk P gl n rd f s way f' s' (.rangeFunc g ps x y) := by
  intro B R D ρ a w hH Q hQ
  rw [code_eq] at h
  unfold codeC at h
  try simp only [← code_eq] at h
  have hgv := hH.fr.eval hg
  split at h
  · rename_i k xs ys hfv
    rw [hfv] at hgv
    generalize hge : a.eval g = gv at hgv
    cases hgv with
    | @func _ _ xs' _ ys' hx hy hxx hyy =>
    cases hok : (around s rd && (bodied P k && (Nat.blt s.next most && fitsT dep f))) with
    | false => rw [hok] at h; cases h
    | true =>
    rw [hok] at h
    simp only [cond_true] at h
    simp only [Bool.and_eq_true] at hok
    obtain ⟨har, hbo, hnx, hfit⟩ := hok
    cases hc : cl true k ((xs ++ #[.func (.yield s.next) #[] #[]]) ++ ys) (s.add (.loop (rec0 n f ps x y))) with
    | none => rw [hc] at h; cases h
    | some q =>
    obtain ⟨v, s2⟩ := q
    rw [hc] at h
    dsimp only at h
    split at h
    · rename_i r hr
      cases hbz : isBusy r.state with
      | true => rw [hbz] at h; cases h
      | false =>
      rw [hbz] at h
      simp only [cond_false] at h
      -- the function that is called
      have hfun : ∃ fn c, P.funcs[k]? = some fn ∧ fn.body = some c := by
        unfold bodied at hbo
        split at hbo
        · rename_i fn hfn; obtain ⟨c, hc⟩ := Option.isSome_iff_exists.1 hbo; exact ⟨fn, c, hfn, hc⟩
        · cases hbo
      obtain ⟨fn, c0, hfn, hc0⟩ := hfun
      have hnm := hG.names k fn hfn
      -- the record
      have hent : ∀ fr0 : FuncId, ∃ l mark w1 ρ1, (Instr.enterLoop fr0 a.tmps ps x y R).run P w = .ok (l, mark) w1 ∧ ρ1.at_ s.next = some l ∧ ST P ρ s w ρ1 (s.add (.loop (rec0 n f ps x y))) w1 ∧ Marks B ρ1 (s.add (.loop (rec0 n f ps x y))) w1 (mark ++ D) := by
        intro fr0
        rcases hH.rd with ⟨rfl, rfl⟩ | ⟨l0, l0', rfl, rfl, hl0⟩
        · have hS0 := ST.aside hH.rz (.deferred (some []))
          obtain ⟨ρ1, ⟨h1, _⟩, _, hS1⟩ := ST.add (k := 0) (w' := { w with heap := (w.heap.push (.deferred (some []))).push (.loop { state := .ready, pending := none, fn := fr0, tmps := a.tmps, params := ps, assign := x, body := y, defers := w.heap.size }) }) hS0.rz (unblt hnx) (rec_or hH.fr hfit fr0 ps x y w.heap.size) (fun cs e f h => by cases h) rfl rfl rfl rfl
          have hS := hS0.trans hS1
          refine ⟨_, _, _, ρ1, enter_none, by rw [h1]; simp, hS, .cons hH.base ?_ (fun b hb e => ?_) (fun hm => absurd (hH.marks.lt hm) (Nat.lt_irrefl _)) (hH.marks.next hS)⟩
          · show ((w.heap.push (.deferred (some []))).push _)[w.heap.size]? = _
            rw [Array.getElem?_push, if_neg (by simp)]; simp
          · obtain ⟨b0, hb0, e0⟩ := hS1.own b w.heap.size hb e (by simp)
            exact absurd (hH.rz.lt _ _ e0) (Nat.lt_irrefl _)
        · unfold around at har
          dsimp only at har
          split at har
          · rename_i r0 hr0
            obtain ⟨c, r0', e, h1, _⟩ := yield_obj hH.rz hr0
            rw [hl0] at e; cases e
            obtain ⟨ρ1, ⟨h2, _⟩, _, hS1⟩ := ST.add (k := 0) (w' := { w with heap := w.heap.push (.loop { state := .ready, pending := none, fn := fr0, tmps := a.tmps, params := ps, assign := x, body := y, defers := r0'.defers }) }) hH.rz (unblt hnx) (rec_or hH.fr hfit fr0 ps x y r0'.defers) (fun cs e f h => by cases h) rfl rfl rfl rfl
            exact ⟨_, _, _, ρ1, enter_some h1, h2, hS1, hH.marks.next hS1⟩
          · cases har
      refine wpIn_rangeFunc fun fr0 _ => ?_
      obtain ⟨l, mark, w1, ρ1, he, hl, hS1, hM1⟩ := hent fr0
      have hargs : VsR ρ1 ((xs ++ #[.func (.yield s.next) #[] #[]]) ++ ys) ((xs' ++ #[.func (.yield l) #[] #[]]) ++ ys') :=
        VsR.append (VsR.append (VsR.mono ⟨hx, hxx⟩ hS1.le) (VsR.one (.yield hl))) (VsR.mono ⟨hy, hyy⟩ hS1.le)
      refine ⟨l, mark, w1, { target := .fn (.func k) ys', args := xs' ++ #[.func (.yield l) #[] #[]] }, w1, k, (xs' ++ #[.func (.yield l) #[] #[]]) ++ ys', w1, he, ?_, fun _ _ => trivial, ?_, (fun hd => by cases hd), ?_⟩
      · have hcst : a.eval (.const (.func (.yield l) #[] #[])) = .func (.yield l) #[] #[] := rfl
        simp [resolve, hge, hcst, Deferred.ofValue]
      · simp [invoke, callFunc, hfn, hnm, hc0]
      · refine (show CallsIn Fence.wide 0 P _ _ _ _ from callsIn_wide.2 ((hcl.fn k _ _ v s2 hc ρ1 w1 _ hargs hS1.rz ?_ fun g hg => glob_le hS1.le (hH.fr.glob g hg)).mono ?_))
        · exact unblt hnx
        · rintro e w3 ⟨v', ρ2, rfl, hv, hS2, hm2⟩
          obtain ⟨l', r', e', h1, ho⟩ := yield_obj hS2.rz hr
          rw [(hS2.le _ _ hl).1] at e'; cases e'
          have hst : r'.state ≠ .busy := by
            cases ho with
            | loop a _ _ _ _ _ _ => rw [a]; intro e; rw [e] at hbz; cases hbz
          have hpe : r'.pending = r.pending := by cases ho with | loop _ b _ _ _ _ _ => exact b
          have ho' : OR ρ2 (.loop { r with state := .exhausted }) (.loop { r' with state := .exhausted }) := by
            cases ho with | loop a b c d e f g => exact .loop rfl b c d e f g
          have hro : s2.ro ≤ s.next := by rw [hS2.ro, hS1.ro]; exact hH.rz.roNext
          have hS3 := ST.loop hS2.rz hm2 (by simp [hr]) (hS2.le _ _ hl).1 hro ho'
          have hS := (hS1.trans hS2).trans hS3
          have hH' : Here P gl n rd B R (mark ++ D) ρ2 f (s2.put s.next (.loop { r with state := .exhausted })) { a with defers := mark ++ a.defers } _ :=
            ⟨⟨fun t => (hH.fr.tmp t).mono hS.le, hH.fr.size, by simp [hH.fr.defers], fun g hg => glob_le hS.le (hH.fr.glob g hg), hH.fr.small⟩, hS.rz, hm2, hH.rd.mono hS.le, (hM1.next hS2).next hS3, Nat.le_trans hH.base hS.size⟩
          have hov := over_run (P := P) h1 hst
          split at h
          · rename_i hp; cases h; exact ⟨none, _, hov.trans (congrArg (fun j => Result.ok j _) (hpe.trans hp)), hQ _ _ _ _ hH' hS⟩
          · rename_i hp; cases h; exact ⟨some .ret, _, hov.trans (congrArg (fun j => Result.ok j _) (hpe.trans hp)), wpIn_ret (hQ _ _ _ _ hH' hS)⟩
          · rename_i i hp; cases h; exact ⟨some (.exit i), _, hov.trans (congrArg (fun j => Result.ok j _) (hpe.trans hp)), wpIn_exit (hQ _ _ _ _ hH' hS)⟩
          · cases h
    · cases h
  · cases h

theorem code_ok (hG : Good P) (hmix : P.follows .mixedOrders = true) (hcl : CallsOk P gl cl) (rd : Option Nat) (N : Nat) : ∀ (c : Code), okCode P gl n c = true → ∀ (f : Fr) (s : St) (way : Way) (f' : Fr) (s' : St), code P cl n rd N c f s = some (way, f', s') → CodeOk P gl n rd f s way f' s' c := by
  intro c
  induction c with
  | skip => intro _ f s way f' s' h B R D ρ a w hH Q hQ; cases h; exact wpIn_skip (hQ D ρ a w hH (.refl hH.rz))
  | label l => intro _ f s way f' s' h B R D ρ a w hH Q hQ; cases h; exact wpIn_label (hQ D ρ a w hH (.refl hH.rz))
  | exit id => intro _ f s way f' s' h B R D ρ a w hH Q hQ; cases h; exact wpIn_exit (hQ D ρ a w hH (.refl hH.rz))
  | ret => intro _ f s way f' s' h B R D ρ a w hH Q hQ; cases h; exact wpIn_ret (hQ D ρ a w hH (.refl hH.rz))
  | region id ops d =>
    intro hok f s way f' s' h B R D ρ a w hH Q hQ
    have hops : ∀ (j : Nat) (p : Oper), ops[j]? = some p → okOper P gl n p = true := fun j p hp => List.all_eq_true.1 hok p (Array.mem_toList_iff.2 (Array.mem_of_getElem? hp))
    rw [code_eq] at h
    unfold codeC at h
    try simp only [← code_eq] at h
    cases d with
    | true =>
      simp only [cond_true] at h
      cases hd : drawnX P cl ops f s with
      | none => rw [hd] at h; cases h
      | some r =>
        obtain ⟨f1, s1⟩ := r
        rw [hd] at h; cases h
        exact drawnX_wp hG hmix hcl hops hd hH.fr hH.rz hH.small fun ρ' a' w' hF hS hm => hQ D ρ' a' w' (hH.next hF hS hm) hS
    | false =>
      simp only [cond_false] at h
      cases hd : opers P cl ops ops.toList f s with
      | none => rw [hd] at h; cases h
      | some r =>
        obtain ⟨f1, s1⟩ := r
        rw [hd] at h; cases h
        refine wpIn_region ?_
        have := opers_wp (R := R) hG hcl hops (Q := Q) ops.toList 0 f s f' s' rfl hd ρ a w hH.fr hH.rz hH.small fun ρ' a' w' hF hS hm => hQ D ρ' a' w' (hH.next hF hS hm) hS
        rw [List.range_eq_range']
        simpa using this
  | seq x y ihx ihy =>
    intro hok f s way f' s' h B R D ρ a w hH Q hQ
    unfold okCode at hok
    simp only [Bool.and_eq_true] at hok
    rw [code_eq] at h
    unfold codeC at h
    try simp only [← code_eq] at h
    cases hx : code P cl n rd N x f s with
    | none => rw [hx] at h; cases h
    | some r =>
      obtain ⟨way1, f1, s1⟩ := r
      rw [hx] at h
      refine wpIn_seq ?_
      refine ihx hok.1 f s way1 f1 s1 hx B R D ρ a w hH _ fun D1 ρ1 a1 w1 hH1 hS1 => ?_
      cases way1 with
      | normal => exact ihy hok.2 f1 s1 way f' s' h B R D1 ρ1 a1 w1 hH1 Q fun D2 ρ2 a2 w2 hH2 hS2 => hQ D2 ρ2 a2 w2 hH2 (hS1.trans hS2)
      | exit i => cases h; exact hQ D1 ρ1 a1 w1 hH1 hS1
      | ret => cases h; exact hQ D1 ρ1 a1 w1 hH1 hS1
  | cond c x y ihx ihy =>
    intro hok f s way f' s' h B R D ρ a w hH Q hQ
    unfold okCode at hok
    simp only [Bool.and_eq_true] at hok
    have hc := hH.fr.eval hok.1.1
    rw [code_eq] at h
    unfold codeC at h
    try simp only [← code_eq] at h
    split at h
    · rename_i hv
      rw [hv] at hc
      generalize hce : a.eval c = cv at hc
      cases hc
      exact wpIn_cond_true hce (ihx hok.1.2 f s way f' s' h B R D ρ a w hH Q hQ)
    · rename_i hv
      rw [hv] at hc
      generalize hce : a.eval c = cv at hc
      cases hc
      exact wpIn_cond_false hce (ihy hok.2 f s way f' s' h B R D ρ a w hH Q hQ)
    · cases h
  | block id x ih =>
    intro hok f s way f' s' h B R D ρ a w hH Q hQ
    rw [code_eq] at h
    unfold codeC at h
    try simp only [← code_eq] at h
    cases hx : code P cl n rd N x f s with
    | none => rw [hx] at h; cases h
    | some r =>
      obtain ⟨way1, f1, s1⟩ := r
      rw [hx] at h
      refine wpIn_block ?_
      refine ih hok f s way1 f1 s1 hx B R D ρ a w hH _ fun D1 ρ1 a1 w1 hH1 hS1 => ?_
      cases way1 with
      | normal => cases h; exact hQ D1 ρ1 a1 w1 hH1 hS1
      | exit i =>
        dsimp only at h
        cases hi : Nat.beq i id with
        | true =>
          rw [hi] at h; cases h
          have := Nat.eq_of_beq_eq_true hi
          simp only [Way.toExit, Exit.inBlock, this, if_true]
          exact hQ D1 ρ1 a1 w1 hH1 hS1
        | false =>
          rw [hi] at h; cases h
          have : ¬ i = id := fun e => by subst e; simp at hi
          simp only [Way.toExit, Exit.inBlock, this, if_false]
          exact hQ D1 ρ1 a1 w1 hH1 hS1
      | ret => cases h; exact hQ D1 ρ1 a1 w1 hH1 hS1
  | loop x ih =>
    intro hok f s way f' s' h
    exact rounds_ok (fun f s way f' s' hb => ih hok f s way f' s' hb) N f s way f' s' h
  | scope x ih =>
    intro hok f s way f' s' h B R D ρ a w hH Q hQ
    refine wpIn_scope_straight ?_
    refine ih hok f s way f' s' h B R D ρ a w hH _ fun D1 ρ1 a1 w1 hH1 hS1 => ?_
    have := hQ D1 ρ1 a1 w1 hH1 hS1
    cases way <;> exact this
  | rangeFunc g ps x y _ _ => intro hok f s way f' s' h; exact range_ok hG hcl hok h
  | _ => intro _ f s way f' s' h; cases h
end
end
end Go.Proofs.YtdcjkglhhmnjiaaGreatDoor.Sx
