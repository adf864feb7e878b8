/- Frames, and regions that do not draw. -/
import Derived.Test.YtdcjkglhhmnjiaaGreatDoorSyI
import Derived.Calls
import Derived.Scope
import Derived.Orders
import Derived.OrdersIn
namespace Go.Proofs.YtdcjkglhhmnjiaaGreatDoor.Sx
noncomputable section

abbrev Fr := Tr Value
def Fr.get (f : Fr) (t : Nat) : Value := (Tr.get dep f t).getD undef
def Fr.put (f : Fr) (t : Option Nat) (v : Value) : Fr := match t with
  | some t => Tr.set dep f t (some v)
  | none => f
def Fr.eval (f : Fr) : Operand → Value
  | .tmp t => f.get t
  | .const v => v
  | .global g => .pointer (some ⟨g, 0, none⟩)
  | .func g => .func (.func g) #[] #[]

def wants (ops : Array Oper) (f : Fr) (o : Oper) : Bool :=
  match o.guard with
  | none => true
  | some (j, want) => match (ops[j]?).bind (·.dst) with
    | some t => match f.get t with
      | .bool b => b == want
      | _ => false
    | none => false

/-- constants without addresses, variables that there are -/
def okx (gl : Nat) : Operand → Bool
  | .const v => closedV 8 v
  | .global g => Nat.blt g gl
  | _ => true
def okOper (P : Program) (gl n : Nat) (o : Oper) : Bool :=
  okTy P o.op &&
  (o.op.operands.toList.all (okx gl) && (match o.dst with | some d => Nat.blt d n | none => true))

structure FR (ρ : Rho) (gl n : Nat) (D : List Deferred) (f : Fr) (a : Act) : Prop where
  tmp : ∀ t, VR ρ (f.get t) (a.tmps.getD t undef)
  size : a.tmps.size = n
  defers : a.defers = D
  glob : ∀ g, g < gl → ρ.at_ g = some g ∧ ρ.off g = 0
  small : n ≤ most

theorem glob_le {ρ σ : Rho} {g : Nat} (hl : ρ.le σ) (h : ρ.at_ g = some g ∧ ρ.off g = 0) : σ.at_ g = some g ∧ σ.off g = 0 := ⟨(hl _ _ h.1).1, (hl _ _ h.1).2.2.trans h.2⟩

theorem FR.mono {ρ σ : Rho} {gl n : Nat} {D : List Deferred} {f : Fr} {a : Act} (h : FR ρ gl n D f a) (hl : ρ.le σ) : FR σ gl n D f a :=
  ⟨fun t => (h.tmp t).mono hl, h.size, h.defers, fun g hg => ⟨(hl _ _ (h.glob g hg).1).1, (hl _ _ (h.glob g hg).1).2.2.trans (h.glob g hg).2⟩, h.small⟩

theorem FR.eval {ρ : Rho} {gl n : Nat} {D : List Deferred} {f : Fr} {a : Act} (h : FR ρ gl n D f a) {x : Operand} (hx : okx gl x = true) : VR ρ (f.eval x) (a.eval x) := by
  cases x with
  | tmp t => exact h.tmp t
  | const v => exact VR_closed 8 v hx
  | global g => exact .ptr (mk0 (h.glob g (unblt hx)))
  | func g => exact .func g rfl rfl (fun i x y hx => by simp at hx) (fun i x y hx => by simp at hx)

theorem get_put_same (f : Fr) (t : Nat) (v : Value) (h : t < most) : (f.put (some t) v).get t = v := by
  unfold Fr.put Fr.get
  rw [show dep = 40 + 1 from rfl, Tr.get_set_same 40 f t (some v) h]; rfl
theorem get_put_other (f : Fr) (t j : Nat) (v : Value) (h : j ≠ t) : (f.put (some t) v).get j = f.get j := by
  unfold Fr.put Fr.get
  simp only [Tr.get_set_other dep f t j (some v) h]

theorem FR.put {P : Program} {ρ : Rho} {gl n : Nat} {D : List Deferred} {f : Fr} {a : Act} (h : FR ρ gl n D f a) {o : Oper} (ho : okOper P gl n o = true) {v v' : Value} (hv : VR ρ v v') : FR ρ gl n D (f.put o.dst v) (a.put o.dst v') := by
  have hd : ∀ d, o.dst = some d → d < n := by
    intro d e
    unfold okOper at ho
    rw [e] at ho
    simp only [Bool.and_eq_true] at ho
    exact unblt ho.2.2
  cases hds : o.dst with
  | none => exact h
  | some d =>
    have hlt := hd d hds
    have hm : d < most := Nat.lt_of_lt_of_le hlt h.small
    refine ⟨fun t => ?_, by simp [Act.put, h.size], h.defers, h.glob, h.small⟩
    simp only [Act.put]
    by_cases e : t = d
    · subst e
      rw [get_put_same f t v hm]
      have : t < a.tmps.size := by rw [h.size]; exact hlt
      simp [Array.getD, this]
      exact hv
    · rw [get_put_other f d t v e]
      have := h.tmp t
      simp only [Array.getD_eq_getD_getElem?, Array.getElem?_setIfInBounds] at this ⊢
      rw [if_neg (Ne.symm e)]; exact this

/-- the variable that a guard asks -/
def guardTmp (ops : Array Oper) (o : Oper) : Option Nat := match o.guard with
  | none => none
  | some (j, _) => (ops[j]?).bind (·.dst)

theorem wants_eq {ρ : Rho} {n : Nat} {f : Fr} {a : Act} {ops : Array Oper} {o : Oper} (hs : a.tmps.size = n) (h : ∀ t, guardTmp ops o = some t → t < n ∧ VR ρ (f.get t) (a.tmps.getD t undef)) : Region.wanted o (yielded ops a.tmps) = wants ops f o := by
  unfold Region.wanted wants
  unfold guardTmp at h
  cases hg : o.guard with
  | none => rfl
  | some p =>
    obtain ⟨j, want⟩ := p
    rw [hg] at h
    dsimp only at h ⊢
    unfold yielded
    cases hj : (ops[j]?).bind (·.dst) with
    | none => simp
    | some t =>
      obtain ⟨hlt, ht⟩ := h t hj
      have hlt' : t < a.tmps.size := by rw [hs]; exact hlt
      simp only [Option.bind_some]
      have e1 : a.tmps.getD t undef = a.tmps[t] := by simp [Array.getD, hlt']
      rw [e1] at ht
      rw [Array.getElem?_eq_getElem hlt']
      generalize a.tmps[t] = x at ht
      generalize f.get t = y at ht
      cases ht <;> first | rfl | (simp; done)

theorem guard_lt {P : Program} {gl n : Nat} {ops : Array Oper} {o : Oper} (hd : ∀ (j : Nat) (p : Oper), ops[j]? = some p → okOper P gl n p = true) {t : Nat} (h : guardTmp ops o = some t) : t < n := by
  unfold guardTmp at h
  split at h
  · cases h
  · rename_i j w hg
    cases hj : ops[j]? with
    | none => rw [hj] at h; cases h
    | some q =>
      rw [hj] at h
      have hq := hd j q hj
      have hds : q.dst = some t := h
      unfold okOper at hq
      rw [hds] at hq
      simp only [Bool.and_eq_true] at hq
      exact unblt hq.2.2

/-- calls: of a function, or of a loop's round (by its block) -/
abbrev Cl := Bool → FuncId → Array Value → St → Option (Value × St)

/-- any frame: a function's, or a round's -/
def fen (R : Option Nat) : Fence := { Fence.wide with round := R }

/-- the loop of which a call runs a round, and with what -/
def yieldsTo (ev : Operand → Value) (o : Oper) : Option (Nat × Array Value) := match o.op with
  | .call c => match c.callee with
    | .value f => match ev f with
      | .func (.yield l) xs ys => some (l, joinA (joinA xs (mapA ev c.args)) ys)
      | _ => none
    | _ => none
  | _ => none

def yieldK (ev : Operand → Value) (o : Oper) (cl : Cl) (s : St) : Option (Value × St) := match yieldsTo ev o with
  | some (l, args) => cl false l args s
  | none => none
def nxC (r : Nx) : Cl → St → Option (Value × St) := match r with
  | .val v => fun _ s => some (v, s)
  | .skip => fun _ s => some (undef, s)
  | .enter g args => fun cl s => cl true g args s
/-- what an operation handed on, taken up -/
def nxK (r : Nx) : Cl → St → Option (Value × St) :=
  Nx.rec (motive := fun _ => Cl → St → Option (Value × St)) (fun v _ s => some (v, s)) (fun _ s => some (undef, s)) (fun g args cl s => cl true g args s) r
def wantsG (ops : Array Oper) (f : Fr) (p : Nat × Bool) : Bool := match (ops[p.1]?).bind (·.dst) with
  | some t => match f.get t with
    | .bool b => b == p.2
    | _ => false
  | none => false
/-- one operation of a region -/
def oper1C (P : Program) (cl : Cl) (ops : Array Oper) (o : Oper) (f : Fr) (s : St) : Option (Value × St) :=
  bif wants ops f o then
    match exOp P f.eval o s with
    | some (r, s) => nxC r cl s
    | none => yieldK f.eval o cl s
  else some (undef, s)
def oper1 (P : Program) (cl : Cl) (ops : Array Oper) (o : Oper) (f : Fr) (s : St) : Option (Value × St) :=
  Bool.rec (motive := fun _ => Option (Value × St)) (some (undef, s))
    (Option.rec (motive := fun _ => Option (Value × St)) (yieldK f.eval o cl s) (fun p => Prod.rec (motive := fun _ => Option (Value × St)) (fun r s => nxK r cl s) p) (exK o.op P f.eval s))
    (Option.rec (motive := fun _ => Bool) true (fun p => wantsG ops f p) o.guard)

theorem yields_none {P : Program} {ev : Operand → Value} {o : Oper} {s : St} {q : Nat × Array Value} (h : yieldsTo ev o = some q) : exOp P ev o s = none := by
  obtain ⟨dst, op, type, pos, after, guard⟩ := o
  unfold yieldsTo at h
  dsimp only at h
  split at h
  · rename_i c
    show callA P ev c s = none
    unfold callA
    split at h
    · rename_i f hc
      rw [hc]
      dsimp only
      split at h
      · rename_i l xs ys hv; rw [hv]
      · cases h
    · cases h
  · cases h

theorem oper1_eq (P : Program) (cl : Cl) (ops : Array Oper) (o : Oper) (f : Fr) (s : St) : oper1 P cl ops o f s = (bif wants ops f o then
    match yieldsTo f.eval o with
    | some (l, args) => cl false l args s
    | none => match exOp P f.eval o s with
      | some (.val v, s) => some (v, s)
      | some (.skip, s) => some (undef, s)
      | some (.enter g args, s) => cl true g args s
      | none => none
  else some (undef, s)) := by
  have hw : (Option.rec (motive := fun _ => Bool) true (fun p => wantsG ops f p) o.guard : Bool) = wants ops f o := by
    unfold wants
    cases o.guard <;> rfl
  unfold oper1
  rw [hw, exK_eq]
  cases wants ops f o with
  | false => rfl
  | true =>
    simp only [cond_true]
    cases hy : yieldsTo f.eval o with
    | some q =>
      obtain ⟨l, args⟩ := q
      rw [yields_none hy]
      show yieldK f.eval o cl s = _
      unfold yieldK
      rw [hy]
    | none =>
      cases he : exOp P f.eval o s with
      | none =>
        show yieldK f.eval o cl s = _
        unfold yieldK
        rw [hy]
      | some p =>
        obtain ⟨r, s1⟩ := p
        cases r <;> rfl

def opersC (P : Program) (cl : Cl) (ops : Array Oper) : List Oper → Fr → St → Option (Fr × St)
  | [], f, s => some (f, s)
  | o :: os, f, s => match oper1 P cl ops o f s with
    | some (v, s) => opersC P cl ops os (f.put o.dst v) s
    | none => none
def opers (P : Program) (cl : Cl) (ops : Array Oper) (l : List Oper) : Fr → St → Option (Fr × St) :=
  List.rec (motive := fun _ => Program → Cl → Array Oper → Fr → St → Option (Fr × St)) (fun _ _ _ f s => some (f, s))
    (fun o _ ih P cl ops f s => Option.rec (motive := fun _ => Option (Fr × St)) none (fun p => Prod.rec (motive := fun _ => Option (Fr × St)) (fun v s => ih P cl ops (f.put o.dst v) s) p) (oper1 P cl ops o f s)) l P cl ops
theorem opers_cons (P : Program) (cl : Cl) (ops : Array Oper) (o : Oper) (os : List Oper) (f : Fr) (s : St) : opers P cl ops (o :: os) f s = (match oper1 P cl ops o f s with
    | some (v, s) => opers P cl ops os (f.put o.dst v) s
    | none => none) := by
  show Option.rec (motive := fun _ => Option (Fr × St)) none (fun p => Prod.rec (motive := fun _ => Option (Fr × St)) (fun v s => opers P cl ops os (f.put o.dst v) s) p) (oper1 P cl ops o f s) = _
  cases oper1 P cl ops o f s <;> rfl

/-- what is told of calls: the small memory's result is the world's -/
structure CallsOk (P : Program) (gl : Nat) (cl : Cl) : Prop where
  fn : ∀ (g : FuncId) (args : Array Value) (s : St) (v : Value) (s' : St), cl true g args s = some (v, s') → ∀ (ρ : Rho) (w : World) (args' : Array Value), VsR ρ args args' → RZ P ρ s w → s.next ≤ most → (∀ g, g < gl → ρ.at_ g = some g ∧ ρ.off g = 0) →
    Calls P g args' w fun e w' => ∃ v' ρ', e = .returned v' ∧ VR ρ' v v' ∧ ST P ρ s w ρ' s' w' ∧ s'.next ≤ most
  round : ∀ (l : Nat) (args : Array Value) (s : St) (v : Value) (s' : St), cl false l args s = some (v, s') → ∀ (ρ : Rho) (w : World) (args' : Array Value) (l' : Nat), ρ.at_ l = some l' → VsR ρ args args' → RZ P ρ s w → s.next ≤ most → (∀ g, g < gl → ρ.at_ g = some g ∧ ρ.off g = 0) →
    ∃ r', w.heap[l']? = some (.loop r') ∧ args'.size = r'.params.size ∧
      RoundIn Fence.wide 0 P l' r'.fn ((r'.params.zip args').foldl (fun tmps (t, a) => tmps.setIfInBounds t a) r'.tmps) r'.assign r'.body w fun e w' => ∃ v' ρ', e = .returned v' ∧ VR ρ' v v' ∧ ST P ρ s w ρ' s' w' ∧ s'.next ≤ most

theorem VR_undef (ρ : Rho) : VR ρ undef undef := VR_closed 1 undef rfl

section
variable {P : Program} {gl n : Nat} {D : List Deferred} {R : Option Nat} {cl : Cl}

/-- a call that runs a round -/
theorem yields_run {ρ : Rho} {o : Oper} {ev ev' : Operand → Value} (hev : ∀ x ∈ o.op.operands, VR ρ (ev x) (ev' x)) {l : Nat} {args : Array Value} (h : yieldsTo ev o = some (l, args)) :
    ∃ l' args', (∀ (w : World) (r' : Loop), w.heap[l']? = some (.loop r') → args'.size = r'.params.size → (execOp ev' o).run P w = .ok (.round l' r'.fn ((r'.params.zip args').foldl (fun tmps (t, a) => tmps.setIfInBounds t a) r'.tmps) r'.assign r'.body) w) ∧ ρ.at_ l = some l' ∧ VsR ρ args args' := by
  obtain ⟨dst, op, type, pos, after, guard⟩ := o
  unfold yieldsTo at h
  simp only [joinA_eq, mapA_eq] at h
  dsimp only at h hev
  split at h
  · rename_i c
    split at h
    · rename_i f hc
      have hf : VR ρ (ev f) (ev' f) := hev f (by simp [Op.operands, Call.operands, hc])
      have hargs : VsR ρ (c.args.map ev) (c.args.map ev') := VsR.map ev ev' _ fun x hx => hev x (by simp [Op.operands, Call.operands, hx])
      split at h
      · rename_i l1 xs ys hfv
        rw [hfv] at hf
        cases h
        generalize hfe : ev' f = fv' at hf
        cases hf with
        | @yield _ l' hl =>
        refine ⟨l', (#[] ++ c.args.map ev') ++ #[], fun w r' h1 h2 => ?_, hl, VsR.append (VsR.append .nil hargs) .nil⟩
        have h2' : c.args.size = r'.params.size := by simpa using h2
        unfold execOp
        simp [resolve, hc, hfe, Deferred.ofValue, invoke, Instr.yield, Instr.getLoop, getObj, Sem.run, h1, h2']
      · cases h
    · cases h
  · cases h

/-- one operation, at whatever moment -/
theorem oper1_wp (hG : Good P) (hcl : CallsOk P gl cl) {ops : Array Oper} {i : Nat} {o : Oper} (hi : ops[i]? = some o)
    {f : Fr} {s s' : St} {v : Value} (h : oper1 P cl ops o f s = some (v, s')) {ρ : Rho} {a : Act} {w : World} (hev : ∀ x ∈ o.op.operands, VR ρ (f.eval x) (a.eval x)) (hty : okTy P o.op = true) (hwe : Region.wanted o (yielded ops a.tmps) = wants ops f o)
    (hgl : ∀ g, g < gl → ρ.at_ g = some g ∧ ρ.off g = 0) (hz : RZ P ρ s w) (hm : s.next ≤ most)
    {Q : Exit → Act → World → Prop} {K : Act → World → Prop} (hK : ∀ ρ' v' w', VR ρ' v v' → ST P ρ s w ρ' s' w' → s'.next ≤ most → K (a.put o.dst v') w') : wpOpIn (fen R) 0 P ops Q i K a w := by
  unfold wpOpIn
  rw [hi]
  dsimp only
  rw [hwe]
  rw [oper1_eq] at h
  cases hw : wants ops f o with
  | false =>
    rw [hw] at h; cases h
    simp only [Bool.false_eq_true, if_false]
    exact ⟨fun _ _ => trivial, hK ρ undef w (VR_undef ρ) (.refl hz) hm⟩
  | true =>
    rw [hw] at h
    simp only [cond_true] at h
    simp only [if_true]
    refine ⟨fun _ _ => trivial, ?_⟩
    have hnd : ∀ c, o.op ≠ .defer c := fun c e => by
      unfold yieldsTo exOp at h
      rw [e] at h
      cases h
    rw [Oper.semAt_eq _ _ _ hnd]
    cases hy : yieldsTo f.eval o with
    | some la =>
      obtain ⟨l, args⟩ := la
      rw [hy] at h
      obtain ⟨l', args', h1, h2, h3⟩ := yields_run (P := P) hev hy
      obtain ⟨r', h4, h5, h6⟩ := hcl.round l args s v s' h ρ w args' l' h2 h3 hz hm hgl
      rw [h1 w r' h4 h5]
      refine ⟨(fun hd => by cases hd), (show RoundIn Fence.wide 0 P _ _ _ _ _ _ _ from h6.mono ?_)⟩
      rintro e w2 ⟨v', ρ2, rfl, hv, hS, hm2⟩
      exact hK ρ2 v' w2 hv hS hm2
    | none =>
    rw [hy] at h
    dsimp only at h
    cases he : exOp P f.eval o s with
    | none => rw [he] at h; cases h
    | some p =>
      obtain ⟨r, s1⟩ := p
      rw [he] at h
      obtain ⟨ρ1, r', w1, h1, h2, h3, h4⟩ := op_run hG hz hm hty hev he
      rw [h1]
      cases h2 with
      | val hv => cases h; exact hK ρ1 _ w1 hv h3 h4
      | skip => cases h; exact hK ρ1 undef w1 (VR_undef ρ1) h3 h4
      | enter g hargs =>
        dsimp only at h
        refine ⟨(fun hd => by cases hd), (show CallsIn Fence.wide 0 P _ _ _ _ from callsIn_wide.2 ((hcl.fn g _ s1 v s' h ρ1 w1 _ hargs h3.rz h4 (fun g hg => glob_le h3.le (hgl g hg))).mono ?_))⟩
        rintro e w2 ⟨v', ρ2, rfl, hv, hS, hm2⟩
        exact hK ρ2 v' w2 hv (h3.trans hS) hm2

theorem okOper_ty {o : Oper} (ho : okOper P gl n o = true) : okTy P o.op = true := by
  unfold okOper at ho
  simp only [Bool.and_eq_true] at ho
  exact ho.1
theorem okOper_eval {ρ : Rho} {f : Fr} {a : Act} {o : Oper} (ho : okOper P gl n o = true) (hgl : ∀ g, g < gl → ρ.at_ g = some g ∧ ρ.off g = 0) (ht : ∀ t, .tmp t ∈ o.op.operands → VR ρ (f.get t) (a.tmps.getD t undef)) :
    ∀ x ∈ o.op.operands, VR ρ (f.eval x) (a.eval x) := by
  intro x hx
  unfold okOper at ho
  simp only [Bool.and_eq_true, List.all_eq_true] at ho
  have hx' := ho.2.1 x (Array.mem_toList_iff.2 hx)
  cases x with
  | tmp t => exact ht t hx
  | const v => exact VR_closed 8 v hx'
  | global g => exact .ptr (mk0 (hgl g (unblt hx')))
  | func g => exact .func g rfl rfl (fun i x y hx => by simp at hx) (fun i x y hx => by simp at hx)

theorem opers_wp (hG : Good P) (hcl : CallsOk P gl cl) {ops : Array Oper} (hops : ∀ (j : Nat) (p : Oper), ops[j]? = some p → okOper P gl n p = true) {Q : Exit → Act → World → Prop} : ∀ (l : List Oper) (k : Nat) (f : Fr) (s : St) (f' : Fr) (s' : St),
    ops.toList.drop k = l → opers P cl ops l f s = some (f', s') → ∀ (ρ : Rho) (a : Act) (w : World), FR ρ gl n D f a → RZ P ρ s w → s.next ≤ most →
    (∀ ρ' a' w', FR ρ' gl n D f' a' → ST P ρ s w ρ' s' w' → s'.next ≤ most → Q .normal a' w') → wpOpsIn (fen R) 0 P ops Q (List.range' k l.length) a w := by
  intro l
  induction l with
  | nil =>
    intro k f s f' s' _ h ρ a w hF hz hm hQ
    cases h
    exact hQ ρ a w hF (.refl hz) hm
  | cons o l ih =>
    intro k f s f' s' hl h ρ a w hF hz hm hQ
    rw [List.length_cons, List.range'_succ, wpOpsIn_cons]
    have hi : ops[k]? = some o := by
      have : (ops.toList.drop k)[0]? = some o := by rw [hl]; rfl
      simpa using this
    rw [opers_cons] at h
    cases h1 : oper1 P cl ops o f s with
    | none => rw [h1] at h; cases h
    | some p =>
      obtain ⟨v, s1⟩ := p
      rw [h1] at h
      refine oper1_wp hG hcl hi h1 (okOper_eval (hops k o hi) hF.glob fun t _ => hF.tmp t) (okOper_ty (hops k o hi)) (wants_eq hF.size fun t ht => ⟨guard_lt hops ht, hF.tmp t⟩) hF.glob hz hm fun ρ1 v' w1 hv hS hm1 => ?_
      refine ih (k + 1) _ _ f' s' ?_ h ρ1 _ w1 ((hF.mono hS.le).put (hops k o hi) hv) hS.rz hm1 fun ρ2 a2 w2 hF2 hS2 hm2 => hQ ρ2 a2 w2 hF2 (hS.trans hS2) hm2
      rw [← List.drop_drop, hl]; rfl
end
end
end Go.Proofs.YtdcjkglhhmnjiaaGreatDoor.Sx
