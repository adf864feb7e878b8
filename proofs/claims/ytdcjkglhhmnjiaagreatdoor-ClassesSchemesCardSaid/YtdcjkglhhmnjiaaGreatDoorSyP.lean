/- Calls on the small memory, and what they say of the world. -/
import Derived.Test.YtdcjkglhhmnjiaaGreatDoorSyO
namespace Go.Proofs.YtdcjkglhhmnjiaaGreatDoor.Sx
noncomputable section

def params : Nat → List Value → Fr → Fr
  | _, [], t => t
  | k, v :: vs, t => params (Nat.succ k) vs (Tr.set dep t k (some v))

def resA (P : Program) (f : Fr) (s : St) : List ResultVar → Option (List Value)
  | [] => some []
  | .tmp t :: l => match resA P f s l with
    | some vs => some (f.get t :: vs)
    | none => none
  | .cell b t :: l => match f.get b with
    | .pointer (some a) => match ex P (loadVar t a) s with
      | some (v, _) => match resA P f s l with
        | some vs => some (v :: vs)
        | none => none
      | none => none
    | _ => none
def readRes' (P : Program) (fn : Func) (f : Fr) (s : St) : Option Value :=
  match resA P f s fn.results.toList with
  | some [v] => some v
  | some l => some (.tuple l.toArray)
  | none => none

def setAll : List Nat → List Value → Fr → Fr
  | t :: ts, v :: vs, f => setAll ts vs (f.put (some t) v)
  | _, _, f => f
def plain : Way → Bool
  | .normal => true
  | _ => false
def jumpOf : Way → Option Code
  | .normal => none
  | .exit i => some (.exit i)
  | .ret => some .ret

/-- a round of the loop l -/
def round (P : Program) (gl : Nat) (cl : Cl) (N : Nat) (l : Nat) (args : Array Value) (s : St) : Option (Value × St) :=
  match s.obj l with
  | some (.loop r) =>
    bif (Nat.beq args.toList.length r.params.toList.length && Nat.ble s.ro l) && (r.params.toList.all (fun t => Nat.blt t r.fn) && (Nat.ble r.fn most && (okCode P gl r.fn r.assign && okCode P gl r.fn r.body))) then
      match code P cl r.fn (some l) N r.assign (setAll r.params.toList args.toList (unpack r.tmps)) s with
      | some (.normal, f1, s1) => match s1.obj l with
        | some (.loop r1) => bif isReady r1.state then
            match code P cl r.fn (some l) N r.body f1 (s1.put l (.loop { r1 with state := .busy })) with
            | some (way, _, s2) => match s2.obj l with
              | some (.loop r2) => some (.bool (plain way), s2.put l (.loop { r2 with state := bif plain way then .ready else .done, pending := jumpOf way }))
              | _ => none
            | none => none
          else none
        | _ => none
      | _ => none
    else none
  | _ => none

def call (P : Program) (gl N : Nat) : Nat → Bool → FuncId → Array Value → St → Option (Value × St)
  | 0, _, _, _, _ => none
  | k + 1, false, l, args, s => round P gl (call P gl N k) N l args s
  | k + 1, true, g, args, s => match P.funcs[g]? with
    | some fn => match fn.body with
      | some c => bif okCode P gl fn.ntmps c && (Nat.ble args.toList.length fn.ntmps && Nat.ble fn.ntmps most) then
          match code P (call P gl N k) fn.ntmps none N c (params 0 args.toList .nil) s with
          | some (.normal, f, s') => match readRes' P fn f s' with
            | some v => some (v, s')
            | none => none
          | some (.ret, f, s') => match readRes' P fn f s' with
            | some v => some (v, s')
            | none => none
          | _ => none
        else none
      | none => none
    | none => none

theorem params_get : ∀ (l : List Value) (k : Nat) (t : Fr) (j : Nat), k + l.length ≤ most → Fr.get (params k l t) j = if k ≤ j ∧ j < k + l.length then (l[j - k]?).getD undef else Fr.get t j := by
  intro l
  induction l with
  | nil =>
    intro k t j _
    rw [params, if_neg (by simp)]
  | cons v l ih =>
    intro k t j hk
    rw [List.length_cons] at hk ⊢
    rw [params, ih (Nat.succ k) _ j (by omega)]
    by_cases h1 : Nat.succ k ≤ j ∧ j < Nat.succ k + l.length
    · rw [if_pos h1, if_pos (by omega)]
      rw [show j - k = (j - Nat.succ k) + 1 by omega, List.getElem?_cons_succ]
    · rw [if_neg h1]
      by_cases h2 : j = k
      · subst h2
        rw [if_pos (by omega)]
        have := get_put_same t j v (by omega)
        unfold Fr.put at this
        rw [this, Nat.sub_self]; rfl
      · rw [if_neg (by omega)]
        have := get_put_other t k j v h2
        unfold Fr.put at this
        exact this

/-- one result -/
def rd (tmps : Array Value) : ResultVar → Sem Value
  | .tmp t => pure (tmps.getD t undef)
  | .cell b t => do loadVar t (← asAddr (tmps.getD b undef))
theorem results_rd (fn : Func) (tmps : Array Value) : results fn tmps = (do
    let vs ← fn.results.mapM (rd tmps)
    pure (if h : vs.size = 1 then vs[0] else .tuple vs)) := by
  unfold results
  have : ∀ (g : ResultVar → Sem Value), (∀ x, g x = rd tmps x) → fn.results.mapM g = fn.results.mapM (rd tmps) := fun g hg => by rw [show g = rd tmps from funext hg]
  rw [this _ (fun x => by cases x <;> rfl)]

section
variable {P : Program} {gl : Nat} {D : List Deferred}

/-- whoever runs it leaves the world as it is -/
def RStill {α : Type} (P : Program) (x : Sem α) : Prop := ∀ w r w', x.run P w = .ok r w' → w' = w
theorem RStill.pure {α : Type} (a : α) : RStill P (Pure.pure a : Sem α) := fun w r w' h => by simp at h; exact h.2.symm
theorem RStill.halt {α : Type} (h : Halt) : RStill P (.halt h : Sem α) := fun w r w' e => by simp at e
theorem RStill.bind {α β : Type} {x : Sem α} {f : α → Sem β} (h : RStill P x) (k : ∀ a, RStill P (f a)) : RStill P (x >>= f) := fun w r w' e => by
  rw [Sem.run_bind] at e
  cases hx : x.run P w with
  | ok a w1 =>
    rw [hx] at e
    have := h w a w1 hx
    subst this
    exact k a _ _ _ e
  | halt y w1 => rw [hx] at e; cases e
theorem RStill.load (a : Addr) : RStill P (load a) := fun w r w' e => by
  rw [run_load] at e
  split at e
  · cases e; rfl
  · split at e
    · cases e; rfl
    · cases e
theorem RStill.loadVar (t : TypeId) (a : Addr) : RStill P (loadVar t a) := by
  have prog : RStill P program := fun w r w' e => by simp at e; exact e.2.symm
  have info : RStill P (typeInfo t) := by
    unfold typeInfo
    refine .bind prog fun p => ?_
    split <;> first | exact .pure _ | exact .halt _
  have und : RStill P (underlying t) := by
    unfold underlying
    refine .bind prog fun p => ?_
    split <;> first | exact .pure _ | exact .halt _
  have agg : RStill P (isAgg t) := by
    unfold isAgg
    refine .bind und fun d => ?_
    cases d <;> exact .pure _
  have cells : ∀ (n : Nat) (i : Nat) (xs : Array Value), RStill P (loadCellsFrom a i n xs) := by
    intro n
    induction n with
    | zero => intro i xs; exact .pure _
    | succ n ih => intro i xs; rw [loadCellsFrom]; exact .bind (.load _) fun v => ih _ _
  unfold Go.loadVar
  refine .bind agg fun b => ?_
  cases b with
  | true => exact .bind (show RStill P (sizeOf t) from .bind info fun _ => .pure _) fun n => .bind (cells _ _ _) fun _ => .pure _
  | false => exact .load _

theorem resA_run {n : Nat} {f : Fr} {a : Act} {s : St} {w : World} (hm : s.next ≤ most) : ∀ (l : List ResultVar) (vs : List Value) (ρ : Rho), FR ρ gl n D f a → RZ P ρ s w → resA P f s l = some vs →
    ∃ ρ' vs', (l.mapM (rd a.tmps)).run P w = .ok vs' w ∧ ST P ρ s w ρ' s w ∧ vs.length = vs'.length ∧ ∀ (i : Nat) (x y : Value), vs[i]? = some x → vs'[i]? = some y → VR ρ' x y := by
  intro l
  induction l with
  | nil => intro vs ρ hF hz h; cases h; exact ⟨ρ, [], by simp, .refl hz, rfl, fun i x y h => by simp at h⟩
  | cons r l ih =>
    intro vs ρ hF hz h
    have fin : ∀ (v v' : Value) (us : List Value) (ρ1 : Rho), (rd a.tmps r).run P w = .ok v' w → ST P ρ s w ρ1 s w → VR ρ1 v v' → resA P f s l = some us →
        ∃ ρ' vs', ((r :: l).mapM (rd a.tmps)).run P w = .ok vs' w ∧ ST P ρ s w ρ' s w ∧ (v :: us).length = vs'.length ∧ ∀ (i : Nat) (x y : Value), (v :: us)[i]? = some x → vs'[i]? = some y → VR ρ' x y := by
      intro v v' us ρ1 hr hS hv hus
      obtain ⟨ρ2, us', h1, hS2, h2, h3⟩ := ih us ρ1 (hF.mono hS.le) hS.rz hus
      refine ⟨ρ2, v' :: us', by rw [List.mapM_cons]; simp only [Sem.run_bind, hr, Result.andThen_ok, h1, Sem.run_pure], hS.trans hS2, by simp [h2], fun i x y hx hy => ?_⟩
      cases i with
      | zero => simp at hx hy; subst hx; subst hy; exact hv.mono hS2.le
      | succ i => exact h3 i x y (by simpa using hx) (by simpa using hy)
    cases r with
    | tmp t =>
      rw [resA] at h
      cases hr : resA P f s l with
      | none => rw [hr] at h; cases h
      | some us => rw [hr] at h; cases h; exact fin _ (a.tmps.getD t undef) us ρ rfl (.refl hz) (hF.tmp t) hr
    | cell b t =>
      rw [resA] at h
      have hb := hF.tmp b
      split at h
      · rename_i ad hbv
        rw [hbv] at hb
        generalize hbe : a.tmps.getD b undef = bv at hb
        cases hb with
        | @ptr _ ad' had =>
        cases hx : ex P (loadVar t ad) s with
        | none => rw [hx] at h; cases h
        | some q =>
          obtain ⟨v, s1⟩ := q
          rw [hx] at h
          dsimp only at h
          cases hr : resA P f s l with
          | none => rw [hr] at h; cases h
          | some us =>
            rw [hr] at h; cases h
            obtain ⟨ρ', v', w', k1, k2, k3, _⟩ := (SR_loadVar (P := P) t had).sound s v s1 hx w hz hm
            have hw := RStill.loadVar (P := P) t ad' w v' w' k1
            subst hw
            have hs1 : s1 = s := Still.loadVar t ad s v s1 hx
            subst hs1
            refine fin v v' us ρ' ?_ k3 k2 hr
            show (do loadVar t (← asAddr (a.tmps.getD b undef)) : Sem Value).run P _ = _
            rw [hbe]
            simp only [asAddr, pure_bind]; exact k1
      · cases h

theorem readRes_run {ρ : Rho} {n : Nat} {f : Fr} {a : Act} {s : St} {w : World} (hF : FR ρ gl n D f a) (hz : RZ P ρ s w) (hm : s.next ≤ most) {fn : Func} {v : Value} (h : readRes' P fn f s = some v) : ∃ ρ' v', (results fn a.tmps).run P w = .ok v' w ∧ VR ρ' v v' ∧ ST P ρ s w ρ' s w := by
  unfold readRes' at h
  cases hr : resA P f s fn.results.toList with
  | none => rw [hr] at h; cases h
  | some vs =>
    rw [hr] at h
    obtain ⟨ρ', vs', h1, hS, h2, h3⟩ := resA_run (P := P) hm _ _ ρ hF hz hr
    have hrun : (fn.results.mapM (rd a.tmps)).run P w = .ok vs'.toArray w := by
      rw [Array.mapM_eq_mapM_toList]; simp only [Sem.run_map, h1]; rfl
    have hres : (results fn a.tmps).run P w = .ok (if h : vs'.toArray.size = 1 then vs'.toArray[0] else .tuple vs'.toArray) w := by
      rw [results_rd]
      simp only [Sem.run_bind]
      rw [hrun]; rfl
    match vs, vs', h2, h3, h, hres with
    | [x], [y], _, h3, h, hres =>
      cases h
      exact ⟨ρ', y, hres, h3 0 _ y rfl rfl, hS⟩
    | [], [], _, h3, h, hres => cases h; exact ⟨ρ', _, hres, .tuple rfl fun i x y hx => by simp at hx, hS⟩
    | x :: x2 :: l, y :: y2 :: l', h2, h3, h, hres =>
      cases h
      refine ⟨ρ', _, hres, ?_, hS⟩
      have : ¬ (y :: y2 :: l').toArray.size = 1 := by simp
      rw [dif_neg this]
      exact .tuple (by simpa using h2) fun i a b ha hb => h3 i a b (by simpa using ha) (by simpa using hb)

theorem setAll_fr {ρ : Rho} {n : Nat} (hn : n ≤ most) : ∀ (ps : List Nat) (vs vs' : List Value) (f : Fr) (tmps : Array Value), (∀ t, VR ρ (f.get t) (tmps.getD t undef)) → tmps.size = n → (∀ p ∈ ps, p < n) → vs.length = vs'.length →
    (∀ (i : Nat) (x y : Value), vs[i]? = some x → vs'[i]? = some y → VR ρ x y) →
    (∀ t, VR ρ ((setAll ps vs f).get t) (((ps.zip vs').foldl (fun (tmps : Array Value) (p : Nat × Value) => tmps.setIfInBounds p.1 p.2) tmps).getD t undef)) ∧ ((ps.zip vs').foldl (fun (tmps : Array Value) (p : Nat × Value) => tmps.setIfInBounds p.1 p.2) tmps).size = n := by
  intro ps
  induction ps with
  | nil => intro vs vs' f tmps h hs _ _ _; exact ⟨fun t => h t, hs⟩
  | cons p ps ih =>
    intro vs vs' f tmps h hs hp hl hv
    cases vs with
    | nil =>
      cases vs' with
      | nil => exact ⟨fun t => h t, hs⟩
      | cons => cases hl
    | cons v vs =>
      cases vs' with
      | nil => cases hl
      | cons v' vs' =>
        rw [setAll, List.zip_cons_cons, List.foldl_cons]
        have hpn := hp p (by simp)
        refine ih vs vs' _ _ (fun t => ?_) (by simpa using hs) (fun q hq => hp q (by simp [hq])) (by simpa using hl) fun i x y hx hy => hv (i + 1) x y (by simpa using hx) (by simpa using hy)
        by_cases e : t = p
        · subst e
          rw [get_put_same f t v (Nat.lt_of_lt_of_le hpn hn)]
          have : t < tmps.size := by rw [hs]; exact hpn
          simp [Array.getD, this]
          exact hv 0 v v' rfl rfl
        · rw [get_put_other f p t v e]
          have := h t
          simp only [Array.getD_eq_getD_getElem?, Array.getElem?_setIfInBounds] at this ⊢
          rw [if_neg (Ne.symm e)]; exact this

theorem round_ok (hG : Good P) (hmix : P.follows .mixedOrders = true) {cl : Cl} (hcl : CallsOk P gl cl) (N : Nat) {l : Nat} {args : Array Value} {s s' : St} {v : Value} (h : round P gl cl N l args s = some (v, s')) {ρ : Rho} {w : World} {args' : Array Value} {l' : Nat}
    (hl : ρ.at_ l = some l') (hargs : VsR ρ args args') (hz : RZ P ρ s w) (hm : s.next ≤ most) (hgl : ∀ g, g < gl → ρ.at_ g = some g ∧ ρ.off g = 0) :
    ∃ r', w.heap[l']? = some (.loop r') ∧ args'.size = r'.params.size ∧
      RoundIn Fence.wide 0 P l' r'.fn ((r'.params.zip args').foldl (fun tmps (t, a) => tmps.setIfInBounds t a) r'.tmps) r'.assign r'.body w fun e w' => ∃ v' ρ', e = .returned v' ∧ VR ρ' v v' ∧ ST P ρ s w ρ' s' w' ∧ s'.next ≤ most := by
  unfold round at h
  split at h
  · rename_i r hr
    cases hok : ((Nat.beq args.toList.length r.params.toList.length && Nat.ble s.ro l) && (r.params.toList.all (fun t => Nat.blt t r.fn) && (Nat.ble r.fn most && (okCode P gl r.fn r.assign && okCode P gl r.fn r.body)))) with
    | false => rw [hok] at h; cases h
    | true =>
    rw [hok] at h
    simp only [cond_true] at h
    simp only [Bool.and_eq_true, List.all_eq_true, Nat.ble_eq] at hok
    obtain ⟨⟨k1, k2⟩, k3, k4, k5, k6⟩ := hok
    have k1' := Nat.eq_of_beq_eq_true k1
    obtain ⟨c, r', e, h1, ho⟩ := yield_obj hz hr
    rw [hl] at e; cases e
    cases ho with
    | loop q1 q2 q3 q4 q5 q6 q7 =>
    have hsz : args'.size = r'.params.size := by rw [q3, ← hargs.1]; simpa using k1'
    refine ⟨r', h1, hsz, roundIn_of_wpIn (F := Fence.wide) trivial ?_⟩
    have hset := setAll_fr (ρ := ρ) (n := r.fn) k4 r.params.toList args.toList args'.toList (unpack r.tmps) r'.tmps q7 q6 (fun p hp => unblt (k3 p hp)) (by simpa using hargs.1) fun i x y hx hy => hargs.2 i x y (by simpa using hx) (by simpa using hy)
    have hfold : (r'.params.zip args').foldl (fun tmps (t, a) => tmps.setIfInBounds t a) r'.tmps = (r.params.toList.zip args'.toList).foldl (fun (tmps : Array Value) (p : Nat × Value) => tmps.setIfInBounds p.1 p.2) r'.tmps := by
      rw [q3, ← Array.foldl_toList, Array.toList_zip]
    rw [hfold, q4]
    have hH : Here P gl r.fn (some l) 0 (some l') [] ρ (setAll r.params.toList args.toList (unpack r.tmps)) s { tmps := (r.params.toList.zip args'.toList).foldl (fun (tmps : Array Value) (p : Nat × Value) => tmps.setIfInBounds p.1 p.2) r'.tmps, defers := [] } w :=
      ⟨⟨hset.1, hset.2, rfl, hgl, k4⟩, hz, hm, .inr ⟨l, l', rfl, rfl, hl⟩, .nil, Nat.zero_le _⟩
    split at h
    · rename_i f1 s1 hc1
      refine code_ok hG hmix hcl (some l) N r.assign k5 _ s .normal f1 s1 hc1 0 (some l') [] ρ _ w hH _ fun D1 ρ1 a1 w1 hH1 hS1 => ?_
      split at h
      · rename_i r1 hr1
        cases hrd : isReady r1.state with
        | false => rw [hrd] at h; cases h
        | true =>
        rw [hrd] at h
        simp only [cond_true] at h
        obtain ⟨c1, r1', e1, g1, go⟩ := yield_obj hH1.rz hr1
        have hl1 := (hS1.le _ _ hl).1
        rw [hl1] at e1; cases e1
        have hst : r1'.state = .ready := by
          cases go with
          | loop a _ _ _ _ _ _ =>
            rw [a]
            cases hs : r1.state <;> rw [hs] at hrd <;> first | rfl | cases hrd
        have ho1 : OR ρ1 (.loop { r1 with state := .busy }) (.loop { r1' with state := .busy }) := by
          cases go with | loop a b c d e f g => exact .loop rfl b c d e f g
        have hro1 : s1.ro ≤ l := by rw [hS1.ro]; exact k2
        have hS2 := ST.loop hH1.rz hH1.small (by simp [hr1]) hl1 hro1 ho1
        refine ⟨_, begin_run g1 hst, ?_⟩
        have hH2 := hH1.next (hH1.fr.mono hS2.le) hS2 hH1.small
        rw [q5]
        split at h
        · rename_i way f2 s2 hc2
          refine code_ok hG hmix hcl (some l) N r.body k6 f1 _ way f2 s2 hc2 0 (some l') D1 ρ1 a1 _ hH2 _ fun D3 ρ3 a3 w3 hH3 hS3 => ?_
          split at h
          · rename_i r2 hr2
            cases h
            obtain ⟨c2, r2', e2, g2, go2⟩ := yield_obj hH3.rz hr2
            have hl3 := (hS3.le _ _ hl1).1
            rw [hl3] at e2; cases e2
            have hro3 : s2.ro ≤ l := by rw [hS3.ro]; exact hro1
            have fin : ∀ (j : Option Code) (b : Bool), j = jumpOf way → b = plain way → j.isNone = b → ∃ v w', (Instr.endRound l' j).run P w3 = .ok v w' ∧ ∃ v' ρ', Ending.returned v = .returned v' ∧ VR ρ' (.bool (plain way)) v' ∧
                ST P ρ s w ρ' (s2.put l (.loop { r2 with state := bif plain way then .ready else .done, pending := jumpOf way })) w' ∧ (s2.put l (.loop { r2 with state := bif plain way then .ready else .done, pending := jumpOf way })).next ≤ most := by
              intro j b hj hb hjb
              subst hj; subst hb
              have ho2 : OR ρ3 (.loop { r2 with state := bif plain way then .ready else .done, pending := jumpOf way }) (.loop { r2' with state := if (jumpOf way).isNone then .ready else .done, pending := jumpOf way }) := by
                cases go2 with
                | loop a b c d e f g =>
                  refine .loop ?_ rfl c d e f g
                  show (if (jumpOf way).isNone = true then LoopState.ready else .done) = (bif plain way then .ready else .done)
                  rw [hjb]; cases plain way <;> rfl
              have hS4 := ST.loop hH3.rz hH3.small (by simp [hr2]) hl3 hro3 ho2
              refine ⟨_, _, end_run g2 _, _, ρ3, rfl, ?_, ((hS1.trans hS2).trans hS3).trans hS4, hH3.small⟩
              rw [hjb]; exact .bool _
            cases way with
            | normal => exact fin none true rfl rfl rfl
            | exit i => exact fin (some (.exit i)) false rfl rfl rfl
            | ret => exact fin (some .ret) false rfl rfl rfl
          · cases h
        · cases h
      · cases h
    · cases h
  · cases h

theorem call_ok (hG : Good P) (hmix : P.follows .mixedOrders = true) (N : Nat) : ∀ k, CallsOk P gl (call P gl N k) := by
  intro k
  induction k with
  | zero => exact ⟨fun g args s v s' h => by (unfold call at h; cases h), fun l args s v s' h => by (unfold call at h; cases h)⟩
  | succ k ih =>
    refine ⟨?_, fun l args s v s' h ρ w args' l' hl hargs hz hm hgl => round_ok hG hmix ih N (by unfold call at h; exact h) hl hargs hz hm hgl⟩
    intro g args s v s' h ρ w args' hargs hz hm hgl
    unfold call at h
    cases hf : P.funcs[g]? with
    | none => rw [hf] at h; cases h
    | some fn =>
    rw [hf] at h
    dsimp only at h
    cases hb : fn.body with
    | none => rw [hb] at h; cases h
    | some c =>
    rw [hb] at h
    dsimp only at h
    cases hsz : (okCode P gl fn.ntmps c && (Nat.ble args.toList.length fn.ntmps && Nat.ble fn.ntmps most)) with
    | false => rw [hsz] at h; cases h
    | true =>
    rw [hsz] at h
    simp only [cond_true] at h
    simp only [Bool.and_eq_true, Nat.ble_eq] at hsz
    obtain ⟨hokc, g1, g2⟩ := hsz
    have hlen : args.toList.length = args'.size := by rw [← hargs.1]; simp
    have hF : FR ρ gl fn.ntmps [] (params 0 args.toList .nil) { tmps := args' ++ Array.replicate (fn.ntmps - args'.size) undef, defers := [] } := by
      refine ⟨fun t => ?_, by simp; omega, rfl, hgl, g2⟩
      rw [params_get args.toList 0 .nil t (by omega)]
      simp only [Nat.zero_le, Nat.zero_add, true_and, Nat.sub_zero]
      by_cases ht : t < args.toList.length
      · rw [if_pos ht]
        have e1 : (args' ++ Array.replicate (fn.ntmps - args'.size) undef).getD t undef = args'[t]'(by omega) := by
          rw [Array.getD_eq_getD_getElem?, Array.getElem?_append_left (by omega), Array.getElem?_eq_getElem (by omega)]; rfl
        rw [e1]
        have e2 : args.toList[t]? = some (args[t]'(by simpa using ht)) := by simp at ht ⊢
        rw [e2]
        exact hargs.2 t _ _ (Array.getElem?_eq_getElem _) (Array.getElem?_eq_getElem _)
      · rw [if_neg ht]
        have e1 : (args' ++ Array.replicate (fn.ntmps - args'.size) undef).getD t undef = undef := by
          rw [Array.getD_eq_getD_getElem?, Array.getElem?_append_right (by omega)]
          rw [Array.getElem?_replicate]
          split <;> rfl
        rw [e1]
        have : Fr.get (.nil : Fr) t = undef := by unfold Fr.get; rw [get_nil]; rfl
        rw [this]
        exact VR_undef ρ
    have fin : ∀ (way : Way) (f : Fr) (s1 : St), (way = .normal ∨ way = .ret) → code P (call P gl N k) fn.ntmps none N c (params 0 args.toList .nil) s = some (way, f, s1) → readRes' P fn f s1 = some v → s1 = s' →
        Calls P g args' w fun e w' => ∃ v' ρ', e = .returned v' ∧ VR ρ' v v' ∧ ST P ρ s w ρ' s' w' ∧ s'.next ≤ most := by
      intro way f s1 hway hc hr hs
      subst hs
      refine callsIn_wide.1 (callsIn_of_wp_marks (F := Fence.wide) (n := 0) hf hb trivial ?_)
      refine code_ok hG hmix ih none N c hokc _ s way f s1 hc w.heap.size none [] ρ _ w ⟨hF, hz, hm, .inl ⟨rfl, rfl⟩, .nil, Nat.le_refl _⟩ _ fun D1 ρ1 a1 w1 hH1 hS1 => ?_
      have hlv : LeavesInM Fence.wide 0 P fn a1.tmps (fun e w' => ∃ v' ρ', e = .returned v' ∧ VR ρ' v v' ∧ ST P ρ s w ρ' s1 w' ∧ s1.next ≤ most) a1.defers .returning w1 := by
        rw [hH1.fr.defers]
        refine leaves_marks D1 w1 hS1 hH1.marks fun w2 hS2 => ?_
        obtain ⟨ρ2, v', h1, h2, h3⟩ := readRes_run (P := P) hH1.fr hS2.rz hH1.small hr
        exact ⟨v', h1, v', ρ2, rfl, h2, hS2.trans h3, hH1.small⟩
      rcases hway with rfl | rfl
      · exact hlv
      · exact hlv
    split at h
    · rename_i f s1 hc
      split at h
      · rename_i v1 hr; cases h; exact fin .normal f _ (.inl rfl) hc hr rfl
      · cases h
    · rename_i f s1 hc
      split at h
      · rename_i v1 hr; cases h; exact fin .ret f _ (.inr rfl) hc hr rfl
      · cases h
    · cases h
end
end
end Go.Proofs.YtdcjkglhhmnjiaaGreatDoor.Sx
