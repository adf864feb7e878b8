/- A region that draws: what one order comes to, every order comes to. -/
import Derived.Test.YtojlncopehjpiaaDoorSxL
namespace Go.Proofs.YtojlncopehjpiaaDoor.Sx

/-- the same value, seen at once -/
def sameV : Nat → Value → Value → Bool
  | 0, _, _ => false
  | n + 1, u, v => match u, v with
    | .bool a, .bool b => a == b
    | .int j a, .int k b => decide (j = k) && decide (a = b)
    | .string a, .string b => decide (a = b)
    | .pointer a, .pointer b => decide (a = b)
    | .slice a m c, .slice b n d => decide (a = b) && Nat.beq m n && Nat.beq c d
    | .map a, .map b => decide (a = b)
    | .nilFunc, .nilFunc => true
    | .nilIface, .nilIface => true
    | .iface s x, .iface t y => Nat.beq s t && sameV n x y
    | .agg xs, .agg ys => all n xs.toList ys.toList
    | .tuple xs, .tuple ys => all n xs.toList ys.toList
    | _, _ => false
where
  all (n : Nat) : List Value → List Value → Bool
    | [], [] => true
    | x :: xs, y :: ys => sameV n x y && all n xs ys
    | _, _ => false

theorem sameV_eq : ∀ (n : Nat) (u v : Value), sameV n u v = true → u = v := by
  intro n
  induction n with
  | zero => intro u v h; simp [sameV] at h
  | succ n ih =>
    have hall : ∀ (xs ys : List Value), sameV.all n xs ys = true → xs = ys := by
      intro xs
      induction xs with
      | nil => intro ys h; cases ys with
        | nil => rfl
        | cons => cases h
      | cons x xs ihx => intro ys h; cases ys with
        | nil => cases h
        | cons y ys =>
          simp only [sameV.all, Bool.and_eq_true] at h
          rw [ih x y h.1, ihx ys h.2]
    intro u v h
    unfold sameV at h
    split at h
    · simpa using h
    · simpa using h
    · simpa using h
    · simpa using h
    · simp only [Bool.and_eq_true, decide_eq_true_eq] at h
      obtain ⟨⟨h1, h2⟩, h3⟩ := h
      rw [h1, Nat.eq_of_beq_eq_true h2, Nat.eq_of_beq_eq_true h3]
    · simpa using h
    · rfl
    · rfl
    · simp only [Bool.and_eq_true] at h
      rw [Nat.eq_of_beq_eq_true h.1, ih _ _ h.2]
    · rw [Array.toList_inj.1 (hall _ _ h)]
    · rw [Array.toList_inj.1 (hall _ _ h)]
    · cases h

def runD (P : Program) (cl : FuncId → Array Value → St → Option (Value × St)) (ops : Array Oper) : List Oper → Fr → St → Option (List (Fr × St × Value) × Fr × St)
  | [], f, s => some ([], f, s)
  | o :: os, f, s => match oper1 P cl ops o f s with
    | some (v, s') => match runD P cl ops os (f.put o.dst v) s' with
      | some (tr, f', s'') => some ((f, s, v) :: tr, f', s'')
      | none => none
    | none => none

/-- where an act may stand between, what is read is read the same -/
def readsOk (P : Program) (cl : FuncId → Array Value → St → Option (Value × St)) (ops : Array Oper) (tr : List (Fr × St × Value)) (s' : St) : Bool :=
  let l := ops.toList.zipIdx
  let m := masks ops.toList 0 .nil
  let acts := (l.filter fun x => isAct x.1.op).map (·.2)
  let ends := (acts.map fun p => (p, match tr[p]? with | some (_, s, _) => s | none => s')) ++ [(l.length, s')]
  l.all fun x => isAct x.1.op || acts.all (fun q => bit m x.2 q || bit m q x.2) ||
    match tr[x.2]? with
    | some (f, _, v) => ends.all fun e => acts.any (fun q => bit m x.2 q && Nat.ble e.1 q) || acts.any (fun q => bit m q x.2 && Nat.blt q e.1) ||
        match oper1 P cl ops x.1 f e.2 with
        | some (v', _) => sameV 8 v' v
        | none => false
    | none => false

def drawn (P : Program) (cl : FuncId → Array Value → St → Option (Value × St)) (ops : Array Oper) (f : Fr) (s : St) : Option (Fr × St) :=
  bif okDraw ops then
    match runD P cl ops ops.toList f s with
    | some (tr, f', s') => bif readsOk P cl ops tr s' then some (f', s') else none
    | none => none
  else none

section
variable {P : Program} {gl n : Nat} {cl : FuncId → Array Value → St → Option (Value × St)} {ops : Array Oper}

/-- one order's states, one by one -/
structure Told (P : Program) (cl : FuncId → Array Value → St → Option (Value × St)) (ops : Array Oper) (F : Nat → Fr) (S : Nat → St) (V : Nat → Value) (tr : List (Fr × St × Value)) (k len : Nat) : Prop where
  step : ∀ (j : Nat) (o : Oper), j < len → ops[k + j]? = some o → oper1 P cl ops o (F (k + j)) (S (k + j)) = some (V (k + j), S (k + j + 1)) ∧ F (k + j + 1) = (F (k + j)).put o.dst (V (k + j))
  tr : ∀ j, j < len → tr[j]? = some (F (k + j), S (k + j), V (k + j))

theorem runD_told : ∀ (l : List Oper) (k : Nat) (f : Fr) (s : St) (tr : List (Fr × St × Value)) (f' : Fr) (s' : St), ops.toList.drop k = l → runD P cl ops l f s = some (tr, f', s') →
    ∃ F S V, F k = f ∧ S k = s ∧ F (k + l.length) = f' ∧ S (k + l.length) = s' ∧ Told P cl ops F S V tr k l.length := by
  intro l
  induction l with
  | nil =>
    intro k f s tr f' s' _ h
    cases h
    exact ⟨fun _ => f, fun _ => s, fun _ => undef, rfl, rfl, rfl, rfl, ⟨fun j o h => by simp at h, fun j h => by simp at h⟩⟩
  | cons o l ih =>
    intro k f s tr f' s' hl h
    have hi : ops[k]? = some o := by
      have : (ops.toList.drop k)[0]? = some o := by rw [hl]; rfl
      simpa using this
    unfold runD at h
    cases h1 : oper1 P cl ops o f s with
    | none => rw [h1] at h; cases h
    | some p =>
      obtain ⟨v, s1⟩ := p
      rw [h1] at h
      dsimp only at h
      cases h2 : runD P cl ops l (f.put o.dst v) s1 with
      | none => rw [h2] at h; cases h
      | some q =>
        obtain ⟨tr1, f1, s2⟩ := q
        rw [h2] at h
        cases h
        obtain ⟨F, S, V, e1, e2, e3, e4, hT⟩ := ih (k + 1) _ _ _ _ _ (by rw [← List.drop_drop, hl]; rfl) h2
        refine ⟨fun j => if j = k then f else F j, fun j => if j = k then s else S j, fun j => if j = k then v else V j, by simp, by simp, ?_, ?_, ⟨fun j o' hj ho' => ?_, fun j hj => ?_⟩⟩
        · rw [List.length_cons]; dsimp only; rw [if_neg (by omega), ← e3]; congr 1; omega
        · rw [List.length_cons]; dsimp only; rw [if_neg (by omega), ← e4]; congr 1; omega
        · rw [List.length_cons] at hj
          cases j with
          | zero =>
            rw [Nat.add_zero] at ho' ⊢
            rw [hi] at ho'; cases ho'
            rw [if_pos rfl, if_pos rfl, if_pos rfl, if_neg (by omega), if_neg (by omega), e1, e2]
            exact ⟨h1, rfl⟩
          | succ j =>
            have := hT.step j o' (by omega) (by rw [← ho']; congr 1; omega)
            rw [if_neg (by omega), if_neg (by omega), if_neg (by omega), if_neg (by omega), if_neg (by omega)]
            rw [show k + (j + 1) = k + 1 + j by omega]
            exact this
        · rw [List.length_cons] at hj
          cases j with
          | zero => simp
          | succ j =>
            have := hT.tr j (by omega)
            rw [List.getElem?_cons_succ, this]
            rw [if_neg (by omega), if_neg (by omega), if_neg (by omega), show k + (j + 1) = k + 1 + j by omega]

theorem bef_lt (hD : Drawn ops) : ∀ {i j : Nat}, Bef ops i j → j < i := by
  intro i j h
  induction h with
  | edge h he hb => exact hD.back _ _ h _ he hb
  | trans _ _ ih ik => omega

/-- from a place on, the next act, or the end -/
theorem next_act (ops : Array Oper) : ∀ (d i : Nat), ops.size - i = d → i ≤ ops.size → ∃ p, i ≤ p ∧ p ≤ ops.size ∧ (p = ops.size ∨ ∃ o, ops[p]? = some o ∧ isAct o.op = true) ∧ ∀ q o, i ≤ q → q < p → ops[q]? = some o → isAct o.op = false := by
  intro d
  induction d with
  | zero => intro i h hi; exact ⟨i, Nat.le_refl _, hi, .inl (by omega), fun q o h1 h2 => by omega⟩
  | succ d ih =>
    intro i h hi
    have hlt : i < ops.size := by omega
    cases ha : isAct ops[i].op with
    | true => exact ⟨i, Nat.le_refl _, hi, .inr ⟨ops[i], Array.getElem?_eq_getElem hlt, ha⟩, fun q o h1 h2 => by omega⟩
    | false =>
      obtain ⟨p, h1, h2, h3, h4⟩ := ih (i + 1) (by omega) (by omega)
      refine ⟨p, by omega, h2, h3, fun q o hq hq2 ho => ?_⟩
      by_cases e : q = i
      · subst e; rw [Array.getElem?_eq_getElem hlt] at ho; cases ho; exact ha
      · exact h4 q o (by omega) hq2 ho

/-- what holds when some operations are done -/
structure Inv (P : Program) (ops : Array Oper) (gl n : Nat) (f : Fr) (S : Nat → St) (V : Nat → Value) (ρ0 : Rho) (s0 : St) (w0 : World) (listed : Array Bool) (a : Act) (w : World) : Prop where
  size : listed.size = ops.size
  down : ∀ (i : Nat) (o : Oper), listed.getD i false = true → ops[i]? = some o → ∀ e ∈ o.after, Region.binds .any e = true → listed.getD e.on false = true
  at_ : ∃ p, p ≤ ops.size ∧ (p = ops.size ∨ ∃ o, ops[p]? = some o ∧ isAct o.op = true) ∧ (∀ (i : Nat) (o : Oper), ops[i]? = some o → isAct o.op = true → (listed.getD i false = true ↔ i < p)) ∧
    ∃ ρ, ST P ρ0 s0 w0 ρ (S p) w ∧ (S p).next ≤ most ∧ (∀ (i : Nat) (o : Oper) (t : Nat), listed.getD i false = true → ops[i]? = some o → o.dst = some t → VR ρ (V i) (a.tmps.getD t undef)) ∧
      (∀ t, (∀ (i : Nat) (o : Oper), listed.getD i false = true → ops[i]? = some o → o.dst ≠ some t) → VR ρ (f.get t) (a.tmps.getD t undef))
  tsize : a.tmps.size = n
  defers : a.defers = []

theorem Inv.listed {f : Fr} {S : Nat → St} {V : Nat → Value} {ρ0 : Rho} {s0 : St} {w0 w : World} {listed : Array Bool} {a : Act} (h : Inv P ops gl n f S V ρ0 s0 w0 listed a w) {i j : Nat} (hb : Bef ops i j) : listed.getD i false = true → listed.getD j false = true := by
  induction hb with
  | edge ho he hb => exact fun hl => h.down _ _ hl ho _ he hb
  | trans _ _ ih ik => exact fun hl => ik (ih hl)
theorem Inv.ready {f : Fr} {S : Nat → St} {V : Nat → Value} {ρ0 : Rho} {s0 : St} {w0 w : World} {listed : Array Bool} {a : Act} (h : Inv P ops gl n f S V ρ0 s0 w0 listed a w) {i j : Nat} (hb : Bef ops i j)
    (hd : ∀ o, ops[i]? = some o → ∀ e ∈ o.after, Region.binds .any e = true → listed.getD e.on false = true) : listed.getD j false = true := by
  induction hb with
  | edge ho he hb => exact hd _ ho _ he hb
  | trans _ hk ih _ => exact h.listed hk (ih hd)
end
end Go.Proofs.YtojlncopehjpiaaDoor.Sx
