/- A region that draws: what one order comes to, every order comes to. -/
import Derived.Test.YtdcjkglhhmnjiaaGreatDoorSyL
namespace Go.Proofs.YtdcjkglhhmnjiaaGreatDoor.Sx
noncomputable section

/-- the same value, seen at once -/
def sameV : Nat → Value → Value → Bool
  | 0, _, _ => false
  | n + 1, u, v => match u, v with
    | .bool a, .bool b => a == b
    | .int j a, .int k b => decide (j = k) && decide (a = b)
    | .string a, .string b => decide (a = b)
    | .pointer a, .pointer b => decide (a = b)
    | .slice a m c, .slice b n d => decide (a = b) && Nat.beq m n && Nat.beq c d
    | .map a, .map b => decide (a = b)
    | .nilFunc, .nilFunc => true
    | .nilIface, .nilIface => true
    | .iface s x, .iface t y => Nat.beq s t && sameV n x y
    | .agg xs, .agg ys => all n xs.toList ys.toList
    | .tuple xs, .tuple ys => all n xs.toList ys.toList
    | .func (.func f) xs ys, .func (.func g) us vs => Nat.beq f g && (all n xs.toList us.toList && all n ys.toList vs.toList)
    | _, _ => false
where
  all (n : Nat) : List Value → List Value → Bool
    | [], [] => true
    | x :: xs, y :: ys => sameV n x y && all n xs ys
    | _, _ => false

theorem sameV_eq : ∀ (n : Nat) (u v : Value), sameV n u v = true → u = v := by
  intro n
  induction n with
  | zero => intro u v h; simp [sameV] at h
  | succ n ih =>
    have hall : ∀ (xs ys : List Value), sameV.all n xs ys = true → xs = ys := by
      intro xs
      induction xs with
      | nil => intro ys h; cases ys with
        | nil => rfl
        | cons => cases h
      | cons x xs ihx => intro ys h; cases ys with
        | nil => cases h
        | cons y ys =>
          simp only [sameV.all, Bool.and_eq_true] at h
          rw [ih x y h.1, ihx ys h.2]
    intro u v h
    unfold sameV at h
    split at h
    · simpa using h
    · simpa using h
    · simpa using h
    · simpa using h
    · simp only [Bool.and_eq_true, decide_eq_true_eq] at h
      obtain ⟨⟨h1, h2⟩, h3⟩ := h
      rw [h1, Nat.eq_of_beq_eq_true h2, Nat.eq_of_beq_eq_true h3]
    · simpa using h
    · rfl
    · rfl
    · simp only [Bool.and_eq_true] at h
      rw [Nat.eq_of_beq_eq_true h.1, ih _ _ h.2]
    · rw [Array.toList_inj.1 (hall _ _ h)]
    · rw [Array.toList_inj.1 (hall _ _ h)]
    · simp only [Bool.and_eq_true] at h
      rw [Nat.eq_of_beq_eq_true h.1, Array.toList_inj.1 (hall _ _ h.2.1), Array.toList_inj.1 (hall _ _ h.2.2)]
    · cases h

/-- what was made: by which operation, and what -/
abbrev Mk := Nat × Obj
def putAll (base : Nat) : St → List Mk → St
  | s, [] => s
  | s, x :: l => putAll base (s.put (Nat.add base x.1) x.2) l
/-- what no deed ahead of p has waited for -/
def unmet (m : Tr Nat) (acts : List Nat) (p : Nat) (x : Mk) : Bool := acts.all fun q => !Nat.blt q p || !bit m q x.1
def sel (m : Tr Nat) (acts : List Nat) (mk : List Mk) (i p : Nat) : List Mk := mk.filter fun x => bit m i x.1 && unmet m acts p x

def make1 (P : Program) (cl : Cl) (ops : Array Oper) (o : Oper) (f : Fr) (lo ro id : Nat) : Option (Value × Option Obj) :=
  bif wants ops f o then
    match oper1 P cl ops o f ⟨top, lo, ro, .nil⟩ with
    | some (v, s1) => match namedV id v, s1.obj top with
      | some v', some ob => bif freeO ob then some (v', some ob) else none
      | _, _ => none
    | none => none
  else some (undef, none)

def deedsOf (P : Program) (ops : Array Oper) : List Nat := (ops.toList.zipIdx.filter fun x => isDeed P x.1.op).map (·.2)

def stepD (P : Program) (cl : Cl) (ops : Array Oper) (m : Tr Nat) (acts : List Nat) (base lo ro : Nat) (o : Oper) (i : Nat) (f : Fr) (s : St) (mk : List Mk) : Option (Value × St × List Mk) :=
  bif isMake o.op then match make1 P cl ops o f lo ro (Nat.add base i) with
    | some (v, some ob) => some (v, s, (i, ob) :: mk)
    | some (v, none) => some (v, s, mk)
    | none => none
  else match oper1 P cl ops o f (putAll base s (sel m acts mk i i)) with
    | some (v, s') => some (v, bif isAct P o.op then s' else s, mk)
    | none => none

def runD (P : Program) (cl : Cl) (ops : Array Oper) (m : Tr Nat) (acts : List Nat) (base lo ro : Nat) : List Oper → Nat → Fr → St → List Mk → Option (List (Fr × St × Value) × Fr × St × List Mk)
  | [], _, f, s, mk => some ([], f, s, mk)
  | o :: os, i, f, s, mk => match stepD P cl ops m acts base lo ro o i f s mk with
    | some (v, s', mk') => match runD P cl ops m acts base lo ro os (Nat.succ i) (f.put o.dst v) s' mk' with
      | some (tr, f', s'', mk'') => some ((f, s, v) :: tr, f', s'', mk'')
      | none => none
    | none => none

def endsOf (tr : List (Fr × St × Value)) (s' : St) (acts : List Nat) (n : Nat) : List (Nat × St) :=
  (acts.map fun p => (p, match tr[p]? with | some (_, s, _) => s | none => s')) ++ [(n, s')]

/-- where a deed may stand between, what is read is read the same -/
def readsOk (P : Program) (cl : Cl) (ops : Array Oper) (m : Tr Nat) (acts : List Nat) (base : Nat) (mk : List Mk) (tr : List (Fr × St × Value)) (s' : St) : Bool :=
  let ends := endsOf tr s' acts ops.toList.length
  ends.all (fun e => Nat.ble e.2.next top) &&
  ops.toList.zipIdx.all fun x => isAct P x.1.op || acts.all (fun q => bit m x.2 q || bit m q x.2) ||
    match tr[x.2]? with
    | some (f, _, v) => ends.all fun e => acts.any (fun q => bit m x.2 q && Nat.ble e.1 q) || acts.any (fun q => bit m q x.2 && Nat.blt q e.1) ||
        match oper1 P cl ops x.1 f (putAll base e.2 (sel m acts mk x.2 e.1)) with
        | some (v', _) => sameV 8 v' v
        | none => false
    | none => false

def drawn (P : Program) (cl : Cl) (ops : Array Oper) (f : Fr) (s : St) : Option (Fr × St) :=
  bif okDraw P ops then
    let m := masks ops.toList 0 .nil
    let acts := deedsOf P ops
    match runD P cl ops m acts s.next s.lo s.ro ops.toList 0 f ⟨Nat.add s.next ops.toList.length, s.lo, s.ro, s.heap⟩ [] with
    | some (tr, f', s', mk) => bif readsOk P cl ops m acts s.next mk tr s' then some (f', putAll s.next s' (mk.filter (unmet m acts ops.toList.length))) else none
    | none => none
  else none

section
variable {P : Program} {gl n : Nat} {D : List Deferred} {R : Option Nat} {cl : Cl} {ops : Array Oper}

theorem make_act {P : Program} {op : Op} (h : isMake op = true) : isAct P op = true := by
  cases op <;> first | rfl | cases h

theorem putAll_same (base : Nat) : ∀ (l : List Mk) (s : St), (putAll base s l).next = s.next ∧ (putAll base s l).lo = s.lo ∧ (putAll base s l).ro = s.ro
  | [], _ => ⟨rfl, rfl, rfl⟩
  | x :: l, s => putAll_same base l (s.put (Nat.add base x.1) x.2)

theorem putAll_obj (base : Nat) : ∀ (l : List Mk) (s : St) (b : Nat), (∀ x ∈ l, base + x.1 < most) →
    (∃ x ∈ l, b = base + x.1 ∧ (putAll base s l).obj b = some x.2) ∨ ((∀ x ∈ l, b ≠ base + x.1) ∧ (putAll base s l).obj b = s.obj b) := by
  intro l
  induction l with
  | nil => intro s b _; exact .inr ⟨fun x h => (List.not_mem_nil h).elim, rfl⟩
  | cons x l ih =>
    intro s b h
    have hx := h x (by simp)
    have e := obj_put s (base + x.1) x.2 b hx
    rcases ih (s.put (base + x.1) x.2) b (fun y hy => h y (by simp [hy])) with ⟨y, hy, h1, h2⟩ | ⟨h1, h2⟩
    · exact .inl ⟨y, by simp [hy], h1, h2⟩
    · by_cases hb : b = base + x.1
      · refine .inl ⟨x, by simp, hb, h2.trans ?_⟩
        rw [e, if_pos hb]
      · refine .inr ⟨fun y hy => ?_, h2.trans ?_⟩
        · rcases List.mem_cons.1 hy with rfl | hy
          · exact hb
          · exact h1 y hy
        · rw [e, if_neg hb]

/-- one order's states, one by one -/
structure Told (P : Program) (cl : Cl) (ops : Array Oper) (m : Tr Nat) (acts : List Nat) (base lo ro : Nat) (F : Nat → Fr) (S : Nat → St) (V : Nat → Value) (M : Nat → List Mk) (tr : List (Fr × St × Value)) (k len : Nat) : Prop where
  step : ∀ (j : Nat) (o : Oper), j < len → ops[k + j]? = some o → stepD P cl ops m acts base lo ro o (k + j) (F (k + j)) (S (k + j)) (M (k + j)) = some (V (k + j), S (k + j + 1), M (k + j + 1)) ∧ F (k + j + 1) = (F (k + j)).put o.dst (V (k + j))
  tr : ∀ j, j < len → tr[j]? = some (F (k + j), S (k + j), V (k + j))

theorem runD_told {m : Tr Nat} {acts : List Nat} {base lo ro : Nat} : ∀ (l : List Oper) (k : Nat) (f : Fr) (s : St) (mk : List Mk) (tr : List (Fr × St × Value)) (f' : Fr) (s' : St) (mk' : List Mk), ops.toList.drop k = l → runD P cl ops m acts base lo ro l k f s mk = some (tr, f', s', mk') →
    ∃ F S V M, F k = f ∧ S k = s ∧ M k = mk ∧ F (k + l.length) = f' ∧ S (k + l.length) = s' ∧ M (k + l.length) = mk' ∧ Told P cl ops m acts base lo ro F S V M tr k l.length := by
  intro l
  induction l with
  | nil =>
    intro k f s mk tr f' s' mk' _ h
    cases h
    exact ⟨fun _ => f, fun _ => s, fun _ => undef, fun _ => mk, rfl, rfl, rfl, rfl, rfl, rfl, ⟨fun j o h => by simp at h, fun j h => by simp at h⟩⟩
  | cons o l ih =>
    intro k f s mk tr f' s' mk' hl h
    have hi : ops[k]? = some o := by
      have : (ops.toList.drop k)[0]? = some o := by rw [hl]; rfl
      simpa using this
    unfold runD at h
    cases h1 : stepD P cl ops m acts base lo ro o k f s mk with
    | none => rw [h1] at h; cases h
    | some p =>
      obtain ⟨v, s1, mk1⟩ := p
      rw [h1] at h
      dsimp only at h
      cases h2 : runD P cl ops m acts base lo ro l (Nat.succ k) (f.put o.dst v) s1 mk1 with
      | none => rw [h2] at h; cases h
      | some q =>
        obtain ⟨tr1, f1, s2, mk2⟩ := q
        rw [h2] at h
        cases h
        obtain ⟨F, S, V, M, e1, e2, e3, e4, e5, e6, hT⟩ := ih (k + 1) _ _ _ _ _ _ _ (by rw [← List.drop_drop, hl]; rfl) h2
        refine ⟨fun j => if j = k then f else F j, fun j => if j = k then s else S j, fun j => if j = k then v else V j, fun j => if j = k then mk else M j, by simp, by simp, by simp, ?_, ?_, ?_, ⟨fun j o' hj ho' => ?_, fun j hj => ?_⟩⟩
        · rw [List.length_cons]; dsimp only; rw [if_neg (by omega), ← e4]; congr 1; omega
        · rw [List.length_cons]; dsimp only; rw [if_neg (by omega), ← e5]; congr 1; omega
        · rw [List.length_cons]; dsimp only; rw [if_neg (by omega), ← e6]; congr 1; omega
        · rw [List.length_cons] at hj
          cases j with
          | zero =>
            rw [Nat.add_zero] at ho' ⊢
            rw [hi] at ho'; cases ho'
            rw [if_pos rfl, if_pos rfl, if_pos rfl, if_pos rfl, if_neg (by omega), if_neg (by omega), if_neg (by omega), e1, e2, e3]
            exact ⟨h1, rfl⟩
          | succ j =>
            have := hT.step j o' (by omega) (by rw [← ho']; congr 1; omega)
            rw [if_neg (by omega), if_neg (by omega), if_neg (by omega), if_neg (by omega), if_neg (by omega), if_neg (by omega), if_neg (by omega)]
            rw [show k + (j + 1) = k + 1 + j by omega]
            exact this
        · rw [List.length_cons] at hj
          cases j with
          | zero => simp
          | succ j =>
            have := hT.tr j (by omega)
            rw [List.getElem?_cons_succ, this]
            rw [if_neg (by omega), if_neg (by omega), if_neg (by omega), show k + (j + 1) = k + 1 + j by omega]

theorem bef_lt (hD : Drawn P ops) : ∀ {i j : Nat}, Bef ops i j → j < i := by
  intro i j h
  induction h with
  | edge h he hb => exact hD.back _ _ h _ he hb
  | trans _ _ ih ik => omega

/-- from a place on, the next act, or the end -/
theorem next_act (P : Program) (ops : Array Oper) : ∀ (d i : Nat), ops.size - i = d → i ≤ ops.size → ∃ p, i ≤ p ∧ p ≤ ops.size ∧ (p = ops.size ∨ ∃ o, ops[p]? = some o ∧ isDeed P o.op = true) ∧ ∀ q o, i ≤ q → q < p → ops[q]? = some o → isDeed P o.op = false := by
  intro d
  induction d with
  | zero => intro i h hi; exact ⟨i, Nat.le_refl _, hi, .inl (by omega), fun q o h1 h2 => by omega⟩
  | succ d ih =>
    intro i h hi
    have hlt : i < ops.size := by omega
    cases ha : isDeed P ops[i].op with
    | true => exact ⟨i, Nat.le_refl _, hi, .inr ⟨ops[i], Array.getElem?_eq_getElem hlt, ha⟩, fun q o h1 h2 => by omega⟩
    | false =>
      obtain ⟨p, h1, h2, h3, h4⟩ := ih (i + 1) (by omega) (by omega)
      refine ⟨p, by omega, h2, h3, fun q o hq hq2 ho => ?_⟩
      by_cases e : q = i
      · subst e; rw [Array.getElem?_eq_getElem hlt] at ho; cases ho; exact ha
      · exact h4 q o (by omega) hq2 ho

/-- what the operations of a region come to, one by one -/
structure Steps (P : Program) (cl : Cl) (ops : Array Oper) (m : Tr Nat) (acts : List Nat) (base lo ro : Nat) (mk : List Mk) (F : Nat → Fr) (S : Nat → St) (V : Nat → Value) : Prop where
  put : ∀ (j : Nat) (o : Oper), ops[j]? = some o → F (j + 1) = (F j).put o.dst (V j)
  deed : ∀ (j : Nat) (o : Oper), ops[j]? = some o → isDeed P o.op = true → oper1 P cl ops o (F j) (putAll base (S j) (sel m acts mk j j)) = some (V j, S (j + 1))
  read : ∀ (j : Nat) (o : Oper), ops[j]? = some o → isAct P o.op = false → ∃ s', oper1 P cl ops o (F j) (putAll base (S j) (sel m acts mk j j)) = some (V j, s')
  make : ∀ (j : Nat) (o : Oper), ops[j]? = some o → isMake o.op = true → ∃ r, make1 P cl ops o (F j) lo ro (base + j) = some (V j, r) ∧ ∀ ob, r = some ob → (j, ob) ∈ mk
  made : ∀ x ∈ mk, ∃ o, ops[x.1]? = some o ∧ isMake o.op = true ∧ make1 P cl ops o (F x.1) lo ro (base + x.1) = some (V x.1, some x.2)
  still : ∀ (j : Nat) (o : Oper), ops[j]? = some o → isDeed P o.op = false → S (j + 1) = S j

/-- all that lies there: what the deeds left, and what was made since -/
def whole (m : Tr Nat) (acts : List Nat) (base : Nat) (mk : List Mk) (S : Nat → St) (p : Nat) (listed : Array Bool) : St :=
  putAll base (S p) (mk.filter fun x => unmet m acts p x && listed.getD x.1 false)

/-- what holds when some operations are done -/
structure Inv (P : Program) (ops : Array Oper) (gl n : Nat) (D : List Deferred) (m : Tr Nat) (acts : List Nat) (base : Nat) (mk : List Mk) (f : Fr) (S : Nat → St) (V : Nat → Value) (ρ0 : Rho) (s0 : St) (w0 : World) (listed : Array Bool) (a : Act) (w : World) : Prop where
  size : listed.size = ops.size
  down : ∀ (i : Nat) (o : Oper), listed.getD i false = true → ops[i]? = some o → ∀ e ∈ o.after, Region.binds .any e = true → listed.getD e.on false = true
  at_ : ∃ p, p ≤ ops.size ∧ (p = ops.size ∨ ∃ o, ops[p]? = some o ∧ isDeed P o.op = true) ∧ (∀ (i : Nat) (o : Oper), ops[i]? = some o → isDeed P o.op = true → (listed.getD i false = true ↔ i < p)) ∧
    ∃ ρ, ST P ρ0 s0 w0 ρ (whole m acts base mk S p listed) w ∧ base + ops.size ≤ (S p).next ∧ (∀ x ∈ mk, unmet m acts p x = true → (S p).obj (base + x.1) = none) ∧ (∀ x ∈ mk, listed.getD x.1 false = false → ρ.at_ (base + x.1) = none) ∧
      (∀ (i : Nat) (o : Oper) (t : Nat), listed.getD i false = true → ops[i]? = some o → o.dst = some t → VR ρ (V i) (a.tmps.getD t undef)) ∧
      (∀ t, (∀ (i : Nat) (o : Oper), listed.getD i false = true → ops[i]? = some o → o.dst ≠ some t) → VR ρ (f.get t) (a.tmps.getD t undef))
  tsize : a.tmps.size = n
  defers : a.defers = D

theorem Inv.listed {m : Tr Nat} {acts : List Nat} {base : Nat} {mk : List Mk} {f : Fr} {S : Nat → St} {V : Nat → Value} {ρ0 : Rho} {s0 : St} {w0 w : World} {listed : Array Bool} {a : Act} (h : Inv P ops gl n D m acts base mk f S V ρ0 s0 w0 listed a w) {i j : Nat} (hb : Bef ops i j) : listed.getD i false = true → listed.getD j false = true := by
  induction hb with
  | edge ho he hb => exact fun hl => h.down _ _ hl ho _ he hb
  | trans _ _ ih ik => exact fun hl => ik (ih hl)
theorem Inv.ready {m : Tr Nat} {acts : List Nat} {base : Nat} {mk : List Mk} {f : Fr} {S : Nat → St} {V : Nat → Value} {ρ0 : Rho} {s0 : St} {w0 w : World} {listed : Array Bool} {a : Act} (h : Inv P ops gl n D m acts base mk f S V ρ0 s0 w0 listed a w) {i j : Nat} (hb : Bef ops i j)
    (hd : ∀ o, ops[i]? = some o → ∀ e ∈ o.after, Region.binds .any e = true → listed.getD e.on false = true) : listed.getD j false = true := by
  induction hb with
  | edge ho he hb => exact hd _ ho _ he hb
  | trans _ hk ih _ => exact h.listed hk (ih hd)
end
end
end Go.Proofs.YtdcjkglhhmnjiaaGreatDoor.Sx
