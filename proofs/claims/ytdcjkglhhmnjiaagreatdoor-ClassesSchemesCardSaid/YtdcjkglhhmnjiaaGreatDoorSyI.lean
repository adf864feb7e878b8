/- One operation on the small memory, and what it says of the world. -/
import Derived.Test.YtdcjkglhhmnjiaaGreatDoorSyF
import Derived.Test.YtdcjkglhhmnjiaaGreatDoorSyY
import Derived.KernelRfl
namespace Go.Proofs.YtdcjkglhhmnjiaaGreatDoor.Sx
noncomputable section

/-- what an operation hands on -/
inductive Nx where
  | val (v : Value)
  | skip
  | enter (g : FuncId) (args : Array Value)

def valOf : Option (Value × St) → Option (Nx × St)
  | some (v, s) => some (.val v, s)
  | none => none
def skipOf {α : Type} : Option (α × St) → Option (Nx × St)
  | some (_, s) => some (.skip, s)
  | none => none

/-- the quick way where there is one, else the model's own -/
def orVal (q : Option Value) (s : St) (o : Option (Value × St)) : Option (Nx × St) := match q with
  | some v => some (.val v, s)
  | none => valOf o
def orSkip {α : Type} (q : Option St) (o : Option (α × St)) : Option (Nx × St) := match q with
  | some s => some (.skip, s)
  | none => skipOf o
theorem orVal_eq {q : Option Value} {s : St} {o : Option (Value × St)} (h : ∀ v, q = some v → o = some (v, s)) : orVal q s o = valOf o := by
  cases q with
  | none => rfl
  | some v => rw [h v rfl]; rfl
theorem orSkip_eq {α : Type} {q : Option St} {o : Option (α × St)} (h : ∀ s, q = some s → ∃ a, o = some (a, s)) : orSkip q o = skipOf o := by
  cases q with
  | none => rfl
  | some s => obtain ⟨a, e⟩ := h s rfl; rw [e]; rfl
def sameK : IntKind → IntKind → Bool
  | .i64, .i64 => true
  | .u8, .u8 => true
  | _, _ => false
theorem sameK_eq {j k : IntKind} (h : sameK j k = true) : j = k := by cases j <;> cases k <;> first | rfl | cases h
def intX (op : BinOp) (j k : IntKind) (a b : Int) : Option Value := bif sameK j k then intQ op j a b else none
theorem intX_ex {P : Program} {op : BinOp} {t : TypeId} {j k : IntKind} {a b : Int} {v : Value} (s : St) (h : intX op j k a b = some v) : ex P (binOp op t (.int j a) (.int k b)) s = some (v, s) := by
  unfold intX at h
  cases hs : sameK j k with
  | false => rw [hs] at h; cases h
  | true =>
    rw [hs] at h
    obtain rfl := sameK_eq hs
    exact intQ_ex h s
/-- the parts of what is built -/
def pairsL (ev : Operand → Value) (ps : Array (Nat × Operand)) : List (Nat × Value) := ps.toList.map fun (i, x) => (i, ev x)
theorem pairsL_eq (ev : Operand → Value) (ps : Array (Nat × Operand)) : (ps.map fun (i, x) => (i, ev x)).toList = pairsL ev ps := by simp [pairsL]

def isConst : Operand → Bool
  | .const _ => true
  | _ => false

/-- a number of which only what is left is told -/
def symA (op : BinOp) (k : FloatKind) (m q : Nat) (m' : Nat) : Option Value :=
  bif Nat.beq m m' && Nat.blt 0 m && Nat.blt m most then
    match op, k with
    | .rem, .f64 => some (.complex .f32 m (Nat.mul 2 q))
    | .add, .f32 => bif Nat.beq (Nat.mod q 2) 0 then some (.complex .f32 m (Nat.succ q)) else none
    | .rem, .f32 => bif Nat.beq (Nat.mod q 2) 1 then some (.int .i64 (Int.ofNat (Nat.div q 2))) else none
    | _, _ => none
  else none

def binA (P : Program) (s : St) (op : BinOp) (t : TypeId) (x y : Operand) (u v : Value) : Option (Nx × St) :=
  match u, v with
  | .int k a, .int k' b => match op with
    | .shl => none
    | .shr => none
    | op => orVal (intX op k k' a b) s (ex P (binOp op t (.int k a) (.int k' b)) s)
  | .string a, .string b => orVal (strQ op a b) s (ex P (Op.stringOp op a b) s)
  | .complex k m q, .int .i64 (.ofNat m') => (symA op k m q m').map fun v => (.val v, s)
  | .nilIface, .nilIface => match op with
    | .eql => bif isConst x || isConst y then (equalA P s 3 t u v).map fun b => (.val (.bool b), s) else none
    | .neq => bif isConst x || isConst y then (equalA P s 3 t u v).map fun b => (.val (.bool (!b)), s) else none
    | _ => none
  | u, v => match op with
    | .eql => (equalA P s 3 t u v).map fun b => (.val (.bool b), s)
    | .neq => (equalA P s 3 t u v).map fun b => (.val (.bool (!b)), s)
    | _ => none

def lenA (P : Program) (s : St) (ts : Array TypeId) (args : Array Value) : Option Value :=
  match ts.toList, args.toList with
  | [t], [x] => match P.underlying t with
    | some (.slice _) => match x with
      | .slice _ n _ => some (goInt n)
      | _ => none
    | some .string => match x with
      | .string b => some (goInt b.size)
      | _ => none
    | some (.map _ _) => (entriesA s x).map fun es => goInt es.size
    | _ => none
  | _, _ => none

/-- a pointer that is handed on as it is -/
def escA (fn : Func) (args : Array Value) (s : St) : Option (Nx × St) :=
  bif fn.name == "internal/abi.NoEscape" && fn.origin == "" then match args.toList with
    | [x] => some (.val x, s)
    | _ => none
  else none
def callA (P : Program) (ev : Operand → Value) (c : Call) (s : St) : Option (Nx × St) :=
  match c.callee with
  | .value f => match ev f with
    | .func (.func g) xs ys => match P.funcs[g]? with
      | some fn => bif fn.body.isSome then some (.enter g (joinA (joinA xs (mapA ev c.args)) ys), s) else escA fn (joinA (joinA xs (mapA ev c.args)) ys) s
      | none => none
    | _ => none
  | .builtin .append => valOf (appendA P s c.argTypes (c.args.map ev))
  | .builtin .len => (lenA P s c.argTypes (c.args.map ev)).map fun v => (.val v, s)
  | .builtin .min => (minA (c.args.map ev)).map fun v => (.val v, s)
  | .builtin .copy => valOf (copyA P s c.argTypes (c.args.map ev))
  | .builtin .delete => (deleteA P s c.argTypes (c.args.map ev)).map fun s => (.val (.tuple #[]), s)
  | .builtin .unsafeSliceData => (sliceDataA (c.args.map ev)).map fun v => (.val v, s)
  | .builtin .unsafeString => valOf (unsafeStrA P s c.argTypes (c.args.map ev))
  | .invoke x name => match methodA P (ev x) name with
    | some (g, v) => match P.funcs[g]? with
      | some fn => bif fn.body.isSome then some (.enter g (#[v] ++ c.args.map ev), s) else none
      | none => none
    | none => none
  | _ => none

def exOp (P : Program) (ev : Operand → Value) (o : Oper) (s : St) : Option (Nx × St) :=
  match o.op with
  | .move x => some (.val (ev x), s)
  | .assign x => some (.val (ev x), s)
  | .pick c a b => match ev c with
    | .bool t => some (.val (bif t then ev a else ev b), s)
    | _ => none
  | .alloc e => valOf (ex P (Instr.alloc e true (.tuple #[])) s)
  | .box e x => valOf (ex P (Instr.box e (ev x)) s)
  | .build t ps => orVal (buildA P t (pairsL ev ps)) s (ex P (Instr.build t (ps.map fun (i, x) => (i, ev x))) s)
  | .buildSlice t n ps => bif Nat.blt n most then valOf (ex P (Instr.buildSlice t n (ps.map fun (i, x) => (i, ev x))) s) else none
  | .load t a => orVal (loadQ P s t (ev a)) s (ex P (Instr.loadAt t (ev a)) s)
  | .store t a x => orSkip (storeQ P s t (ev a) (ev x)) (ex P (Instr.storeAt t (ev a) (ev x)) s)
  | .nilCheck x => match ev x with
    | .pointer (some a) => some (.val (.pointer (some a)), s)
    | .func (.func f) xs ys => some (.val (.func (.func f) xs ys), s)
    | .func (.yield l) xs ys => some (.val (.func (.yield l) xs ys), s)
    | .iface t v => some (.val (.iface t v), s)
    | _ => none
  | .binOp op t x y _ => binA P s op t x y (ev x) (ev y)
  | .unOp op _ x => match ev x with
    | .complex _ _ _ => none
    | v => valOf (ex P (Op.unary op v) s)
  | .makeInterface t x => valOf (ex P (Instr.makeInterface t (ev x)) s)
  | .makeFunc fn first captured => match fn with
    | .func g => some (.val (.func (.func g) (first.map ev) (captured.map ev)), s)
    | _ => none
  | .makeMap t r => valOf (ex P (Instr.makeMap t (r.map ev)) s)
  | .makeSlice t l c => match ev c with
    | .int k (.ofNat n) => bif Nat.blt n most then valOf (ex P (Instr.makeSlice t (ev l) (.int k (.ofNat n))) s) else none
    | _ => none
  | .slice t x lo hi mx => (sliceA P t (ev x) (lo.map ev) (hi.map ev) (mx.map ev)).map fun v => (.val v, s)
  | .fieldAddr t x n => orVal (fieldQ P t (ev x) n) s (ex P (Instr.fieldAt t (ev x) n) s)
  | .field t x n => orVal (partQ P t (ev x) n) s (ex P (Instr.field t (ev x) n) s)
  | .indexAddr t x ix => match ev x with
    | .slice (some a) n c => bif Nat.ble c unk then valOf (ex P (Instr.indexAt t (.slice (some a) n c) (ev ix)) s) else none
    | _ => none
  | .extract x n => valOf (ex P (Instr.extract (ev x) n) s)
  | .lookup t x k ok => (lookupA P s t (ev x) (ev k) ok).map fun v => (.val v, s)
  | .mapUpdate t m k x => (updateA P s t (ev m) (ev k) (ev x)).map fun s => (.skip, s)
  | .insert t m k x => (updateA P s t (ev m) (ev k) (ev x)).map fun s => (.skip, s)
  | .convert a b x => valOf (convA P s a b (ev x))
  | .index t x ix => (indexA P t (ev x) (ev ix)).map fun v => (.val v, s)
  | .typeAssert x _ t ok => (assertA P (ev x) t ok).map fun v => (.val v, s)
  | .call c => callA P ev c s
  | _ => none

/-- what is handed on, in the world -/
inductive NR (ρ : Rho) : Nx → Next → Prop where
  | val {v v' : Value} (h : VR ρ v v') : NR ρ (.val v) (.value v')
  | skip : NR ρ .skip .skip
  | enter (g : FuncId) {xs ys : Array Value} (h : VsR ρ xs ys) : NR ρ (.enter g xs) (.enter g ys)

/-- the types that an operation names stand in the table -/
def okTy (P : Program) : Op → Bool
  | .alloc t => Nat.blt t P.types.size
  | .build t _ => Nat.blt t P.types.size
  | .buildSlice t _ _ => Nat.blt t P.types.size
  | .makeSlice t _ _ => Nat.blt t P.types.size
  | .lookup t _ _ _ => Nat.blt t P.types.size
  | .fieldAddr t _ _ => fieldOk P t
  | .typeAssert _ _ t _ => Nat.blt t P.types.size
  | .call c => c.argTypes.toList.all fun t => Nat.blt t P.types.size
  | _ => true

structure Good (P : Program) : Prop where
  zero : ZeroOk P
  elem : ElemOk P
  names : ∀ (g : Nat) (fn : Func), P.funcs[g]? = some fn → fn.name ≠ "runtime.NumGoroutine"

/-- two numbers, the quick way -/
def numQ (op : BinOp) (u v : Value) : Option Value := match u with
  | .int k a => (match v with
    | .int k' b => intX op k k' a b
    | _ => none)
  | _ => none

/-- what an operation does, told of its kind first: each way by itself, so that the kernel looks at no other one -/
abbrev KO := Program → (Operand → Value) → St → Option (Nx × St)
def slowO (op : Op) : KO := fun P ev s => exOp P ev ⟨none, op, 0, "", #[], none⟩ s
def kMove (x : Operand) : KO := fun _ ev s => some (.val (ev x), s)
def pickV (c a b : Value) : Option Value := match c with
  | .bool t => some (bif t then a else b)
  | _ => none
def kPick (c a b : Operand) : KO := fun _ ev s => orVal (pickV (ev c) (ev a) (ev b)) s none
def kAlloc (e : TypeId) : KO := fun P _ s => valOf (ex P (Instr.alloc e true (.tuple #[])) s)
def kLoad (t : TypeId) (a : Operand) : KO := fun P ev s => orVal (loadQ P s t (ev a)) s (ex P (Instr.loadAt t (ev a)) s)
def kStore (t : TypeId) (a x : Operand) : KO := fun P ev s => orSkip (storeQ P s t (ev a) (ev x)) (ex P (Instr.storeAt t (ev a) (ev x)) s)
def nilV (v : Value) : Option Value := match v with
  | .pointer (some a) => some (.pointer (some a))
  | .func (.func f) xs ys => some (.func (.func f) xs ys)
  | .func (.yield l) xs ys => some (.func (.yield l) xs ys)
  | .iface t v => some (.iface t v)
  | _ => none
def kNil (x : Operand) : KO := fun _ ev s => orVal (nilV (ev x)) s none
def kBin (op : BinOp) (t : TypeId) (x y : Operand) (_ : TypeId) : KO := fun P ev s => match numQ op (ev x) (ev y) with
  | some v => some (.val v, s)
  | none => binA P s op t x y (ev x) (ev y)
def notV (op : UnOp) (v : Value) : Option Value := match op, v with
  | .not, .bool b => some (.bool (!b))
  | _, _ => none
def kUn (op : UnOp) (t : TypeId) (x : Operand) : KO := fun P ev s => match notV op (ev x) with
  | some v => some (.val v, s)
  | none => slowO (.unOp op t x) P ev s
def kFieldAt (t : TypeId) (x : Operand) (n : Nat) : KO := fun P ev s => orVal (fieldQ P t (ev x) n) s (ex P (Instr.fieldAt t (ev x) n) s)
def kField (t : TypeId) (x : Operand) (n : Nat) : KO := fun P ev s => orVal (partQ P t (ev x) n) s (ex P (Instr.field t (ev x) n) s)
def kIndexAt (t : TypeId) (x i : Operand) : KO := fun P ev s => match ev x with
  | .slice (some a) n c => bif Nat.ble c unk then orVal (placeQ P t a n (ev i)) s (ex P (Instr.indexAt t (.slice (some a) n c) (ev i)) s) else none
  | _ => none
def kIndex (t : TypeId) (x i : Operand) : KO := fun P ev s => orVal (indexA P t (ev x) (ev i)) s none
def partV (v : Value) (n : Nat) : Option Value := match v with
  | .tuple vs => vs.toList[n]?
  | _ => none
def kExtract (x : Operand) (n : Nat) : KO := fun _ ev s => orVal (partV (ev x) n) s none
def kCall (c : Call) : KO := fun P ev s => callA P ev c s
def exKC (op : Op) : KO := slowO op
def exK (op : Op) : KO := Op.rec (motive := fun _ => KO) kMove kMove kPick kAlloc (fun a b => slowO (.box a b)) (fun a b => slowO (.build a b)) (fun a b c => slowO (.buildSlice a b c)) (fun a b c d => slowO (.insert a b c d)) kLoad kStore (fun a => slowO (.ready a)) (fun a => slowO (.waits a)) kNil kBin kUn (fun a b c => slowO (.convert a b c)) (fun a b => slowO (.sliceToArrayPointer a b)) (fun a b => slowO (.makeInterface a b)) (fun a b c => slowO (.makeFunc a b c)) (fun a b => slowO (.makeMap a b)) (fun a b => slowO (.makeChan a b)) (fun a b c => slowO (.makeSlice a b c)) (fun a b c d e => slowO (.slice a b c d e)) kFieldAt kField kIndexAt kIndex (fun a b c d => slowO (.lookup a b c d)) (fun a b c d => slowO (.mapUpdate a b c d)) (fun a b c => slowO (.mapEntry a b c)) (fun a b c d => slowO (.entryStore a b c d)) (fun a b => slowO (.range a b)) (fun a b => slowO (.next a b)) (fun a => slowO (.entry a)) (fun a b c d => slowO (.typeAssert a b c d)) kExtract kCall (fun a => slowO (.go a)) (fun a => slowO (.defer a)) (fun a => slowO (.panic a)) (fun a b => slowO (.send a b)) (fun a b c => slowO (.recv a b c)) (fun a b => slowO (.select a b)) op

theorem orVal_none {q : Option Value} {s : St} {α : Option (Value × St)} (h : α = none) : orVal q s α = q.map fun v => (Nx.val v, s) := by
  subst h; cases q <;> rfl
theorem exK_eq (P : Program) (ev : Operand → Value) (o : Oper) (s : St) : exK o.op P ev s = exOp P ev o s := by
  obtain ⟨dst, op, type, pos, after, guard⟩ := o
  cases op with
  | pick c a b =>
    show orVal (pickV (ev c) (ev a) (ev b)) s none = (match ev c with
      | .bool t => some (.val (bif t then ev a else ev b), s)
      | _ => none)
    cases ev c <;> rfl
  | nilCheck x =>
    show orVal (nilV (ev x)) s none = (match ev x with
      | .pointer (some a) => some (.val (.pointer (some a)), s)
      | .func (.func f) xs ys => some (.val (.func (.func f) xs ys), s)
      | .func (.yield l) xs ys => some (.val (.func (.yield l) xs ys), s)
      | .iface t v => some (.val (.iface t v), s)
      | _ => none)
    cases ev x with
    | pointer a => cases a <;> rfl
    | func f xs ys => cases f <;> rfl
    | _ => rfl
  | binOp op t x y yt =>
    show (match numQ op (ev x) (ev y) with
      | some v => some (.val v, s)
      | none => binA P s op t x y (ev x) (ev y)) = binA P s op t x y (ev x) (ev y)
    generalize ev x = u
    generalize ev y = v
    cases hq : numQ op u v with
    | none => rfl
    | some r =>
      unfold numQ at hq
      split at hq
      · split at hq
        · rename_i k a _ k' b
          have : intX op k k' a b = some r := hq
          cases op <;> first | (show some (Nx.val r, s) = orVal (intX _ k k' a b) s (ex P (binOp _ t (.int k a) (.int k' b)) s); rw [this]; rfl) | (exfalso; unfold intX at this; cases hs : sameK k k' <;> rw [hs] at this <;> cases a <;> cases b <;> cases this)
        · cases hq
      · cases hq
  | unOp op t x =>
    show (match notV op (ev x) with
      | some v => some (.val v, s)
      | none => slowO (.unOp op t x) P ev s) = slowO (.unOp op t x) P ev s
    cases hq : notV op (ev x) with
    | none => rfl
    | some r =>
      unfold notV at hq
      split at hq
      · rename_i b hb
        cases hq
        show _ = (match ev x with
          | .complex _ _ _ => none
          | v => valOf (ex P (Op.unary .not v) s))
        rw [hb]; rfl
      · cases hq
  | indexAddr t x ix =>
    show (match ev x with
      | .slice (some a) n c => bif Nat.ble c unk then orVal (placeQ P t a n (ev ix)) s (ex P (Instr.indexAt t (.slice (some a) n c) (ev ix)) s) else none
      | _ => none) = (match ev x with
      | .slice (some a) n c => bif Nat.ble c unk then valOf (ex P (Instr.indexAt t (.slice (some a) n c) (ev ix)) s) else none
      | _ => none)
    cases ev x with
    | slice a n c =>
      cases a with
      | none => rfl
      | some a =>
        dsimp only
        rw [orVal_eq fun v e => placeQ_ex e]
    | _ => rfl
  | index t x ix =>
    show orVal (indexA P t (ev x) (ev ix)) s none = (indexA P t (ev x) (ev ix)).map fun v => (Nx.val v, s)
    exact orVal_none rfl
  | extract x n =>
    show orVal (partV (ev x) n) s none = valOf (ex P (Instr.extract (ev x) n) s)
    cases ev x with
    | tuple vs =>
      show orVal (vs.toList[n]?) s none = valOf (ex P (match vs[n]? with
        | some v => pure v
        | none => stuck "Extract: no such component") s)
      rw [Array.getElem?_toList]
      cases vs[n]? <;> rfl
    | _ => rfl
  | _ => rfl

section
variable {P : Program} {ρ : Rho} {s : St} {w : World}

/-- what an operation comes to in the world -/
def Ran (P : Program) (ρ : Rho) (s : St) (w : World) (x : Sem Next) (r : Nx) (s' : St) : Prop :=
  ∃ ρ' r' w', x.run P w = .ok r' w' ∧ NR ρ' r r' ∧ ST P ρ s w ρ' s' w' ∧ s'.next ≤ most

theorem ran_val (hz : RZ P ρ s w) (hm : s.next ≤ most) {x y : Sem Value} {r : Nx} {s' : St} (hR : SR P VR ρ x y) (h : valOf (ex P x s) = some (r, s')) : Ran P ρ s w (do pure (.value (← y))) r s' := by
  cases he : ex P x s with
  | none => rw [he] at h; cases h
  | some p =>
    obtain ⟨v, s1⟩ := p
    rw [he] at h; cases h
    obtain ⟨ρ', v', w', h1, h2, h3, h4⟩ := hR.sound s v s' he w hz hm
    exact ⟨ρ', .value v', w', by simp [h1], .val h2, h3, h4⟩
theorem ran_skip (hz : RZ P ρ s w) (hm : s.next ≤ most) {x y : Sem Unit} {r : Nx} {s' : St} (hR : SR P (fun _ _ _ => True) ρ x y) (h : skipOf (ex P x s) = some (r, s')) : Ran P ρ s w (do y; pure .skip) r s' := by
  cases he : ex P x s with
  | none => rw [he] at h; cases h
  | some p =>
    obtain ⟨v, s1⟩ := p
    rw [he] at h; cases h
    obtain ⟨ρ', v', w', h1, h2, h3, h4⟩ := hR.sound s v s' he w hz hm
    exact ⟨ρ', .skip, w', by simp [h1], .skip, h3, h4⟩
theorem ran_pure (hz : RZ P ρ s w) (hm : s.next ≤ most) {v v' : Value} (hv : VR ρ v v') {x : Sem Next} (hx : x.run P w = .ok (.value v') w) : Ran P ρ s w x (.val v) s :=
  ⟨ρ, .value v', w, hx, .val hv, .refl hz, hm⟩

theorem PsR.map (ev ev' : Operand → Value) : ∀ (l : List (Nat × Operand)), (∀ p ∈ l, VR ρ (ev p.2) (ev' p.2)) → PsR ρ (l.map fun p => (p.1, ev p.2)) (l.map fun p => (p.1, ev' p.2))
  | [], _ => trivial
  | p :: l, h => ⟨rfl, h p (by simp), PsR.map ev ev' l fun q hq => h q (by simp [hq])⟩
theorem VsR.map (ev ev' : Operand → Value) (xs : Array Operand) (h : ∀ x ∈ xs, VR ρ (ev x) (ev' x)) : VsR ρ (xs.map ev) (xs.map ev') := by
  refine ⟨by simp, fun i x y hx hy => ?_⟩
  simp at hx hy
  obtain ⟨a, ha, rfl⟩ := hx
  obtain ⟨b, hb, rfl⟩ := hy
  rw [ha] at hb; cases hb
  exact h a (Array.mem_of_getElem? ha)
theorem BR.map (ev ev' : Operand → Value) (x : Option Operand) (h : ∀ y, x = some y → VR ρ (ev y) (ev' y)) : BR ρ (x.map ev) (x.map ev') := by
  cases x with
  | none => trivial
  | some y => exact h y rfl

theorem SR_binInt (op : BinOp) (t : TypeId) (k k' : IntKind) (a b : Int) (h1 : op ≠ .shl) (h2 : op ≠ .shr) : SR P VR ρ (binOp op t (.int k a) (.int k' b)) (binOp op t (.int k a) (.int k' b)) := by
  by_cases e : k = k'
  · subst e
    cases op <;> first | exact absurd rfl h1 | exact absurd rfl h2 | (simp only [binOp, ne_eq, not_true_eq_false, if_false]; first | exact SR_intArith _ _ _ _ | exact SR_intDiv _ _ _ _ | exact SR_intBits _ _ _ _ | exact SR_intCmp _ _ _)
  · cases op <;> first | exact absurd rfl h1 | exact absurd rfl h2 | (simp only [binOp, ne_eq, e, not_false_eq_true, if_true]; exact .halt _ _)

/-- nothing stands in the way of comparing -/
theorem guard_pure (op : BinOp) (t : TypeId) (x y : Operand) {u v : Value} (hn : ¬ (u = .nilIface ∧ v = .nilIface ∧ isConst x = false ∧ isConst y = false)) (ha : ∀ xs, u ≠ .agg xs) :
    eqGuard op t x y u v = pure () := by
  cases u with
  | agg xs => exact absurd rfl (ha xs)
  | nilIface => cases v with
    | nilIface =>
      unfold eqGuard
      cases x <;> cases y <;> cases op <;> first | rfl | (exact absurd ⟨rfl, rfl, rfl, rfl⟩ hn)
    | _ => cases op <;> rfl
  | _ => cases v <;> cases op <;> rfl

theorem bin_eql (t : TypeId) {u u' v v' : Value} (hu : VR ρ u u') (hv : VR ρ v v') (h1 : ∀ k b, u ≠ .float k b) (h2 : ∀ k b c, u ≠ .complex k b c) (h3 : ∀ k a k' b, u = .int k a → v = .int k' b → False) (h4 : ∀ a b, u = .string a → v = .string b → False) (h5 : ∀ k b c, v ≠ .complex k b c) :
    binOp .eql t u' v' = (do pure (.bool (← Op.equal t u' v'))) := by
  cases hu with
  | float k b => exact absurd rfl (h1 k b)
  | sym h => exact absurd rfl (h2 _ _ _)
  | int k a => cases hv with
    | int => exact (h3 _ _ _ _ rfl rfl).elim
    | sym h => exact absurd rfl (h5 _ _ _)
    | _ => rfl
  | string s => cases hv with
    | string => exact (h4 _ _ rfl rfl).elim
    | _ => rfl
  | _ => rfl
theorem bin_neq (t : TypeId) {u u' v v' : Value} (hu : VR ρ u u') (hv : VR ρ v v') (h1 : ∀ k b, u ≠ .float k b) (h2 : ∀ k b c, u ≠ .complex k b c) (h3 : ∀ k a k' b, u = .int k a → v = .int k' b → False) (h4 : ∀ a b, u = .string a → v = .string b → False) (h5 : ∀ k b c, v ≠ .complex k b c) :
    binOp .neq t u' v' = (do pure (.bool (!(← Op.equal t u' v')))) := by
  cases hu with
  | float k b => exact absurd rfl (h1 k b)
  | sym h => exact absurd rfl (h2 _ _ _)
  | int k a => cases hv with
    | int => exact (h3 _ _ _ _ rfl rfl).elim
    | sym h => exact absurd rfl (h5 _ _ _)
    | _ => rfl
  | string s => cases hv with
    | string => exact (h4 _ _ rfl rfl).elim
    | _ => rfl
  | _ => rfl

theorem Sym_f32 (m q : Nat) (z : Int) : Sym .f32 m q z = (if q % 2 = 0 then -(m : Int) < z ∧ z < m ∧ z % (m : Int) = ((q / 2 : Nat) : Int) else 0 ≤ z ∧ z < 2 * (m : Int) ∧ z % (m : Int) = ((q / 2 : Nat) : Int)) := rfl

theorem sym_run {op : BinOp} (t : TypeId) {k : FloatKind} {m q m' : Nat} {z : Int} {v : Value} (hs : Sym k m q z) (h : symA op k m q m' = some v) : ∃ v', (binOp op t (.int .i64 z) (.int .i64 (m' : Int))).run P w = .ok v' w ∧ VR ρ v v' := by
  unfold symA at h
  cases hG : (Nat.beq m m' && Nat.blt 0 m && Nat.blt m most) with
  | false => rw [hG] at h; cases h
  | true =>
  rw [hG] at h
  simp only [cond_true] at h
  simp only [Bool.and_eq_true] at hG
  obtain ⟨⟨g1, g2⟩, g3⟩ := hG
  obtain rfl := Nat.eq_of_beq_eq_true g1
  have g2' := unblt g2
  have g3' : m < 1099511627776 := unblt g3
  have hm0 : ¬ (m : Int) = 0 := by omega
  have hmn : ¬ m = 0 := by omega
  split at h
  · cases h
    have hs' : z % (m : Int) = (q : Int) := hs
    refine ⟨.int .i64 (z.tmod m), by simp [binOp, Op.intDiv, hmn], .sym ?_⟩
    show Sym .f32 m (2 * q) (z.tmod m)
    rw [Sym_f32, if_pos (by omega), show 2 * q / 2 = q by omega]
    have hmp : (0 : Int) < m := by omega
    refine ⟨Int.neg_lt_of_neg_lt (by have := Int.lt_tmod_of_pos z hmp; omega), Int.tmod_lt_of_pos z hmp, ?_⟩
    rw [← hs', Int.tmod_eq_emod, Int.sub_emod]
    split <;> simp
  · cases hq : Nat.beq (Nat.mod q 2) 0 with
    | false => rw [hq] at h; cases h
    | true =>
      rw [hq] at h; cases h
      have hq' : q % 2 = 0 := Nat.eq_of_beq_eq_true hq
      rw [Sym_f32, if_pos hq'] at hs
      refine ⟨.int .i64 (z + m), ?_, .sym ?_⟩
      · have : IntKind.i64.wrap (z + m) = z + m := by simp [IntKind.wrap, IntKind.bits, IntKind.signed]; omega
        simp [binOp, Op.intArith, this]
      · show Sym .f32 m (q + 1) (z + m)
        rw [Sym_f32, if_neg (by omega), show (q + 1) / 2 = q / 2 by omega]
        refine ⟨by omega, by omega, ?_⟩
        rw [Int.add_emod_right]; exact hs.2.2
  · cases hq : Nat.beq (Nat.mod q 2) 1 with
    | false => rw [hq] at h; cases h
    | true =>
      rw [hq] at h; cases h
      have hq' : q % 2 = 1 := Nat.eq_of_beq_eq_true hq
      rw [Sym_f32, if_neg (by omega)] at hs
      refine ⟨.int .i64 (z.tmod m), by simp [binOp, Op.intDiv, hmn], ?_⟩
      rw [Int.tmod_eq_emod_of_nonneg hs.1, hs.2.2]
      exact .int _ _
  · cases h

theorem bin_run (hz : RZ P ρ s w) (hm : s.next ≤ most) {op : BinOp} {t : TypeId} {x y : Operand} {u v u' v' : Value} {r : Nx} {s' : St} (hu : VR ρ u u') (hv : VR ρ v v') (h : binA P s op t x y u v = some (r, s')) :
    Ran P ρ s w (do pure (.value (← (do eqGuard op t x y u' v'; binOp op t u' v')))) r s' := by
  have bool : ∀ (f : Bool → Bool) (e : Sem Value), (∀ b, (Op.equal t u' v').run P w = .ok b w → e.run P w = .ok (.bool (f b)) w) → (eqGuard op t x y u' v' = pure ()) → binOp op t u' v' = e →
      (equalA P s 3 t u v).map (fun b => (Nx.val (.bool (f b)), s)) = some (r, s') → Ran P ρ s w (do pure (.value (← (do eqGuard op t x y u' v'; binOp op t u' v')))) r s' := by
    intro f e he hg hb hq
    cases hqe : equalA P s 3 t u v with
    | none => rw [hqe] at hq; cases hq
    | some b =>
      rw [hqe] at hq; cases hq
      have := he b (equalA_run hz 3 t u v u' v' b Op.maxDepth (by decide) hu hv hqe)
      refine ran_pure hz hm (.bool (f b)) ?_
      rw [hg, hb]; simp [this]
  have beq : ∀ b, (Op.equal t u' v').run P w = .ok b w → (do pure (.bool (← Op.equal t u' v')) : Sem Value).run P w = .ok (.bool (id b)) w := fun b hb => by simp [hb]
  have bne : ∀ b, (Op.equal t u' v').run P w = .ok b w → (do pure (.bool (!(← Op.equal t u' v'))) : Sem Value).run P w = .ok (.bool (!b)) w := fun b hb => by simp [hb]
  unfold binA at h
  split at h
  · rename_i k a k' b
    cases hu; cases hv
    have hg : eqGuard op t x y (.int k a) (.int k' b) = pure () := guard_pure op t x y (fun h => by cases h.1) (fun _ h => by cases h)
    rw [hg]
    split at h
    · cases h
    · cases h
    · rename_i h1 h2
      rw [orVal_eq fun v e => intX_ex s e] at h
      exact ran_val hz hm (SR_binInt op t k k' a b (fun e => h1 e) (fun e => h2 e)) h
  · rename_i a b
    cases hu; cases hv
    have hg : eqGuard op t x y (.string a) (.string b) = pure () := guard_pure op t x y (fun h => by cases h.1) (fun _ h => by cases h)
    rw [hg]
    have hb : binOp op t (.string a) (.string b) = Op.stringOp op a b := by cases op <;> rfl
    rw [hb]
    rw [orVal_eq fun v e => strQ_ex e s] at h
    exact ran_val hz hm (SR_stringOp op a b) h
  · rename_i k m q m'
    cases hsy : symA op k m q m' with
    | none => rw [hsy] at h; cases h
    | some v0 =>
      rw [hsy] at h; cases h
      cases hu with
      | sym hs =>
      cases hv
      obtain ⟨v1, h1, h2⟩ := sym_run (P := P) (w := w) (ρ := ρ) t hs hsy
      have hg : ∀ z, eqGuard op t x y (.int .i64 z) (.int .i64 (Int.ofNat m')) = pure () := fun z => guard_pure op t x y (fun h => by cases h.1) (fun _ h => by cases h)
      refine ran_pure hz hm h2 ?_
      rename_i z
      have h1' : (binOp op t (.int .i64 z) (.int .i64 (Int.ofNat m'))).run P w = .ok v1 w := h1
      rw [hg]
      simp only [pure_bind, Sem.run_bind]
      rw [h1']; rfl
  · cases hu; cases hv
    have hg : (isConst x || isConst y) = true → eqGuard op t x y .nilIface .nilIface = pure () := fun hc => guard_pure op t x y (fun h => by rw [h.2.2.1, h.2.2.2] at hc; cases hc) (fun _ h => by cases h)
    split at h
    · cases hc : (isConst x || isConst y) with
      | false => rw [hc] at h; cases h
      | true => rw [hc] at h; exact bool id _ beq (hg hc) rfl h
    · cases hc : (isConst x || isConst y) with
      | false => rw [hc] at h; cases h
      | true => rw [hc] at h; exact bool (fun b => !b) _ bne (hg hc) rfl h
    · cases h
  · rename_i hni hns hsym hnn
    have hagg : equalA P s 3 t u v ≠ none → ∀ xs, u ≠ .agg xs := by
      intro hne xs e
      subst e
      apply hne
      unfold equalA
      cases P.underlying t with
      | none => rfl
      | some d => cases d <;> rfl
    have hg : equalA P s 3 t u v ≠ none → eqGuard op t x y u' v' = pure () := by
      intro hne
      refine guard_pure op t x y (fun h => ?_) (fun xs e => ?_)
      · obtain ⟨rfl, rfl, _, _⟩ := h
        cases hu; cases hv
        exact hnn rfl rfl
      · subst e
        cases hu
        exact hagg hne _ rfl
    have hfloat : equalA P s 3 t u v ≠ none → (∀ k b, u ≠ .float k b) ∧ (∀ k b c, u ≠ .complex k b c) := by
      intro hne
      refine ⟨fun k b e => ?_, fun k b c e => ?_⟩ <;>
      · subst e
        apply hne
        unfold equalA
        cases P.underlying t with
        | none => rfl
        | some d => cases d <;> rfl
    have hcx : equalA P s 3 t u v ≠ none → ∀ k b c, v ≠ .complex k b c := by
      intro hne k b c e
      subst e
      apply hne
      unfold equalA
      cases P.underlying t with
      | none => rfl
      | some d => cases d <;> first | rfl | (cases u <;> first | rfl | (rename_i a; cases a <;> rfl) | (rename_i a _ _; cases a <;> rfl))
    split at h
    · have hne : equalA P s 3 t u v ≠ none := fun e => by rw [e] at h; cases h
      refine bool id _ beq (hg hne) ?_ h
      exact bin_eql t hu hv (hfloat hne).1 (hfloat hne).2 hni hns (hcx hne)
    · have hne : equalA P s 3 t u v ≠ none := fun e => by rw [e] at h; cases h
      refine bool (fun b => !b) _ bne (hg hne) ?_ h
      exact bin_neq t hu hv (hfloat hne).1 (hfloat hne).2 hni hns (hcx hne)
    · cases h

theorem len_run (hz : RZ P ρ s w) {ts : Array TypeId} (ty : TypeId) {args args' : Array Value} {v : Value} (ha : VsR ρ args args') (h : lenA P s ts args = some v) : (Builtin.len_ ts ty args').run P w = .ok v w ∧ flat v = true := by
  unfold lenA at h
  split at h
  · rename_i t x hts has
    obtain rfl : ts = #[t] := by rw [← Array.toList_inj, hts]
    obtain rfl : args = #[x] := by rw [← Array.toList_inj, has]
    have hsz : args'.size = 1 := by rw [← ha.1]; rfl
    obtain ⟨x', rfl⟩ : ∃ x', args' = #[x'] := by
      rcases args' with ⟨l⟩
      match l, hsz with
      | [a], _ => exact ⟨a, rfl⟩
    have hx : VR ρ x x' := ha.2 0 x x' rfl rfl
    split at h
    · rename_i e hu
      split at h
      · cases h
        cases hx <;> exact ⟨by simp [Builtin.len_, run_underlying hu], rfl⟩
      · cases h
    · rename_i hu
      split at h
      · cases h; cases hx
        exact ⟨by simp [Builtin.len_, run_underlying hu], rfl⟩
      · cases h
    · rename_i hu
      cases he : entriesA s x with
      | none => rw [he] at h; cases h
      | some es =>
        rw [he] at h; cases h
        rcases entries_run hz hx he with ⟨rfl, rfl, rfl⟩ | ⟨q, q', es', n, rfl, rfl, hq, ho, hw, hE⟩
        · exact ⟨by simp [Builtin.len_, run_underlying hu], rfl⟩
        · refine ⟨?_, rfl⟩
          have hg : (getObj q').run P w = .ok (.map es' n) w := by simp [getObj, Sem.run, hw]
          simp [Builtin.len_, run_underlying hu, hg, hE.1]
    · cases h
  · cases h

theorem esc_find {fn : Func} (h1 : fn.name = "internal/abi.NoEscape") (h2 : fn.origin = "") : Extern.findNext fn = none ∧ Extern.find fn = some Extern.AbiNoEscape.same := by
  have a1 : Extern.allNextRows.lookup "internal/abi.NoEscape" = none := by kernel_rfl
  have a2 : Extern.allNextRows.lookup "" = none := by kernel_rfl
  have b1 : Extern.allGenericRows.lookup "internal/abi.NoEscape" = none := by kernel_rfl
  have b2 : Extern.allTypedRows.lookup "internal/abi.NoEscape" = none := by kernel_rfl
  have b3 : Extern.allRows.lookup "internal/abi.NoEscape" = some Extern.AbiNoEscape.same := by kernel_rfl
  constructor
  · unfold Extern.findNext
    simp only [h1, h2, a1, a2]; rfl
  · unfold Extern.find
    simp only [h1, h2, b1, b2, b3]; rfl

theorem call_run (hG : Good P) (hz : RZ P ρ s w) (hm : s.next ≤ most) {ev ev' : Operand → Value} {c : Call} (type : TypeId) {r : Nx} {s' : St} (hty : okTy P (.call c) = true) (hev : ∀ x ∈ (Op.call c).operands, VR ρ (ev x) (ev' x)) (h : callA P ev c s = some (r, s')) :
    Ran P ρ s w (do let d ← resolve ev' c type; invoke d.target d.args) r s' := by
  have hargs : VsR ρ (c.args.map ev) (c.args.map ev') := VsR.map ev ev' _ fun x hx => hev x (by simp [Op.operands, Call.operands, hx])
  unfold callA at h
  simp only [joinA_eq, mapA_eq] at h
  split at h
  · rename_i f hc
    have hf : VR ρ (ev f) (ev' f) := hev f (by simp [Op.operands, Call.operands, hc])
    split at h
    · rename_i g xs ys hfv
      rw [hfv] at hf
      split at h
      · rename_i fn hfn
        cases hb : fn.body.isSome with
        | false =>
          rw [hb] at h
          simp only [cond_false] at h
          generalize hfe : ev' f = fv' at hf
          cases hf with
          | @func _ _ xs' _ ys' hx hy hxx hyy =>
          have hall := VsR.append (VsR.append ⟨hx, hxx⟩ hargs) ⟨hy, hyy⟩
          unfold escA at h
          cases hn : (fn.name == "internal/abi.NoEscape" && fn.origin == "") with
          | false => rw [hn] at h; cases h
          | true =>
            rw [hn] at h
            simp only [cond_true] at h
            simp only [Bool.and_eq_true, beq_iff_eq] at hn
            obtain ⟨f1, f2⟩ := esc_find hn.1 hn.2
            have hb0 : fn.body = none := by cases hbb : fn.body with
              | none => rfl
              | some c => rw [hbb] at hb; cases hb
            split at h
            · rename_i x hl
              cases h
              have hall' : (xs ++ c.args.map ev ++ ys) = #[x] := by rw [← Array.toList_inj, hl]
              rw [hall'] at hall
              obtain ⟨x', hx', hvx⟩ : ∃ x', (xs' ++ c.args.map ev' ++ ys') = #[x'] ∧ VR ρ x x' := by
                generalize xs' ++ c.args.map ev' ++ ys' = zs at hall
                have hsz : zs.size = 1 := by rw [← hall.1]; rfl
                rcases zs with ⟨l⟩
                match l, hsz with
                | [a], _ => exact ⟨a, rfl, hall.2 0 _ a rfl rfl⟩
              refine ran_pure hz hm hvx ?_
              have hnm := hG.names g fn hfn
              have hsm : Extern.AbiNoEscape.same #[x'] = pure x' := rfl
              have hx2 : xs' ++ (c.args.map ev' ++ ys') = #[x'] := by rw [← Array.append_assoc]; exact hx'
              simp [resolve, hc, hfe, Deferred.ofValue, invoke, callFunc, hfn, hnm, hb0, f1, f2, hx2, hsm]
            · cases h
        | true =>
        rw [hb] at h; cases h
        generalize hfe : ev' f = fv' at hf
        cases hf with
        | @func _ _ xs' _ ys' hx hy hxx hyy =>
        obtain ⟨c0, hc0⟩ := Option.isSome_iff_exists.1 hb
        have hnm := hG.names g fn hfn
        refine ⟨ρ, .enter g ((xs' ++ c.args.map ev') ++ ys'), w, ?_, .enter g (VsR.append (VsR.append ⟨hx, hxx⟩ hargs) ⟨hy, hyy⟩), .refl hz, hm⟩
        simp [resolve, hc, hfe, Deferred.ofValue, invoke, callFunc, hfn, hnm, hc0]
      · cases h
    · cases h
  · rename_i hc
    cases hap : appendA P s c.argTypes (c.args.map ev) with
    | none => rw [hap] at h; cases h
    | some p =>
      obtain ⟨v, s1⟩ := p
      rw [hap] at h; cases h
      obtain ⟨ρ', v', w', h1, h2, h3, h4⟩ := append_run hG.zero hG.elem hz type (fun t ht => unblt (List.all_eq_true.1 hty t (Array.mem_toList_iff.2 ht))) hargs hap hm
      exact ⟨ρ', .value v', w', by simp [resolve, hc, invoke, builtin, h1], .val h2, h3, h4⟩
  · rename_i hc
    cases hap : lenA P s c.argTypes (c.args.map ev) with
    | none => rw [hap] at h; cases h
    | some v =>
      rw [hap] at h; cases h
      obtain ⟨h1, h2⟩ := len_run hz type hargs hap
      refine ran_pure hz hm (v' := v) (by cases v <;> first | (cases h2; done) | exact .bool _ | exact .int _ _ | exact .string _) ?_
      simp [resolve, hc, invoke, builtin, h1]
  · rename_i hc
    cases hap : minA (c.args.map ev) with
    | none => rw [hap] at h; cases h
    | some v =>
      rw [hap] at h; cases h
      obtain ⟨h1, h2⟩ := min_run (P := P) (w := w) (ts := c.argTypes) (ty := type) hargs hap
      refine ran_pure hz hm (v' := v) (by cases v <;> first | (cases h2; done) | exact .bool _ | exact .int _ _ | exact .string _) ?_
      simp [resolve, hc, invoke, builtin, h1]
  · rename_i hc
    cases hap : copyA P s c.argTypes (c.args.map ev) with
    | none => rw [hap] at h; cases h
    | some p =>
      obtain ⟨v, s1⟩ := p
      rw [hap] at h; cases h
      obtain ⟨ρ', w', h1, h2, h3, h4⟩ := copy_run hz hm type hargs hap
      exact ⟨ρ', .value v, w', by simp [resolve, hc, invoke, builtin, h1], .val (by cases v <;> first | (cases h2; done) | exact .bool _ | exact .int _ _ | exact .string _), h3, h4⟩
  · rename_i hc
    cases hap : deleteA P s c.argTypes (c.args.map ev) with
    | none => rw [hap] at h; cases h
    | some s1 =>
      rw [hap] at h; cases h
      obtain ⟨w', h1, h2, h3⟩ := delete_run hz hm type hargs hap
      exact ⟨ρ, .value (.tuple #[]), w', by simp [resolve, hc, invoke, builtin, h1], .val (VR_closed 1 _ rfl), h2, h3⟩
  · rename_i hc
    cases hap : sliceDataA (c.args.map ev) with
    | none => rw [hap] at h; cases h
    | some v =>
      rw [hap] at h; cases h
      obtain ⟨v', h1, h2⟩ := sliceData_run (P := P) (w := w) (ts := c.argTypes) type hargs hap
      exact ran_pure hz hm h2 (by simp [resolve, hc, invoke, builtin, h1])
  · rename_i hc
    cases hap : unsafeStrA P s c.argTypes (c.args.map ev) with
    | none => rw [hap] at h; cases h
    | some p =>
      obtain ⟨v, s1⟩ := p
      rw [hap] at h; cases h
      obtain ⟨w', h1, h2, h3, h4⟩ := unsafeStr_run hz hm type hargs hap
      exact ⟨ρ, .value v, w', by simp [resolve, hc, invoke, builtin, h1], .val (by cases v <;> first | (cases h2; done) | exact .bool _ | exact .int _ _ | exact .string _), h3, h4⟩
  · rename_i x name hc
    have hx : VR ρ (ev x) (ev' x) := hev x (by simp [Op.operands, Call.operands, hc])
    split at h
    · rename_i g v hme
      obtain ⟨t, v', hxe, hv, hmr⟩ := method_run (P := P) (w := w) hx hme
      split at h
      · rename_i fn hfn
        cases hb : fn.body.isSome with
        | false => rw [hb] at h; cases h
        | true =>
        rw [hb] at h; cases h
        obtain ⟨c0, hc0⟩ := Option.isSome_iff_exists.1 hb
        have hnm := hG.names g fn hfn
        have hdep : ∃ n, P.types.size + Made.depth = n + 1 := ⟨P.types.size + (Made.depth - 1), by simp [Made.depth]⟩
        obtain ⟨n, hn⟩ := hdep
        have h1 := hmr n
        refine ⟨ρ, .enter g (#[v'] ++ c.args.map ev'), w, ?_, .enter g (VsR.append (VsR.one hv) hargs), .refl hz, hm⟩
        have hex : (#[ev' x] ++ c.args.map ev').extract 1 (#[ev' x] ++ c.args.map ev').size = c.args.map ev' := by
          apply Array.ext'
          simp
          exact List.take_of_length_le (by simp)
        show (do let d ← resolve ev' c type; invoke d.target d.args : Sem Next).run P w = _
        have hres : resolve ev' c type = pure { target := .fn (.method name) #[], args := #[ev' x] ++ c.args.map ev' } := by unfold resolve; rw [hc]
        rw [hres, pure_bind]
        dsimp only [invoke]
        have h0 : (#[ev' x] ++ c.args.map ev')[0]? = some (ev' x) := by rw [Array.getElem?_append_left (by simp)]; rfl
        rw [h0]
        show (callMethod (ev' x) name ((#[ev' x] ++ c.args.map ev').extract 1 (#[ev' x] ++ c.args.map ev').size)).run P w = _
        rw [hex, hxe]
        simp only [callMethod, Sem.run_bind, run_program, Result.andThen_ok, hn, h1, callFunc, hfn]
        simp [hnm, hc0]
      · cases h
    · cases h
  · cases h

theorem op_run (hG : Good P) (hz : RZ P ρ s w) (hm : s.next ≤ most) {ev ev' : Operand → Value} {o : Oper} {r : Nx} {s' : St} (hty : okTy P o.op = true) (hev : ∀ x ∈ o.op.operands, VR ρ (ev x) (ev' x)) (h : exOp P ev o s = some (r, s')) :
    Ran P ρ s w (execOp ev' o) r s' := by
  obtain ⟨dst, op, type, pos, after, guard⟩ := o
  unfold exOp at h
  unfold execOp
  dsimp only at h hev hty ⊢
  cases op with
  | move x => cases h; exact ran_pure hz hm (hev x (by simp [Op.operands])) rfl
  | assign x => cases h; exact ran_pure hz hm (hev x (by simp [Op.operands])) rfl
  | pick c a b =>
    have hc := hev c (by simp [Op.operands])
    have ha := hev a (by simp [Op.operands])
    have hb := hev b (by simp [Op.operands])
    dsimp only at h ⊢
    split at h
    · rename_i t ht
      cases h
      rw [ht] at hc
      generalize hce : ev' c = cv at hc
      cases hc
      cases t with
      | true => exact ran_pure hz hm ha (by simp [asBool])
      | false => exact ran_pure hz hm hb (by simp [asBool])
    · cases h
  | alloc e => exact ran_val hz hm (SR_alloc hG.zero e (unblt hty)) h
  | box e x => exact ran_val hz hm (SR_box e (hev x (by simp [Op.operands]))) h
  | build t ps =>
    dsimp only at h
    rw [orVal_eq fun v e => buildA_ex (by rw [pairsL_eq]; exact e) s] at h
    refine ran_val hz hm (SR_build hG.zero t (unblt hty) ?_) h
    simp only [Array.toList_map]
    exact PsR.map ev ev' _ fun p hp => hev p.2 (by simp [Op.operands]; exact ⟨p.1, by simpa using hp⟩)
  | buildSlice t n ps =>
    dsimp only at h
    cases hn : Nat.blt n most with
    | false => rw [hn] at h; cases h
    | true =>
      rw [hn] at h
      refine ran_val hz hm (SR_buildSlice hG.zero hG.elem t (unblt hty) n (unblt hn) ?_) h
      simp only [Array.toList_map]
      exact PsR.map ev ev' _ fun p hp => hev p.2 (by simp [Op.operands]; exact ⟨p.1, by simpa using hp⟩)
  | load t a =>
    dsimp only at h
    rw [orVal_eq fun v e => loadQ_ex e] at h
    exact ran_val hz hm (SR_loadAt t (hev a (by simp [Op.operands]))) h
  | store t a x =>
    dsimp only at h
    rw [orSkip_eq fun s' e => ⟨(), storeQ_ex e⟩] at h
    exact ran_skip hz hm (SR_storeAt t (hev a (by simp [Op.operands])) (hev x (by simp [Op.operands]))) h
  | nilCheck x =>
    have hx := hev x (by simp [Op.operands])
    dsimp only at h ⊢
    split at h
    · rename_i a ha
      cases h
      rw [ha] at hx
      generalize hxe : ev' x = xv at hx
      cases hx with
      | ptr hp => exact ran_pure hz hm (.ptr hp) rfl
    · rename_i f xs ys ha
      cases h
      rw [ha] at hx
      generalize hxe : ev' x = xv at hx
      cases hx with
      | func f h1 h2 h3 h4 => exact ran_pure hz hm (.func f h1 h2 h3 h4) rfl
    · rename_i l xs ys ha
      cases h
      rw [ha] at hx
      generalize hxe : ev' x = xv at hx
      cases hx with
      | yield hl => exact ran_pure hz hm (.yield hl) rfl
    · rename_i t v ha
      cases h
      rw [ha] at hx
      generalize hxe : ev' x = xv at hx
      cases hx with
      | iface t hv => exact ran_pure hz hm (.iface t hv) rfl
    · cases h
  | binOp op t x y yt => exact bin_run hz hm (hev x (by simp [Op.operands])) (hev y (by simp [Op.operands])) h
  | unOp op t x =>
    dsimp only at h
    split at h
    · cases h
    · rename_i hc
      exact ran_val hz hm (SR_unary op (hev x (by simp [Op.operands])) (fun k m q e => hc k m q e)) h
  | makeInterface t x => exact ran_val hz hm (SR_makeInterface t (hev x (by simp [Op.operands]))) h
  | makeFunc fn first captured =>
    have h1 : VsR ρ (first.map ev) (first.map ev') := VsR.map ev ev' _ fun x hx => hev x (by simp [Op.operands, hx])
    have h2 : VsR ρ (captured.map ev) (captured.map ev') := VsR.map ev ev' _ fun x hx => hev x (by simp [Op.operands, hx])
    cases fn with
    | func g => cases h; exact ran_pure hz hm (.func g h1.1 h2.1 h1.2 h2.2) rfl
    | _ => cases h
  | makeMap t r => exact ran_val hz hm (SR_makeMap t (BR.map ev ev' r fun y hy => hev y (by simp [Op.operands, hy]))) h
  | makeSlice t l c =>
    have hc := hev c (by simp [Op.operands])
    dsimp only at h ⊢
    split at h
    · rename_i k n hcv
      rw [hcv] at hc
      generalize hce : ev' c = cv at hc
      cases hc
      cases hn : Nat.blt n most with
      | false => rw [hn] at h; cases h
      | true =>
        rw [hn] at h
        exact ran_val hz hm (SR_makeSlice hG.zero hG.elem t (unblt hty) (unblt hn) (hev l (by simp [Op.operands]))) h
    · cases h
  | slice t x lo hi mx =>
    dsimp only at h
    cases hs : sliceA P t (ev x) (lo.map ev) (hi.map ev) (mx.map ev) with
    | none => rw [hs] at h; cases h
    | some v =>
      rw [hs] at h; cases h
      obtain ⟨v', h1, h2⟩ := slice_run (w := w) (hev x (by simp [Op.operands])) (BR.map ev ev' lo fun y hy => hev y (by simp [Op.operands, hy])) (BR.map ev ev' hi fun y hy => hev y (by simp [Op.operands, hy])) (BR.map ev ev' mx fun y hy => hev y (by simp [Op.operands, hy])) hs
      exact ran_pure hz hm h2 (by simp [h1])
  | fieldAddr t x n =>
    dsimp only at h
    rw [orVal_eq fun v e => fieldQ_ex e] at h
    exact ran_val hz hm (SR_fieldAt t hty n (hev x (by simp [Op.operands]))) h
  | field t x n =>
    dsimp only at h
    rw [orVal_eq fun v e => partQ_ex e] at h
    exact ran_val hz hm (SR_field t n (hev x (by simp [Op.operands]))) h
  | indexAddr t x ix =>
    have hx := hev x (by simp [Op.operands])
    dsimp only at h ⊢
    split at h
    · rename_i a n c hxv
      rw [hxv] at hx
      generalize hxe : ev' x = xv at hx
      cases hx with
      | void a a' c' => have h : none = some (r, s') := h; cases h
      | slice n c c' ha hc =>
        rw [cap_le hc] at h
        exact ran_val hz hm (SR_indexAt t n c c' ha (hev ix (by simp [Op.operands]))) h
    · cases h
  | extract x n => exact ran_val hz hm (SR_extract n (hev x (by simp [Op.operands]))) h
  | lookup t x k ok =>
    dsimp only at h
    cases hs : lookupA P s t (ev x) (ev k) ok with
    | none => rw [hs] at h; cases h
    | some v =>
      rw [hs] at h; cases h
      obtain ⟨v', h1, h2⟩ := lookup_run hG.zero hG.elem hz (unblt hty) (hev x (by simp [Op.operands])) (hev k (by simp [Op.operands])) hs
      exact ran_pure hz hm h2 (by simp [h1])
  | mapUpdate t m k x =>
    dsimp only at h
    cases hs : updateA P s t (ev m) (ev k) (ev x) with
    | none => rw [hs] at h; cases h
    | some s1 =>
      rw [hs] at h; cases h
      obtain ⟨w', h1, h2, h3⟩ := update_run hz hm (hev m (by simp [Op.operands])) (hev k (by simp [Op.operands])) (hev x (by simp [Op.operands])) hs
      exact ⟨ρ, .skip, w', by simp [h1], .skip, h2, h3⟩
  | insert t m k x =>
    dsimp only at h
    cases hs : updateA P s t (ev m) (ev k) (ev x) with
    | none => rw [hs] at h; cases h
    | some s1 =>
      rw [hs] at h; cases h
      obtain ⟨w', h1, h2, h3⟩ := update_run hz hm (hev m (by simp [Op.operands])) (hev k (by simp [Op.operands])) (hev x (by simp [Op.operands])) hs
      exact ⟨ρ, .skip, w', by simp [h1], .skip, h2, h3⟩
  | convert a b x =>
    dsimp only at h
    cases hs : convA P s a b (ev x) with
    | none => rw [hs] at h; cases h
    | some p =>
      obtain ⟨v, s1⟩ := p
      rw [hs] at h; cases h
      obtain ⟨ρ', v', w', h1, h2, h3, h4⟩ := conv_run hz hm (hev x (by simp [Op.operands])) hs
      exact ⟨ρ', .value v', w', by simp [h1], .val h2, h3, h4⟩
  | index t x ix =>
    dsimp only at h
    cases hs : indexA P t (ev x) (ev ix) with
    | none => rw [hs] at h; cases h
    | some v =>
      rw [hs] at h; cases h
      obtain ⟨h1, h2⟩ := index_run (P := P) (w := w) (hev x (by simp [Op.operands])) (hev ix (by simp [Op.operands])) hs
      exact ran_pure hz hm (v' := v) (by cases v <;> first | (cases h2; done) | exact .bool _ | exact .int _ _ | exact .string _) (by simp [h1])
  | typeAssert x xt t ok =>
    dsimp only at h
    cases hs : assertA P (ev x) t ok with
    | none => rw [hs] at h; cases h
    | some v =>
      rw [hs] at h; cases h
      obtain ⟨v', h1, h2⟩ := assert_run (w := w) (xt := xt) hG.zero (unblt hty) (hev x (by simp [Op.operands])) hs
      exact ran_pure hz hm h2 (by simp [h1])
  | call c => exact call_run hG hz hm type hty hev h
  | _ => cases h
end
end
end Go.Proofs.YtdcjkglhhmnjiaaGreatDoor.Sx
