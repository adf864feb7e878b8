/- A small memory beside the model's own: what a tree of operations comes to there it comes to in every world that holds that memory. -/
import GoSem.Step
import Derived.Below
import Derived.Laws.World
namespace Go.Proofs.YtelkelfpcndckaaDoor.Sx

/-- a row by numbers -/
inductive Tr (α : Type) where
  | nil
  | node (v : Option α) (l r : Tr α)

namespace Tr
variable {α : Type}
def val : Tr α → Option α
  | .nil => none
  | .node v _ _ => v
def left : Tr α → Tr α
  | .nil => .nil
  | .node _ l _ => l
def right : Tr α → Tr α
  | .nil => .nil
  | .node _ _ r => r
def get : Nat → Tr α → Nat → Option α
  | 0, _, _ => none
  | n + 1, t, k => bif Nat.beq k 0 then val t else bif Nat.beq (Nat.mod k 2) 1 then get n (left t) (Nat.div k 2) else get n (right t) (Nat.pred (Nat.div k 2))
def set : Nat → Tr α → Nat → Option α → Tr α
  | 0, t, _, _ => t
  | n + 1, t, k, x => bif Nat.beq k 0 then .node x (left t) (right t) else bif Nat.beq (Nat.mod k 2) 1 then .node (val t) (set n (left t) (Nat.div k 2) x) (right t) else .node (val t) (left t) (set n (right t) (Nat.pred (Nat.div k 2)) x)

theorem get_set_same : ∀ (n : Nat) (t : Tr α) (k : Nat) (x : Option α), k < 2 ^ n → get (n + 1) (set (n + 1) t k x) k = x := by
  intro n
  induction n with
  | zero =>
    intro t k x hk
    obtain rfl : k = 0 := by simpa using hk
    rfl
  | succ n ih =>
    intro t k x hk
    have h2 : Nat.div k 2 < 2 ^ n := by show k / 2 < _; have := Nat.pow_succ 2 n; omega
    have h3 : Nat.pred (Nat.div k 2) < 2 ^ n := Nat.lt_of_le_of_lt (Nat.pred_le _) h2
    rw [set, get]
    cases h0 : Nat.beq k 0 <;> simp only [cond_true, cond_false]
    · cases h1 : Nat.beq (Nat.mod k 2) 1 <;> simp only [cond_true, cond_false, left, right]
      · exact ih _ _ _ h3
      · exact ih _ _ _ h2
    · rfl

theorem get_set_other : ∀ (n : Nat) (t : Tr α) (k j : Nat) (x : Option α), j ≠ k → get n (set n t k x) j = get n t j := by
  intro n
  induction n with
  | zero => intro t k j x h; rfl
  | succ n ih =>
    intro t k j x h
    rw [set, get, get]
    cases hk0 : Nat.beq k 0 <;> cases hj0 : Nat.beq j 0 <;> simp only [cond_true, cond_false]
    · cases hk1 : Nat.beq (Nat.mod k 2) 1 <;> cases hj1 : Nat.beq (Nat.mod j 2) 1 <;> simp only [cond_true, cond_false, left, right]
      · refine ih _ _ _ _ ?_
        have a' : ¬ k % 2 = 1 := fun e => by simp [show Nat.mod k 2 = 1 from e] at hk1
        have b' : ¬ j % 2 = 1 := fun e => by simp [show Nat.mod j 2 = 1 from e] at hj1
        have a0' : ¬ k = 0 := fun e => by simp [e] at hk0
        have b0' : ¬ j = 0 := fun e => by simp [e] at hj0
        show (j / 2) - 1 ≠ (k / 2) - 1
        omega
      · refine ih _ _ _ _ ?_
        have a' : k % 2 = 1 := Nat.eq_of_beq_eq_true hk1
        have b' : j % 2 = 1 := Nat.eq_of_beq_eq_true hj1
        show j / 2 ≠ k / 2
        omega
    · cases hk1 : Nat.beq (Nat.mod k 2) 1 <;> rfl
    · cases hj1 : Nat.beq (Nat.mod j 2) 1 <;> simp only [cond_true, cond_false, left, right]
    · exact absurd ((Nat.eq_of_beq_eq_true hj0).trans (Nat.eq_of_beq_eq_true hk0).symm) h
end Tr

def dep : Nat := 41
def most : Nat := 2 ^ 40

structure St where
  next : Nat
  /-- from here on to 'ro': addresses that are told apart, and nothing else of them -/
  lo : Nat
  /-- what lies below is read alone -/
  ro : Nat
  heap : Tr Obj

def St.obj (s : St) (b : Nat) : Option Obj := s.heap.get dep b
def St.put (s : St) (b : Nat) (o : Obj) : St := ⟨s.next, s.lo, s.ro, s.heap.set dep b (some o)⟩
def St.del (s : St) (b : Nat) : St := ⟨s.next, s.lo, s.ro, s.heap.set dep b none⟩
def St.add (s : St) (o : Obj) : St := ⟨Nat.succ s.next, s.lo, s.ro, s.heap.set dep s.next (some o)⟩

/-- a tree of operations on the small memory -/
def ex {α : Type} (P : Program) : Sem α → St → Option (α × St)
  | .pure a, s => some (a, s)
  | .load _ a k, s => match s.obj a.block with
    | some (.cells c _ _) => bif a.spot.isSome then none else match c.toList[a.off]? with
      | some v => ex P (k v) s
      | none => none
    | _ => none
  | .store _ a v k, s =>
    match v with
    | .agg _ => none
    | .tuple _ => none
    | v => match s.obj a.block with
      | some (.cells c e f) =>
        bif a.spot.isSome || Nat.ble f.1 a.off && Nat.blt a.off f.2 || !(Nat.blt a.off c.toList.length) || Nat.blt a.block s.ro then none
        else ex P k (s.put a.block (.cells ⟨c.toList.set a.off v⟩ e f))
      | _ => none
  | .new o k, s => bif Nat.blt s.next most then ex P (k s.next) (s.add o) else none
  | .shape r k, s => match s.obj r with
    | some (.cells c e _) => ex P (k (some (e, c.size))) s
    | some _ => ex P (k none) s
    | none => none
  | .freeze _ _ _, _ => none
  | .frozen a k, s => match s.obj a.block with
    | some (.cells c _ f) => bif Nat.blt a.off c.toList.length then ex P (k (Nat.ble f.1 a.off && Nat.blt a.off f.2)) s else none
    | some _ => ex P (k false) s
    | none => none
  | .getObj r k, s => match s.obj r with
    | some (.cells ..) => none
    | some o => ex P (k o) s
    | none => none
  | .setObj r o k, s => match s.obj r with
    | some (.cells ..) => none
    | some _ => (match o with
      | .cells .. => none
      | o => bif Nat.blt r s.ro then none else ex P k (s.put r o))
    | none => none
  | .choose q k, s => bif q.forced then ex P (k 0) s else none
  | .sys _ _, _ => none
  | .program k, s => ex P (k P) s
  | .mark _ k, s => ex P k s
  | .halt _, _ => none

/-- where each block lies in the world, and how many elements it has room for where that is told -/
structure Rho where
  at_ : Nat → Option Nat
  off : Nat → Nat
  cap : Nat → Nat
def Rho.le (ρ σ : Rho) : Prop := ∀ b c, ρ.at_ b = some c → σ.at_ b = some c ∧ σ.cap b = ρ.cap b ∧ σ.off b = ρ.off b
theorem Rho.le.refl (ρ : Rho) : ρ.le ρ := fun _ _ h => ⟨h, rfl, rfl⟩
theorem Rho.le.trans {ρ σ τ : Rho} (h : ρ.le σ) (k : σ.le τ) : ρ.le τ := fun b c e => ⟨(k b c (h b c e).1).1, (k b c (h b c e).1).2.1.trans (h b c e).2.1, (k b c (h b c e).1).2.2.trans (h b c e).2.2⟩
/-- a capacity that is not told -/
def unk : Nat := 2 ^ 41

inductive AR (ρ : Rho) : Addr → Addr → Prop where
  | mk {b c o : Nat} {s : Option Nat} (h : ρ.at_ b = some c) : AR ρ ⟨b, o, s⟩ ⟨c, ρ.off b + o, s⟩

/-- a number of which no more is told than what is left when it is divided by m: first whatever it is; then what is left by Go's own rule (q even), that with m more (q odd) -/
def Sym : FloatKind → Nat → Nat → Int → Prop
  | .f64, m, r, z => z % (m : Int) = (r : Int)
  | .f32, m, q, z => if q % 2 = 0 then -(m : Int) < z ∧ z < m ∧ z % (m : Int) = ((q / 2 : Nat) : Int) else 0 ≤ z ∧ z < 2 * (m : Int) ∧ z % (m : Int) = ((q / 2 : Nat) : Int)

inductive VR (ρ : Rho) : Value → Value → Prop where
  | bool (b : Bool) : VR ρ (.bool b) (.bool b)
  | int (k : IntKind) (n : Int) : VR ρ (.int k n) (.int k n)
  | float (k : FloatKind) (n : Nat) : VR ρ (.float k n) (.float k n)
  | sym {k : FloatKind} {m q : Nat} {z : Int} (h : Sym k m q z) : VR ρ (.complex k m q) (.int .i64 z)
  | string (s : ByteArray) : VR ρ (.string s) (.string s)
  | pnil : VR ρ (.pointer none) (.pointer none)
  | ptr {a a' : Addr} (h : AR ρ a a') : VR ρ (.pointer (some a)) (.pointer (some a'))
  | snil (n c : Nat) : VR ρ (.slice none n c) (.slice none n c)
  | slice {a a' : Addr} (n c c' : Nat) (h : AR ρ a a') (hc : (c' = c ∧ c < most) ∨ (∃ j, c = unk - j ∧ j ≤ most ∧ c' + j = ρ.cap a.block ∧ n ≤ c')) : VR ρ (.slice (some a) n c) (.slice (some a') n c')
  | mnil : VR ρ (.map none) (.map none)
  | map {r r' : Nat} (h : ρ.at_ r = some r') : VR ρ (.map (some r)) (.map (some r'))
  | cnil : VR ρ (.chan none) (.chan none)
  | func (f : FuncId) {xs xs' ys ys' : Array Value} (hx : xs.size = xs'.size) (hy : ys.size = ys'.size)
      (h : ∀ (i : Nat) (x y : Value), xs[i]? = some x → xs'[i]? = some y → VR ρ x y) (k : ∀ (i : Nat) (x y : Value), ys[i]? = some x → ys'[i]? = some y → VR ρ x y) :
      VR ρ (.func (.func f) xs ys) (.func (.func f) xs' ys')
  | nilFunc : VR ρ .nilFunc .nilFunc
  | iface (t : TypeId) {v v' : Value} (h : VR ρ v v') : VR ρ (.iface t v) (.iface t v')
  | nilIface : VR ρ .nilIface .nilIface
  | agg {xs ys : Array Value} (hs : xs.size = ys.size) (h : ∀ (i : Nat) (x y : Value), xs[i]? = some x → ys[i]? = some y → VR ρ x y) : VR ρ (.agg xs) (.agg ys)
  | tuple {xs ys : Array Value} (hs : xs.size = ys.size) (h : ∀ (i : Nat) (x y : Value), xs[i]? = some x → ys[i]? = some y → VR ρ x y) : VR ρ (.tuple xs) (.tuple ys)

theorem AR.mono {ρ σ : Rho} {a a' : Addr} (h : AR ρ a a') (hl : ρ.le σ) : AR σ a a' := by
  cases h with | @mk b c o s e => rw [← (hl _ _ e).2.2]; exact .mk (hl _ _ e).1
theorem VR.mono {ρ σ : Rho} {v v' : Value} (h : VR ρ v v') (hl : ρ.le σ) : VR σ v v' := by
  induction h with
  | bool => exact .bool _
  | int => exact .int _ _
  | float => exact .float _ _
  | sym h => exact .sym h
  | string => exact .string _
  | pnil => exact .pnil
  | ptr h => exact .ptr (h.mono hl)
  | snil => exact .snil _ _
  | slice n c c' h hc =>
    refine .slice n c c' (h.mono hl) (hc.imp id fun ⟨j, h1, h2, h3, h4⟩ => ⟨j, h1, h2, ?_, h4⟩)
    cases h with | mk e => rw [(hl _ _ e).2.1]; exact h3
  | mnil => exact .mnil
  | map h => exact .map (hl _ _ h).1
  | cnil => exact .cnil
  | func f hx hy _ _ ih ik => exact .func f hx hy ih ik
  | nilFunc => exact .nilFunc
  | iface t _ ih => exact .iface t ih
  | nilIface => exact .nilIface
  | agg hs _ ih => exact .agg hs ih
  | tuple hs _ ih => exact .tuple hs ih

/-- rows of values, one by one -/
def VsR (ρ : Rho) (xs ys : Array Value) : Prop := xs.size = ys.size ∧ ∀ (i : Nat) (x y : Value), xs[i]? = some x → ys[i]? = some y → VR ρ x y
theorem VsR.mono {ρ σ : Rho} {xs ys : Array Value} (h : VsR ρ xs ys) (hl : ρ.le σ) : VsR σ xs ys := ⟨h.1, fun i x y a b => (h.2 i x y a b).mono hl⟩

/-- one entry as another one -/
structure ER (ρ : Rho) (e e' : MapEntry) : Prop where
  key : e'.key = e.key
  val : VR ρ e.val e'.val
  born : e.born = e'.born

inductive OR (ρ : Rho) : Obj → Obj → Prop where
  | cells {c c' : Array Value} (e : TypeId) (f f' : Nat × Nat) (hf : (f' = f ∧ f ≠ (1, 0)) ∨ (f = (1, 0) ∧ f' = (c'.size, c'.size + 1))) (hs : c.size ≤ c'.size) (h : ∀ (i : Nat) (x y : Value), c[i]? = some x → c'[i]? = some y → VR ρ x y) : OR ρ (.cells c e f) (.cells c' e f')
  | map {es es' : Array MapEntry} (n : Nat) (hs : es.size = es'.size) (h : ∀ (i : Nat) (x y : MapEntry), es[i]? = some x → es'[i]? = some y → ER ρ x y) : OR ρ (.map es n) (.map es' n)
  | stringIter (s : ByteArray) (n : Nat) : OR ρ (.stringIter s n) (.stringIter s n)

theorem OR.mono {ρ σ : Rho} {o o' : Obj} (h : OR ρ o o') (hl : ρ.le σ) : OR σ o o' := by
  cases h with
  | cells e f f' hf hs h => exact .cells e f f' hf hs fun i x y a b => (h i x y a b).mono hl
  | map n hs h => exact .map n hs fun i x y a b => ⟨(h i x y a b).key, (h i x y a b).val.mono hl, (h i x y a b).born⟩
  | stringIter s n => exact .stringIter s n

/-- how many cells a value of a type has -/
def cellsOf (P : Program) (e : TypeId) : Nat := ((P.info? e).map (·.size)).getD 0
/-- a row has room for so many -/
def Roomy (P : Program) (k : Nat) (o' : Obj) : Prop := ∀ cs e f, o' = .cells cs e f → k * cellsOf P e ≤ cs.size

/-- the small memory lies in the world -/
structure RZ (P : Program) (ρ : Rho) (s : St) (w : World) : Prop where
  obj : ∀ b o, s.obj b = some o → ∃ c o', ρ.at_ b = some c ∧ w.heap[c]? = some o' ∧ OR ρ o o' ∧ Roomy P (ρ.cap b) o' ∧ ρ.off b = 0
  inj : ∀ b b' c, (s.obj b).isSome → (s.obj b').isSome → ρ.at_ b = some c → ρ.at_ b' = some c → b = b'
  fresh : ∀ b, s.next ≤ b → ρ.at_ b = none
  lt : ∀ b c, ρ.at_ b = some c → c < w.heap.size
  roNext : s.ro ≤ s.next
  sen : ∀ b c, s.lo ≤ b → b < s.ro → ρ.at_ b = some c → (∃ cs e, w.heap[c]? = some (.cells cs e (0, 0))) ∧ ∀ j, s.ro ≤ j → (s.obj j).isSome → ρ.at_ j ≠ some c
  apart : ∀ b b' c, s.lo ≤ b → b < s.ro → s.lo ≤ b' → b' < s.ro → b ≠ b' → ρ.at_ b = some c → ρ.at_ b' = some c → ρ.off b ≠ ρ.off b'

/-- from one state to the next -/
structure ST (P : Program) (ρ : Rho) (s : St) (w : World) (ρ' : Rho) (s' : St) (w' : World) : Prop where
  le : ρ.le ρ'
  rz : RZ P ρ' s' w'
  own : ∀ b c, (s'.obj b).isSome → ρ'.at_ b = some c → c < w.heap.size → ∃ b0, (s.obj b0).isSome ∧ ρ.at_ b0 = some c
  kept : ∀ c, c < w.heap.size → (∀ b, (s.obj b).isSome → ρ.at_ b ≠ some c) → w'.heap[c]? = w.heap[c]?
  fixed : ∀ b c, b < s.ro → (s.obj b).isSome → ρ.at_ b = some c → s'.obj b = s.obj b ∧ w'.heap[c]? = w.heap[c]?
  ro : s'.ro = s.ro
  size : w.heap.size ≤ w'.heap.size
  os : w'.os = w.os
  tape : w'.tape = w.tape
  output : w'.output = w.output
  grow : s.next ≤ s'.next
  old : ∀ b, b < s.next → ρ'.at_ b = ρ.at_ b
  lo : s'.lo = s.lo

theorem ST.refl {P : Program} {ρ : Rho} {s : St} {w : World} (h : RZ P ρ s w) : ST P ρ s w ρ s w :=
  ⟨Rho.le.refl _, h, fun b _ hb e _ => ⟨b, hb, e⟩, fun _ _ _ => rfl, fun _ _ _ _ _ => ⟨rfl, rfl⟩, rfl, Nat.le_refl _, rfl, rfl, rfl, Nat.le_refl _, fun _ _ => rfl, rfl⟩

theorem ST.trans {P : Program} {ρ ρ1 ρ2 : Rho} {s s1 s2 : St} {w w1 w2 : World} (h : ST P ρ s w ρ1 s1 w1) (k : ST P ρ1 s1 w1 ρ2 s2 w2) : ST P ρ s w ρ2 s2 w2 where
  le := h.le.trans k.le
  rz := k.rz
  own b c hb e hc := by
    obtain ⟨b1, h1, e1⟩ := k.own b c hb e (Nat.lt_of_lt_of_le hc h.size)
    exact h.own b1 c h1 e1 hc
  kept c hc hn := by
    refine (k.kept c (Nat.lt_of_lt_of_le hc h.size) fun b hb e => ?_).trans (h.kept c hc hn)
    obtain ⟨b0, h0, e0⟩ := h.own b c hb e hc
    exact hn b0 h0 e0
  fixed b c hb hs e := by
    obtain ⟨h1, h2⟩ := h.fixed b c hb hs e
    obtain ⟨k1, k2⟩ := k.fixed b c (h.ro ▸ hb) (by rw [h1]; exact hs) (h.le _ _ e).1
    exact ⟨k1.trans h1, k2.trans h2⟩
  ro := k.ro.trans h.ro
  size := Nat.le_trans h.size k.size
  os := k.os.trans h.os
  tape := k.tape.trans h.tape
  output := k.output.trans h.output
  grow := Nat.le_trans h.grow k.grow
  old b hb := (k.old b (Nat.lt_of_lt_of_le hb h.grow)).trans (h.old b hb)
  lo := k.lo.trans h.lo

/-- two trees of operations that do the same, on memories that are the same but for their blocks' numbers: where the first one stops nothing is asked of the second -/
inductive SR {α β : Type} (P : Program) (R : Rho → α → β → Prop) : Rho → Sem α → Sem β → Prop where
  | pure {ρ : Rho} {a : α} {b : β} (h : R ρ a b) : SR P R ρ (.pure a) (.pure b)
  | load {ρ : Rho} (m : Mode) {a a' : Addr} {k : Value → Sem α} {k' : Value → Sem β} (h : AR ρ a a') (hk : ∀ v v', VR ρ v v' → SR P R ρ (k v) (k' v')) : SR P R ρ (.load m a k) (.load m a' k')
  | store {ρ : Rho} (m : Mode) {a a' : Addr} {v v' : Value} {k : Sem α} {k' : Sem β} (h : AR ρ a a') (hv : VR ρ v v') (hk : SR P R ρ k k') : SR P R ρ (.store m a v k) (.store m a' v' k')
  | new {ρ : Rho} {o o' : Obj} {k : Nat → Sem α} {k' : Nat → Sem β} (h : OR ρ o o') (hk : ∀ ρ' b b', ρ.le ρ' → ρ'.at_ b = some b' ∧ ρ'.off b = 0 → SR P R ρ' (k b) (k' b')) : SR P R ρ (.new o k) (.new o' k')
  | shape {ρ : Rho} {r r' : Nat} {k : Option (TypeId × Nat) → Sem α} {k' : Option (TypeId × Nat) → Sem β} (h : ρ.at_ r = some r') (hk : ∀ e n n', SR P R ρ (k (some (e, n))) (k' (some (e, n')))) (hn : SR P R ρ (k none) (k' none)) : SR P R ρ (.shape r k) (.shape r' k')
  | frozen {ρ : Rho} {a a' : Addr} {k : Bool → Sem α} {k' : Bool → Sem β} (h : AR ρ a a') (hk : ∀ b, SR P R ρ (k b) (k' b)) : SR P R ρ (.frozen a k) (.frozen a' k')
  | getObj {ρ : Rho} {r r' : Nat} {k : Obj → Sem α} {k' : Obj → Sem β} (h : ρ.at_ r = some r') (hk : ∀ o o', OR ρ o o' → SR P R ρ (k o) (k' o')) : SR P R ρ (.getObj r k) (.getObj r' k')
  | setObj {ρ : Rho} {r r' : Nat} {o o' : Obj} {k : Sem α} {k' : Sem β} (h : ρ.at_ r = some r') (ho : OR ρ o o') (hk : SR P R ρ k k') : SR P R ρ (.setObj r o k) (.setObj r' o' k')
  | choose {ρ : Rho} (q : Question) {k : Nat → Sem α} {k' : Nat → Sem β} (hk : q.forced = true → SR P R ρ (k 0) (k' 0)) : SR P R ρ (.choose q k) (.choose q k')
  | program {ρ : Rho} {k : Program → Sem α} {k' : Program → Sem β} (hk : SR P R ρ (k P) (k' P)) : SR P R ρ (.program k) (.program k')
  | mark {ρ : Rho} (m : Mark) {k : Sem α} {k' : Sem β} (hk : SR P R ρ k k') : SR P R ρ (.mark m k) (.mark m k')
  | dead {ρ : Rho} {x : Sem α} (h : ∀ s, ex P x s = none) (y : Sem β) : SR P R ρ x y

theorem SR.halt {α β : Type} {P : Program} {R : Rho → α → β → Prop} {ρ : Rho} (h : Halt) (y : Sem β) : SR P R ρ (.halt h) y := .dead (fun s => by simp [ex]) y

theorem ex_bind {α β : Type} (P : Program) (f : α → Sem β) : ∀ (x : Sem α) (s : St), ex P (x.bind f) s = (match ex P x s with | some (a, s') => ex P (f a) s' | none => none) := by
  intro x
  induction x with
  | pure a => intro s; simp [Sem.bind, ex]
  | load m a k ih =>
    intro s
    simp only [Sem.bind, ex]
    split
    · cases a.spot.isSome <;> simp only [cond_true, cond_false]
      split
      · exact ih _ s
      · rfl
    · rfl
  | store m a v k ih =>
    intro s
    cases v with
    | agg xs => simp [Sem.bind, ex]
    | tuple xs => simp [Sem.bind, ex]
    | _ =>
      simp only [Sem.bind, ex]
      split
      · rename_i c e f ho
        cases (a.spot.isSome || Nat.ble f.1 a.off && Nat.blt a.off f.2 || !(Nat.blt a.off c.toList.length) || Nat.blt a.block s.ro) <;> simp only [cond_true, cond_false]
        exact ih _
      · rfl
  | new o k ih =>
    intro s
    simp only [Sem.bind, ex]
    cases Nat.blt s.next most <;> simp only [cond_true, cond_false]
    exact ih _ _
  | shape r k ih =>
    intro s
    simp only [Sem.bind, ex]
    split <;> first | exact ih _ s | rfl
  | freeze a n k ih => intro s; simp [Sem.bind, ex]
  | frozen a k ih =>
    intro s
    simp only [Sem.bind, ex]
    split
    · rename_i c e f ho
      cases Nat.blt a.off c.toList.length <;> simp only [cond_true, cond_false]
      exact ih _ s
    · exact ih _ s
    · rfl
  | getObj r k ih =>
    intro s
    simp only [Sem.bind, ex]
    split <;> first | exact ih _ s | rfl
  | setObj r o k ih =>
    intro s
    simp only [Sem.bind, ex]
    split
    · rfl
    · split
      · rfl
      · cases Nat.blt r s.ro <;> simp only [cond_true, cond_false]
        exact ih _
    · rfl
  | choose q k ih =>
    intro s
    simp only [Sem.bind, ex]
    cases q.forced <;> simp only [cond_true, cond_false]
    exact ih _ s
  | sys c k ih => intro s; simp [Sem.bind, ex]
  | program k ih => intro s; simp only [Sem.bind, ex]; exact ih _ s
  | mark m k ih => intro s; simp only [Sem.bind, ex]; exact ih s
  | halt h => intro s; simp [Sem.bind, ex]

/-- it never comes to its end -/
def Dead {α : Type} (P : Program) (x : Sem α) : Prop := ∀ s, ex P x s = none
theorem Dead.halt {α : Type} {P : Program} (h : Halt) : Dead P (.halt h : Sem α) := fun s => by simp [ex]
theorem Dead.left {α β : Type} {P : Program} {x : Sem α} (h : Dead P x) (f : α → Sem β) : Dead P (x.bind f) := fun s => by rw [ex_bind, h s]
theorem Dead.right {α β : Type} {P : Program} {x : Sem α} {f : α → Sem β} (h : ∀ a, Dead P (f a)) : Dead P (x.bind f) := fun s => by
  rw [ex_bind]
  split
  · exact h _ _
  · rfl

/-- below the small block's end both are frozen, or neither -/
theorem frozen_same {f f' : Nat × Nat} {n n' o : Nat} (hf : (f' = f ∧ f ≠ (1, 0)) ∨ (f = (1, 0) ∧ f' = (n', n' + 1))) (hs : n ≤ n') (ho : o < n) :
    (decide (f'.1 ≤ o) && decide (o < f'.2)) = (Nat.ble f.1 o && Nat.blt o f.2) := by
  have hb : (Nat.ble f.1 o && Nat.blt o f.2) = (decide (f.1 ≤ o) && decide (o < f.2)) := by
    congr 1
    · rw [Bool.eq_iff_iff]; simp
    · rw [Bool.eq_iff_iff]; simp [Nat.blt]; omega
  rw [hb]
  rcases hf with ⟨rfl, _⟩ | ⟨rfl, rfl⟩
  · rfl
  · rw [Bool.eq_iff_iff]; simp; omega

theorem obj_put (s : St) (b : Nat) (o : Obj) (j : Nat) (hb : b < most) : (s.put b o).obj j = if j = b then some o else s.obj j := by
  unfold St.put St.obj
  by_cases h : j = b
  · subst h; rw [if_pos rfl]; exact Tr.get_set_same 40 _ _ _ hb
  · rw [if_neg h]; exact Tr.get_set_other _ _ _ _ _ h
theorem obj_add (s : St) (o : Obj) (j : Nat) (hb : s.next < most) : (s.add o).obj j = if j = s.next then some o else s.obj j := by
  unfold St.add St.obj
  by_cases h : j = s.next
  · subst h; rw [if_pos rfl]; exact Tr.get_set_same 40 _ _ _ hb
  · rw [if_neg h]; exact Tr.get_set_other _ _ _ _ _ h
theorem obj_del (s : St) (b : Nat) (j : Nat) (hb : b < most) : (s.del b).obj j = if j = b then none else s.obj j := by
  unfold St.del St.obj
  by_cases h : j = b
  · subst h; rw [if_pos rfl]; exact Tr.get_set_same 40 _ _ _ hb
  · rw [if_neg h]; exact Tr.get_set_other _ _ _ _ _ h
end Go.Proofs.YtelkelfpcndckaaDoor.Sx
