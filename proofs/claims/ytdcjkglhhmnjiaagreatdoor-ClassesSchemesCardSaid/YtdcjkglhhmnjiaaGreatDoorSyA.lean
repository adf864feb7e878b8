/- A small memory beside the model's own: what a tree of operations comes to there it comes to in every world that holds that memory. -/
import GoSem.Step
import Derived.Below
import Derived.Laws.World
namespace Go.Proofs.YtdcjkglhhmnjiaaGreatDoor.Sx
noncomputable section

/-- a row by numbers -/
inductive Tr (α : Type) where
  | nil
  | node (v : Option α) (l r : Tr α)

namespace Tr
variable {α : Type}
/-- as `get` and `set`, for running -/
def getC (n : Nat) : Tr α → Nat → Option α
  | .nil, _ => none
  | .node v l r, k => if k = 0 then v else if k % 2 = 1 then getC n l (k / 2) else getC n r (k / 2 - 1)
def oneC : Nat → Nat → Option α → Tr α
  | 0, _, _ => .nil
  | n + 1, k, x => if k = 0 then .node x .nil .nil else if k % 2 = 1 then .node none (oneC n (k / 2) x) .nil else .node none .nil (oneC n (k / 2 - 1) x)
def setC (n : Nat) : Tr α → Nat → Option α → Tr α
  | .nil, k, x => oneC n k x
  | .node v l r, k, x => if k = 0 then .node x l r else if k % 2 = 1 then .node v (setC n l (k / 2) x) r else .node v l (setC n r (k / 2 - 1) x)

def get (_n : Nat) (t : Tr α) : Nat → Option α :=
  Tr.rec (motive := fun _ => Nat → Option α) (fun _ => none) (fun v _ _ gl gr k => Bool.rec (motive := fun _ => Option α) (Bool.rec (motive := fun _ => Option α) (gr (Nat.pred (Nat.div k 2))) (gl (Nat.div k 2)) (Nat.beq (Nat.mod k 2) 1)) v (Nat.beq k 0)) t
def one (n : Nat) : Nat → Option α → Tr α :=
  Nat.rec (motive := fun _ => Nat → Option α → Tr α) (fun _ _ => .nil) (fun _ ih k x => Bool.rec (motive := fun _ => Tr α) (Bool.rec (motive := fun _ => Tr α) (.node none .nil (ih (Nat.pred (Nat.div k 2)) x)) (.node none (ih (Nat.div k 2) x) .nil) (Nat.beq (Nat.mod k 2) 1)) (.node x .nil .nil) (Nat.beq k 0)) n
def set (n : Nat) (t : Tr α) : Nat → Option α → Tr α :=
  Tr.rec (motive := fun _ => Nat → Option α → Tr α) (fun k x => one n k x) (fun v l r sl sr k x => Bool.rec (motive := fun _ => Tr α) (Bool.rec (motive := fun _ => Tr α) (.node v l (sr (Nat.pred (Nat.div k 2)) x)) (.node v (sl (Nat.div k 2) x) r) (Nat.beq (Nat.mod k 2) 1)) (.node x l r) (Nat.beq k 0)) t

theorem get_node (n : Nat) (v : Option α) (l r : Tr α) (k : Nat) : get n (.node v l r) k = bif Nat.beq k 0 then v else bif Nat.beq (Nat.mod k 2) 1 then get n l (Nat.div k 2) else get n r (Nat.pred (Nat.div k 2)) := by
  show Bool.rec (motive := fun _ => Option α) (Bool.rec (motive := fun _ => Option α) (get n r (Nat.pred (Nat.div k 2))) (get n l (Nat.div k 2)) (Nat.beq (Nat.mod k 2) 1)) v (Nat.beq k 0) = _
  cases Nat.beq k 0 <;> cases Nat.beq (Nat.mod k 2) 1 <;> rfl
theorem one_succ (n k : Nat) (x : Option α) : one (n + 1) k x = bif Nat.beq k 0 then .node x .nil .nil else bif Nat.beq (Nat.mod k 2) 1 then .node none (one n (Nat.div k 2) x) .nil else .node none .nil (one n (Nat.pred (Nat.div k 2)) x) := by
  show Bool.rec (motive := fun _ => Tr α) (Bool.rec (motive := fun _ => Tr α) (.node none .nil (one n (Nat.pred (Nat.div k 2)) x)) (.node none (one n (Nat.div k 2) x) .nil) (Nat.beq (Nat.mod k 2) 1)) (.node x .nil .nil) (Nat.beq k 0) = _
  cases Nat.beq k 0 <;> cases Nat.beq (Nat.mod k 2) 1 <;> rfl
theorem set_node (n : Nat) (v : Option α) (l r : Tr α) (k : Nat) (x : Option α) : set n (.node v l r) k x = bif Nat.beq k 0 then .node x l r else bif Nat.beq (Nat.mod k 2) 1 then .node v (set n l (Nat.div k 2) x) r else .node v l (set n r (Nat.pred (Nat.div k 2)) x) := by
  show Bool.rec (motive := fun _ => Tr α) (Bool.rec (motive := fun _ => Tr α) (.node v l (set n r (Nat.pred (Nat.div k 2)) x)) (.node v (set n l (Nat.div k 2) x) r) (Nat.beq (Nat.mod k 2) 1)) (.node x l r) (Nat.beq k 0) = _
  cases Nat.beq k 0 <;> cases Nat.beq (Nat.mod k 2) 1 <;> rfl

theorem get_one_same : ∀ (n : Nat) (m k : Nat) (x : Option α), k < 2 ^ n → get m (one (n + 1) k x) k = x := by
  intro n
  induction n with
  | zero =>
    intro m k x hk
    obtain rfl : k = 0 := by simpa using hk
    rfl
  | succ n ih =>
    intro m k x hk
    have h2 : Nat.div k 2 < 2 ^ n := by show k / 2 < _; have := Nat.pow_succ 2 n; omega
    have h3 : Nat.pred (Nat.div k 2) < 2 ^ n := Nat.lt_of_le_of_lt (Nat.pred_le _) h2
    rw [one_succ]
    cases h0 : Nat.beq k 0 <;> simp only [cond_true, cond_false]
    · cases h1 : Nat.beq (Nat.mod k 2) 1 <;> simp only [cond_true, cond_false, get_node, h0, h1]
      · exact ih _ _ _ h3
      · exact ih _ _ _ h2
    · rw [get_node, h0]; rfl
theorem get_one_other : ∀ (n m : Nat) (k j : Nat) (x : Option α), j ≠ k → get m (one n k x) j = none := by
  intro n
  induction n with
  | zero => intro m k j x h; rfl
  | succ n ih =>
    intro m k j x h
    rw [one_succ]
    cases hk0 : Nat.beq k 0 <;> cases hj0 : Nat.beq j 0 <;> simp only [cond_true, cond_false]
    · cases hk1 : Nat.beq (Nat.mod k 2) 1 <;> cases hj1 : Nat.beq (Nat.mod j 2) 1 <;> simp only [cond_true, cond_false, get_node, hj0, hj1]
      · refine ih _ _ _ _ ?_
        have a' : ¬ k % 2 = 1 := fun e => by simp [show Nat.mod k 2 = 1 from e] at hk1
        have b' : ¬ j % 2 = 1 := fun e => by simp [show Nat.mod j 2 = 1 from e] at hj1
        have a0' : ¬ k = 0 := fun e => by simp [e] at hk0
        have b0' : ¬ j = 0 := fun e => by simp [e] at hj0
        show (j / 2) - 1 ≠ (k / 2) - 1
        omega
      · rfl
      · rfl
      · refine ih _ _ _ _ ?_
        have a' : k % 2 = 1 := Nat.eq_of_beq_eq_true hk1
        have b' : j % 2 = 1 := Nat.eq_of_beq_eq_true hj1
        show j / 2 ≠ k / 2
        omega
    · cases hk1 : Nat.beq (Nat.mod k 2) 1 <;> simp only [cond_true, cond_false, get_node, hj0]
    · rw [get_node, hj0]
      cases hj1 : Nat.beq (Nat.mod j 2) 1 <;> rfl
    · exact absurd ((Nat.eq_of_beq_eq_true hj0).trans (Nat.eq_of_beq_eq_true hk0).symm) h

theorem get_set_same (n : Nat) : ∀ (t : Tr α) (k : Nat) (x : Option α), k < 2 ^ n → get (n + 1) (set (n + 1) t k x) k = x := by
  intro t
  induction t with
  | nil => intro k x hk; exact get_one_same n _ k x hk
  | node v l r ihl ihr =>
    intro k x hk
    have h2 : Nat.div k 2 < 2 ^ n := Nat.lt_of_le_of_lt (Nat.div_le_self k 2) hk
    have h3 : Nat.pred (Nat.div k 2) < 2 ^ n := Nat.lt_of_le_of_lt (Nat.pred_le _) h2
    rw [set_node]
    cases h0 : Nat.beq k 0 <;> simp only [cond_true, cond_false]
    · cases h1 : Nat.beq (Nat.mod k 2) 1 <;> simp only [cond_true, cond_false, get_node, h0, h1]
      · exact ihr _ _ h3
      · exact ihl _ _ h2
    · rw [get_node, h0]; rfl

theorem get_set_other (n : Nat) : ∀ (t : Tr α) (k j : Nat) (x : Option α), j ≠ k → get n (set n t k x) j = get n t j := by
  intro t
  induction t with
  | nil => intro k j x h; exact get_one_other n n k j x h
  | node v l r ihl ihr =>
    intro k j x h
    rw [set_node, get_node n v l r]
    cases hk0 : Nat.beq k 0 <;> cases hj0 : Nat.beq j 0 <;> simp only [cond_true, cond_false]
    · cases hk1 : Nat.beq (Nat.mod k 2) 1 <;> cases hj1 : Nat.beq (Nat.mod j 2) 1 <;> simp only [cond_true, cond_false, get_node, hj0, hj1]
      · refine ihr _ _ _ ?_
        have a' : ¬ k % 2 = 1 := fun e => by simp [show Nat.mod k 2 = 1 from e] at hk1
        have b' : ¬ j % 2 = 1 := fun e => by simp [show Nat.mod j 2 = 1 from e] at hj1
        have a0' : ¬ k = 0 := fun e => by simp [e] at hk0
        have b0' : ¬ j = 0 := fun e => by simp [e] at hj0
        show (j / 2) - 1 ≠ (k / 2) - 1
        omega
      · refine ihl _ _ _ ?_
        have a' : k % 2 = 1 := Nat.eq_of_beq_eq_true hk1
        have b' : j % 2 = 1 := Nat.eq_of_beq_eq_true hj1
        show j / 2 ≠ k / 2
        omega
    · cases hk1 : Nat.beq (Nat.mod k 2) 1 <;> simp only [cond_true, cond_false, get_node, hj0]
    · rw [get_node, hj0]; rfl
    · exact absurd ((Nat.eq_of_beq_eq_true hj0).trans (Nat.eq_of_beq_eq_true hk0).symm) h
end Tr

def dep : Nat := 41
def most : Nat := 2 ^ 40

structure St where
  next : Nat
  /-- from here on to 'ro': addresses that are told apart, and nothing else of them -/
  lo : Nat
  /-- what lies below is read alone -/
  ro : Nat
  heap : Tr Obj

def St.obj (s : St) (b : Nat) : Option Obj := s.heap.get dep b
def St.put (s : St) (b : Nat) (o : Obj) : St := match s with
  | ⟨n, l, r, h⟩ => ⟨n, l, r, h.set dep b (some o)⟩
def St.del (s : St) (b : Nat) : St := match s with
  | ⟨n, l, r, h⟩ => ⟨n, l, r, h.set dep b none⟩
def St.add (s : St) (o : Obj) : St := match s with
  | ⟨n, l, r, h⟩ => ⟨Nat.succ n, l, r, h.set dep n (some o)⟩

/-- a tree of operations on the small memory -/
def ex {α : Type} (P : Program) : Sem α → St → Option (α × St)
  | .pure a, s => some (a, s)
  | .load _ a k, s => match s.obj a.block with
    | some (.cells c _ _) => bif a.spot.isSome then none else match c.toList[a.off]? with
      | some v => ex P (k v) s
      | none => none
    | _ => none
  | .store _ a v k, s =>
    match v with
    | .agg _ => none
    | .tuple _ => none
    | v => match s.obj a.block with
      | some (.cells c e f) =>
        bif a.spot.isSome || Nat.ble f.1 a.off && Nat.blt a.off f.2 || !(Nat.blt a.off c.toList.length) || Nat.blt a.block s.ro then none
        else ex P k (s.put a.block (.cells ⟨c.toList.set a.off v⟩ e f))
      | _ => none
  | .new o k, s => bif Nat.blt s.next most then ex P (k s.next) (s.add o) else none
  | .shape r k, s => match s.obj r with
    | some (.cells c e _) => ex P (k (some (e, c.size))) s
    | some _ => ex P (k none) s
    | none => none
  | .freeze _ _ _, _ => none
  | .frozen a k, s => match s.obj a.block with
    | some (.cells c _ f) => bif Nat.blt a.off c.toList.length then ex P (k (Nat.ble f.1 a.off && Nat.blt a.off f.2)) s else none
    | some _ => ex P (k false) s
    | none => none
  | .getObj r k, s => match s.obj r with
    | some (.cells ..) => none
    | some o => ex P (k o) s
    | none => none
  | .setObj r o k, s => match s.obj r with
    | some (.cells ..) => none
    | some _ => (match o with
      | .cells .. => none
      | o => bif Nat.blt r s.ro then none else ex P k (s.put r o))
    | none => none
  | .choose q k, s => bif q.forced then ex P (k 0) s else none
  | .sys _ _, _ => none
  | .program k, s => ex P (k P) s
  | .mark _ k, s => ex P k s
  | .halt _, _ => none

/-- a frame's variables as one value, and back -/
def enc : Nat → Tr Value → Value
  | 0, _ => .nilFunc
  | _ + 1, .nil => .nilFunc
  | n + 1, .node none l r => .agg ⟨[enc n l, enc n r]⟩
  | n + 1, .node (some v) l r => .agg ⟨[enc n l, enc n r, v]⟩
def dec : Nat → Value → Tr Value
  | 0, _ => .nil
  | n + 1, v => match v with
    | .agg ⟨[a, b]⟩ => .node none (dec n a) (dec n b)
    | .agg ⟨[a, b, v]⟩ => .node (some v) (dec n a) (dec n b)
    | _ => .nil
def fitsT : Nat → Tr Value → Bool
  | 0, _ => false
  | _ + 1, .nil => true
  | n + 1, .node _ l r => fitsT n l && fitsT n r
theorem dec_enc : ∀ (n : Nat) (t : Tr Value), fitsT n t = true → dec n (enc n t) = t := by
  intro n
  induction n with
  | zero => intro t h; cases h
  | succ n ih =>
    intro t h
    cases t with
    | nil => rfl
    | node v l r =>
      rw [fitsT, Bool.and_eq_true] at h
      cases v with
      | none => rw [enc, dec, ih l h.1, ih r h.2]
      | some v => rw [enc, dec, ih l h.1, ih r h.2]
def unpack (a : Array Value) : Tr Value := match a.toList with
  | [v] => dec dep v
  | _ => .nil

/-- where each block lies in the world, and how many elements it has room for where that is told -/
structure Rho where
  at_ : Nat → Option Nat
  off : Nat → Nat
  cap : Nat → Nat
  small : ∀ b, cap b ≤ 9223372036854775807
def Rho.le (ρ σ : Rho) : Prop := ∀ b c, ρ.at_ b = some c → σ.at_ b = some c ∧ σ.cap b = ρ.cap b ∧ σ.off b = ρ.off b
theorem Rho.le.refl (ρ : Rho) : ρ.le ρ := fun _ _ h => ⟨h, rfl, rfl⟩
theorem Rho.le.trans {ρ σ τ : Rho} (h : ρ.le σ) (k : σ.le τ) : ρ.le τ := fun b c e => ⟨(k b c (h b c e).1).1, (k b c (h b c e).1).2.1.trans (h b c e).2.1, (k b c (h b c e).1).2.2.trans (h b c e).2.2⟩
/-- a capacity that is not told -/
def unk : Nat := 2 ^ 41

inductive AR (ρ : Rho) : Addr → Addr → Prop where
  | mk {b c o : Nat} {s : Option Nat} (h : ρ.at_ b = some c) : AR ρ ⟨b, o, s⟩ ⟨c, ρ.off b + o, s⟩

/-- a number of which no more is told than what is left when it is divided by m: first whatever it is; then what is left by Go's own rule (q even), that with m more (q odd) -/
def Sym : FloatKind → Nat → Nat → Int → Prop
  | .f64, m, r, z => z % (m : Int) = (r : Int)
  | .f32, m, q, z => if q % 2 = 0 then -(m : Int) < z ∧ z < m ∧ z % (m : Int) = ((q / 2 : Nat) : Int) else 0 ≤ z ∧ z < 2 * (m : Int) ∧ z % (m : Int) = ((q / 2 : Nat) : Int)

inductive VR (ρ : Rho) : Value → Value → Prop where
  | bool (b : Bool) : VR ρ (.bool b) (.bool b)
  | int (k : IntKind) (n : Int) : VR ρ (.int k n) (.int k n)
  | float (k : FloatKind) (n : Nat) : VR ρ (.float k n) (.float k n)
  | sym {k : FloatKind} {m q : Nat} {z : Int} (h : Sym k m q z) : VR ρ (.complex k m q) (.int .i64 z)
  | string (s : ByteArray) : VR ρ (.string s) (.string s)
  | pnil : VR ρ (.pointer none) (.pointer none)
  | ptr {a a' : Addr} (h : AR ρ a a') : VR ρ (.pointer (some a)) (.pointer (some a'))
  | snil (n c : Nat) : VR ρ (.slice none n c) (.slice none n c)
  | slice {a a' : Addr} (n c c' : Nat) (h : AR ρ a a') (hc : (c' = c ∧ c < most) ∨ (∃ j, c = unk - j ∧ j ≤ most ∧ c' + j = ρ.cap a.block ∧ n ≤ c')) : VR ρ (.slice (some a) n c) (.slice (some a') n c')
  /-- a slice of nothing, wherever it points -/
  | void (a a' : Addr) (c' : Nat) : VR ρ (.slice (some a) 0 (unk + 1)) (.slice (some a') 0 c')
  | mnil : VR ρ (.map none) (.map none)
  | map {r r' : Nat} (h : ρ.at_ r = some r') : VR ρ (.map (some r)) (.map (some r'))
  | cnil : VR ρ (.chan none) (.chan none)
  | func (f : FuncId) {xs xs' ys ys' : Array Value} (hx : xs.size = xs'.size) (hy : ys.size = ys'.size)
      (h : ∀ (i : Nat) (x y : Value), xs[i]? = some x → xs'[i]? = some y → VR ρ x y) (k : ∀ (i : Nat) (x y : Value), ys[i]? = some x → ys'[i]? = some y → VR ρ x y) :
      VR ρ (.func (.func f) xs ys) (.func (.func f) xs' ys')
  | yield {l l' : Nat} (h : ρ.at_ l = some l') : VR ρ (.func (.yield l) #[] #[]) (.func (.yield l') #[] #[])
  | nilFunc : VR ρ .nilFunc .nilFunc
  | iface (t : TypeId) {v v' : Value} (h : VR ρ v v') : VR ρ (.iface t v) (.iface t v')
  | nilIface : VR ρ .nilIface .nilIface
  | agg {xs ys : Array Value} (hs : xs.size = ys.size) (h : ∀ (i : Nat) (x y : Value), xs[i]? = some x → ys[i]? = some y → VR ρ x y) : VR ρ (.agg xs) (.agg ys)
  | tuple {xs ys : Array Value} (hs : xs.size = ys.size) (h : ∀ (i : Nat) (x y : Value), xs[i]? = some x → ys[i]? = some y → VR ρ x y) : VR ρ (.tuple xs) (.tuple ys)

theorem AR.mono {ρ σ : Rho} {a a' : Addr} (h : AR ρ a a') (hl : ρ.le σ) : AR σ a a' := by
  cases h with | @mk b c o s e => rw [← (hl _ _ e).2.2]; exact .mk (hl _ _ e).1
theorem VR.mono {ρ σ : Rho} {v v' : Value} (h : VR ρ v v') (hl : ρ.le σ) : VR σ v v' := by
  induction h with
  | bool => exact .bool _
  | int => exact .int _ _
  | float => exact .float _ _
  | sym h => exact .sym h
  | string => exact .string _
  | pnil => exact .pnil
  | ptr h => exact .ptr (h.mono hl)
  | snil => exact .snil _ _
  | slice n c c' h hc =>
    refine .slice n c c' (h.mono hl) (hc.imp id fun ⟨j, h1, h2, h3, h4⟩ => ⟨j, h1, h2, ?_, h4⟩)
    cases h with | mk e => rw [(hl _ _ e).2.1]; exact h3
  | void a a' c' => exact .void a a' c'
  | mnil => exact .mnil
  | map h => exact .map (hl _ _ h).1
  | cnil => exact .cnil
  | func f hx hy _ _ ih ik => exact .func f hx hy ih ik
  | yield h => exact .yield (hl _ _ h).1
  | nilFunc => exact .nilFunc
  | iface t _ ih => exact .iface t ih
  | nilIface => exact .nilIface
  | agg hs _ ih => exact .agg hs ih
  | tuple hs _ ih => exact .tuple hs ih

/-- rows of values, one by one -/
def VsR (ρ : Rho) (xs ys : Array Value) : Prop := xs.size = ys.size ∧ ∀ (i : Nat) (x y : Value), xs[i]? = some x → ys[i]? = some y → VR ρ x y
theorem VsR.mono {ρ σ : Rho} {xs ys : Array Value} (h : VsR ρ xs ys) (hl : ρ.le σ) : VsR σ xs ys := ⟨h.1, fun i x y a b => (h.2 i x y a b).mono hl⟩

/-- one entry as another one -/
structure ER (ρ : Rho) (e e' : MapEntry) : Prop where
  key : e'.key = e.key
  val : VR ρ e.val e'.val
  born : e.born = e'.born

inductive OR (ρ : Rho) : Obj → Obj → Prop where
  | cells {c c' : Array Value} (e : TypeId) (f f' : Nat × Nat) (hf : (f' = f ∧ f ≠ (1, 0)) ∨ (f = (1, 0) ∧ f' = (c'.size, c'.size + 1))) (hs : c.size ≤ c'.size) (h : ∀ (i : Nat) (x y : Value), c[i]? = some x → c'[i]? = some y → VR ρ x y) : OR ρ (.cells c e f) (.cells c' e f')
  | map {es es' : Array MapEntry} (n : Nat) (hs : es.size = es'.size) (h : ∀ (i : Nat) (x y : MapEntry), es[i]? = some x → es'[i]? = some y → ER ρ x y) : OR ρ (.map es n) (.map es' n)
  | stringIter (s : ByteArray) (n : Nat) : OR ρ (.stringIter s n) (.stringIter s n)
  | loop {r r' : Loop} (hst : r'.state = r.state) (hp : r'.pending = r.pending) (hps : r'.params = r.params) (ha : r'.assign = r.assign) (hb : r'.body = r.body) (hn : r'.tmps.size = r.fn)
      (ht : ∀ t, VR ρ ((Tr.get dep (unpack r.tmps) t).getD undef) (r'.tmps.getD t undef)) : OR ρ (.loop r) (.loop r')

theorem OR.mono {ρ σ : Rho} {o o' : Obj} (h : OR ρ o o') (hl : ρ.le σ) : OR σ o o' := by
  cases h with
  | cells e f f' hf hs h => exact .cells e f f' hf hs fun i x y a b => (h i x y a b).mono hl
  | map n hs h => exact .map n hs fun i x y a b => ⟨(h i x y a b).key, (h i x y a b).val.mono hl, (h i x y a b).born⟩
  | stringIter s n => exact .stringIter s n
  | loop a b c d e f ht => exact .loop a b c d e f fun t => (ht t).mono hl

/-- how many cells a value of a type has -/
def cellsOf (P : Program) (e : TypeId) : Nat := ((P.info? e).map (·.size)).getD 0
/-- a row has room for so many -/
def Roomy (P : Program) (k : Nat) (o' : Obj) : Prop := ∀ cs e f, o' = .cells cs e f → k * cellsOf P e ≤ cs.size

/-- the small memory lies in the world -/
structure RZ (P : Program) (ρ : Rho) (s : St) (w : World) : Prop where
  obj : ∀ b o, s.obj b = some o → ∃ c o', ρ.at_ b = some c ∧ w.heap[c]? = some o' ∧ OR ρ o o' ∧ Roomy P (ρ.cap b) o' ∧ ρ.off b = 0
  inj : ∀ b b' c, (s.obj b).isSome → (s.obj b').isSome → ρ.at_ b = some c → ρ.at_ b' = some c → b = b'
  fresh : ∀ b, s.next ≤ b → ρ.at_ b = none
  lt : ∀ b c, ρ.at_ b = some c → c < w.heap.size
  roNext : s.ro ≤ s.next
  sen : ∀ b c, s.lo ≤ b → b < s.ro → ρ.at_ b = some c → (∃ cs e, w.heap[c]? = some (.cells cs e (0, 0))) ∧ ∀ j, s.ro ≤ j → (s.obj j).isSome → ρ.at_ j ≠ some c
  apart : ∀ b b' c, s.lo ≤ b → b < s.ro → s.lo ≤ b' → b' < s.ro → b ≠ b' → ρ.at_ b = some c → ρ.at_ b' = some c → ρ.off b ≠ ρ.off b'

/-- from one state to the next -/
structure ST (P : Program) (ρ : Rho) (s : St) (w : World) (ρ' : Rho) (s' : St) (w' : World) : Prop where
  le : ρ.le ρ'
  rz : RZ P ρ' s' w'
  own : ∀ b c, (s'.obj b).isSome → ρ'.at_ b = some c → c < w.heap.size → ∃ b0, (s.obj b0).isSome ∧ ρ.at_ b0 = some c
  kept : ∀ c, c < w.heap.size → (∀ b, (s.obj b).isSome → ρ.at_ b ≠ some c) → w'.heap[c]? = w.heap[c]?
  fixed : ∀ b c, b < s.ro → (s.obj b).isSome → ρ.at_ b = some c → s'.obj b = s.obj b ∧ w'.heap[c]? = w.heap[c]?
  ro : s'.ro = s.ro
  size : w.heap.size ≤ w'.heap.size
  os : w'.os = w.os
  tape : w'.tape = w.tape
  output : w'.output = w.output
  grow : s.next ≤ s'.next
  old : ∀ b, b < s.next → ρ'.at_ b = ρ.at_ b
  lo : s'.lo = s.lo

theorem ST.refl {P : Program} {ρ : Rho} {s : St} {w : World} (h : RZ P ρ s w) : ST P ρ s w ρ s w :=
  ⟨Rho.le.refl _, h, fun b _ hb e _ => ⟨b, hb, e⟩, fun _ _ _ => rfl, fun _ _ _ _ _ => ⟨rfl, rfl⟩, rfl, Nat.le_refl _, rfl, rfl, rfl, Nat.le_refl _, fun _ _ => rfl, rfl⟩

theorem ST.trans {P : Program} {ρ ρ1 ρ2 : Rho} {s s1 s2 : St} {w w1 w2 : World} (h : ST P ρ s w ρ1 s1 w1) (k : ST P ρ1 s1 w1 ρ2 s2 w2) : ST P ρ s w ρ2 s2 w2 where
  le := h.le.trans k.le
  rz := k.rz
  own b c hb e hc := by
    obtain ⟨b1, h1, e1⟩ := k.own b c hb e (Nat.lt_of_lt_of_le hc h.size)
    exact h.own b1 c h1 e1 hc
  kept c hc hn := by
    refine (k.kept c (Nat.lt_of_lt_of_le hc h.size) fun b hb e => ?_).trans (h.kept c hc hn)
    obtain ⟨b0, h0, e0⟩ := h.own b c hb e hc
    exact hn b0 h0 e0
  fixed b c hb hs e := by
    obtain ⟨h1, h2⟩ := h.fixed b c hb hs e
    obtain ⟨k1, k2⟩ := k.fixed b c (h.ro ▸ hb) (by rw [h1]; exact hs) (h.le _ _ e).1
    exact ⟨k1.trans h1, k2.trans h2⟩
  ro := k.ro.trans h.ro
  size := Nat.le_trans h.size k.size
  os := k.os.trans h.os
  tape := k.tape.trans h.tape
  output := k.output.trans h.output
  grow := Nat.le_trans h.grow k.grow
  old b hb := (k.old b (Nat.lt_of_lt_of_le hb h.grow)).trans (h.old b hb)
  lo := k.lo.trans h.lo

/-- two trees of operations that do the same, on memories that are the same but for their blocks' numbers: where the first one stops nothing is asked of the second -/
inductive SR {α β : Type} (P : Program) (R : Rho → α → β → Prop) : Rho → Sem α → Sem β → Prop where
  | pure {ρ : Rho} {a : α} {b : β} (h : R ρ a b) : SR P R ρ (.pure a) (.pure b)
  | load {ρ : Rho} (m : Mode) {a a' : Addr} {k : Value → Sem α} {k' : Value → Sem β} (h : AR ρ a a') (hk : ∀ v v', VR ρ v v' → SR P R ρ (k v) (k' v')) : SR P R ρ (.load m a k) (.load m a' k')
  | store {ρ : Rho} (m : Mode) {a a' : Addr} {v v' : Value} {k : Sem α} {k' : Sem β} (h : AR ρ a a') (hv : VR ρ v v') (hk : SR P R ρ k k') : SR P R ρ (.store m a v k) (.store m a' v' k')
  | new {ρ : Rho} {o o' : Obj} {k : Nat → Sem α} {k' : Nat → Sem β} (h : OR ρ o o') (hk : ∀ ρ' b b', ρ.le ρ' → ρ'.at_ b = some b' ∧ ρ'.off b = 0 → SR P R ρ' (k b) (k' b')) : SR P R ρ (.new o k) (.new o' k')
  | shape {ρ : Rho} {r r' : Nat} {k : Option (TypeId × Nat) → Sem α} {k' : Option (TypeId × Nat) → Sem β} (h : ρ.at_ r = some r') (hk : ∀ e n n', SR P R ρ (k (some (e, n))) (k' (some (e, n')))) (hn : SR P R ρ (k none) (k' none)) : SR P R ρ (.shape r k) (.shape r' k')
  | frozen {ρ : Rho} {a a' : Addr} {k : Bool → Sem α} {k' : Bool → Sem β} (h : AR ρ a a') (hk : ∀ b, SR P R ρ (k b) (k' b)) : SR P R ρ (.frozen a k) (.frozen a' k')
  | getObj {ρ : Rho} {r r' : Nat} {k : Obj → Sem α} {k' : Obj → Sem β} (h : ρ.at_ r = some r') (hk : ∀ o o', OR ρ o o' → SR P R ρ (k o) (k' o')) : SR P R ρ (.getObj r k) (.getObj r' k')
  | setObj {ρ : Rho} {r r' : Nat} {o o' : Obj} {k : Sem α} {k' : Sem β} (h : ρ.at_ r = some r') (ho : OR ρ o o') (hk : SR P R ρ k k') : SR P R ρ (.setObj r o k) (.setObj r' o' k')
  | choose {ρ : Rho} (q : Question) {k : Nat → Sem α} {k' : Nat → Sem β} (hk : q.forced = true → SR P R ρ (k 0) (k' 0)) : SR P R ρ (.choose q k) (.choose q k')
  | program {ρ : Rho} {k : Program → Sem α} {k' : Program → Sem β} (hk : SR P R ρ (k P) (k' P)) : SR P R ρ (.program k) (.program k')
  | mark {ρ : Rho} (m : Mark) {k : Sem α} {k' : Sem β} (hk : SR P R ρ k k') : SR P R ρ (.mark m k) (.mark m k')
  | dead {ρ : Rho} {x : Sem α} (h : ∀ s, ex P x s = none) (y : Sem β) : SR P R ρ x y

theorem SR.halt {α β : Type} {P : Program} {R : Rho → α → β → Prop} {ρ : Rho} (h : Halt) (y : Sem β) : SR P R ρ (.halt h) y := .dead (fun s => by simp [ex]) y

theorem ex_bind {α β : Type} (P : Program) (f : α → Sem β) : ∀ (x : Sem α) (s : St), ex P (x.bind f) s = (match ex P x s with | some (a, s') => ex P (f a) s' | none => none) := by
  intro x
  induction x with
  | pure a => intro s; simp [Sem.bind, ex]
  | load m a k ih =>
    intro s
    simp only [Sem.bind, ex]
    split
    · cases a.spot.isSome <;> simp only [cond_true, cond_false]
      split
      · exact ih _ s
      · rfl
    · rfl
  | store m a v k ih =>
    intro s
    cases v with
    | agg xs => simp [Sem.bind, ex]
    | tuple xs => simp [Sem.bind, ex]
    | _ =>
      simp only [Sem.bind, ex]
      split
      · rename_i c e f ho
        cases (a.spot.isSome || Nat.ble f.1 a.off && Nat.blt a.off f.2 || !(Nat.blt a.off c.toList.length) || Nat.blt a.block s.ro) <;> simp only [cond_true, cond_false]
        exact ih _
      · rfl
  | new o k ih =>
    intro s
    simp only [Sem.bind, ex]
    cases Nat.blt s.next most <;> simp only [cond_true, cond_false]
    exact ih _ _
  | shape r k ih =>
    intro s
    simp only [Sem.bind, ex]
    split <;> first | exact ih _ s | rfl
  | freeze a n k ih => intro s; simp [Sem.bind, ex]
  | frozen a k ih =>
    intro s
    simp only [Sem.bind, ex]
    split
    · rename_i c e f ho
      cases Nat.blt a.off c.toList.length <;> simp only [cond_true, cond_false]
      exact ih _ s
    · exact ih _ s
    · rfl
  | getObj r k ih =>
    intro s
    simp only [Sem.bind, ex]
    split <;> first | exact ih _ s | rfl
  | setObj r o k ih =>
    intro s
    simp only [Sem.bind, ex]
    split
    · rfl
    · split
      · rfl
      · cases Nat.blt r s.ro <;> simp only [cond_true, cond_false]
        exact ih _
    · rfl
  | choose q k ih =>
    intro s
    simp only [Sem.bind, ex]
    cases q.forced <;> simp only [cond_true, cond_false]
    exact ih _ s
  | sys c k ih => intro s; simp [Sem.bind, ex]
  | program k ih => intro s; simp only [Sem.bind, ex]; exact ih _ s
  | mark m k ih => intro s; simp only [Sem.bind, ex]; exact ih s
  | halt h => intro s; simp [Sem.bind, ex]

/-- it never comes to its end -/
def Dead {α : Type} (P : Program) (x : Sem α) : Prop := ∀ s, ex P x s = none
theorem Dead.halt {α : Type} {P : Program} (h : Halt) : Dead P (.halt h : Sem α) := fun s => by simp [ex]
theorem Dead.left {α β : Type} {P : Program} {x : Sem α} (h : Dead P x) (f : α → Sem β) : Dead P (x.bind f) := fun s => by rw [ex_bind, h s]
theorem Dead.right {α β : Type} {P : Program} {x : Sem α} {f : α → Sem β} (h : ∀ a, Dead P (f a)) : Dead P (x.bind f) := fun s => by
  rw [ex_bind]
  split
  · exact h _ _
  · rfl

/-- below the small block's end both are frozen, or neither -/
theorem frozen_same {f f' : Nat × Nat} {n n' o : Nat} (hf : (f' = f ∧ f ≠ (1, 0)) ∨ (f = (1, 0) ∧ f' = (n', n' + 1))) (hs : n ≤ n') (ho : o < n) :
    (decide (f'.1 ≤ o) && decide (o < f'.2)) = (Nat.ble f.1 o && Nat.blt o f.2) := by
  have hb : (Nat.ble f.1 o && Nat.blt o f.2) = (decide (f.1 ≤ o) && decide (o < f.2)) := by
    congr 1
    · rw [Bool.eq_iff_iff]; simp
    · rw [Bool.eq_iff_iff]; simp [Nat.blt]; omega
  rw [hb]
  rcases hf with ⟨rfl, _⟩ | ⟨rfl, rfl⟩
  · rfl
  · rw [Bool.eq_iff_iff]; simp; omega

theorem obj_put (s : St) (b : Nat) (o : Obj) (j : Nat) (hb : b < most) : (s.put b o).obj j = if j = b then some o else s.obj j := by
  unfold St.put St.obj
  by_cases h : j = b
  · subst h; rw [if_pos rfl]; exact Tr.get_set_same 40 _ _ _ hb
  · rw [if_neg h]; exact Tr.get_set_other _ _ _ _ _ h
theorem obj_add (s : St) (o : Obj) (j : Nat) (hb : s.next < most) : (s.add o).obj j = if j = s.next then some o else s.obj j := by
  unfold St.add St.obj
  by_cases h : j = s.next
  · subst h; rw [if_pos rfl]; exact Tr.get_set_same 40 _ _ _ hb
  · rw [if_neg h]; exact Tr.get_set_other _ _ _ _ _ h
theorem obj_del (s : St) (b : Nat) (j : Nat) (hb : b < most) : (s.del b).obj j = if j = b then none else s.obj j := by
  unfold St.del St.obj
  by_cases h : j = b
  · subst h; rw [if_pos rfl]; exact Tr.get_set_same 40 _ _ _ hb
  · rw [if_neg h]; exact Tr.get_set_other _ _ _ _ _ h
end
end Go.Proofs.YtdcjkglhhmnjiaaGreatDoor.Sx
