/- The parser of expressions, plain: from words to trees; no program. -/
import Derived.Lib.Bytealg
namespace Go.Proofs.YtdooeghicdaakaaGreatDoor

structure Wd where
  kind : Int
  pos : Int
  text : ByteArray
  num : Int
def Wd.zero : Wd := ⟨0, 0, ⟨#[]⟩, 0⟩
inductive Ty where
  | mk (kind : Int) (name : ByteArray) (args : List Ty)
structure Sch where
  vars : List ByteArray
  ctx : List (ByteArray × Ty)
  ty : Ty
mutual
inductive E where
  | mk (kind pos : Int) (name : ByteArray) (num : Int) (kids : List E) (alts : List Al) (binds : List Bd)
inductive Al where
  | mk (con : ByteArray) (vars : List ByteArray) (body : E) (pos : Int)
inductive Bd where
  | mk (name : ByteArray) (signed : Bool) (sig : Sch) (body : E) (pos : Int)
end
namespace Ty
def kind : Ty → Int | mk k _ _ => k
def name : Ty → ByteArray | mk _ n _ => n
def args : Ty → List Ty | mk _ _ l => l
def zero : Ty := mk 0 ⟨#[]⟩ []
end Ty
namespace E
def kind : E → Int | mk k _ _ _ _ _ _ => k
def pos : E → Int | mk _ p _ _ _ _ _ => p
def name : E → ByteArray | mk _ _ n _ _ _ _ => n
def num : E → Int | mk _ _ _ m _ _ _ => m
def kids : E → List E | mk _ _ _ _ l _ _ => l
def alts : E → List Al | mk _ _ _ _ _ l _ => l
def binds : E → List Bd | mk _ _ _ _ _ _ l => l
def zero : E := mk 0 0 ⟨#[]⟩ 0 [] [] []
end E
namespace Al
def con : Al → ByteArray | mk c _ _ _ => c
def vars : Al → List ByteArray | mk _ v _ _ => v
def body : Al → E | mk _ _ b _ => b
def pos : Al → Int | mk _ _ _ p => p
end Al
namespace Bd
def name : Bd → ByteArray | mk n _ _ _ _ => n
def signed : Bd → Bool | mk _ s _ _ _ => s
def sig : Bd → Sch | mk _ _ s _ _ => s
def body : Bd → E | mk _ _ _ b _ => b
def pos : Bd → Int | mk _ _ _ _ p => p
end Bd

structure Cx where
  ws : List Wd
  len : Int
structure St where
  next : Nat
  deep : Nat
  fault : Option (Int × Bool)

def ahead (c : Cx) (s : St) (n : Nat) : Wd := (c.ws[s.next + n]?).getD ⟨0, c.len, ⟨#[]⟩, 0⟩
def word (c : Cx) (s : St) : Wd := ahead c s 0
def isT (c : Cx) (s : St) (t : List UInt8) : Bool := (word c s).text.data.toList == t
def step (s : St) : St := { s with next := s.next + 1 }
def failS (c : Cx) (s : St) (pos : Int) (lim : Bool) : St := { s with next := c.ws.length, fault := match s.fault with | none => some (pos, lim) | some f => some f }
def wrongS (c : Cx) (s : St) : St := failS c s (word c s).pos false
def skips (c : Cx) (s : St) (t : List UInt8) : Bool := decide (s.next < c.ws.length) && isT c s t
def skipS (c : Cx) (s : St) (t : List UInt8) : St := if skips c s t then step s else s
def needS (c : Cx) (s : St) (t : List UInt8) : St := if skips c s t then step s else wrongS c s
def takeP (c : Cx) (s : St) (k : Int) : Wd × St := if (word c s).kind = k then (word c s, step s) else (Wd.zero, wrongS c s)
def left (c : Cx) (s : St) : Nat := c.ws.length - s.next

def within {α : Type} (c : Cx) (z : α) (rd : St → α × St) (s : St) : α × St :=
  if s.deep = 200 then (z, failS c s (word c s).pos true) else
    let r := rd { s with deep := s.deep + 1 }
    (r.1, { r.2 with deep := r.2.deep - 1 })
def inBr {α : Type} (c : Cx) (rd : St → α × St) (s : St) : α × St :=
  let r := rd (needS c s [40])
  (r.1, needS c r.2 [41])

def begVar (c : Cx) (s : St) : Bool := decide ((word c s).kind = 1) || isT c s [40] && decide ((ahead c s 1).kind = 5)
def begAtom (c : Cx) (s : St) : Bool := (decide ((word c s).kind = 1) || decide ((word c s).kind = 2) || decide ((word c s).kind = 3) || decide ((word c s).kind = 4)) || isT c s [40]
def nameP (c : Cx) (s : St) : Wd × St := if isT c s [40] then inBr c (fun s => takeP c s 5) s else takeP c s 1
def varsP (c : Cx) : Nat → List ByteArray → St → List ByteArray × St
  | 0, l, s => (l, s)
  | n + 1, l, s => if begVar c s then varsP c n (l ++ [(nameP c s).1.text]) (nameP c s).2 else (l, s)
def variablesP (c : Cx) (s : St) : List ByteArray × St := varsP c (left c s + 1) [] s

def varE (w : Wd) : E := .mk 1 w.pos w.text 0 [] [] []
def applyE (f x : E) : E := .mk 5 f.pos ⟨#[]⟩ 0 [f, x] [] []
def opE (op : Wd) (a b : E) : E := applyE (applyE (varE op) a) b
def lamE (pos : Int) (n : ByteArray) (b : E) : E := .mk 6 pos n 0 [b] [] []
def lambdasE (pos : Int) (vs : List ByteArray) (b : E) : E := vs.foldr (lamE pos) b

section
variable (c : Cx) (rec : St → E × St)
def atomF (s : St) : E × St :=
  if begVar c s then (varE (nameP c s).1, (nameP c s).2)
  else if isT c s [40] then within c E.zero (inBr c rec) s
  else if (word c s).kind = 2 then (.mk 2 (word c s).pos (word c s).text 0 [] [] [], step s)
  else if (word c s).kind = 3 then (.mk 3 (word c s).pos ⟨#[]⟩ (word c s).num [] [] [], step s)
  else if (word c s).kind = 4 then (.mk 4 (word c s).pos ⟨#[]⟩ (word c s).num [] [] [], step s)
  else (E.zero, wrongS c s)
def appL : Nat → E → St → E × St
  | 0, e, s => (e, s)
  | n + 1, e, s => if begAtom c s then appL n (applyE e (atomF c rec s).1) (atomF c rec s).2 else (e, s)
def appF (s : St) : E × St := appL c rec (left c s + 1) (atomF c rec s).1 (atomF c rec s).2
def prodL : Nat → E → St → E × St
  | 0, e, s => (e, s)
  | n + 1, e, s => if isT c s [42] then prodL n (opE (takeP c s 5).1 e (appF c rec (takeP c s 5).2).1) (appF c rec (takeP c s 5).2).2 else (e, s)
def prodF (s : St) : E × St := prodL c rec (left c s + 1) (appF c rec s).1 (appF c rec s).2
def sumL : Nat → E → St → E × St
  | 0, e, s => (e, s)
  | n + 1, e, s => if isT c s [43] || isT c s [45] then sumL n (opE (takeP c s 5).1 e (prodF c rec (takeP c s 5).2).1) (prodF c rec (takeP c s 5).2).2 else (e, s)
def sumF (s : St) : E × St := sumL c rec (left c s + 1) (prodF c rec s).1 (prodF c rec s).2
def cmpF (s : St) : E × St :=
  let a := sumF c rec s
  if (word c a.2).kind = 5 then
    let t := takeP c a.2 5
    let b := sumF c rec t.2
    (opE t.1 a.1 b.1, b.2)
  else a
def lamF (s : St) : E × St :=
  let v := variablesP c (needS c s [92])
  let b := rec (needS c (if v.1 = [] then wrongS c v.2 else v.2) [45, 62])
  (lambdasE (word c s).pos v.1 b.1, b.2)
def ifF (s : St) : E × St :=
  let a := rec (needS c s [105, 102])
  let y := rec (needS c a.2 [116, 104, 101, 110])
  let n := rec (needS c y.2 [101, 108, 115, 101])
  (.mk 8 (word c s).pos ⟨#[]⟩ 0 [a.1] [.mk ⟨#[84, 114, 117, 101]⟩ [] y.1 (word c s).pos, .mk ⟨#[70, 97, 108, 115, 101]⟩ [] n.1 (word c s).pos] [], n.2)
end
end Go.Proofs.YtdooeghicdaakaaGreatDoor
