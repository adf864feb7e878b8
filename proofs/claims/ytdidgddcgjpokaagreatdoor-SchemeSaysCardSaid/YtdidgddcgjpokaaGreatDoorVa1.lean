/- Merged: TyPlain, TyPure, SbPure, TyMem, TySame, TyCmp, SbMem, SbSort, SbClear, SbCompact, SbDelete, SbGather, SbFind, SbApply. -/
import Derived.WalkKit
import Derived.Sort.LotA
import Derived.Lib.SlKept
import Derived.Test.YtdidgddcgjpokaaGreatDoorRows
import Derived.Test.YtdidgddcgjpokaaGreatDoorChecked
import Derived.WalkSpells
import Derived.WalkLawsBesides
import Derived.Lib.Hide
import Derived.BigQuiet
import Derived.Maps.AppendAt
import Derived.OwnWalk
import Derived.Deep.RegionWith
import Derived.Lib.Strings
import Derived.Lib.Slices
import Derived.LoopN
import Derived.Deep.CutRange
import Derived.BigRegion
import Derived.Deep.RegionHeld3
import Derived.Deep.DrawnRows
import Derived.Shelf.SlSortCmp.InsertionK
import Derived.Lib.SliceRun
/- Types as plain data, their texts, and that unlike types have unlike texts. -/
namespace Go.Proofs.YtdidgddcgjpokaaGreatDoor

inductive T where
  | var (n : ByteArray)
  | con (n : ByteArray) (l : List T)
  | fn (a b : T)
  | all (n : ByteArray) (a : T)

namespace T
def arrow : T → Bool
  | fn _ _ => true
  | all _ _ => true
  | _ => false
def wide : T → Bool
  | fn _ _ => true
  | all _ _ => true
  | con _ l => !l.isEmpty
  | var _ => false
def br (b : Bool) (s : List UInt8) : List UInt8 := if b then [40] ++ (s ++ [41]) else s
mutual
def text : T → List UInt8
  | var n => n.data.toList
  | con n l => n.data.toList ++ texts l
  | fn a b => br a.arrow (text a) ++ ([32, 45, 62, 32] ++ text b)
  | all n a => [102, 111, 114, 97, 108, 108, 32] ++ (n.data.toList ++ ([46, 32] ++ text a))
def texts : List T → List UInt8
  | [] => []
  | t :: r => ([32] ++ br t.wide (text t)) ++ texts r
end
def arg (t : T) : List UInt8 := br t.wide t.text
theorem texts_cons (t : T) (r : List T) : texts (t :: r) = ([32] ++ arg t) ++ texts r := by rw [texts]; rfl

/-- The names of types that the statement makes. -/
def vnames : List (List UInt8) := [[97], [98], [99]]
def cnames : List (List UInt8) := [[73, 110, 116], [66, 111, 111, 108], [76, 105, 115, 116], [80, 97, 105, 114]]
mutual
def Good : T → Prop
  | var n => n.data.toList ∈ vnames
  | con n l => n.data.toList ∈ cnames ∧ Goods l
  | fn a b => Good a ∧ Good b
  | all _ _ => False
def Goods : List T → Prop
  | [] => True
  | t :: r => Good t ∧ Goods r
end

end T
end Go.Proofs.YtdidgddcgjpokaaGreatDoor
/- Types as plain data: their order, how many parts, the parts, the free variables. -/
namespace Go.Proofs.YtdidgddcgjpokaaGreatDoor

namespace T
def kind : T → Int
  | var _ => 1
  | con _ _ => 2
  | fn _ _ => 3
  | all _ _ => 4
def name : T → ByteArray
  | var n => n
  | con n _ => n
  | fn _ _ => ⟨#[]⟩
  | all n _ => n
def kids : T → List T
  | var _ => []
  | con _ l => l
  | fn a b => [a, b]
  | all _ a => [a]
theorem kid_size {t k : T} (h : k ∈ t.kids) : SizeOf.sizeOf k < SizeOf.sizeOf t := by
  cases t with
  | var n => cases h
  | con n l => have := List.sizeOf_lt_of_mem h; simp [kids] at this ⊢; omega
  | fn a b =>
    simp [kids] at h
    rcases h with rfl | rfl <;> simp <;> omega
  | all n a =>
    simp [kids] at h
    subst h; simp; omega
theorem ext3 {t u : T} (h1 : t.kind = u.kind) (h2 : t.name = u.name) (h3 : t.kids = u.kids) : t = u := by
  cases t <;> cases u <;> simp_all [kind, name, kids]
end T

/-- -1, 0, 1. -/
def sgn (a b : Int) : Int := if a < b then -1 else if b < a then 1 else 0
/-- The first that is not 0. -/
def orI (a b : Int) : Int := if a = 0 then b else a
def Tri (p q r : Int) : Prop :=
  (p ≤ 0 → q ≤ 0 → r ≤ 0) ∧ (0 ≤ p → 0 ≤ q → 0 ≤ r) ∧ (p ≤ 0 → q ≤ 0 → r = 0 → p = 0 ∧ q = 0) ∧ (0 ≤ p → 0 ≤ q → r = 0 → p = 0 ∧ q = 0)
theorem sgn_neg (a b : Int) : sgn b a = - sgn a b := by unfold sgn; (repeat' split) <;> omega
theorem sgn_zero {a b : Int} : sgn a b = 0 ↔ a = b := by unfold sgn; (repeat' split) <;> omega
theorem sgn_tri (a b c : Int) : Tri (sgn a b) (sgn b c) (sgn a c) := by
  unfold Tri sgn
  (repeat' split) <;> omega
theorem orI_neg (p q : Int) : orI (-p) (-q) = - orI p q := by unfold orI; (repeat' split) <;> omega
theorem orI_zero {p q : Int} : orI p q = 0 ↔ p = 0 ∧ q = 0 := by unfold orI; split <;> omega
theorem orI_tri {p q r p' q' r' : Int} (h : Tri p q r) (h' : Tri p' q' r') : Tri (orI p p') (orI q q') (orI r r') := by
  obtain ⟨a1, a2, a3, a4⟩ := h
  obtain ⟨b1, b2, b3, b4⟩ := h'
  unfold Tri
  by_cases hp : p = 0 <;> by_cases hq : q = 0 <;> by_cases hr : r = 0
  · rw [orI, if_pos hp, orI, if_pos hq, orI, if_pos hr]; exact ⟨b1, b2, b3, b4⟩
  · exact absurd (show r = 0 by have := a1 (by omega) (by omega); have := a2 (by omega) (by omega); omega) hr
  · rw [orI, if_pos hp, orI, if_neg hq, orI, if_pos hr]
    exact ⟨fun _ _ => absurd (a3 (by omega) (by omega) hr).2 hq, fun _ _ => absurd (a4 (by omega) (by omega) hr).2 hq, fun _ _ => absurd (a3 (by omega) (by omega) hr).2 hq, fun _ _ => absurd (a4 (by omega) (by omega) hr).2 hq⟩
  · rw [orI, if_pos hp, orI, if_neg hq, orI, if_neg hr]
    exact ⟨fun _ _ => a1 (by omega) (by omega), fun _ _ => a2 (by omega) (by omega), fun _ _ h => absurd h hr, fun _ _ h => absurd h hr⟩
  · rw [orI, if_neg hp, orI, if_pos hq, orI, if_pos hr]
    exact ⟨fun _ _ => absurd (a3 (by omega) (by omega) hr).1 hp, fun _ _ => absurd (a4 (by omega) (by omega) hr).1 hp, fun _ _ => absurd (a3 (by omega) (by omega) hr).1 hp, fun _ _ => absurd (a4 (by omega) (by omega) hr).1 hp⟩
  · rw [orI, if_neg hp, orI, if_pos hq, orI, if_neg hr]
    exact ⟨fun _ _ => a1 (by omega) (by omega), fun _ _ => a2 (by omega) (by omega), fun _ _ h => absurd h hr, fun _ _ h => absurd h hr⟩
  · rw [orI, if_neg hp, orI, if_neg hq, orI, if_pos hr]
    exact ⟨fun h k => absurd (a3 h k hr).1 hp, fun h k => absurd (a4 h k hr).1 hp, fun h k _ => absurd (a3 h k hr).1 hp, fun h k _ => absurd (a4 h k hr).1 hp⟩
  · rw [orI, if_neg hp, orI, if_neg hq, orI, if_neg hr]
    exact ⟨a1, a2, a3, a4⟩
def Unit1 (p : Int) : Prop := p = -1 ∨ p = 0 ∨ p = 1
theorem sgn_unit (a b : Int) : Unit1 (sgn a b) := by unfold sgn Unit1; (repeat' split) <;> omega
theorem orI_unit {p q : Int} (h : Unit1 p) (k : Unit1 q) : Unit1 (orI p q) := by unfold orI; split <;> assumption

def cmpL : List UInt8 → List UInt8 → Int
  | [], [] => 0
  | [], _ :: _ => -1
  | _ :: _, [] => 1
  | a :: x, b :: y => orI (sgn a.toNat b.toNat) (cmpL x y)
theorem cmpL_neg : ∀ x y, cmpL y x = - cmpL x y
  | [], [] => rfl
  | [], _ :: _ => rfl
  | _ :: _, [] => rfl
  | a :: x, b :: y => by rw [cmpL, cmpL, sgn_neg, cmpL_neg x y, orI_neg]
theorem u8_eq {a b : UInt8} : (a.toNat : Int) = b.toNat ↔ a = b := by
  constructor
  · intro h
    exact UInt8.toNat_inj.1 (by omega)
  · rintro rfl; rfl
theorem cmpL_zero : ∀ {x y}, cmpL x y = 0 ↔ x = y
  | [], [] => by simp [cmpL]
  | [], _ :: _ => by simp [cmpL]
  | _ :: _, [] => by simp [cmpL]
  | a :: x, b :: y => by rw [cmpL, orI_zero, sgn_zero, cmpL_zero, u8_eq]; simp
theorem cmpL_unit : ∀ x y, Unit1 (cmpL x y)
  | [], [] => by simp [cmpL, Unit1]
  | [], _ :: _ => by simp [cmpL, Unit1]
  | _ :: _, [] => by simp [cmpL, Unit1]
  | a :: x, b :: y => by rw [cmpL]; exact orI_unit (sgn_unit _ _) (cmpL_unit x y)
theorem cmpL_tri : ∀ x y z, Tri (cmpL x y) (cmpL y z) (cmpL x z)
  | [], [], [] => by simp [cmpL, Tri]
  | [], [], _ :: _ => by simp [cmpL, Tri]
  | [], _ :: _, [] => by simp [cmpL, Tri]
  | _ :: _, [], [] => by simp [cmpL, Tri]
  | [], b :: y, c :: z => by
    have := cmpL_unit (b :: y) (c :: z)
    generalize cmpL (b :: y) (c :: z) = q at this ⊢
    unfold Unit1 at this
    unfold Tri
    simp only [cmpL]
    omega
  | a :: x, [], c :: z => by
    have := cmpL_unit (a :: x) (c :: z)
    generalize cmpL (a :: x) (c :: z) = q at this ⊢
    unfold Unit1 at this
    unfold Tri
    simp only [cmpL]
    omega
  | a :: x, b :: y, [] => by
    have := cmpL_unit (a :: x) (b :: y)
    generalize cmpL (a :: x) (b :: y) = q at this ⊢
    unfold Unit1 at this
    unfold Tri
    simp only [cmpL]
    omega
  | a :: x, b :: y, c :: z => by
    rw [cmpL, cmpL, cmpL]
    exact orI_tri (sgn_tri _ _ _) (cmpL_tri x y z)
theorem less_cmpL : ∀ x y, Op.bytesLess x y = decide (cmpL x y < 0)
  | [], [] => by simp [cmpL, Op.bytesLess]
  | [], _ :: _ => by simp [cmpL, Op.bytesLess]
  | _ :: _, [] => by simp [cmpL, Op.bytesLess]
  | a :: x, b :: y => by
    rw [cmpL, Op.bytesLess, less_cmpL x y]
    by_cases h : a = b
    · subst h
      have : sgn (a.toNat : Int) a.toNat = 0 := sgn_zero.2 rfl
      simp [this, orI]
    · have hn : ¬ sgn (a.toNat : Int) b.toNat = 0 := fun e => h (u8_eq.1 (sgn_zero.1 e))
      have e1 : (a == b) = false := by simpa using h
      rw [e1, orI, if_neg hn]
      by_cases hlt : a < b
      · have : a.toNat < b.toNat := hlt
        simp [hlt, sgn, this]
      · have : ¬ a.toNat < b.toNat := hlt
        simp only [hlt, decide_false, Bool.false_and, Bool.or_false]
        unfold sgn
        rw [if_neg (by omega)]
        split <;> simp
theorem beq_cmpL (x y : List UInt8) : (x == y) = decide (cmpL x y = 0) := by
  by_cases h : x = y
  · subst h; simp [cmpL_zero.2 rfl]
  · have : ¬ cmpL x y = 0 := fun e => h (cmpL_zero.1 e)
    simp [this, h]

mutual
def cmpT : T → T → Int
  | .var n, u => orI (sgn 1 u.kind) (orI (cmpL n.data.toList u.name.data.toList) (orI (sgn 0 u.kids.length) (match u.kids with | [] => 0 | _ :: _ => -1)))
  | .con n l, u => orI (sgn 2 u.kind) (orI (cmpL n.data.toList u.name.data.toList) (orI (sgn l.length u.kids.length) (cmpTs l u.kids)))
  | .fn a b, u => orI (sgn 3 u.kind) (orI (cmpL [] u.name.data.toList) (orI (sgn 2 u.kids.length) (match u.kids with
    | [] => 1
    | c :: r => orI (cmpT a c) (match r with
      | [] => 1
      | d :: r' => orI (cmpT b d) (match r' with | [] => 0 | _ :: _ => -1)))))
  | .all n a, u => orI (sgn 4 u.kind) (orI (cmpL n.data.toList u.name.data.toList) (orI (sgn 1 u.kids.length) (match u.kids with
    | [] => 1
    | c :: r => orI (cmpT a c) (match r with | [] => 0 | _ :: _ => -1))))
def cmpTs : List T → List T → Int
  | [], [] => 0
  | [], _ :: _ => -1
  | _ :: _, [] => 1
  | a :: l, b :: m => orI (cmpT a b) (cmpTs l m)
end
theorem cmpTs_nil (m : List T) : cmpTs [] m = (match m with | [] => 0 | _ :: _ => -1) := by cases m <;> rw [cmpTs]
theorem cmpT_eq (t u : T) : cmpT t u = orI (sgn t.kind u.kind) (orI (cmpL t.name.data.toList u.name.data.toList) (orI (sgn t.kids.length u.kids.length) (cmpTs t.kids u.kids))) := by
  cases t with
  | var n => rw [cmpT]; simp only [T.kind, T.name, T.kids, cmpTs_nil]; rfl
  | con n l => rw [cmpT]; simp only [T.kind, T.name, T.kids]
  | fn a b =>
    rw [cmpT]
    show _ = orI (sgn 3 u.kind) (orI (cmpL [] u.name.data.toList) (orI (sgn 2 u.kids.length) (cmpTs [a, b] u.kids)))
    generalize u.kids = m
    match m with
    | [] => rw [cmpTs]
    | [c] => rw [cmpTs, cmpTs]
    | c :: d :: r => rw [cmpTs, cmpTs, cmpTs_nil]
  | all n a =>
    rw [cmpT]
    show _ = orI (sgn 4 u.kind) (orI (cmpL n.data.toList u.name.data.toList) (orI (sgn 1 u.kids.length) (cmpTs [a] u.kids)))
    generalize u.kids = m
    match m with
    | [] => rw [cmpTs]
    | c :: r => rw [cmpTs, cmpTs_nil]

theorem cmpTs_neg : ∀ l m : List T, (∀ k ∈ l, ∀ u, cmpT u k = - cmpT k u) → cmpTs m l = - cmpTs l m
  | [], [], _ => by rw [cmpTs]; rfl
  | [], _ :: _, _ => by rw [cmpTs, cmpTs]; rfl
  | _ :: _, [], _ => by rw [cmpTs, cmpTs]
  | a :: l, b :: m, H => by
    rw [cmpTs, cmpTs, H a (List.mem_cons_self ..), cmpTs_neg l m (fun k hk => H k (List.mem_cons_of_mem _ hk)), orI_neg]
theorem cmp_neg (t u : T) : cmpT u t = - cmpT t u := by
  rw [cmpT_eq, cmpT_eq t u, sgn_neg t.kind, cmpL_neg t.name.data.toList, sgn_neg t.kids.length, cmpTs_neg t.kids u.kids (fun k hk v => cmp_neg k v), orI_neg, orI_neg, orI_neg]
termination_by SizeOf.sizeOf t
decreasing_by exact T.kid_size hk
theorem cmpTs_zero : ∀ l m : List T, (∀ k ∈ l, ∀ u, cmpT k u = 0 ↔ k = u) → (cmpTs l m = 0 ↔ l = m)
  | [], [], _ => by simp [cmpTs]
  | [], _ :: _, _ => by simp [cmpTs]
  | _ :: _, [], _ => by simp [cmpTs]
  | a :: l, b :: m, H => by
    rw [cmpTs, orI_zero, H a (List.mem_cons_self ..), cmpTs_zero l m (fun k hk => H k (List.mem_cons_of_mem _ hk))]
    simp
theorem cmp_zero (t u : T) : cmpT t u = 0 ↔ t = u := by
  rw [cmpT_eq, orI_zero, orI_zero, orI_zero, sgn_zero, cmpL_zero, cmpTs_zero t.kids u.kids (fun k hk v => cmp_zero k v)]
  constructor
  · rintro ⟨h1, h2, _, h3⟩
    exact T.ext3 h1 (by cases h : t.name; cases h' : u.name; rw [h, h'] at h2; simp_all) h3
  · rintro rfl
    exact ⟨rfl, rfl, sgn_zero.2 rfl, rfl⟩
termination_by SizeOf.sizeOf t
decreasing_by exact T.kid_size hk
theorem cmpTs_unit : ∀ l m : List T, (∀ k ∈ l, ∀ u, Unit1 (cmpT k u)) → Unit1 (cmpTs l m)
  | [], [], _ => by simp [cmpTs, Unit1]
  | [], _ :: _, _ => by simp [cmpTs, Unit1]
  | _ :: _, [], _ => by simp [cmpTs, Unit1]
  | a :: l, b :: m, H => by
    rw [cmpTs]
    exact orI_unit (H a (List.mem_cons_self ..) b) (cmpTs_unit l m (fun k hk => H k (List.mem_cons_of_mem _ hk)))
theorem cmp_unit (t u : T) : Unit1 (cmpT t u) := by
  rw [cmpT_eq]
  exact orI_unit (sgn_unit _ _) (orI_unit (cmpL_unit _ _) (orI_unit (sgn_unit _ _) (cmpTs_unit t.kids u.kids (fun k hk v => cmp_unit k v))))
termination_by SizeOf.sizeOf t
decreasing_by exact T.kid_size hk
theorem cmpTs_tri : ∀ x y z : List T, (∀ k ∈ x, ∀ u v, Tri (cmpT k u) (cmpT u v) (cmpT k v)) → Tri (cmpTs x y) (cmpTs y z) (cmpTs x z)
  | [], [], [], _ => by simp [cmpTs, Tri]
  | [], [], _ :: _, _ => by simp [cmpTs, Tri]
  | [], _ :: _, [], _ => by simp [cmpTs, Tri]
  | _ :: _, [], [], _ => by simp [cmpTs, Tri]
  | [], b :: y, c :: z, _ => by
    have := cmpTs_unit (b :: y) (c :: z) (fun k _ u => cmp_unit k u)
    generalize cmpTs (b :: y) (c :: z) = q at this ⊢
    unfold Unit1 at this
    unfold Tri
    simp only [cmpTs]
    omega
  | a :: x, [], c :: z, _ => by
    have := cmpTs_unit (a :: x) (c :: z) (fun k _ u => cmp_unit k u)
    generalize cmpTs (a :: x) (c :: z) = q at this ⊢
    unfold Unit1 at this
    unfold Tri
    simp only [cmpTs]
    omega
  | a :: x, b :: y, [], _ => by
    have := cmpTs_unit (a :: x) (b :: y) (fun k _ u => cmp_unit k u)
    generalize cmpTs (a :: x) (b :: y) = q at this ⊢
    unfold Unit1 at this
    unfold Tri
    simp only [cmpTs]
    omega
  | a :: x, b :: y, c :: z, H => by
    rw [cmpTs, cmpTs, cmpTs]
    exact orI_tri (H a (List.mem_cons_self ..) b c) (cmpTs_tri x y z (fun k hk => H k (List.mem_cons_of_mem _ hk)))
theorem cmp_tri (t u v : T) : Tri (cmpT t u) (cmpT u v) (cmpT t v) := by
  rw [cmpT_eq t u, cmpT_eq u v, cmpT_eq t v]
  exact orI_tri (sgn_tri _ _ _) (orI_tri (cmpL_tri _ _ _) (orI_tri (sgn_tri _ _ _) (cmpTs_tri t.kids u.kids v.kids (fun k hk u v => cmp_tri k u v))))
termination_by SizeOf.sizeOf t
decreasing_by exact T.kid_size hk

mutual
def tsize : T → Nat
  | .var _ => 1
  | .con _ l => 1 + tsizes l
  | .fn a b => 1 + (tsize a + tsize b)
  | .all _ a => 1 + tsize a
def tsizes : List T → Nat
  | [] => 0
  | a :: l => tsize a + tsizes l
end
theorem tsize_eq (t : T) : tsize t = 1 + tsizes t.kids := by
  cases t <;> simp [tsize, T.kids, tsizes]
open Classical in
mutual
noncomputable def fv : List ByteArray → List ByteArray → T → List ByteArray
  | bd, out, .var n => if n ∈ bd ∨ n ∈ out then out else out ++ [n]
  | bd, out, .con _ l => fvs bd out l
  | bd, out, .fn a b => fv bd (fv bd out a) b
  | bd, out, .all n a => fv (n :: bd) out a
noncomputable def fvs : List ByteArray → List ByteArray → List T → List ByteArray
  | _, out, [] => out
  | bd, out, a :: l => fvs bd (fv bd out a) l
end
end Go.Proofs.YtdidgddcgjpokaaGreatDoor
/- Pairs of a name and a type as plain data: sorted by names in the way of an insertion sort, compacted, filtered; what a name has stays. -/
namespace Go.Proofs.YtdidgddcgjpokaaGreatDoor
open Go.Sort

/-- A pair as it lies in memory: the name, the type, where the type's parts lie. -/
structure PR where
  n : ByteArray
  t : T
  a : Option Addr
  c : Nat
def noP : PR := ⟨⟨#[]⟩, .var ⟨#[]⟩, none, 0⟩
instance : Inhabited PR := ⟨noP⟩
/-- The order by names. -/
def cmpP (x y : PR) : Int := cmpL x.n.data.toList y.n.data.toList
def ltP (x y : PR) : Bool := decide (cmpP x y < 0)

theorem name_of_cmp {x y : PR} (h : cmpP x y = 0) : x.n = y.n := by
  have := cmpL_zero.1 h
  cases x with | mk n _ _ _ => cases y with | mk m _ _ _ => cases n; cases m; simp at this ⊢; exact this
theorem cmp_of_name {x y : PR} (h : x.n = y.n) : cmpP x y = 0 := by
  unfold cmpP; rw [h]; exact cmpL_zero.2 rfl
theorem ltP_iff {x y : PR} : ltP x y = true ↔ cmpP x y < 0 := by simp [ltP]
theorem swoP : SWO ltP where
  irrefl x := by
    have := cmp_of_name (x := x) (y := x) rfl
    simp [ltP, this]
  trans x y z h1 h2 := by
    rw [ltP_iff] at *
    have := cmpL_tri x.n.data.toList y.n.data.toList z.n.data.toList
    unfold Tri at this
    unfold cmpP at *
    have u := cmpL_unit x.n.data.toList y.n.data.toList
    have v := cmpL_unit y.n.data.toList z.n.data.toList
    have k := cmpL_unit x.n.data.toList z.n.data.toList
    unfold Unit1 at u v k
    generalize cmpL x.n.data.toList y.n.data.toList = p at *
    generalize cmpL y.n.data.toList z.n.data.toList = q at *
    generalize cmpL x.n.data.toList z.n.data.toList = r at *
    omega
  ntrans x y z h1 h2 := by
    have e1 : ¬ cmpP x y < 0 := fun h => by rw [ltP_iff.2 h] at h1; cases h1
    have e2 : ¬ cmpP y z < 0 := fun h => by rw [ltP_iff.2 h] at h2; cases h2
    have e3 : ¬ cmpP x z < 0 := by
      have := cmpL_tri x.n.data.toList y.n.data.toList z.n.data.toList
      unfold Tri at this
      unfold cmpP at *
      have u := cmpL_unit x.n.data.toList y.n.data.toList
      have v := cmpL_unit y.n.data.toList z.n.data.toList
      have k := cmpL_unit x.n.data.toList z.n.data.toList
      unfold Unit1 at u v k
      generalize cmpL x.n.data.toList y.n.data.toList = p at *
      generalize cmpL y.n.data.toList z.n.data.toList = q at *
      generalize cmpL x.n.data.toList z.n.data.toList = r at *
      omega
    cases h : ltP x z with
    | false => rfl
    | true => exact absurd (ltP_iff.1 h) e3

open Classical in
/-- The first of a name. -/
noncomputable def lk (n : ByteArray) (l : List PR) : Option PR := l.find? (fun x => decide (x.n = n))
theorem lk_nil (n : ByteArray) : lk n [] = none := rfl
theorem lk_cons (n : ByteArray) (x : PR) (l : List PR) : lk n (x :: l) = if x.n = n then some x else lk n l := by
  unfold lk
  rw [List.find?_cons]
  by_cases h : x.n = n <;> simp [h]
theorem lk_append (n : ByteArray) (l m : List PR) : lk n (l ++ m) = (lk n l).or (lk n m) := by
  unfold lk; rw [List.find?_append]
theorem lk_swap (n : ByteArray) (l m : List PR) (x y : PR) (h : x.n ≠ y.n) : lk n (l ++ x :: y :: m) = lk n (l ++ y :: x :: m) := by
  rw [lk_append, lk_append, lk_cons, lk_cons, lk_cons, lk_cons]
  by_cases h1 : x.n = n
  · have : y.n ≠ n := fun e => h (h1.trans e.symm)
    simp [h1, this]
  · simp [h1]

theorem bang (d : Array PR) (i : Nat) (h : i < d.size) : d[i]! = d.toList[i]'(by simpa using h) := by rw [getElem!_pos d i h]; simp
theorem split_two (l : List PR) (j : Nat) (h : j + 1 < l.length) : l = l.take j ++ l[j] :: l[j + 1] :: l.drop (j + 2) := by
  conv => lhs; rw [← List.take_append_drop j l]
  rw [List.drop_eq_getElem_cons (by omega), List.drop_eq_getElem_cons (by omega)]
theorem swp_list (d : Array PR) (j : Nat) (h : j + 1 < d.size) : (swp d (j + 1) j).toList = d.toList.take j ++ d.toList[j + 1] :: d.toList[j]'(by simp; omega) :: d.toList.drop (j + 2) := by
  apply List.ext_getElem
  · simp [swp_size]; omega
  · intro i h1 h2
    have hi : i < d.size := by simpa [swp_size] using h1
    have e : (swp d (j + 1) j).toList[i] = (swp d (j + 1) j)[i]! := (bang _ i (by rw [swp_size]; exact hi)).symm
    rw [e, swp_get d h (by omega)]
    by_cases a : i = j
    · subst a
      rw [if_pos rfl, List.getElem_append_right (by simp; omega), bang d _ h]
      simp [Nat.min_eq_left (by omega : i ≤ d.size)]
    · by_cases b : i = j + 1
      · subst b
        rw [if_neg (by omega), if_pos rfl, List.getElem_append_right (by simp; omega), bang d _ (by omega)]
        simp [Nat.min_eq_left (by omega : j ≤ d.size)]
      · rw [if_neg a, if_neg b, bang d _ hi]
        by_cases c : i < j
        · rw [List.getElem_append_left (by simp; omega)]
          simp
        · rw [List.getElem_append_right (by simp; omega)]
          obtain ⟨k, rfl⟩ : ∃ k, i = j + 2 + k := ⟨i - (j + 2), by omega⟩
          simp [Nat.min_eq_left (by omega : j ≤ d.size), show j + 2 + k - j = k + 1 + 1 by omega]
theorem lk_swp (n : ByteArray) (d : Array PR) (j : Nat) (h : j + 1 < d.size) (hlt : ltP d[j + 1]! d[j]! = true) : lk n (swp d (j + 1) j).toList = lk n d.toList := by
  rw [swp_list d j h]
  conv => rhs; rw [split_two d.toList j (by simpa using h)]
  refine lk_swap n _ _ _ _ ?_
  intro e
  rw [bang d _ h, bang d _ (by omega)] at hlt
  have := ltP_iff.1 hlt
  have e2 := cmp_of_name e
  omega
theorem lk_inner (n : ByteArray) (a : Nat) : ∀ (j : Nat) (d : Array PR), j < d.size → lk n (insInner ltP a j d).toList = lk n d.toList
  | 0, d, _ => rfl
  | j + 1, d, h => by
    rw [insInner]
    by_cases hc : (decide (j + 1 > a) && ltP d[j + 1]! d[j]!) = true
    · rw [if_pos hc, lk_inner n a j _ (by rw [swp_size]; omega)]
      exact lk_swp n d j h (by simp at hc; exact hc.2)
    · rw [if_neg hc]
theorem size_inner (a : Nat) : ∀ (j : Nat) (d : Array PR), (insInner ltP a j d).size = d.size
  | 0, d => rfl
  | j + 1, d => by
    rw [insInner]
    split
    · rw [size_inner a j, swp_size]
    · rfl
theorem lk_outer (n : ByteArray) (a b i : Nat) (d : Array PR) (h : b ≤ d.size) : lk n (insOuter ltP a b i d).toList = lk n d.toList := by
  rw [insOuter]
  split
  · rename_i hi
    rw [lk_outer n a b (i + 1) _ (by rw [size_inner]; exact h), lk_inner n a i d (by omega)]
  · rfl
termination_by b - i
/-- What the insertion sort makes: the same pairs, in order; the first of each name as it was. -/
theorem sort_facts (d : Array PR) : (∀ x, x ∈ (insertionSort ltP d 0 d.size).toList ↔ x ∈ d.toList) ∧ (insertionSort ltP d 0 d.size).toList.length = d.toList.length ∧
    (∀ n, lk n (insertionSort ltP d 0 d.size).toList = lk n d.toList) ∧ (insertionSort ltP d 0 d.size).toList.Pairwise (fun x y => ltP y x = false) := by
  obtain ⟨⟨h1, _, h3⟩, h4⟩ := insertionSort_holds (lt := ltP) swoP d 0 d.size (Nat.zero_le _) (Nat.le_refl _)
  refine ⟨fun x => ?_, ?_, fun n => lk_outer n 0 d.size 1 d (Nat.le_refl _), ?_⟩
  · have := h3.mem_iff (a := x)
    rw [Array.extract_eq_self_of_le (by omega), Array.extract_eq_self_of_le (Nat.le_refl _)] at this
    exact this
  · simpa using h1
  · rw [List.pairwise_iff_getElem]
    intro i j hi hj hij
    have hi' : i < (insertionSort ltP d 0 d.size).size := by simpa using hi
    have hj' : j < (insertionSort ltP d 0 d.size).size := by simpa using hj
    have := h4 i j (Nat.zero_le _) hij (by omega)
    rw [bang _ _ hj', bang _ _ hi'] at this
    exact this

/-- One that counts: the first, or one of another name than the one ahead of it. -/
noncomputable def kpC (d : Array PR) : Nat → Bool := fun j => @decide (j = 0 ∨ d[j - 1]!.n ≠ d[j]!.n) (Classical.propDecidable _)
theorem kpC_true {d : Array PR} {j : Nat} (h : j = 0 ∨ d[j - 1]!.n ≠ d[j]!.n) : kpC d j = true := by unfold kpC; exact @decide_eq_true _ (Classical.propDecidable _) h
theorem kpC_false {d : Array PR} {j : Nat} (h : ¬ (j = 0 ∨ d[j - 1]!.n ≠ d[j]!.n)) : kpC d j = false := by unfold kpC; exact @decide_eq_false _ (Classical.propDecidable _) h
/-- In order by names, none twice. -/
def Sorted (l : List PR) : Prop := l.Pairwise fun x y => cmpP x y < 0
theorem lt_of_not {x y : PR} (h : ltP y x = false) (hn : x.n ≠ y.n) : cmpP x y < 0 := by
  have h1 : ¬ cmpP y x < 0 := fun h' => by rw [ltP_iff.2 h'] at h; cases h
  have h2 : cmpP x y ≠ 0 := fun e => hn (name_of_cmp e)
  have h3 : cmpP y x = - cmpP x y := cmpL_neg _ _
  omega
theorem cmpP_trans {x y z : PR} (h : cmpP x y < 0) (k : cmpP y z < 0) : cmpP x z < 0 := ltP_iff.1 (swoP.trans x y z (ltP_iff.2 h) (ltP_iff.2 k))
/-- What the compaction keeps of a row in order: in order, none twice, the first of each name. -/
theorem comp_facts (d : Array PR) (hs : d.toList.Pairwise (fun x y => ltP y x = false)) : ∀ j, j ≤ d.size →
    Sorted (Go.Lib.keptUpTo (kpC d) d j) ∧ (∀ x ∈ Go.Lib.keptUpTo (kpC d) d j, x ∈ d.toList.take j) ∧ (∀ n, lk n (Go.Lib.keptUpTo (kpC d) d j) = lk n (d.toList.take j)) ∧
    (∀ x ∈ d.toList.take j, ∃ y ∈ Go.Lib.keptUpTo (kpC d) d j, y.n = x.n) := by
  have hp : ∀ a b, a < b → b < d.size → ltP d[b]! d[a]! = false := fun a b hab hb => by
    have := List.pairwise_iff_getElem.1 hs a b (by simpa using Nat.lt_trans hab hb) (by simpa using hb) hab
    rw [bang d _ hb, bang d _ (Nat.lt_trans hab hb)]
    exact this
  intro j
  induction j with
  | zero => intro _; refine ⟨List.Pairwise.nil, ?_, ?_, ?_⟩ <;> simp [Go.Lib.keptUpTo]
  | succ j ih =>
    intro hj
    obtain ⟨i1, i2, i3, i4⟩ := ih (by omega)
    have et : d.toList.take (j + 1) = d.toList.take j ++ [d[j]!] := by
      rw [List.take_succ_eq_append_getElem (by simp; omega), bang d j (by omega)]
    have mem : ∀ x, x ∈ d.toList.take j → ∃ k, k < j ∧ d[k]! = x := fun x hx => by
      obtain ⟨k, hk, e⟩ := List.mem_iff_getElem.1 hx
      have hk' : k < min j d.size := by simpa using hk
      exact ⟨k, by omega, by rw [bang d k (by omega)]; simpa using e⟩
    have hle : ∀ x ∈ d.toList.take j, ltP d[j]! x = false := fun x hx => by
      obtain ⟨k, hk, rfl⟩ := mem x hx
      exact hp k j hk (by omega)
    by_cases hc : j = 0 ∨ d[j - 1]!.n ≠ d[j]!.n
    · rw [Go.Lib.keptUpTo_succ, kpC_true hc, if_pos rfl, et]
      have hne : ∀ x ∈ d.toList.take j, x.n ≠ d[j]!.n := fun x hx e => by
        obtain ⟨k, hk, rfl⟩ := mem x hx
        rcases hc with h0 | hn
        · omega
        · rcases Nat.lt_or_ge k (j - 1) with hk1 | hk1
          · have a := hp k (j - 1) hk1 (by omega)
            have b := hp (j - 1) j (by omega) (by omega)
            have b' := lt_of_not b hn
            have a1 : ¬ cmpP d[j - 1]! d[k]! < 0 := fun h => by rw [ltP_iff.2 h] at a; cases a
            have e1 : cmpP d[j - 1]! d[k]! = cmpP d[j - 1]! d[j]! := by unfold cmpP; rw [e]
            omega
          · obtain rfl : k = j - 1 := by omega
            exact hn e
      refine ⟨?_, ?_, ?_, ?_⟩
      · rw [Sorted, List.pairwise_append]
        refine ⟨i1, List.pairwise_singleton _ _, fun x hx y hy => ?_⟩
        obtain rfl : y = d[j]! := by simpa using hy
        exact lt_of_not (hle x (i2 x hx)) (hne x (i2 x hx))
      · intro x hx
        rcases List.mem_append.1 hx with h | h
        · exact List.mem_append_left _ (i2 x h)
        · exact List.mem_append_right _ h
      · intro n; rw [lk_append, lk_append, i3 n]
      · intro x hx
        rcases List.mem_append.1 hx with h | h
        · obtain ⟨y, hy, e⟩ := i4 x h; exact ⟨y, List.mem_append_left _ hy, e⟩
        · exact ⟨x, List.mem_append_right _ h, rfl⟩
    · rw [Go.Lib.keptUpTo_succ, kpC_false hc, et]
      have h0 : j ≠ 0 := fun e => hc (.inl e)
      have hn : d[j - 1]!.n = d[j]!.n := Classical.byContradiction fun e => hc (.inr e)
      have hin : d[j - 1]! ∈ d.toList.take j := by
        rw [List.mem_iff_getElem]
        refine ⟨j - 1, by simp; omega, ?_⟩
        rw [bang d _ (by omega)]; simp
      simp only [Bool.false_eq_true, if_false, List.append_nil]
      refine ⟨i1, fun x hx => List.mem_append_left _ (i2 x hx), fun n => ?_, fun x hx => ?_⟩
      · rw [i3 n, lk_append, lk_cons, lk_nil]
        by_cases e : d[j]!.n = n
        · have : (lk n (d.toList.take j)).isSome = true := by
            unfold lk
            rw [List.find?_isSome]
            exact ⟨_, hin, by simpa using hn.trans e⟩
          obtain ⟨y, hy⟩ := Option.isSome_iff_exists.1 this
          rw [hy]; rfl
        · rw [if_neg e]; simp
      · rcases List.mem_append.1 hx with h | h
        · exact i4 x h
        · obtain rfl : x = d[j]! := by simpa using h
          obtain ⟨y, hy, e⟩ := i4 _ hin
          exact ⟨y, hy, e.trans hn⟩

/-- One that is its own type. -/
noncomputable def ownP (x : PR) : Bool := @decide (x.t = .var x.n) (Classical.propDecidable _)
theorem ownP_iff {x : PR} : ownP x = true ↔ x.t = .var x.n := by unfold ownP; exact @decide_eq_true_iff _ (Classical.propDecidable _)
theorem lk_name {n : ByteArray} {l : List PR} {x : PR} (h : lk n l = some x) : x ∈ l ∧ x.n = n := by
  unfold lk at h
  exact ⟨List.mem_of_find?_eq_some h, by simpa using List.find?_some h⟩
theorem lk_sorted {l : List PR} (h : Sorted l) {x : PR} (hx : x ∈ l) : lk x.n l = some x := by
  induction l with
  | nil => cases hx
  | cons y l ih =>
    rw [lk_cons]
    have hs := List.pairwise_cons.1 h
    rcases List.mem_cons.1 hx with rfl | hx
    · rw [if_pos rfl]
    · rw [if_neg, ih hs.2 hx]
      intro e
      have := hs.1 x hx
      rw [cmp_of_name e] at this
      exact absurd this (by decide)
/-- The type that a name has. -/
noncomputable def ty (n : ByteArray) (l : List PR) : T := ((lk n l).map PR.t).getD (.var n)
/-- A row of pairs by names, none its own type. -/
def Neat (l : List PR) : Prop := Sorted l ∧ ∀ x ∈ l, ownP x = false
theorem neat_filter {l : List PR} (h : Sorted l) : Neat (l.filter fun x => !ownP x) ∧ ∀ n, ty n (l.filter fun x => !ownP x) = ty n l := by
  have h1 : Neat (l.filter fun x => !ownP x) := ⟨h.filter _, fun x hx => by have := (List.mem_filter.1 hx).2; simpa using this⟩
  refine ⟨h1, fun n => ?_⟩
  unfold ty
  cases e : lk n l with
  | none =>
    cases e2 : lk n (l.filter fun x => !ownP x) with
    | none => rfl
    | some x =>
      obtain ⟨hm, rfl⟩ := lk_name e2
      rw [lk_sorted h (List.mem_filter.1 hm).1] at e; cases e
  | some x =>
    obtain ⟨hm, rfl⟩ := lk_name e
    by_cases ho : ownP x = true
    · cases e2 : lk x.n (l.filter fun x => !ownP x) with
      | none => simpa using (ownP_iff.1 ho).symm
      | some y =>
        obtain ⟨hy, ey⟩ := lk_name e2
        have hy' := (List.mem_filter.1 hy).1
        have := lk_sorted h hy'
        rw [ey, e] at this
        cases this
        have h9 := (List.mem_filter.1 hy).2
        simp [ho] at h9
    · rw [lk_sorted h1.1 (List.mem_filter.2 ⟨hm, by simpa using ho⟩)]
/-- What gather makes of a row. -/
structure Gath (d l : List PR) : Prop where
  neat : Neat l
  sub : ∀ x ∈ l, x ∈ d
  len : l.length ≤ d.length
  same : ∀ n, ty n l = ty n d
end Go.Proofs.YtdidgddcgjpokaaGreatDoor
/- A type in memory; what is kept of it; rows that lie in blocks of a kind. -/
namespace Go.Proofs.YtdidgddcgjpokaaGreatDoor
open Go.RowKit
attribute [local go_sem] Oper.semAt_some

/-- Type t stands in three cells: its kind, its name, the row of its parts. -/
inductive TyAt (w : World) : T → Value → Value → Value → Prop
  | leaf (t : T) (a : Option Addr) (c : Nat) : t.kids = [] → TyAt w t (.int .i64 t.kind) (.string t.name) (.slice a 0 c)
  | row (t : T) (g cap : Nat) (cs : Array Value) (fz : Nat × Nat) (x y z : Nat → Value) : w.heap[g]? = some (.cells cs 31 fz) → t.kids.length ≤ cap →
      (∀ i, i < t.kids.length → cs[i * 3]? = some (x i) ∧ cs[i * 3 + 1]? = some (y i) ∧ cs[i * 3 + 2]? = some (z i)) →
      (∀ i (h : i < t.kids.length), TyAt w t.kids[i] (x i) (y i) (z i)) →
      TyAt w t (.int .i64 t.kind) (.string t.name) (.slice (some ⟨g, 0, none⟩) t.kids.length cap)
/-- v is a slice of the types l. -/
def TysAt (w : World) (v : Value) (l : List T) : Prop :=
  (l = [] ∧ ∃ a c, v = .slice a 0 c) ∨ ∃ g cap cs fz, ∃ x y z : Nat → Value, v = .slice (some ⟨g, 0, none⟩) l.length cap ∧ w.heap[g]? = some (.cells cs 31 fz) ∧ l.length ≤ cap ∧
    (∀ i, i < l.length → cs[i * 3]? = some (x i) ∧ cs[i * 3 + 1]? = some (y i) ∧ cs[i * 3 + 2]? = some (z i)) ∧ ∀ i (h : i < l.length), TyAt w l[i] (x i) (y i) (z i)
theorem tyAt_iff (w : World) (t : T) (k n v : Value) : TyAt w t k n v ↔ k = .int .i64 t.kind ∧ n = .string t.name ∧ TysAt w v t.kids := by
  constructor
  · intro h
    cases h with
    | leaf _ a c h => exact ⟨rfl, rfl, .inl ⟨h, a, c, rfl⟩⟩
    | row _ g cap cs fz x y z h1 h2 h3 h4 => exact ⟨rfl, rfl, .inr ⟨g, cap, cs, fz, x, y, z, rfl, h1, h2, h3, h4⟩⟩
  · rintro ⟨rfl, rfl, ⟨h, a, c, rfl⟩ | ⟨g, cap, cs, fz, x, y, z, rfl, h1, h2, h3, h4⟩⟩
    · exact .leaf t a c h
    · exact .row t g cap cs fz x y z h1 h2 h3 h4
/-- The rows of types stand as they stood. -/
def KeepT (w w' : World) : Prop := ∀ (k : Nat) (cs : Array Value) (fz : Nat × Nat), w.heap[k]? = some (.cells cs 31 fz) → w'.heap[k]? = some (.cells cs 31 fz)
theorem KeepT.trans {a b c : World} (h : KeepT a b) (k : KeepT b c) : KeepT a c := fun i cs fz hi => k i cs fz (h i cs fz hi)
theorem KeepT.of_below {w w' : World} (h : Below w.heap.size w w') : KeepT w w' := fun k _ _ hk => (h.block k (Array.getElem?_eq_some_iff.1 hk).1).trans hk
theorem TyAt.keep {w w' : World} (hk : KeepT w w') {t : T} {k n v : Value} (h : TyAt w t k n v) : TyAt w' t k n v := by
  induction h with
  | leaf t a c h => exact .leaf t a c h
  | row t g cap cs fz x y z h1 h2 h3 _ ih => exact .row t g cap cs fz x y z (hk _ _ _ h1) h2 h3 ih
theorem TysAt.keep {w w' : World} (hk : KeepT w w') {v : Value} {l : List T} (h : TysAt w v l) : TysAt w' v l := by
  rcases h with h | ⟨g, cap, cs, fz, x, y, z, rfl, h1, h2, h3, h4⟩
  · exact .inl h
  · exact .inr ⟨g, cap, cs, fz, x, y, z, rfl, hk _ _ _ h1, h2, h3, fun i hi => (h4 i hi).keep hk⟩
theorem TysAt.shape {w : World} {v : Value} {l : List T} (h : TysAt w v l) : ∃ a c, v = .slice a l.length c := by
  rcases h with ⟨rfl, a, c, rfl⟩ | ⟨g, cap, cs, fz, x, y, z, rfl, _⟩
  · exact ⟨a, c, rfl⟩
  · exact ⟨_, _, rfl⟩
theorem TyAt.shape {w : World} {t : T} {k n v : Value} (h : TyAt w t k n v) : k = .int .i64 t.kind ∧ n = .string t.name ∧ (∃ a c, v = .slice a t.kids.length c) ∧ TysAt w v t.kids := by
  obtain ⟨h1, h2, h3⟩ := (tyAt_iff w t k n v).1 h
  exact ⟨h1, h2, h3.shape, h3⟩
/-- A row with a part: where it lies, and each part. -/
theorem TysAt.row {w : World} {v : Value} {l : List T} (h : TysAt w v l) (h0 : l ≠ []) : ∃ g cap, v = .slice (some ⟨g, 0, none⟩) l.length cap ∧ g < w.heap.size ∧ l.length ≤ cap ∧
    ∀ i (h : i < l.length), ∃ a c, w.cell? ⟨g, i * 3, none⟩ = some (.int .i64 l[i].kind) ∧ w.cell? ⟨g, i * 3 + 1, none⟩ = some (.string l[i].name) ∧ w.cell? ⟨g, i * 3 + 2, none⟩ = some (.slice a l[i].kids.length c) ∧
      TysAt w (.slice a l[i].kids.length c) l[i].kids := by
  rcases h with ⟨h, _⟩ | ⟨g, cap, cs, fz, x, y, z, rfl, h1, h2, h3, h4⟩
  · exact absurd h h0
  · refine ⟨g, cap, rfl, (Array.getElem?_eq_some_iff.1 h1).1, h2, fun i hi => ?_⟩
    obtain ⟨c1, c2, c3⟩ := h3 i hi
    obtain ⟨e1, e2, ⟨a, c, e3⟩, e4⟩ := (h4 i hi).shape
    rw [e1] at c1; rw [e2] at c2; rw [e3] at c3 e4
    refine ⟨a, c, ?_, ?_, ?_, e4⟩
    · simp only [World.cell?, h1]; simpa using c1
    · simp only [World.cell?, h1]; simpa using c2
    · simp only [World.cell?, h1]; simpa using c3
theorem TyAt.mk {w : World} (t : T) {v : Value} (h : TysAt w v t.kids) : TyAt w t (.int .i64 t.kind) (.string t.name) v := (tyAt_iff w t _ _ v).2 ⟨rfl, rfl, h⟩
theorem TysAt.nil (w : World) (a : Option Addr) (c : Nat) : TysAt w (.slice a 0 c) [] := .inl ⟨rfl, a, c, rfl⟩
theorem alloc_new (w : World) (o : Obj) : (w.alloc o).heap[w.heap.size]? = some o := by show (w.heap.push o)[w.heap.size]? = _; simp
theorem keepT_alloc (w : World) (o : Obj) : KeepT w (w.alloc o) := .of_below ((Below.refl _ w).alloc (Nat.le_refl _) o)
theorem three_cells {w : World} {p : Nat} {x y z : Value} {T : TypeId} {fz : Nat × Nat} (h : w.heap[p]? = some (.cells #[x, y, z] T fz)) : w.cell? ⟨p, 0, none⟩ = some x ∧ w.cell? ⟨p, 1, none⟩ = some y ∧ w.cell? ⟨p, 2, none⟩ = some z := by
  refine ⟨?_, ?_, ?_⟩ <;> (rw [Lib.cell_of_heap h]; rfl)

/-- As TyAt, of rows in blocks that are ok. -/
inductive TyIn (ok : Nat → Prop) (w : World) : T → Value → Prop
  | leaf (t : T) (a : Option Addr) (c : Nat) : t.kids = [] → TyIn ok w t (.slice a 0 c)
  | row (t : T) (g cap : Nat) (cs : Array Value) (fz : Nat × Nat) (z : Nat → Value) : ok g → w.heap[g]? = some (.cells cs 31 fz) → t.kids.length ≤ cap →
      (∀ i (h : i < t.kids.length), cs[i * 3]? = some (.int .i64 t.kids[i].kind) ∧ cs[i * 3 + 1]? = some (.string t.kids[i].name) ∧ cs[i * 3 + 2]? = some (z i)) →
      (∀ i (h : i < t.kids.length), TyIn ok w t.kids[i] (z i)) →
      TyIn ok w t (.slice (some ⟨g, 0, none⟩) t.kids.length cap)
theorem TyIn.keep {ok : Nat → Prop} {w w' : World} (hk : ∀ (k : Nat) (cs : Array Value) (fz : Nat × Nat), ok k → w.heap[k]? = some (.cells cs 31 fz) → w'.heap[k]? = some (.cells cs 31 fz)) {t : T} {v : Value} (h : TyIn ok w t v) : TyIn ok w' t v := by
  induction h with
  | leaf t a c h => exact .leaf t a c h
  | row t g cap cs fz z h0 h1 h2 h3 _ ih => exact .row t g cap cs fz z h0 (hk _ _ _ h0 h1) h2 h3 ih
theorem TyIn.mono {ok ok' : Nat → Prop} {w : World} (hk : ∀ k, ok k → ok' k) {t : T} {v : Value} (h : TyIn ok w t v) : TyIn ok' w t v := by
  induction h with
  | leaf t a c h => exact .leaf t a c h
  | row t g cap cs fz z h0 h1 h2 h3 _ ih => exact .row t g cap cs fz z (hk _ h0) h1 h2 h3 ih
theorem TyIn.lt {ok : Nat → Prop} {w : World} {t : T} {v : Value} (h : TyIn ok w t v) : TyIn (fun k => ok k ∧ k < w.heap.size) w t v := by
  induction h with
  | leaf t a c h => exact .leaf t a c h
  | row t g cap cs fz z h0 h1 h2 h3 _ ih => exact .row t g cap cs fz z ⟨h0, (Array.getElem?_eq_some_iff.1 h1).1⟩ h1 h2 h3 ih
theorem TyIn.shape {ok : Nat → Prop} {w : World} {t : T} {v : Value} (h : TyIn ok w t v) : ∃ a c, v = .slice a t.kids.length c := by
  cases h with
  | leaf _ a c h => exact ⟨a, c, by rw [h]; rfl⟩
  | row _ g cap cs fz z h0 h1 h2 h3 _ => exact ⟨_, _, rfl⟩
theorem TyIn.tys {ok : Nat → Prop} {w : World} {t : T} {v : Value} (h : TyIn ok w t v) : TysAt w v t.kids := by
  induction h with
  | leaf t a c h => rw [h]; exact .inl ⟨rfl, a, c, rfl⟩
  | row t g cap cs fz z h0 h1 h2 h3 _ ih => exact .inr ⟨g, cap, cs, fz, fun i => if h : i < t.kids.length then .int .i64 t.kids[i].kind else undef, fun i => if h : i < t.kids.length then .string t.kids[i].name else undef, z, rfl, h1, h2, fun i hi => by simp only [dif_pos hi]; exact h3 i hi, fun i hi => by simp only [dif_pos hi]; exact TyAt.mk _ (ih i hi)⟩
/-- A type's value. -/
def tyV (t : T) (v : Value) : Value := .agg #[.int .i64 t.kind, .string t.name, v]

set_option maxHeartbeats 1000000 in
theorem var_any (n : ByteArray) (w : World) :
    Calls Tryz.prog 25 #[.string n] w fun e w' => (∃ u, e = .returned (tyV (.var n) u) ∧ TysAt w' u []) ∧ Below w.heap.size w w' := by
  go_enter Tryz.func25, Tryz.ntmps25
  go_wp2
  refine bodyPost_ret (v := tyV (.var n) (.slice none 0 0)) (by simp [results, Tryz.results25, go_sem, tyV, T.kind, T.name]) rfl ⟨⟨_, rfl, TysAt.nil _ _ _⟩, (Below.refl _ w).alloc (Nat.le_refl _) _⟩

set_option maxHeartbeats 1000000 in
theorem con_any (n : ByteArray) (a : Option Addr) (l : List T) (k c : Nat) (w : World) (h : TysAt w (.slice a k c) l) :
    Calls Tryz.prog 53 #[.string n, .slice a k c] w fun e w' => (∃ u, e = .returned (tyV (.con n l) u) ∧ TysAt w' u l) ∧ Below w.heap.size w w' := by
  have H := Lib.hid h; clear h
  go_enter Tryz.func53, Tryz.ntmps53
  go_wp2
  refine bodyPost_ret (v := tyV (.con n l) (.slice a k c)) (by simp [results, Tryz.results53, go_sem, tyV, T.kind, T.name]) rfl ⟨⟨_, rfl, H.out.keep (keepT_alloc w _)⟩, (Below.refl _ w).alloc (Nat.le_refl _) _⟩

end Go.Proofs.YtdidgddcgjpokaaGreatDoor
/- Whether two types are the same, part by part. -/
namespace Go.Proofs.YtdidgddcgjpokaaGreatDoor
open Go.RowKit
attribute [local go_sem] Oper.semAt_some

open Classical in
noncomputable def eqB {α : Type} (a b : α) : Bool := decide (a = b)
theorem eqB_true {α : Type} {a b : α} (h : a = b) : eqB a b = true := by simp [eqB, h]
theorem eqB_false {α : Type} {a b : α} (h : ¬ a = b) : eqB a b = false := by simp [eqB, h]
theorem eqB_iff {α : Type} {a b : α} : eqB a b = true ↔ a = b := by simp [eqB]
theorem T.ext_iff {t u : T} : t = u ↔ t.kind = u.kind ∧ t.name = u.name ∧ t.kids = u.kids := by
  cases t <;> cases u <;> simp [T.kind, T.name, T.kids]
theorem bytes_beq (a b : ByteArray) : (a.toList == b.toList) = eqB a b := by
  by_cases h : a = b
  · rw [eqB_true h, h]; simp
  · rw [eqB_false h]
    simp only [beq_eq_false_iff_ne, ne_eq]
    intro e
    apply h
    rw [Lib.toList_data, Lib.toList_data] at e
    cases a; cases b; simp_all

def SameOK (t : T) : Prop := ∀ (t' : T) (a b : Option Addr) (c d : Nat) (w : World), TysAt w (.slice a t.kids.length c) t.kids → TysAt w (.slice b t'.kids.length d) t'.kids →
    Calls Tryz.prog 35 #[tyV t (.slice a t.kids.length c), tyV t' (.slice b t'.kids.length d)] w fun e w' => e = .returned (.bool (eqB t t')) ∧ Below w.heap.size w w'

set_option maxHeartbeats 600000 in
theorem sameTypes_of (l l' : List T) (H : ∀ t ∈ l, SameOK t) (a b : Option Addr) (c d : Nat) (w : World) (h : TysAt w (.slice a l.length c) l) (h' : TysAt w (.slice b l'.length d) l') (hn : l.length < 1152921504606846976) :
    Calls Tryz.prog 62 #[.slice a l.length c, .slice b l'.length d] w fun e w' => e = .returned (.bool (eqB l l')) ∧ Below w.heap.size w w' := by
  by_cases hl : l.length = l'.length
  · by_cases h0 : l = []
    · subst h0
      obtain rfl : l' = [] := List.length_eq_zero_iff.1 hl.symm
      rw [eqB_true rfl]
      clear h h' H
      go_enter Tryz.func62, Tryz.ntmps62
      go_wp2
      go_loopw [5] (fun vi wr => vi = .int .i64 0 ∧ Hid (Below w.heap.size w wr)) (fun _ _ => 0)
      case atStart => exact ⟨rfl, Lib.hid (Below.refl _ _)⟩
      case round =>
        obtain ⟨rfl, hB⟩ := hrel
        go_wp2
        go_ret
        exact ⟨rfl, hB.out⟩
    · have h0' : l' ≠ [] := by intro e; rw [e] at hl; exact h0 (List.length_eq_zero_iff.1 hl)
      obtain ⟨g1, c1, e1, hg1, hc1, r1⟩ := h.row h0
      obtain ⟨g2, c2, e2, hg2, hc2, r2⟩ := h'.row h0'
      cases e1; cases e2
      have HR1 := Lib.hid r1; clear r1
      have HR2 := Lib.hid r2; clear r2
      have HS := Lib.hid H; clear H
      obtain ⟨res, hres⟩ : ∃ r, eqB l l' = r := ⟨_, rfl⟩
      have HRes := Lib.hid hres
      rw [hres]; clear hres h h'
      rw [← hl] at hc2 ⊢
      have HL := Lib.hid hl; clear hl
      have hm : ((l.length : Int) != (l.length : Int)) = false := by simp
      go_enter Tryz.func62, Tryz.ntmps62
      go_wp2
      go_loopw [5] (fun vi wr => ∃ i : Nat, i ≤ l.length ∧ vi = .int .i64 i ∧ Hid (Below w.heap.size w wr) ∧ Hid (∀ j (h1 : j < l.length) (h2 : j < l'.length), j < i → l[j] = l'[j])) (fun vi _ => l.length - (intOf vi).toNat)
      case atStart => exact ⟨0, Nat.zero_le _, rfl, Lib.hid (Below.refl _ _), Lib.hid (fun j _ _ h => absurd h (by omega))⟩
      case round =>
        obtain ⟨i, hi, rfl, hB, hS⟩ := hrel
        by_cases hlt : i < l.length
        · have hlt' : i < l'.length := HL.out ▸ hlt
          obtain ⟨pa, ca, x0, x1, x2, xk⟩ := HR1.out i hlt
          obtain ⟨pb, cb, y0, y1, y2, yk⟩ := HR2.out i hlt'
          have f1 := fun o => hB.out.cell (p := ⟨g1, o, none⟩) hg1
          have f2 := fun o => hB.out.cell (p := ⟨g2, o, none⟩) hg2
          rw [← f1] at x0 x1 x2; rw [← f2] at y0 y1 y2
          have hcall := HS.out l[i] (List.getElem_mem hlt) l'[i] pa pb ca cb
          have XK := Lib.hid xk; have YK := Lib.hid yk
          clear xk yk f1 f2
          have HE := Lib.hid (show l[i] = l[i] ∧ l'[i] = l'[i] from ⟨rfl, rfl⟩)
          obtain ⟨t, ht⟩ : ∃ t, l[i] = t := ⟨_, rfl⟩
          obtain ⟨u, hu⟩ : ∃ u, l'[i] = u := ⟨_, rfl⟩
          have HT := Lib.hid ht; have HU := Lib.hid hu
          rw [ht] at x0 x1 x2 hcall XK
          rw [hu] at y0 y1 y2 hcall YK
          simp only [tyV] at hcall
          clear ht hu HE
          have HC := Lib.hid (fun W (k : KeepT w W) => hcall W (XK.out.keep k) (YK.out.keep k)); clear hcall
          have HK : Hid (KeepT w wr.drew) := Lib.hid (fun k cs fz h => KeepT.of_below hB.out k cs fz h)
          go_wp2
          by_cases hq : t = u
          · rw [eqB_true hq] at HC
            have HQ := Lib.hid hq; clear hq
            go_region_with (first
              | (go_at_call 35; refine (HC.out _ ?kk).mono ?_; (case kk => exact HK.out); rintro e w2 ⟨rfl, hb2⟩; have HB2 := Lib.hid hb2; clear hb2))
            all_goals go_wp2
            all_goals
              go_roundw
              case rel => exact ⟨i + 1, by omega, by go_num, Lib.hid (hB.out.drew.trans (HB2.out.mono hB.out.size)), Lib.hid (fun j h1 h2 hj => by
                by_cases hji : j = i
                · subst hji; rw [HT.out, HU.out]; exact HQ.out
                · exact hS.out j h1 h2 (by omega))⟩
              case measure => simp [intOf]; omega
          · rw [eqB_false hq] at HC
            have hres : res = false := by
              rw [← HRes.out]
              refine eqB_false fun e => hq ?_
              rw [← HT.out, ← HU.out]
              exact List.getElem_of_eq e hlt
            clear HT HU HRes hq
            subst hres
            go_region_with (first
              | (go_at_call 35; refine (HC.out _ ?kk).mono ?_; (case kk => exact HK.out); rintro e w2 ⟨rfl, hb2⟩; have HB2 := Lib.hid hb2; clear hb2))
            all_goals go_wp2
            all_goals go_ret
            all_goals exact ⟨rfl, hB.out.drew.trans (HB2.out.mono hB.out.size)⟩
        · obtain rfl : i = l.length := by omega
          have hres : res = true := by
            rw [← HRes.out]
            exact eqB_true (List.ext_getElem HL.out (fun j h1 h2 => hS.out j h1 h2 h1))
          clear HRes
          subst hres
          go_wp2
          go_ret
          exact ⟨rfl, hB.out⟩
  · have hm : ((l.length : Int) != (l'.length : Int)) = true := by simp; omega
    rw [eqB_false (fun e => hl (by rw [e]))]
    clear h h' H
    go_enter Tryz.func62, Tryz.ntmps62
    go_wp2
    go_ret
    exact ⟨rfl, Below.refl _ _⟩

set_option maxHeartbeats 1000000 in
theorem sameType_step (t : T) (H : ∀ k ∈ t.kids, SameOK k) (hn : t.kids.length < 1152921504606846976) : SameOK t := by
  intro t' a b c d w h h'
  have HC := Lib.hid (fun (W : World) (k : KeepT w W) => sameTypes_of t.kids t'.kids H a b c d W (h.keep k) (h'.keep k) hn)
  have e0 : (t.kind == t'.kind) = eqB t.kind t'.kind := by
    by_cases e : t.kind = t'.kind
    · rw [eqB_true e]; simpa using e
    · rw [eqB_false e]; simpa using e
  have e1 := bytes_beq t.name t'.name
  have HX := Lib.hid (@T.ext_iff t t')
  clear H hn h h'
  have hz : ∀ o1 o2 : Obj, KeepT w ((w.alloc o1).alloc o2) := fun o1 o2 => (keepT_alloc w o1).trans (keepT_alloc _ o2)
  have hb : ∀ o1 o2 : Obj, Below w.heap.size w ((w.alloc o1).alloc o2) := fun o1 o2 => ((Below.refl _ w).alloc (Nat.le_refl _) _).alloc (by simp) _
  have HZ := Lib.hid hz; have HB := Lib.hid hb
  clear hz hb
  obtain ⟨res, hres⟩ : ∃ r, eqB t t' = r := ⟨_, rfl⟩
  have HR := Lib.hid hres
  rw [hres]; clear hres
  simp only [tyV]
  by_cases hk : t.kind = t'.kind
  · rw [eqB_true hk] at e0
    have HK := Lib.hid hk; clear hk
    by_cases hm : t.name = t'.name
    · rw [eqB_true hm] at e1
      have HM := Lib.hid hm; clear hm
      go_enter Tryz.func35, Tryz.ntmps35
      go_wp2_with (go_at_call 62; refine (HC.out _ ?kk).mono ?_; (case kk => exact HZ.out _ _); rintro e w2 ⟨rfl, hb2⟩; have HB2 := Lib.hid hb2; clear hb2)
      go_ret
      refine ⟨?_, (HB.out _ _).trans (HB2.out.mono (by simp; omega))⟩
      rw [← HR.out]
      by_cases hq : t.kids = t'.kids
      · rw [eqB_true hq, eqB_true (HX.out.2 ⟨HK.out, HM.out, hq⟩)]
        rfl
      · rw [eqB_false hq, eqB_false (fun e => hq (HX.out.1 e).2.2)]
        rfl
    · rw [eqB_false hm] at e1
      have hr : res = false := by rw [← HR.out]; exact eqB_false (fun e => hm (HX.out.1 e).2.1)
      subst hr
      clear HR hm
      go_enter Tryz.func35, Tryz.ntmps35
      go_wp2_with (first | fail)
      go_ret
      exact ⟨rfl, HB.out _ _⟩
  · rw [eqB_false hk] at e0
    have hr : res = false := by rw [← HR.out]; exact eqB_false (fun e => hk (HX.out.1 e).1)
    subst hr
    clear HR hk
    go_enter Tryz.func35, Tryz.ntmps35
    go_wp2_with (first | fail)
    go_ret
    exact ⟨rfl, HB.out _ _⟩

/-- No list of parts is longer than any memory. -/
inductive Fits : T → Prop
  | mk (t : T) : t.kids.length < 1152921504606846976 → (∀ k, k ∈ t.kids → Fits k) → Fits t
theorem Fits.kid {t k : T} (h : Fits t) (hk : k ∈ t.kids) : Fits k := by cases h with | mk _ _ h => exact h k hk
theorem sameType_ok {t : T} (h : Fits t) : SameOK t := by
  induction h with
  | mk t h1 _ ih => exact sameType_step t ih h1
theorem sameType_any {t t' : T} {v v' : Value} {w : World} (hf : Fits t) (h : TysAt w v t.kids) (h' : TysAt w v' t'.kids) :
    Calls Tryz.prog 35 #[tyV t v, tyV t' v'] w fun e w' => e = .returned (.bool (eqB t t')) ∧ Below w.heap.size w w' := by
  obtain ⟨a, c, rfl⟩ := h.shape
  obtain ⟨b, d, rfl⟩ := h'.shape
  exact sameType_ok hf t' a b c d w h h'
end Go.Proofs.YtdidgddcgjpokaaGreatDoor
/- types.Compare, types.Same: the order of types. -/
namespace Go.Proofs.YtdidgddcgjpokaaGreatDoor
open Go.RowKit
attribute [local go_sem] Oper.semAt_some

set_option maxHeartbeats 1000000 in
theorem nanInt_any (a : Int) (w : World) : Calls Tryz.prog 111 #[.int .i64 a] w fun e w' => e = .returned (.bool false) ∧ w = w' := by
  have h : (a != a) = false := by simp
  go_enter Tryz.func111, Tryz.ntmps111
  go_wp2
  go_ret
  exact ⟨rfl, rfl⟩
set_option maxHeartbeats 1000000 in
theorem nanStr_any (a : ByteArray) (w : World) : Calls Tryz.prog 90 #[.string a] w fun e w' => e = .returned (.bool false) ∧ w = w' := by
  have h : (a.toList == a.toList) = true := by simp
  go_enter Tryz.func90, Tryz.ntmps90
  go_wp2
  go_ret
  exact ⟨rfl, rfl⟩
set_option maxHeartbeats 1000000 in
theorem cmpInt_of (a b r : Int) (w : World) (h : a < b ∧ r = -1 ∨ (¬ a < b ∧ b < a) ∧ r = 1 ∨ (¬ a < b ∧ ¬ b < a) ∧ r = 0) : Calls Tryz.prog 92 #[.int .i64 a, .int .i64 b] w fun e w' => e = .returned (.int .i64 r) ∧ w = w' := by
  rcases h with ⟨h, rfl⟩ | ⟨⟨h, h'⟩, rfl⟩ | ⟨⟨h, h'⟩, rfl⟩
  all_goals
    go_enter Tryz.func92, Tryz.ntmps92
    go_wp2_with (go_at_call 111; refine (nanInt_any _ _).mono ?_; rintro e w2 ⟨rfl, rfl⟩)
    go_ret
    exact ⟨rfl, rfl⟩
theorem cmpInt_any (a b : Int) (w : World) : Calls Tryz.prog 92 #[.int .i64 a, .int .i64 b] w fun e w' => e = .returned (.int .i64 (sgn a b)) ∧ w = w' :=
  cmpInt_of a b _ w (by unfold sgn; (repeat' split) <;> omega)
set_option maxHeartbeats 1000000 in
theorem cmpStr_of (a b : ByteArray) (r : Int) (w : World) (h : (Op.bytesLess a.toList b.toList = true ∧ r = -1) ∨ ((Op.bytesLess a.toList b.toList = false ∧ (a.toList == b.toList) = false) ∧ r = 1) ∨ ((Op.bytesLess a.toList b.toList = false ∧ (a.toList == b.toList) = true) ∧ r = 0)) : Calls Tryz.prog 69 #[.string a, .string b] w fun e w' => e = .returned (.int .i64 r) ∧ w = w' := by
  rcases h with ⟨h, rfl⟩ | ⟨⟨h, h'⟩, rfl⟩ | ⟨⟨h, h'⟩, rfl⟩
  all_goals
    go_enter Tryz.func69, Tryz.ntmps69
    go_wp2_with (go_at_call 90; refine (nanStr_any _ _).mono ?_; rintro e w2 ⟨rfl, rfl⟩)
    go_ret
    exact ⟨rfl, rfl⟩
theorem cmpStr_any (a b : ByteArray) (w : World) : Calls Tryz.prog 69 #[.string a, .string b] w fun e w' => e = .returned (.int .i64 (cmpL a.data.toList b.data.toList)) ∧ w = w' := by
  refine cmpStr_of a b _ w ?_
  rw [Lib.toList_data, Lib.toList_data, less_cmpL, beq_cmpL]
  rcases cmpL_unit a.data.toList b.data.toList with h | h | h <;> simp [h]

set_option maxHeartbeats 1000000 in
theorem or_any (b : Nat) (x y z : Int) (w : World) (h : w.heap[b]? = some (.cells #[.int .i64 x, .int .i64 y, .int .i64 z] 3 (0, 0))) :
    Calls Tryz.prog 91 #[.slice (some ⟨b, 0, none⟩) 3 3] w fun e w' => e = .returned (.int .i64 (orI x (orI y z))) ∧ w = w' := by
  obtain ⟨c0, c1, c2⟩ := three_cells h
  clear h
  by_cases hx : x = 0
  · subst hx
    by_cases hy : y = 0
    · subst hy
      by_cases hz : z = 0
      · subst hz
        go_enter Tryz.func91, Tryz.ntmps91
        go_wp2
        refine wp_loop_rounds 4 ?_
        rw [rounds_succ]; go_wp2
        rw [rounds_succ]; go_wp2
        rw [rounds_succ]; go_wp2
        rw [rounds_succ]; go_wp2
        go_ret
        exact ⟨rfl, rfl⟩
      · have hz1 : ((z != 0) = true) := by simpa using hz
        have e : orI 0 (orI 0 z) = z := rfl
        rw [e]; clear e
        go_enter Tryz.func91, Tryz.ntmps91
        go_wp2
        refine wp_loop_rounds 3 ?_
        rw [rounds_succ]; go_wp2
        rw [rounds_succ]; go_wp2
        rw [rounds_succ]; go_wp2
        go_ret
        exact ⟨rfl, rfl⟩
    · have hz1 : ((y != 0) = true) := by simpa using hy
      have e : orI 0 (orI y z) = y := by simp [orI, hy]
      rw [e]; clear e
      go_enter Tryz.func91, Tryz.ntmps91
      go_wp2
      refine wp_loop_rounds 2 ?_
      rw [rounds_succ]; go_wp2
      rw [rounds_succ]; go_wp2
      go_ret
      exact ⟨rfl, rfl⟩
  · have hz1 : ((x != 0) = true) := by simpa using hx
    have e : orI x (orI y z) = x := by simp [orI, hx]
    rw [e]; clear e
    go_enter Tryz.func91, Tryz.ntmps91
    go_wp2
    refine wp_loop_rounds 1 ?_
    rw [rounds_succ]; go_wp2
    go_ret
    exact ⟨rfl, rfl⟩

theorem with_worldC {P : Program} {c : Code} {Q : Exit → Act → World → Prop} {a : Act} {w : World} (S : World → Prop) (h : S w) (k : ∀ W, S W → Code.wp P c Q a W) : Code.wp P c Q a w := k w h
theorem heads_same {p q r c x : Int} (h : c = orI p (orI q (orI r x))) (k : orI p (orI q r) = 0) : c = x := by
  obtain ⟨h1, h2⟩ := orI_zero.1 k
  obtain ⟨h3, h4⟩ := orI_zero.1 h2
  rw [h, h1, h3, h4]; rfl
theorem heads_other {p q r c x d : Int} (h : c = orI p (orI q (orI r x))) (k : orI p (orI q r) = d) (hd : ¬ d = 0) : c = d := by
  rw [h, ← k]
  unfold orI at *
  by_cases hp : p = 0
  · by_cases hq : q = 0
    · by_cases hr : r = 0
      · simp [hp, hq, hr] at k; omega
      · simp [hp, hq, hr]
    · simp [hp, hq]
  · simp [hp]
theorem len_of {p q : Int} {m n : Nat} (h : orI p (orI q (sgn (m : Int) (n : Int))) = 0) : m = n := by
  have := sgn_zero.1 (orI_zero.1 (orI_zero.1 h).2).2
  omega
def CmpOK (t : T) : Prop := ∀ (t' : T) (a b : Option Addr) (c d : Nat) (w : World), TysAt w (.slice a t.kids.length c) t.kids → TysAt w (.slice b t'.kids.length d) t'.kids →
    Calls Tryz.prog 70 #[tyV t (.slice a t.kids.length c), tyV t' (.slice b t'.kids.length d)] w fun e w' => e = .returned (.int .i64 (cmpT t t')) ∧ Below w.heap.size w w'

theorem cmp_drop (l l' : List T) (i : Nat) (h1 : i < l.length) (h2 : i < l'.length) : cmpTs (l.drop i) (l'.drop i) = orI (cmpT l[i] l'[i]) (cmpTs (l.drop (i + 1)) (l'.drop (i + 1))) := by
  rw [List.drop_eq_getElem_cons h1, List.drop_eq_getElem_cons h2, cmpTs]

set_option maxHeartbeats 600000 in
theorem cmpFunc_of (l l' : List T) (H : ∀ t ∈ l, CmpOK t) (a b : Option Addr) (c d : Nat) (w : World) (h : TysAt w (.slice a l.length c) l) (h' : TysAt w (.slice b l'.length d) l') (hn : l.length < 1152921504606846976) (hl : l.length = l'.length) :
    Calls Tryz.prog 93 #[.slice a l.length c, .slice b l'.length d, .func (.func 70) #[] #[]] w fun e w' => e = .returned (.int .i64 (cmpTs l l')) ∧ Below w.heap.size w w' := by
  by_cases h0 : l = []
  · subst h0
    obtain rfl : l' = [] := List.length_eq_zero_iff.1 hl.symm
    rw [cmpTs]
    clear h h' H
    go_enter Tryz.func93, Tryz.ntmps93
    go_wp2
    go_loopw [13] (fun vi wr => vi = .int .i64 0 ∧ Hid (Below w.heap.size w wr)) (fun _ _ => 0)
    case atStart => exact ⟨rfl, Lib.hid (Below.refl _ _)⟩
    case round =>
      obtain ⟨rfl, hB⟩ := hrel
      go_wp2
      go_ret
      exact ⟨rfl, hB.out⟩
  · have h0' : l' ≠ [] := by intro e; rw [e] at hl; exact h0 (List.length_eq_zero_iff.1 hl)
    obtain ⟨g1, c1, e1, hg1, hc1, r1⟩ := h.row h0
    obtain ⟨g2, c2, e2, hg2, hc2, r2⟩ := h'.row h0'
    cases e1; cases e2
    have HR1 := Lib.hid r1; clear r1
    have HR2 := Lib.hid r2; clear r2
    have HS := Lib.hid H; clear H
    obtain ⟨res, hres⟩ : ∃ r, cmpTs l l' = r := ⟨_, rfl⟩
    have HRes := Lib.hid hres
    rw [hres]; clear hres h h'
    rw [← hl] at hc2 ⊢
    have HL := Lib.hid hl; clear hl
    go_enter Tryz.func93, Tryz.ntmps93
    go_wp2
    go_loopw [13] (fun vi wr => ∃ i : Nat, i ≤ l.length ∧ vi = .int .i64 i ∧ Hid (Below w.heap.size w wr) ∧ Hid (cmpTs (l.drop i) (l'.drop i) = res)) (fun vi _ => l.length - (intOf vi).toNat)
    case atStart => exact ⟨0, Nat.zero_le _, rfl, Lib.hid (Below.refl _ _), Lib.hid (by simpa using HRes.out)⟩
    case round =>
      obtain ⟨i, hi, rfl, hB, hS⟩ := hrel
      by_cases hlt : i < l.length
      · have hlt' : i < l'.length := HL.out ▸ hlt
        obtain ⟨pa, ca, x0, x1, x2, xk⟩ := HR1.out i hlt
        obtain ⟨pb, cb, y0, y1, y2, yk⟩ := HR2.out i hlt'
        have f1 := fun o => hB.out.cell (p := ⟨g1, o, none⟩) hg1
        have f2 := fun o => hB.out.cell (p := ⟨g2, o, none⟩) hg2
        rw [← f1] at x0 x1 x2; rw [← f2] at y0 y1 y2
        have k2 : ∀ o1 o2 : Obj, KeepT w ((wr.alloc o1).alloc o2) := fun o1 o2 => ((KeepT.of_below hB.out).trans (keepT_alloc _ o1)).trans (keepT_alloc _ o2)
        have HC := Lib.hid (fun o1 o2 => HS.out l[i] (List.getElem_mem hlt) l'[i] pa pb ca cb ((wr.alloc o1).alloc o2) (xk.keep (k2 o1 o2)) (yk.keep (k2 o1 o2)))
        have HD := cmp_drop l l' i hlt hlt'
        rw [hS.out] at HD
        have hgr1 : g1 < wr.heap.size := Nat.lt_of_lt_of_le hg1 hB.out.size
        have hgr2 : g2 < wr.heap.size := Nat.lt_of_lt_of_le hg2 hB.out.size
        have hlt1 : ((i : Int) < (l.length : Int)) := by omega
        clear f1 f2 xk yk k2 hS
        generalize l[i] = t at x0 x1 x2 HC HD
        generalize l'[i] = u at y0 y1 y2 HC HD
        simp only [tyV] at HC
        have HB := Lib.hid (fun o1 o2 => hB.out.trans ((((Below.refl wr.heap.size wr).alloc (Nat.le_refl _) o1).alloc (by simp) o2).mono hB.out.size)); clear hB
        by_cases hz : cmpT t u = 0
        · rw [hz] at HC
          have HD' := Lib.hid (show res = cmpTs (l.drop (i + 1)) (l'.drop (i + 1)) by rw [HD, hz]; rfl)
          clear HD hz
          go_wp2_with (go_at_call 70; refine (HC.out _ _).mono ?_; rintro e w2 ⟨rfl, hb2⟩; have HB2 := Lib.hid ((HB.out _ _).trans (hb2.mono (by simp; have := (HB.out (.cells #[] 0) (.cells #[] 0)).size; simp at this; omega))); clear hb2)
          refine ⟨⟨i + 1, by omega, by go_num, HB2, Lib.hid HD'.out.symm⟩, ?_⟩
          simp [intOf]; omega
        · have hz1 : (cmpT t u != 0) = true := by simpa using hz
          have hz2 : (cmpT t u == 0) = false := by simpa using hz
          have hq : cmpT t u = res := by rw [HD, orI, if_neg hz]
          rw [hq] at HC hz1 hz2
          clear HD HRes hq hz
          go_wp2_with (go_at_call 70; refine (HC.out _ _).mono ?_; rintro e w2 ⟨rfl, hb2⟩; have HB2 := Lib.hid ((HB.out _ _).trans (hb2.mono (by simp; have := (HB.out (.cells #[] 0) (.cells #[] 0)).size; simp at this; omega))); clear hb2)
          go_ret
          exact ⟨rfl, HB2.out⟩
      · obtain rfl : i = l.length := by omega
        have e1 : res = 0 := by
          have := hS.out
          rw [List.drop_length, HL.out, List.drop_length, cmpTs] at this
          exact this.symm
        subst e1
        clear HRes hS
        go_wp2
        go_ret
        exact ⟨rfl, hB.out⟩

set_option maxHeartbeats 2000000 in
theorem cmp_step (t : T) (H : ∀ k ∈ t.kids, CmpOK k) (hn : t.kids.length < 1152921504606846976) : CmpOK t := by
  intro t' a b c d w h h'
  have HC := Lib.hid (fun (W : World) (k : KeepT w W) (hl : t.kids.length = t'.kids.length) => cmpFunc_of t.kids t'.kids H a b c d W (h.keep k) (h'.keep k) hn hl)
  have HE := Lib.hid (cmpT_eq t t')
  have HB := Lib.hid (show ∀ o1 o2 : Obj, Below w.heap.size w ((w.alloc o1).alloc o2) from fun o1 o2 => ((Below.refl _ w).alloc (Nat.le_refl _) _).alloc (by simp) _)
  obtain ⟨hd, hhd⟩ : ∃ r, orI (sgn t.kind t'.kind) (orI (cmpL t.name.data.toList t'.name.data.toList) (sgn t.kids.length t'.kids.length)) = r := ⟨_, rfl⟩
  have HO := Lib.hid (fun (b : Nat) (W : World) h => by have := or_any b (sgn t.kind t'.kind) (cmpL t.name.data.toList t'.name.data.toList) (sgn t.kids.length t'.kids.length) W h; rw [hhd] at this; exact this)
  have HH := Lib.hid hhd
  clear H h h' hhd
  simp only [tyV]
  by_cases hz : hd = 0
  · subst hz
    have e : cmpT t t' = cmpTs t.kids t'.kids := heads_same HE.out HH.out
    rw [e]
    clear e HE
    go_enter Tryz.func70, Tryz.ntmps70
    go_wp2
    refine with_worldC (fun V => KeepT w V ∧ Below w.heap.size w V ∧ V.heap[w.heap.size]? = some (.cells #[.int .i64 t.kind, .string t.name, .slice a t.kids.length c] 31 (0, 0)) ∧ V.heap[w.heap.size + 1]? = some (.cells #[.int .i64 t'.kind, .string t'.name, .slice b t'.kids.length d] 31 (0, 0))) ⟨?_, HB.out _ _, ?_, ?_⟩ ?_
    · exact (keepT_alloc w _).trans (keepT_alloc _ _)
    · rw [Below.heap_alloc _ _ _ (by simp)]; exact alloc_new w _
    · have := alloc_new (w.alloc (.cells #[.int .i64 t.kind, .string t.name, .slice a t.kids.length c] 31)) (.cells #[.int .i64 t'.kind, .string t'.name, .slice b t'.kids.length d] 31)
      simpa using this
    rintro V ⟨hk, hb, v0, v1⟩
    obtain ⟨z0, z1, z2⟩ := three_cells v0
    obtain ⟨z3, z4, z5⟩ := three_cells v1
    have HK := Lib.hid hk; have HB := Lib.hid hb
    have al : Hid (∀ (p : Addr) (x : Value) (o : Obj), V.cell? p = some x → (V.alloc o).cell? p = some x) := Lib.hid fun p x o h => (((Below.refl V.heap.size V).alloc (Nat.le_refl _) o).cell (World.block_lt_of_cell? _ _ h)).trans h
    have l1 := (Array.getElem?_eq_some_iff.1 v1).1
    have l0 : w.heap.size < V.heap.size := by omega
    clear hk hb v0 v1
    go_region_held3 (fun V' => V'.cell? ⟨w.heap.size, 0, none⟩ = some (.int .i64 t.kind) ∧ V'.cell? ⟨w.heap.size, 1, none⟩ = some (.string t.name) ∧ V'.cell? ⟨w.heap.size, 2, none⟩ = some (.slice a t.kids.length c) ∧ V'.cell? ⟨w.heap.size + 1, 0, none⟩ = some (.int .i64 t'.kind) ∧ V'.cell? ⟨w.heap.size + 1, 1, none⟩ = some (.string t'.name) ∧ V'.cell? ⟨w.heap.size + 1, 2, none⟩ = some (.slice b t'.kids.length d)) (first | exact ⟨z0, z1, z2, z3, z4, z5⟩ | exact ⟨al.out _ _ _ z0, al.out _ _ _ z1, al.out _ _ _ z2, al.out _ _ _ z3, al.out _ _ _ z4, al.out _ _ _ z5⟩)
      (first
        | (go_at_call 92; refine (cmpInt_any _ _ _).mono ?_; rintro e w2 ⟨rfl, rfl⟩)
        | (go_at_call 69; refine (cmpStr_any _ _ _).mono ?_; rintro e w2 ⟨rfl, rfl⟩)
        | (go_at_call 91; refine (HO.out _ _ ?hh).mono ?_; (case hh => exact alloc_new _ _); rintro e w2 ⟨rfl, rfl⟩))
    all_goals
      go_wp2_with (go_at_call 93; refine (HC.out _ ?kk ?kl).mono ?_; (case kk => exact fun k cs fz h => keepT_alloc _ _ k cs fz (HK.out k cs fz h)); (case kl => exact len_of HH.out); rintro e w2 ⟨rfl, hb2⟩; have HB2 := Lib.hid hb2; clear hb2)
    all_goals go_ret
    all_goals exact ⟨rfl, (HB.out.trans (((Below.refl V.heap.size V).alloc (Nat.le_refl _) _).mono HB.out.size)).drew.trans (HB2.out.mono (by simp; omega))⟩
  · have hz1 : (hd != 0) = true := by simpa using hz
    have hz2 : (hd == 0) = false := by simpa using hz
    have e : cmpT t t' = hd := heads_other HE.out HH.out hz
    rw [e]
    clear e HE HC hz HH
    go_enter Tryz.func70, Tryz.ntmps70
    go_wp2
    refine with_worldC (fun V => KeepT w V ∧ Below w.heap.size w V ∧ V.heap[w.heap.size]? = some (.cells #[.int .i64 t.kind, .string t.name, .slice a t.kids.length c] 31 (0, 0)) ∧ V.heap[w.heap.size + 1]? = some (.cells #[.int .i64 t'.kind, .string t'.name, .slice b t'.kids.length d] 31 (0, 0))) ⟨?_, HB.out _ _, ?_, ?_⟩ ?_
    · exact (keepT_alloc w _).trans (keepT_alloc _ _)
    · rw [Below.heap_alloc _ _ _ (by simp)]; exact alloc_new w _
    · have := alloc_new (w.alloc (.cells #[.int .i64 t.kind, .string t.name, .slice a t.kids.length c] 31)) (.cells #[.int .i64 t'.kind, .string t'.name, .slice b t'.kids.length d] 31)
      simpa using this
    rintro V ⟨hk, hb, v0, v1⟩
    obtain ⟨z0, z1, z2⟩ := three_cells v0
    obtain ⟨z3, z4, z5⟩ := three_cells v1
    have HK := Lib.hid hk; have HB := Lib.hid hb
    have al : Hid (∀ (p : Addr) (x : Value) (o : Obj), V.cell? p = some x → (V.alloc o).cell? p = some x) := Lib.hid fun p x o h => (((Below.refl V.heap.size V).alloc (Nat.le_refl _) o).cell (World.block_lt_of_cell? _ _ h)).trans h
    have l1 := (Array.getElem?_eq_some_iff.1 v1).1
    have l0 : w.heap.size < V.heap.size := by omega
    clear hk hb v0 v1
    go_region_held3 (fun V' => V'.cell? ⟨w.heap.size, 0, none⟩ = some (.int .i64 t.kind) ∧ V'.cell? ⟨w.heap.size, 1, none⟩ = some (.string t.name) ∧ V'.cell? ⟨w.heap.size, 2, none⟩ = some (.slice a t.kids.length c) ∧ V'.cell? ⟨w.heap.size + 1, 0, none⟩ = some (.int .i64 t'.kind) ∧ V'.cell? ⟨w.heap.size + 1, 1, none⟩ = some (.string t'.name) ∧ V'.cell? ⟨w.heap.size + 1, 2, none⟩ = some (.slice b t'.kids.length d)) (first | exact ⟨z0, z1, z2, z3, z4, z5⟩ | exact ⟨al.out _ _ _ z0, al.out _ _ _ z1, al.out _ _ _ z2, al.out _ _ _ z3, al.out _ _ _ z4, al.out _ _ _ z5⟩)
      (first
        | (go_at_call 92; refine (cmpInt_any _ _ _).mono ?_; rintro e w2 ⟨rfl, rfl⟩)
        | (go_at_call 69; refine (cmpStr_any _ _ _).mono ?_; rintro e w2 ⟨rfl, rfl⟩)
        | (go_at_call 91; refine (HO.out _ _ ?hh).mono ?_; (case hh => exact alloc_new _ _); rintro e w2 ⟨rfl, rfl⟩))
    all_goals go_wp2
    all_goals go_ret
    all_goals exact ⟨rfl, (HB.out.trans (((Below.refl V.heap.size V).alloc (Nat.le_refl _) _).mono HB.out.size)).drew⟩
theorem cmp_ok {t : T} (h : Fits t) : CmpOK t := by
  induction h with
  | mk t h1 _ ih => exact cmp_step t ih h1
theorem compare_any {t t' : T} {v v' : Value} {w : World} (hf : Fits t) (h : TysAt w v t.kids) (h' : TysAt w v' t'.kids) :
    Calls Tryz.prog 70 #[tyV t v, tyV t' v'] w fun e w' => e = .returned (.int .i64 (cmpT t t')) ∧ Below w.heap.size w w' := by
  obtain ⟨a, c, rfl⟩ := h.shape
  obtain ⟨b, d, rfl⟩ := h'.shape
  exact cmp_ok hf t' a b c d w h h'

set_option maxHeartbeats 1000000 in
theorem same_any {t t' : T} {v v' : Value} {w : World} (hf : Fits t) (h : TysAt w v t.kids) (h' : TysAt w v' t'.kids) :
    Calls Tryz.prog 52 #[tyV t v, tyV t' v'] w fun e w' => e = .returned (.bool (cmpT t t' == 0)) ∧ Below w.heap.size w w' := by
  obtain ⟨a, c, rfl⟩ := h.shape
  obtain ⟨b, d, rfl⟩ := h'.shape
  have HC := Lib.hid (fun (W : World) (k : KeepT w W) => compare_any (w := W) hf (h.keep k) (h'.keep k))
  have HK := Lib.hid (show ∀ o1 o2 : Obj, KeepT w ((w.alloc o1).alloc o2) from fun o1 o2 => (keepT_alloc w o1).trans (keepT_alloc _ o2))
  have HB := Lib.hid (show ∀ o1 o2 : Obj, Below w.heap.size w ((w.alloc o1).alloc o2) from fun o1 o2 => ((Below.refl _ w).alloc (Nat.le_refl _) _).alloc (by simp) _)
  clear h h' hf
  simp only [tyV] at HC ⊢
  generalize cmpT t t' = q at *
  go_enter Tryz.func52, Tryz.ntmps52
  go_wp2_with (go_at_call 70; refine (HC.out _ ?kk).mono ?_; (case kk => exact HK.out _ _); rintro e w2 ⟨rfl, hb2⟩; have HB2 := Lib.hid hb2; clear hb2)
  go_ret
  exact ⟨rfl, (HB.out _ _).trans (HB2.out.mono (by simp; omega))⟩
end Go.Proofs.YtdidgddcgjpokaaGreatDoor
/- A row of pairs in a block of memory; what stays beside it. -/
namespace Go.Proofs.YtdidgddcgjpokaaGreatDoor
open Go.RowKit Go.Sort
attribute [local go_sem] Oper.semAt_some

def encP (x : PR) : List Value := [.string x.n, .int .i64 x.t.kind, .string x.t.name, .slice x.a x.t.kids.length x.c]
/-- Block g holds the pairs l, from its head on. -/
def RowP (g : Nat) (l : List PR) (w : World) : Prop :=
  ∃ cs, w.heap[g]? = some (.cells cs 90 (0, 0)) ∧ l.length * 4 ≤ cs.size ∧ ∀ i, i < l.length →
    cs[i * 4]? = some (.string (l.getD i noP).n) ∧ cs[i * 4 + 1]? = some (.int .i64 (l.getD i noP).t.kind) ∧ cs[i * 4 + 2]? = some (.string (l.getD i noP).t.name) ∧ cs[i * 4 + 3]? = some (.slice (l.getD i noP).a (l.getD i noP).t.kids.length (l.getD i noP).c)
/-- The types of the pairs lie in memory. -/
def Typ (l : List PR) (w : World) : Prop := ∀ x ∈ l, TysAt w (.slice x.a x.t.kids.length x.c) x.t.kids
theorem Typ.keep {l : List PR} {w w' : World} (h : Typ l w) (k : KeepT w w') : Typ l w' := fun x hx => (h x hx).keep k
theorem RowP.lt {g : Nat} {l : List PR} {w : World} (h : RowP g l w) : g < w.heap.size := by
  obtain ⟨cs, h1, _⟩ := h; exact (Array.getElem?_eq_some_iff.1 h1).1
theorem RowP.same {g : Nat} {l : List PR} {w w' : World} (h : RowP g l w) (k : w'.heap[g]? = w.heap[g]?) : RowP g l w' := by
  obtain ⟨cs, h1, h2⟩ := h; exact ⟨cs, k.trans h1, h2⟩
theorem RowP.below {g : Nat} {l : List PR} {w w' : World} (h : RowP g l w) (k : Below w.heap.size w w') : RowP g l w' := h.same (k.block g h.lt)
theorem RowP.cells {g : Nat} {l : List PR} {w : World} (h : RowP g l w) {i : Nat} (hi : i < l.length) :
    w.cell? ⟨g, i * 4, none⟩ = some (.string (l.getD i noP).n) ∧ w.cell? ⟨g, i * 4 + 1, none⟩ = some (.int .i64 (l.getD i noP).t.kind) ∧ w.cell? ⟨g, i * 4 + 2, none⟩ = some (.string (l.getD i noP).t.name) ∧ w.cell? ⟨g, i * 4 + 3, none⟩ = some (.slice (l.getD i noP).a (l.getD i noP).t.kids.length (l.getD i noP).c) := by
  obtain ⟨cs, h1, _, h3⟩ := h
  rw [Lib.cell_of_heap h1, Lib.cell_of_heap h1, Lib.cell_of_heap h1, Lib.cell_of_heap h1]
  exact h3 i hi
theorem RowP.free {g : Nat} {l : List PR} {w : World} (h : RowP g l w) (o : Nat) : w.frozen? ⟨g, o, none⟩ = false := by
  obtain ⟨cs, h1, _⟩ := h; exact Lib.frozen_of_heap h1 o
theorem RowP.take {g : Nat} {l : List PR} {w : World} (h : RowP g l w) (k : Nat) : RowP g (l.take k) w := by
  obtain ⟨cs, h1, h2, h3⟩ := h
  have hl : (l.take k).length ≤ l.length := by simp; omega
  refine ⟨cs, h1, by omega, fun i hi => ?_⟩
  have e : (l.take k).getD i noP = l.getD i noP := by
    have : i < k := by simp at hi; omega
    simp [List.getD, this]
  rw [e]
  exact h3 i (by omega)
theorem RowP.of_eq {g : Nat} {l m : List PR} {w : World} (h : RowP g l w) (e : l = m) : RowP g m w := e ▸ h
/-- Four stores: a pair is laid into the row. -/
def set4 (w : World) (g i : Nat) (x : PR) : World := (((w.setCell ⟨g, i * 4, none⟩ (.string x.n)).setCell ⟨g, i * 4 + 1, none⟩ (.int .i64 x.t.kind)).setCell ⟨g, i * 4 + 2, none⟩ (.string x.t.name)).setCell ⟨g, i * 4 + 3, none⟩ (.slice x.a x.t.kids.length x.c)
theorem blk_set {W : World} {b o : Nat} {cs : Array Value} {T : TypeId} {m : Nat × Nat} (h : W.heap[b]? = some (.cells cs T m)) (v : Value) : (W.setCell ⟨b, o, none⟩ v).heap[b]? = some (.cells (cs.setIfInBounds o v) T m) := by
  obtain ⟨hlt, hk⟩ := Array.getElem?_eq_some_iff.1 h
  show (W.heap.modify b _)[b]? = _
  rw [Array.getElem?_eq_getElem (by rw [Array.size_modify]; exact hlt), Array.getElem_modify_self, hk]
  rfl
theorem heap_set4 (w : World) (g i : Nat) (x : PR) (k : Nat) (hk : k ≠ g) : (set4 w g i x).heap[k]? = w.heap[k]? :=
  (Below.heap_setCell _ ⟨g, i * 4 + 3, none⟩ _ k hk).trans ((Below.heap_setCell _ ⟨g, i * 4 + 2, none⟩ _ k hk).trans ((Below.heap_setCell _ ⟨g, i * 4 + 1, none⟩ _ k hk).trans (Below.heap_setCell _ ⟨g, i * 4, none⟩ _ k hk)))
theorem below_set4 (w : World) (g i : Nat) (x : PR) (N : Nat) (hN : N ≤ g) : Below N w (set4 w g i x) :=
  ((((Below.refl N w).setCell (p := ⟨g, i * 4, none⟩) hN _).setCell (p := ⟨g, i * 4 + 1, none⟩) hN _).setCell (p := ⟨g, i * 4 + 2, none⟩) hN _).setCell (p := ⟨g, i * 4 + 3, none⟩) hN _
theorem RowP.set {g : Nat} {l : List PR} {w : World} (h : RowP g l w) (i : Nat) (x : PR) : RowP g (l.set i x) (set4 w g i x) := by
  obtain ⟨cs, h1, h2, h3⟩ := h
  refine ⟨(((cs.setIfInBounds (i * 4) (.string x.n)).setIfInBounds (i * 4 + 1) (.int .i64 x.t.kind)).setIfInBounds (i * 4 + 2) (.string x.t.name)).setIfInBounds (i * 4 + 3) (.slice x.a x.t.kids.length x.c), blk_set (blk_set (blk_set (blk_set h1 _) _) _) _, by simpa using h2, fun j hj => ?_⟩
  have hj' : j < l.length := by simpa using hj
  by_cases e : j = i
  · subst e
    have e2 : (l.set j x).getD j noP = x := by simp [List.getD, hj']
    rw [e2]
    refine ⟨?_, ?_, ?_, ?_⟩ <;> (simp [Array.getElem?_setIfInBounds]; omega)
  · have e2 : (l.set i x).getD j noP = l.getD j noP := by simp [List.getD, Ne.symm e]
    rw [e2]
    obtain ⟨a1, a2, a3, a4⟩ := h3 j hj'
    refine ⟨?_, ?_, ?_, ?_⟩
    · rw [Array.getElem?_setIfInBounds_ne (by omega), Array.getElem?_setIfInBounds_ne (by omega), Array.getElem?_setIfInBounds_ne (by omega), Array.getElem?_setIfInBounds_ne (by omega)]; exact a1
    · rw [Array.getElem?_setIfInBounds_ne (by omega), Array.getElem?_setIfInBounds_ne (by omega), Array.getElem?_setIfInBounds_ne (by omega), Array.getElem?_setIfInBounds_ne (by omega)]; exact a2
    · rw [Array.getElem?_setIfInBounds_ne (by omega), Array.getElem?_setIfInBounds_ne (by omega), Array.getElem?_setIfInBounds_ne (by omega), Array.getElem?_setIfInBounds_ne (by omega)]; exact a3
    · rw [Array.getElem?_setIfInBounds_ne (by omega), Array.getElem?_setIfInBounds_ne (by omega), Array.getElem?_setIfInBounds_ne (by omega), Array.getElem?_setIfInBounds_ne (by omega)]; exact a4

/-- All but block g stays. -/
def Fr (g : Nat) (w w' : World) : Prop := Below 0 w w' ∧ ∀ k, k < w.heap.size → k ≠ g → w'.heap[k]? = w.heap[k]?
theorem Fr.refl (g : Nat) (w : World) : Fr g w w := ⟨Below.refl _ _, fun _ _ _ => rfl⟩
theorem Fr.trans {g : Nat} {a b c : World} (h : Fr g a b) (k : Fr g b c) : Fr g a c := ⟨h.1.trans k.1, fun i hi hg => (k.2 i (Nat.lt_of_lt_of_le hi h.1.size) hg).trans (h.2 i hi hg)⟩
theorem Fr.of_below {g : Nat} {w w' : World} (h : Below w.heap.size w w') : Fr g w w' := ⟨h.mono (Nat.zero_le _), fun k hk _ => h.block k hk⟩
theorem Fr.set4 (g i : Nat) (w : World) (x : PR) : Fr g w (set4 w g i x) := ⟨below_set4 w g i x 0 (Nat.zero_le _), fun k _ hg => heap_set4 w g i x k hg⟩
theorem Fr.below {g : Nat} {w w' : World} (h : Fr g w w') {N : Nat} (hg : N ≤ g) (hN : N ≤ w.heap.size) : Below N w w' := ⟨h.1.os, h.1.tape, h.1.output, h.1.size, fun k hk => h.2 k (by omega) (by omega)⟩
theorem Fr.keepT {g : Nat} {l : List PR} {w w' : World} (h : Fr g w w') (hr : RowP g l w) : KeepT w w' := by
  intro k cs fz hk
  refine (h.2 k (Array.getElem?_eq_some_iff.1 hk).1 ?_).trans hk
  rintro rfl
  obtain ⟨cs', h1, _⟩ := hr
  rw [hk] at h1
  simp at h1

/-! The sort's worlds. -/
theorem encP_len (x : PR) : (encP x).length = 4 := rfl
theorem encP_one (x : PR) : ∀ v ∈ encP x, v.oneCell' = true := by
  intro v hv
  simp only [encP, List.mem_cons, List.not_mem_nil, or_false] at hv
  rcases hv with rfl | rfl | rfl | rfl <;> rfl
theorem RowP.holds {g : Nat} {l : List PR} {w : World} (h : RowP g l w) : HoldsK encP 4 w g 0 l.toArray := by
  intro t ht
  have ht' : t < l.length * 4 := by simpa using ht
  rw [get_flatK _ _ _ _ (by simpa using ht')]
  have hb : ∀ i, i < l.length → l.toArray[i]! = l.getD i noP := fun i hi => by rw [bang _ _ (by simpa using hi)]; simp [List.getD, hi]
  refine ⟨?_, h.free _⟩
  have hi : t / 4 < l.length := by omega
  obtain ⟨a1, a2, a3, a4⟩ := h.cells hi
  rw [hb _ hi, Nat.zero_add]
  have hc : t % 4 = 0 ∨ t % 4 = 1 ∨ t % 4 = 2 ∨ t % 4 = 3 := by omega
  rcases hc with e | e | e | e
  · rw [e, show t = t / 4 * 4 by omega]; simpa [encP] using a1
  · rw [e, show t = t / 4 * 4 + 1 by omega, show (t / 4 * 4 + 1) / 4 = t / 4 by omega]; exact a2
  · rw [e, show t = t / 4 * 4 + 2 by omega, show (t / 4 * 4 + 2) / 4 = t / 4 by omega]; exact a3
  · rw [e, show t = t / 4 * 4 + 3 by omega, show (t / 4 * 4 + 3) / 4 = t / 4 by omega]; exact a4
theorem heap_sortW (w : World) (g m : Nat) (d : Array PR) (os : Array Obj) (k : Nat) (hk : k < w.heap.size) (hg : k ≠ g) : (sortWorldK encP 4 w g 0 m d os).heap[k]? = w.heap[k]? := by
  unfold sortWorldK grow putRowK putRow mapBlock
  show ((w.heap.modify g _) ++ os)[k]? = _
  rw [Array.getElem?_append_left (by simpa using hk), Array.getElem?_modify]
  simp [Ne.symm hg]
theorem block_sortW {w : World} {g : Nat} {cs : Array Value} {T : TypeId} {fz : Nat × Nat} (h : w.heap[g]? = some (.cells cs T fz)) (m : Nat) (d : Array PR) (os : Array Obj) :
    (sortWorldK encP 4 w g 0 m d os).heap[g]? = some (.cells (putCells id 0 (flatK encP 4 d) cs) T fz) := by
  unfold sortWorldK grow putRowK putRow mapBlock
  have hk := (Array.getElem?_eq_some_iff.1 h).1
  show ((w.heap.modify g _) ++ os)[g]? = _
  rw [Array.getElem?_append_left (by simpa using hk), Array.getElem?_modify]
  simp [h, onCells]
theorem Fr.sort (w : World) (g m : Nat) (d : Array PR) (os : Array Obj) : Fr g w (sortWorldK encP 4 w g 0 m d os) := by
  refine ⟨⟨rfl, rfl, rfl, ?_, fun k hk => absurd hk (Nat.not_lt_zero _)⟩, fun k hk hg => heap_sortW w g m d os k hk hg⟩
  exact size_sortWorldK_c encP 4 w g 0 m d os
theorem RowP.sort {g : Nat} {l : List PR} {w : World} (h : RowP g l w) (m : Nat) (d : Array PR) (os : Array Obj) (hs : d.size = l.length) : RowP g d.toList (sortWorldK encP 4 w g 0 m d os) := by
  obtain ⟨cs, h1, h2, _⟩ := h
  refine ⟨_, block_sortW h1 m d os, by simpa [putCells, hs] using h2, fun i hi => ?_⟩
  have hi' : i < d.size := by simpa using hi
  have hb : d[i]! = d.toList.getD i noP := by rw [bang _ _ hi']; simp [List.getD, hi']
  have key : ∀ c, c < 4 → (putCells id 0 (flatK encP 4 d) cs)[i * 4 + c]? = some ((encP (d.toList.getD i noP))[c]!) := by
    intro c hc
    have hlt : i * 4 + c < d.size * 4 := by omega
    unfold putCells
    rw [Array.getElem?_mapIdx, Array.getElem?_eq_getElem (by omega)]
    simp only [Option.map_some, size_flatK, Nat.zero_le, true_and, Nat.zero_add, hlt, if_true, Nat.sub_zero, id]
    rw [get_flatK _ _ _ _ hlt, show (i * 4 + c) / 4 = i by omega, show (i * 4 + c) % 4 = c by omega, hb]
  exact ⟨by simpa [encP] using key 0 (by decide), key 1 (by decide), key 2 (by decide), key 3 (by decide)⟩
end Go.Proofs.YtdidgddcgjpokaaGreatDoor
/- A row of pairs is sorted by names: slices.SortStableFunc of fewer than twenty. -/
namespace Go.Proofs.YtdidgddcgjpokaaGreatDoor
open Go.RowKit Go.Sort
attribute [local go_sem] Oper.semAt_some

def pairV (x : PR) : Value := .agg #[.string x.n, .int .i64 x.t.kind, .string x.t.name, .slice x.a x.t.kids.length x.c]

set_option maxRecDepth 100000 in
set_option maxHeartbeats 1000000 in
theorem cmpP_any (x y : PR) (w : World) :
    Calls Tryz.prog 101 #[pairV x, pairV y] w fun e w' => e = .returned (.int .i64 (cmpP x y)) ∧ w' = (w.alloc (.cells (encP x).toArray 90)).alloc (.cells (encP y).toArray 90) := by
  have HC := Lib.hid (fun W => cmpStr_any x.n y.n W)
  have hr : cmpL x.n.data.toList y.n.data.toList = cmpP x y := rfl
  rw [hr] at HC
  clear hr
  generalize cmpP x y = r at *
  simp only [pairV, encP]
  go_enter Tryz.func101, Tryz.ntmps101
  go_wp2_with (go_at_call 69; refine (HC.out _).mono ?_; rintro e w2 ⟨rfl, rfl⟩)
  go_ret
  exact ⟨rfl, rfl⟩

theorem cmpP_lays (blk off size : Nat) (w : World) : CmpLays Tryz.prog 101 #[] encP 4 cmpP blk off size w := by
  intro m os dk _ x y
  refine (cmpP_any x y _).mono ?_
  rintro e w' ⟨rfl, rfl⟩
  refine ⟨rfl, 0, #[.cells (encP x).toArray 90, .cells (encP y).toArray 90], ?_⟩
  rw [alloc_eq_grow, alloc_eq_grow, grow_grow]; rfl

def insRen : Go.Shelf.Ren := ⟨fun | 20 => 121 | n => n, fun | 0 => 0 | 3 => 3 | 4 => 4 | 22 => 71 | 24 => 90 | 25 => 133 | n => n, fun n => n⟩
theorem insLay : SlLaysF0.n20 Tryz.prog insRen :=
  { mixed := by kernel_rfl
    f20 := ⟨Tryz.f121.name, by decide, by kernel_rfl⟩
    t0 := by kernel_rfl
    a0 := fun _ => by kernel_rfl
    z0 := fun _ => by kernel_rfl
    v0 := fun _ => by kernel_rfl
    t3 := by kernel_rfl
    a3 := fun _ => by kernel_rfl
    z3 := fun _ => by kernel_rfl
    v3 := fun _ => by kernel_rfl
    t4 := by kernel_rfl
    a4 := fun _ => by kernel_rfl
    z4 := fun _ => by kernel_rfl
    v4 := fun _ => by kernel_rfl
    t22 := by kernel_rfl
    a22 := fun _ => by kernel_rfl
    z22 := fun _ => by kernel_rfl
    v22 := fun _ => by kernel_rfl
    t25 := by kernel_rfl
    a25 := fun _ => by kernel_rfl
    z25 := fun _ => by kernel_rfl
    v25 := fun _ => by kernel_rfl }
theorem insert_any (g cap : Nat) (l : List PR) (w : World) (h : RowP g l w) (hl : l.length < 4611686018427387904) :
    Calls Tryz.prog 121 #[.slice (some ⟨g, 0, none⟩) l.length cap, .int .i64 0, .int .i64 (l.length : Int), .func (.func 101) #[] #[]] w fun e w' =>
      e = .returned (.tuple #[]) ∧ ∃ m os, w' = sortWorldK encP 4 w g 0 m (insertionSort ltP l.toArray 0 l.toArray.size) os := by
  have : Calls Tryz.prog 121 _ _ _ := AnyQ.insertionSortCmpFunc insLay 4 Tryz.isAgg90 Tryz.sizeOf90 encP encP_len encP_one cmpP 101 #[] g 0 cap 0 l.length l.toArray w
    (enters_of Tryz.func101 (by kernel_rfl) rfl) (cmpP_lays g 0 _ w) h.holds h.lt (Nat.zero_le _) (by simp) (by simpa using hl)
  have e : (ltOf cmpP : PR → PR → Bool) = ltP := rfl
  rw [e, List.size_toArray] at this
  simpa using this

set_option maxRecDepth 100000 in
set_option maxHeartbeats 1000000 in
theorem stable_any (g cap : Nat) (l : List PR) (w : World) (h : RowP g l w) (hl : l.length < 20) :
    Calls Tryz.prog 116 #[.slice (some ⟨g, 0, none⟩) l.length cap, .int .i64 (l.length : Int), .func (.func 101) #[] #[]] w fun e w' =>
      e = .returned (.tuple #[]) ∧ ∃ m os, w' = sortWorldK encP 4 w g 0 m (insertionSort ltP l.toArray 0 l.toArray.size) os := by
  have HI := Lib.hid (insert_any g cap l w h (by omega))
  have hz : ¬ ((20 : Int) ≤ (l.length : Int)) := by omega
  have hz2 : ¬ ((20 : Int) < (l.length : Int)) := by omega
  clear h
  generalize insertionSort ltP l.toArray 0 l.toArray.size = r at *
  go_enter Tryz.func116, Tryz.ntmps116
  go_wp2
  refine wp_loop_rounds 1 ?_
  rw [rounds_succ]
  go_wp2_with (go_at_call 121; refine HI.out.mono ?_)
  rintro e w2 ⟨rfl, m, os, rfl⟩
  go_wp2
  refine wp_loop_rounds 1 ?_
  rw [rounds_succ]
  go_wp2
  go_end0
  exact ⟨rfl, m, os, rfl⟩

theorem sortStable_any (g cap : Nat) (l : List PR) (w : World) (h : RowP g l w) (hl : l.length < 20) :
    Calls Tryz.prog 100 #[.slice (some ⟨g, 0, none⟩) l.length cap, .func (.func 101) #[] #[]] w fun e w' =>
      e = .returned (.tuple #[]) ∧ ∃ m os, w' = sortWorldK encP 4 w g 0 m (insertionSort ltP l.toArray 0 l.toArray.size) os := by
  have HI := Lib.hid (stable_any g cap l w h hl)
  clear h
  generalize insertionSort ltP l.toArray 0 l.toArray.size = r at *
  go_enter Tryz.func100, Tryz.ntmps100
  go_wp2_with (go_at_call 116; refine HI.out.mono ?_)
  rintro e w2 ⟨rfl, m, os, rfl⟩
  go_wp2
  go_end0
  exact ⟨rfl, m, os, rfl⟩

theorem sortNone (a : Option Addr) (c : Nat) (w : World) :
    Calls Tryz.prog 100 #[.slice a 0 c, .func (.func 101) #[] #[]] w fun e w' => e = .returned (.tuple #[]) ∧ w = w' := by
  have hI : ∀ W, Calls Tryz.prog 121 #[.slice a 0 c, .int .i64 0, .int .i64 0, .func (.func 101) #[] #[]] W fun e w' => e = .returned (.tuple #[]) ∧ W = w' := by
    intro W
    go_enter Tryz.func121, Tryz.ntmps121
    go_wp2
    refine wp_loop_rounds 1 ?_
    rw [rounds_succ]
    go_wp2
    go_end0
    exact ⟨rfl, rfl⟩
  have hS : ∀ W, Calls Tryz.prog 116 #[.slice a 0 c, .int .i64 0, .func (.func 101) #[] #[]] W fun e w' => e = .returned (.tuple #[]) ∧ W = w' := by
    intro W
    go_enter Tryz.func116, Tryz.ntmps116
    go_wp2
    refine wp_loop_rounds 1 ?_
    rw [rounds_succ]
    go_wp2_with (go_at_call 121; refine (hI _).mono ?_)
    rintro e w2 ⟨rfl, rfl⟩
    go_wp2
    refine wp_loop_rounds 1 ?_
    rw [rounds_succ]
    go_wp2
    go_end0
    exact ⟨rfl, rfl⟩
  go_enter Tryz.func100, Tryz.ntmps100
  go_wp2_with (go_at_call 116; refine (hS _).mono ?_)
  rintro e w2 ⟨rfl, rfl⟩
  go_wp2
  go_end0
  exact ⟨rfl, rfl⟩
end Go.Proofs.YtdidgddcgjpokaaGreatDoor
/- clear of a row's tail; whether two pairs have one name. -/
namespace Go.Proofs.YtdidgddcgjpokaaGreatDoor
open Go.RowKit Go.Sort
attribute [local go_sem] Oper.semAt_some

set_option maxRecDepth 100000 in
set_option maxHeartbeats 1000000 in
theorem eqP_any (x y : PR) (w : World) :
    Calls Tryz.prog 103 #[pairV x, pairV y] w fun e w' => e = .returned (.bool (x.n.toList == y.n.toList)) ∧ Below w.heap.size w w' := by
  have HB := Lib.hid (show ∀ o1 o2 : Obj, Below w.heap.size w ((w.alloc o1).alloc o2) from fun o1 o2 => ((Below.refl _ w).alloc (Nat.le_refl _) _).alloc (by simp) _)
  simp only [pairV]
  go_enter Tryz.func103, Tryz.ntmps103
  go_wp2
  go_ret
  exact ⟨rfl, HB.out _ _⟩

theorem heap_setCells (g : Nat) : ∀ (vs : List Value) (o : Nat) (w : World) (k : Nat), k ≠ g → (w.setCells g o vs).heap[k]? = w.heap[k]?
  | [], _, _, _, _ => rfl
  | v :: r, o, w, k, hk => by
    rw [World.setCells, heap_setCells g r (o + 1) _ k hk]
    exact Below.heap_setCell _ ⟨g, o, none⟩ _ k hk
theorem below_setCells (g N : Nat) (hN : N ≤ g) : ∀ (vs : List Value) (o : Nat) (w : World), Below N w (w.setCells g o vs)
  | [], _, w => Below.refl N w
  | v :: r, o, w => by
    rw [World.setCells]
    exact ((Below.refl N w).setCell (p := ⟨g, o, none⟩) hN v).trans (below_setCells g N hN r (o + 1) _)
theorem block_setCells (g : Nat) {T : TypeId} {fz : Nat × Nat} : ∀ (vs : List Value) (o : Nat) (w : World) (cs : Array Value), w.heap[g]? = some (.cells cs T fz) →
    ∃ cs', (w.setCells g o vs).heap[g]? = some (.cells cs' T fz) ∧ cs'.size = cs.size ∧ ∀ j, j < o → cs'[j]? = cs[j]?
  | [], _, _, cs, h => ⟨cs, h, rfl, fun _ _ => rfl⟩
  | v :: r, o, w, cs, h => by
    obtain ⟨cs', h1, h2, h3⟩ := block_setCells g r (o + 1) (w.setCell ⟨g, o, none⟩ v) _ (blk_set h v)
    refine ⟨cs', h1, by simpa using h2, fun j hj => ?_⟩
    rw [h3 j (by omega), Array.getElem?_setIfInBounds_ne (by omega)]
theorem Fr.setCells (g : Nat) (vs : List Value) (o : Nat) (w : World) : Fr g w (w.setCells g o vs) := ⟨below_setCells g 0 (Nat.zero_le _) vs o w, fun k _ hg => heap_setCells g vs o w k hg⟩
theorem RowP.setCells {g : Nat} {l : List PR} {w : World} (h : RowP g l w) (k : Nat) (hk : k ≤ l.length) (vs : List Value) : RowP g (l.take k) (w.setCells g (k * 4) vs) := by
  obtain ⟨cs, h1, h2, h3⟩ := h.take k
  obtain ⟨cs', e1, e2, e3⟩ := block_setCells g vs (k * 4) w cs h1
  refine ⟨cs', e1, by omega, fun i hi => ?_⟩
  have hik : i < k := by simp at hi; omega
  rw [e3 _ (by omega), e3 _ (by omega), e3 _ (by omega), e3 _ (by omega)]
  exact h3 i hi

def zeroP : Array Value := #[.string ⟨#[]⟩, .int .i64 0, .string ⟨#[]⟩, .slice none 0 0]
theorem zeroP_one : ∀ v ∈ zeroP, v.oneCell' = true := by
  intro v hv
  simp [zeroP] at hv
  rcases hv with rfl | rfl | rfl | rfl <;> rfl
theorem zeroCells_one (n : Nat) : ∀ v ∈ (Builtin.zeroCells zeroP n).toList, v.oneCell' = true := by
  intro v hv
  simp only [Builtin.zeroCells, Array.toList_map, List.mem_map] at hv
  obtain ⟨i, _, rfl⟩ := hv
  have h4 : i % zeroP.size < zeroP.size := Nat.mod_lt _ (by decide)
  rw [getElem!_pos zeroP _ h4]
  exact zeroP_one _ (Array.getElem_mem _)
theorem run_clear (w : World) (g k : Nat) (l : List PR) (h : RowP g l w) (hk : k < l.length) (c : Nat) (ty : TypeId) :
    (Builtin.clear_ #[71] ty #[.slice (some ⟨g, k * 4, none⟩) (l.length - k) c]).run Tryz.prog w = .ok (.tuple #[]) (w.setCells g (k * 4) (Builtin.zeroCells zeroP (l.length - k)).toList) := by
  have hz : ∀ w, (zeroValue 90).run Tryz.prog w = .ok (.agg zeroP) w := fun _ => by kernel_rfl
  have hlen : (Builtin.zeroCells zeroP (l.length - k)).toList.length = (l.length - k) * 4 := by simp [Builtin.zeroCells, zeroP]
  obtain ⟨cs, h1, h2, _⟩ := h
  have hst := run_storeCells_cells (P := Tryz.prog) g (k * 4) (Builtin.zeroCells zeroP (l.length - k)).toList 0 w (fun j hj => by rw [hlen] at hj; rw [Lib.cell_of_heap h1, Array.getElem?_eq_getElem (by omega)]; rfl) (fun j _ => Lib.frozen_of_heap h1 _) (zeroCells_one _)
  simp only [Nat.add_zero] at hst
  obtain ⟨m, hm⟩ : ∃ m, l.length - k = m + 1 := ⟨l.length - k - 1, by omega⟩
  rw [hm] at hst ⊢
  simp [Builtin.clear_, run_underlying (Tryz.underlying71), hz, Value.cells, hst]
end Go.Proofs.YtdidgddcgjpokaaGreatDoor
/- slices.CompactFunc of a row of pairs. -/
namespace Go.Proofs.YtdidgddcgjpokaaGreatDoor
open Go.RowKit Go.Sort Go.Lib
attribute [local go_sem] Oper.semAt_some

theorem name_beq (x y : PR) : (x.n.toList == y.n.toList) = true ↔ x.n = y.n := by
  rw [bytes_beq]; exact eqB_iff
theorem getD_bang (d : Array PR) (i : Nat) (h : i < d.size) : d.toList.getD i noP = d[i]! := by rw [bang d i h]; simp [List.getD, h]
theorem getD_list (l : List PR) (i : Nat) (h : i < l.length) : l.getD i noP = l.toArray[i]! := by have := getD_bang l.toArray i (by simpa using h); simpa using this

set_option maxRecDepth 100000 in
set_option maxHeartbeats 4000000 in
theorem compact_any (g cap : Nat) (d : List PR) (w : World) (h : RowP g d w) (hc : d.length ≤ cap) (hl : d.length < 1152921504606846976) (h0 : d ≠ []) :
    Calls Tryz.prog 102 #[.slice (some ⟨g, 0, none⟩) d.length cap, .func (.func 103) #[] #[]] w fun e w' =>
      e = .returned (.slice (some ⟨g, 0, none⟩) (keptUpTo (kpC d.toArray) d.toArray d.length).length cap) ∧ RowP g (keptUpTo (kpC d.toArray) d.toArray d.length) w' ∧ Fr g w w' := by
  have HH := Lib.hid h
  have hpos : 0 < d.length := List.length_pos_iff.2 h0
  obtain ⟨A, hA⟩ : ∃ A, d.toArray = A := ⟨_, rfl⟩
  have hAs : A.size = d.length := by rw [← hA]; simp
  have hAl : A.toList = d := by rw [← hA]
  rw [hA]
  have HA := Lib.hid hAl
  clear h hA hAl h0
  by_cases h2 : d.length < 2
  · have h1 : d.length = 1 := by omega
    have hk : keptUpTo (kpC A) A 1 = d := by
      have : keptUpTo (kpC A) A 1 = [A[0]!] := by rw [keptUpTo_succ, kpC_true (.inl rfl)]; rfl
      rw [this, ← getD_bang A 0 (by omega), HA.out]
      match d, h1 with
      | [x], _ => rfl
    rw [h1, hk]
    clear hk
    rw [h1] at *
    go_enter Tryz.func102, Tryz.ntmps102
    go_wp2
    go_ret
    exact ⟨rfl, HH.out, Fr.refl _ _⟩
  · have h2i : ¬ ((d.length : Int) < 2) := by omega
    obtain ⟨res, hres⟩ : ∃ r, keptUpTo (kpC A) A d.length = r := ⟨_, rfl⟩
    have HR := Lib.hid hres
    rw [hres]
    clear hres
    go_enter Tryz.func102, Tryz.ntmps102
    go_wp2
    go_loopw [5] (fun vk wr => ∃ k : Nat, (1 ≤ k ∧ k ≤ d.length) ∧ vk = .int .i64 k ∧ Hid (Below w.heap.size w wr) ∧ Hid (∀ j, j < k → kpC A j = true)) (fun vk _ => d.length - (intOf vk).toNat)
    case atStart => exact ⟨1, ⟨Nat.le_refl _, by omega⟩, rfl, Lib.hid (Below.refl _ _), Lib.hid fun j hj => kpC_true (.inl (by omega))⟩
    case round =>
      obtain ⟨k, ⟨hk1, hk⟩, rfl, hB, hall⟩ := hrel
      by_cases hlt : k < d.length
      · obtain ⟨q, rfl⟩ : ∃ q, k = q + 1 := ⟨k - 1, by omega⟩
        have HRr := Lib.hid (HH.out.below hB.out)
        obtain ⟨x0, x1, x2, x3⟩ := HRr.out.cells hlt
        obtain ⟨y0, y1, y2, y3⟩ := HRr.out.cells (i := q) (by omega)
        have e1 : d.getD (q + 1) noP = A[q + 1]! := by rw [← HA.out]; exact getD_bang A _ (by omega)
        have e2 : d.getD q noP = A[q]! := by rw [← HA.out]; exact getD_bang A _ (by omega)
        have HE := Lib.hid (name_beq (d.getD (q + 1) noP) (d.getD q noP))
        have HK := Lib.hid (show (d.getD (q + 1) noP).n = (d.getD q noP).n ↔ A[q]!.n = A[q + 1]!.n by rw [e1, e2]; exact eq_comm)
        have HC := Lib.hid (fun W => eqP_any (d.getD (q + 1) noP) (d.getD q noP) W)
        clear e1 e2
        generalize d.getD (q + 1) noP = x at *
        generalize d.getD q noP = y at *
        simp only [pairV] at HC
        obtain ⟨bb, hbb⟩ : ∃ b, (x.n.toList == y.n.toList) = b := ⟨_, rfl⟩
        rw [hbb] at HC HE
        clear hbb
        have hwp : IntKind.i64.wrap (q : Int) = (q : Int) := by rw [IntKind.wrap_i64]; omega
        have hwp2 : IntKind.i64.wrap (((q + 1 : Nat) : Int) - 1) = (q : Int) := by rw [IntKind.wrap_i64]; omega
        have jz : (q : Int) + 1 < (d.length : Int) := by omega
        have jz1 : (q : Int) < (d.length : Int) := by omega
        have p0 : (0 : Int) ≤ (q : Int) + 1 := by omega
        have e0 : ((q : Int) + 1).toNat = q + 1 := by omega
        go_wp2
        go_cut [28] from 18 to 28 (fun v W => v = .bool bb ∧ Hid (Below wr.heap.size wr W))
        case first =>
          cases bb <;> (
            go_region_with (first
              | (go_at_call 103; refine (HC.out _).mono ?_; rintro e w2 ⟨rfl, hb2⟩; have HB2 := Lib.hid hb2; clear hb2)))
          all_goals
            go_wp2_with fail
            go_meet
            exact ⟨rfl, Lib.hid ((Below.refl _ _).drew.trans HB2.out)⟩
        case rest =>
        obtain ⟨rfl, HB2⟩ := hcut
        clear x0 x1 x2 x3 y0 y1 y2 y3 HC
        cases bb with
        | true =>
            have HD := Lib.hid (HK.out.1 (HE.out.1 rfl))
            have HFr := Lib.hid ((Fr.of_below (g := g) hB.out).trans (Fr.of_below HB2.out))
            have HRw := Lib.hid (HRr.out.below HB2.out)
            clear HE HK hB HB2 HRr
            have hjc : (q : Int) + 1 ≤ (cap : Int) := by omega
            go_wp2
            generalize hm2 : d.length - (q + 1) = m2
            generalize cap - (q + 1) = c2
            go_loopw [5, 7] (fun vk vk2 wr => ∃ (k k2 : Nat) (dk : Array PR), (1 ≤ k2 ∧ q + 1 + k2 ≤ d.length) ∧ vk = .int .i64 k ∧ vk2 = .int .i64 k2 ∧ Hid (KeptInv (kpC A) A (q + 1 + k2) k dk) ∧ Hid (RowP g dk.toList wr) ∧ Hid (Fr g w wr)) (fun _ vk2 _ => d.length - (intOf vk2).toNat)
            case atStart =>
              refine ⟨q + 1, 1, A, ⟨Nat.le_refl _, by omega⟩, by go_num, by go_num, Lib.hid (KeptInv.start hall.out (kpC_false ?_)), Lib.hid (by rw [HA.out]; exact HRw.out), HFr⟩
              rintro (h | h)
              · omega
              · exact h (by simpa using HD.out)
            case round =>
              obtain ⟨k, k2, dk, ⟨hk21, hk2⟩, rfl, rfl, hI, hRow, hF⟩ := hrel
              have hsz : dk.size = d.length := hI.out.size.trans hAs
              have hkm := hI.out.lt
              by_cases hlt2 : k2 < m2
              · obtain ⟨r, rfl⟩ : ∃ r, k2 = r + 1 := ⟨k2 - 1, by omega⟩
                have hlt3 : q + 1 + (r + 1) < d.length := by omega
                obtain ⟨x0, x1, x2, x3⟩ := hRow.out.cells (i := q + 1 + (r + 1)) (by simp; omega)
                obtain ⟨y0, y1, y2, y3⟩ := hRow.out.cells (i := q + 1 + r) (by simp; omega)
                have e1 : dk.toList.getD (q + 1 + (r + 1)) noP = A[q + 1 + (r + 1)]! := by rw [getD_bang dk _ (by omega)]; exact hI.out.high _ (by omega)
                have e2 : dk.toList.getD (q + 1 + r) noP = A[q + 1 + r]! := by rw [getD_bang dk _ (by omega)]; exact hI.out.high _ (by omega)
                rw [e1] at x0 x1 x2 x3
                rw [e2] at y0 y1 y2 y3
                have ea : (q + 1 + (r + 1)) * 4 = (q + 1) * 4 + (r + 1) * 4 := by omega
                have eb : (q + 1 + r) * 4 = (q + 1) * 4 + r * 4 := by omega
                rw [ea] at x0 x1 x2 x3
                rw [eb] at y0 y1 y2 y3
                have HE := Lib.hid (name_beq A[q + 1 + (r + 1)]! A[q + 1 + r]!)
                have HC := Lib.hid (fun W => eqP_any A[q + 1 + (r + 1)]! A[q + 1 + r]! W)
                have HKt := Lib.hid (fun (h : A[q + 1 + (r + 1)]!.n ≠ A[q + 1 + r]!.n) => hI.out.keep (by omega) (kpC_true (d := A) (j := q + 1 + (r + 1)) (.inr fun e => h (by simpa using e.symm))))
                have HKf := Lib.hid (fun (h : A[q + 1 + (r + 1)]!.n = A[q + 1 + r]!.n) => hI.out.skip (kpC_false (d := A) (j := q + 1 + (r + 1)) (by rintro (h' | h'); omega; exact h' (by simpa using h.symm))))
                have HX := Lib.hid (fun (W : World) (h : Below wr.heap.size wr W) => (hRow.out.below h).cells (i := q + 1 + (r + 1)) (by simp; omega))
                rw [e1, ea] at HX
                clear e1 e2 ea eb
                generalize A[q + 1 + (r + 1)]! = x' at *
                generalize A[q + 1 + r]! = y' at *
                simp only [pairV] at HC
                obtain ⟨bb, hbb⟩ : ∃ b, (x'.n.toList == y'.n.toList) = b := ⟨_, rfl⟩
                rw [hbb] at HC HE
                clear hbb
                have hwp3 : IntKind.i64.wrap (r : Int) = (r : Int) := by rw [IntKind.wrap_i64]; omega
                have hwp4 : IntKind.i64.wrap (((r + 1 : Nat) : Int) - 1) = (r : Int) := by rw [IntKind.wrap_i64]; omega
                have jz3 : (r : Int) + 1 < (m2 : Int) := by omega
                have jz4 : (r : Int) < (m2 : Int) := by omega
                have p3 : (0 : Int) ≤ (r : Int) + 1 := by omega
                have e3 : ((r : Int) + 1).toNat = r + 1 := by omega
                have kz : (k : Int) < (d.length : Int) := by omega
                go_wp2
                go_cut [49] from 38 to 49 (fun v W => v = .bool (!bb) ∧ Hid (Below wr.heap.size wr W))
                case first =>
                  cases bb <;> (
                    go_region_with (first
                      | (go_at_call 103; refine (HC.out _).mono ?_; rintro e w2 ⟨rfl, hb2⟩; have HB2 := Lib.hid hb2; clear hb2)))
                  all_goals
                    go_wp2_with fail
                    go_meet
                    exact ⟨rfl, Lib.hid ((Below.refl _ _).drew.trans HB2.out)⟩
                case rest =>
                obtain ⟨rfl, HB2⟩ := hcut
                clear x0 x1 x2 x3 y0 y1 y2 y3 HC
                have HRw2 := Lib.hid (hRow.out.below HB2.out)
                have HFr2 := Lib.hid (hF.out.trans (Fr.of_below HB2.out))
                cases bb with
                | true =>
                  have HQ := Lib.hid (HE.out.1 rfl)
                  go_wp2
                  go_roundw
                  case rel => exact ⟨k, r + 1 + 1, dk, ⟨by omega, by omega⟩, rfl, by go_num, Lib.hid (HKf.out HQ.out), HRw2, HFr2⟩
                  case measure => simp [intOf]; omega
                | false =>
                  have HQ : Hid (x'.n ≠ y'.n) := Lib.hid (fun h => Bool.noConfusion (HE.out.2 h))
                  obtain ⟨x0, x1, x2, x3⟩ := HX.out _ HB2.out
                  obtain ⟨o0, o1, o2, o3⟩ := HRw2.out.cells (i := k) (by simp; omega)
                  have z0 := HRw2.out.free (k * 4)
                  have z1 := HRw2.out.free (k * 4 + 1)
                  have z2 := HRw2.out.free (k * 4 + 2)
                  have z3 := HRw2.out.free (k * 4 + 3)
                  clear HB2
                  go_wp2
                  go_roundw
                  case rel => exact ⟨k + 1, r + 1 + 1, dk.setIfInBounds k x', ⟨by omega, by omega⟩, by go_num, by go_num, Lib.hid (HKt.out HQ.out), Lib.hid ((HRw2.out.set k x').of_eq (by simp)), Lib.hid (HFr2.out.trans (Fr.set4 g k _ x'))⟩
                  case measure => simp [intOf]; omega
              · have hm : q + 1 + k2 = d.length := by omega
                obtain rfl : k2 = m2 := by omega
                have hcl : ∀ ty c, (Builtin.clear_ #[71] ty #[.slice (some ⟨g, k * 4, none⟩) (d.length - k) c]).run Tryz.prog wr = .ok (.tuple #[]) (wr.setCells g (k * 4) (Builtin.zeroCells zeroP (d.length - k)).toList) := fun ty c => by
                  have := run_clear wr g k dk.toList hRow.out (by simp; omega) c ty
                  rwa [show dk.toList.length = d.length by simpa using hsz] at this
                have hlow := hI.out.low
                have hlen := hI.out.len
                rw [hm, HR.out] at hlow hlen
                have HT : Hid (dk.toList.take k = res) := Lib.hid (by
                  apply List.ext_getElem?
                  intro j
                  by_cases hj : j < k
                  · rw [hlow j hj, List.getElem?_take_of_lt hj, ← getD_bang dk j (by omega)]
                    simp [List.getD, show j < dk.size by omega]
                  · rw [List.getElem?_eq_none (by simp; omega), List.getElem?_eq_none (by omega)])
                have HL := Lib.hid hlen
                have kz : (k : Int) ≤ (d.length : Int) := by omega
                have kz2 : (k : Int) ≤ (cap : Int) := by omega
                clear hlow hlen HR
                go_wp2
                go_ret
                exact ⟨by rw [HL.out]; rfl, (hRow.out.setCells k (by simp; omega) _).of_eq HT.out, hF.out.trans (Fr.setCells g _ _ _)⟩
        | false =>
          have HQ : Hid (¬ (A[q]!.n = A[q + 1]!.n)) := Lib.hid (fun h => Bool.noConfusion (HE.out.2 (HK.out.2 h)))
          go_wp2
          go_roundw
          case rel =>
            refine ⟨q + 1 + 1, ⟨by omega, by omega⟩, by go_num, Lib.hid (hB.out.trans (HB2.out.mono hB.out.size)), Lib.hid fun j hj => ?_⟩
            by_cases e : j = q + 1
            · subst e; exact kpC_true (.inr (by simpa using HQ.out))
            · exact hall.out j (by omega)
          case measure => simp [intOf]; omega
      · obtain rfl : k = d.length := by omega
        have hres : res = d := by
          rw [← HR.out, keptUpTo_all _ _ _ hall.out, ← hAs, range_map_get, HA.out]
        subst hres
        clear HR
        go_wp2
        go_ret
        exact ⟨rfl, HH.out.below hB.out, Fr.of_below hB.out⟩
end Go.Proofs.YtdidgddcgjpokaaGreatDoor
/- slices.DeleteFunc of a row of pairs: those that are their own type go. -/
namespace Go.Proofs.YtdidgddcgjpokaaGreatDoor
open Go.RowKit Go.Sort Go.Lib
attribute [local go_sem] Oper.semAt_some

set_option maxRecDepth 100000 in
set_option maxHeartbeats 1000000 in
theorem tvar_any (n : ByteArray) (w : World) :
    Calls Tryz.prog 60 #[.string n] w fun e w' => (∃ u, e = .returned (tyV (.var n) u) ∧ TysAt w' u []) ∧ Below w.heap.size w w' := by
  go_enter Tryz.func60, Tryz.ntmps60
  go_wp2
  refine bodyPost_ret (v := tyV (.var n) (.slice none 0 0)) (by simp [results, Tryz.results60, go_sem, tyV, T.kind, T.name]) rfl ⟨⟨_, rfl, TysAt.nil _ _ _⟩, (Below.refl _ w).alloc (Nat.le_refl _) _⟩
theorem four_cells {w : World} {p : Nat} {x y z u : Value} {T : TypeId} {fz : Nat × Nat} (h : w.heap[p]? = some (.cells #[x, y, z, u] T fz)) : w.cell? ⟨p, 0, none⟩ = some x ∧ w.cell? ⟨p, 1, none⟩ = some y ∧ w.cell? ⟨p, 2, none⟩ = some z ∧ w.cell? ⟨p, 3, none⟩ = some u := by
  refine ⟨?_, ?_, ?_, ?_⟩ <;> (rw [Lib.cell_of_heap h]; rfl)

theorem ownP_eq (x : PR) : (cmpT x.t (.var x.n) == 0) = ownP x := by
  rw [Bool.eq_iff_iff, ownP_iff, beq_iff_eq]; exact cmp_zero _ _

set_option maxRecDepth 100000 in
set_option maxHeartbeats 2000000 in
theorem isOwn_any (x : PR) (w : World) (hf : Fits x.t) (h : TysAt w (.slice x.a x.t.kids.length x.c) x.t.kids) :
    Calls Tryz.prog 105 #[pairV x] w fun e w' => e = .returned (.bool (ownP x)) ∧ Below w.heap.size w w' := by
  have HS := Lib.hid (fun (u : Value) (W : World) (k : KeepT w W) (hu : TysAt W u []) => same_any (t' := .var x.n) (v' := u) (w := W) hf (h.keep k) hu)
  simp only [ownP_eq] at HS
  generalize ownP x = r at *
  have HV := Lib.hid (fun W => tvar_any x.n W)
  have HB := Lib.hid (show ∀ o1 : Obj, Below w.heap.size w (w.alloc o1) from fun o1 => (Below.refl _ w).alloc (Nat.le_refl _) _)
  clear h hf
  simp only [pairV, tyV] at HS ⊢
  go_enter Tryz.func105, Tryz.ntmps105
  go_wp2
  go_region_with (first
    | (go_at_call 60; refine (HV.out _).mono ?_; rintro e w2 ⟨⟨u, rfl, hu⟩, hb2⟩; obtain ⟨b0, b1, b2, b3⟩ := four_cells ((hb2.block w.heap.size (by simp)).trans (alloc_new w _)); have HU := Lib.hid hu; have HB2 := Lib.hid ((HB.out _).drew.trans (hb2.mono (by simp))); clear hu hb2; simp only [tyV])
    | (go_at_call 52; refine (HS.out _ _ ?kk HU.out).mono ?_; (case kk => exact KeepT.of_below HB2.out); rintro e w3 ⟨rfl, hb3⟩; have HB3 := Lib.hid (HB2.out.trans (hb3.mono HB2.out.size)); clear hb3))
  all_goals go_wp2
  all_goals go_ret
  all_goals exact ⟨rfl, HB3.out⟩

/-- Each type's lists are no longer than any memory. -/
def FitsAll (d : List PR) : Prop := ∀ x ∈ d, Fits x.t
theorem getD_mem {d : List PR} {i : Nat} (h : i < d.length) : d.getD i noP ∈ d := by
  have : d.getD i noP = d[i] := by simp [List.getD, h]
  rw [this]; exact List.getElem_mem h

set_option maxRecDepth 100000 in
set_option maxHeartbeats 2000000 in
theorem index_any (g cap : Nat) (d : List PR) (w : World) (h : RowP g d w) (ht : Typ d w) (hf : FitsAll d) (hl : d.length < 1152921504606846976) :
    Calls Tryz.prog 117 #[.slice (some ⟨g, 0, none⟩) d.length cap, .func (.func 105) #[] #[]] w fun e w' =>
      (∃ r : Int, e = .returned (.int .i64 r) ∧ ((r = -1 ∧ ∀ j, j < d.length → ownP (d.getD j noP) = false) ∨ ∃ k : Nat, r = k ∧ k < d.length ∧ ownP (d.getD k noP) = true ∧ ∀ j, j < k → ownP (d.getD j noP) = false)) ∧ Below w.heap.size w w' := by
  have HH := Lib.hid h; have HT := Lib.hid ht; have HF := Lib.hid hf
  clear h ht hf
  go_enter Tryz.func117, Tryz.ntmps117
  go_wp2
  go_loopw [8] (fun vk wr => ∃ k : Nat, k ≤ d.length ∧ vk = .int .i64 k ∧ Hid (Below w.heap.size w wr) ∧ Hid (∀ j, j < k → ownP (d.getD j noP) = false)) (fun vk _ => d.length - (intOf vk).toNat)
  case atStart => exact ⟨0, Nat.zero_le _, rfl, Lib.hid (Below.refl _ _), Lib.hid fun j hj => absurd hj (Nat.not_lt_zero _)⟩
  case round =>
    obtain ⟨k, hk, rfl, hB, hall⟩ := hrel
    by_cases hlt : k < d.length
    · obtain ⟨x0, x1, x2, x3⟩ := (HH.out.below hB.out).cells hlt
      have HC := Lib.hid (isOwn_any (d.getD k noP) wr (HF.out _ (getD_mem hlt)) ((HT.out _ (getD_mem hlt)).keep (KeepT.of_below hB.out)))
      obtain ⟨bb, hbb⟩ : ∃ b, ownP (d.getD k noP) = b := ⟨_, rfl⟩
      have HO := Lib.hid hbb
      rw [hbb] at HC
      clear hbb
      generalize d.getD k noP = x at x0 x1 x2 x3 HC
      simp only [pairV] at HC
      cases bb with
      | true =>
        go_wp2_with (go_at_call 105; refine HC.out.mono ?_)
        rintro e w2 ⟨rfl, hb2⟩
        have HB2 := Lib.hid (hB.out.trans (hb2.mono hB.out.size))
        clear hb2
        go_wp2
        go_ret
        exact ⟨⟨_, rfl, .inr ⟨k, rfl, hlt, HO.out, hall.out⟩⟩, HB2.out⟩
      | false =>
        go_wp2_with (go_at_call 105; refine HC.out.mono ?_)
        rintro e w2 ⟨rfl, hb2⟩
        have HB2 := Lib.hid (hB.out.trans (hb2.mono hB.out.size))
        clear hb2
        go_wp2
        refine ⟨⟨k + 1, by omega, by go_num, HB2, Lib.hid fun j hj => ?_⟩, by simp [intOf]; omega⟩
        by_cases e : j = k
        · subst e; exact HO.out
        · exact hall.out j (by omega)
    · obtain rfl : k = d.length := by omega
      go_wp2
      go_ret
      exact ⟨⟨_, rfl, .inl ⟨rfl, hall.out⟩⟩, hB.out⟩

set_option maxRecDepth 100000 in
set_option maxHeartbeats 4000000 in
theorem delete_any (g cap : Nat) (d : List PR) (w : World) (h : RowP g d w) (ht : Typ d w) (hf : FitsAll d) (hc : d.length ≤ cap) (hl : d.length < 1152921504606846976) :
    Calls Tryz.prog 104 #[.slice (some ⟨g, 0, none⟩) d.length cap, .func (.func 105) #[] #[]] w fun e w' =>
      e = .returned (.slice (some ⟨g, 0, none⟩) (d.filter fun x => !ownP x).length cap) ∧ RowP g (d.filter fun x => !ownP x) w' ∧ Fr g w w' := by
  have HH := Lib.hid h; have HT := Lib.hid ht; have HF := Lib.hid hf
  have HI := Lib.hid (index_any g cap d w h ht hf hl)
  obtain ⟨A, hA⟩ : ∃ A, d.toArray = A := ⟨_, rfl⟩
  have hAs : A.size = d.length := by rw [← hA]; simp
  have hAl : A.toList = d := by rw [← hA]
  have HA := Lib.hid hAl
  obtain ⟨kp, HK⟩ : ∃ kp : Nat → Bool, Hid (kp = fun j => !ownP A[j]!) := ⟨_, rfl⟩
  have hfil : (d.filter fun x => !ownP x) = keptUpTo kp A d.length := by rw [HK.out, ← hAs, ← hAl]; exact (keptUpTo_filter (fun x => !ownP x) A).symm
  rw [hfil]
  obtain ⟨res, hres⟩ : ∃ r, keptUpTo kp A d.length = r := ⟨_, rfl⟩
  have HR := Lib.hid hres
  rw [hres]
  have hg : ∀ j, j < d.length → d.getD j noP = A[j]! := fun j hj => by rw [← hAl]; exact getD_bang A j (by omega)
  have HG := Lib.hid hg
  clear h ht hf hA hAl hfil hres hg
  go_enter Tryz.func104, Tryz.ntmps104
  go_wp2_with (go_at_call 117; refine HI.out.mono ?_)
  rintro e w1 ⟨⟨r, rfl, ⟨rfl, hall⟩ | ⟨k0, rfl, hk0, hown, hall⟩⟩, hb1⟩
  · have hres : res = d := by
      rw [← HR.out, keptUpTo_all _ _ _ (fun j hj => by rw [HK.out]; show (!ownP A[j]!) = true; rw [← HG.out j hj, hall j hj]; rfl), ← hAs, range_map_get, HA.out]
    subst hres
    have HB := Lib.hid hb1
    clear HR hall hb1
    go_wp2
    go_ret
    exact ⟨rfl, HH.out.below HB.out, Fr.of_below HB.out⟩
  · have hkeep : ∀ j, j < k0 → kp j = true := fun j hj => by rw [HK.out]; show (!ownP A[j]!) = true; rw [← HG.out j (by omega), hall j hj]; rfl
    have hdrop : kp k0 = false := by rw [HK.out]; show (!ownP A[k0]!) = false; rw [← HG.out k0 hk0, hown]; rfl
    have HS : Hid (KeptInv kp A (k0 + 1) k0 A) := Lib.hid (KeptInv.start hkeep hdrop)
    have HB := Lib.hid hb1
    have hne1 : ((k0 : Int) == -1) = false := beq_eq_false_iff_ne.2 (by omega)
    clear hkeep hdrop hall hown hb1
    go_wp2
    go_loopw [5, 6] (fun vk vk2 wr => ∃ (k m : Nat) (dk : Array PR), m ≤ d.length ∧ vk = .int .i64 k ∧ vk2 = .int .i64 m ∧ Hid (KeptInv kp A m k dk) ∧ Hid (RowP g dk.toList wr) ∧ Hid (Fr g w wr)) (fun _ vk2 _ => d.length - (intOf vk2).toNat)
    case atStart => exact ⟨k0, k0 + 1, A, by omega, by go_num, by go_num, HS, Lib.hid (by rw [HA.out]; exact HH.out.below HB.out), Lib.hid (Fr.of_below HB.out)⟩
    case round =>
      obtain ⟨k, m, dk, hm, rfl, rfl, hI, hRow, hF⟩ := hrel
      have hsz : dk.size = d.length := hI.out.size.trans hAs
      have hkm := hI.out.lt
      by_cases hlt : m < d.length
      · obtain ⟨x0, x1, x2, x3⟩ := hRow.out.cells (i := m) (by simp; omega)
        have e1 : dk.toList.getD m noP = d.getD m noP := by rw [getD_bang dk _ (by omega), HG.out m hlt]; exact hI.out.high _ (by omega)
        rw [e1] at x0 x1 x2 x3
        have hmem := getD_mem hlt
        have HC := Lib.hid (fun o => isOwn_any (d.getD m noP) (wr.alloc o) (HF.out _ hmem) ((HT.out _ hmem).keep ((hF.out.keepT HH.out).trans (keepT_alloc wr o))))
        have HKt := Lib.hid (fun (h : ownP (d.getD m noP) = false) => hI.out.keep (by omega) (by rw [HK.out]; show (!ownP A[m]!) = true; rw [← HG.out m hlt, h]; rfl))
        have HKf := Lib.hid (fun (h : ownP (d.getD m noP) = true) => hI.out.skip (by rw [HK.out]; show (!ownP A[m]!) = false; rw [← HG.out m hlt, h]; rfl))
        rw [← HG.out m hlt] at HKt
        clear e1 hmem
        obtain ⟨bb, hbb⟩ : ∃ b, ownP (d.getD m noP) = b := ⟨_, rfl⟩
        have HO := Lib.hid hbb
        rw [hbb] at HC
        clear hbb
        generalize d.getD m noP = x at *
        simp only [pairV] at HC
        have kz : (k : Int) < (d.length : Int) := by omega
        go_wp2_with (go_at_call 105; refine (HC.out _).mono ?_)
        rintro e w2 ⟨rfl, hb2⟩
        have bx := (hb2.block wr.heap.size (by simp)).trans (alloc_new wr _)
        obtain ⟨y0, y1, y2, y3⟩ := four_cells bx
        have HB2 := Lib.hid (((Below.refl _ wr).alloc (Nat.le_refl _) (.cells #[.string x.n, .int .i64 x.t.kind, .string x.t.name, .slice x.a x.t.kids.length x.c] 90)).trans (hb2.mono (by simp)))
        have HRw2 := Lib.hid (hRow.out.below HB2.out)
        have HFr2 := Lib.hid (hF.out.trans (Fr.of_below HB2.out))
        clear x0 x1 x2 x3 HC hb2 bx
        cases bb with
        | true =>
          clear y0 y1 y2 y3
          go_wp2
          go_roundw
          case rel => exact ⟨k, m + 1, dk, by omega, rfl, by go_num, Lib.hid (HKf.out HO.out), HRw2, HFr2⟩
          case measure => simp [intOf]; omega
        | false =>
          obtain ⟨o0, o1, o2, o3⟩ := HRw2.out.cells (i := k) (by simp; omega)
          have z0 := HRw2.out.free (k * 4)
          have z1 := HRw2.out.free (k * 4 + 1)
          have z2 := HRw2.out.free (k * 4 + 2)
          have z3 := HRw2.out.free (k * 4 + 3)
          clear HB2
          go_wp2
          go_roundw
          case rel => exact ⟨k + 1, m + 1, dk.setIfInBounds k x, by omega, by go_num, by go_num, Lib.hid (HKt.out HO.out), Lib.hid ((HRw2.out.set k x).of_eq (by simp)), Lib.hid (HFr2.out.trans (Fr.set4 g k _ x))⟩
          case measure => simp [intOf]; omega
      · obtain rfl : m = d.length := by omega
        have hcl : ∀ ty c, (Builtin.clear_ #[71] ty #[.slice (some ⟨g, k * 4, none⟩) (d.length - k) c]).run Tryz.prog wr = .ok (.tuple #[]) (wr.setCells g (k * 4) (Builtin.zeroCells zeroP (d.length - k)).toList) := fun ty c => by
          have := run_clear wr g k dk.toList hRow.out (by simp; omega) c ty
          rwa [show dk.toList.length = d.length by simpa using hsz] at this
        have hlow := hI.out.low
        have hlen := hI.out.len
        rw [HR.out] at hlow hlen
        have HTk : Hid (dk.toList.take k = res) := Lib.hid (by
          apply List.ext_getElem?
          intro j
          by_cases hj : j < k
          · rw [hlow j hj, List.getElem?_take_of_lt hj, ← getD_bang dk j (by omega)]
            simp [List.getD, show j < dk.size by omega]
          · rw [List.getElem?_eq_none (by simp; omega), List.getElem?_eq_none (by omega)])
        have HL := Lib.hid hlen
        have kz : (k : Int) ≤ (d.length : Int) := by omega
        have kz2 : (k : Int) ≤ (cap : Int) := by omega
        clear hlow hlen HR
        go_wp2
        go_ret
        exact ⟨by rw [HL.out]; rfl, (hRow.out.setCells k (by simp; omega) _).of_eq HTk.out, hF.out.trans (Fr.setCells g _ _ _)⟩
end Go.Proofs.YtdidgddcgjpokaaGreatDoor
/- subst.gather: a row of pairs is put in order, the first of each name, none that is its own type. -/
namespace Go.Proofs.YtdidgddcgjpokaaGreatDoor
open Go.RowKit Go.Sort Go.Lib
attribute [local go_sem] Oper.semAt_some

theorem gath (d d1 : List PR) (h1 : ∀ x, x ∈ d1 ↔ x ∈ d) (h2 : d1.length = d.length) (h3 : ∀ n, lk n d1 = lk n d) (h4 : d1.Pairwise (fun x y => ltP y x = false)) :
    Gath d ((keptUpTo (kpC d1.toArray) d1.toArray d1.length).filter fun x => !ownP x) := by
  obtain ⟨f1, f2, f3, _⟩ := comp_facts d1.toArray (by simpa using h4) d1.length (by simp)
  have e : d1.toArray.toList.take d1.length = d1 := by simp
  rw [e] at f2 f3
  obtain ⟨n1, n2⟩ := neat_filter f1
  refine ⟨n1, fun x hx => (h1 x).1 (f2 x (List.mem_filter.1 hx).1), ?_, fun n => ?_⟩
  · refine Nat.le_trans (List.length_filter_le _ _) ?_
    unfold keptUpTo
    rw [List.length_map, ← h2]
    exact Nat.le_trans (List.length_filter_le _ _) (by simp)
  · rw [n2 n]; unfold ty; rw [f3 n, h3 n]

set_option maxRecDepth 100000 in
set_option maxHeartbeats 2000000 in
theorem gather_some (g cap : Nat) (d : List PR) (w : World) (h : RowP g d w) (ht : Typ d w) (hf : FitsAll d) (hc : d.length ≤ cap) (hl : d.length < 20) (h0 : d ≠ []) :
    Calls Tryz.prog 75 #[.slice (some ⟨g, 0, none⟩) d.length cap] w fun e w' =>
      (∃ l, (e = .returned (.agg #[.slice (some ⟨g, 0, none⟩) l.length cap]) ∧ l.length ≤ cap) ∧ RowP g l w' ∧ Gath d l) ∧ Fr g w w' := by
  obtain ⟨s1, s2, s3, s4⟩ := sort_facts d.toArray
  have HS := Lib.hid (fun o => sortStable_any g cap d (w.alloc o) (h.below ((Below.refl _ w).alloc (Nat.le_refl _) o)) hl)
  have HRow := Lib.hid (fun o m os => (h.below ((Below.refl _ w).alloc (Nat.le_refl _) o)).sort m (insertionSort ltP d.toArray 0 d.toArray.size) os (by simpa using s2))
  have HFr := Lib.hid (fun o m os => (Fr.of_below (g := g) ((Below.refl _ w).alloc (Nat.le_refl _) o)).trans (Fr.sort (w.alloc o) g m (insertionSort ltP d.toArray 0 d.toArray.size) os))
  have hlt := h.lt
  obtain ⟨D, hD⟩ : ∃ D, insertionSort ltP d.toArray 0 d.toArray.size = D := ⟨_, rfl⟩
  rw [hD] at s1 s2 s3 s4 HS HRow HFr
  obtain ⟨d1, hd1⟩ : ∃ d1, D.toList = d1 := ⟨_, rfl⟩
  rw [hd1] at s1 s2 s3 s4 HRow
  have s2' : d1.length = d.length := by simpa using s2
  have hD1 : D = d1.toArray := by rw [← hd1]
  have HG := Lib.hid (gath d d1 (by simpa using s1) s2' (by simpa using s3) s4)
  have h01 : d1 ≠ [] := fun e => h0 (List.length_eq_zero_iff.1 (by rw [← s2', e]; rfl))
  have HT := Lib.hid ht
  have HM := Lib.hid (fun x (hx : x ∈ keptUpTo (kpC d1.toArray) d1.toArray d1.length) => (s1 x).1 (by
    have := (comp_facts d1.toArray (by simpa using s4) d1.length (by simp)).2.1 x hx
    exact List.mem_of_mem_take this))
  have HC := Lib.hid (fun W (hr : RowP g d1 W) => compact_any g cap d1 W hr (by omega) (by omega) h01)
  rw [s2'] at HC
  have hkl : (keptUpTo (kpC d1.toArray) d1.toArray d.length).length ≤ d.length := by
    unfold keptUpTo
    rw [List.length_map]
    exact Nat.le_trans (List.length_filter_le _ _) (by simp)
  rw [s2'] at HG HM
  obtain ⟨d2, hd2⟩ : ∃ d2, keptUpTo (kpC d1.toArray) d1.toArray d.length = d2 := ⟨_, rfl⟩
  rw [hd2] at HG HM HC hkl
  have HD := Lib.hid (fun W (hr : RowP g d2 W) (hk : KeepT w W) => delete_any g cap d2 W hr (fun x hx => ht.keep hk x (by simpa using HM.out x hx)) (fun x hx => hf x (by simpa using HM.out x hx)) (by omega) (by omega))
  have hfl : (d2.filter fun x => !ownP x).length ≤ d2.length := List.length_filter_le _ _
  obtain ⟨d3, hd3⟩ : ∃ d3, (d2.filter fun x => !ownP x) = d3 := ⟨_, rfl⟩
  rw [hd3] at HG HD hfl
  have HK := Lib.hid (fun W (f : Fr g w W) => f.keepT h)
  clear s1 s2 s3 s4 h ht hf hD hd1 hD1 h0 h01 hd2 hd3 HT HM
  go_enter Tryz.func75, Tryz.ntmps75
  go_wp2_with (go_at_call 100; refine (HS.out _).mono ?_)
  rintro e w1 ⟨rfl, m, os, hw1⟩
  have HR1 := Lib.hid (HRow.out (.cells #[.slice none 0 0] 73) m os)
  have HF1 := Lib.hid (HFr.out (.cells #[.slice none 0 0] 73) m os)
  have hb1 : w1.heap[w.heap.size]? = some (.cells #[.slice none 0 0] 73 (0, 0)) := by
    rw [hw1, heap_sortW _ _ _ _ _ _ (by simp) (by omega)]; exact alloc_new w _
  rw [← hw1] at HR1 HF1
  clear HRow HFr HS hw1
  have HB1 := Lib.hid hb1
  clear hb1
  go_wp2_with (go_at_call 102; refine (HC.out _ HR1.out).mono ?_)
  rintro e w2 ⟨rfl, hr2, hf2⟩
  have HB2 := Lib.hid ((hf2.2 _ (Array.getElem?_eq_some_iff.1 HB1.out).1 (by omega)).trans HB1.out)
  have HR2 := Lib.hid hr2
  have HF2 := Lib.hid (HF1.out.trans hf2)
  clear hr2 hf2
  go_wp2_with (go_at_call 104; refine (HD.out _ HR2.out (HK.out _ HF2.out)).mono ?_)
  rintro e w3 ⟨rfl, hr3, hf3⟩
  have hb3 := (hf3.2 _ (Array.getElem?_eq_some_iff.1 HB2.out).1 (by omega)).trans HB2.out
  have c3 : w3.cell? ⟨w.heap.size, 0, none⟩ = some (.slice none 0 0) := by rw [Lib.cell_of_heap hb3]; rfl
  have z3 := Lib.frozen_of_heap hb3 0
  have HB3 := Lib.hid hb3
  have HR3 := Lib.hid hr3
  have HF3 := Lib.hid (HF2.out.trans hf3)
  clear hr3 hf3 hb3
  go_wp2
  have hs := blk_set (o := 0) HB3.out (.slice (some ⟨g, 0, none⟩) d3.length cap)
  have hc0 : (w3.setCell ⟨w.heap.size, 0, none⟩ (.slice (some ⟨g, 0, none⟩) d3.length cap)).cell? ⟨w.heap.size, 0, none⟩ = some (.slice (some ⟨g, 0, none⟩) d3.length cap) := by rw [Lib.cell_of_heap hs]; rfl
  refine bodyPost_ret (v := .agg #[.slice (some ⟨g, 0, none⟩) d3.length cap]) (by simp [results, Tryz.results75, go_sem, hc0]) rfl ⟨⟨d3, ⟨rfl, by omega⟩, HR3.out.same (Below.heap_setCell _ ⟨w.heap.size, 0, none⟩ _ _ (by show g ≠ w.heap.size; omega)), HG.out⟩, HF3.out.1.trans ((Below.refl 0 w3).setCell (p := ⟨w.heap.size, 0, none⟩) (Nat.zero_le _) _), fun k hk hg => (Below.heap_setCell _ ⟨w.heap.size, 0, none⟩ _ _ (by show k ≠ w.heap.size; omega)).trans (HF3.out.2 k hk hg)⟩

/-! Of no pair. -/
theorem compact_none (a : Option Addr) (c : Nat) (w : World) :
    Calls Tryz.prog 102 #[.slice a 0 c, .func (.func 103) #[] #[]] w fun e w' => e = .returned (.slice a 0 c) ∧ w = w' := by
  go_enter Tryz.func102, Tryz.ntmps102
  go_wp2
  go_ret
  exact ⟨rfl, rfl⟩
theorem index_none (a : Option Addr) (c : Nat) (w : World) :
    Calls Tryz.prog 117 #[.slice a 0 c, .func (.func 105) #[] #[]] w fun e w' => e = .returned (.int .i64 (-1)) ∧ w = w' := by
  go_enter Tryz.func117, Tryz.ntmps117
  go_wp2
  refine wp_loop_rounds 1 ?_
  rw [rounds_succ]
  go_wp2
  go_ret
  exact ⟨rfl, rfl⟩
theorem delete_none (a : Option Addr) (c : Nat) (w : World) :
    Calls Tryz.prog 104 #[.slice a 0 c, .func (.func 105) #[] #[]] w fun e w' => e = .returned (.slice a 0 c) ∧ w = w' := by
  go_enter Tryz.func104, Tryz.ntmps104
  go_wp2_with (go_at_call 117; refine (index_none _ _ _).mono ?_)
  rintro e w1 ⟨rfl, rfl⟩
  go_wp2
  go_ret
  exact ⟨rfl, rfl⟩
set_option maxRecDepth 100000 in
set_option maxHeartbeats 1000000 in
theorem gather_none (a : Option Addr) (c : Nat) (w : World) :
    Calls Tryz.prog 75 #[.slice a 0 c] w fun e w' => e = .returned (.agg #[.slice a 0 c]) ∧ Below w.heap.size w w' := by
  go_enter Tryz.func75, Tryz.ntmps75
  go_wp2_with (first
    | (go_at_call 100; refine (sortNone _ _ _).mono ?_; rintro e w1 ⟨rfl, rfl⟩)
    | (go_at_call 102; refine (compact_none _ _ _).mono ?_; rintro e w1 ⟨rfl, rfl⟩)
    | (go_at_call 104; refine (delete_none _ _ _).mono ?_; rintro e w1 ⟨rfl, rfl⟩))
  refine bodyPost_ret (v := .agg #[.slice a 0 c]) (by simp [results, Tryz.results75, go_sem]) rfl ⟨rfl, (Below.refl _ w).alloc (Nat.le_refl _) _⟩

/-- A slice of pairs. -/
def SlP (v : Value) (d : List PR) (w : World) : Prop := (d = [] ∧ ∃ a c, v = .slice a 0 c ∧ (a = none → c = 0)) ∨ ∃ g cap, v = .slice (some ⟨g, 0, none⟩) d.length cap ∧ d.length ≤ cap ∧ RowP g d w
/-- Types for variables, as they lie in memory: the pairs by names. -/
def SubAt (v : Value) (d : List PR) (w : World) : Prop := (SlP v d w ∧ Neat d) ∧ Typ d w
theorem SubAt.below {v : Value} {d : List PR} {w w' : World} (h : SubAt v d w) (hb : Below w.heap.size w w') : SubAt v d w' := by
  obtain ⟨⟨h1, h2⟩, h3⟩ := h
  refine ⟨⟨?_, h2⟩, h3.keep (KeepT.of_below hb)⟩
  rcases h1 with h1 | ⟨g, cap, e, hc, hr⟩
  · exact .inl h1
  · exact .inr ⟨g, cap, e, hc, hr.below hb⟩
theorem gath_nil : Gath [] [] := ⟨⟨List.Pairwise.nil, fun x hx => by cases hx⟩, fun x hx => hx, Nat.le_refl _, fun _ => rfl⟩
end Go.Proofs.YtdidgddcgjpokaaGreatDoor
/- (Subst).find: the type that a name has. -/
namespace Go.Proofs.YtdidgddcgjpokaaGreatDoor
open Go.RowKit Go.Sort Go.Lib
attribute [local go_sem] Oper.semAt_some

def cmpN (x : PR) (n : ByteArray) : Int := cmpL x.n.data.toList n.data.toList
theorem cmpN_zero {x : PR} {n : ByteArray} : cmpN x n = 0 ↔ x.n = n := by
  have := name_of_cmp (x := x) (y := ⟨n, .var n, none, 0⟩)
  have h2 := cmp_of_name (x := x) (y := ⟨n, .var n, none, 0⟩)
  exact ⟨fun h => this h, fun h => h2 h⟩

set_option maxRecDepth 100000 in
set_option maxHeartbeats 1000000 in
theorem cmpN_any (x : PR) (n : ByteArray) (w : World) :
    Calls Tryz.prog 79 #[pairV x, .string n] w fun e w' => e = .returned (.int .i64 (cmpN x n)) ∧ Below w.heap.size w w' := by
  have HC := Lib.hid (fun W => cmpStr_any x.n n W)
  have hr : cmpL x.n.data.toList n.data.toList = cmpN x n := rfl
  rw [hr] at HC
  have HB := Lib.hid (show ∀ o1 : Obj, Below w.heap.size w (w.alloc o1) from fun o1 => (Below.refl _ w).alloc (Nat.le_refl _) _)
  clear hr
  generalize cmpN x n = r at *
  simp only [pairV]
  go_enter Tryz.func79, Tryz.ntmps79
  go_wp2_with (go_at_call 69; refine (HC.out _).mono ?_; rintro e w2 ⟨rfl, rfl⟩)
  go_ret
  exact ⟨rfl, HB.out _⟩

/-- In a row in order: what is less stands ahead. -/
theorem sorted_less {d : List PR} (h : Sorted d) (n : ByteArray) {a b : Nat} (hab : a ≤ b) (hb : b < d.length) (hl : cmpN (d.getD b noP) n < 0) : cmpN (d.getD a noP) n < 0 := by
  rcases Nat.lt_or_ge a b with hlt | hge
  · have h1 := List.pairwise_iff_getElem.1 h a b (by omega) hb hlt
    have ea : d.getD a noP = d[a] := by simp [List.getD, show a < d.length by omega]
    have eb : d.getD b noP = d[b] := by simp [List.getD, hb]
    rw [eb] at hl
    rw [ea]
    exact cmpP_trans (z := ⟨n, .var n, none, 0⟩) h1 hl
  · obtain rfl : a = b := by omega
    exact hl
/-- What the search finds. -/
def Found (d : List PR) (n : ByteArray) (i : Nat) (b : Bool) : Prop := (b = true ∧ i < d.length ∧ lk n d = some (d.getD i noP)) ∨ (b = false ∧ lk n d = none)
theorem found_yes {d : List PR} (h : Sorted d) {n : ByteArray} {i : Nat} (hi : i < d.length) (hz : cmpN (d.getD i noP) n = 0) : Found d n i true :=
  .inl ⟨rfl, hi, by have := lk_sorted h (getD_mem hi); rwa [cmpN_zero.1 hz] at this⟩
theorem found_no {d : List PR} {n : ByteArray} {i : Nat} (h1 : ∀ t, t < i → cmpN (d.getD t noP) n < 0) (h2 : ∀ t, i ≤ t → t < d.length → 0 ≤ cmpN (d.getD t noP) n) (h3 : i < d.length → cmpN (d.getD i noP) n ≠ 0) (hs : Sorted d) : Found d n i false := by
  refine .inr ⟨rfl, ?_⟩
  cases e : lk n d with
  | none => rfl
  | some x =>
    exfalso
    obtain ⟨hm, hn⟩ := lk_name e
    obtain ⟨t, ht, rfl⟩ := List.mem_iff_getElem.1 hm
    have et : d.getD t noP = d[t] := by simp [List.getD, ht]
    have hz : cmpN (d.getD t noP) n = 0 := by rw [et]; exact cmpN_zero.2 hn
    rcases Nat.lt_trichotomy t i with h | h | h
    · have := h1 t h; omega
    · subst h; exact h3 ht hz
    · have hi : i < d.length := by omega
      have h4 := h2 i (Nat.le_refl _) hi
      have h5 := h3 hi
      have h6 := List.pairwise_iff_getElem.1 hs i t hi ht h
      have ei : d.getD i noP = d[i] := by simp [List.getD, hi]
      rw [ei] at h4 h5
      rw [et] at hz
      have h7 := cmpN_zero.1 hz
      have h8 : cmpN d[i] n = cmpP d[i] d[t] := by unfold cmpN cmpP; rw [h7]
      omega

set_option maxRecDepth 100000 in
set_option maxHeartbeats 4000000 in
theorem search_some (g cap : Nat) (d : List PR) (n : ByteArray) (w : World) (h : RowP g d w) (hs : Sorted d) (hl : d.length < 1152921504606846976) :
    Calls Tryz.prog 78 #[.slice (some ⟨g, 0, none⟩) d.length cap, .string n, .func (.func 79) #[] #[]] w fun e w' =>
      (∃ (i : Nat) (b : Bool), e = .returned (.tuple #[.int .i64 (i : Int), .bool b]) ∧ Found d n i b) ∧ Below w.heap.size w w' := by
  have HH := Lib.hid h; have HS := Lib.hid hs
  clear h hs
  go_enter Tryz.func78, Tryz.ntmps78
  go_wp2
  go_loopw [9, 10] (fun s9 s10 wr => ∃ lo hi : Nat, (lo ≤ hi ∧ hi ≤ d.length) ∧ s9 = .int .i64 lo ∧ s10 = .int .i64 hi ∧ Hid (Below w.heap.size w wr) ∧
    Hid ((∀ t, t < lo → cmpN (d.getD t noP) n < 0) ∧ (∀ t, hi ≤ t → t < d.length → 0 ≤ cmpN (d.getD t noP) n))) (fun s9 s10 _ => (intOf s10).toNat - (intOf s9).toNat)
  case atStart => exact ⟨0, d.length, ⟨Nat.zero_le _, Nat.le_refl _⟩, rfl, rfl, Lib.hid (Below.refl _ _), Lib.hid ⟨fun t ht => absurd ht (Nat.not_lt_zero _), fun t h1 h2 => by omega⟩⟩
  case round =>
    obtain ⟨lo, hi, ⟨hlh, hin⟩, rfl, rfl, hB, hI⟩ := hrel
    by_cases hlt : lo < hi
    · obtain ⟨m, hm⟩ : ∃ m, (lo + hi) / 2 = m := ⟨_, rfl⟩
      have hmz : ((lo : Int) + (hi : Int)) / 2 = (m : Int) := by omega
      have hm1 : m < d.length := by omega
      have hm1z : (m : Int) < (d.length : Int) := by omega
      obtain ⟨x0, x1, x2, x3⟩ := (HH.out.below hB.out).cells hm1
      have HC := Lib.hid (cmpN_any (d.getD m noP) n wr)
      obtain ⟨r, hr⟩ : ∃ r, cmpN (d.getD m noP) n = r := ⟨_, rfl⟩
      have HR := Lib.hid hr
      rw [hr] at HC
      clear hr
      generalize d.getD m noP = x at x0 x1 x2 x3 HC
      simp only [pairV] at HC
      by_cases hyx : r < 0
      · go_wp2_with (go_at_call 79; refine HC.out.mono ?_; rintro e w2 ⟨rfl, hb2⟩; have HB2 := Lib.hid (hB.out.trans (hb2.mono hB.out.size)); clear hb2)
        go_wp2
        go_roundw
        case rel => exact ⟨m + 1, hi, ⟨by omega, hin⟩, by first | go_num | (congr 1; omega), rfl, HB2, Lib.hid ⟨fun t ht => sorted_less HS.out n (show t ≤ m by omega) hm1 (by rw [HR.out]; exact hyx), hI.out.2⟩⟩
        case measure => simp [intOf]; omega
      · go_wp2_with (go_at_call 79; refine HC.out.mono ?_; rintro e w2 ⟨rfl, hb2⟩; have HB2 := Lib.hid (hB.out.trans (hb2.mono hB.out.size)); clear hb2)
        go_wp2
        go_roundw
        case rel => exact ⟨lo, m, ⟨by omega, by omega⟩, rfl, rfl, HB2, Lib.hid ⟨hI.out.1, fun t ht htn => Int.not_lt.1 fun h => by have := sorted_less HS.out n ht htn h; rw [HR.out] at this; omega⟩⟩
        case measure => simp [intOf]; omega
    · obtain rfl : hi = lo := by omega
      by_cases hn : hi < d.length
      · have hnz : (hi : Int) < (d.length : Int) := by omega
        obtain ⟨x0, x1, x2, x3⟩ := (HH.out.below hB.out).cells hn
        have HC := Lib.hid (cmpN_any (d.getD hi noP) n wr)
        obtain ⟨r, hr⟩ : ∃ r, cmpN (d.getD hi noP) n = r := ⟨_, rfl⟩
        have HR := Lib.hid hr
        rw [hr] at HC
        clear hr
        generalize d.getD hi noP = x at x0 x1 x2 x3 HC
        simp only [pairV] at HC
        by_cases hyx : r = 0
        · subst hyx
          go_wp2_with (go_at_call 79; refine HC.out.mono ?_; rintro e w2 ⟨rfl, hb2⟩; have HB2 := Lib.hid (hB.out.trans (hb2.mono hB.out.size)); clear hb2)
          go_wp2
          go_ret2
          exact ⟨⟨hi, true, rfl, found_yes HS.out hn HR.out⟩, HB2.out⟩
        · have hrz : (r == 0) = false := by simpa using hyx
          have HQ := Lib.hid hyx
          clear hyx
          go_wp2_with (go_at_call 79; refine HC.out.mono ?_; rintro e w2 ⟨rfl, hb2⟩; have HB2 := Lib.hid (hB.out.trans (hb2.mono hB.out.size)); clear hb2)
          go_wp2
          go_ret2
          exact ⟨⟨hi, false, rfl, found_no hI.out.1 hI.out.2 (fun _ => by rw [HR.out]; exact HQ.out) HS.out⟩, HB2.out⟩
      · obtain rfl : hi = d.length := by omega
        go_wp2
        go_ret2
        exact ⟨⟨d.length, false, rfl, found_no hI.out.1 hI.out.2 (fun h => absurd h (Nat.lt_irrefl _)) HS.out⟩, hB.out⟩

theorem search_none (a : Option Addr) (c : Nat) (n : ByteArray) (w : World) :
    Calls Tryz.prog 78 #[.slice a 0 c, .string n, .func (.func 79) #[] #[]] w fun e w' =>
      e = .returned (.tuple #[.int .i64 0, .bool false]) ∧ w = w' := by
  go_enter Tryz.func78, Tryz.ntmps78
  go_wp2
  refine wp_loop_rounds 1 ?_
  rw [rounds_succ]
  go_wp2
  go_ret2
  exact ⟨rfl, rfl⟩
end Go.Proofs.YtdidgddcgjpokaaGreatDoor
/- (Subst).find, own, (Subst).Apply: types in variables' places. -/
namespace Go.Proofs.YtdidgddcgjpokaaGreatDoor
open Go.RowKit Go.Sort Go.Lib
attribute [local go_sem] Oper.semAt_some

theorem Tryz.infoTy : (Tryz.prog.info? 31).map (fun i => (i.zero, i.size, i.bytes)) = some (some (.agg #[.int .i64 0, .string ⟨#[]⟩, .slice none 0 0]), 3, 48) := by kernel_rfl
def zeros (n : Nat) : Array Value := madeCells #[.int .i64 0, .string ⟨#[]⟩, .slice none 0 0] (n * 3)
theorem make_row3 (n : Nat) (hn : n ≤ 1000000000) (w : World) :
    (Instr.makeSlice 29 (.int .i64 (n : Int)) (.int .i64 (n : Int))).run Tryz.prog w = .ok (.slice (some ⟨w.heap.size, 0, none⟩) n n) (w.alloc (.cells (zeros n) 31)) := by
  obtain ⟨i, hi, hzz⟩ := Option.map_eq_some_iff.1 Tryz.infoTy
  simp only [Prod.mk.injEq] at hzz
  obtain ⟨hz, hs, hb⟩ := hzz
  have hr := run_make (P := Tryz.prog) w 29 31 i _ Tryz.underlying29 hi hz .i64 .i64 n n (by omega) (Int.le_refl _) (by rw [hb]; omega) (by omega)
  simp only [Int.toNat_natCast, hs] at hr
  exact hr

/-- The row of the copies, the first i of them made. -/
def RowTo (N G : Nat) (l : List T) (i : Nat) (w : World) : Prop :=
  ∃ cs, ∃ z : Nat → Value, w.heap[G]? = some (.cells cs 31 (0, 0)) ∧ cs.size = l.length * 3 ∧
    ∀ j (h : j < l.length), j < i → (cs[j * 3]? = some (.int .i64 l[j].kind) ∧ cs[j * 3 + 1]? = some (.string l[j].name) ∧ cs[j * 3 + 2]? = some (z j)) ∧ TyIn (fun k => (N ≤ k ∧ k ≠ G) ∧ k < w.heap.size) w l[j] (z j)
theorem RowTo.below {N G : Nat} {l : List T} {i : Nat} {w w' : World} (h : RowTo N G l i w) (hb : Below w.heap.size w w') : RowTo N G l i w' := by
  obtain ⟨cs, z, h1, h2, h3⟩ := h
  refine ⟨cs, z, (hb.block G (Array.getElem?_eq_some_iff.1 h1).1).trans h1, h2, fun j hj hi => ⟨(h3 j hj hi).1, ?_⟩⟩
  exact ((h3 j hj hi).2.keep (fun k _ _ hk hh => (hb.block k hk.2).trans hh)).mono (fun k hk => ⟨hk.1, Nat.lt_of_lt_of_le hk.2 hb.size⟩)
/-- Three stores: the next copy is laid into the row. -/
theorem RowTo.next {N G : Nat} {l : List T} {i : Nat} {w : World} (h : RowTo N G l i w) (hi : i < l.length) {v : Value} (hv : TyIn (fun k => (N ≤ k ∧ k ≠ G) ∧ k < w.heap.size) w l[i] v) :
    RowTo N G l (i + 1) (((w.setCell ⟨G, i * 3, none⟩ (.int .i64 l[i].kind)).setCell ⟨G, i * 3 + 1, none⟩ (.string l[i].name)).setCell ⟨G, i * 3 + 2, none⟩ v) := by
  obtain ⟨cs, z, h1, h2, h3⟩ := h
  have hsz : ∀ (W : World) (a : Addr) (x : Value), (W.setCell a x).heap.size = W.heap.size := fun W a x => by simp [World.setCell]
  have hset : ∀ {W : World} {o : Nat} {cs : Array Value} (v : Value), W.heap[G]? = some (.cells cs 31 (0, 0)) → (W.setCell ⟨G, o, none⟩ v).heap[G]? = some (.cells (cs.setIfInBounds o v) 31 (0, 0)) := fun {W o cs} v h => by
    obtain ⟨hlt, hk⟩ := Array.getElem?_eq_some_iff.1 h
    show (W.heap.modify G _)[G]? = _
    rw [Array.getElem?_eq_getElem (by rw [Array.size_modify]; exact hlt), Array.getElem_modify_self, hk]
    rfl
  have hoth : ∀ k, k ≠ G → (((w.setCell ⟨G, i * 3, none⟩ (.int .i64 l[i].kind)).setCell ⟨G, i * 3 + 1, none⟩ (.string l[i].name)).setCell ⟨G, i * 3 + 2, none⟩ v).heap[k]? = w.heap[k]? := fun k hk =>
    (Below.heap_setCell _ ⟨G, i * 3 + 2, none⟩ _ k hk).trans ((Below.heap_setCell _ ⟨G, i * 3 + 1, none⟩ _ k hk).trans (Below.heap_setCell _ ⟨G, i * 3, none⟩ _ k hk))
  refine ⟨((cs.setIfInBounds (i * 3) (.int .i64 l[i].kind)).setIfInBounds (i * 3 + 1) (.string l[i].name)).setIfInBounds (i * 3 + 2) v, fun j => if j = i then v else z j, hset _ (hset _ (hset _ h1)), by simpa using h2, fun j hj hji => ?_⟩
  by_cases e : j = i
  · subst e
    refine ⟨⟨?_, ?_, ?_⟩, ?_⟩
    · simp [Array.getElem?_setIfInBounds, h2]; omega
    · simp [Array.getElem?_setIfInBounds, h2]; omega
    · simp [Array.getElem?_setIfInBounds, h2]; omega
    · simp only [if_true, hsz]
      exact hv.keep (fun k _ _ hk hh => (hoth k hk.1.2).trans hh)
  · obtain ⟨⟨a1, a2, a3⟩, a4⟩ := h3 j hj (by omega)
    refine ⟨⟨?_, ?_, ?_⟩, ?_⟩
    · rw [Array.getElem?_setIfInBounds_ne (by omega), Array.getElem?_setIfInBounds_ne (by omega), Array.getElem?_setIfInBounds_ne (by omega)]; exact a1
    · rw [Array.getElem?_setIfInBounds_ne (by omega), Array.getElem?_setIfInBounds_ne (by omega), Array.getElem?_setIfInBounds_ne (by omega)]; exact a2
    · rw [Array.getElem?_setIfInBounds_ne (by omega), Array.getElem?_setIfInBounds_ne (by omega), Array.getElem?_setIfInBounds_ne (by omega)]; simp only [if_neg e]; exact a3
    · simp only [if_neg e, hsz]
      exact a4.keep (fun k _ _ hk hh => (hoth k hk.1.2).trans hh)
theorem RowTo.start (N : Nat) (l : List T) (w' : World) (G : Nat) (h : w'.heap[G]? = some (.cells (zeros l.length) 31 (0, 0))) : RowTo N G l 0 w' :=
  ⟨_, fun _ => undef, h, by simp [zeros, size_madeCells], fun j _ h => absurd h (by omega)⟩
theorem RowTo.done {G : Nat} {l : List T} {w : World} (h : RowTo G G l l.length w) {t : T} (ht : t.kids = l) (N : Nat) (W : World) (hN : N ≤ G) (hk : ∀ k, G ≤ k → W.heap[k]? = w.heap[k]?) : TyIn (fun k => N ≤ k) W t (.slice (some ⟨G, 0, none⟩) l.length l.length) := by
  subst ht
  obtain ⟨cs, z, h1, h2, h3⟩ := h
  refine .row t G t.kids.length cs (0, 0) z hN ((hk G (Nat.le_refl _)).trans h1) (Nat.le_refl _) (fun i hi => (h3 i hi hi).1) (fun i hi => ?_)
  exact ((h3 i hi hi).2.keep (fun k _ _ ho hh => (hk k ho.1.1).trans hh)).mono (fun k hk => Nat.le_trans hN hk.1.1)
theorem RowTo.cells {N G : Nat} {l : List T} {i : Nat} {w : World} (h : RowTo N G l i w) (hi : i < l.length) : ∃ x y z, w.cell? ⟨G, i * 3, none⟩ = some x ∧ w.cell? ⟨G, i * 3 + 1, none⟩ = some y ∧ w.cell? ⟨G, i * 3 + 2, none⟩ = some z ∧ w.frozen? ⟨G, i * 3, none⟩ = false ∧ w.frozen? ⟨G, i * 3 + 1, none⟩ = false ∧ w.frozen? ⟨G, i * 3 + 2, none⟩ = false := by
  obtain ⟨cs, z, h1, h2, _⟩ := h
  refine ⟨cs[i * 3]'(by omega), cs[i * 3 + 1]'(by omega), cs[i * 3 + 2]'(by omega), ?_, ?_, ?_, Lib.frozen_of_heap h1 _, Lib.frozen_of_heap h1 _, Lib.frozen_of_heap h1 _⟩ <;> (rw [Lib.cell_of_heap h1]; simp; try omega)

theorem set3_block {W : World} {r : Nat} {x0 y0 z0 : Value} {T : TypeId} (h : W.heap[r]? = some (.cells #[x0, y0, z0] T (0, 0))) (x y z : Value) :
    (((W.setCell ⟨r, 0, none⟩ x).setCell ⟨r, 1, none⟩ y).setCell ⟨r, 2, none⟩ z).heap[r]? = some (.cells #[x, y, z] T (0, 0)) := blk_set (blk_set (blk_set h x) y) z
/-- No part of a small type is wider than the type. -/
theorem len_sizes : ∀ l : List T, l.length ≤ tsizes l
  | [] => Nat.le_refl _
  | a :: l => by have := len_sizes l; have := tsize_eq a; simp [tsizes]; omega
theorem size_mem {k : T} : ∀ {l : List T}, k ∈ l → tsize k ≤ tsizes l
  | a :: l, h => by
    rw [tsizes]
    rcases List.mem_cons.1 h with rfl | h
    · omega
    · have := size_mem h; omega
theorem kids_small {t : T} {n : Nat} (h : tsize t ≤ n) : t.kids.length ≤ n ∧ ∀ k ∈ t.kids, tsize k ≤ n := by
  have e := tsize_eq t
  exact ⟨by have := len_sizes t.kids; omega, fun k hk => by have := size_mem hk; omega⟩

mutual
/-- Types in variables' places. -/
noncomputable def app (d : List PR) : T → T
  | .var n => ty n d
  | .con n l => .con n (apps d l)
  | .fn a b => .fn (app d a) (app d b)
  | .all n a => .all n (app d a)
noncomputable def apps (d : List PR) : List T → List T
  | [] => []
  | a :: l => app d a :: apps d l
end
theorem apps_map (d : List PR) : ∀ l, apps d l = l.map (app d)
  | [] => rfl
  | a :: l => by rw [apps, apps_map d l]; rfl
theorem app_parts (d : List PR) (t : T) (h : ∀ n, t ≠ .var n) : (app d t).kind = t.kind ∧ (app d t).name = t.name ∧ (app d t).kids = t.kids.map (app d) := by
  cases t with
  | var n => exact absurd rfl (h n)
  | con n l => rw [app, apps_map]; exact ⟨rfl, rfl, rfl⟩
  | fn a b => rw [app]; exact ⟨rfl, rfl, rfl⟩
  | all n a => rw [app]; exact ⟨rfl, rfl, rfl⟩
mutual
theorem app_nil : ∀ t, app [] t = t
  | .var n => rfl
  | .con n l => by rw [app, apps_nil l]
  | .fn a b => by rw [app, app_nil a, app_nil b]
  | .all n a => by rw [app, app_nil a]
theorem apps_nil : ∀ l, apps [] l = l
  | [] => rfl
  | a :: l => by rw [apps, app_nil a, apps_nil l]
end

def fv' : Option PR → Value
  | none => .agg #[.int .i64 0, .string ⟨#[]⟩, .slice none 0 0]
  | some x => .agg #[.int .i64 x.t.kind, .string x.t.name, .slice x.a x.t.kids.length x.c]

set_option maxRecDepth 100000 in
set_option maxHeartbeats 2000000 in
theorem find_any (v : Value) (d : List PR) (n : ByteArray) (w : World) (h : SubAt v d w) (hl : d.length < 1152921504606846976) :
    Calls Tryz.prog 65 #[.agg #[v], .string n] w fun e w' => e = .returned (.tuple #[fv' (lk n d), .bool (lk n d).isSome]) ∧ Below w.heap.size w w' := by
  obtain ⟨⟨h1, h2⟩, h3⟩ := h
  have hb2 : ∀ o1 o2 : Obj, Below w.heap.size w ((w.alloc o1).alloc o2) := fun o1 o2 => ((Below.refl _ w).alloc (Nat.le_refl _) _).alloc (by simp) _
  have HB2 := Lib.hid hb2
  clear hb2
  rcases h1 with ⟨rfl, a, c, rfl, _⟩ | ⟨g, cap, rfl, hc, hr⟩
  · have e1 : lk n [] = none := rfl
    rw [e1]
    go_enter Tryz.func65, Tryz.ntmps65
    go_wp2_with (go_at_call 78; refine (search_none _ _ _ _).mono ?_; rintro e w2 ⟨rfl, rfl⟩)
    refine bodyPost_ret (v := .tuple #[.agg #[.int .i64 0, .string ⟨#[]⟩, .slice none 0 0], .bool false]) (by simp [results, Tryz.results65, go_sem]) rfl ⟨rfl, HB2.out _ _⟩
  · have HS := Lib.hid (fun o1 o2 => search_some g cap d n ((w.alloc o1).alloc o2) (hr.below (HB2.out o1 o2)) h2.1 hl)
    have HR := Lib.hid hr
    have hg := hr.lt
    clear h2 h3 hr
    obtain ⟨res, hres⟩ : ∃ r, lk n d = r := ⟨_, rfl⟩
    have HRes := Lib.hid hres
    rw [hres]
    clear hres
    go_enter Tryz.func65, Tryz.ntmps65
    go_wp2_with fail
    have hz : ∀ o1 : Obj, ((w.alloc o1).alloc (.cells #[.int .i64 0, .string ⟨#[]⟩, .slice none 0 0] 31)).heap[w.heap.size + 1]? = some (.cells #[.int .i64 0, .string ⟨#[]⟩, .slice none 0 0] 31 (0, 0)) := fun o1 => by
      have := alloc_new (w.alloc o1) (.cells #[.int .i64 0, .string ⟨#[]⟩, .slice none 0 0] 31)
      simpa using this
    have hy : ∀ o2 : Obj, ((w.alloc (.cells #[.slice (some ⟨g, 0, none⟩) d.length cap] 73)).alloc o2).heap[w.heap.size]? = some (.cells #[.slice (some ⟨g, 0, none⟩) d.length cap] 73 (0, 0)) := fun o2 => by
      rw [Below.heap_alloc _ _ _ (by simp)]; exact alloc_new w _
    have HZ := Lib.hid hz; have HY := Lib.hid hy
    clear hz hy
    go_wp2_with (go_at_call 78; refine (HS.out _ _).mono ?_)
    rintro e w2 ⟨⟨i, b, rfl, hfd⟩, hb2⟩
    have hz2 := (hb2.block (w.heap.size + 1) (by simp)).trans (HZ.out _)
    have hy2 := (hb2.block w.heap.size (by simp; omega)).trans (HY.out _)
    obtain ⟨z0, z1, z2⟩ := three_cells hz2
    have u0 := Lib.frozen_of_heap hz2 0
    have u1 := Lib.frozen_of_heap hz2 1
    have u2 := Lib.frozen_of_heap hz2 2
    have y0 : w2.cell? ⟨w.heap.size, 0, none⟩ = some (.slice (some ⟨g, 0, none⟩) d.length cap) := by rw [Lib.cell_of_heap hy2]; rfl
    have HZ2 := Lib.hid hz2
    have HB3 := Lib.hid ((HB2.out _ _).trans (hb2.mono (by simp; omega)))
    clear hb2 hz2 hy2 HZ HY HS
    rcases hfd with ⟨rfl, hi, hk⟩ | ⟨rfl, hk⟩
    · have hres : res = some (d.getD i noP) := by rw [← HRes.out]; exact hk
      subst hres
      obtain ⟨x0, x1, x2, x3⟩ := (HR.out.below HB3.out).cells hi
      clear HRes hk HR
      obtain ⟨x, hx⟩ : ∃ x, d.getD i noP = x := ⟨_, rfl⟩
      have HX := Lib.hid hx
      rw [hx] at x0 x1 x2 x3
      clear hx
      have hiz : (i : Int) < (d.length : Int) := by omega
      go_wp2
      have hs := set3_block HZ2.out (.int .i64 x.t.kind) (.string x.t.name) (.slice x.a x.t.kids.length x.c)
      have hc := three_cells hs
      refine bodyPost_ret (v := .tuple #[.agg #[.int .i64 x.t.kind, .string x.t.name, .slice x.a x.t.kids.length x.c], .bool true]) (by simp [results, Tryz.results65, go_sem, hc.1, hc.2.1, hc.2.2]) rfl ⟨by rw [HX.out]; rfl, ?_⟩
      exact ((HB3.out.setCell (p := ⟨w.heap.size + 1, 0, none⟩) (Nat.le_succ _) _).setCell (p := ⟨w.heap.size + 1, 1, none⟩) (Nat.le_succ _) _).setCell (p := ⟨w.heap.size + 1, 2, none⟩) (Nat.le_succ _) _
    · have hres : res = none := by rw [← HRes.out]; exact hk
      subst hres
      clear HRes hk HR
      go_wp2
      have hs := set3_block HZ2.out (.int .i64 0) (.string ⟨#[]⟩) (.slice none 0 0)
      have hc := three_cells hs
      refine bodyPost_ret (v := .tuple #[.agg #[.int .i64 0, .string ⟨#[]⟩, .slice none 0 0], .bool false]) (by simp [results, Tryz.results65, go_sem, hc.1, hc.2.1, hc.2.2]) rfl ⟨rfl, ?_⟩
      exact ((HB3.out.setCell (p := ⟨w.heap.size + 1, 0, none⟩) (Nat.le_succ _) _).setCell (p := ⟨w.heap.size + 1, 1, none⟩) (Nat.le_succ _) _).setCell (p := ⟨w.heap.size + 1, 2, none⟩) (Nat.le_succ _) _
end Go.Proofs.YtdidgddcgjpokaaGreatDoor
