/- Types as plain data: their order, how many parts, the parts, the free variables. -/
import Derived.Test.YteoelcefjjmjiaaTyPlain
namespace Go.Proofs.Yteoelcefjjmjiaa

namespace T
def kind : T → Int
  | var _ => 1
  | con _ _ => 2
  | fn _ _ => 3
  | all _ _ => 4
def name : T → ByteArray
  | var n => n
  | con n _ => n
  | fn _ _ => ⟨#[]⟩
  | all n _ => n
def kids : T → List T
  | var _ => []
  | con _ l => l
  | fn a b => [a, b]
  | all _ a => [a]
theorem kid_size {t k : T} (h : k ∈ t.kids) : SizeOf.sizeOf k < SizeOf.sizeOf t := by
  cases t with
  | var n => cases h
  | con n l => have := List.sizeOf_lt_of_mem h; simp [kids] at this ⊢; omega
  | fn a b =>
    simp [kids] at h
    rcases h with rfl | rfl <;> simp <;> omega
  | all n a =>
    simp [kids] at h
    subst h; simp; omega
theorem kind_pos (t : T) : 1 ≤ t.kind ∧ t.kind ≤ 4 := by cases t <;> simp [kind]
theorem ext3 {t u : T} (h1 : t.kind = u.kind) (h2 : t.name = u.name) (h3 : t.kids = u.kids) : t = u := by
  cases t <;> cases u <;> simp_all [kind, name, kids]
end T

/-- -1, 0, 1. -/
def sgn (a b : Int) : Int := if a < b then -1 else if b < a then 1 else 0
/-- The first that is not 0. -/
def orI (a b : Int) : Int := if a = 0 then b else a
def Tri (p q r : Int) : Prop :=
  (p ≤ 0 → q ≤ 0 → r ≤ 0) ∧ (0 ≤ p → 0 ≤ q → 0 ≤ r) ∧ (p ≤ 0 → q ≤ 0 → r = 0 → p = 0 ∧ q = 0) ∧ (0 ≤ p → 0 ≤ q → r = 0 → p = 0 ∧ q = 0)
theorem sgn_neg (a b : Int) : sgn b a = - sgn a b := by unfold sgn; (repeat' split) <;> omega
theorem sgn_zero {a b : Int} : sgn a b = 0 ↔ a = b := by unfold sgn; (repeat' split) <;> omega
theorem sgn_tri (a b c : Int) : Tri (sgn a b) (sgn b c) (sgn a c) := by
  unfold Tri sgn
  (repeat' split) <;> omega
theorem orI_neg (p q : Int) : orI (-p) (-q) = - orI p q := by unfold orI; (repeat' split) <;> omega
theorem orI_zero {p q : Int} : orI p q = 0 ↔ p = 0 ∧ q = 0 := by unfold orI; split <;> omega
theorem orI_tri {p q r p' q' r' : Int} (h : Tri p q r) (h' : Tri p' q' r') : Tri (orI p p') (orI q q') (orI r r') := by
  obtain ⟨a1, a2, a3, a4⟩ := h
  obtain ⟨b1, b2, b3, b4⟩ := h'
  unfold Tri
  by_cases hp : p = 0 <;> by_cases hq : q = 0 <;> by_cases hr : r = 0
  · rw [orI, if_pos hp, orI, if_pos hq, orI, if_pos hr]; exact ⟨b1, b2, b3, b4⟩
  · exact absurd (show r = 0 by have := a1 (by omega) (by omega); have := a2 (by omega) (by omega); omega) hr
  · rw [orI, if_pos hp, orI, if_neg hq, orI, if_pos hr]
    exact ⟨fun _ _ => absurd (a3 (by omega) (by omega) hr).2 hq, fun _ _ => absurd (a4 (by omega) (by omega) hr).2 hq, fun _ _ => absurd (a3 (by omega) (by omega) hr).2 hq, fun _ _ => absurd (a4 (by omega) (by omega) hr).2 hq⟩
  · rw [orI, if_pos hp, orI, if_neg hq, orI, if_neg hr]
    exact ⟨fun _ _ => a1 (by omega) (by omega), fun _ _ => a2 (by omega) (by omega), fun _ _ h => absurd h hr, fun _ _ h => absurd h hr⟩
  · rw [orI, if_neg hp, orI, if_pos hq, orI, if_pos hr]
    exact ⟨fun _ _ => absurd (a3 (by omega) (by omega) hr).1 hp, fun _ _ => absurd (a4 (by omega) (by omega) hr).1 hp, fun _ _ => absurd (a3 (by omega) (by omega) hr).1 hp, fun _ _ => absurd (a4 (by omega) (by omega) hr).1 hp⟩
  · rw [orI, if_neg hp, orI, if_pos hq, orI, if_neg hr]
    exact ⟨fun _ _ => a1 (by omega) (by omega), fun _ _ => a2 (by omega) (by omega), fun _ _ h => absurd h hr, fun _ _ h => absurd h hr⟩
  · rw [orI, if_neg hp, orI, if_neg hq, orI, if_pos hr]
    exact ⟨fun h k => absurd (a3 h k hr).1 hp, fun h k => absurd (a4 h k hr).1 hp, fun h k _ => absurd (a3 h k hr).1 hp, fun h k _ => absurd (a4 h k hr).1 hp⟩
  · rw [orI, if_neg hp, orI, if_neg hq, orI, if_neg hr]
    exact ⟨a1, a2, a3, a4⟩
def Unit1 (p : Int) : Prop := p = -1 ∨ p = 0 ∨ p = 1
theorem sgn_unit (a b : Int) : Unit1 (sgn a b) := by unfold sgn Unit1; (repeat' split) <;> omega
theorem orI_unit {p q : Int} (h : Unit1 p) (k : Unit1 q) : Unit1 (orI p q) := by unfold orI; split <;> assumption

def cmpL : List UInt8 → List UInt8 → Int
  | [], [] => 0
  | [], _ :: _ => -1
  | _ :: _, [] => 1
  | a :: x, b :: y => orI (sgn a.toNat b.toNat) (cmpL x y)
theorem cmpL_neg : ∀ x y, cmpL y x = - cmpL x y
  | [], [] => rfl
  | [], _ :: _ => rfl
  | _ :: _, [] => rfl
  | a :: x, b :: y => by rw [cmpL, cmpL, sgn_neg, cmpL_neg x y, orI_neg]
theorem u8_eq {a b : UInt8} : (a.toNat : Int) = b.toNat ↔ a = b := by
  constructor
  · intro h
    exact UInt8.toNat_inj.1 (by omega)
  · rintro rfl; rfl
theorem cmpL_zero : ∀ {x y}, cmpL x y = 0 ↔ x = y
  | [], [] => by simp [cmpL]
  | [], _ :: _ => by simp [cmpL]
  | _ :: _, [] => by simp [cmpL]
  | a :: x, b :: y => by rw [cmpL, orI_zero, sgn_zero, cmpL_zero, u8_eq]; simp
theorem cmpL_unit : ∀ x y, Unit1 (cmpL x y)
  | [], [] => by simp [cmpL, Unit1]
  | [], _ :: _ => by simp [cmpL, Unit1]
  | _ :: _, [] => by simp [cmpL, Unit1]
  | a :: x, b :: y => by rw [cmpL]; exact orI_unit (sgn_unit _ _) (cmpL_unit x y)
theorem cmpL_tri : ∀ x y z, Tri (cmpL x y) (cmpL y z) (cmpL x z)
  | [], [], [] => by simp [cmpL, Tri]
  | [], [], _ :: _ => by simp [cmpL, Tri]
  | [], _ :: _, [] => by simp [cmpL, Tri]
  | _ :: _, [], [] => by simp [cmpL, Tri]
  | [], b :: y, c :: z => by
    have := cmpL_unit (b :: y) (c :: z)
    generalize cmpL (b :: y) (c :: z) = q at this ⊢
    unfold Unit1 at this
    unfold Tri
    simp only [cmpL]
    omega
  | a :: x, [], c :: z => by
    have := cmpL_unit (a :: x) (c :: z)
    generalize cmpL (a :: x) (c :: z) = q at this ⊢
    unfold Unit1 at this
    unfold Tri
    simp only [cmpL]
    omega
  | a :: x, b :: y, [] => by
    have := cmpL_unit (a :: x) (b :: y)
    generalize cmpL (a :: x) (b :: y) = q at this ⊢
    unfold Unit1 at this
    unfold Tri
    simp only [cmpL]
    omega
  | a :: x, b :: y, c :: z => by
    rw [cmpL, cmpL, cmpL]
    exact orI_tri (sgn_tri _ _ _) (cmpL_tri x y z)
theorem less_cmpL : ∀ x y, Op.bytesLess x y = decide (cmpL x y < 0)
  | [], [] => by simp [cmpL, Op.bytesLess]
  | [], _ :: _ => by simp [cmpL, Op.bytesLess]
  | _ :: _, [] => by simp [cmpL, Op.bytesLess]
  | a :: x, b :: y => by
    rw [cmpL, Op.bytesLess, less_cmpL x y]
    by_cases h : a = b
    · subst h
      have : sgn (a.toNat : Int) a.toNat = 0 := sgn_zero.2 rfl
      simp [this, orI]
    · have hn : ¬ sgn (a.toNat : Int) b.toNat = 0 := fun e => h (u8_eq.1 (sgn_zero.1 e))
      have e1 : (a == b) = false := by simpa using h
      rw [e1, orI, if_neg hn]
      by_cases hlt : a < b
      · have : a.toNat < b.toNat := hlt
        simp [hlt, sgn, this]
      · have : ¬ a.toNat < b.toNat := hlt
        simp only [hlt, decide_false, Bool.false_and, Bool.or_false]
        unfold sgn
        rw [if_neg (by omega)]
        split <;> simp
theorem beq_cmpL (x y : List UInt8) : (x == y) = decide (cmpL x y = 0) := by
  by_cases h : x = y
  · subst h; simp [cmpL_zero.2 rfl]
  · have : ¬ cmpL x y = 0 := fun e => h (cmpL_zero.1 e)
    simp [this, h]

mutual
def cmpT : T → T → Int
  | .var n, u => orI (sgn 1 u.kind) (orI (cmpL n.data.toList u.name.data.toList) (orI (sgn 0 u.kids.length) (match u.kids with | [] => 0 | _ :: _ => -1)))
  | .con n l, u => orI (sgn 2 u.kind) (orI (cmpL n.data.toList u.name.data.toList) (orI (sgn l.length u.kids.length) (cmpTs l u.kids)))
  | .fn a b, u => orI (sgn 3 u.kind) (orI (cmpL [] u.name.data.toList) (orI (sgn 2 u.kids.length) (match u.kids with
    | [] => 1
    | c :: r => orI (cmpT a c) (match r with
      | [] => 1
      | d :: r' => orI (cmpT b d) (match r' with | [] => 0 | _ :: _ => -1)))))
  | .all n a, u => orI (sgn 4 u.kind) (orI (cmpL n.data.toList u.name.data.toList) (orI (sgn 1 u.kids.length) (match u.kids with
    | [] => 1
    | c :: r => orI (cmpT a c) (match r with | [] => 0 | _ :: _ => -1))))
def cmpTs : List T → List T → Int
  | [], [] => 0
  | [], _ :: _ => -1
  | _ :: _, [] => 1
  | a :: l, b :: m => orI (cmpT a b) (cmpTs l m)
end
theorem cmpTs_nil (m : List T) : cmpTs [] m = (match m with | [] => 0 | _ :: _ => -1) := by cases m <;> rw [cmpTs]
theorem cmpT_eq (t u : T) : cmpT t u = orI (sgn t.kind u.kind) (orI (cmpL t.name.data.toList u.name.data.toList) (orI (sgn t.kids.length u.kids.length) (cmpTs t.kids u.kids))) := by
  cases t with
  | var n => rw [cmpT]; simp only [T.kind, T.name, T.kids, cmpTs_nil]; rfl
  | con n l => rw [cmpT]; simp only [T.kind, T.name, T.kids]
  | fn a b =>
    rw [cmpT]
    show _ = orI (sgn 3 u.kind) (orI (cmpL [] u.name.data.toList) (orI (sgn 2 u.kids.length) (cmpTs [a, b] u.kids)))
    generalize u.kids = m
    match m with
    | [] => rw [cmpTs]
    | [c] => rw [cmpTs, cmpTs]
    | c :: d :: r => rw [cmpTs, cmpTs, cmpTs_nil]
  | all n a =>
    rw [cmpT]
    show _ = orI (sgn 4 u.kind) (orI (cmpL n.data.toList u.name.data.toList) (orI (sgn 1 u.kids.length) (cmpTs [a] u.kids)))
    generalize u.kids = m
    match m with
    | [] => rw [cmpTs]
    | c :: r => rw [cmpTs, cmpTs_nil]

theorem cmpTs_neg : ∀ l m : List T, (∀ k ∈ l, ∀ u, cmpT u k = - cmpT k u) → cmpTs m l = - cmpTs l m
  | [], [], _ => by rw [cmpTs]; rfl
  | [], _ :: _, _ => by rw [cmpTs, cmpTs]; rfl
  | _ :: _, [], _ => by rw [cmpTs, cmpTs]
  | a :: l, b :: m, H => by
    rw [cmpTs, cmpTs, H a (List.mem_cons_self ..), cmpTs_neg l m (fun k hk => H k (List.mem_cons_of_mem _ hk)), orI_neg]
theorem cmp_neg (t u : T) : cmpT u t = - cmpT t u := by
  rw [cmpT_eq, cmpT_eq t u, sgn_neg t.kind, cmpL_neg t.name.data.toList, sgn_neg t.kids.length, cmpTs_neg t.kids u.kids (fun k hk v => cmp_neg k v), orI_neg, orI_neg, orI_neg]
termination_by SizeOf.sizeOf t
decreasing_by exact T.kid_size hk
theorem cmpTs_zero : ∀ l m : List T, (∀ k ∈ l, ∀ u, cmpT k u = 0 ↔ k = u) → (cmpTs l m = 0 ↔ l = m)
  | [], [], _ => by simp [cmpTs]
  | [], _ :: _, _ => by simp [cmpTs]
  | _ :: _, [], _ => by simp [cmpTs]
  | a :: l, b :: m, H => by
    rw [cmpTs, orI_zero, H a (List.mem_cons_self ..), cmpTs_zero l m (fun k hk => H k (List.mem_cons_of_mem _ hk))]
    simp
theorem cmp_zero (t u : T) : cmpT t u = 0 ↔ t = u := by
  rw [cmpT_eq, orI_zero, orI_zero, orI_zero, sgn_zero, cmpL_zero, cmpTs_zero t.kids u.kids (fun k hk v => cmp_zero k v)]
  constructor
  · rintro ⟨h1, h2, _, h3⟩
    exact T.ext3 h1 (by cases h : t.name; cases h' : u.name; rw [h, h'] at h2; simp_all) h3
  · rintro rfl
    exact ⟨rfl, rfl, sgn_zero.2 rfl, rfl⟩
termination_by SizeOf.sizeOf t
decreasing_by exact T.kid_size hk
theorem cmpTs_unit : ∀ l m : List T, (∀ k ∈ l, ∀ u, Unit1 (cmpT k u)) → Unit1 (cmpTs l m)
  | [], [], _ => by simp [cmpTs, Unit1]
  | [], _ :: _, _ => by simp [cmpTs, Unit1]
  | _ :: _, [], _ => by simp [cmpTs, Unit1]
  | a :: l, b :: m, H => by
    rw [cmpTs]
    exact orI_unit (H a (List.mem_cons_self ..) b) (cmpTs_unit l m (fun k hk => H k (List.mem_cons_of_mem _ hk)))
theorem cmp_unit (t u : T) : Unit1 (cmpT t u) := by
  rw [cmpT_eq]
  exact orI_unit (sgn_unit _ _) (orI_unit (cmpL_unit _ _) (orI_unit (sgn_unit _ _) (cmpTs_unit t.kids u.kids (fun k hk v => cmp_unit k v))))
termination_by SizeOf.sizeOf t
decreasing_by exact T.kid_size hk
theorem cmpTs_tri : ∀ x y z : List T, (∀ k ∈ x, ∀ u v, Tri (cmpT k u) (cmpT u v) (cmpT k v)) → Tri (cmpTs x y) (cmpTs y z) (cmpTs x z)
  | [], [], [], _ => by simp [cmpTs, Tri]
  | [], [], _ :: _, _ => by simp [cmpTs, Tri]
  | [], _ :: _, [], _ => by simp [cmpTs, Tri]
  | _ :: _, [], [], _ => by simp [cmpTs, Tri]
  | [], b :: y, c :: z, _ => by
    have := cmpTs_unit (b :: y) (c :: z) (fun k _ u => cmp_unit k u)
    generalize cmpTs (b :: y) (c :: z) = q at this ⊢
    unfold Unit1 at this
    unfold Tri
    simp only [cmpTs]
    omega
  | a :: x, [], c :: z, _ => by
    have := cmpTs_unit (a :: x) (c :: z) (fun k _ u => cmp_unit k u)
    generalize cmpTs (a :: x) (c :: z) = q at this ⊢
    unfold Unit1 at this
    unfold Tri
    simp only [cmpTs]
    omega
  | a :: x, b :: y, [], _ => by
    have := cmpTs_unit (a :: x) (b :: y) (fun k _ u => cmp_unit k u)
    generalize cmpTs (a :: x) (b :: y) = q at this ⊢
    unfold Unit1 at this
    unfold Tri
    simp only [cmpTs]
    omega
  | a :: x, b :: y, c :: z, H => by
    rw [cmpTs, cmpTs, cmpTs]
    exact orI_tri (H a (List.mem_cons_self ..) b c) (cmpTs_tri x y z (fun k hk => H k (List.mem_cons_of_mem _ hk)))
theorem cmp_tri (t u v : T) : Tri (cmpT t u) (cmpT u v) (cmpT t v) := by
  rw [cmpT_eq t u, cmpT_eq u v, cmpT_eq t v]
  exact orI_tri (sgn_tri _ _ _) (orI_tri (cmpL_tri _ _ _) (orI_tri (sgn_tri _ _ _) (cmpTs_tri t.kids u.kids v.kids (fun k hk u v => cmp_tri k u v))))
termination_by SizeOf.sizeOf t
decreasing_by exact T.kid_size hk

mutual
def tsize : T → Nat
  | .var _ => 1
  | .con _ l => 1 + tsizes l
  | .fn a b => 1 + (tsize a + tsize b)
  | .all _ a => 1 + tsize a
def tsizes : List T → Nat
  | [] => 0
  | a :: l => tsize a + tsizes l
end
theorem tsize_eq (t : T) : tsize t = 1 + tsizes t.kids := by
  cases t <;> simp [tsize, T.kids, tsizes]
mutual
def parts : T → List T
  | .var n => [.var n]
  | .con n l => .con n l :: partss l
  | .fn a b => .fn a b :: (parts a ++ parts b)
  | .all n a => .all n a :: parts a
def partss : List T → List T
  | [] => []
  | a :: l => parts a ++ partss l
end
theorem parts_eq (t : T) : parts t = t :: partss t.kids := by
  cases t <;> simp [parts, T.kids, partss]
mutual
theorem parts_len (t : T) : (parts t).length = tsize t := by
  cases t with
  | var n => simp [parts, tsize]
  | con n l => simp [parts, tsize, partss_len l]; omega
  | fn a b => simp [parts, tsize, parts_len a, parts_len b]; omega
  | all n a => simp [parts, tsize, parts_len a]; omega
theorem partss_len (l : List T) : (partss l).length = tsizes l := by
  cases l with
  | nil => simp [partss, tsizes]
  | cons a l => simp [partss, tsizes, parts_len a, partss_len l]
end
open Classical in
mutual
noncomputable def fv : List ByteArray → List ByteArray → T → List ByteArray
  | bd, out, .var n => if n ∈ bd ∨ n ∈ out then out else out ++ [n]
  | bd, out, .con _ l => fvs bd out l
  | bd, out, .fn a b => fv bd (fv bd out a) b
  | bd, out, .all n a => fv (n :: bd) out a
noncomputable def fvs : List ByteArray → List ByteArray → List T → List ByteArray
  | _, out, [] => out
  | bd, out, a :: l => fvs bd (fv bd out a) l
end
end Go.Proofs.Yteoelcefjjmjiaa
