/- Merged: TyPlain, TyPure, TyMem, TySame, TyFind, TyVars, TyTexts, SbPure, TyCmp, SbMem, MapV, ScSet, SbSort, SbClear. -/
import Derived.WalkKit
import Derived.Test.YtjnlchhikdfifaaGreatDoorRows
import Derived.Test.YtjnlchhikdfifaaGreatDoorChecked
import Derived.WalkSpells
import Derived.WalkLawsBesides
import Derived.Lib.Hide
import Derived.BigQuiet
import Derived.Maps.AppendAt
import Derived.OwnWalk
import Derived.Deep.RegionWith
import Derived.Lib.Strings
import Derived.Lib.Slices
import Derived.Maps.OwnOps
import Derived.Maps.Views
import Derived.Deep.AppendLies
import Derived.Deep.RegionLaw
import Derived.Deep.RegionHeld3
import Derived.Deep.DrawnRows
import Derived.BigRegion
import Derived.LoopN
import Derived.Carry
import Derived.Sort.LotA
import Derived.Lib.SlKept
import Derived.Deep.CutRange
import Derived.Shelf.SlSortCmp.InsertionK
import Derived.Maps.OwnSet
import Derived.Lib.SliceRun
/- Types as plain data, their texts, and that unlike types have unlike texts. -/
namespace Go.Proofs.YtjnlchhikdfifaaGreatDoor

inductive T where
  | var (n : ByteArray)
  | con (n : ByteArray) (l : List T)
  | fn (a b : T)
  | all (n : ByteArray) (a : T)

namespace T
def arrow : T → Bool
  | fn _ _ => true
  | all _ _ => true
  | _ => false
def wide : T → Bool
  | fn _ _ => true
  | all _ _ => true
  | con _ l => !l.isEmpty
  | var _ => false
def br (b : Bool) (s : List UInt8) : List UInt8 := if b then [40] ++ (s ++ [41]) else s
mutual
def text : T → List UInt8
  | var n => n.data.toList
  | con n l => n.data.toList ++ texts l
  | fn a b => br a.arrow (text a) ++ ([32, 45, 62, 32] ++ text b)
  | all n a => [102, 111, 114, 97, 108, 108, 32] ++ (n.data.toList ++ ([46, 32] ++ text a))
def texts : List T → List UInt8
  | [] => []
  | t :: r => ([32] ++ br t.wide (text t)) ++ texts r
end
def arg (t : T) : List UInt8 := br t.wide t.text
theorem texts_cons (t : T) (r : List T) : texts (t :: r) = ([32] ++ arg t) ++ texts r := by rw [texts]; rfl

/-- The names of types that the statement makes. -/
def vnames : List (List UInt8) := [[97], [98], [99]]
def cnames : List (List UInt8) := [[73, 110, 116], [66, 111, 111, 108], [76, 105, 115, 116], [80, 97, 105, 114]]
def classes : List (List UInt8) := [[69, 113], [79, 114, 100], [83, 104, 111, 119], [78, 117, 109]]
mutual
def Good : T → Prop
  | var n => n.data.toList ∈ vnames
  | con n l => n.data.toList ∈ cnames ∧ Goods l
  | fn a b => Good a ∧ Good b
  | all _ _ => False
def Goods : List T → Prop
  | [] => True
  | t :: r => Good t ∧ Goods r
end

def isL (c : UInt8) : Bool := (97 ≤ c && c ≤ 122) || (65 ≤ c && c ≤ 90)
def nam (s : List UInt8) : List UInt8 := s.takeWhile isL
def rst (s : List UInt8) : List UInt8 := s.dropWhile isL
def upper (s : List UInt8) : Bool := match s with
  | c :: _ => 65 ≤ c && c ≤ 90
  | [] => false

mutual
def pT : Nat → List UInt8 → Option (T × List UInt8)
  | 0, _ => none
  | f + 1, s => match pA f s with
    | some (a, 32 :: 45 :: 62 :: 32 :: r) => match pT f r with
      | some (b, r') => some (fn a b, r')
      | none => none
    | x => x
def pA : Nat → List UInt8 → Option (T × List UInt8)
  | 0, _ => none
  | f + 1, 40 :: r => match pT f r with
    | some (a, 41 :: r') => some (a, r')
    | _ => none
  | f + 1, s => if upper s then (match pArgs f (rst s) with
      | some (l, r) => some (con ⟨(nam s).toArray⟩ l, r)
      | none => none) else some (var ⟨(nam s).toArray⟩, rst s)
def pArgs : Nat → List UInt8 → Option (List T × List UInt8)
  | 0, _ => none
  | f + 1, 32 :: c :: r => if c == 45 then some ([], 32 :: c :: r) else match pArg f (c :: r) with
    | some (t, r1) => match pArgs f r1 with
      | some (l, r2) => some (t :: l, r2)
      | none => none
    | none => none
  | _ + 1, s => some ([], s)
def pArg : Nat → List UInt8 → Option (T × List UInt8)
  | 0, _ => none
  | f + 1, 40 :: r => match pT f r with
    | some (a, 41 :: r') => some (a, r')
    | _ => none
  | _ + 1, s => if upper s then some (con ⟨(nam s).toArray⟩ [], rst s) else some (var ⟨(nam s).toArray⟩, rst s)
end

/-- What stands behind a type's text: no letter, and no blank but that of an arrow. -/
def NL (x : List UInt8) : Prop := ∀ c r, x = c :: r → isL c = false
def Behind (x : List UInt8) : Prop := NL x ∧ ∀ c r, x = 32 :: c :: r → c = 45
def End (x : List UInt8) : Prop := x = [] ∨ ∃ r, x = 41 :: r ∨ x = 44 :: r
theorem End.nl {x : List UInt8} (h : End x) : NL x := by
  rcases h with rfl | ⟨r, rfl | rfl⟩
  · intro c r h; cases h
  · intro c r h; cases h; decide
  · intro c r h; cases h; decide
theorem End.behind {x : List UInt8} (h : End x) : Behind x := by
  refine ⟨h.nl, ?_⟩
  rcases h with rfl | ⟨r, rfl | rfl⟩
  · intro c r h; cases h
  · intro c r h; cases h
  · intro c r h; cases h
theorem nam_of {n x : List UInt8} (hn : n.all isL = true) (hx : NL x) : nam (n ++ x) = n ∧ rst (n ++ x) = x := by
  induction n with
  | nil =>
    cases x with
    | nil => exact ⟨rfl, rfl⟩
    | cons c r =>
      have := hx c r rfl
      simp [nam, rst, this]
  | cons c r ih =>
    simp at hn
    have := ih (by simpa using hn.2)
    simp [nam, rst, hn.1] at this ⊢
    exact this
theorem vname {n : List UInt8} (h : n ∈ vnames) : n.all isL = true ∧ (∀ x, upper (n ++ x) = false) ∧ (∀ x r, n ++ x ≠ 40 :: r) ∧ n ∉ classes := by
  simp [vnames] at h
  rcases h with rfl | rfl | rfl <;> exact ⟨by decide, fun x => rfl, fun x r h => (by cases h), by decide⟩
theorem cname {n : List UInt8} (h : n ∈ cnames) : n.all isL = true ∧ (∀ x, upper (n ++ x) = true) ∧ (∀ x r, n ++ x ≠ 40 :: r) ∧ n ∉ classes := by
  simp [cnames] at h
  rcases h with rfl | rfl | rfl | rfl <;> exact ⟨by decide, fun x => rfl, fun x r h => (by cases h), by decide⟩
theorem arr_list (n : ByteArray) : (⟨(n.data.toList).toArray⟩ : ByteArray) = n := by cases n; simp

theorem pA_name (f : Nat) (s : List UInt8) (h : ∀ r, s ≠ 40 :: r) : pA (f + 1) s = if upper s then (match pArgs f (rst s) with
      | some (l, r) => some (con ⟨(nam s).toArray⟩ l, r)
      | none => none) else some (var ⟨(nam s).toArray⟩, rst s) := by
  rw [pA]
  exact fun r e => h r e
theorem pArg_name (f : Nat) (s : List UInt8) (h : ∀ r, s ≠ 40 :: r) : pArg (f + 1) s = if upper s then some (con ⟨(nam s).toArray⟩ [], rst s) else some (var ⟨(nam s).toArray⟩, rst s) := by
  rw [pArg]
  exact fun r e => h r e
theorem pT_plain (f : Nat) (s x : List UInt8) (a : T) (h : pA f s = some (a, x)) (hx : ∀ r, x ≠ 32 :: 45 :: 62 :: 32 :: r) : pT (f + 1) s = some (a, x) := by
  rw [pT, h]
  split
  · rename_i h'; cases h'; exact absurd rfl (hx _)
  · rfl
theorem pArgs_end (f : Nat) (x : List UInt8) (h : Behind x) : pArgs (f + 1) x = some ([], x) := by
  cases x with
  | nil => rw [pArgs]; intro c r h; cases h
  | cons c r =>
    cases r with
    | nil => rw [pArgs]; intro c r h; cases h
    | cons d r =>
      by_cases hc : c = 32
      · subst hc
        have := h.2 d r rfl
        subst this
        rw [pArgs]; rfl
      · rw [pArgs]
        intro c' r' h'; cases h'; exact hc rfl

mutual
theorem text_read (t : T) (hg : Good t) (x : List UInt8) : (t.arrow = false → Behind x → ∃ n, ∀ f, n ≤ f → pA f (text t ++ x) = some (t, x)) ∧ (End x → ∃ n, ∀ f, n ≤ f → pT f (text t ++ x) = some (t, x)) := by
  have fin : (t.arrow = false → Behind x → ∃ n, ∀ f, n ≤ f → pA f (text t ++ x) = some (t, x)) → t.arrow = false → (End x → ∃ n, ∀ f, n ≤ f → pT f (text t ++ x) = some (t, x)) := by
    intro h ha he
    obtain ⟨n, hn⟩ := h ha he.behind
    refine ⟨n + 1, fun f hf => ?_⟩
    obtain ⟨g, rfl⟩ : ∃ g, f = g + 1 := ⟨f - 1, by omega⟩
    refine pT_plain g _ x t (hn g (by omega)) ?_
    rcases he with rfl | ⟨r, rfl | rfl⟩ <;> intro r h <;> cases h
  cases t with
  | var n =>
    rw [Good] at hg
    obtain ⟨h1, h2, h3, _⟩ := vname hg
    have A : (var n).arrow = false → Behind x → ∃ k, ∀ f, k ≤ f → pA f (text (var n) ++ x) = some (var n, x) := by
      intro _ hb
      refine ⟨1, fun f hf => ?_⟩
      obtain ⟨g, rfl⟩ : ∃ g, f = g + 1 := ⟨f - 1, by omega⟩
      rw [text, pA_name g _ (h3 x), h2 x]
      obtain ⟨e1, e2⟩ := nam_of h1 hb.1
      rw [e1, e2, arr_list]
      rfl
    exact ⟨A, fin A rfl⟩
  | con n l =>
    rw [Good] at hg
    obtain ⟨h1, h2, h3, _⟩ := cname hg.1
    have A : (con n l).arrow = false → Behind x → ∃ k, ∀ f, k ≤ f → pA f (text (con n l) ++ x) = some (con n l, x) := by
      intro _ hb
      obtain ⟨k, hk⟩ := texts_read l hg.2 x hb
      refine ⟨k + 1, fun f hf => ?_⟩
      obtain ⟨g, rfl⟩ : ∃ g, f = g + 1 := ⟨f - 1, by omega⟩
      rw [text, List.append_assoc, pA_name g _ (h3 _), h2 _]
      have hnl : NL (texts l ++ x) := by
        cases l with
        | nil => rw [texts]; exact hb.1
        | cons t r => intro c r' h; rw [texts] at h; cases h; decide
      obtain ⟨e1, e2⟩ := nam_of h1 hnl
      rw [e1, e2, arr_list, hk g (by omega)]
      rfl
    exact ⟨A, fin A rfl⟩
  | fn a b =>
    rw [Good] at hg
    refine ⟨fun h => (by cases h), fun he => ?_⟩
    obtain ⟨nb, hb⟩ := (text_read b hg.2 x).2 he
    have hA : ∃ n, ∀ f, n ≤ f → pA f (br a.arrow (text a) ++ ([32, 45, 62, 32] ++ (text b ++ x))) = some (a, [32, 45, 62, 32] ++ (text b ++ x)) := by
      by_cases ha : a.arrow = true
      · obtain ⟨n, hn⟩ := (text_read a hg.1 (41 :: ([32, 45, 62, 32] ++ (text b ++ x)))).2 (.inr ⟨_, .inl rfl⟩)
        refine ⟨n + 1, fun f hf => ?_⟩
        obtain ⟨g, rfl⟩ : ∃ g, f = g + 1 := ⟨f - 1, by omega⟩
        have e : br a.arrow (text a) ++ ([32, 45, 62, 32] ++ (text b ++ x)) = 40 :: (text a ++ 41 :: ([32, 45, 62, 32] ++ (text b ++ x))) := by simp [br, ha]
        rw [e, pA, hn g (by omega)]
        rfl
      · have ha' : a.arrow = false := by simpa using ha
        obtain ⟨n, hn⟩ := (text_read a hg.1 ([32, 45, 62, 32] ++ (text b ++ x))).1 ha' ⟨fun c r h => (by cases h; decide), fun c r h => (by cases h; rfl)⟩
        exact ⟨n, fun f hf => by rw [br, ha', if_neg (by decide)]; exact hn f hf⟩
    obtain ⟨na, ha⟩ := hA
    refine ⟨na + nb + 1, fun f hf => ?_⟩
    obtain ⟨g, rfl⟩ : ∃ g, f = g + 1 := ⟨f - 1, by omega⟩
    rw [text, List.append_assoc, List.append_assoc, pT, ha g (by omega)]
    show (match pT g (text b ++ x) with | some (b, r') => some (fn a b, r') | none => none) = _
    rw [hb g (by omega)]
  | all n a => rw [Good] at hg; exact hg.elim
theorem texts_read (l : List T) (hg : Goods l) (x : List UInt8) (hb : Behind x) : ∃ n, ∀ f, n ≤ f → pArgs f (texts l ++ x) = some (l, x) := by
  cases l with
  | nil =>
    refine ⟨1, fun f hf => ?_⟩
    obtain ⟨g, rfl⟩ : ∃ g, f = g + 1 := ⟨f - 1, by omega⟩
    rw [texts]
    exact pArgs_end g x hb
  | cons t r =>
    rw [Goods] at hg
    obtain ⟨n2, h2⟩ := texts_read r hg.2 x hb
    have hnl : NL (texts r ++ x) := by
      cases r with
      | nil => rw [texts]; exact hb.1
      | cons t' r' => intro c r'' h; rw [texts] at h; cases h; decide
    have h1 : ∃ n, ∀ f, n ≤ f → pArg f (br t.wide (text t) ++ (texts r ++ x)) = some (t, texts r ++ x) := by
      by_cases hw : t.wide = true
      · obtain ⟨n, hn⟩ := (text_read t hg.1 (41 :: (texts r ++ x))).2 (.inr ⟨_, .inl rfl⟩)
        refine ⟨n + 1, fun f hf => ?_⟩
        obtain ⟨g, rfl⟩ : ∃ g, f = g + 1 := ⟨f - 1, by omega⟩
        have e : br t.wide (text t) ++ (texts r ++ x) = 40 :: (text t ++ 41 :: (texts r ++ x)) := by simp [br, hw]
        rw [e, pArg, hn g (by omega)]
        rfl
      · refine ⟨1, fun f hf => ?_⟩
        obtain ⟨g, rfl⟩ : ∃ g, f = g + 1 := ⟨f - 1, by omega⟩
        have hw' : t.wide = false := by simpa using hw
        have hg1 := hg.1
        cases t with
        | var n =>
          rw [Good] at hg1
          obtain ⟨h1, h2, h3, _⟩ := vname hg1
          rw [br, hw', if_neg (by decide), text, pArg_name g _ (h3 _), h2 _]
          obtain ⟨e1, e2⟩ := nam_of h1 hnl
          rw [e1, e2, arr_list]
          rfl
        | con n l =>
          rw [Good] at hg1
          obtain ⟨h1, h2, h3, _⟩ := cname hg1.1
          have hl : l = [] := by simpa [wide] using hw'
          subst hl
          rw [br, hw', if_neg (by decide), text, texts, List.append_nil, pArg_name g _ (h3 _), h2 _]
          obtain ⟨e1, e2⟩ := nam_of h1 hnl
          rw [e1, e2, arr_list]
          rfl
        | fn a b => cases hw'
        | all n a => cases hw'
    obtain ⟨n1, h1⟩ := h1
    have hhd : ∃ c q, br t.wide (text t) ++ (texts r ++ x) = c :: q ∧ c ≠ 45 := by
      have hg1 := hg.1
      by_cases hw : t.wide = true
      · exact ⟨40, text t ++ 41 :: (texts r ++ x), by simp [br, hw], by decide⟩
      · have hw' : t.wide = false := by simpa using hw
        have hne : ∀ n : List UInt8, n.all isL = true → n ≠ [] → ∃ c q, n = c :: q ∧ c ≠ 45 := by
          intro n hn h0
          cases n with
          | nil => exact absurd rfl h0
          | cons c q => exact ⟨c, q, rfl, fun e => by subst e; simp [isL] at hn⟩
        cases t with
        | var n =>
          rw [Good] at hg1
          obtain ⟨c, q, e, hc⟩ := hne _ (vname hg1).1 (by intro e; rw [e] at hg1; exact absurd hg1 (by decide))
          exact ⟨c, q ++ (texts r ++ x), by rw [br, hw', if_neg (by decide), text, e]; rfl, hc⟩
        | con n l =>
          rw [Good] at hg1
          obtain ⟨c, q, e, hc⟩ := hne _ (cname hg1.1).1 (by intro e; rw [e] at hg1; exact absurd hg1.1 (by decide))
          have hl : l = [] := by simpa [wide] using hw'
          subst hl
          exact ⟨c, q ++ (texts r ++ x), by rw [br, hw', if_neg (by decide), text, texts, e]; simp, hc⟩
        | fn a b => cases hw'
        | all n a => cases hw'
    obtain ⟨c, q, hcq, hc⟩ := hhd
    refine ⟨n1 + n2 + 1, fun f hf => ?_⟩
    obtain ⟨g, rfl⟩ : ∃ g, f = g + 1 := ⟨f - 1, by omega⟩
    have e : texts (t :: r) ++ x = 32 :: c :: q := by rw [texts, ← hcq]; simp
    rw [e, pArgs, if_neg (by simpa using hc), ← hcq, h1 g (by omega)]
    show (match pArgs g (texts r ++ x) with | some (l, r2) => some (t :: l, r2) | none => none) = _
    rw [h2 g (by omega)]
end

theorem text_inj {t u : T} (ht : Good t) (hu : Good u) (h : text t = text u) : t = u := by
  obtain ⟨n, hn⟩ := (text_read t ht []).2 (.inl rfl)
  obtain ⟨m, hm⟩ := (text_read u hu []).2 (.inl rfl)
  have a := hn (n + m) (by omega)
  have b := hm (n + m) (by omega)
  rw [h, b] at a
  cases a; rfl
end T
end Go.Proofs.YtjnlchhikdfifaaGreatDoor
/- Types as plain data: their order, how many parts, the parts, the free variables. -/
namespace Go.Proofs.YtjnlchhikdfifaaGreatDoor

namespace T
def kind : T → Int
  | var _ => 1
  | con _ _ => 2
  | fn _ _ => 3
  | all _ _ => 4
def name : T → ByteArray
  | var n => n
  | con n _ => n
  | fn _ _ => ⟨#[]⟩
  | all n _ => n
def kids : T → List T
  | var _ => []
  | con _ l => l
  | fn a b => [a, b]
  | all _ a => [a]
theorem kid_size {t k : T} (h : k ∈ t.kids) : SizeOf.sizeOf k < SizeOf.sizeOf t := by
  cases t with
  | var n => cases h
  | con n l => have := List.sizeOf_lt_of_mem h; simp [kids] at this ⊢; omega
  | fn a b =>
    simp [kids] at h
    rcases h with rfl | rfl <;> simp <;> omega
  | all n a =>
    simp [kids] at h
    subst h; simp; omega
theorem kind_pos (t : T) : 1 ≤ t.kind ∧ t.kind ≤ 4 := by cases t <;> simp [kind]
theorem ext3 {t u : T} (h1 : t.kind = u.kind) (h2 : t.name = u.name) (h3 : t.kids = u.kids) : t = u := by
  cases t <;> cases u <;> simp_all [kind, name, kids]
end T

/-- -1, 0, 1. -/
def sgn (a b : Int) : Int := if a < b then -1 else if b < a then 1 else 0
/-- The first that is not 0. -/
def orI (a b : Int) : Int := if a = 0 then b else a
def Tri (p q r : Int) : Prop :=
  (p ≤ 0 → q ≤ 0 → r ≤ 0) ∧ (0 ≤ p → 0 ≤ q → 0 ≤ r) ∧ (p ≤ 0 → q ≤ 0 → r = 0 → p = 0 ∧ q = 0) ∧ (0 ≤ p → 0 ≤ q → r = 0 → p = 0 ∧ q = 0)
theorem sgn_neg (a b : Int) : sgn b a = - sgn a b := by unfold sgn; (repeat' split) <;> omega
theorem sgn_zero {a b : Int} : sgn a b = 0 ↔ a = b := by unfold sgn; (repeat' split) <;> omega
theorem sgn_tri (a b c : Int) : Tri (sgn a b) (sgn b c) (sgn a c) := by
  unfold Tri sgn
  (repeat' split) <;> omega
theorem orI_neg (p q : Int) : orI (-p) (-q) = - orI p q := by unfold orI; (repeat' split) <;> omega
theorem orI_zero {p q : Int} : orI p q = 0 ↔ p = 0 ∧ q = 0 := by unfold orI; split <;> omega
theorem orI_tri {p q r p' q' r' : Int} (h : Tri p q r) (h' : Tri p' q' r') : Tri (orI p p') (orI q q') (orI r r') := by
  obtain ⟨a1, a2, a3, a4⟩ := h
  obtain ⟨b1, b2, b3, b4⟩ := h'
  unfold Tri
  by_cases hp : p = 0 <;> by_cases hq : q = 0 <;> by_cases hr : r = 0
  · rw [orI, if_pos hp, orI, if_pos hq, orI, if_pos hr]; exact ⟨b1, b2, b3, b4⟩
  · exact absurd (show r = 0 by have := a1 (by omega) (by omega); have := a2 (by omega) (by omega); omega) hr
  · rw [orI, if_pos hp, orI, if_neg hq, orI, if_pos hr]
    exact ⟨fun _ _ => absurd (a3 (by omega) (by omega) hr).2 hq, fun _ _ => absurd (a4 (by omega) (by omega) hr).2 hq, fun _ _ => absurd (a3 (by omega) (by omega) hr).2 hq, fun _ _ => absurd (a4 (by omega) (by omega) hr).2 hq⟩
  · rw [orI, if_pos hp, orI, if_neg hq, orI, if_neg hr]
    exact ⟨fun _ _ => a1 (by omega) (by omega), fun _ _ => a2 (by omega) (by omega), fun _ _ h => absurd h hr, fun _ _ h => absurd h hr⟩
  · rw [orI, if_neg hp, orI, if_pos hq, orI, if_pos hr]
    exact ⟨fun _ _ => absurd (a3 (by omega) (by omega) hr).1 hp, fun _ _ => absurd (a4 (by omega) (by omega) hr).1 hp, fun _ _ => absurd (a3 (by omega) (by omega) hr).1 hp, fun _ _ => absurd (a4 (by omega) (by omega) hr).1 hp⟩
  · rw [orI, if_neg hp, orI, if_pos hq, orI, if_neg hr]
    exact ⟨fun _ _ => a1 (by omega) (by omega), fun _ _ => a2 (by omega) (by omega), fun _ _ h => absurd h hr, fun _ _ h => absurd h hr⟩
  · rw [orI, if_neg hp, orI, if_neg hq, orI, if_pos hr]
    exact ⟨fun h k => absurd (a3 h k hr).1 hp, fun h k => absurd (a4 h k hr).1 hp, fun h k _ => absurd (a3 h k hr).1 hp, fun h k _ => absurd (a4 h k hr).1 hp⟩
  · rw [orI, if_neg hp, orI, if_neg hq, orI, if_neg hr]
    exact ⟨a1, a2, a3, a4⟩
def Unit1 (p : Int) : Prop := p = -1 ∨ p = 0 ∨ p = 1
theorem sgn_unit (a b : Int) : Unit1 (sgn a b) := by unfold sgn Unit1; (repeat' split) <;> omega
theorem orI_unit {p q : Int} (h : Unit1 p) (k : Unit1 q) : Unit1 (orI p q) := by unfold orI; split <;> assumption

def cmpL : List UInt8 → List UInt8 → Int
  | [], [] => 0
  | [], _ :: _ => -1
  | _ :: _, [] => 1
  | a :: x, b :: y => orI (sgn a.toNat b.toNat) (cmpL x y)
theorem cmpL_neg : ∀ x y, cmpL y x = - cmpL x y
  | [], [] => rfl
  | [], _ :: _ => rfl
  | _ :: _, [] => rfl
  | a :: x, b :: y => by rw [cmpL, cmpL, sgn_neg, cmpL_neg x y, orI_neg]
theorem u8_eq {a b : UInt8} : (a.toNat : Int) = b.toNat ↔ a = b := by
  constructor
  · intro h
    exact UInt8.toNat_inj.1 (by omega)
  · rintro rfl; rfl
theorem cmpL_zero : ∀ {x y}, cmpL x y = 0 ↔ x = y
  | [], [] => by simp [cmpL]
  | [], _ :: _ => by simp [cmpL]
  | _ :: _, [] => by simp [cmpL]
  | a :: x, b :: y => by rw [cmpL, orI_zero, sgn_zero, cmpL_zero, u8_eq]; simp
theorem cmpL_unit : ∀ x y, Unit1 (cmpL x y)
  | [], [] => by simp [cmpL, Unit1]
  | [], _ :: _ => by simp [cmpL, Unit1]
  | _ :: _, [] => by simp [cmpL, Unit1]
  | a :: x, b :: y => by rw [cmpL]; exact orI_unit (sgn_unit _ _) (cmpL_unit x y)
theorem cmpL_tri : ∀ x y z, Tri (cmpL x y) (cmpL y z) (cmpL x z)
  | [], [], [] => by simp [cmpL, Tri]
  | [], [], _ :: _ => by simp [cmpL, Tri]
  | [], _ :: _, [] => by simp [cmpL, Tri]
  | _ :: _, [], [] => by simp [cmpL, Tri]
  | [], b :: y, c :: z => by
    have := cmpL_unit (b :: y) (c :: z)
    generalize cmpL (b :: y) (c :: z) = q at this ⊢
    unfold Unit1 at this
    unfold Tri
    simp only [cmpL]
    omega
  | a :: x, [], c :: z => by
    have := cmpL_unit (a :: x) (c :: z)
    generalize cmpL (a :: x) (c :: z) = q at this ⊢
    unfold Unit1 at this
    unfold Tri
    simp only [cmpL]
    omega
  | a :: x, b :: y, [] => by
    have := cmpL_unit (a :: x) (b :: y)
    generalize cmpL (a :: x) (b :: y) = q at this ⊢
    unfold Unit1 at this
    unfold Tri
    simp only [cmpL]
    omega
  | a :: x, b :: y, c :: z => by
    rw [cmpL, cmpL, cmpL]
    exact orI_tri (sgn_tri _ _ _) (cmpL_tri x y z)
theorem less_cmpL : ∀ x y, Op.bytesLess x y = decide (cmpL x y < 0)
  | [], [] => by simp [cmpL, Op.bytesLess]
  | [], _ :: _ => by simp [cmpL, Op.bytesLess]
  | _ :: _, [] => by simp [cmpL, Op.bytesLess]
  | a :: x, b :: y => by
    rw [cmpL, Op.bytesLess, less_cmpL x y]
    by_cases h : a = b
    · subst h
      have : sgn (a.toNat : Int) a.toNat = 0 := sgn_zero.2 rfl
      simp [this, orI]
    · have hn : ¬ sgn (a.toNat : Int) b.toNat = 0 := fun e => h (u8_eq.1 (sgn_zero.1 e))
      have e1 : (a == b) = false := by simpa using h
      rw [e1, orI, if_neg hn]
      by_cases hlt : a < b
      · have : a.toNat < b.toNat := hlt
        simp [hlt, sgn, this]
      · have : ¬ a.toNat < b.toNat := hlt
        simp only [hlt, decide_false, Bool.false_and, Bool.or_false]
        unfold sgn
        rw [if_neg (by omega)]
        split <;> simp
theorem beq_cmpL (x y : List UInt8) : (x == y) = decide (cmpL x y = 0) := by
  by_cases h : x = y
  · subst h; simp [cmpL_zero.2 rfl]
  · have : ¬ cmpL x y = 0 := fun e => h (cmpL_zero.1 e)
    simp [this, h]

mutual
def cmpT : T → T → Int
  | .var n, u => orI (sgn 1 u.kind) (orI (cmpL n.data.toList u.name.data.toList) (orI (sgn 0 u.kids.length) (match u.kids with | [] => 0 | _ :: _ => -1)))
  | .con n l, u => orI (sgn 2 u.kind) (orI (cmpL n.data.toList u.name.data.toList) (orI (sgn l.length u.kids.length) (cmpTs l u.kids)))
  | .fn a b, u => orI (sgn 3 u.kind) (orI (cmpL [] u.name.data.toList) (orI (sgn 2 u.kids.length) (match u.kids with
    | [] => 1
    | c :: r => orI (cmpT a c) (match r with
      | [] => 1
      | d :: r' => orI (cmpT b d) (match r' with | [] => 0 | _ :: _ => -1)))))
  | .all n a, u => orI (sgn 4 u.kind) (orI (cmpL n.data.toList u.name.data.toList) (orI (sgn 1 u.kids.length) (match u.kids with
    | [] => 1
    | c :: r => orI (cmpT a c) (match r with | [] => 0 | _ :: _ => -1))))
def cmpTs : List T → List T → Int
  | [], [] => 0
  | [], _ :: _ => -1
  | _ :: _, [] => 1
  | a :: l, b :: m => orI (cmpT a b) (cmpTs l m)
end
theorem cmpTs_nil (m : List T) : cmpTs [] m = (match m with | [] => 0 | _ :: _ => -1) := by cases m <;> rw [cmpTs]
theorem cmpT_eq (t u : T) : cmpT t u = orI (sgn t.kind u.kind) (orI (cmpL t.name.data.toList u.name.data.toList) (orI (sgn t.kids.length u.kids.length) (cmpTs t.kids u.kids))) := by
  cases t with
  | var n => rw [cmpT]; simp only [T.kind, T.name, T.kids, cmpTs_nil]; rfl
  | con n l => rw [cmpT]; simp only [T.kind, T.name, T.kids]
  | fn a b =>
    rw [cmpT]
    show _ = orI (sgn 3 u.kind) (orI (cmpL [] u.name.data.toList) (orI (sgn 2 u.kids.length) (cmpTs [a, b] u.kids)))
    generalize u.kids = m
    match m with
    | [] => rw [cmpTs]
    | [c] => rw [cmpTs, cmpTs]
    | c :: d :: r => rw [cmpTs, cmpTs, cmpTs_nil]
  | all n a =>
    rw [cmpT]
    show _ = orI (sgn 4 u.kind) (orI (cmpL n.data.toList u.name.data.toList) (orI (sgn 1 u.kids.length) (cmpTs [a] u.kids)))
    generalize u.kids = m
    match m with
    | [] => rw [cmpTs]
    | c :: r => rw [cmpTs, cmpTs_nil]

theorem cmpTs_neg : ∀ l m : List T, (∀ k ∈ l, ∀ u, cmpT u k = - cmpT k u) → cmpTs m l = - cmpTs l m
  | [], [], _ => by rw [cmpTs]; rfl
  | [], _ :: _, _ => by rw [cmpTs, cmpTs]; rfl
  | _ :: _, [], _ => by rw [cmpTs, cmpTs]
  | a :: l, b :: m, H => by
    rw [cmpTs, cmpTs, H a (List.mem_cons_self ..), cmpTs_neg l m (fun k hk => H k (List.mem_cons_of_mem _ hk)), orI_neg]
theorem cmp_neg (t u : T) : cmpT u t = - cmpT t u := by
  rw [cmpT_eq, cmpT_eq t u, sgn_neg t.kind, cmpL_neg t.name.data.toList, sgn_neg t.kids.length, cmpTs_neg t.kids u.kids (fun k hk v => cmp_neg k v), orI_neg, orI_neg, orI_neg]
termination_by SizeOf.sizeOf t
decreasing_by exact T.kid_size hk
theorem cmpTs_zero : ∀ l m : List T, (∀ k ∈ l, ∀ u, cmpT k u = 0 ↔ k = u) → (cmpTs l m = 0 ↔ l = m)
  | [], [], _ => by simp [cmpTs]
  | [], _ :: _, _ => by simp [cmpTs]
  | _ :: _, [], _ => by simp [cmpTs]
  | a :: l, b :: m, H => by
    rw [cmpTs, orI_zero, H a (List.mem_cons_self ..), cmpTs_zero l m (fun k hk => H k (List.mem_cons_of_mem _ hk))]
    simp
theorem cmp_zero (t u : T) : cmpT t u = 0 ↔ t = u := by
  rw [cmpT_eq, orI_zero, orI_zero, orI_zero, sgn_zero, cmpL_zero, cmpTs_zero t.kids u.kids (fun k hk v => cmp_zero k v)]
  constructor
  · rintro ⟨h1, h2, _, h3⟩
    exact T.ext3 h1 (by cases h : t.name; cases h' : u.name; rw [h, h'] at h2; simp_all) h3
  · rintro rfl
    exact ⟨rfl, rfl, sgn_zero.2 rfl, rfl⟩
termination_by SizeOf.sizeOf t
decreasing_by exact T.kid_size hk
theorem cmpTs_unit : ∀ l m : List T, (∀ k ∈ l, ∀ u, Unit1 (cmpT k u)) → Unit1 (cmpTs l m)
  | [], [], _ => by simp [cmpTs, Unit1]
  | [], _ :: _, _ => by simp [cmpTs, Unit1]
  | _ :: _, [], _ => by simp [cmpTs, Unit1]
  | a :: l, b :: m, H => by
    rw [cmpTs]
    exact orI_unit (H a (List.mem_cons_self ..) b) (cmpTs_unit l m (fun k hk => H k (List.mem_cons_of_mem _ hk)))
theorem cmp_unit (t u : T) : Unit1 (cmpT t u) := by
  rw [cmpT_eq]
  exact orI_unit (sgn_unit _ _) (orI_unit (cmpL_unit _ _) (orI_unit (sgn_unit _ _) (cmpTs_unit t.kids u.kids (fun k hk v => cmp_unit k v))))
termination_by SizeOf.sizeOf t
decreasing_by exact T.kid_size hk
theorem cmpTs_tri : ∀ x y z : List T, (∀ k ∈ x, ∀ u v, Tri (cmpT k u) (cmpT u v) (cmpT k v)) → Tri (cmpTs x y) (cmpTs y z) (cmpTs x z)
  | [], [], [], _ => by simp [cmpTs, Tri]
  | [], [], _ :: _, _ => by simp [cmpTs, Tri]
  | [], _ :: _, [], _ => by simp [cmpTs, Tri]
  | _ :: _, [], [], _ => by simp [cmpTs, Tri]
  | [], b :: y, c :: z, _ => by
    have := cmpTs_unit (b :: y) (c :: z) (fun k _ u => cmp_unit k u)
    generalize cmpTs (b :: y) (c :: z) = q at this ⊢
    unfold Unit1 at this
    unfold Tri
    simp only [cmpTs]
    omega
  | a :: x, [], c :: z, _ => by
    have := cmpTs_unit (a :: x) (c :: z) (fun k _ u => cmp_unit k u)
    generalize cmpTs (a :: x) (c :: z) = q at this ⊢
    unfold Unit1 at this
    unfold Tri
    simp only [cmpTs]
    omega
  | a :: x, b :: y, [], _ => by
    have := cmpTs_unit (a :: x) (b :: y) (fun k _ u => cmp_unit k u)
    generalize cmpTs (a :: x) (b :: y) = q at this ⊢
    unfold Unit1 at this
    unfold Tri
    simp only [cmpTs]
    omega
  | a :: x, b :: y, c :: z, H => by
    rw [cmpTs, cmpTs, cmpTs]
    exact orI_tri (H a (List.mem_cons_self ..) b c) (cmpTs_tri x y z (fun k hk => H k (List.mem_cons_of_mem _ hk)))
theorem cmp_tri (t u v : T) : Tri (cmpT t u) (cmpT u v) (cmpT t v) := by
  rw [cmpT_eq t u, cmpT_eq u v, cmpT_eq t v]
  exact orI_tri (sgn_tri _ _ _) (orI_tri (cmpL_tri _ _ _) (orI_tri (sgn_tri _ _ _) (cmpTs_tri t.kids u.kids v.kids (fun k hk u v => cmp_tri k u v))))
termination_by SizeOf.sizeOf t
decreasing_by exact T.kid_size hk

mutual
def tsize : T → Nat
  | .var _ => 1
  | .con _ l => 1 + tsizes l
  | .fn a b => 1 + (tsize a + tsize b)
  | .all _ a => 1 + tsize a
def tsizes : List T → Nat
  | [] => 0
  | a :: l => tsize a + tsizes l
end
theorem tsize_eq (t : T) : tsize t = 1 + tsizes t.kids := by
  cases t <;> simp [tsize, T.kids, tsizes]
mutual
def parts : T → List T
  | .var n => [.var n]
  | .con n l => .con n l :: partss l
  | .fn a b => .fn a b :: (parts a ++ parts b)
  | .all n a => .all n a :: parts a
def partss : List T → List T
  | [] => []
  | a :: l => parts a ++ partss l
end
theorem parts_eq (t : T) : parts t = t :: partss t.kids := by
  cases t <;> simp [parts, T.kids, partss]
mutual
theorem parts_len (t : T) : (parts t).length = tsize t := by
  cases t with
  | var n => simp [parts, tsize]
  | con n l => simp [parts, tsize, partss_len l]; omega
  | fn a b => simp [parts, tsize, parts_len a, parts_len b]; omega
  | all n a => simp [parts, tsize, parts_len a]; omega
theorem partss_len (l : List T) : (partss l).length = tsizes l := by
  cases l with
  | nil => simp [partss, tsizes]
  | cons a l => simp [partss, tsizes, parts_len a, partss_len l]
end
open Classical in
mutual
noncomputable def fv : List ByteArray → List ByteArray → T → List ByteArray
  | bd, out, .var n => if n ∈ bd ∨ n ∈ out then out else out ++ [n]
  | bd, out, .con _ l => fvs bd out l
  | bd, out, .fn a b => fv bd (fv bd out a) b
  | bd, out, .all n a => fv (n :: bd) out a
noncomputable def fvs : List ByteArray → List ByteArray → List T → List ByteArray
  | _, out, [] => out
  | bd, out, a :: l => fvs bd (fv bd out a) l
end
end Go.Proofs.YtjnlchhikdfifaaGreatDoor
/- A type in memory; what is kept of it; rows that lie in blocks of a kind. -/
namespace Go.Proofs.YtjnlchhikdfifaaGreatDoor
open Go.RowKit
attribute [local go_sem] Oper.semAt_some


/-- Type t stands in three cells: its kind, its name, the row of its parts. -/
inductive TyAt (w : World) : T → Value → Value → Value → Prop
  | leaf (t : T) (a : Option Addr) (c : Nat) : t.kids = [] → TyAt w t (.int .i64 t.kind) (.string t.name) (.slice a 0 c)
  | row (t : T) (g cap : Nat) (cs : Array Value) (fz : Nat × Nat) (x y z : Nat → Value) : w.heap[g]? = some (.cells cs 31 fz) → t.kids.length ≤ cap →
      (∀ i, i < t.kids.length → cs[i * 3]? = some (x i) ∧ cs[i * 3 + 1]? = some (y i) ∧ cs[i * 3 + 2]? = some (z i)) →
      (∀ i (h : i < t.kids.length), TyAt w t.kids[i] (x i) (y i) (z i)) →
      TyAt w t (.int .i64 t.kind) (.string t.name) (.slice (some ⟨g, 0, none⟩) t.kids.length cap)
/-- v is a slice of the types l. -/
def TysAt (w : World) (v : Value) (l : List T) : Prop :=
  (l = [] ∧ ∃ a c, v = .slice a 0 c) ∨ ∃ g cap cs fz, ∃ x y z : Nat → Value, v = .slice (some ⟨g, 0, none⟩) l.length cap ∧ w.heap[g]? = some (.cells cs 31 fz) ∧ l.length ≤ cap ∧
    (∀ i, i < l.length → cs[i * 3]? = some (x i) ∧ cs[i * 3 + 1]? = some (y i) ∧ cs[i * 3 + 2]? = some (z i)) ∧ ∀ i (h : i < l.length), TyAt w l[i] (x i) (y i) (z i)
theorem tyAt_iff (w : World) (t : T) (k n v : Value) : TyAt w t k n v ↔ k = .int .i64 t.kind ∧ n = .string t.name ∧ TysAt w v t.kids := by
  constructor
  · intro h
    cases h with
    | leaf _ a c h => exact ⟨rfl, rfl, .inl ⟨h, a, c, rfl⟩⟩
    | row _ g cap cs fz x y z h1 h2 h3 h4 => exact ⟨rfl, rfl, .inr ⟨g, cap, cs, fz, x, y, z, rfl, h1, h2, h3, h4⟩⟩
  · rintro ⟨rfl, rfl, ⟨h, a, c, rfl⟩ | ⟨g, cap, cs, fz, x, y, z, rfl, h1, h2, h3, h4⟩⟩
    · exact .leaf t a c h
    · exact .row t g cap cs fz x y z h1 h2 h3 h4
/-- The rows of types stand as they stood. -/
def KeepT (w w' : World) : Prop := ∀ (k : Nat) (cs : Array Value) (fz : Nat × Nat), w.heap[k]? = some (.cells cs 31 fz) → w'.heap[k]? = some (.cells cs 31 fz)
theorem KeepT.refl (w : World) : KeepT w w := fun _ _ _ h => h
theorem KeepT.trans {a b c : World} (h : KeepT a b) (k : KeepT b c) : KeepT a c := fun i cs fz hi => k i cs fz (h i cs fz hi)
theorem KeepT.of_below {w w' : World} (h : Below w.heap.size w w') : KeepT w w' := fun k _ _ hk => (h.block k (Array.getElem?_eq_some_iff.1 hk).1).trans hk
theorem TyAt.keep {w w' : World} (hk : KeepT w w') {t : T} {k n v : Value} (h : TyAt w t k n v) : TyAt w' t k n v := by
  induction h with
  | leaf t a c h => exact .leaf t a c h
  | row t g cap cs fz x y z h1 h2 h3 _ ih => exact .row t g cap cs fz x y z (hk _ _ _ h1) h2 h3 ih
theorem TysAt.keep {w w' : World} (hk : KeepT w w') {v : Value} {l : List T} (h : TysAt w v l) : TysAt w' v l := by
  rcases h with h | ⟨g, cap, cs, fz, x, y, z, rfl, h1, h2, h3, h4⟩
  · exact .inl h
  · exact .inr ⟨g, cap, cs, fz, x, y, z, rfl, hk _ _ _ h1, h2, h3, fun i hi => (h4 i hi).keep hk⟩
theorem TysAt.shape {w : World} {v : Value} {l : List T} (h : TysAt w v l) : ∃ a c, v = .slice a l.length c := by
  rcases h with ⟨rfl, a, c, rfl⟩ | ⟨g, cap, cs, fz, x, y, z, rfl, _⟩
  · exact ⟨a, c, rfl⟩
  · exact ⟨_, _, rfl⟩
theorem TyAt.shape {w : World} {t : T} {k n v : Value} (h : TyAt w t k n v) : k = .int .i64 t.kind ∧ n = .string t.name ∧ (∃ a c, v = .slice a t.kids.length c) ∧ TysAt w v t.kids := by
  obtain ⟨h1, h2, h3⟩ := (tyAt_iff w t k n v).1 h
  exact ⟨h1, h2, h3.shape, h3⟩
/-- A row with a part: where it lies, and each part. -/
theorem TysAt.row {w : World} {v : Value} {l : List T} (h : TysAt w v l) (h0 : l ≠ []) : ∃ g cap, v = .slice (some ⟨g, 0, none⟩) l.length cap ∧ g < w.heap.size ∧ l.length ≤ cap ∧
    ∀ i (h : i < l.length), ∃ a c, w.cell? ⟨g, i * 3, none⟩ = some (.int .i64 l[i].kind) ∧ w.cell? ⟨g, i * 3 + 1, none⟩ = some (.string l[i].name) ∧ w.cell? ⟨g, i * 3 + 2, none⟩ = some (.slice a l[i].kids.length c) ∧
      TysAt w (.slice a l[i].kids.length c) l[i].kids := by
  rcases h with ⟨h, _⟩ | ⟨g, cap, cs, fz, x, y, z, rfl, h1, h2, h3, h4⟩
  · exact absurd h h0
  · refine ⟨g, cap, rfl, (Array.getElem?_eq_some_iff.1 h1).1, h2, fun i hi => ?_⟩
    obtain ⟨c1, c2, c3⟩ := h3 i hi
    obtain ⟨e1, e2, ⟨a, c, e3⟩, e4⟩ := (h4 i hi).shape
    rw [e1] at c1; rw [e2] at c2; rw [e3] at c3 e4
    refine ⟨a, c, ?_, ?_, ?_, e4⟩
    · simp only [World.cell?, h1]; simpa using c1
    · simp only [World.cell?, h1]; simpa using c2
    · simp only [World.cell?, h1]; simpa using c3
theorem TyAt.mk {w : World} (t : T) {v : Value} (h : TysAt w v t.kids) : TyAt w t (.int .i64 t.kind) (.string t.name) v := (tyAt_iff w t _ _ v).2 ⟨rfl, rfl, h⟩
theorem TysAt.nil (w : World) (a : Option Addr) (c : Nat) : TysAt w (.slice a 0 c) [] := .inl ⟨rfl, a, c, rfl⟩
theorem alloc_new (w : World) (o : Obj) : (w.alloc o).heap[w.heap.size]? = some o := by show (w.heap.push o)[w.heap.size]? = _; simp
theorem keepT_alloc (w : World) (o : Obj) : KeepT w (w.alloc o) := .of_below ((Below.refl _ w).alloc (Nat.le_refl _) o)
theorem TysAt.one {w : World} {t : T} {k n v : Value} {g : Nat} (hg : g = w.heap.size) (h : TyAt w t k n v) : TysAt (w.alloc (.cells #[k, n, v] 31)) (.slice (some ⟨g, 0, none⟩) 1 1) [t] := by
  subst hg
  refine .inr ⟨w.heap.size, 1, #[k, n, v], (0, 0), fun _ => k, fun _ => n, fun _ => v, rfl, alloc_new w _, Nat.le_refl _, ?_, ?_⟩
  · intro i hi
    obtain rfl : i = 0 := by simpa using hi
    exact ⟨rfl, rfl, rfl⟩
  · intro i hi
    obtain rfl : i = 0 := by simpa using hi
    exact h.keep (keepT_alloc w _)
theorem TysAt.two {w : World} {t u : T} {k n v k' n' v' : Value} {g : Nat} (hg : g = w.heap.size) (h : TyAt w t k n v) (h' : TyAt w u k' n' v') : TysAt (w.alloc (.cells #[k, n, v, k', n', v'] 31)) (.slice (some ⟨g, 0, none⟩) 2 2) [t, u] := by
  subst hg
  refine .inr ⟨w.heap.size, 2, #[k, n, v, k', n', v'], (0, 0), fun i => if i = 0 then k else k', fun i => if i = 0 then n else n', fun i => if i = 0 then v else v', rfl, alloc_new w _, Nat.le_refl _, ?_, ?_⟩
  · intro i hi
    match i, hi with
    | 0, _ => exact ⟨rfl, rfl, rfl⟩
    | 1, _ => exact ⟨rfl, rfl, rfl⟩
    | n + 2, hi => simp at hi; omega
  · intro i hi
    match i, hi with
    | 0, _ => exact h.keep (keepT_alloc w _)
    | 1, _ => exact h'.keep (keepT_alloc w _)
    | n + 2, hi => simp at hi; omega

theorem three_cells {w : World} {p : Nat} {x y z : Value} {T : TypeId} {fz : Nat × Nat} (h : w.heap[p]? = some (.cells #[x, y, z] T fz)) : w.cell? ⟨p, 0, none⟩ = some x ∧ w.cell? ⟨p, 1, none⟩ = some y ∧ w.cell? ⟨p, 2, none⟩ = some z := by
  refine ⟨?_, ?_, ?_⟩ <;> (rw [Lib.cell_of_heap h]; rfl)

/-- As TyAt, of rows in blocks that are ok. -/
inductive TyIn (ok : Nat → Prop) (w : World) : T → Value → Prop
  | leaf (t : T) (a : Option Addr) (c : Nat) : t.kids = [] → TyIn ok w t (.slice a 0 c)
  | row (t : T) (g cap : Nat) (cs : Array Value) (fz : Nat × Nat) (z : Nat → Value) : ok g → w.heap[g]? = some (.cells cs 31 fz) → t.kids.length ≤ cap →
      (∀ i (h : i < t.kids.length), cs[i * 3]? = some (.int .i64 t.kids[i].kind) ∧ cs[i * 3 + 1]? = some (.string t.kids[i].name) ∧ cs[i * 3 + 2]? = some (z i)) →
      (∀ i (h : i < t.kids.length), TyIn ok w t.kids[i] (z i)) →
      TyIn ok w t (.slice (some ⟨g, 0, none⟩) t.kids.length cap)
theorem TyIn.keep {ok : Nat → Prop} {w w' : World} (hk : ∀ (k : Nat) (cs : Array Value) (fz : Nat × Nat), ok k → w.heap[k]? = some (.cells cs 31 fz) → w'.heap[k]? = some (.cells cs 31 fz)) {t : T} {v : Value} (h : TyIn ok w t v) : TyIn ok w' t v := by
  induction h with
  | leaf t a c h => exact .leaf t a c h
  | row t g cap cs fz z h0 h1 h2 h3 _ ih => exact .row t g cap cs fz z h0 (hk _ _ _ h0 h1) h2 h3 ih
theorem TyIn.mono {ok ok' : Nat → Prop} {w : World} (hk : ∀ k, ok k → ok' k) {t : T} {v : Value} (h : TyIn ok w t v) : TyIn ok' w t v := by
  induction h with
  | leaf t a c h => exact .leaf t a c h
  | row t g cap cs fz z h0 h1 h2 h3 _ ih => exact .row t g cap cs fz z (hk _ h0) h1 h2 h3 ih
theorem TyIn.lt {ok : Nat → Prop} {w : World} {t : T} {v : Value} (h : TyIn ok w t v) : TyIn (fun k => ok k ∧ k < w.heap.size) w t v := by
  induction h with
  | leaf t a c h => exact .leaf t a c h
  | row t g cap cs fz z h0 h1 h2 h3 _ ih => exact .row t g cap cs fz z ⟨h0, (Array.getElem?_eq_some_iff.1 h1).1⟩ h1 h2 h3 ih
theorem TyIn.shape {ok : Nat → Prop} {w : World} {t : T} {v : Value} (h : TyIn ok w t v) : ∃ a c, v = .slice a t.kids.length c := by
  cases h with
  | leaf _ a c h => exact ⟨a, c, by rw [h]; rfl⟩
  | row _ g cap cs fz z h0 h1 h2 h3 _ => exact ⟨_, _, rfl⟩
theorem TyIn.tys {ok : Nat → Prop} {w : World} {t : T} {v : Value} (h : TyIn ok w t v) : TysAt w v t.kids := by
  induction h with
  | leaf t a c h => rw [h]; exact .inl ⟨rfl, a, c, rfl⟩
  | row t g cap cs fz z h0 h1 h2 h3 _ ih => exact .inr ⟨g, cap, cs, fz, fun i => if h : i < t.kids.length then .int .i64 t.kids[i].kind else undef, fun i => if h : i < t.kids.length then .string t.kids[i].name else undef, z, rfl, h1, h2, fun i hi => by simp only [dif_pos hi]; exact h3 i hi, fun i hi => by simp only [dif_pos hi]; exact TyAt.mk _ (ih i hi)⟩
theorem TyIn.keep_below {ok : Nat → Prop} {w w' : World} {N : Nat} (hb : Below N w w') {t : T} {v : Value} (h : TyIn (fun k => ok k ∧ k < N) w t v) : TyIn (fun k => ok k ∧ k < N) w' t v := h.keep fun k _ _ hk hh => (hb.block k hk.2).trans hh

/-- A type's value. -/
def tyV (t : T) (v : Value) : Value := .agg #[.int .i64 t.kind, .string t.name, v]

set_option maxHeartbeats 1000000 in
theorem var_any (n : ByteArray) (w : World) :
    Calls Tryz.prog 25 #[.string n] w fun e w' => (∃ u, e = .returned (tyV (.var n) u) ∧ TysAt w' u []) ∧ Below w.heap.size w w' := by
  go_enter Tryz.func25, Tryz.ntmps25
  go_wp2
  refine bodyPost_ret (v := tyV (.var n) (.slice none 0 0)) (by simp [results, Tryz.results25, go_sem, tyV, T.kind, T.name]) rfl ⟨⟨_, rfl, TysAt.nil _ _ _⟩, (Below.refl _ w).alloc (Nat.le_refl _) _⟩

set_option maxHeartbeats 1000000 in
theorem con_any (n : ByteArray) (a : Option Addr) (l : List T) (k c : Nat) (w : World) (h : TysAt w (.slice a k c) l) :
    Calls Tryz.prog 53 #[.string n, .slice a k c] w fun e w' => (∃ u, e = .returned (tyV (.con n l) u) ∧ TysAt w' u l) ∧ Below w.heap.size w w' := by
  have H := Lib.hid h; clear h
  go_enter Tryz.func53, Tryz.ntmps53
  go_wp2
  refine bodyPost_ret (v := tyV (.con n l) (.slice a k c)) (by simp [results, Tryz.results53, go_sem, tyV, T.kind, T.name]) rfl ⟨⟨_, rfl, H.out.keep (keepT_alloc w _)⟩, (Below.refl _ w).alloc (Nat.le_refl _) _⟩

set_option maxHeartbeats 1000000 in
theorem fun2_any (x y : T) (a b : Option Addr) (c d : Nat) (w : World) (hx : TysAt w (.slice a x.kids.length c) x.kids) (hy : TysAt w (.slice b y.kids.length d) y.kids) :
    Calls Tryz.prog 54 #[tyV x (.slice a x.kids.length c), tyV y (.slice b y.kids.length d)] w fun e w' => (∃ u, e = .returned (tyV (.fn x y) u) ∧ TysAt w' u [x, y]) ∧ Below w.heap.size w w' := by
  have HX := Lib.hid (TyAt.mk x hx); clear hx
  have HY := Lib.hid (TyAt.mk y hy); clear hy
  simp only [tyV]
  go_enter Tryz.func54, Tryz.ntmps54
  go_wp2
  have k3 : ∀ o1 o2 o3 : Obj, KeepT w (((w.alloc o1).alloc o2).alloc o3) := fun o1 o2 o3 => ((keepT_alloc w o1).trans (keepT_alloc _ o2)).trans (keepT_alloc _ o3)
  refine bodyPost_ret (v := .agg #[.int .i64 3, .string ⟨#[]⟩, .slice (some ⟨w.heap.size + 1 + 1 + 1, 0, none⟩) 2 2]) (by simp [results, Tryz.results54, go_sem]) rfl ⟨⟨_, rfl, ?_⟩, ?_⟩
  · exact TysAt.two (by simp) (HX.out.keep (k3 _ _ _)) (HY.out.keep (k3 _ _ _))
  · exact ((((Below.refl _ w).alloc (Nat.le_refl _) _).alloc (by simp) _).alloc (by simp; omega) _).alloc (by simp; omega) _
end Go.Proofs.YtjnlchhikdfifaaGreatDoor
/- Whether two types are the same, part by part. -/
namespace Go.Proofs.YtjnlchhikdfifaaGreatDoor
open Go.RowKit
attribute [local go_sem] Oper.semAt_some

open Classical in
noncomputable def eqB {α : Type} (a b : α) : Bool := decide (a = b)
theorem eqB_true {α : Type} {a b : α} (h : a = b) : eqB a b = true := by simp [eqB, h]
theorem eqB_false {α : Type} {a b : α} (h : ¬ a = b) : eqB a b = false := by simp [eqB, h]
theorem eqB_iff {α : Type} {a b : α} : eqB a b = true ↔ a = b := by simp [eqB]
theorem T.ext_iff {t u : T} : t = u ↔ t.kind = u.kind ∧ t.name = u.name ∧ t.kids = u.kids := by
  cases t <;> cases u <;> simp [T.kind, T.name, T.kids]
theorem bytes_beq (a b : ByteArray) : (a.toList == b.toList) = eqB a b := by
  by_cases h : a = b
  · rw [eqB_true h, h]; simp
  · rw [eqB_false h]
    simp only [beq_eq_false_iff_ne, ne_eq]
    intro e
    apply h
    rw [Lib.toList_data, Lib.toList_data] at e
    cases a; cases b; simp_all

def SameOK (t : T) : Prop := ∀ (t' : T) (a b : Option Addr) (c d : Nat) (w : World), TysAt w (.slice a t.kids.length c) t.kids → TysAt w (.slice b t'.kids.length d) t'.kids →
    Calls Tryz.prog 35 #[tyV t (.slice a t.kids.length c), tyV t' (.slice b t'.kids.length d)] w fun e w' => e = .returned (.bool (eqB t t')) ∧ Below w.heap.size w w'

set_option maxHeartbeats 600000 in
theorem sameTypes_of (l l' : List T) (H : ∀ t ∈ l, SameOK t) (a b : Option Addr) (c d : Nat) (w : World) (h : TysAt w (.slice a l.length c) l) (h' : TysAt w (.slice b l'.length d) l') (hn : l.length < 1152921504606846976) :
    Calls Tryz.prog 62 #[.slice a l.length c, .slice b l'.length d] w fun e w' => e = .returned (.bool (eqB l l')) ∧ Below w.heap.size w w' := by
  by_cases hl : l.length = l'.length
  · by_cases h0 : l = []
    · subst h0
      obtain rfl : l' = [] := List.length_eq_zero_iff.1 hl.symm
      rw [eqB_true rfl]
      clear h h' H
      go_enter Tryz.func62, Tryz.ntmps62
      go_wp2
      go_loopw [5] (fun vi wr => vi = .int .i64 0 ∧ Hid (Below w.heap.size w wr)) (fun _ _ => 0)
      case atStart => exact ⟨rfl, Lib.hid (Below.refl _ _)⟩
      case round =>
        obtain ⟨rfl, hB⟩ := hrel
        go_wp2
        go_ret
        exact ⟨rfl, hB.out⟩
    · have h0' : l' ≠ [] := by intro e; rw [e] at hl; exact h0 (List.length_eq_zero_iff.1 hl)
      obtain ⟨g1, c1, e1, hg1, hc1, r1⟩ := h.row h0
      obtain ⟨g2, c2, e2, hg2, hc2, r2⟩ := h'.row h0'
      cases e1; cases e2
      have HR1 := Lib.hid r1; clear r1
      have HR2 := Lib.hid r2; clear r2
      have HS := Lib.hid H; clear H
      obtain ⟨res, hres⟩ : ∃ r, eqB l l' = r := ⟨_, rfl⟩
      have HRes := Lib.hid hres
      rw [hres]; clear hres h h'
      rw [← hl] at hc2 ⊢
      have HL := Lib.hid hl; clear hl
      have hm : ((l.length : Int) != (l.length : Int)) = false := by simp
      go_enter Tryz.func62, Tryz.ntmps62
      go_wp2
      go_loopw [5] (fun vi wr => ∃ i : Nat, i ≤ l.length ∧ vi = .int .i64 i ∧ Hid (Below w.heap.size w wr) ∧ Hid (∀ j (h1 : j < l.length) (h2 : j < l'.length), j < i → l[j] = l'[j])) (fun vi _ => l.length - (intOf vi).toNat)
      case atStart => exact ⟨0, Nat.zero_le _, rfl, Lib.hid (Below.refl _ _), Lib.hid (fun j _ _ h => absurd h (by omega))⟩
      case round =>
        obtain ⟨i, hi, rfl, hB, hS⟩ := hrel
        by_cases hlt : i < l.length
        · have hlt' : i < l'.length := HL.out ▸ hlt
          obtain ⟨pa, ca, x0, x1, x2, xk⟩ := HR1.out i hlt
          obtain ⟨pb, cb, y0, y1, y2, yk⟩ := HR2.out i hlt'
          have f1 := fun o => hB.out.cell (p := ⟨g1, o, none⟩) hg1
          have f2 := fun o => hB.out.cell (p := ⟨g2, o, none⟩) hg2
          rw [← f1] at x0 x1 x2; rw [← f2] at y0 y1 y2
          have hcall := HS.out l[i] (List.getElem_mem hlt) l'[i] pa pb ca cb
          have XK := Lib.hid xk; have YK := Lib.hid yk
          clear xk yk f1 f2
          have HE := Lib.hid (show l[i] = l[i] ∧ l'[i] = l'[i] from ⟨rfl, rfl⟩)
          obtain ⟨t, ht⟩ : ∃ t, l[i] = t := ⟨_, rfl⟩
          obtain ⟨u, hu⟩ : ∃ u, l'[i] = u := ⟨_, rfl⟩
          have HT := Lib.hid ht; have HU := Lib.hid hu
          rw [ht] at x0 x1 x2 hcall XK
          rw [hu] at y0 y1 y2 hcall YK
          simp only [tyV] at hcall
          clear ht hu HE
          have HC := Lib.hid (fun W (k : KeepT w W) => hcall W (XK.out.keep k) (YK.out.keep k)); clear hcall
          have HK : Hid (KeepT w wr.drew) := Lib.hid (fun k cs fz h => KeepT.of_below hB.out k cs fz h)
          go_wp2
          by_cases hq : t = u
          · rw [eqB_true hq] at HC
            have HQ := Lib.hid hq; clear hq
            go_region_with (first
              | (go_at_call 35; refine (HC.out _ ?kk).mono ?_; (case kk => exact HK.out); rintro e w2 ⟨rfl, hb2⟩; have HB2 := Lib.hid hb2; clear hb2))
            all_goals go_wp2
            all_goals
              go_roundw
              case rel => exact ⟨i + 1, by omega, by go_num, Lib.hid (hB.out.drew.trans (HB2.out.mono hB.out.size)), Lib.hid (fun j h1 h2 hj => by
                by_cases hji : j = i
                · subst hji; rw [HT.out, HU.out]; exact HQ.out
                · exact hS.out j h1 h2 (by omega))⟩
              case measure => simp [intOf]; omega
          · rw [eqB_false hq] at HC
            have hres : res = false := by
              rw [← HRes.out]
              refine eqB_false fun e => hq ?_
              rw [← HT.out, ← HU.out]
              exact List.getElem_of_eq e hlt
            clear HT HU HRes hq
            subst hres
            go_region_with (first
              | (go_at_call 35; refine (HC.out _ ?kk).mono ?_; (case kk => exact HK.out); rintro e w2 ⟨rfl, hb2⟩; have HB2 := Lib.hid hb2; clear hb2))
            all_goals go_wp2
            all_goals go_ret
            all_goals exact ⟨rfl, hB.out.drew.trans (HB2.out.mono hB.out.size)⟩
        · obtain rfl : i = l.length := by omega
          have hres : res = true := by
            rw [← HRes.out]
            exact eqB_true (List.ext_getElem HL.out (fun j h1 h2 => hS.out j h1 h2 h1))
          clear HRes
          subst hres
          go_wp2
          go_ret
          exact ⟨rfl, hB.out⟩
  · have hm : ((l.length : Int) != (l'.length : Int)) = true := by simp; omega
    rw [eqB_false (fun e => hl (by rw [e]))]
    clear h h' H
    go_enter Tryz.func62, Tryz.ntmps62
    go_wp2
    go_ret
    exact ⟨rfl, Below.refl _ _⟩

set_option maxHeartbeats 1000000 in
theorem sameType_step (t : T) (H : ∀ k ∈ t.kids, SameOK k) (hn : t.kids.length < 1152921504606846976) : SameOK t := by
  intro t' a b c d w h h'
  have HC := Lib.hid (fun (W : World) (k : KeepT w W) => sameTypes_of t.kids t'.kids H a b c d W (h.keep k) (h'.keep k) hn)
  have e0 : (t.kind == t'.kind) = eqB t.kind t'.kind := by
    by_cases e : t.kind = t'.kind
    · rw [eqB_true e]; simpa using e
    · rw [eqB_false e]; simpa using e
  have e1 := bytes_beq t.name t'.name
  have HX := Lib.hid (@T.ext_iff t t')
  clear H hn h h'
  have hz : ∀ o1 o2 : Obj, KeepT w ((w.alloc o1).alloc o2) := fun o1 o2 => (keepT_alloc w o1).trans (keepT_alloc _ o2)
  have hb : ∀ o1 o2 : Obj, Below w.heap.size w ((w.alloc o1).alloc o2) := fun o1 o2 => ((Below.refl _ w).alloc (Nat.le_refl _) _).alloc (by simp) _
  have HZ := Lib.hid hz; have HB := Lib.hid hb
  clear hz hb
  obtain ⟨res, hres⟩ : ∃ r, eqB t t' = r := ⟨_, rfl⟩
  have HR := Lib.hid hres
  rw [hres]; clear hres
  simp only [tyV]
  by_cases hk : t.kind = t'.kind
  · rw [eqB_true hk] at e0
    have HK := Lib.hid hk; clear hk
    by_cases hm : t.name = t'.name
    · rw [eqB_true hm] at e1
      have HM := Lib.hid hm; clear hm
      go_enter Tryz.func35, Tryz.ntmps35
      go_wp2_with (go_at_call 62; refine (HC.out _ ?kk).mono ?_; (case kk => exact HZ.out _ _); rintro e w2 ⟨rfl, hb2⟩; have HB2 := Lib.hid hb2; clear hb2)
      go_ret
      refine ⟨?_, (HB.out _ _).trans (HB2.out.mono (by simp; omega))⟩
      rw [← HR.out]
      by_cases hq : t.kids = t'.kids
      · rw [eqB_true hq, eqB_true (HX.out.2 ⟨HK.out, HM.out, hq⟩)]
        rfl
      · rw [eqB_false hq, eqB_false (fun e => hq (HX.out.1 e).2.2)]
        rfl
    · rw [eqB_false hm] at e1
      have hr : res = false := by rw [← HR.out]; exact eqB_false (fun e => hm (HX.out.1 e).2.1)
      subst hr
      clear HR hm
      go_enter Tryz.func35, Tryz.ntmps35
      go_wp2_with (first | fail)
      go_ret
      exact ⟨rfl, HB.out _ _⟩
  · rw [eqB_false hk] at e0
    have hr : res = false := by rw [← HR.out]; exact eqB_false (fun e => hk (HX.out.1 e).1)
    subst hr
    clear HR hk
    go_enter Tryz.func35, Tryz.ntmps35
    go_wp2_with (first | fail)
    go_ret
    exact ⟨rfl, HB.out _ _⟩

/-- No list of parts is longer than any memory. -/
inductive Fits : T → Prop
  | mk (t : T) : t.kids.length < 1152921504606846976 → (∀ k, k ∈ t.kids → Fits k) → Fits t
theorem Fits.len {t : T} (h : Fits t) : t.kids.length < 1152921504606846976 := by cases h; assumption
theorem Fits.kid {t k : T} (h : Fits t) (hk : k ∈ t.kids) : Fits k := by cases h with | mk _ _ h => exact h k hk
theorem sameType_ok {t : T} (h : Fits t) : SameOK t := by
  induction h with
  | mk t h1 _ ih => exact sameType_step t ih h1
theorem sameType_any {t t' : T} {v v' : Value} {w : World} (hf : Fits t) (h : TysAt w v t.kids) (h' : TysAt w v' t'.kids) :
    Calls Tryz.prog 35 #[tyV t v, tyV t' v'] w fun e w' => e = .returned (.bool (eqB t t')) ∧ Below w.heap.size w w' := by
  obtain ⟨a, c, rfl⟩ := h.shape
  obtain ⟨b, d, rfl⟩ := h'.shape
  exact sameType_ok hf t' a b c d w h h'
end Go.Proofs.YtjnlchhikdfifaaGreatDoor
/- The free variables of a type: the finder's map and its row of names. -/
namespace Go.Proofs.YtjnlchhikdfifaaGreatDoor
open Go.RowKit Go.Maps
attribute [local go_sem] Oper.semAt_some

/-- How often a name is hidden. -/
noncomputable def inB (l : List ByteArray) (n : ByteArray) : Bool := l.any (fun x => eqB x n)
noncomputable def cntB (l : List ByteArray) (n : ByteArray) : Nat := (l.filter (fun x => eqB x n)).length
noncomputable def cnt (bd out : List ByteArray) (n : ByteArray) : Int := (cntB bd n : Int) + (if inB out n then 1 else 0)
theorem inB_iff {l : List ByteArray} {n : ByteArray} : inB l n = true ↔ n ∈ l := by
  simp only [inB, List.any_eq_true, eqB_iff]
  constructor
  · rintro ⟨x, hx, rfl⟩; exact hx
  · intro h; exact ⟨n, h, rfl⟩
theorem cntB_zero {l : List ByteArray} {n : ByteArray} : cntB l n = 0 ↔ ¬ n ∈ l := by
  simp only [cntB, List.length_eq_zero_iff, List.filter_eq_nil_iff, eqB_iff]
  constructor
  · intro h hn; exact h n hn rfl
  · rintro h x hx rfl; exact h hx
theorem cntB_le (l : List ByteArray) (n : ByteArray) : cntB l n ≤ l.length := List.length_filter_le _ _
theorem cnt_zero {bd out : List ByteArray} {n : ByteArray} : cnt bd out n = 0 ↔ ¬ (n ∈ bd ∨ n ∈ out) := by
  unfold cnt
  by_cases h : inB out n = true
  · have := inB_iff.1 h
    rw [if_pos h]
    constructor
    · intro e; omega
    · intro e; exact absurd (.inr this) e
  · have h' : ¬ n ∈ out := fun e => h (inB_iff.2 e)
    rw [if_neg h]
    constructor
    · intro e k
      rcases k with k | k
      · exact cntB_zero.1 (by omega) k
      · exact h' k
    · intro e
      have := cntB_zero.2 (fun k => e (.inl k))
      omega
theorem cnt_le (bd out : List ByteArray) (n : ByteArray) : 0 ≤ cnt bd out n ∧ cnt bd out n ≤ bd.length + 1 := by
  have := cntB_le bd n
  unfold cnt
  split <;> omega
theorem cnt_bind (bd out : List ByteArray) (n m : ByteArray) : cnt (n :: bd) out m = if m = n then cnt bd out n + 1 else cnt bd out m := by
  unfold cnt cntB
  by_cases h : m = n
  · subst h
    rw [if_pos rfl, List.filter_cons, if_pos (eqB_true rfl)]
    simp only [List.length_cons]
    omega
  · rw [if_neg h, List.filter_cons, if_neg (by rw [eqB_false (fun e => h e.symm)]; decide)]
theorem cnt_told {bd out : List ByteArray} {n : ByteArray} (hn : ¬ n ∈ out) (m : ByteArray) : cnt bd (out ++ [n]) m = if m = n then cnt bd out n + 1 else cnt bd out m := by
  unfold cnt
  have e : inB (out ++ [n]) m = (inB out m || eqB n m) := by simp [inB]
  rw [e]
  by_cases h : m = n
  · subst h
    have h1 : inB out m = false := by
      cases hb : inB out m with
      | false => rfl
      | true => exact absurd (inB_iff.1 hb) hn
    rw [if_pos rfl, h1, eqB_true rfl]
    simp
  · rw [if_neg h, eqB_false (fun e => h e.symm)]
    simp

theorem strLaw : Keyed Tryz.prog 9 := string_keyed Tryz.underlying9
theorem zeroInt (w : World) : (zeroValue 3).run Tryz.prog w = .ok (.int .i64 0) w := by kernel_rfl

/-- Block M is a map of at most m entries, which tells f. -/
def MapFn (M m : Nat) (f : ByteArray → Int) (w : World) : Prop := ∃ D : DataW Unit, IsMap D ∧ w.ownsMap Tryz.prog 9 (plainElem Tryz.prog 3) M m D ∧
  ∀ n : ByteArray, n.size ≤ maxLen → D.atKey (.string n.data.toList) (.lit (.int .i64 0)) = .lit (.int .i64 (f n))
theorem MapFn.look {M m : Nat} {f : ByteArray → Int} {w : World} (h : MapFn M m f w) (n : ByteArray) (hn : n.size ≤ maxLen) :
    (Instr.lookup 107 (.map (some M)) (.string n) false).run Tryz.prog w = .ok (.int .i64 (f n)) w := by
  obtain ⟨D, _, h1, h2⟩ := h
  obtain ⟨c, hrun, hat, _⟩ := h1.lookup_int strLaw Tryz.underlying107 Tryz.underlying3 (zeroInt w) (Go.WideMaps.keyOf_string_mk Tryz.underlying9 hn)
  rw [h2 n hn] at hat
  cases hat
  exact hrun
theorem MapFn.upd {M m : Nat} {f : ByteArray → Int} {w : World} (h : MapFn M m f w) (hm : m < maxLen) (n : ByteArray) (hn : n.size ≤ maxLen) (x : Int) (hx : (Lit.int .i64 x).wf = true) :
    ∃ w', (Instr.mapUpdate 107 (.map (some M)) (.string n) (.int .i64 x)).run Tryz.prog w = .ok () w' ∧ MapFn M (m + 1) (fun k => if k = n then x else f k) w' ∧ w.grownBy w' (some M) := by
  obtain ⟨D, hD, h1, h2⟩ := h
  obtain ⟨w', hrun, h3, h4⟩ := h1.update strLaw Tryz.underlying107 hm (Go.WideMaps.keyOf_string_mk Tryz.underlying9 hn) (plainElem_int Tryz.underlying3 hx)
  refine ⟨w', hrun, ⟨_, hD.put _ _, h3, fun k hk => ?_⟩, h4⟩
  by_cases e : k = n
  · subst e
    simp only [if_true]
    rw [atKey_put_same hD (by trivial)]
  · simp only [if_neg e]
    rw [atKey_put_other ?_, h2 k hk]
    intro e'
    apply e
    have : k.data.toList = n.data.toList := by injection e'
    cases k; cases n; simp_all
theorem MapFn.kept {M m : Nat} {f : ByteArray → Int} {w w' : World} {row : Option Nat} (h : MapFn M m f w) (hg : w.grownBy w' row) (hne : some M ≠ row) : MapFn M m f w' := by
  obtain ⟨D, hD, h1, h2⟩ := h
  exact ⟨D, hD, h1.kept hg hne, h2⟩
theorem MapFn.congr {M m : Nat} {f g : ByteArray → Int} {w : World} (h : MapFn M m f w) (e : ∀ n, f n = g n) : MapFn M m g w := by
  have : f = g := funext e
  subst this; exact h

theorem Tryz.infoStr : (Tryz.prog.info? 9).map (fun i => (i.zero, i.size, i.bytes)) = some (some (.string ⟨#[]⟩), 1, 16) := by kernel_rfl
/-- The finder at block p: its map tells f, its names. -/
structure FindAt (B p M K : Nat) (f : ByteArray → Int) (out : List ByteArray) (w : World) : Prop where
  bp : B ≤ p
  bm : B ≤ M
  fin : ∃ v, w.heap[p]? = some (.cells #[.map (some M), v] 109 (0, 0)) ∧ w.ownsRow B 9 1 v out.length (out.map Value.string)
  map : ∃ m, m ≤ K ∧ MapFn M m f w
theorem row_kept {w w' : World} {base : Nat} {e : TypeId} {size : Nat} {v : Value} {n : Nat} {xs : List Value} (h : w.ownsRow base e size v n xs) (hk : ∀ (k : Nat) (cs : Array Value) (fz : Nat × Nat), w.heap[k]? = some (.cells cs e fz) → w'.heap[k]? = some (.cells cs e fz)) : w'.ownsRow base e size v n xs := by
  refine ⟨h.1, ?_⟩
  rcases h.2 with h | ⟨g, cap, cur, rfl, hb, hg, r⟩
  · exact .inl h
  · exact .inr ⟨g, cap, cur, rfl, hb, hk g _ _ hg, r⟩
theorem MapFn.drewN {M m : Nat} {f : ByteArray → Int} {w : World} (h : MapFn M m f w) (n : Nat) : MapFn M m f (w.drewN n) := h.kept (row := none) ⟨rfl, rfl, rfl, Nat.le_refl _, fun _ _ _ => rfl⟩ (by simp)
theorem row_slice {W : World} {base : Nat} {e : TypeId} {size : Nat} {v : Value} {n : Nat} {xs : List Value} (h : W.ownsRow base e size v n xs) : ∃ a c, v = .slice a n c := by
  rcases h.2 with ⟨rfl, rfl⟩ | ⟨g, cap, _, rfl, _⟩
  · exact ⟨_, _, rfl⟩
  · exact ⟨_, _, rfl⟩
theorem row_other {w w1 : World} {base : Nat} {e T : TypeId} {size : Nat} {v : Value} {n k : Nat} {xs : List Value} {cs : Array Value} {fz : Nat × Nat} (h : w.ownsRow base e size v n xs) (hg : w.grownBy w1 v.ownBlock) (hk : w.heap[k]? = some (.cells cs T fz)) (hT : T ≠ e) : w1.heap[k]? = some (.cells cs T fz) := by
  refine (hg.block k (Array.getElem?_eq_some_iff.1 hk).1 fun e => ?_).trans hk
  rcases h.2 with ⟨rfl, _⟩ | ⟨g, cap, cur, rfl, _, hgb, _⟩
  · cases e
  · obtain rfl : k = g := by simpa [Value.ownBlock] using e
    rw [hk] at hgb
    cases hgb
    exact hT rfl
theorem new_one (w : World) (x : Value) (t : TypeId) : ∀ j u, [x][j]? = some u → (w.alloc (.cells #[x] t)).cell? ((⟨w.heap.size, 0, none⟩ : Addr).add j) = some u := by
  intro j u hu
  have hadd : (⟨w.heap.size, 0, none⟩ : Addr).add j = ⟨w.heap.size, j, none⟩ := by unfold Addr.add; split <;> simp_all
  rw [hadd]
  have := alloc_new w (.cells #[x] t)
  simp only [World.cell?, this]
  match j, hu with
  | 0, hu => simpa using hu
  | n + 1, hu => simp at hu
theorem FindAt.below {B p M K : Nat} {f : ByteArray → Int} {out : List ByteArray} {w w' : World} (h : FindAt B p M K f out w) (hb : Below w.heap.size w w') : FindAt B p M K f out w' := by
  obtain ⟨h1, h2, ⟨v, h3, h4⟩, ⟨m, h5, h6⟩⟩ := h
  refine ⟨h1, h2, ⟨v, (hb.block p (Array.getElem?_eq_some_iff.1 h3).1).trans h3, row_kept h4 fun k cs fz hk => (hb.block k (Array.getElem?_eq_some_iff.1 hk).1).trans hk⟩, ⟨m, h5, h6.kept (row := none) ⟨hb.os, hb.tape, hb.output, hb.size, fun k hk _ => hb.block k hk⟩ (by simp)⟩⟩
theorem FindAt.alloc {B p M K : Nat} {f : ByteArray → Int} {out : List ByteArray} {w : World} (h : FindAt B p M K f out w) (o : Obj) : FindAt B p M K f out (w.alloc o) := h.below ((Below.refl _ w).alloc (Nat.le_refl _) o)
theorem FindAt.drewN {B p M K : Nat} {f : ByteArray → Int} {out : List ByteArray} {w : World} (h : FindAt B p M K f out w) (n : Nat) : FindAt B p M K f out (w.drewN n) := h.below (below_drewN (Below.refl _ _) _)
theorem FindAt.lt {B p M K : Nat} {f : ByteArray → Int} {out : List ByteArray} {w : World} (h : FindAt B p M K f out w) : p < w.heap.size ∧ M < w.heap.size := by
  obtain ⟨_, _, ⟨v, h3, _⟩, ⟨m, _, ⟨D, _, h6, _⟩⟩⟩ := h
  exact ⟨(Array.getElem?_eq_some_iff.1 h3).1, h6.lt⟩
theorem FindAt.mono {B p M K K' : Nat} {f : ByteArray → Int} {out : List ByteArray} {w : World} (h : FindAt B p M K f out w) (hK : K ≤ K') : FindAt B p M K' f out w := by
  obtain ⟨h1, h2, h3, ⟨m, h5, h6⟩⟩ := h
  exact ⟨h1, h2, h3, m, Nat.le_trans h5 hK, h6⟩
theorem FindAt.look {B p M K : Nat} {f : ByteArray → Int} {out : List ByteArray} {w : World} (h : FindAt B p M K f out w) (n : ByteArray) (hn : n.size ≤ 1000) :
    (Instr.lookup 107 (.map (some M)) (.string n) false).run Tryz.prog w = .ok (.int .i64 (f n)) w := by
  obtain ⟨_, _, _, ⟨m, _, h6⟩⟩ := h
  exact h6.look n (by unfold maxLen; omega)
theorem FindAt.c0 {B p M K : Nat} {f : ByteArray → Int} {out : List ByteArray} {w : World} (h : FindAt B p M K f out w) : w.cell? ⟨p, 0, none⟩ = some (.map (some M)) := by
  obtain ⟨_, _, ⟨v, h3, _⟩, _⟩ := h
  rw [Lib.cell_of_heap h3]; rfl
/-- A store into the map. -/
theorem FindAt.put {B p M K : Nat} {f g : ByteArray → Int} {out : List ByteArray} {w : World} (h : FindAt B p M K f out w) (hK : K < 2000000000) (n : ByteArray) (hn : n.size ≤ 1000) (x : Int) (hx : 0 ≤ x ∧ x ≤ 4000000000) (hf : ∀ m, (if m = n then x else f m) = g m) :
    ∃ w', (Instr.mapUpdate 107 (.map (some M)) (.string n) (.int .i64 x)).run Tryz.prog w = .ok () w' ∧ FindAt B p M (K + 1) g out w' ∧ (∀ (k : Nat) (cs : Array Value) (T : TypeId) (fz : Nat × Nat), w.heap[k]? = some (.cells cs T fz) → w'.heap[k]? = some (.cells cs T fz)) ∧ Below B w w' := by
  have hlt := h.lt
  obtain ⟨h1, h2, ⟨v, h3, h4⟩, ⟨m, h5, h6⟩⟩ := h
  obtain ⟨w', r1, r2, r3⟩ := h6.upd (by unfold maxLen; omega) n (by unfold maxLen; omega) x (WalkArith.wf_i64 (by omega))
  have hM : ∀ (k : Nat) (cs : Array Value) (T : TypeId) (fz : Nat × Nat), w.heap[k]? = some (.cells cs T fz) → w'.heap[k]? = some (.cells cs T fz) := fun k cs T fz hk => by
    refine (r3.block k (Array.getElem?_eq_some_iff.1 hk).1 fun e => ?_).trans hk
    cases e
    obtain ⟨D, _, ⟨es, clock, hh, _⟩, _⟩ := h6
    rw [hk] at hh; cases hh
  refine ⟨w', r1, ⟨h1, h2, ⟨v, hM _ _ _ _ h3, row_kept h4 fun k cs fz hk => hM _ _ _ _ hk⟩, ⟨m + 1, by omega, r2.congr hf⟩⟩, hM, ?_⟩
  exact ⟨r3.os, r3.tape, r3.output, r3.size, fun k hk => r3.block k (by omega) fun e => by cases e; omega⟩
/-- A name appended. -/
theorem FindAt.told {B p M K : Nat} {f : ByteArray → Int} {out : List ByteArray} {w w1 : World} {v v' : Value} {n : ByteArray} (h : FindAt B p M K f out w) (hv : w.heap[p]? = some (.cells #[.map (some M), v] 109 (0, 0))) (hown : w.ownsRow B 9 1 v out.length (out.map Value.string))
    (hown' : w1.ownsRow B 9 1 v' (out.length + 1) (out.map Value.string ++ [.string n])) (hg : w.grownBy w1 v.ownBlock) :
    FindAt B p M K f (out ++ [n]) (w1.setCell ⟨p, 1, none⟩ v') ∧ KeepT w (w1.setCell ⟨p, 1, none⟩ v') ∧ Below B w (w1.setCell ⟨p, 1, none⟩ v') := by
  have hlt := h.lt
  obtain ⟨h1, h2, _, ⟨m, h5, h6⟩⟩ := h
  have hne : ∀ (k : Nat) (o : Obj), w.heap[k]? = some o → (∀ cs fz, o ≠ .cells cs 9 fz) → w1.heap[k]? = some o := fun k o hk hT => by
    refine (hg.block k (Array.getElem?_eq_some_iff.1 hk).1 fun e => ?_).trans hk
    rcases hown.2 with ⟨rfl, _⟩ | ⟨g, cap, cur, rfl, _, hgb, _⟩
    · cases e
    · obtain rfl : k = g := by simpa [Value.ownBlock] using e
      rw [hk] at hgb
      cases hgb
      exact hT _ _ rfl
  have hp1 := hne p _ hv (fun cs fz e => by cases e)
  have hset : (w1.setCell ⟨p, 1, none⟩ v').heap[p]? = some (.cells #[.map (some M), v'] 109 (0, 0)) := by
    obtain ⟨hl, hk⟩ := Array.getElem?_eq_some_iff.1 hp1
    show (w1.heap.modify p _)[p]? = _
    rw [Array.getElem?_eq_getElem (by rw [Array.size_modify]; exact hl), Array.getElem_modify_self, hk]
    rfl
  have hoth : ∀ k, k ≠ p → (w1.setCell ⟨p, 1, none⟩ v').heap[k]? = w1.heap[k]? := fun k hk => Below.heap_setCell _ ⟨p, 1, none⟩ _ k hk
  refine ⟨⟨h1, h2, ⟨v', hset, ?_⟩, ⟨m, h5, ?_⟩⟩, ?_, ?_⟩
  · have : (out ++ [n]).map Value.string = out.map Value.string ++ [.string n] := by simp
    rw [this, List.length_append]
    refine row_kept hown' fun k cs fz hk => ?_
    by_cases e : k = p
    · subst e; rw [hp1] at hk; cases hk
    · exact (hoth k e).trans hk
  · obtain ⟨D, hD, ⟨es, clock, hh, r⟩, h2⟩ := h6
    have hMp : M ≠ p := fun e => by rw [e, hv] at hh; cases hh
    exact ⟨D, hD, ⟨es, clock, (hoth M hMp).trans (hne M _ hh (fun cs fz e => by cases e)), r⟩, h2⟩
  · intro k cs fz hk
    have : k ≠ p := fun e => by rw [e, hv] at hk; cases hk
    exact (hoth k this).trans (hne k _ hk (fun cs fz e => by cases e))
  · have hb : Below B w w1 := ⟨hg.os, hg.tape, hg.output, hg.size, fun k hk => hg.block k (by omega) fun e => by have := (hown.lt k e.symm).1; omega⟩
    exact hb.setCell (p := ⟨p, 1, none⟩) h1 _

theorem with_worldC {P : Program} {c : Code} {Q : Exit → Act → World → Prop} {a : Act} {w : World} (S : World → Prop) (h : S w) (k : ∀ W, S W → Code.wp P c Q a W) : Code.wp P c Q a w := k w h
def LookOK (t : T) : Prop := ∀ (B p M K : Nat) (bd out : List ByteArray) (a : Option Addr) (c : Nat) (w : World), FindAt B p M K (cnt bd out) out w → TysAt w (.slice a t.kids.length c) t.kids →
    K + 2 * tsize t ≤ 1000000000 → bd.length + tsize t ≤ 1000000000 → out.length + tsize t ≤ 1000000000 →
    Calls Tryz.prog 77 #[.pointer (some ⟨p, 0, none⟩), tyV t (.slice a t.kids.length c)] w fun e w' => e = .returned (.tuple #[]) ∧ FindAt B p M (K + 2 * tsize t) (cnt bd (fv bd out t)) (fv bd out t) w' ∧ KeepT w w' ∧ Below B w w'

/-- Names that are no longer than any here. -/
inductive Nm : T → Prop
  | mk (t : T) : t.name.size ≤ 1000 → (∀ k ∈ t.kids, Nm k) → Nm t

set_option maxHeartbeats 2000000 in
theorem look_seen (t : T) (hk : t.kind = 1) (h0 : t.kids = []) (hs : t.name.size ≤ 1000) (B p M K : Nat) (f : ByteArray → Int) (out : List ByteArray) (a : Option Addr) (c : Nat) (w : World) (hB : B ≤ w.heap.size) (h : FindAt B p M K f out w) (hc : ¬ f t.name = 0) :
    Calls Tryz.prog 77 #[.pointer (some ⟨p, 0, none⟩), tyV t (.slice a t.kids.length c)] w fun e w' => e = .returned (.tuple #[]) ∧ FindAt B p M K f out w' ∧ KeepT w w' ∧ Below B w w' := by
  have hl : t.kids.length = 0 := by rw [h0]; rfl
  rw [hl]
  simp only [tyV, hk]
  obtain ⟨hp, hM⟩ := h.lt
  have HF := Lib.hid h
  have hlk : ∀ (o : Obj) (n : Nat), (Instr.lookup 107 (.map (some M)) (.string t.name) false).run Tryz.prog ((w.alloc o).drewN n) = .ok (.int .i64 (f t.name)) ((w.alloc o).drewN n) := fun o n => ((h.alloc o).drewN n).look t.name hs
  have c0 := h.c0
  have hz : (f t.name == 0) = false := by simpa using hc
  have HE : Hid (∀ (o : Obj) (n : Nat), FindAt B p M K f out ((w.alloc o).drewN n) ∧ KeepT w ((w.alloc o).drewN n) ∧ Below B w ((w.alloc o).drewN n)) := Lib.hid fun o n => ⟨(h.alloc o).drewN n, fun k cs fz hk => keepT_alloc w o k cs fz hk, below_drewN ((Below.refl B w).alloc hB o) n⟩
  clear h hl hk h0 hc
  generalize f t.name = q at *
  go_enter Tryz.func77, Tryz.ntmps77
  go_wp2
  go_quiet (fail)
  go_wp2
  refine wp_loop_rounds 1 ?_
  rw [rounds_succ]; go_wp2
  go_end0
  exact ⟨rfl, HE.out _ _⟩

set_option maxHeartbeats 2000000 in
theorem look_told (t : T) (hk : t.kind = 1) (h0 : t.kids = []) (hs : t.name.size ≤ 1000) (B p M K : Nat) (f g : ByteArray → Int) (out : List ByteArray) (a : Option Addr) (c : Nat) (w : World) (hB : B ≤ w.heap.size) (h : FindAt B p M K f out w) (hc : f t.name = 0) (hK : K < 2000000000) (ho : out.length < 1000000000)
    (hg : ∀ m, (if m = t.name then 1 else f m) = g m) :
    Calls Tryz.prog 77 #[.pointer (some ⟨p, 0, none⟩), tyV t (.slice a t.kids.length c)] w fun e w' => e = .returned (.tuple #[]) ∧ FindAt B p M (K + 1) g (out ++ [t.name]) w' ∧ KeepT w w' ∧ Below B w w' := by
  have hl : t.kids.length = 0 := by rw [h0]; rfl
  rw [hl]
  simp only [tyV, hk]
  obtain ⟨hp, hM⟩ := h.lt
  have hlk : ∀ (o : Obj) (n : Nat), (Instr.lookup 107 (.map (some M)) (.string t.name) false).run Tryz.prog ((w.alloc o).drewN n) = .ok (.int .i64 0) ((w.alloc o).drewN n) := fun o n => by rw [← hc]; exact ((h.alloc o).drewN n).look t.name hs
  have c0 := h.c0
  have HE : Hid (∀ (o : Obj) (n : Nat), FindAt B p M K f out ((w.alloc o).drewN n) ∧ KeepT w ((w.alloc o).drewN n) ∧ Below B w ((w.alloc o).drewN n)) := Lib.hid fun o n => ⟨(h.alloc o).drewN n, fun k cs fz hk => keepT_alloc w o k cs fz hk, below_drewN ((Below.refl B w).alloc hB o) n⟩
  have HC := Lib.hid hc
  have HS := Lib.hid hs
  have HG := Lib.hid hg
  clear h hl hk h0 hc hg
  go_enter Tryz.func77, Tryz.ntmps77
  go_wp2
  go_quiet (fail)
  clear hlk c0
  go_wp2
  refine with_worldC (fun V => (FindAt B p M K f out V ∧ KeepT w V ∧ Below B w V) ∧ V.heap[w.heap.size]? = some (.cells #[.int .i64 1, .string t.name, .slice a 0 c] 31 (0, 0))) ⟨HE.out _ _, alloc_new w _⟩ ?_
  rintro V ⟨⟨hF, hKT, hBl⟩, hbox⟩
  obtain ⟨z0, z1, z2⟩ := three_cells hbox
  have c0 := hF.c0
  have hFd : FindAt B p M K f out V.drew := hF.drewN 1
  have hlk : (Instr.lookup 107 (.map (some M)) (.string t.name) false).run Tryz.prog V.drew = .ok (.int .i64 0) V.drew := by rw [← HC.out]; exact hFd.look t.name HS.out
  obtain ⟨V1, hup, hF1, hT1, hB1⟩ := hFd.put (g := g) hK t.name HS.out 1 (by omega) HG.out
  have HR := Lib.hid (⟨hKT, hBl, hF1, hT1, hB1⟩ : KeepT w V ∧ Below B w V ∧ FindAt B p M (K + 1) g out V1 ∧ (∀ (k : Nat) (cs : Array Value) (T : TypeId) (fz : Nat × Nat), V.drew.heap[k]? = some (.cells cs T fz) → V1.heap[k]? = some (.cells cs T fz)) ∧ Below B V.drew V1)
  have hbox1 := Lib.hid (hT1 _ _ _ _ hbox)
  clear hF hFd hKT hBl hF1 hT1 hB1 hbox
  go_region
  go_wp2
  obtain ⟨hKT, hBl, hF1, hT1, hB1⟩ := HR.out
  obtain ⟨v, hv, hown⟩ := hF1.fin
  obtain ⟨a1, cap1, rfl⟩ := row_slice hown
  have y0 : V1.cell? ⟨p, 1, none⟩ = some (.slice a1 out.length cap1) := by rw [Lib.cell_of_heap hv]; rfl
  obtain ⟨x0, x1, x2⟩ := three_cells hbox1.out
  have al : Hid (∀ (q : Addr) (x : Value) (o : Obj), V1.cell? q = some x → (V1.alloc o).cell? q = some x) := Lib.hid fun q x o h => (((Below.refl V1.heap.size V1).alloc (Nat.le_refl _) o).cell (World.block_lt_of_cell? _ _ h)).trans h
  have HO := Lib.hid (show ∀ o : Obj, (V1.drew.alloc o).ownsRow B 9 1 (.slice a1 out.length cap1) out.length (out.map Value.string) from fun o => row_kept hown fun k cs fz hk => (Below.heap_alloc V1.drew o k (Array.getElem?_eq_some_iff.1 hk).1).trans hk)
  have hlt1 : B ≤ V1.heap.size := Nat.le_trans hB (by have h1 := hBl.size; have h2 := hB1.size; simp at h2; omega)
  have HT := Lib.hid (fun (o : Obj) (w1 : World) (v' : Value) h1 h2 => ((hF1.drewN 1).alloc o).told (w1 := w1) (v' := v') (n := t.name) ((Below.heap_alloc V1.drew o p (Array.getElem?_eq_some_iff.1 hv).1).trans hv) (HO.out o) h1 h2)
  have HFr := Lib.hid (show ∀ (o : Obj) (w1 : World), (V1.drew.alloc o).grownBy w1 (Value.slice a1 out.length cap1).ownBlock → w1.heap[p]? = some (.cells #[.map (some M), .slice a1 out.length cap1] 109 (0, 0)) ∧ w1.heap[w.heap.size]? = some (.cells #[.int .i64 1, .string t.name, .slice a 0 c] 31 (0, 0)) from fun o w1 hg =>
    ⟨row_other (HO.out o) hg ((Below.heap_alloc V1.drew o p (Array.getElem?_eq_some_iff.1 hv).1).trans hv) (by decide), row_other (HO.out o) hg ((Below.heap_alloc V1.drew o _ (Array.getElem?_eq_some_iff.1 hbox1.out).1).trans hbox1.out) (by decide)⟩)
  obtain ⟨i0, hi, hz0, hz1, hz2⟩ := info_parts Tryz.infoStr
  have hgv : w.heap.size < V1.heap.size := (Array.getElem?_eq_some_iff.1 hbox1.out).1
  have hpv : p < V1.heap.size := (Array.getElem?_eq_some_iff.1 hv).1
  clear hown hv hF1 hT1 hB1 z0 z1 z2 c0 hup hlk
  go_region_law ((refine step_append_lies _ (by rfl) _ _ 23 (by rfl) B 9 i0 (.string ⟨#[]⟩) 1 16 Tryz.underlying23 hi hz0 hz1 hz2 rfl (by decide) _ out.length (out.map Value.string) (by rfl) (HO.out _) ⟨V1.heap.size, 0, none⟩ 1 1 [.string t.name] (by rfl) rfl (new_one _ _ _) (by simp [Value.oneCell']) (by decide) (by unfold maxLen; omega) (by omega) (by simp; omega) (V1.heap.size + 1) (by simp) ?_; intro g' cap' w1 hown1 hgrow hat hlt'; obtain ⟨hb1, hb2⟩ := HFr.out _ _ hgrow; have u0 : w1.cell? ⟨p, 1, none⟩ = some (.slice a1 out.length cap1) := (by rw [Lib.cell_of_heap hb1]; rfl); have u1 : w1.cell? ⟨w.heap.size, 1, none⟩ = some (.string t.name) := (by rw [Lib.cell_of_heap hb2]; rfl); have u2 := Lib.frozen_of_heap hb1 1; have u4 : w1.cell? ⟨w.heap.size, 0, none⟩ = some (.int .i64 1) := (by rw [Lib.cell_of_heap hb2]; rfl); have u5 : w1.cell? ⟨w.heap.size, 2, none⟩ = some (.slice a 0 c) := (by rw [Lib.cell_of_heap hb2]; rfl); have u3 : ∀ y : Value, (w1.setCell ⟨p, 1, none⟩ y).cell? ⟨w.heap.size, 1, none⟩ = some (.string t.name) := (fun y => (World.cell?_of_block (a := ⟨w.heap.size, 1, none⟩) (Below.heap_setCell w1 ⟨p, 1, none⟩ y w.heap.size (by show w.heap.size ≠ p; omega))).trans u1); have HH := Lib.hid (HT.out _ _ _ hown1 hgrow)))
  all_goals
    clear x0 x1 x2 y0 u0 u3 hb1 hb2 hgrow
    go_wp2
    refine wp_loop_rounds 1 ?_
    rw [rounds_succ]; go_wp2
    go_end0
    obtain ⟨k1, k2, k3⟩ := HH.out
    obtain ⟨hKT, hBl, hF1, hT1, hB1⟩ := HR.out
    exact ⟨rfl, k1, ((hKT.trans (fun k cs fz h => hT1 k cs _ fz h)).trans (keepT_alloc V1 _)).trans k2, ((below_drewN (hBl.drew.trans hB1) 1).alloc hlt1 _).trans k3⟩

/-- A part of a row, in every memory that keeps the rows. -/
theorem TysAt.part {w : World} {l : List T} {a : Option Addr} {c : Nat} (h : TysAt w (.slice a l.length c) l) (i : Nat) (hi : i < l.length) : ∃ g pa ca, a = some ⟨g, 0, none⟩ ∧ l.length ≤ c ∧ ∀ W, KeepT w W → (g < W.heap.size ∧ W.cell? ⟨g, i * 3, none⟩ = some (.int .i64 l[i].kind) ∧ W.cell? ⟨g, i * 3 + 1, none⟩ = some (.string l[i].name) ∧ W.cell? ⟨g, i * 3 + 2, none⟩ = some (.slice pa l[i].kids.length ca)) ∧ TysAt W (.slice pa l[i].kids.length ca) l[i].kids := by
  rcases h with ⟨h, _⟩ | ⟨g, cap, cs, fz, x, y, z, e, h1, h2, h3, h4⟩
  · rw [h] at hi; cases hi
  · cases e
    obtain ⟨c1, c2, c3⟩ := h3 i hi
    obtain ⟨e1, e2, ⟨pa, ca, e3⟩, e4⟩ := (h4 i hi).shape
    rw [e1] at c1; rw [e2] at c2; rw [e3] at c3 e4
    refine ⟨g, pa, ca, rfl, h2, fun W hk => ?_⟩
    have hW := hk _ _ _ h1
    refine ⟨⟨(Array.getElem?_eq_some_iff.1 hW).1, ?_, ?_, ?_⟩, e4.keep hk⟩
    · simp only [World.cell?, hW]; simpa using c1
    · simp only [World.cell?, hW]; simpa using c2
    · simp only [World.cell?, hW]; simpa using c3
theorem len_sizes' : ∀ l : List T, l.length ≤ tsizes l
  | [] => Nat.le_refl _
  | a :: l => by have := len_sizes' l; have := tsize_eq a; simp [tsizes]; omega
theorem size_mem' {k : T} : ∀ {l : List T}, k ∈ l → tsize k ≤ tsizes l
  | a :: l, h => by
    rw [tsizes]
    rcases List.mem_cons.1 h with rfl | h
    · omega
    · have := size_mem' h; omega
theorem fvs_drop (bd out : List ByteArray) (l : List T) (i : Nat) (h : i < l.length) : fvs bd out (l.take (i + 1)) = fv bd (fvs bd out (l.take i)) l[i] := by
  induction l generalizing out i with
  | nil => simp at h
  | cons a l ih =>
    cases i with
    | zero => simp [fvs]
    | succ i =>
      simp only [List.take_succ_cons, fvs, List.getElem_cons_succ]
      exact ih _ i (by simpa using h)
theorem tsizes_take (l : List T) (i : Nat) (h : i < l.length) : tsizes (l.take (i + 1)) = tsizes (l.take i) + tsize l[i] ∧ tsizes (l.take (i + 1)) ≤ tsizes l := by
  induction l generalizing i with
  | nil => simp at h
  | cons a l ih =>
    cases i with
    | zero => simp [tsizes]
    | succ i =>
      obtain ⟨h1, h2⟩ := ih i (by simpa using h)
      simp only [List.take_succ_cons, tsizes, List.getElem_cons_succ, h1]
      omega
mutual
theorem fv_len (t : T) (bd out : List ByteArray) : (fv bd out t).length ≤ out.length + tsize t := by
  cases t with
  | var n => rw [fv, tsize]; split <;> simp
  | con n l => rw [fv, tsize]; have := fvs_len l bd out; omega
  | fn a b => rw [fv, tsize]; have := fv_len a bd out; have := fv_len b bd (fv bd out a); omega
  | all n a => rw [fv, tsize]; have := fv_len a (n :: bd) out; omega
theorem fvs_len (l : List T) (bd out : List ByteArray) : (fvs bd out l).length ≤ out.length + tsizes l := by
  cases l with
  | nil => rw [fvs]; omega
  | cons a l => rw [fvs, tsizes]; have := fv_len a bd out; have := fvs_len l bd (fv bd out a); omega
end

set_option maxHeartbeats 2000000 in
theorem look_plain (t : T) (H : ∀ k ∈ t.kids, LookOK k) (hk1 : ¬ t.kind = 1) (hk4 : ¬ t.kind = 4) (B p M K : Nat) (bd out : List ByteArray) (a : Option Addr) (c : Nat) (w : World) (hB : B ≤ w.heap.size) (h : FindAt B p M K (cnt bd out) out w) (ht : TysAt w (.slice a t.kids.length c) t.kids)
    (hK : K + 2 * tsize t ≤ 1000000000) (hbd : bd.length + tsize t ≤ 1000000000) (ho : out.length + tsize t ≤ 1000000000) :
    Calls Tryz.prog 77 #[.pointer (some ⟨p, 0, none⟩), tyV t (.slice a t.kids.length c)] w fun e w' => e = .returned (.tuple #[]) ∧ FindAt B p M (K + 2 * tsizes t.kids) (cnt bd (fvs bd out t.kids)) (fvs bd out t.kids) w' ∧ KeepT w w' ∧ Below B w w' := by
  have q1 : (t.kind == 1) = false := by simpa using hk1
  have q4 : (t.kind == 4) = false := by simpa using hk4
  have hz := tsize_eq t
  have hlen := len_sizes' t.kids
  have HE : Hid (∀ (o : Obj) (n : Nat), FindAt B p M K (cnt bd out) out ((w.alloc o).drewN n) ∧ KeepT w ((w.alloc o).drewN n) ∧ Below B w ((w.alloc o).drewN n)) := Lib.hid fun o n => ⟨(h.alloc o).drewN n, fun k cs fz hk => keepT_alloc w o k cs fz hk, below_drewN ((Below.refl B w).alloc hB o) n⟩
  have HR : Hid (∀ i (hi : i < t.kids.length), ∃ g pa ca, a = some ⟨g, 0, none⟩ ∧ t.kids.length ≤ c ∧ ∀ W, KeepT w W → (g < W.heap.size ∧ W.cell? ⟨g, i * 3, none⟩ = some (.int .i64 t.kids[i].kind) ∧ W.cell? ⟨g, i * 3 + 1, none⟩ = some (.string t.kids[i].name) ∧ W.cell? ⟨g, i * 3 + 2, none⟩ = some (.slice pa t.kids[i].kids.length ca)) ∧ TysAt W (.slice pa t.kids[i].kids.length ca) t.kids[i].kids) := Lib.hid fun i hi => ht.part i hi
  have HS := Lib.hid H
  clear H h ht hk1 hk4
  simp only [tyV]
  go_enter Tryz.func77, Tryz.ntmps77
  go_wp2
  go_quiet (fail)
  go_wp2
  go_loopw [52] (fun vi wr => ∃ i : Nat, i ≤ t.kids.length ∧ vi = .int .i64 i ∧ Hid (FindAt B p M (K + 2 * tsizes (t.kids.take i)) (cnt bd (fvs bd out (t.kids.take i))) (fvs bd out (t.kids.take i)) wr ∧ KeepT w wr ∧ Below B w wr) ∧
      wr.heap[w.heap.size]? = some (.cells #[.int .i64 t.kind, .string t.name, .slice a t.kids.length c] 31 (0, 0))) (fun vi _ => t.kids.length - (intOf vi).toNat)
  case atStart => exact ⟨0, Nat.zero_le _, rfl, Lib.hid (by simpa [fvs, tsizes] using HE.out _ _), alloc_new w _⟩
  case round =>
    obtain ⟨i, hi, rfl, hF, hbox⟩ := hrel
    by_cases hlt : i < t.kids.length
    · obtain ⟨g, pa, ca, rfl, hcap, hr⟩ := HR.out i hlt
      obtain ⟨hF1, hKT, hBl⟩ := hF.out
      obtain ⟨⟨hg, x0, x1, x2⟩, xk⟩ := hr wr hKT
      have hsz := tsizes_take t.kids i hlt
      have hl1 := fvs_len (t.kids.take i) bd out
      have hkk := size_mem' (List.getElem_mem hlt)
      have hBw : B ≤ wr.heap.size := Nat.le_trans hB hBl.size
      have HC := Lib.hid (fun o => HS.out t.kids[i] (List.getElem_mem hlt) B p M (K + 2 * tsizes (t.kids.take i)) bd (fvs bd out (t.kids.take i)) pa ca (wr.alloc o) (hF1.alloc o) (xk.keep (keepT_alloc wr o)) (by omega) (by omega) (by omega))
      rw [← fvs_drop bd out t.kids i hlt, show K + 2 * tsizes (t.kids.take i) + 2 * tsize t.kids[i] = K + 2 * tsizes (t.kids.take (i + 1)) by omega] at HC
      have HX := Lib.hid (fun (o : Obj) (W : World) (h1 : KeepT (wr.alloc o) W) (h2 : Below B (wr.alloc o) W) => (⟨(hKT.trans (keepT_alloc wr o)).trans h1, (hBl.alloc hBw o).trans h2⟩ : KeepT w W ∧ Below B w W))
      have HXB := Lib.hid (fun (o : Obj) (W : World) (h1 : KeepT (wr.alloc o) W) => h1 _ _ _ ((Below.heap_alloc wr o _ (Array.getElem?_eq_some_iff.1 hbox).1).trans hbox))
      clear hr hF hF1 xk hBl hsz hl1 hkk HS HR HE hbox
      generalize t.kids[i] = u at x0 x1 x2 HC
      simp only [tyV] at HC
      have hlt1 : ((i : Int) < (t.kids.length : Int)) := by omega
      go_wp2_with (go_at_call 77; refine (HC.out _).mono ?_; rintro e w2 ⟨rfl, r1, r2, r3⟩; have HW2 := Lib.hid (And.intro r1 (HX.out _ _ r2 r3)); have HB2 := Lib.hid (HXB.out _ _ r2); clear r1 r2 r3)
      refine ⟨⟨i + 1, by omega, by go_num, HW2, HB2.out⟩, ?_⟩
      simp [intOf]; omega
    · obtain rfl : i = t.kids.length := by omega
      obtain ⟨z0, z1, z2⟩ := three_cells hbox
      rw [List.take_length] at hF
      clear hbox
      go_wp2
      go_end0
      exact ⟨rfl, hF.out⟩
set_option maxHeartbeats 2000000 in
theorem look_all (t : T) (H : ∀ k ∈ t.kids, LookOK k) (hk4 : t.kind = 4) (hs : t.name.size ≤ 1000) (B p M K : Nat) (bd out : List ByteArray) (a : Option Addr) (c : Nat) (w : World) (hB : B ≤ w.heap.size) (h : FindAt B p M K (cnt bd out) out w) (ht : TysAt w (.slice a t.kids.length c) t.kids)
    (hK : K + 2 * tsize t ≤ 1000000000) (hbd : bd.length + tsize t ≤ 1000000000) (ho : out.length + tsize t ≤ 1000000000) :
    Calls Tryz.prog 77 #[.pointer (some ⟨p, 0, none⟩), tyV t (.slice a t.kids.length c)] w fun e w' => e = .returned (.tuple #[]) ∧ FindAt B p M (K + 1 + 2 * tsizes t.kids + 1) (cnt bd (fvs (t.name :: bd) out t.kids)) (fvs (t.name :: bd) out t.kids) w' ∧ KeepT w w' ∧ Below B w w' := by
  have hz := tsize_eq t
  have hlen := len_sizes' t.kids
  have HE : Hid (∀ (o : Obj) (n : Nat), FindAt B p M K (cnt bd out) out ((w.alloc o).drewN n) ∧ KeepT w ((w.alloc o).drewN n) ∧ Below B w ((w.alloc o).drewN n)) := Lib.hid fun o n => ⟨(h.alloc o).drewN n, fun k cs fz hk => keepT_alloc w o k cs fz hk, below_drewN ((Below.refl B w).alloc hB o) n⟩
  have HR : Hid (∀ i (hi : i < t.kids.length), ∃ g pa ca, a = some ⟨g, 0, none⟩ ∧ t.kids.length ≤ c ∧ ∀ W, KeepT w W → (g < W.heap.size ∧ W.cell? ⟨g, i * 3, none⟩ = some (.int .i64 t.kids[i].kind) ∧ W.cell? ⟨g, i * 3 + 1, none⟩ = some (.string t.kids[i].name) ∧ W.cell? ⟨g, i * 3 + 2, none⟩ = some (.slice pa t.kids[i].kids.length ca)) ∧ TysAt W (.slice pa t.kids[i].kids.length ca) t.kids[i].kids) := Lib.hid fun i hi => ht.part i hi
  have HS := Lib.hid H
  have HN := Lib.hid hs
  clear H h ht hs
  simp only [tyV, hk4]
  go_enter Tryz.func77, Tryz.ntmps77
  go_wp2
  go_quiet (fail)
  go_wp2
  refine with_worldC (fun V => (FindAt B p M K (cnt bd out) out V ∧ KeepT w V ∧ Below B w V) ∧ V.heap[w.heap.size]? = some (.cells #[.int .i64 4, .string t.name, .slice a t.kids.length c] 31 (0, 0))) ⟨HE.out _ _, alloc_new w _⟩ ?_
  rintro V ⟨⟨hF, hKT, hBl⟩, hbox⟩
  obtain ⟨z0, z1, z2⟩ := three_cells hbox
  have c0 := hF.c0
  have hFd : FindAt B p M K (cnt bd out) out V.drew := hF.drewN 1
  have hlk := hFd.look t.name HN.out
  have hq := cnt_le bd out t.name
  obtain ⟨V1, hup, hF1, hT1, hB1⟩ := hFd.put (g := cnt (t.name :: bd) out) (by omega) t.name HN.out (cnt bd out t.name + 1) (by omega) (fun m => (cnt_bind bd out t.name m).symm)
  generalize cnt bd out t.name = q at hlk hq hup
  obtain ⟨hq0, hq1⟩ := hq
  have HV1 := Lib.hid (⟨hF1, hKT.trans (fun k cs fz h => hT1 k cs _ fz h), hBl.drew.trans hB1⟩ : FindAt B p M (K + 1) (cnt (t.name :: bd) out) out V1 ∧ KeepT w V1 ∧ Below B w V1)
  have hbox1 := hT1 _ _ _ _ hbox
  obtain ⟨y0, y1, y2⟩ := three_cells hbox1
  have HBox := Lib.hid hbox1
  clear hF hFd hKT hBl hF1 hT1 hB1 hbox hbox1 HE
  go_region
  clear hlk hup z0 z1 z2 c0
  go_wp2
  go_loopw [52] (fun vi wr => ∃ i : Nat, i ≤ t.kids.length ∧ vi = .int .i64 i ∧ Hid (FindAt B p M (K + 1 + 2 * tsizes (t.kids.take i)) (cnt (t.name :: bd) (fvs (t.name :: bd) out (t.kids.take i))) (fvs (t.name :: bd) out (t.kids.take i)) wr ∧ KeepT w wr ∧ Below B w wr) ∧
      wr.heap[w.heap.size]? = some (.cells #[.int .i64 4, .string t.name, .slice a t.kids.length c] 31 (0, 0))) (fun vi _ => t.kids.length - (intOf vi).toNat)
  case atStart => exact ⟨0, Nat.zero_le _, rfl, Lib.hid (by simpa [fvs, tsizes] using HV1.out), HBox.out⟩
  case round =>
    obtain ⟨i, hi, rfl, hF, hbox⟩ := hrel
    by_cases hlt : i < t.kids.length
    · obtain ⟨g, pa, ca, rfl, hcap, hr⟩ := HR.out i hlt
      obtain ⟨hF1, hKT, hBl⟩ := hF.out
      obtain ⟨⟨hg, x0, x1, x2⟩, xk⟩ := hr wr hKT
      have hsz := tsizes_take t.kids i hlt
      have hl1 := fvs_len (t.kids.take i) (t.name :: bd) out
      have hkk := size_mem' (List.getElem_mem hlt)
      have hBw : B ≤ wr.heap.size := Nat.le_trans hB hBl.size
      have HC := Lib.hid (fun o => HS.out t.kids[i] (List.getElem_mem hlt) B p M (K + 1 + 2 * tsizes (t.kids.take i)) (t.name :: bd) (fvs (t.name :: bd) out (t.kids.take i)) pa ca (wr.alloc o) (hF1.alloc o) (xk.keep (keepT_alloc wr o)) (by omega) (by simp only [List.length_cons]; omega) (by omega))
      rw [← fvs_drop (t.name :: bd) out t.kids i hlt, show K + 1 + 2 * tsizes (t.kids.take i) + 2 * tsize t.kids[i] = K + 1 + 2 * tsizes (t.kids.take (i + 1)) by omega] at HC
      have HX := Lib.hid (fun (o : Obj) (W : World) (h1 : KeepT (wr.alloc o) W) (h2 : Below B (wr.alloc o) W) => (⟨(hKT.trans (keepT_alloc wr o)).trans h1, (hBl.alloc hBw o).trans h2⟩ : KeepT w W ∧ Below B w W))
      have HXB := Lib.hid (fun (o : Obj) (W : World) (h1 : KeepT (wr.alloc o) W) => h1 _ _ _ ((Below.heap_alloc wr o _ (Array.getElem?_eq_some_iff.1 hbox).1).trans hbox))
      clear hr hF hF1 xk hBl hsz hl1 hkk HS HR hbox
      generalize t.kids[i] = u at x0 x1 x2 HC
      simp only [tyV] at HC
      have hlt1 : ((i : Int) < (t.kids.length : Int)) := by omega
      go_wp2_with (go_at_call 77; refine (HC.out _).mono ?_; rintro e w2 ⟨rfl, r1, r2, r3⟩; have HW2 := Lib.hid (And.intro r1 (HX.out _ _ r2 r3)); have HB2 := Lib.hid (HXB.out _ _ r2); clear r1 r2 r3)
      refine ⟨⟨i + 1, by omega, by go_num, HW2, HB2.out⟩, ?_⟩
      simp [intOf]; omega
    · obtain rfl : i = t.kids.length := by omega
      obtain ⟨z0, z1, z2⟩ := three_cells hbox
      rw [List.take_length] at hF
      obtain ⟨hF1, hKT, hBl⟩ := hF.out
      have c0 := hF1.c0
      have hFd : FindAt B p M _ _ _ wr.drew := hF1.drewN 1
      have hlk := hFd.look t.name HN.out
      have hq := cnt_le (t.name :: bd) (fvs (t.name :: bd) out t.kids) t.name
      simp only [List.length_cons] at hq
      have e1 := cnt_bind bd (fvs (t.name :: bd) out t.kids)
      have e2 := (cnt_le bd (fvs (t.name :: bd) out t.kids) t.name).1
      have e3 := e1 t.name t.name
      rw [if_pos rfl] at e3
      obtain ⟨V2, hup, hF2, hT2, hB2⟩ := hFd.put (g := cnt bd (fvs (t.name :: bd) out t.kids)) (by omega) t.name HN.out (cnt (t.name :: bd) (fvs (t.name :: bd) out t.kids) t.name - 1) (by omega) (fun m => by
        rw [e3, e1 t.name m]
        split
        · rename_i h; rw [h]; omega
        · rfl)
      have HV2 := Lib.hid (⟨hF2, hKT.trans (fun k cs fz h => hT2 k cs _ fz h), hBl.drew.trans hB2⟩ : FindAt B p M (K + 1 + 2 * tsizes t.kids + 1) (cnt bd (fvs (t.name :: bd) out t.kids)) (fvs (t.name :: bd) out t.kids) V2 ∧ KeepT w V2 ∧ Below B w V2)
      generalize cnt (t.name :: bd) (fvs (t.name :: bd) out t.kids) t.name = q' at hlk hq hup e3
      obtain ⟨hq2, hq3⟩ := hq
      have hq4 : 1 ≤ q' := by omega
      clear hbox hF hF1 hKT hBl hFd e1 e2 e3 hF2 hT2 hB2
      go_wp2
      go_region
      go_end0
      exact ⟨rfl, HV2.out⟩
end Go.Proofs.YtjnlchhikdfifaaGreatDoor
/- types.Vars: the free variables of a row of types. -/
namespace Go.Proofs.YtjnlchhikdfifaaGreatDoor
open Go.RowKit Go.Maps
attribute [local go_sem] Oper.semAt_some

theorem Nm.name {t : T} (h : Nm t) : t.name.size ≤ 1000 := by cases h; assumption
theorem Nm.kid {t k : T} (h : Nm t) (hk : k ∈ t.kids) : Nm k := by cases h with | mk _ _ h => exact h k hk

theorem look_var (n : ByteArray) (hn : n.size ≤ 1000) : LookOK (.var n) := by
  intro B p M K bd out a c w h ht hK hbd ho
  have hB : B ≤ w.heap.size := Nat.le_trans h.bp (Nat.le_of_lt h.lt.1)
  have hz : tsize (.var n) = 1 := by simp [tsize]
  rw [hz] at hK hbd ho
  by_cases hc : cnt bd out n = 0
  · have hno := cnt_zero.1 hc
    have e : fv bd out (.var n) = out ++ [n] := by rw [fv, if_neg hno]
    rw [e]
    refine (look_told (.var n) rfl rfl hn B p M K (cnt bd out) (cnt bd (out ++ [n])) out a c w hB h hc (by omega) (by omega) (fun m => ?_)).mono fun e w' ⟨h1, h2, h3, h4⟩ => ⟨h1, h2.mono (by omega), h3, h4⟩
    rw [cnt_told (fun hx => hno (.inr hx)), hc]
    rfl
  · have hyes : n ∈ bd ∨ n ∈ out := Classical.byContradiction fun hx => hc (cnt_zero.2 hx)
    have e : fv bd out (.var n) = out := by rw [fv, if_pos hyes]
    rw [e]
    exact (look_seen (.var n) rfl rfl hn B p M K (cnt bd out) out a c w hB h hc).mono fun e w' ⟨h1, h2, h3, h4⟩ => ⟨h1, h2.mono (by omega), h3, h4⟩
theorem look_ok (t : T) (hn : Nm t) : LookOK t := by
  have H : ∀ k ∈ t.kids, LookOK k := fun k hk => look_ok k (hn.kid hk)
  have hz := tsize_eq t
  cases t with
  | var n => exact look_var n hn.name
  | con n l =>
    intro B p M K bd out a c w h ht hK hbd ho
    have hB : B ≤ w.heap.size := Nat.le_trans h.bp (Nat.le_of_lt h.lt.1)
    rw [fv]
    exact (look_plain (.con n l) H (by simp [T.kind]) (by simp [T.kind]) B p M K bd out a c w hB h ht hK hbd ho).mono fun e w' ⟨h1, h2, h3, h4⟩ => ⟨h1, h2.mono (by omega), h3, h4⟩
  | fn x y =>
    intro B p M K bd out a c w h ht hK hbd ho
    have hB : B ≤ w.heap.size := Nat.le_trans h.bp (Nat.le_of_lt h.lt.1)
    have e : fv bd out (.fn x y) = fvs bd out (T.fn x y).kids := by simp [fv, T.kids, fvs]
    rw [e]
    exact (look_plain (.fn x y) H (by simp [T.kind]) (by simp [T.kind]) B p M K bd out a c w hB h ht hK hbd ho).mono fun e w' ⟨h1, h2, h3, h4⟩ => ⟨h1, h2.mono (by omega), h3, h4⟩
  | all n x =>
    intro B p M K bd out a c w h ht hK hbd ho
    have hB : B ≤ w.heap.size := Nat.le_trans h.bp (Nat.le_of_lt h.lt.1)
    have e : fv bd out (.all n x) = fvs ((T.all n x).name :: bd) out (T.all n x).kids := by simp [fv, T.kids, fvs, T.name]
    rw [e]
    exact (look_all (.all n x) H rfl hn.name B p M K bd out a c w hB h ht hK hbd ho).mono fun e w' ⟨h1, h2, h3, h4⟩ => ⟨h1, h2.mono (by omega), h3, h4⟩
termination_by SizeOf.sizeOf t
decreasing_by exact T.kid_size hk

/-- v is a slice of the texts l. -/
def TextsAt (w : World) (v : Value) (l : List ByteArray) : Prop :=
  ∃ a cap, v = .slice a l.length cap ∧ (l = [] ∨ ∃ g, a = some ⟨g, 0, none⟩ ∧ l.length ≤ cap ∧ ∃ cs fz, w.heap[g]? = some (.cells cs 9 fz) ∧ ∀ i (h : i < l.length), cs[i]? = some (.string l[i]))
theorem TextsAt.keep {w w' : World} {v : Value} {l : List ByteArray} (h : TextsAt w v l) (hk : ∀ (k : Nat) (cs : Array Value) (fz : Nat × Nat), w.heap[k]? = some (.cells cs 9 fz) → w'.heap[k]? = some (.cells cs 9 fz)) : TextsAt w' v l := by
  obtain ⟨a, cap, rfl, h⟩ := h
  refine ⟨a, cap, rfl, ?_⟩
  rcases h with h | ⟨g, e, hc, cs, fz, hg, hi⟩
  · exact .inl h
  · exact .inr ⟨g, e, hc, cs, fz, hk _ _ _ hg, hi⟩
theorem TextsAt.of_row {W : World} {base : Nat} {v : Value} {l : List ByteArray} (h : W.ownsRow base 9 1 v l.length (l.map Value.string)) : TextsAt W v l := by
  rcases h.2 with ⟨rfl, h0⟩ | ⟨g, cap, cur, rfl, _, hg, hc, hm, hcs, htk⟩
  · have : l = [] := List.length_eq_zero_iff.1 h0
    subst this
    exact ⟨none, 0, rfl, .inl rfl⟩
  · refine ⟨_, cap, rfl, .inr ⟨g, rfl, hc, cur, _, hg, fun i hi => ?_⟩⟩
    have e : (cur.toList.take (l.length * 1))[i]? = (l.map Value.string)[i]? := by rw [htk]
    rw [List.getElem?_take, if_pos (by omega), Array.getElem?_toList] at e
    simpa [hi] using e
theorem find_start (w : World) : FindAt w.heap.size (w.heap.size + 1) w.heap.size 0 (cnt [] []) [] ((w.alloc (.map #[] 0)).alloc (.cells #[.map (some w.heap.size), .slice none 0 0] 109)) := by
  refine ⟨by omega, Nat.le_refl _, ⟨.slice none 0 0, by have := alloc_new (w.alloc (.map #[] 0)) (.cells #[.map (some w.heap.size), .slice none 0 0] 109); simpa using this, ?_⟩, ⟨0, Nat.le_refl _, .map [], isMap_empty, ?_, fun n _ => ?_⟩⟩
  · exact ⟨by simp, .inl ⟨rfl, rfl⟩⟩
  · exact (World.ownsMap_made w Tryz.prog 9 _).alloc _
  · simp [DataW.atKey, cnt, cntB, inB]

set_option maxHeartbeats 2000000 in
theorem vars_any (l : List T) (hn : ∀ k ∈ l, Nm k) (hs : tsizes l ≤ 100000000) (a : Option Addr) (c : Nat) (w : World) (ht : TysAt w (.slice a l.length c) l) :
    Calls Tryz.prog 64 #[.slice a l.length c] w fun e w' => (∃ v, e = .returned v ∧ TextsAt w' v (fvs [] [] l)) ∧ KeepT w w' ∧ Below w.heap.size w w' := by
  have hlen := len_sizes' l
  have HF := Lib.hid (find_start w)
  have HB0 := Lib.hid (show ∀ o1 o2 : Obj, KeepT w ((w.alloc o1).alloc o2) ∧ Below w.heap.size w ((w.alloc o1).alloc o2) from fun o1 o2 => ⟨(keepT_alloc w o1).trans (keepT_alloc _ o2), ((Below.refl _ w).alloc (Nat.le_refl _) _).alloc (by simp) _⟩)
  have HR := Lib.hid ht.part
  have HS := Lib.hid (fun k (hk : k ∈ l) => look_ok k (hn k hk))
  clear hn ht
  have hmm := @run_makeMap Tryz.prog
  go_enter Tryz.func64, Tryz.ntmps64
  go_wp2
  go_loopw [10] (fun vi wr => ∃ i : Nat, i ≤ l.length ∧ vi = .int .i64 i ∧ Hid (FindAt w.heap.size (w.heap.size + 1) w.heap.size (2 * tsizes (l.take i)) (cnt [] (fvs [] [] (l.take i))) (fvs [] [] (l.take i)) wr ∧ KeepT w wr ∧ Below w.heap.size w wr)) (fun vi _ => l.length - (intOf vi).toNat)
  case atStart => exact ⟨0, Nat.zero_le _, rfl, Lib.hid (by simpa [fvs, tsizes] using ⟨HF.out, HB0.out _ _⟩)⟩
  case round =>
    obtain ⟨i, hi, rfl, hF⟩ := hrel
    by_cases hlt : i < l.length
    · obtain ⟨g, pa, ca, rfl, hcap, hr⟩ := HR.out i hlt
      obtain ⟨hF1, hKT, hBl⟩ := hF.out
      obtain ⟨⟨hg, x0, x1, x2⟩, xk⟩ := hr wr hKT
      have hsz := tsizes_take l i hlt
      have hl1 := fvs_len (l.take i) [] []
      have hkk := size_mem' (List.getElem_mem hlt)
      have hBw : w.heap.size ≤ wr.heap.size := hBl.size
      have HC := Lib.hid (fun o => HS.out l[i] (List.getElem_mem hlt) w.heap.size (w.heap.size + 1) w.heap.size (2 * tsizes (l.take i)) [] (fvs [] [] (l.take i)) pa ca (wr.alloc o) (hF1.alloc o) (xk.keep (keepT_alloc wr o)) (by omega) (by simp only [List.length_nil]; omega) (by simp only [List.length_nil] at hl1; omega))
      rw [← fvs_drop [] [] l i hlt, show 2 * tsizes (l.take i) + 2 * tsize l[i] = 2 * tsizes (l.take (i + 1)) by omega] at HC
      have HX := Lib.hid (fun (o : Obj) (W : World) (h1 : KeepT (wr.alloc o) W) (h2 : Below w.heap.size (wr.alloc o) W) => (⟨(hKT.trans (keepT_alloc wr o)).trans h1, (hBl.alloc hBw o).trans h2⟩ : KeepT w W ∧ Below w.heap.size w W))
      clear hr hF hF1 xk hBl hsz hl1 hkk HS HR HF HB0
      generalize l[i] = u at x0 x1 x2 HC
      simp only [tyV] at HC
      have hlt1 : ((i : Int) < (l.length : Int)) := by omega
      go_wp2_with (go_at_call 77; refine (HC.out _).mono ?_; rintro e w2 ⟨rfl, r1, r2, r3⟩; have HW2 := Lib.hid (And.intro r1 (HX.out _ _ r2 r3)); clear r1 r2 r3)
      refine ⟨⟨i + 1, by omega, by go_num, HW2⟩, ?_⟩
      simp [intOf]; omega
    · obtain rfl : i = l.length := by omega
      rw [List.take_length] at hF
      obtain ⟨hF1, hKT, hBl⟩ := hF.out
      obtain ⟨v, hv, hown⟩ := hF1.fin
      have c1 : wr.cell? ⟨w.heap.size + 1, 1, none⟩ = some v := by rw [Lib.cell_of_heap hv]; rfl
      obtain ⟨a1, cap1, rfl⟩ := row_slice hown
      have HT := Lib.hid (TextsAt.of_row hown)
      have HK := Lib.hid hKT; have HBl := Lib.hid hBl
      clear hF hF1 hown hv hKT hBl
      go_wp2
      go_ret
      exact ⟨⟨_, rfl, HT.out⟩, HK.out, HBl.out⟩
end Go.Proofs.YtjnlchhikdfifaaGreatDoor
/- Texts in rows: where one is, whether two rows are the same. -/
namespace Go.Proofs.YtjnlchhikdfifaaGreatDoor
open Go.RowKit
attribute [local go_sem] Oper.semAt_some

theorem TextsAt.part {w : World} {a : Option Addr} {n c : Nat} {l : List ByteArray} (h : TextsAt w (.slice a n c) l) : n = l.length ∧ ∀ i (hi : i < l.length), ∃ g, a = some ⟨g, 0, none⟩ ∧ l.length ≤ c ∧ g < w.heap.size ∧ ∀ W : World, (∀ (k : Nat) (cs : Array Value) (fz : Nat × Nat), w.heap[k]? = some (.cells cs 9 fz) → W.heap[k]? = some (.cells cs 9 fz)) → W.cell? ⟨g, i, none⟩ = some (.string l[i]) := by
  obtain ⟨a', cap, e, h⟩ := h
  cases e
  refine ⟨rfl, fun i hi => ?_⟩
  rcases h with h | ⟨g, e, hc, cs, fz, hg, hh⟩
  · subst h; cases hi
  · refine ⟨g, e, hc, (Array.getElem?_eq_some_iff.1 hg).1, fun W hW => ?_⟩
    rw [Lib.cell_of_heap (hW _ _ _ hg)]; exact hh i hi
theorem TextsAt.shape {w : World} {v : Value} {l : List ByteArray} (h : TextsAt w v l) : ∃ a c, v = .slice a l.length c := by
  obtain ⟨a, c, e, _⟩ := h
  exact ⟨a, c, e⟩
theorem TextsAt.below {w w' : World} {v : Value} {l : List ByteArray} (h : TextsAt w v l) (hb : Below w.heap.size w w') : TextsAt w' v l := h.keep fun k _ _ hk => (hb.block k (Array.getElem?_eq_some_iff.1 hk).1).trans hk

/-- Is it none of the first i? -/
theorem inB_false {l : List ByteArray} {s : ByteArray} (h : ∀ i (hi : i < l.length), ¬ l[i] = s) : inB l s = false := by
  cases hb : inB l s with
  | false => rfl
  | true =>
    obtain ⟨i, hi, e⟩ := List.getElem_of_mem (inB_iff.1 hb)
    exact absurd e (h i hi)

set_option maxHeartbeats 2000000 in
theorem place_any (l : List ByteArray) (hl : l.length ≤ 1000000000) (s : ByteArray) (a : Option Addr) (c : Nat) (w : World) (h : TextsAt w (.slice a l.length c) l) :
    Calls Tryz.prog 57 #[.slice a l.length c, .string s] w fun e w' => (∃ r : Int, e = .returned (.int .i64 r) ∧ decide (0 ≤ r) = inB l s) ∧ w = w' := by
  have HR := Lib.hid (h.part.2)
  clear h
  go_enter Tryz.func57, Tryz.ntmps57
  go_wp2
  go_loop [5] (fun vi => ∃ i : Nat, i ≤ l.length ∧ vi = .int .i64 i ∧ Hid (∀ j (hj : j < l.length), j < i → ¬ l[j] = s)) (fun vi => l.length - (intOf vi).toNat)
  case atStart => exact ⟨0, Nat.zero_le _, rfl, Lib.hid fun j _ h => absurd h (by omega)⟩
  case round =>
    obtain ⟨i, hi, rfl, hS⟩ := hrel
    by_cases hlt : i < l.length
    · obtain ⟨g, rfl, hc, hg, hh⟩ := HR.out i hlt
      have x0 := hh w (fun _ _ _ h => h)
      have hb : (l[i].toList == s.toList) = eqB l[i] s := bytes_beq _ _
      have HE := Lib.hid (show l[i] = l[i] from rfl)
      obtain ⟨u, hu⟩ : ∃ u, l[i] = u := ⟨_, rfl⟩
      have HU := Lib.hid hu
      rw [hu] at x0 hb
      clear hh hu HR HE
      have hlt1 : ((i : Int) < (l.length : Int)) := by omega
      by_cases hq : u = s
      · rw [eqB_true hq] at hb
        have HQ := Lib.hid hq
        clear hq
        go_wp2
        go_ret
        exact ⟨⟨(i : Int), rfl, by
          have : inB l s = true := inB_iff.2 (by rw [← HQ.out, ← HU.out]; exact List.getElem_mem hlt)
          rw [this]; simp⟩, rfl⟩
      · rw [eqB_false hq] at hb
        have HQ := Lib.hid hq
        clear hq
        go_wp2
        go_round
        case rel => exact ⟨i + 1, by omega, by go_num, Lib.hid fun j hj hji => by
          by_cases e : j = i
          · subst e; rw [HU.out]; exact HQ.out
          · exact hS.out j hj (by omega)⟩
        case measure => simp [intOf]; omega
    · obtain rfl : i = l.length := by omega
      clear HR
      go_wp2
      go_ret
      exact ⟨⟨-1, rfl, by rw [inB_false (fun j hj => hS.out j hj hj)]; rfl⟩, rfl⟩

set_option maxHeartbeats 2000000 in
theorem hasR_any (l : List ByteArray) (hl : l.length ≤ 1000000000) (s : ByteArray) (a : Option Addr) (c : Nat) (w : World) (h : TextsAt w (.slice a l.length c) l) :
    Calls Tryz.prog 29 #[.slice a l.length c, .string s] w fun e w' => e = .returned (.bool (inB l s)) ∧ w = w' := by
  have HP := Lib.hid (place_any l hl s a c w h)
  clear h
  go_enter Tryz.func29, Tryz.ntmps29
  go_wp2_with (go_at_call 57; refine HP.out.mono ?_; rintro e w2 ⟨⟨r, rfl, hr⟩, rfl⟩)
  go_ret
  exact ⟨rfl, rfl⟩

set_option maxHeartbeats 2000000 in
theorem sameTexts_any (l l' : List ByteArray) (hl : l.length ≤ 1000000000) (a b : Option Addr) (c d : Nat) (w : World) (h : TextsAt w (.slice a l.length c) l) (h' : TextsAt w (.slice b l'.length d) l') :
    Calls Tryz.prog 13 #[.slice a l.length c, .slice b l'.length d] w fun e w' => e = .returned (.bool (eqB l l')) ∧ Below w.heap.size w w' := by
  by_cases hlen : l.length = l'.length
  · have hm : ((l.length : Int) != (l'.length : Int)) = false := by simp; omega
    have HR := Lib.hid (h.part.2)
    have HR' := Lib.hid (h'.part.2)
    have HL := Lib.hid hlen
    have hlen1 : l'.length ≤ l.length := by omega
    have hlen2 : l.length ≤ l'.length := by omega
    obtain ⟨res, hres⟩ : ∃ r, eqB l l' = r := ⟨_, rfl⟩
    have HRes := Lib.hid hres
    rw [hres]
    clear h h' hlen hres
    go_enter Tryz.func13, Tryz.ntmps13
    go_wp2
    go_loopw [5] (fun vi wr => ∃ i : Nat, i ≤ l.length ∧ vi = .int .i64 i ∧ Hid (Below w.heap.size w wr) ∧ Hid (∀ j (h1 : j < l.length) (h2 : j < l'.length), j < i → l[j] = l'[j])) (fun vi _ => l.length - (intOf vi).toNat)
    case atStart => exact ⟨0, Nat.zero_le _, rfl, Lib.hid (Below.refl _ _), Lib.hid (fun j _ _ h => absurd h (by omega))⟩
    case round =>
      obtain ⟨i, hi, rfl, hB, hS⟩ := hrel
      by_cases hlt : i < l.length
      · have hlt' : i < l'.length := by omega
        obtain ⟨g, rfl, hc, hg, hh⟩ := HR.out i hlt
        obtain ⟨g', rfl, hc', hg', hh'⟩ := HR'.out i hlt'
        have x0 := hh wr (fun k _ _ hk => (hB.out.block k (Array.getElem?_eq_some_iff.1 hk).1).trans hk)
        have y0 := hh' wr (fun k _ _ hk => (hB.out.block k (Array.getElem?_eq_some_iff.1 hk).1).trans hk)
        have hb : (l[i].toList == l'[i].toList) = eqB l[i] l'[i] := bytes_beq _ _
        obtain ⟨u, hu⟩ : ∃ u, l[i] = u := ⟨_, rfl⟩
        obtain ⟨u', hu'⟩ : ∃ u, l'[i] = u := ⟨_, rfl⟩
        have HU := Lib.hid hu; have HU' := Lib.hid hu'
        rw [hu] at x0 hb; rw [hu'] at y0 hb
        clear hh hh' hu hu' HR HR'
        have hlt1 : ((i : Int) < (l.length : Int)) := by omega
        have hlt2 : ((i : Int) < (l'.length : Int)) := by omega
        by_cases hq : u = u'
        · rw [eqB_true hq] at hb
          have HQ := Lib.hid hq
          clear hq
          go_wp2
          go_quiet (fail)
          go_wp2
          go_roundw
          case rel => exact ⟨i + 1, by omega, by go_num, Lib.hid (below_drewN hB.out _), Lib.hid fun j h1 h2 hji => by
            by_cases e : j = i
            · subst e; rw [HU.out, HU'.out]; exact HQ.out
            · exact hS.out j h1 h2 (by omega)⟩
          case measure => simp [intOf]; omega
        · rw [eqB_false hq] at hb
          have e : res = false := by
            rw [← HRes.out]
            refine eqB_false fun e => hq ?_
            rw [← HU.out, ← HU'.out]
            exact List.getElem_of_eq e hlt
          subst e
          clear hq HRes HU HU'
          go_wp2
          go_quiet (fail)
          go_wp2
          go_ret
          exact ⟨rfl, below_drewN hB.out _⟩
      · obtain rfl : i = l.length := by omega
        have e : res = true := by
          rw [← HRes.out]
          exact eqB_true (List.ext_getElem HL.out (fun j h1 h2 => hS.out j h1 h2 h1))
        subst e
        clear HRes HR HR'
        go_wp2
        go_ret
        exact ⟨rfl, hB.out⟩
  · have hm : ((l.length : Int) != (l'.length : Int)) = true := by simp; omega
    rw [eqB_false (fun e => hlen (by rw [e]))]
    clear h h'
    go_enter Tryz.func13, Tryz.ntmps13
    go_wp2
    go_ret
    exact ⟨rfl, Below.refl _ _⟩
end Go.Proofs.YtjnlchhikdfifaaGreatDoor
/- Pairs of a name and a type as plain data: sorted by names in the way of an insertion sort, compacted, filtered; what a name has stays. -/
namespace Go.Proofs.YtjnlchhikdfifaaGreatDoor
open Go.Sort

/-- A pair as it lies in memory: the name, the type, where the type's parts lie. -/
structure PR where
  n : ByteArray
  t : T
  a : Option Addr
  c : Nat
def noP : PR := ⟨⟨#[]⟩, .var ⟨#[]⟩, none, 0⟩
instance : Inhabited PR := ⟨noP⟩
/-- The order by names. -/
def cmpP (x y : PR) : Int := cmpL x.n.data.toList y.n.data.toList
def ltP (x y : PR) : Bool := decide (cmpP x y < 0)

theorem name_of_cmp {x y : PR} (h : cmpP x y = 0) : x.n = y.n := by
  have := cmpL_zero.1 h
  cases x with | mk n _ _ _ => cases y with | mk m _ _ _ => cases n; cases m; simp at this ⊢; exact this
theorem cmp_of_name {x y : PR} (h : x.n = y.n) : cmpP x y = 0 := by
  unfold cmpP; rw [h]; exact cmpL_zero.2 rfl
theorem ltP_iff {x y : PR} : ltP x y = true ↔ cmpP x y < 0 := by simp [ltP]
theorem swoP : SWO ltP where
  irrefl x := by
    have := cmp_of_name (x := x) (y := x) rfl
    simp [ltP, this]
  trans x y z h1 h2 := by
    rw [ltP_iff] at *
    have := cmpL_tri x.n.data.toList y.n.data.toList z.n.data.toList
    unfold Tri at this
    unfold cmpP at *
    have u := cmpL_unit x.n.data.toList y.n.data.toList
    have v := cmpL_unit y.n.data.toList z.n.data.toList
    have k := cmpL_unit x.n.data.toList z.n.data.toList
    unfold Unit1 at u v k
    generalize cmpL x.n.data.toList y.n.data.toList = p at *
    generalize cmpL y.n.data.toList z.n.data.toList = q at *
    generalize cmpL x.n.data.toList z.n.data.toList = r at *
    omega
  ntrans x y z h1 h2 := by
    have e1 : ¬ cmpP x y < 0 := fun h => by rw [ltP_iff.2 h] at h1; cases h1
    have e2 : ¬ cmpP y z < 0 := fun h => by rw [ltP_iff.2 h] at h2; cases h2
    have e3 : ¬ cmpP x z < 0 := by
      have := cmpL_tri x.n.data.toList y.n.data.toList z.n.data.toList
      unfold Tri at this
      unfold cmpP at *
      have u := cmpL_unit x.n.data.toList y.n.data.toList
      have v := cmpL_unit y.n.data.toList z.n.data.toList
      have k := cmpL_unit x.n.data.toList z.n.data.toList
      unfold Unit1 at u v k
      generalize cmpL x.n.data.toList y.n.data.toList = p at *
      generalize cmpL y.n.data.toList z.n.data.toList = q at *
      generalize cmpL x.n.data.toList z.n.data.toList = r at *
      omega
    cases h : ltP x z with
    | false => rfl
    | true => exact absurd (ltP_iff.1 h) e3

open Classical in
/-- The first of a name. -/
noncomputable def lk (n : ByteArray) (l : List PR) : Option PR := l.find? (fun x => decide (x.n = n))
theorem lk_nil (n : ByteArray) : lk n [] = none := rfl
theorem lk_cons (n : ByteArray) (x : PR) (l : List PR) : lk n (x :: l) = if x.n = n then some x else lk n l := by
  unfold lk
  rw [List.find?_cons]
  by_cases h : x.n = n <;> simp [h]
theorem lk_append (n : ByteArray) (l m : List PR) : lk n (l ++ m) = (lk n l).or (lk n m) := by
  unfold lk; rw [List.find?_append]
theorem lk_swap (n : ByteArray) (l m : List PR) (x y : PR) (h : x.n ≠ y.n) : lk n (l ++ x :: y :: m) = lk n (l ++ y :: x :: m) := by
  rw [lk_append, lk_append, lk_cons, lk_cons, lk_cons, lk_cons]
  by_cases h1 : x.n = n
  · have : y.n ≠ n := fun e => h (h1.trans e.symm)
    simp [h1, this]
  · simp [h1]

theorem bang (d : Array PR) (i : Nat) (h : i < d.size) : d[i]! = d.toList[i]'(by simpa using h) := by rw [getElem!_pos d i h]; simp
theorem split_two (l : List PR) (j : Nat) (h : j + 1 < l.length) : l = l.take j ++ l[j] :: l[j + 1] :: l.drop (j + 2) := by
  conv => lhs; rw [← List.take_append_drop j l]
  rw [List.drop_eq_getElem_cons (by omega), List.drop_eq_getElem_cons (by omega)]
theorem swp_list (d : Array PR) (j : Nat) (h : j + 1 < d.size) : (swp d (j + 1) j).toList = d.toList.take j ++ d.toList[j + 1] :: d.toList[j]'(by simp; omega) :: d.toList.drop (j + 2) := by
  apply List.ext_getElem
  · simp [swp_size]; omega
  · intro i h1 h2
    have hi : i < d.size := by simpa [swp_size] using h1
    have e : (swp d (j + 1) j).toList[i] = (swp d (j + 1) j)[i]! := (bang _ i (by rw [swp_size]; exact hi)).symm
    rw [e, swp_get d h (by omega)]
    by_cases a : i = j
    · subst a
      rw [if_pos rfl, List.getElem_append_right (by simp; omega), bang d _ h]
      simp [Nat.min_eq_left (by omega : i ≤ d.size)]
    · by_cases b : i = j + 1
      · subst b
        rw [if_neg (by omega), if_pos rfl, List.getElem_append_right (by simp; omega), bang d _ (by omega)]
        simp [Nat.min_eq_left (by omega : j ≤ d.size)]
      · rw [if_neg a, if_neg b, bang d _ hi]
        by_cases c : i < j
        · rw [List.getElem_append_left (by simp; omega)]
          simp
        · rw [List.getElem_append_right (by simp; omega)]
          obtain ⟨k, rfl⟩ : ∃ k, i = j + 2 + k := ⟨i - (j + 2), by omega⟩
          simp [Nat.min_eq_left (by omega : j ≤ d.size), show j + 2 + k - j = k + 1 + 1 by omega]
theorem lk_swp (n : ByteArray) (d : Array PR) (j : Nat) (h : j + 1 < d.size) (hlt : ltP d[j + 1]! d[j]! = true) : lk n (swp d (j + 1) j).toList = lk n d.toList := by
  rw [swp_list d j h]
  conv => rhs; rw [split_two d.toList j (by simpa using h)]
  refine lk_swap n _ _ _ _ ?_
  intro e
  rw [bang d _ h, bang d _ (by omega)] at hlt
  have := ltP_iff.1 hlt
  have e2 := cmp_of_name e
  omega
theorem lk_inner (n : ByteArray) (a : Nat) : ∀ (j : Nat) (d : Array PR), j < d.size → lk n (insInner ltP a j d).toList = lk n d.toList
  | 0, d, _ => rfl
  | j + 1, d, h => by
    rw [insInner]
    by_cases hc : (decide (j + 1 > a) && ltP d[j + 1]! d[j]!) = true
    · rw [if_pos hc, lk_inner n a j _ (by rw [swp_size]; omega)]
      exact lk_swp n d j h (by simp at hc; exact hc.2)
    · rw [if_neg hc]
theorem size_inner (a : Nat) : ∀ (j : Nat) (d : Array PR), (insInner ltP a j d).size = d.size
  | 0, d => rfl
  | j + 1, d => by
    rw [insInner]
    split
    · rw [size_inner a j, swp_size]
    · rfl
theorem lk_outer (n : ByteArray) (a b i : Nat) (d : Array PR) (h : b ≤ d.size) : lk n (insOuter ltP a b i d).toList = lk n d.toList := by
  rw [insOuter]
  split
  · rename_i hi
    rw [lk_outer n a b (i + 1) _ (by rw [size_inner]; exact h), lk_inner n a i d (by omega)]
  · rfl
termination_by b - i
/-- What the insertion sort makes: the same pairs, in order; the first of each name as it was. -/
theorem sort_facts (d : Array PR) : (∀ x, x ∈ (insertionSort ltP d 0 d.size).toList ↔ x ∈ d.toList) ∧ (insertionSort ltP d 0 d.size).toList.length = d.toList.length ∧
    (∀ n, lk n (insertionSort ltP d 0 d.size).toList = lk n d.toList) ∧ (insertionSort ltP d 0 d.size).toList.Pairwise (fun x y => ltP y x = false) := by
  obtain ⟨⟨h1, _, h3⟩, h4⟩ := insertionSort_holds (lt := ltP) swoP d 0 d.size (Nat.zero_le _) (Nat.le_refl _)
  refine ⟨fun x => ?_, ?_, fun n => lk_outer n 0 d.size 1 d (Nat.le_refl _), ?_⟩
  · have := h3.mem_iff (a := x)
    rw [Array.extract_eq_self_of_le (by omega), Array.extract_eq_self_of_le (Nat.le_refl _)] at this
    exact this
  · simpa using h1
  · rw [List.pairwise_iff_getElem]
    intro i j hi hj hij
    have hi' : i < (insertionSort ltP d 0 d.size).size := by simpa using hi
    have hj' : j < (insertionSort ltP d 0 d.size).size := by simpa using hj
    have := h4 i j (Nat.zero_le _) hij (by omega)
    rw [bang _ _ hj', bang _ _ hi'] at this
    exact this

/-- One that counts: the first, or one of another name than the one ahead of it. -/
noncomputable def kpC (d : Array PR) : Nat → Bool := fun j => @decide (j = 0 ∨ d[j - 1]!.n ≠ d[j]!.n) (Classical.propDecidable _)
theorem kpC_true {d : Array PR} {j : Nat} (h : j = 0 ∨ d[j - 1]!.n ≠ d[j]!.n) : kpC d j = true := by unfold kpC; exact @decide_eq_true _ (Classical.propDecidable _) h
theorem kpC_false {d : Array PR} {j : Nat} (h : ¬ (j = 0 ∨ d[j - 1]!.n ≠ d[j]!.n)) : kpC d j = false := by unfold kpC; exact @decide_eq_false _ (Classical.propDecidable _) h
/-- In order by names, none twice. -/
def Sorted (l : List PR) : Prop := l.Pairwise fun x y => cmpP x y < 0
theorem lt_of_not {x y : PR} (h : ltP y x = false) (hn : x.n ≠ y.n) : cmpP x y < 0 := by
  have h1 : ¬ cmpP y x < 0 := fun h' => by rw [ltP_iff.2 h'] at h; cases h
  have h2 : cmpP x y ≠ 0 := fun e => hn (name_of_cmp e)
  have h3 : cmpP y x = - cmpP x y := cmpL_neg _ _
  omega
theorem cmpP_trans {x y z : PR} (h : cmpP x y < 0) (k : cmpP y z < 0) : cmpP x z < 0 := ltP_iff.1 (swoP.trans x y z (ltP_iff.2 h) (ltP_iff.2 k))
/-- What the compaction keeps of a row in order: in order, none twice, the first of each name. -/
theorem comp_facts (d : Array PR) (hs : d.toList.Pairwise (fun x y => ltP y x = false)) : ∀ j, j ≤ d.size →
    Sorted (Go.Lib.keptUpTo (kpC d) d j) ∧ (∀ x ∈ Go.Lib.keptUpTo (kpC d) d j, x ∈ d.toList.take j) ∧ (∀ n, lk n (Go.Lib.keptUpTo (kpC d) d j) = lk n (d.toList.take j)) ∧
    (∀ x ∈ d.toList.take j, ∃ y ∈ Go.Lib.keptUpTo (kpC d) d j, y.n = x.n) := by
  have hp : ∀ a b, a < b → b < d.size → ltP d[b]! d[a]! = false := fun a b hab hb => by
    have := List.pairwise_iff_getElem.1 hs a b (by simpa using Nat.lt_trans hab hb) (by simpa using hb) hab
    rw [bang d _ hb, bang d _ (Nat.lt_trans hab hb)]
    exact this
  intro j
  induction j with
  | zero => intro _; refine ⟨List.Pairwise.nil, ?_, ?_, ?_⟩ <;> simp [Go.Lib.keptUpTo]
  | succ j ih =>
    intro hj
    obtain ⟨i1, i2, i3, i4⟩ := ih (by omega)
    have et : d.toList.take (j + 1) = d.toList.take j ++ [d[j]!] := by
      rw [List.take_succ_eq_append_getElem (by simp; omega), bang d j (by omega)]
    have mem : ∀ x, x ∈ d.toList.take j → ∃ k, k < j ∧ d[k]! = x := fun x hx => by
      obtain ⟨k, hk, e⟩ := List.mem_iff_getElem.1 hx
      have hk' : k < min j d.size := by simpa using hk
      exact ⟨k, by omega, by rw [bang d k (by omega)]; simpa using e⟩
    have hle : ∀ x ∈ d.toList.take j, ltP d[j]! x = false := fun x hx => by
      obtain ⟨k, hk, rfl⟩ := mem x hx
      exact hp k j hk (by omega)
    by_cases hc : j = 0 ∨ d[j - 1]!.n ≠ d[j]!.n
    · rw [Go.Lib.keptUpTo_succ, kpC_true hc, if_pos rfl, et]
      have hne : ∀ x ∈ d.toList.take j, x.n ≠ d[j]!.n := fun x hx e => by
        obtain ⟨k, hk, rfl⟩ := mem x hx
        rcases hc with h0 | hn
        · omega
        · rcases Nat.lt_or_ge k (j - 1) with hk1 | hk1
          · have a := hp k (j - 1) hk1 (by omega)
            have b := hp (j - 1) j (by omega) (by omega)
            have b' := lt_of_not b hn
            have a1 : ¬ cmpP d[j - 1]! d[k]! < 0 := fun h => by rw [ltP_iff.2 h] at a; cases a
            have e1 : cmpP d[j - 1]! d[k]! = cmpP d[j - 1]! d[j]! := by unfold cmpP; rw [e]
            omega
          · obtain rfl : k = j - 1 := by omega
            exact hn e
      refine ⟨?_, ?_, ?_, ?_⟩
      · rw [Sorted, List.pairwise_append]
        refine ⟨i1, List.pairwise_singleton _ _, fun x hx y hy => ?_⟩
        obtain rfl : y = d[j]! := by simpa using hy
        exact lt_of_not (hle x (i2 x hx)) (hne x (i2 x hx))
      · intro x hx
        rcases List.mem_append.1 hx with h | h
        · exact List.mem_append_left _ (i2 x h)
        · exact List.mem_append_right _ h
      · intro n; rw [lk_append, lk_append, i3 n]
      · intro x hx
        rcases List.mem_append.1 hx with h | h
        · obtain ⟨y, hy, e⟩ := i4 x h; exact ⟨y, List.mem_append_left _ hy, e⟩
        · exact ⟨x, List.mem_append_right _ h, rfl⟩
    · rw [Go.Lib.keptUpTo_succ, kpC_false hc, et]
      have h0 : j ≠ 0 := fun e => hc (.inl e)
      have hn : d[j - 1]!.n = d[j]!.n := Classical.byContradiction fun e => hc (.inr e)
      have hin : d[j - 1]! ∈ d.toList.take j := by
        rw [List.mem_iff_getElem]
        refine ⟨j - 1, by simp; omega, ?_⟩
        rw [bang d _ (by omega)]; simp
      simp only [Bool.false_eq_true, if_false, List.append_nil]
      refine ⟨i1, fun x hx => List.mem_append_left _ (i2 x hx), fun n => ?_, fun x hx => ?_⟩
      · rw [i3 n, lk_append, lk_cons, lk_nil]
        by_cases e : d[j]!.n = n
        · have : (lk n (d.toList.take j)).isSome = true := by
            unfold lk
            rw [List.find?_isSome]
            exact ⟨_, hin, by simpa using hn.trans e⟩
          obtain ⟨y, hy⟩ := Option.isSome_iff_exists.1 this
          rw [hy]; rfl
        · rw [if_neg e]; simp
      · rcases List.mem_append.1 hx with h | h
        · exact i4 x h
        · obtain rfl : x = d[j]! := by simpa using h
          obtain ⟨y, hy, e⟩ := i4 _ hin
          exact ⟨y, hy, e.trans hn⟩

/-- One that is its own type. -/
noncomputable def ownP (x : PR) : Bool := @decide (x.t = .var x.n) (Classical.propDecidable _)
theorem ownP_iff {x : PR} : ownP x = true ↔ x.t = .var x.n := by unfold ownP; exact @decide_eq_true_iff _ (Classical.propDecidable _)
theorem lk_name {n : ByteArray} {l : List PR} {x : PR} (h : lk n l = some x) : x ∈ l ∧ x.n = n := by
  unfold lk at h
  exact ⟨List.mem_of_find?_eq_some h, by simpa using List.find?_some h⟩
theorem lk_sorted {l : List PR} (h : Sorted l) {x : PR} (hx : x ∈ l) : lk x.n l = some x := by
  induction l with
  | nil => cases hx
  | cons y l ih =>
    rw [lk_cons]
    have hs := List.pairwise_cons.1 h
    rcases List.mem_cons.1 hx with rfl | hx
    · rw [if_pos rfl]
    · rw [if_neg, ih hs.2 hx]
      intro e
      have := hs.1 x hx
      rw [cmp_of_name e] at this
      exact absurd this (by decide)
/-- The type that a name has. -/
noncomputable def ty (n : ByteArray) (l : List PR) : T := ((lk n l).map PR.t).getD (.var n)
/-- A row of pairs by names, none its own type. -/
def Neat (l : List PR) : Prop := Sorted l ∧ ∀ x ∈ l, ownP x = false
theorem neat_filter {l : List PR} (h : Sorted l) : Neat (l.filter fun x => !ownP x) ∧ ∀ n, ty n (l.filter fun x => !ownP x) = ty n l := by
  have h1 : Neat (l.filter fun x => !ownP x) := ⟨h.filter _, fun x hx => by have := (List.mem_filter.1 hx).2; simpa using this⟩
  refine ⟨h1, fun n => ?_⟩
  unfold ty
  cases e : lk n l with
  | none =>
    cases e2 : lk n (l.filter fun x => !ownP x) with
    | none => rfl
    | some x =>
      obtain ⟨hm, rfl⟩ := lk_name e2
      rw [lk_sorted h (List.mem_filter.1 hm).1] at e; cases e
  | some x =>
    obtain ⟨hm, rfl⟩ := lk_name e
    by_cases ho : ownP x = true
    · cases e2 : lk x.n (l.filter fun x => !ownP x) with
      | none => simpa using (ownP_iff.1 ho).symm
      | some y =>
        obtain ⟨hy, ey⟩ := lk_name e2
        have hy' := (List.mem_filter.1 hy).1
        have := lk_sorted h hy'
        rw [ey, e] at this
        cases this
        have h9 := (List.mem_filter.1 hy).2
        simp [ho] at h9
    · rw [lk_sorted h1.1 (List.mem_filter.2 ⟨hm, by simpa using ho⟩)]
/-- What gather makes of a row. -/
structure Gath (d l : List PR) : Prop where
  neat : Neat l
  sub : ∀ x ∈ l, x ∈ d
  len : l.length ≤ d.length
  same : ∀ n, ty n l = ty n d
end Go.Proofs.YtjnlchhikdfifaaGreatDoor
/- types.Compare, types.Same: the order of types. -/
namespace Go.Proofs.YtjnlchhikdfifaaGreatDoor
open Go.RowKit
attribute [local go_sem] Oper.semAt_some

set_option maxHeartbeats 1000000 in
theorem nanInt_any (a : Int) (w : World) : Calls Tryz.prog 111 #[.int .i64 a] w fun e w' => e = .returned (.bool false) ∧ w = w' := by
  have h : (a != a) = false := by simp
  go_enter Tryz.func111, Tryz.ntmps111
  go_wp2
  go_ret
  exact ⟨rfl, rfl⟩
set_option maxHeartbeats 1000000 in
theorem nanStr_any (a : ByteArray) (w : World) : Calls Tryz.prog 90 #[.string a] w fun e w' => e = .returned (.bool false) ∧ w = w' := by
  have h : (a.toList == a.toList) = true := by simp
  go_enter Tryz.func90, Tryz.ntmps90
  go_wp2
  go_ret
  exact ⟨rfl, rfl⟩
set_option maxHeartbeats 1000000 in
theorem cmpInt_of (a b r : Int) (w : World) (h : a < b ∧ r = -1 ∨ (¬ a < b ∧ b < a) ∧ r = 1 ∨ (¬ a < b ∧ ¬ b < a) ∧ r = 0) : Calls Tryz.prog 92 #[.int .i64 a, .int .i64 b] w fun e w' => e = .returned (.int .i64 r) ∧ w = w' := by
  rcases h with ⟨h, rfl⟩ | ⟨⟨h, h'⟩, rfl⟩ | ⟨⟨h, h'⟩, rfl⟩
  all_goals
    go_enter Tryz.func92, Tryz.ntmps92
    go_wp2_with (go_at_call 111; refine (nanInt_any _ _).mono ?_; rintro e w2 ⟨rfl, rfl⟩)
    go_ret
    exact ⟨rfl, rfl⟩
theorem cmpInt_any (a b : Int) (w : World) : Calls Tryz.prog 92 #[.int .i64 a, .int .i64 b] w fun e w' => e = .returned (.int .i64 (sgn a b)) ∧ w = w' :=
  cmpInt_of a b _ w (by unfold sgn; (repeat' split) <;> omega)
set_option maxHeartbeats 1000000 in
theorem cmpStr_of (a b : ByteArray) (r : Int) (w : World) (h : (Op.bytesLess a.toList b.toList = true ∧ r = -1) ∨ ((Op.bytesLess a.toList b.toList = false ∧ (a.toList == b.toList) = false) ∧ r = 1) ∨ ((Op.bytesLess a.toList b.toList = false ∧ (a.toList == b.toList) = true) ∧ r = 0)) : Calls Tryz.prog 69 #[.string a, .string b] w fun e w' => e = .returned (.int .i64 r) ∧ w = w' := by
  rcases h with ⟨h, rfl⟩ | ⟨⟨h, h'⟩, rfl⟩ | ⟨⟨h, h'⟩, rfl⟩
  all_goals
    go_enter Tryz.func69, Tryz.ntmps69
    go_wp2_with (go_at_call 90; refine (nanStr_any _ _).mono ?_; rintro e w2 ⟨rfl, rfl⟩)
    go_ret
    exact ⟨rfl, rfl⟩
theorem cmpStr_any (a b : ByteArray) (w : World) : Calls Tryz.prog 69 #[.string a, .string b] w fun e w' => e = .returned (.int .i64 (cmpL a.data.toList b.data.toList)) ∧ w = w' := by
  refine cmpStr_of a b _ w ?_
  rw [Lib.toList_data, Lib.toList_data, less_cmpL, beq_cmpL]
  rcases cmpL_unit a.data.toList b.data.toList with h | h | h <;> simp [h]

set_option maxHeartbeats 1000000 in
theorem or_any (b : Nat) (x y z : Int) (w : World) (h : w.heap[b]? = some (.cells #[.int .i64 x, .int .i64 y, .int .i64 z] 3 (0, 0))) :
    Calls Tryz.prog 91 #[.slice (some ⟨b, 0, none⟩) 3 3] w fun e w' => e = .returned (.int .i64 (orI x (orI y z))) ∧ w = w' := by
  obtain ⟨c0, c1, c2⟩ := three_cells h
  clear h
  by_cases hx : x = 0
  · subst hx
    by_cases hy : y = 0
    · subst hy
      by_cases hz : z = 0
      · subst hz
        go_enter Tryz.func91, Tryz.ntmps91
        go_wp2
        refine wp_loop_rounds 4 ?_
        rw [rounds_succ]; go_wp2
        rw [rounds_succ]; go_wp2
        rw [rounds_succ]; go_wp2
        rw [rounds_succ]; go_wp2
        go_ret
        exact ⟨rfl, rfl⟩
      · have hz1 : ((z != 0) = true) := by simpa using hz
        have e : orI 0 (orI 0 z) = z := rfl
        rw [e]; clear e
        go_enter Tryz.func91, Tryz.ntmps91
        go_wp2
        refine wp_loop_rounds 3 ?_
        rw [rounds_succ]; go_wp2
        rw [rounds_succ]; go_wp2
        rw [rounds_succ]; go_wp2
        go_ret
        exact ⟨rfl, rfl⟩
    · have hz1 : ((y != 0) = true) := by simpa using hy
      have e : orI 0 (orI y z) = y := by simp [orI, hy]
      rw [e]; clear e
      go_enter Tryz.func91, Tryz.ntmps91
      go_wp2
      refine wp_loop_rounds 2 ?_
      rw [rounds_succ]; go_wp2
      rw [rounds_succ]; go_wp2
      go_ret
      exact ⟨rfl, rfl⟩
  · have hz1 : ((x != 0) = true) := by simpa using hx
    have e : orI x (orI y z) = x := by simp [orI, hx]
    rw [e]; clear e
    go_enter Tryz.func91, Tryz.ntmps91
    go_wp2
    refine wp_loop_rounds 1 ?_
    rw [rounds_succ]; go_wp2
    go_ret
    exact ⟨rfl, rfl⟩

theorem heads_same {p q r c x : Int} (h : c = orI p (orI q (orI r x))) (k : orI p (orI q r) = 0) : c = x := by
  obtain ⟨h1, h2⟩ := orI_zero.1 k
  obtain ⟨h3, h4⟩ := orI_zero.1 h2
  rw [h, h1, h3, h4]; rfl
theorem heads_other {p q r c x d : Int} (h : c = orI p (orI q (orI r x))) (k : orI p (orI q r) = d) (hd : ¬ d = 0) : c = d := by
  rw [h, ← k]
  unfold orI at *
  by_cases hp : p = 0
  · by_cases hq : q = 0
    · by_cases hr : r = 0
      · simp [hp, hq, hr] at k; omega
      · simp [hp, hq, hr]
    · simp [hp, hq]
  · simp [hp]
theorem len_of {p q : Int} {m n : Nat} (h : orI p (orI q (sgn (m : Int) (n : Int))) = 0) : m = n := by
  have := sgn_zero.1 (orI_zero.1 (orI_zero.1 h).2).2
  omega
def CmpOK (t : T) : Prop := ∀ (t' : T) (a b : Option Addr) (c d : Nat) (w : World), TysAt w (.slice a t.kids.length c) t.kids → TysAt w (.slice b t'.kids.length d) t'.kids →
    Calls Tryz.prog 70 #[tyV t (.slice a t.kids.length c), tyV t' (.slice b t'.kids.length d)] w fun e w' => e = .returned (.int .i64 (cmpT t t')) ∧ Below w.heap.size w w'

theorem cmp_drop (l l' : List T) (i : Nat) (h1 : i < l.length) (h2 : i < l'.length) : cmpTs (l.drop i) (l'.drop i) = orI (cmpT l[i] l'[i]) (cmpTs (l.drop (i + 1)) (l'.drop (i + 1))) := by
  rw [List.drop_eq_getElem_cons h1, List.drop_eq_getElem_cons h2, cmpTs]

set_option maxHeartbeats 600000 in
theorem cmpFunc_of (l l' : List T) (H : ∀ t ∈ l, CmpOK t) (a b : Option Addr) (c d : Nat) (w : World) (h : TysAt w (.slice a l.length c) l) (h' : TysAt w (.slice b l'.length d) l') (hn : l.length < 1152921504606846976) (hl : l.length = l'.length) :
    Calls Tryz.prog 93 #[.slice a l.length c, .slice b l'.length d, .func (.func 70) #[] #[]] w fun e w' => e = .returned (.int .i64 (cmpTs l l')) ∧ Below w.heap.size w w' := by
  by_cases h0 : l = []
  · subst h0
    obtain rfl : l' = [] := List.length_eq_zero_iff.1 hl.symm
    rw [cmpTs]
    clear h h' H
    go_enter Tryz.func93, Tryz.ntmps93
    go_wp2
    go_loopw [13] (fun vi wr => vi = .int .i64 0 ∧ Hid (Below w.heap.size w wr)) (fun _ _ => 0)
    case atStart => exact ⟨rfl, Lib.hid (Below.refl _ _)⟩
    case round =>
      obtain ⟨rfl, hB⟩ := hrel
      go_wp2
      go_ret
      exact ⟨rfl, hB.out⟩
  · have h0' : l' ≠ [] := by intro e; rw [e] at hl; exact h0 (List.length_eq_zero_iff.1 hl)
    obtain ⟨g1, c1, e1, hg1, hc1, r1⟩ := h.row h0
    obtain ⟨g2, c2, e2, hg2, hc2, r2⟩ := h'.row h0'
    cases e1; cases e2
    have HR1 := Lib.hid r1; clear r1
    have HR2 := Lib.hid r2; clear r2
    have HS := Lib.hid H; clear H
    obtain ⟨res, hres⟩ : ∃ r, cmpTs l l' = r := ⟨_, rfl⟩
    have HRes := Lib.hid hres
    rw [hres]; clear hres h h'
    rw [← hl] at hc2 ⊢
    have HL := Lib.hid hl; clear hl
    go_enter Tryz.func93, Tryz.ntmps93
    go_wp2
    go_loopw [13] (fun vi wr => ∃ i : Nat, i ≤ l.length ∧ vi = .int .i64 i ∧ Hid (Below w.heap.size w wr) ∧ Hid (cmpTs (l.drop i) (l'.drop i) = res)) (fun vi _ => l.length - (intOf vi).toNat)
    case atStart => exact ⟨0, Nat.zero_le _, rfl, Lib.hid (Below.refl _ _), Lib.hid (by simpa using HRes.out)⟩
    case round =>
      obtain ⟨i, hi, rfl, hB, hS⟩ := hrel
      by_cases hlt : i < l.length
      · have hlt' : i < l'.length := HL.out ▸ hlt
        obtain ⟨pa, ca, x0, x1, x2, xk⟩ := HR1.out i hlt
        obtain ⟨pb, cb, y0, y1, y2, yk⟩ := HR2.out i hlt'
        have f1 := fun o => hB.out.cell (p := ⟨g1, o, none⟩) hg1
        have f2 := fun o => hB.out.cell (p := ⟨g2, o, none⟩) hg2
        rw [← f1] at x0 x1 x2; rw [← f2] at y0 y1 y2
        have k2 : ∀ o1 o2 : Obj, KeepT w ((wr.alloc o1).alloc o2) := fun o1 o2 => ((KeepT.of_below hB.out).trans (keepT_alloc _ o1)).trans (keepT_alloc _ o2)
        have HC := Lib.hid (fun o1 o2 => HS.out l[i] (List.getElem_mem hlt) l'[i] pa pb ca cb ((wr.alloc o1).alloc o2) (xk.keep (k2 o1 o2)) (yk.keep (k2 o1 o2)))
        have HD := cmp_drop l l' i hlt hlt'
        rw [hS.out] at HD
        have hgr1 : g1 < wr.heap.size := Nat.lt_of_lt_of_le hg1 hB.out.size
        have hgr2 : g2 < wr.heap.size := Nat.lt_of_lt_of_le hg2 hB.out.size
        have hlt1 : ((i : Int) < (l.length : Int)) := by omega
        clear f1 f2 xk yk k2 hS
        generalize l[i] = t at x0 x1 x2 HC HD
        generalize l'[i] = u at y0 y1 y2 HC HD
        simp only [tyV] at HC
        have HB := Lib.hid (fun o1 o2 => hB.out.trans ((((Below.refl wr.heap.size wr).alloc (Nat.le_refl _) o1).alloc (by simp) o2).mono hB.out.size)); clear hB
        by_cases hz : cmpT t u = 0
        · rw [hz] at HC
          have HD' := Lib.hid (show res = cmpTs (l.drop (i + 1)) (l'.drop (i + 1)) by rw [HD, hz]; rfl)
          clear HD hz
          go_wp2_with (go_at_call 70; refine (HC.out _ _).mono ?_; rintro e w2 ⟨rfl, hb2⟩; have HB2 := Lib.hid ((HB.out _ _).trans (hb2.mono (by simp; have := (HB.out (.cells #[] 0) (.cells #[] 0)).size; simp at this; omega))); clear hb2)
          refine ⟨⟨i + 1, by omega, by go_num, HB2, Lib.hid HD'.out.symm⟩, ?_⟩
          simp [intOf]; omega
        · have hz1 : (cmpT t u != 0) = true := by simpa using hz
          have hz2 : (cmpT t u == 0) = false := by simpa using hz
          have hq : cmpT t u = res := by rw [HD, orI, if_neg hz]
          rw [hq] at HC hz1 hz2
          clear HD HRes hq hz
          go_wp2_with (go_at_call 70; refine (HC.out _ _).mono ?_; rintro e w2 ⟨rfl, hb2⟩; have HB2 := Lib.hid ((HB.out _ _).trans (hb2.mono (by simp; have := (HB.out (.cells #[] 0) (.cells #[] 0)).size; simp at this; omega))); clear hb2)
          go_ret
          exact ⟨rfl, HB2.out⟩
      · obtain rfl : i = l.length := by omega
        have e1 : res = 0 := by
          have := hS.out
          rw [List.drop_length, HL.out, List.drop_length, cmpTs] at this
          exact this.symm
        subst e1
        clear HRes hS
        go_wp2
        go_ret
        exact ⟨rfl, hB.out⟩

set_option maxHeartbeats 2000000 in
theorem cmp_step (t : T) (H : ∀ k ∈ t.kids, CmpOK k) (hn : t.kids.length < 1152921504606846976) : CmpOK t := by
  intro t' a b c d w h h'
  have HC := Lib.hid (fun (W : World) (k : KeepT w W) (hl : t.kids.length = t'.kids.length) => cmpFunc_of t.kids t'.kids H a b c d W (h.keep k) (h'.keep k) hn hl)
  have HE := Lib.hid (cmpT_eq t t')
  have HB := Lib.hid (show ∀ o1 o2 : Obj, Below w.heap.size w ((w.alloc o1).alloc o2) from fun o1 o2 => ((Below.refl _ w).alloc (Nat.le_refl _) _).alloc (by simp) _)
  obtain ⟨hd, hhd⟩ : ∃ r, orI (sgn t.kind t'.kind) (orI (cmpL t.name.data.toList t'.name.data.toList) (sgn t.kids.length t'.kids.length)) = r := ⟨_, rfl⟩
  have HO := Lib.hid (fun (b : Nat) (W : World) h => by have := or_any b (sgn t.kind t'.kind) (cmpL t.name.data.toList t'.name.data.toList) (sgn t.kids.length t'.kids.length) W h; rw [hhd] at this; exact this)
  have HH := Lib.hid hhd
  clear H h h' hhd
  simp only [tyV]
  by_cases hz : hd = 0
  · subst hz
    have e : cmpT t t' = cmpTs t.kids t'.kids := heads_same HE.out HH.out
    rw [e]
    clear e HE
    go_enter Tryz.func70, Tryz.ntmps70
    go_wp2
    refine with_worldC (fun V => KeepT w V ∧ Below w.heap.size w V ∧ V.heap[w.heap.size]? = some (.cells #[.int .i64 t.kind, .string t.name, .slice a t.kids.length c] 31 (0, 0)) ∧ V.heap[w.heap.size + 1]? = some (.cells #[.int .i64 t'.kind, .string t'.name, .slice b t'.kids.length d] 31 (0, 0))) ⟨?_, HB.out _ _, ?_, ?_⟩ ?_
    · exact (keepT_alloc w _).trans (keepT_alloc _ _)
    · rw [Below.heap_alloc _ _ _ (by simp)]; exact alloc_new w _
    · have := alloc_new (w.alloc (.cells #[.int .i64 t.kind, .string t.name, .slice a t.kids.length c] 31)) (.cells #[.int .i64 t'.kind, .string t'.name, .slice b t'.kids.length d] 31)
      simpa using this
    rintro V ⟨hk, hb, v0, v1⟩
    obtain ⟨z0, z1, z2⟩ := three_cells v0
    obtain ⟨z3, z4, z5⟩ := three_cells v1
    have HK := Lib.hid hk; have HB := Lib.hid hb
    have al : Hid (∀ (p : Addr) (x : Value) (o : Obj), V.cell? p = some x → (V.alloc o).cell? p = some x) := Lib.hid fun p x o h => (((Below.refl V.heap.size V).alloc (Nat.le_refl _) o).cell (World.block_lt_of_cell? _ _ h)).trans h
    have l1 := (Array.getElem?_eq_some_iff.1 v1).1
    have l0 : w.heap.size < V.heap.size := by omega
    clear hk hb v0 v1
    go_region_held3 (fun V' => V'.cell? ⟨w.heap.size, 0, none⟩ = some (.int .i64 t.kind) ∧ V'.cell? ⟨w.heap.size, 1, none⟩ = some (.string t.name) ∧ V'.cell? ⟨w.heap.size, 2, none⟩ = some (.slice a t.kids.length c) ∧ V'.cell? ⟨w.heap.size + 1, 0, none⟩ = some (.int .i64 t'.kind) ∧ V'.cell? ⟨w.heap.size + 1, 1, none⟩ = some (.string t'.name) ∧ V'.cell? ⟨w.heap.size + 1, 2, none⟩ = some (.slice b t'.kids.length d)) (first | exact ⟨z0, z1, z2, z3, z4, z5⟩ | exact ⟨al.out _ _ _ z0, al.out _ _ _ z1, al.out _ _ _ z2, al.out _ _ _ z3, al.out _ _ _ z4, al.out _ _ _ z5⟩)
      (first
        | (go_at_call 92; refine (cmpInt_any _ _ _).mono ?_; rintro e w2 ⟨rfl, rfl⟩)
        | (go_at_call 69; refine (cmpStr_any _ _ _).mono ?_; rintro e w2 ⟨rfl, rfl⟩)
        | (go_at_call 91; refine (HO.out _ _ ?hh).mono ?_; (case hh => exact alloc_new _ _); rintro e w2 ⟨rfl, rfl⟩))
    all_goals
      go_wp2_with (go_at_call 93; refine (HC.out _ ?kk ?kl).mono ?_; (case kk => exact fun k cs fz h => keepT_alloc _ _ k cs fz (HK.out k cs fz h)); (case kl => exact len_of HH.out); rintro e w2 ⟨rfl, hb2⟩; have HB2 := Lib.hid hb2; clear hb2)
    all_goals go_ret
    all_goals exact ⟨rfl, (HB.out.trans (((Below.refl V.heap.size V).alloc (Nat.le_refl _) _).mono HB.out.size)).drew.trans (HB2.out.mono (by simp; omega))⟩
  · have hz1 : (hd != 0) = true := by simpa using hz
    have hz2 : (hd == 0) = false := by simpa using hz
    have e : cmpT t t' = hd := heads_other HE.out HH.out hz
    rw [e]
    clear e HE HC hz HH
    go_enter Tryz.func70, Tryz.ntmps70
    go_wp2
    refine with_worldC (fun V => KeepT w V ∧ Below w.heap.size w V ∧ V.heap[w.heap.size]? = some (.cells #[.int .i64 t.kind, .string t.name, .slice a t.kids.length c] 31 (0, 0)) ∧ V.heap[w.heap.size + 1]? = some (.cells #[.int .i64 t'.kind, .string t'.name, .slice b t'.kids.length d] 31 (0, 0))) ⟨?_, HB.out _ _, ?_, ?_⟩ ?_
    · exact (keepT_alloc w _).trans (keepT_alloc _ _)
    · rw [Below.heap_alloc _ _ _ (by simp)]; exact alloc_new w _
    · have := alloc_new (w.alloc (.cells #[.int .i64 t.kind, .string t.name, .slice a t.kids.length c] 31)) (.cells #[.int .i64 t'.kind, .string t'.name, .slice b t'.kids.length d] 31)
      simpa using this
    rintro V ⟨hk, hb, v0, v1⟩
    obtain ⟨z0, z1, z2⟩ := three_cells v0
    obtain ⟨z3, z4, z5⟩ := three_cells v1
    have HK := Lib.hid hk; have HB := Lib.hid hb
    have al : Hid (∀ (p : Addr) (x : Value) (o : Obj), V.cell? p = some x → (V.alloc o).cell? p = some x) := Lib.hid fun p x o h => (((Below.refl V.heap.size V).alloc (Nat.le_refl _) o).cell (World.block_lt_of_cell? _ _ h)).trans h
    have l1 := (Array.getElem?_eq_some_iff.1 v1).1
    have l0 : w.heap.size < V.heap.size := by omega
    clear hk hb v0 v1
    go_region_held3 (fun V' => V'.cell? ⟨w.heap.size, 0, none⟩ = some (.int .i64 t.kind) ∧ V'.cell? ⟨w.heap.size, 1, none⟩ = some (.string t.name) ∧ V'.cell? ⟨w.heap.size, 2, none⟩ = some (.slice a t.kids.length c) ∧ V'.cell? ⟨w.heap.size + 1, 0, none⟩ = some (.int .i64 t'.kind) ∧ V'.cell? ⟨w.heap.size + 1, 1, none⟩ = some (.string t'.name) ∧ V'.cell? ⟨w.heap.size + 1, 2, none⟩ = some (.slice b t'.kids.length d)) (first | exact ⟨z0, z1, z2, z3, z4, z5⟩ | exact ⟨al.out _ _ _ z0, al.out _ _ _ z1, al.out _ _ _ z2, al.out _ _ _ z3, al.out _ _ _ z4, al.out _ _ _ z5⟩)
      (first
        | (go_at_call 92; refine (cmpInt_any _ _ _).mono ?_; rintro e w2 ⟨rfl, rfl⟩)
        | (go_at_call 69; refine (cmpStr_any _ _ _).mono ?_; rintro e w2 ⟨rfl, rfl⟩)
        | (go_at_call 91; refine (HO.out _ _ ?hh).mono ?_; (case hh => exact alloc_new _ _); rintro e w2 ⟨rfl, rfl⟩))
    all_goals go_wp2
    all_goals go_ret
    all_goals exact ⟨rfl, (HB.out.trans (((Below.refl V.heap.size V).alloc (Nat.le_refl _) _).mono HB.out.size)).drew⟩
theorem cmp_ok {t : T} (h : Fits t) : CmpOK t := by
  induction h with
  | mk t h1 _ ih => exact cmp_step t ih h1
theorem compare_any {t t' : T} {v v' : Value} {w : World} (hf : Fits t) (h : TysAt w v t.kids) (h' : TysAt w v' t'.kids) :
    Calls Tryz.prog 70 #[tyV t v, tyV t' v'] w fun e w' => e = .returned (.int .i64 (cmpT t t')) ∧ Below w.heap.size w w' := by
  obtain ⟨a, c, rfl⟩ := h.shape
  obtain ⟨b, d, rfl⟩ := h'.shape
  exact cmp_ok hf t' a b c d w h h'

set_option maxHeartbeats 1000000 in
theorem same_any {t t' : T} {v v' : Value} {w : World} (hf : Fits t) (h : TysAt w v t.kids) (h' : TysAt w v' t'.kids) :
    Calls Tryz.prog 52 #[tyV t v, tyV t' v'] w fun e w' => e = .returned (.bool (cmpT t t' == 0)) ∧ Below w.heap.size w w' := by
  obtain ⟨a, c, rfl⟩ := h.shape
  obtain ⟨b, d, rfl⟩ := h'.shape
  have HC := Lib.hid (fun (W : World) (k : KeepT w W) => compare_any (w := W) hf (h.keep k) (h'.keep k))
  have HK := Lib.hid (show ∀ o1 o2 : Obj, KeepT w ((w.alloc o1).alloc o2) from fun o1 o2 => (keepT_alloc w o1).trans (keepT_alloc _ o2))
  have HB := Lib.hid (show ∀ o1 o2 : Obj, Below w.heap.size w ((w.alloc o1).alloc o2) from fun o1 o2 => ((Below.refl _ w).alloc (Nat.le_refl _) _).alloc (by simp) _)
  clear h h' hf
  simp only [tyV] at HC ⊢
  generalize cmpT t t' = q at *
  go_enter Tryz.func52, Tryz.ntmps52
  go_wp2_with (go_at_call 70; refine (HC.out _ ?kk).mono ?_; (case kk => exact HK.out _ _); rintro e w2 ⟨rfl, hb2⟩; have HB2 := Lib.hid hb2; clear hb2)
  go_ret
  exact ⟨rfl, (HB.out _ _).trans (HB2.out.mono (by simp; omega))⟩
end Go.Proofs.YtjnlchhikdfifaaGreatDoor
/- A row of pairs in a block of memory; what stays beside it. -/
namespace Go.Proofs.YtjnlchhikdfifaaGreatDoor
open Go.RowKit Go.Sort
attribute [local go_sem] Oper.semAt_some

def encP (x : PR) : List Value := [.string x.n, .int .i64 x.t.kind, .string x.t.name, .slice x.a x.t.kids.length x.c]
/-- Block g holds the pairs l, from its head on. -/
def RowP (g : Nat) (l : List PR) (w : World) : Prop :=
  ∃ cs, w.heap[g]? = some (.cells cs 90 (0, 0)) ∧ l.length * 4 ≤ cs.size ∧ ∀ i, i < l.length →
    cs[i * 4]? = some (.string (l.getD i noP).n) ∧ cs[i * 4 + 1]? = some (.int .i64 (l.getD i noP).t.kind) ∧ cs[i * 4 + 2]? = some (.string (l.getD i noP).t.name) ∧ cs[i * 4 + 3]? = some (.slice (l.getD i noP).a (l.getD i noP).t.kids.length (l.getD i noP).c)
/-- The types of the pairs lie in memory. -/
def Typ (l : List PR) (w : World) : Prop := ∀ x ∈ l, TysAt w (.slice x.a x.t.kids.length x.c) x.t.kids
theorem Typ.keep {l : List PR} {w w' : World} (h : Typ l w) (k : KeepT w w') : Typ l w' := fun x hx => (h x hx).keep k
theorem RowP.lt {g : Nat} {l : List PR} {w : World} (h : RowP g l w) : g < w.heap.size := by
  obtain ⟨cs, h1, _⟩ := h; exact (Array.getElem?_eq_some_iff.1 h1).1
theorem RowP.same {g : Nat} {l : List PR} {w w' : World} (h : RowP g l w) (k : w'.heap[g]? = w.heap[g]?) : RowP g l w' := by
  obtain ⟨cs, h1, h2⟩ := h; exact ⟨cs, k.trans h1, h2⟩
theorem RowP.below {g : Nat} {l : List PR} {w w' : World} (h : RowP g l w) (k : Below w.heap.size w w') : RowP g l w' := h.same (k.block g h.lt)
theorem RowP.cells {g : Nat} {l : List PR} {w : World} (h : RowP g l w) {i : Nat} (hi : i < l.length) :
    w.cell? ⟨g, i * 4, none⟩ = some (.string (l.getD i noP).n) ∧ w.cell? ⟨g, i * 4 + 1, none⟩ = some (.int .i64 (l.getD i noP).t.kind) ∧ w.cell? ⟨g, i * 4 + 2, none⟩ = some (.string (l.getD i noP).t.name) ∧ w.cell? ⟨g, i * 4 + 3, none⟩ = some (.slice (l.getD i noP).a (l.getD i noP).t.kids.length (l.getD i noP).c) := by
  obtain ⟨cs, h1, _, h3⟩ := h
  rw [Lib.cell_of_heap h1, Lib.cell_of_heap h1, Lib.cell_of_heap h1, Lib.cell_of_heap h1]
  exact h3 i hi
theorem RowP.free {g : Nat} {l : List PR} {w : World} (h : RowP g l w) (o : Nat) : w.frozen? ⟨g, o, none⟩ = false := by
  obtain ⟨cs, h1, _⟩ := h; exact Lib.frozen_of_heap h1 o
theorem RowP.take {g : Nat} {l : List PR} {w : World} (h : RowP g l w) (k : Nat) : RowP g (l.take k) w := by
  obtain ⟨cs, h1, h2, h3⟩ := h
  have hl : (l.take k).length ≤ l.length := by simp; omega
  refine ⟨cs, h1, by omega, fun i hi => ?_⟩
  have e : (l.take k).getD i noP = l.getD i noP := by
    have : i < k := by simp at hi; omega
    simp [List.getD, this]
  rw [e]
  exact h3 i (by omega)
theorem RowP.of_eq {g : Nat} {l m : List PR} {w : World} (h : RowP g l w) (e : l = m) : RowP g m w := e ▸ h
/-- Four stores: a pair is laid into the row. -/
def set4 (w : World) (g i : Nat) (x : PR) : World := (((w.setCell ⟨g, i * 4, none⟩ (.string x.n)).setCell ⟨g, i * 4 + 1, none⟩ (.int .i64 x.t.kind)).setCell ⟨g, i * 4 + 2, none⟩ (.string x.t.name)).setCell ⟨g, i * 4 + 3, none⟩ (.slice x.a x.t.kids.length x.c)
theorem blk_set {W : World} {b o : Nat} {cs : Array Value} {T : TypeId} {m : Nat × Nat} (h : W.heap[b]? = some (.cells cs T m)) (v : Value) : (W.setCell ⟨b, o, none⟩ v).heap[b]? = some (.cells (cs.setIfInBounds o v) T m) := by
  obtain ⟨hlt, hk⟩ := Array.getElem?_eq_some_iff.1 h
  show (W.heap.modify b _)[b]? = _
  rw [Array.getElem?_eq_getElem (by rw [Array.size_modify]; exact hlt), Array.getElem_modify_self, hk]
  rfl
theorem size_set4 (w : World) (g i : Nat) (x : PR) : (set4 w g i x).heap.size = w.heap.size := by simp [set4, World.setCell]
theorem heap_set4 (w : World) (g i : Nat) (x : PR) (k : Nat) (hk : k ≠ g) : (set4 w g i x).heap[k]? = w.heap[k]? :=
  (Below.heap_setCell _ ⟨g, i * 4 + 3, none⟩ _ k hk).trans ((Below.heap_setCell _ ⟨g, i * 4 + 2, none⟩ _ k hk).trans ((Below.heap_setCell _ ⟨g, i * 4 + 1, none⟩ _ k hk).trans (Below.heap_setCell _ ⟨g, i * 4, none⟩ _ k hk)))
theorem below_set4 (w : World) (g i : Nat) (x : PR) (N : Nat) (hN : N ≤ g) : Below N w (set4 w g i x) :=
  ((((Below.refl N w).setCell (p := ⟨g, i * 4, none⟩) hN _).setCell (p := ⟨g, i * 4 + 1, none⟩) hN _).setCell (p := ⟨g, i * 4 + 2, none⟩) hN _).setCell (p := ⟨g, i * 4 + 3, none⟩) hN _
theorem RowP.set {g : Nat} {l : List PR} {w : World} (h : RowP g l w) (i : Nat) (x : PR) : RowP g (l.set i x) (set4 w g i x) := by
  obtain ⟨cs, h1, h2, h3⟩ := h
  refine ⟨(((cs.setIfInBounds (i * 4) (.string x.n)).setIfInBounds (i * 4 + 1) (.int .i64 x.t.kind)).setIfInBounds (i * 4 + 2) (.string x.t.name)).setIfInBounds (i * 4 + 3) (.slice x.a x.t.kids.length x.c), blk_set (blk_set (blk_set (blk_set h1 _) _) _) _, by simpa using h2, fun j hj => ?_⟩
  have hj' : j < l.length := by simpa using hj
  by_cases e : j = i
  · subst e
    have e2 : (l.set j x).getD j noP = x := by simp [List.getD, hj']
    rw [e2]
    refine ⟨?_, ?_, ?_, ?_⟩ <;> (simp [Array.getElem?_setIfInBounds]; omega)
  · have e2 : (l.set i x).getD j noP = l.getD j noP := by simp [List.getD, Ne.symm e]
    rw [e2]
    obtain ⟨a1, a2, a3, a4⟩ := h3 j hj'
    refine ⟨?_, ?_, ?_, ?_⟩
    · rw [Array.getElem?_setIfInBounds_ne (by omega), Array.getElem?_setIfInBounds_ne (by omega), Array.getElem?_setIfInBounds_ne (by omega), Array.getElem?_setIfInBounds_ne (by omega)]; exact a1
    · rw [Array.getElem?_setIfInBounds_ne (by omega), Array.getElem?_setIfInBounds_ne (by omega), Array.getElem?_setIfInBounds_ne (by omega), Array.getElem?_setIfInBounds_ne (by omega)]; exact a2
    · rw [Array.getElem?_setIfInBounds_ne (by omega), Array.getElem?_setIfInBounds_ne (by omega), Array.getElem?_setIfInBounds_ne (by omega), Array.getElem?_setIfInBounds_ne (by omega)]; exact a3
    · rw [Array.getElem?_setIfInBounds_ne (by omega), Array.getElem?_setIfInBounds_ne (by omega), Array.getElem?_setIfInBounds_ne (by omega), Array.getElem?_setIfInBounds_ne (by omega)]; exact a4

/-- All but block g stays. -/
def Fr (g : Nat) (w w' : World) : Prop := Below 0 w w' ∧ ∀ k, k < w.heap.size → k ≠ g → w'.heap[k]? = w.heap[k]?
theorem Fr.refl (g : Nat) (w : World) : Fr g w w := ⟨Below.refl _ _, fun _ _ _ => rfl⟩
theorem Fr.trans {g : Nat} {a b c : World} (h : Fr g a b) (k : Fr g b c) : Fr g a c := ⟨h.1.trans k.1, fun i hi hg => (k.2 i (Nat.lt_of_lt_of_le hi h.1.size) hg).trans (h.2 i hi hg)⟩
theorem Fr.of_below {g : Nat} {w w' : World} (h : Below w.heap.size w w') : Fr g w w' := ⟨h.mono (Nat.zero_le _), fun k hk _ => h.block k hk⟩
theorem Fr.set4 (g i : Nat) (w : World) (x : PR) : Fr g w (set4 w g i x) := ⟨below_set4 w g i x 0 (Nat.zero_le _), fun k _ hg => heap_set4 w g i x k hg⟩
theorem Fr.below {g : Nat} {w w' : World} (h : Fr g w w') {N : Nat} (hg : N ≤ g) (hN : N ≤ w.heap.size) : Below N w w' := ⟨h.1.os, h.1.tape, h.1.output, h.1.size, fun k hk => h.2 k (by omega) (by omega)⟩
theorem Fr.keepT {g : Nat} {l : List PR} {w w' : World} (h : Fr g w w') (hr : RowP g l w) : KeepT w w' := by
  intro k cs fz hk
  refine (h.2 k (Array.getElem?_eq_some_iff.1 hk).1 ?_).trans hk
  rintro rfl
  obtain ⟨cs', h1, _⟩ := hr
  rw [hk] at h1
  simp at h1

/-! The sort's worlds. -/
theorem encP_len (x : PR) : (encP x).length = 4 := rfl
theorem encP_one (x : PR) : ∀ v ∈ encP x, v.oneCell' = true := by
  intro v hv
  simp only [encP, List.mem_cons, List.not_mem_nil, or_false] at hv
  rcases hv with rfl | rfl | rfl | rfl <;> rfl
theorem RowP.holds {g : Nat} {l : List PR} {w : World} (h : RowP g l w) : HoldsK encP 4 w g 0 l.toArray := by
  intro t ht
  have ht' : t < l.length * 4 := by simpa using ht
  rw [get_flatK _ _ _ _ (by simpa using ht')]
  have hb : ∀ i, i < l.length → l.toArray[i]! = l.getD i noP := fun i hi => by rw [bang _ _ (by simpa using hi)]; simp [List.getD, hi]
  refine ⟨?_, h.free _⟩
  have hi : t / 4 < l.length := by omega
  obtain ⟨a1, a2, a3, a4⟩ := h.cells hi
  rw [hb _ hi, Nat.zero_add]
  have hc : t % 4 = 0 ∨ t % 4 = 1 ∨ t % 4 = 2 ∨ t % 4 = 3 := by omega
  rcases hc with e | e | e | e
  · rw [e, show t = t / 4 * 4 by omega]; simpa [encP] using a1
  · rw [e, show t = t / 4 * 4 + 1 by omega, show (t / 4 * 4 + 1) / 4 = t / 4 by omega]; exact a2
  · rw [e, show t = t / 4 * 4 + 2 by omega, show (t / 4 * 4 + 2) / 4 = t / 4 by omega]; exact a3
  · rw [e, show t = t / 4 * 4 + 3 by omega, show (t / 4 * 4 + 3) / 4 = t / 4 by omega]; exact a4
theorem heap_sortW (w : World) (g m : Nat) (d : Array PR) (os : Array Obj) (k : Nat) (hk : k < w.heap.size) (hg : k ≠ g) : (sortWorldK encP 4 w g 0 m d os).heap[k]? = w.heap[k]? := by
  unfold sortWorldK grow putRowK putRow mapBlock
  show ((w.heap.modify g _) ++ os)[k]? = _
  rw [Array.getElem?_append_left (by simpa using hk), Array.getElem?_modify]
  simp [Ne.symm hg]
theorem block_sortW {w : World} {g : Nat} {cs : Array Value} {T : TypeId} {fz : Nat × Nat} (h : w.heap[g]? = some (.cells cs T fz)) (m : Nat) (d : Array PR) (os : Array Obj) :
    (sortWorldK encP 4 w g 0 m d os).heap[g]? = some (.cells (putCells id 0 (flatK encP 4 d) cs) T fz) := by
  unfold sortWorldK grow putRowK putRow mapBlock
  have hk := (Array.getElem?_eq_some_iff.1 h).1
  show ((w.heap.modify g _) ++ os)[g]? = _
  rw [Array.getElem?_append_left (by simpa using hk), Array.getElem?_modify]
  simp [h, onCells]
theorem Fr.sort (w : World) (g m : Nat) (d : Array PR) (os : Array Obj) : Fr g w (sortWorldK encP 4 w g 0 m d os) := by
  refine ⟨⟨rfl, rfl, rfl, ?_, fun k hk => absurd hk (Nat.not_lt_zero _)⟩, fun k hk hg => heap_sortW w g m d os k hk hg⟩
  exact size_sortWorldK_c encP 4 w g 0 m d os
theorem RowP.sort {g : Nat} {l : List PR} {w : World} (h : RowP g l w) (m : Nat) (d : Array PR) (os : Array Obj) (hs : d.size = l.length) : RowP g d.toList (sortWorldK encP 4 w g 0 m d os) := by
  obtain ⟨cs, h1, h2, _⟩ := h
  refine ⟨_, block_sortW h1 m d os, by simpa [putCells, hs] using h2, fun i hi => ?_⟩
  have hi' : i < d.size := by simpa using hi
  have hb : d[i]! = d.toList.getD i noP := by rw [bang _ _ hi']; simp [List.getD, hi']
  have key : ∀ c, c < 4 → (putCells id 0 (flatK encP 4 d) cs)[i * 4 + c]? = some ((encP (d.toList.getD i noP))[c]!) := by
    intro c hc
    have hlt : i * 4 + c < d.size * 4 := by omega
    unfold putCells
    rw [Array.getElem?_mapIdx, Array.getElem?_eq_getElem (by omega)]
    simp only [Option.map_some, size_flatK, Nat.zero_le, true_and, Nat.zero_add, hlt, if_true, Nat.sub_zero, id]
    rw [get_flatK _ _ _ _ hlt, show (i * 4 + c) / 4 = i by omega, show (i * 4 + c) % 4 = c by omega, hb]
  exact ⟨by simpa [encP] using key 0 (by decide), key 1 (by decide), key 2 (by decide), key 3 (by decide)⟩
end Go.Proofs.YtjnlchhikdfifaaGreatDoor
/- A map of numbers by texts, in memory. -/
namespace Go.Proofs.YtjnlchhikdfifaaGreatDoor
open Go.RowKit Go.Maps
attribute [local go_sem] Oper.semAt_some
/-- Block M is a map that tells each variable's place. -/
def MapV (M m : Nat) (f : ByteArray → Option Nat) (w : World) : Prop := ∃ D : DataW Unit, IsMap D ∧ w.ownsMap Tryz.prog 9 (plainElem Tryz.prog 3) M m D ∧
  ∀ n : ByteArray, n.size ≤ maxLen → Maps.has D (.string n.data.toList) = (f n).isSome ∧ D.atKey (.string n.data.toList) (.lit (.int .i64 0)) = .lit (.int .i64 ((f n).getD 0 : Nat))
theorem MapV.kept {M m : Nat} {f : ByteArray → Option Nat} {w w' : World} {row : Option Nat} (h : MapV M m f w) (hg : w.grownBy w' row) (hne : some M ≠ row) : MapV M m f w' := by
  obtain ⟨D, hD, h1, h2⟩ := h
  exact ⟨D, hD, h1.kept hg hne, h2⟩
theorem MapV.lt {M m : Nat} {f : ByteArray → Option Nat} {w : World} (h : MapV M m f w) : M < w.heap.size := by
  obtain ⟨_, _, h1, _⟩ := h; exact h1.lt
theorem MapV.look {M m : Nat} {f : ByteArray → Option Nat} {w : World} (h : MapV M m f w) (n : ByteArray) (hn : n.size ≤ maxLen) :
    (Instr.lookup 107 (.map (some M)) (.string n) true).run Tryz.prog w = .ok (.tuple #[.int .i64 ((f n).getD 0 : Nat), .bool (f n).isSome]) w := by
  obtain ⟨D, _, h1, h2⟩ := h
  obtain ⟨v, ps, hrun, hv⟩ := h1.look_ok strLaw Tryz.underlying107 (zeroInt w) (plainElem_int Tryz.underlying3 (by decide)) (Go.WideMaps.keyOf_string_mk Tryz.underlying9 hn)
  obtain ⟨c, rfl, hc, _⟩ := plainElem_int_inv Tryz.underlying3 hv
  have e : D.atKey (.string n.data.toList) (.lit (.int .i64 0)) = .lit (.int .i64 c) := congrArg Prod.fst hc
  rw [(h2 n hn).2] at e
  cases e
  rw [hrun, (h2 n hn).1]
theorem MapV.upd {M m : Nat} {f g : ByteArray → Option Nat} {w : World} (h : MapV M m f w) (hm : m < maxLen) (n : ByteArray) (hn : n.size ≤ maxLen) (x : Nat) (hx : x ≤ 4000000000000) (hg : ∀ k, g k = if k = n then some x else f k) :
    ∃ w', (Instr.mapUpdate 107 (.map (some M)) (.string n) (.int .i64 (x : Int))).run Tryz.prog w = .ok () w' ∧ MapV M (m + 1) g w' ∧ w.grownBy w' (some M) := by
  obtain ⟨D, hD, h1, h2⟩ := h
  obtain ⟨w', hrun, h3, h4⟩ := h1.update strLaw Tryz.underlying107 hm (Go.WideMaps.keyOf_string_mk Tryz.underlying9 hn) (plainElem_int Tryz.underlying3 (WalkArith.wf_i64 (n := (x : Int)) (by omega)))
  refine ⟨w', hrun, ⟨_, hD.put _ _, h3, fun k hk => ?_⟩, h4⟩
  rw [hg]
  by_cases e : k = n
  · subst e
    rw [atKey_put_same hD (by trivial), has_put_same hD (by trivial)]
    simp
  · have e2 : (Lit.string k.data.toList) ≠ .string n.data.toList := by
      intro e'
      apply e
      have : k.data.toList = n.data.toList := by injection e'
      cases k; cases n; simp_all
    rw [atKey_put_other e2, has_put_other e2, if_neg e]
    exact h2 k hk
theorem MapV.ne {M m k : Nat} {f : ByteArray → Option Nat} {w : World} {cs : Array Value} {T : TypeId} {fz : Nat × Nat} (h : MapV M m f w) (hk : w.heap[k]? = some (.cells cs T fz)) : M ≠ k := by
  rintro rfl
  obtain ⟨_, _, ⟨es, clock, hh, _⟩, _⟩ := h
  rw [hk] at hh; cases hh
theorem MapV.mono {M m m' : Nat} {f : ByteArray → Option Nat} {w : World} (h : MapV M m f w) (hm : m ≤ m') : MapV M m' f w := by
  obtain ⟨D, hD, h1, h2⟩ := h
  exact ⟨D, hD, h1.mono hm, h2⟩
theorem MapV.start (w : World) : MapV w.heap.size 0 (fun _ => none) (w.alloc (.map #[] 0)) :=
  ⟨.map [], ⟨[], rfl⟩, World.ownsMap_made (H := Unit) w Tryz.prog 9 (plainElem Tryz.prog 3), fun _ _ => ⟨rfl, rfl⟩⟩
end Go.Proofs.YtjnlchhikdfifaaGreatDoor
/- Sets of texts in memory: scheme.setOf. -/
namespace Go.Proofs.YtjnlchhikdfifaaGreatDoor
open Go.RowKit Go.Maps
attribute [local go_sem] Oper.semAt_some

theorem zeroUnit (w : World) : (zeroValue 95).run Tryz.prog w = .ok (.agg #[]) w := by kernel_rfl
/-- Block M is a set of texts, S. -/
def SetV (M m : Nat) (S : ByteArray → Bool) (w : World) : Prop := ∃ D : DataW Unit, IsMap D ∧ w.ownsMap Tryz.prog 9 unitElem M m D ∧
  ∀ n : ByteArray, n.size ≤ maxLen → Maps.has D (.string n.data.toList) = S n
theorem SetV.kept {M m : Nat} {S : ByteArray → Bool} {w w' : World} {row : Option Nat} (h : SetV M m S w) (hg : w.grownBy w' row) (hne : some M ≠ row) : SetV M m S w' := by
  obtain ⟨D, hD, h1, h2⟩ := h
  exact ⟨D, hD, h1.kept hg hne, h2⟩
theorem grown_of_belowS {w w' : World} (hb : Below w.heap.size w w') : w.grownBy w' none := ⟨hb.os, hb.tape, hb.output, hb.size, fun i hi _ => hb.block i hi⟩
theorem SetV.below {M m : Nat} {S : ByteArray → Bool} {w w' : World} (h : SetV M m S w) (hb : Below w.heap.size w w') : SetV M m S w' := h.kept (row := none) (grown_of_belowS hb) (by simp)
theorem SetV.lt {M m : Nat} {S : ByteArray → Bool} {w : World} (h : SetV M m S w) : M < w.heap.size := by
  obtain ⟨_, _, h1, _⟩ := h; exact h1.lt
theorem SetV.look {M m : Nat} {S : ByteArray → Bool} {w : World} (h : SetV M m S w) (n : ByteArray) (hn : n.size ≤ maxLen) :
    (Instr.lookup 93 (.map (some M)) (.string n) true).run Tryz.prog w = .ok (.tuple #[.agg #[], .bool (S n)]) w := by
  obtain ⟨D, _, h1, h2⟩ := h
  obtain ⟨v, ps, hrun, hv⟩ := h1.look_ok strLaw Tryz.underlying93 (zeroUnit w) unitElem_mk (Go.WideMaps.keyOf_string_mk Tryz.underlying9 hn)
  obtain ⟨rfl, _⟩ := unitElem_inv hv
  rw [hrun, h2 n hn]
theorem SetV.upd {M m : Nat} {S S' : ByteArray → Bool} {w : World} (h : SetV M m S w) (hm : m < maxLen) (n : ByteArray) (hn : n.size ≤ maxLen) (hS : ∀ k, S' k = if k = n then true else S k) :
    ∃ w', (Instr.mapUpdate 93 (.map (some M)) (.string n) (.agg #[])).run Tryz.prog w = .ok () w' ∧ SetV M (m + 1) S' w' ∧ w.grownBy w' (some M) := by
  obtain ⟨D, hD, h1, h2⟩ := h
  obtain ⟨w', hrun, h3, h4⟩ := h1.update strLaw Tryz.underlying93 hm (Go.WideMaps.keyOf_string_mk Tryz.underlying9 hn) (unitElem_mk (H := Unit))
  refine ⟨w', hrun, ⟨_, hD.put _ _, h3, fun k hk => ?_⟩, h4⟩
  rw [hS]
  by_cases e : k = n
  · subst e
    rw [has_put_same hD (by trivial)]
    simp
  · have e2 : (Lit.string k.data.toList) ≠ .string n.data.toList := by
      intro e'
      apply e
      have : k.data.toList = n.data.toList := by injection e'
      cases k; cases n; simp_all
    rw [has_put_other e2, if_neg e]
    exact h2 k hk
theorem SetV.ne {M m k : Nat} {S : ByteArray → Bool} {w : World} {cs : Array Value} {T : TypeId} {fz : Nat × Nat} (h : SetV M m S w) (hk : w.heap[k]? = some (.cells cs T fz)) : M ≠ k := by
  rintro rfl
  obtain ⟨_, _, ⟨es, clock, hh, _⟩, _⟩ := h
  rw [hk] at hh; cases hh
theorem SetV.start (w : World) : SetV w.heap.size 0 (fun _ => false) (w.alloc (.map #[] 0)) :=
  ⟨.map [], ⟨[], rfl⟩, World.ownsMap_made (H := Unit) w Tryz.prog 9 unitElem, fun _ _ => rfl⟩
theorem inB_take {l : List ByteArray} {i : Nat} (hi : i < l.length) (k : ByteArray) : inB (l.take (i + 1)) k = if k = l[i] then true else inB (l.take i) k := by
  have e : l.take (i + 1) = l.take i ++ [l[i]] := by rw [List.take_add_one, List.getElem?_eq_getElem hi]; rfl
  rw [e]
  by_cases hk : k = l[i]
  · rw [if_pos hk]; exact inB_iff.2 (List.mem_append.2 (.inr (List.mem_singleton.2 hk)))
  · rw [if_neg hk, Bool.eq_iff_iff, inB_iff, inB_iff, List.mem_append, List.mem_singleton]
    exact ⟨fun h => h.resolve_right hk, .inl⟩
set_option maxRecDepth 100000 in
set_option maxHeartbeats 2000000 in
theorem setOf_any (l : List ByteArray) (hl : l.length ≤ 1000000) (hs : ∀ n ∈ l, n.size ≤ 1000000) (a : Option Addr) (c : Nat) (w : World) (h : TextsAt w (.slice a l.length c) l) :
    Calls Tryz.prog 63 #[.slice a l.length c] w fun e w' => (∃ M, e = .returned (.map (some M)) ∧ SetV M l.length (inB l) w' ∧ w.heap.size ≤ M) ∧ Below w.heap.size w w' := by
  have HR := Lib.hid (h.part.2)
  have HS := Lib.hid hs
  have H0 := Lib.hid (SetV.start w)
  have hmm : ∀ n : Nat, (Instr.makeMap 93 (some (.int .i64 (n : Int)))).run Tryz.prog w = .ok (.map (some w.heap.size)) (w.alloc (.map #[] 0)) := fun n => by kernel_rfl
  have hb0 := Lib.hid ((Below.refl w.heap.size w).alloc (Nat.le_refl _) (.map #[] 0))
  clear h hs
  go_enter Tryz.func63, Tryz.ntmps63
  go_wp2
  go_loopw [11] (fun vi wr => ∃ i : Nat, i ≤ l.length ∧ vi = .int .i64 i ∧ Hid (SetV w.heap.size i (inB (l.take i)) wr ∧ Below w.heap.size w wr)) (fun vi _ => l.length - (intOf vi).toNat)
  case atStart => exact ⟨0, Nat.zero_le _, rfl, Lib.hid ⟨by have := H0.out; exact this, hb0.out⟩⟩
  case round =>
    obtain ⟨i, hi, rfl, hF⟩ := hrel
    by_cases hlt : i < l.length
    · have hltI : (i : Int) < (l.length : Int) := by omega
      obtain ⟨g, rfl, hc, hg, hrd⟩ := HR.out i hlt
      have hcell := hrd wr (fun k cs fz hk => (hF.out.2.block k (Array.getElem?_eq_some_iff.1 hk).1).trans hk)
      obtain ⟨w6, hup, hM6, hg6⟩ := hF.out.1.upd (S' := inB (l.take (i + 1))) (by unfold maxLen; omega) l[i] (by have := HS.out _ (List.getElem_mem hlt); unfold maxLen; omega) (fun k => inB_take hlt k)
      have H6 := Lib.hid (show SetV w.heap.size (i + 1) (inB (l.take (i + 1))) w6 ∧ Below w.heap.size w w6 from ⟨hM6, hF.out.2.grown hg6 hF.out.2.size (fun k e => by injection e with e; omega)⟩)
      have hgl : g < wr.heap.size := Nat.lt_of_lt_of_le hg hF.out.2.size
      clear hrd hM6 hg6 hF HR HS H0 hb0
      generalize l[i] = nm at *
      go_wp2
      go_roundw
      case rel => exact ⟨i + 1, by omega, by go_num, H6⟩
      case measure => simp [intOf]; omega
    · have hltI : ¬ ((i : Int) < (l.length : Int)) := by omega
      have hil : i = l.length := by omega
      rw [hil, List.take_length] at hF
      have HF := Lib.hid hF.out
      clear hF hil
      go_wp2
      go_ret
      exact ⟨⟨_, rfl, HF.out.1, Nat.le_refl _⟩, HF.out.2⟩
end Go.Proofs.YtjnlchhikdfifaaGreatDoor
/- A row of pairs is sorted by names: slices.SortStableFunc of fewer than twenty. -/
namespace Go.Proofs.YtjnlchhikdfifaaGreatDoor
open Go.RowKit Go.Sort
attribute [local go_sem] Oper.semAt_some

def pairV (x : PR) : Value := .agg #[.string x.n, .int .i64 x.t.kind, .string x.t.name, .slice x.a x.t.kids.length x.c]

set_option maxRecDepth 100000 in
set_option maxHeartbeats 1000000 in
theorem cmpP_any (x y : PR) (w : World) :
    Calls Tryz.prog 101 #[pairV x, pairV y] w fun e w' => e = .returned (.int .i64 (cmpP x y)) ∧ w' = (w.alloc (.cells (encP x).toArray 90)).alloc (.cells (encP y).toArray 90) := by
  have HC := Lib.hid (fun W => cmpStr_any x.n y.n W)
  have hr : cmpL x.n.data.toList y.n.data.toList = cmpP x y := rfl
  rw [hr] at HC
  clear hr
  generalize cmpP x y = r at *
  simp only [pairV, encP]
  go_enter Tryz.func101, Tryz.ntmps101
  go_wp2_with (go_at_call 69; refine (HC.out _).mono ?_; rintro e w2 ⟨rfl, rfl⟩)
  go_ret
  exact ⟨rfl, rfl⟩

theorem cmpP_lays (blk off size : Nat) (w : World) : CmpLays Tryz.prog 101 #[] encP 4 cmpP blk off size w := by
  intro m os dk _ x y
  refine (cmpP_any x y _).mono ?_
  rintro e w' ⟨rfl, rfl⟩
  refine ⟨rfl, 0, #[.cells (encP x).toArray 90, .cells (encP y).toArray 90], ?_⟩
  rw [alloc_eq_grow, alloc_eq_grow, grow_grow]; rfl

def insRen : Go.Shelf.Ren := ⟨fun | 20 => 121 | n => n, fun | 0 => 0 | 3 => 3 | 4 => 4 | 22 => 71 | 24 => 90 | 25 => 133 | n => n, fun n => n⟩
theorem insLay : SlLaysF0.n20 Tryz.prog insRen :=
  { mixed := by kernel_rfl
    f20 := ⟨Tryz.f121.name, by decide, by kernel_rfl⟩
    t0 := by kernel_rfl
    a0 := fun _ => by kernel_rfl
    z0 := fun _ => by kernel_rfl
    v0 := fun _ => by kernel_rfl
    t3 := by kernel_rfl
    a3 := fun _ => by kernel_rfl
    z3 := fun _ => by kernel_rfl
    v3 := fun _ => by kernel_rfl
    t4 := by kernel_rfl
    a4 := fun _ => by kernel_rfl
    z4 := fun _ => by kernel_rfl
    v4 := fun _ => by kernel_rfl
    t22 := by kernel_rfl
    a22 := fun _ => by kernel_rfl
    z22 := fun _ => by kernel_rfl
    v22 := fun _ => by kernel_rfl
    t25 := by kernel_rfl
    a25 := fun _ => by kernel_rfl
    z25 := fun _ => by kernel_rfl
    v25 := fun _ => by kernel_rfl }
theorem insert_any (g cap : Nat) (l : List PR) (w : World) (h : RowP g l w) (hl : l.length < 4611686018427387904) :
    Calls Tryz.prog 121 #[.slice (some ⟨g, 0, none⟩) l.length cap, .int .i64 0, .int .i64 (l.length : Int), .func (.func 101) #[] #[]] w fun e w' =>
      e = .returned (.tuple #[]) ∧ ∃ m os, w' = sortWorldK encP 4 w g 0 m (insertionSort ltP l.toArray 0 l.toArray.size) os := by
  have : Calls Tryz.prog 121 _ _ _ := AnyQ.insertionSortCmpFunc insLay 4 Tryz.isAgg90 Tryz.sizeOf90 encP encP_len encP_one cmpP 101 #[] g 0 cap 0 l.length l.toArray w
    (enters_of Tryz.func101 (by kernel_rfl) rfl) (cmpP_lays g 0 _ w) h.holds h.lt (Nat.zero_le _) (by simp) (by simpa using hl)
  have e : (ltOf cmpP : PR → PR → Bool) = ltP := rfl
  rw [e, List.size_toArray] at this
  simpa using this

set_option maxRecDepth 100000 in
set_option maxHeartbeats 1000000 in
theorem stable_any (g cap : Nat) (l : List PR) (w : World) (h : RowP g l w) (hl : l.length < 20) :
    Calls Tryz.prog 116 #[.slice (some ⟨g, 0, none⟩) l.length cap, .int .i64 (l.length : Int), .func (.func 101) #[] #[]] w fun e w' =>
      e = .returned (.tuple #[]) ∧ ∃ m os, w' = sortWorldK encP 4 w g 0 m (insertionSort ltP l.toArray 0 l.toArray.size) os := by
  have HI := Lib.hid (insert_any g cap l w h (by omega))
  have hz : ¬ ((20 : Int) ≤ (l.length : Int)) := by omega
  have hz2 : ¬ ((20 : Int) < (l.length : Int)) := by omega
  clear h
  generalize insertionSort ltP l.toArray 0 l.toArray.size = r at *
  go_enter Tryz.func116, Tryz.ntmps116
  go_wp2
  refine wp_loop_rounds 1 ?_
  rw [rounds_succ]
  go_wp2_with (go_at_call 121; refine HI.out.mono ?_)
  rintro e w2 ⟨rfl, m, os, rfl⟩
  go_wp2
  refine wp_loop_rounds 1 ?_
  rw [rounds_succ]
  go_wp2
  go_end0
  exact ⟨rfl, m, os, rfl⟩

theorem sortStable_any (g cap : Nat) (l : List PR) (w : World) (h : RowP g l w) (hl : l.length < 20) :
    Calls Tryz.prog 100 #[.slice (some ⟨g, 0, none⟩) l.length cap, .func (.func 101) #[] #[]] w fun e w' =>
      e = .returned (.tuple #[]) ∧ ∃ m os, w' = sortWorldK encP 4 w g 0 m (insertionSort ltP l.toArray 0 l.toArray.size) os := by
  have HI := Lib.hid (stable_any g cap l w h hl)
  clear h
  generalize insertionSort ltP l.toArray 0 l.toArray.size = r at *
  go_enter Tryz.func100, Tryz.ntmps100
  go_wp2_with (go_at_call 116; refine HI.out.mono ?_)
  rintro e w2 ⟨rfl, m, os, rfl⟩
  go_wp2
  go_end0
  exact ⟨rfl, m, os, rfl⟩

theorem sortNone (a : Option Addr) (c : Nat) (w : World) :
    Calls Tryz.prog 100 #[.slice a 0 c, .func (.func 101) #[] #[]] w fun e w' => e = .returned (.tuple #[]) ∧ w = w' := by
  have hI : ∀ W, Calls Tryz.prog 121 #[.slice a 0 c, .int .i64 0, .int .i64 0, .func (.func 101) #[] #[]] W fun e w' => e = .returned (.tuple #[]) ∧ W = w' := by
    intro W
    go_enter Tryz.func121, Tryz.ntmps121
    go_wp2
    refine wp_loop_rounds 1 ?_
    rw [rounds_succ]
    go_wp2
    go_end0
    exact ⟨rfl, rfl⟩
  have hS : ∀ W, Calls Tryz.prog 116 #[.slice a 0 c, .int .i64 0, .func (.func 101) #[] #[]] W fun e w' => e = .returned (.tuple #[]) ∧ W = w' := by
    intro W
    go_enter Tryz.func116, Tryz.ntmps116
    go_wp2
    refine wp_loop_rounds 1 ?_
    rw [rounds_succ]
    go_wp2_with (go_at_call 121; refine (hI _).mono ?_)
    rintro e w2 ⟨rfl, rfl⟩
    go_wp2
    refine wp_loop_rounds 1 ?_
    rw [rounds_succ]
    go_wp2
    go_end0
    exact ⟨rfl, rfl⟩
  go_enter Tryz.func100, Tryz.ntmps100
  go_wp2_with (go_at_call 116; refine (hS _).mono ?_)
  rintro e w2 ⟨rfl, rfl⟩
  go_wp2
  go_end0
  exact ⟨rfl, rfl⟩
end Go.Proofs.YtjnlchhikdfifaaGreatDoor
/- clear of a row's tail; whether two pairs have one name. -/
namespace Go.Proofs.YtjnlchhikdfifaaGreatDoor
open Go.RowKit Go.Sort
attribute [local go_sem] Oper.semAt_some

set_option maxRecDepth 100000 in
set_option maxHeartbeats 1000000 in
theorem eqP_any (x y : PR) (w : World) :
    Calls Tryz.prog 103 #[pairV x, pairV y] w fun e w' => e = .returned (.bool (x.n.toList == y.n.toList)) ∧ Below w.heap.size w w' := by
  have HB := Lib.hid (show ∀ o1 o2 : Obj, Below w.heap.size w ((w.alloc o1).alloc o2) from fun o1 o2 => ((Below.refl _ w).alloc (Nat.le_refl _) _).alloc (by simp) _)
  simp only [pairV]
  go_enter Tryz.func103, Tryz.ntmps103
  go_wp2
  go_ret
  exact ⟨rfl, HB.out _ _⟩

theorem heap_setCells (g : Nat) : ∀ (vs : List Value) (o : Nat) (w : World) (k : Nat), k ≠ g → (w.setCells g o vs).heap[k]? = w.heap[k]?
  | [], _, _, _, _ => rfl
  | v :: r, o, w, k, hk => by
    rw [World.setCells, heap_setCells g r (o + 1) _ k hk]
    exact Below.heap_setCell _ ⟨g, o, none⟩ _ k hk
theorem below_setCells (g N : Nat) (hN : N ≤ g) : ∀ (vs : List Value) (o : Nat) (w : World), Below N w (w.setCells g o vs)
  | [], _, w => Below.refl N w
  | v :: r, o, w => by
    rw [World.setCells]
    exact ((Below.refl N w).setCell (p := ⟨g, o, none⟩) hN v).trans (below_setCells g N hN r (o + 1) _)
theorem block_setCells (g : Nat) {T : TypeId} {fz : Nat × Nat} : ∀ (vs : List Value) (o : Nat) (w : World) (cs : Array Value), w.heap[g]? = some (.cells cs T fz) →
    ∃ cs', (w.setCells g o vs).heap[g]? = some (.cells cs' T fz) ∧ cs'.size = cs.size ∧ ∀ j, j < o → cs'[j]? = cs[j]?
  | [], _, _, cs, h => ⟨cs, h, rfl, fun _ _ => rfl⟩
  | v :: r, o, w, cs, h => by
    obtain ⟨cs', h1, h2, h3⟩ := block_setCells g r (o + 1) (w.setCell ⟨g, o, none⟩ v) _ (blk_set h v)
    refine ⟨cs', h1, by simpa using h2, fun j hj => ?_⟩
    rw [h3 j (by omega), Array.getElem?_setIfInBounds_ne (by omega)]
theorem Fr.setCells (g : Nat) (vs : List Value) (o : Nat) (w : World) : Fr g w (w.setCells g o vs) := ⟨below_setCells g 0 (Nat.zero_le _) vs o w, fun k _ hg => heap_setCells g vs o w k hg⟩
theorem RowP.setCells {g : Nat} {l : List PR} {w : World} (h : RowP g l w) (k : Nat) (hk : k ≤ l.length) (vs : List Value) : RowP g (l.take k) (w.setCells g (k * 4) vs) := by
  obtain ⟨cs, h1, h2, h3⟩ := h.take k
  obtain ⟨cs', e1, e2, e3⟩ := block_setCells g vs (k * 4) w cs h1
  refine ⟨cs', e1, by omega, fun i hi => ?_⟩
  have hik : i < k := by simp at hi; omega
  rw [e3 _ (by omega), e3 _ (by omega), e3 _ (by omega), e3 _ (by omega)]
  exact h3 i hi

def zeroP : Array Value := #[.string ⟨#[]⟩, .int .i64 0, .string ⟨#[]⟩, .slice none 0 0]
theorem zeroP_one : ∀ v ∈ zeroP, v.oneCell' = true := by
  intro v hv
  simp [zeroP] at hv
  rcases hv with rfl | rfl | rfl | rfl <;> rfl
theorem zeroCells_one (n : Nat) : ∀ v ∈ (Builtin.zeroCells zeroP n).toList, v.oneCell' = true := by
  intro v hv
  simp only [Builtin.zeroCells, Array.toList_map, List.mem_map] at hv
  obtain ⟨i, _, rfl⟩ := hv
  have h4 : i % zeroP.size < zeroP.size := Nat.mod_lt _ (by decide)
  rw [getElem!_pos zeroP _ h4]
  exact zeroP_one _ (Array.getElem_mem _)
theorem run_clear (w : World) (g k : Nat) (l : List PR) (h : RowP g l w) (hk : k < l.length) (c : Nat) (ty : TypeId) :
    (Builtin.clear_ #[71] ty #[.slice (some ⟨g, k * 4, none⟩) (l.length - k) c]).run Tryz.prog w = .ok (.tuple #[]) (w.setCells g (k * 4) (Builtin.zeroCells zeroP (l.length - k)).toList) := by
  have hz : ∀ w, (zeroValue 90).run Tryz.prog w = .ok (.agg zeroP) w := fun _ => by kernel_rfl
  have hlen : (Builtin.zeroCells zeroP (l.length - k)).toList.length = (l.length - k) * 4 := by simp [Builtin.zeroCells, zeroP]
  obtain ⟨cs, h1, h2, _⟩ := h
  have hst := run_storeCells_cells (P := Tryz.prog) g (k * 4) (Builtin.zeroCells zeroP (l.length - k)).toList 0 w (fun j hj => by rw [hlen] at hj; rw [Lib.cell_of_heap h1, Array.getElem?_eq_getElem (by omega)]; rfl) (fun j _ => Lib.frozen_of_heap h1 _) (zeroCells_one _)
  simp only [Nat.add_zero] at hst
  obtain ⟨m, hm⟩ : ∃ m, l.length - k = m + 1 := ⟨l.length - k - 1, by omega⟩
  rw [hm] at hst ⊢
  simp [Builtin.clear_, run_underlying (Tryz.underlying71), hz, Value.cells, hst]
end Go.Proofs.YtjnlchhikdfifaaGreatDoor
