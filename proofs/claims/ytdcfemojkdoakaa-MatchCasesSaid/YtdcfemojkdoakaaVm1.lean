/- Merged: TyPlain, TyPure, UfPure, UfMost, UfEnds, TyMem, TySame, TyCmp, TyFind, TyVars, TySize. -/
import Derived.WalkKit
import Derived.Test.YtdcfemojkdoakaaRows
import Derived.Test.YtdcfemojkdoakaaChecked
import Derived.WalkSpells
import Derived.WalkLawsBesides
import Derived.Lib.Hide
import Derived.BigQuiet
import Derived.Maps.AppendAt
import Derived.OwnWalk
import Derived.Deep.RegionWith
import Derived.Lib.Strings
import Derived.Lib.Slices
import Derived.LoopN
import Derived.Deep.CutRange
import Derived.BigRegion
import Derived.Deep.RegionHeld3
import Derived.Deep.DrawnRows
import Derived.Maps.OwnOps
import Derived.Maps.Views
import Derived.Deep.AppendLies
import Derived.Deep.RegionLaw
import Derived.Carry
/- Types as plain data, their texts, and that unlike types have unlike texts. -/
namespace Go.Proofs.Ytdcfemojkdoakaa

inductive T where
  | var (n : ByteArray)
  | con (n : ByteArray) (l : List T)
  | fn (a b : T)
  | all (n : ByteArray) (a : T)

namespace T
def arrow : T → Bool
  | fn _ _ => true
  | all _ _ => true
  | _ => false
def wide : T → Bool
  | fn _ _ => true
  | all _ _ => true
  | con _ l => !l.isEmpty
  | var _ => false
def br (b : Bool) (s : List UInt8) : List UInt8 := if b then [40] ++ (s ++ [41]) else s
mutual
def text : T → List UInt8
  | var n => n.data.toList
  | con n l => n.data.toList ++ texts l
  | fn a b => br a.arrow (text a) ++ ([32, 45, 62, 32] ++ text b)
  | all n a => [102, 111, 114, 97, 108, 108, 32] ++ (n.data.toList ++ ([46, 32] ++ text a))
def texts : List T → List UInt8
  | [] => []
  | t :: r => ([32] ++ br t.wide (text t)) ++ texts r
end
def arg (t : T) : List UInt8 := br t.wide t.text
theorem texts_cons (t : T) (r : List T) : texts (t :: r) = ([32] ++ arg t) ++ texts r := by rw [texts]; rfl

/-- The names of types that the statement makes. -/
def vnames : List (List UInt8) := [[97], [98], [99]]
def cnames : List (List UInt8) := [[73, 110, 116], [66, 111, 111, 108], [76, 105, 115, 116], [80, 97, 105, 114]]
def classes : List (List UInt8) := [[69, 113], [79, 114, 100], [83, 104, 111, 119], [78, 117, 109]]
mutual
def Good : T → Prop
  | var n => n.data.toList ∈ vnames
  | con n l => n.data.toList ∈ cnames ∧ Goods l
  | fn a b => Good a ∧ Good b
  | all _ _ => False
def Goods : List T → Prop
  | [] => True
  | t :: r => Good t ∧ Goods r
end

def isL (c : UInt8) : Bool := (97 ≤ c && c ≤ 122) || (65 ≤ c && c ≤ 90)
def nam (s : List UInt8) : List UInt8 := s.takeWhile isL
def rst (s : List UInt8) : List UInt8 := s.dropWhile isL
def upper (s : List UInt8) : Bool := match s with
  | c :: _ => 65 ≤ c && c ≤ 90
  | [] => false

mutual
def pT : Nat → List UInt8 → Option (T × List UInt8)
  | 0, _ => none
  | f + 1, s => match pA f s with
    | some (a, 32 :: 45 :: 62 :: 32 :: r) => match pT f r with
      | some (b, r') => some (fn a b, r')
      | none => none
    | x => x
def pA : Nat → List UInt8 → Option (T × List UInt8)
  | 0, _ => none
  | f + 1, 40 :: r => match pT f r with
    | some (a, 41 :: r') => some (a, r')
    | _ => none
  | f + 1, s => if upper s then (match pArgs f (rst s) with
      | some (l, r) => some (con ⟨(nam s).toArray⟩ l, r)
      | none => none) else some (var ⟨(nam s).toArray⟩, rst s)
def pArgs : Nat → List UInt8 → Option (List T × List UInt8)
  | 0, _ => none
  | f + 1, 32 :: c :: r => if c == 45 then some ([], 32 :: c :: r) else match pArg f (c :: r) with
    | some (t, r1) => match pArgs f r1 with
      | some (l, r2) => some (t :: l, r2)
      | none => none
    | none => none
  | _ + 1, s => some ([], s)
def pArg : Nat → List UInt8 → Option (T × List UInt8)
  | 0, _ => none
  | f + 1, 40 :: r => match pT f r with
    | some (a, 41 :: r') => some (a, r')
    | _ => none
  | _ + 1, s => if upper s then some (con ⟨(nam s).toArray⟩ [], rst s) else some (var ⟨(nam s).toArray⟩, rst s)
end

/-- What stands behind a type's text: no letter, and no blank but that of an arrow. -/
def NL (x : List UInt8) : Prop := ∀ c r, x = c :: r → isL c = false
def Behind (x : List UInt8) : Prop := NL x ∧ ∀ c r, x = 32 :: c :: r → c = 45
def End (x : List UInt8) : Prop := x = [] ∨ ∃ r, x = 41 :: r ∨ x = 44 :: r
theorem End.nl {x : List UInt8} (h : End x) : NL x := by
  rcases h with rfl | ⟨r, rfl | rfl⟩
  · intro c r h; cases h
  · intro c r h; cases h; decide
  · intro c r h; cases h; decide
theorem End.behind {x : List UInt8} (h : End x) : Behind x := by
  refine ⟨h.nl, ?_⟩
  rcases h with rfl | ⟨r, rfl | rfl⟩
  · intro c r h; cases h
  · intro c r h; cases h
  · intro c r h; cases h
theorem nam_of {n x : List UInt8} (hn : n.all isL = true) (hx : NL x) : nam (n ++ x) = n ∧ rst (n ++ x) = x := by
  induction n with
  | nil =>
    cases x with
    | nil => exact ⟨rfl, rfl⟩
    | cons c r =>
      have := hx c r rfl
      simp [nam, rst, this]
  | cons c r ih =>
    simp at hn
    have := ih (by simpa using hn.2)
    simp [nam, rst, hn.1] at this ⊢
    exact this
theorem vname {n : List UInt8} (h : n ∈ vnames) : n.all isL = true ∧ (∀ x, upper (n ++ x) = false) ∧ (∀ x r, n ++ x ≠ 40 :: r) ∧ n ∉ classes := by
  simp [vnames] at h
  rcases h with rfl | rfl | rfl <;> exact ⟨by decide, fun x => rfl, fun x r h => (by cases h), by decide⟩
theorem cname {n : List UInt8} (h : n ∈ cnames) : n.all isL = true ∧ (∀ x, upper (n ++ x) = true) ∧ (∀ x r, n ++ x ≠ 40 :: r) ∧ n ∉ classes := by
  simp [cnames] at h
  rcases h with rfl | rfl | rfl | rfl <;> exact ⟨by decide, fun x => rfl, fun x r h => (by cases h), by decide⟩
theorem arr_list (n : ByteArray) : (⟨(n.data.toList).toArray⟩ : ByteArray) = n := by cases n; simp

theorem pA_name (f : Nat) (s : List UInt8) (h : ∀ r, s ≠ 40 :: r) : pA (f + 1) s = if upper s then (match pArgs f (rst s) with
      | some (l, r) => some (con ⟨(nam s).toArray⟩ l, r)
      | none => none) else some (var ⟨(nam s).toArray⟩, rst s) := by
  rw [pA]
  exact fun r e => h r e
theorem pArg_name (f : Nat) (s : List UInt8) (h : ∀ r, s ≠ 40 :: r) : pArg (f + 1) s = if upper s then some (con ⟨(nam s).toArray⟩ [], rst s) else some (var ⟨(nam s).toArray⟩, rst s) := by
  rw [pArg]
  exact fun r e => h r e
theorem pT_plain (f : Nat) (s x : List UInt8) (a : T) (h : pA f s = some (a, x)) (hx : ∀ r, x ≠ 32 :: 45 :: 62 :: 32 :: r) : pT (f + 1) s = some (a, x) := by
  rw [pT, h]
  split
  · rename_i h'; cases h'; exact absurd rfl (hx _)
  · rfl
theorem pArgs_end (f : Nat) (x : List UInt8) (h : Behind x) : pArgs (f + 1) x = some ([], x) := by
  cases x with
  | nil => rw [pArgs]; intro c r h; cases h
  | cons c r =>
    cases r with
    | nil => rw [pArgs]; intro c r h; cases h
    | cons d r =>
      by_cases hc : c = 32
      · subst hc
        have := h.2 d r rfl
        subst this
        rw [pArgs]; rfl
      · rw [pArgs]
        intro c' r' h'; cases h'; exact hc rfl

mutual
theorem text_read (t : T) (hg : Good t) (x : List UInt8) : (t.arrow = false → Behind x → ∃ n, ∀ f, n ≤ f → pA f (text t ++ x) = some (t, x)) ∧ (End x → ∃ n, ∀ f, n ≤ f → pT f (text t ++ x) = some (t, x)) := by
  have fin : (t.arrow = false → Behind x → ∃ n, ∀ f, n ≤ f → pA f (text t ++ x) = some (t, x)) → t.arrow = false → (End x → ∃ n, ∀ f, n ≤ f → pT f (text t ++ x) = some (t, x)) := by
    intro h ha he
    obtain ⟨n, hn⟩ := h ha he.behind
    refine ⟨n + 1, fun f hf => ?_⟩
    obtain ⟨g, rfl⟩ : ∃ g, f = g + 1 := ⟨f - 1, by omega⟩
    refine pT_plain g _ x t (hn g (by omega)) ?_
    rcases he with rfl | ⟨r, rfl | rfl⟩ <;> intro r h <;> cases h
  cases t with
  | var n =>
    rw [Good] at hg
    obtain ⟨h1, h2, h3, _⟩ := vname hg
    have A : (var n).arrow = false → Behind x → ∃ k, ∀ f, k ≤ f → pA f (text (var n) ++ x) = some (var n, x) := by
      intro _ hb
      refine ⟨1, fun f hf => ?_⟩
      obtain ⟨g, rfl⟩ : ∃ g, f = g + 1 := ⟨f - 1, by omega⟩
      rw [text, pA_name g _ (h3 x), h2 x]
      obtain ⟨e1, e2⟩ := nam_of h1 hb.1
      rw [e1, e2, arr_list]
      rfl
    exact ⟨A, fin A rfl⟩
  | con n l =>
    rw [Good] at hg
    obtain ⟨h1, h2, h3, _⟩ := cname hg.1
    have A : (con n l).arrow = false → Behind x → ∃ k, ∀ f, k ≤ f → pA f (text (con n l) ++ x) = some (con n l, x) := by
      intro _ hb
      obtain ⟨k, hk⟩ := texts_read l hg.2 x hb
      refine ⟨k + 1, fun f hf => ?_⟩
      obtain ⟨g, rfl⟩ : ∃ g, f = g + 1 := ⟨f - 1, by omega⟩
      rw [text, List.append_assoc, pA_name g _ (h3 _), h2 _]
      have hnl : NL (texts l ++ x) := by
        cases l with
        | nil => rw [texts]; exact hb.1
        | cons t r => intro c r' h; rw [texts] at h; cases h; decide
      obtain ⟨e1, e2⟩ := nam_of h1 hnl
      rw [e1, e2, arr_list, hk g (by omega)]
      rfl
    exact ⟨A, fin A rfl⟩
  | fn a b =>
    rw [Good] at hg
    refine ⟨fun h => (by cases h), fun he => ?_⟩
    obtain ⟨nb, hb⟩ := (text_read b hg.2 x).2 he
    have hA : ∃ n, ∀ f, n ≤ f → pA f (br a.arrow (text a) ++ ([32, 45, 62, 32] ++ (text b ++ x))) = some (a, [32, 45, 62, 32] ++ (text b ++ x)) := by
      by_cases ha : a.arrow = true
      · obtain ⟨n, hn⟩ := (text_read a hg.1 (41 :: ([32, 45, 62, 32] ++ (text b ++ x)))).2 (.inr ⟨_, .inl rfl⟩)
        refine ⟨n + 1, fun f hf => ?_⟩
        obtain ⟨g, rfl⟩ : ∃ g, f = g + 1 := ⟨f - 1, by omega⟩
        have e : br a.arrow (text a) ++ ([32, 45, 62, 32] ++ (text b ++ x)) = 40 :: (text a ++ 41 :: ([32, 45, 62, 32] ++ (text b ++ x))) := by simp [br, ha]
        rw [e, pA, hn g (by omega)]
        rfl
      · have ha' : a.arrow = false := by simpa using ha
        obtain ⟨n, hn⟩ := (text_read a hg.1 ([32, 45, 62, 32] ++ (text b ++ x))).1 ha' ⟨fun c r h => (by cases h; decide), fun c r h => (by cases h; rfl)⟩
        exact ⟨n, fun f hf => by rw [br, ha', if_neg (by decide)]; exact hn f hf⟩
    obtain ⟨na, ha⟩ := hA
    refine ⟨na + nb + 1, fun f hf => ?_⟩
    obtain ⟨g, rfl⟩ : ∃ g, f = g + 1 := ⟨f - 1, by omega⟩
    rw [text, List.append_assoc, List.append_assoc, pT, ha g (by omega)]
    show (match pT g (text b ++ x) with | some (b, r') => some (fn a b, r') | none => none) = _
    rw [hb g (by omega)]
  | all n a => rw [Good] at hg; exact hg.elim
theorem texts_read (l : List T) (hg : Goods l) (x : List UInt8) (hb : Behind x) : ∃ n, ∀ f, n ≤ f → pArgs f (texts l ++ x) = some (l, x) := by
  cases l with
  | nil =>
    refine ⟨1, fun f hf => ?_⟩
    obtain ⟨g, rfl⟩ : ∃ g, f = g + 1 := ⟨f - 1, by omega⟩
    rw [texts]
    exact pArgs_end g x hb
  | cons t r =>
    rw [Goods] at hg
    obtain ⟨n2, h2⟩ := texts_read r hg.2 x hb
    have hnl : NL (texts r ++ x) := by
      cases r with
      | nil => rw [texts]; exact hb.1
      | cons t' r' => intro c r'' h; rw [texts] at h; cases h; decide
    have h1 : ∃ n, ∀ f, n ≤ f → pArg f (br t.wide (text t) ++ (texts r ++ x)) = some (t, texts r ++ x) := by
      by_cases hw : t.wide = true
      · obtain ⟨n, hn⟩ := (text_read t hg.1 (41 :: (texts r ++ x))).2 (.inr ⟨_, .inl rfl⟩)
        refine ⟨n + 1, fun f hf => ?_⟩
        obtain ⟨g, rfl⟩ : ∃ g, f = g + 1 := ⟨f - 1, by omega⟩
        have e : br t.wide (text t) ++ (texts r ++ x) = 40 :: (text t ++ 41 :: (texts r ++ x)) := by simp [br, hw]
        rw [e, pArg, hn g (by omega)]
        rfl
      · refine ⟨1, fun f hf => ?_⟩
        obtain ⟨g, rfl⟩ : ∃ g, f = g + 1 := ⟨f - 1, by omega⟩
        have hw' : t.wide = false := by simpa using hw
        have hg1 := hg.1
        cases t with
        | var n =>
          rw [Good] at hg1
          obtain ⟨h1, h2, h3, _⟩ := vname hg1
          rw [br, hw', if_neg (by decide), text, pArg_name g _ (h3 _), h2 _]
          obtain ⟨e1, e2⟩ := nam_of h1 hnl
          rw [e1, e2, arr_list]
          rfl
        | con n l =>
          rw [Good] at hg1
          obtain ⟨h1, h2, h3, _⟩ := cname hg1.1
          have hl : l = [] := by simpa [wide] using hw'
          subst hl
          rw [br, hw', if_neg (by decide), text, texts, List.append_nil, pArg_name g _ (h3 _), h2 _]
          obtain ⟨e1, e2⟩ := nam_of h1 hnl
          rw [e1, e2, arr_list]
          rfl
        | fn a b => cases hw'
        | all n a => cases hw'
    obtain ⟨n1, h1⟩ := h1
    have hhd : ∃ c q, br t.wide (text t) ++ (texts r ++ x) = c :: q ∧ c ≠ 45 := by
      have hg1 := hg.1
      by_cases hw : t.wide = true
      · exact ⟨40, text t ++ 41 :: (texts r ++ x), by simp [br, hw], by decide⟩
      · have hw' : t.wide = false := by simpa using hw
        have hne : ∀ n : List UInt8, n.all isL = true → n ≠ [] → ∃ c q, n = c :: q ∧ c ≠ 45 := by
          intro n hn h0
          cases n with
          | nil => exact absurd rfl h0
          | cons c q => exact ⟨c, q, rfl, fun e => by subst e; simp [isL] at hn⟩
        cases t with
        | var n =>
          rw [Good] at hg1
          obtain ⟨c, q, e, hc⟩ := hne _ (vname hg1).1 (by intro e; rw [e] at hg1; exact absurd hg1 (by decide))
          exact ⟨c, q ++ (texts r ++ x), by rw [br, hw', if_neg (by decide), text, e]; rfl, hc⟩
        | con n l =>
          rw [Good] at hg1
          obtain ⟨c, q, e, hc⟩ := hne _ (cname hg1.1).1 (by intro e; rw [e] at hg1; exact absurd hg1.1 (by decide))
          have hl : l = [] := by simpa [wide] using hw'
          subst hl
          exact ⟨c, q ++ (texts r ++ x), by rw [br, hw', if_neg (by decide), text, texts, e]; simp, hc⟩
        | fn a b => cases hw'
        | all n a => cases hw'
    obtain ⟨c, q, hcq, hc⟩ := hhd
    refine ⟨n1 + n2 + 1, fun f hf => ?_⟩
    obtain ⟨g, rfl⟩ : ∃ g, f = g + 1 := ⟨f - 1, by omega⟩
    have e : texts (t :: r) ++ x = 32 :: c :: q := by rw [texts, ← hcq]; simp
    rw [e, pArgs, if_neg (by simpa using hc), ← hcq, h1 g (by omega)]
    show (match pArgs g (texts r ++ x) with | some (l, r2) => some (t :: l, r2) | none => none) = _
    rw [h2 g (by omega)]
end

theorem text_inj {t u : T} (ht : Good t) (hu : Good u) (h : text t = text u) : t = u := by
  obtain ⟨n, hn⟩ := (text_read t ht []).2 (.inl rfl)
  obtain ⟨m, hm⟩ := (text_read u hu []).2 (.inl rfl)
  have a := hn (n + m) (by omega)
  have b := hm (n + m) (by omega)
  rw [h, b] at a
  cases a; rfl
end T
end Go.Proofs.Ytdcfemojkdoakaa
/- Types as plain data: their order, how many parts, the parts, the free variables. -/
namespace Go.Proofs.Ytdcfemojkdoakaa

namespace T
def kind : T → Int
  | var _ => 1
  | con _ _ => 2
  | fn _ _ => 3
  | all _ _ => 4
def name : T → ByteArray
  | var n => n
  | con n _ => n
  | fn _ _ => ⟨#[]⟩
  | all n _ => n
def kids : T → List T
  | var _ => []
  | con _ l => l
  | fn a b => [a, b]
  | all _ a => [a]
theorem kid_size {t k : T} (h : k ∈ t.kids) : SizeOf.sizeOf k < SizeOf.sizeOf t := by
  cases t with
  | var n => cases h
  | con n l => have := List.sizeOf_lt_of_mem h; simp [kids] at this ⊢; omega
  | fn a b =>
    simp [kids] at h
    rcases h with rfl | rfl <;> simp <;> omega
  | all n a =>
    simp [kids] at h
    subst h; simp; omega
theorem kind_pos (t : T) : 1 ≤ t.kind ∧ t.kind ≤ 4 := by cases t <;> simp [kind]
theorem ext3 {t u : T} (h1 : t.kind = u.kind) (h2 : t.name = u.name) (h3 : t.kids = u.kids) : t = u := by
  cases t <;> cases u <;> simp_all [kind, name, kids]
end T

/-- -1, 0, 1. -/
def sgn (a b : Int) : Int := if a < b then -1 else if b < a then 1 else 0
/-- The first that is not 0. -/
def orI (a b : Int) : Int := if a = 0 then b else a
def Tri (p q r : Int) : Prop :=
  (p ≤ 0 → q ≤ 0 → r ≤ 0) ∧ (0 ≤ p → 0 ≤ q → 0 ≤ r) ∧ (p ≤ 0 → q ≤ 0 → r = 0 → p = 0 ∧ q = 0) ∧ (0 ≤ p → 0 ≤ q → r = 0 → p = 0 ∧ q = 0)
theorem sgn_neg (a b : Int) : sgn b a = - sgn a b := by unfold sgn; (repeat' split) <;> omega
theorem sgn_zero {a b : Int} : sgn a b = 0 ↔ a = b := by unfold sgn; (repeat' split) <;> omega
theorem sgn_tri (a b c : Int) : Tri (sgn a b) (sgn b c) (sgn a c) := by
  unfold Tri sgn
  (repeat' split) <;> omega
theorem orI_neg (p q : Int) : orI (-p) (-q) = - orI p q := by unfold orI; (repeat' split) <;> omega
theorem orI_zero {p q : Int} : orI p q = 0 ↔ p = 0 ∧ q = 0 := by unfold orI; split <;> omega
theorem orI_tri {p q r p' q' r' : Int} (h : Tri p q r) (h' : Tri p' q' r') : Tri (orI p p') (orI q q') (orI r r') := by
  obtain ⟨a1, a2, a3, a4⟩ := h
  obtain ⟨b1, b2, b3, b4⟩ := h'
  unfold Tri
  by_cases hp : p = 0 <;> by_cases hq : q = 0 <;> by_cases hr : r = 0
  · rw [orI, if_pos hp, orI, if_pos hq, orI, if_pos hr]; exact ⟨b1, b2, b3, b4⟩
  · exact absurd (show r = 0 by have := a1 (by omega) (by omega); have := a2 (by omega) (by omega); omega) hr
  · rw [orI, if_pos hp, orI, if_neg hq, orI, if_pos hr]
    exact ⟨fun _ _ => absurd (a3 (by omega) (by omega) hr).2 hq, fun _ _ => absurd (a4 (by omega) (by omega) hr).2 hq, fun _ _ => absurd (a3 (by omega) (by omega) hr).2 hq, fun _ _ => absurd (a4 (by omega) (by omega) hr).2 hq⟩
  · rw [orI, if_pos hp, orI, if_neg hq, orI, if_neg hr]
    exact ⟨fun _ _ => a1 (by omega) (by omega), fun _ _ => a2 (by omega) (by omega), fun _ _ h => absurd h hr, fun _ _ h => absurd h hr⟩
  · rw [orI, if_neg hp, orI, if_pos hq, orI, if_pos hr]
    exact ⟨fun _ _ => absurd (a3 (by omega) (by omega) hr).1 hp, fun _ _ => absurd (a4 (by omega) (by omega) hr).1 hp, fun _ _ => absurd (a3 (by omega) (by omega) hr).1 hp, fun _ _ => absurd (a4 (by omega) (by omega) hr).1 hp⟩
  · rw [orI, if_neg hp, orI, if_pos hq, orI, if_neg hr]
    exact ⟨fun _ _ => a1 (by omega) (by omega), fun _ _ => a2 (by omega) (by omega), fun _ _ h => absurd h hr, fun _ _ h => absurd h hr⟩
  · rw [orI, if_neg hp, orI, if_neg hq, orI, if_pos hr]
    exact ⟨fun h k => absurd (a3 h k hr).1 hp, fun h k => absurd (a4 h k hr).1 hp, fun h k _ => absurd (a3 h k hr).1 hp, fun h k _ => absurd (a4 h k hr).1 hp⟩
  · rw [orI, if_neg hp, orI, if_neg hq, orI, if_neg hr]
    exact ⟨a1, a2, a3, a4⟩
def Unit1 (p : Int) : Prop := p = -1 ∨ p = 0 ∨ p = 1
theorem sgn_unit (a b : Int) : Unit1 (sgn a b) := by unfold sgn Unit1; (repeat' split) <;> omega
theorem orI_unit {p q : Int} (h : Unit1 p) (k : Unit1 q) : Unit1 (orI p q) := by unfold orI; split <;> assumption

def cmpL : List UInt8 → List UInt8 → Int
  | [], [] => 0
  | [], _ :: _ => -1
  | _ :: _, [] => 1
  | a :: x, b :: y => orI (sgn a.toNat b.toNat) (cmpL x y)
theorem cmpL_neg : ∀ x y, cmpL y x = - cmpL x y
  | [], [] => rfl
  | [], _ :: _ => rfl
  | _ :: _, [] => rfl
  | a :: x, b :: y => by rw [cmpL, cmpL, sgn_neg, cmpL_neg x y, orI_neg]
theorem u8_eq {a b : UInt8} : (a.toNat : Int) = b.toNat ↔ a = b := by
  constructor
  · intro h
    exact UInt8.toNat_inj.1 (by omega)
  · rintro rfl; rfl
theorem cmpL_zero : ∀ {x y}, cmpL x y = 0 ↔ x = y
  | [], [] => by simp [cmpL]
  | [], _ :: _ => by simp [cmpL]
  | _ :: _, [] => by simp [cmpL]
  | a :: x, b :: y => by rw [cmpL, orI_zero, sgn_zero, cmpL_zero, u8_eq]; simp
theorem cmpL_unit : ∀ x y, Unit1 (cmpL x y)
  | [], [] => by simp [cmpL, Unit1]
  | [], _ :: _ => by simp [cmpL, Unit1]
  | _ :: _, [] => by simp [cmpL, Unit1]
  | a :: x, b :: y => by rw [cmpL]; exact orI_unit (sgn_unit _ _) (cmpL_unit x y)
theorem cmpL_tri : ∀ x y z, Tri (cmpL x y) (cmpL y z) (cmpL x z)
  | [], [], [] => by simp [cmpL, Tri]
  | [], [], _ :: _ => by simp [cmpL, Tri]
  | [], _ :: _, [] => by simp [cmpL, Tri]
  | _ :: _, [], [] => by simp [cmpL, Tri]
  | [], b :: y, c :: z => by
    have := cmpL_unit (b :: y) (c :: z)
    generalize cmpL (b :: y) (c :: z) = q at this ⊢
    unfold Unit1 at this
    unfold Tri
    simp only [cmpL]
    omega
  | a :: x, [], c :: z => by
    have := cmpL_unit (a :: x) (c :: z)
    generalize cmpL (a :: x) (c :: z) = q at this ⊢
    unfold Unit1 at this
    unfold Tri
    simp only [cmpL]
    omega
  | a :: x, b :: y, [] => by
    have := cmpL_unit (a :: x) (b :: y)
    generalize cmpL (a :: x) (b :: y) = q at this ⊢
    unfold Unit1 at this
    unfold Tri
    simp only [cmpL]
    omega
  | a :: x, b :: y, c :: z => by
    rw [cmpL, cmpL, cmpL]
    exact orI_tri (sgn_tri _ _ _) (cmpL_tri x y z)
theorem less_cmpL : ∀ x y, Op.bytesLess x y = decide (cmpL x y < 0)
  | [], [] => by simp [cmpL, Op.bytesLess]
  | [], _ :: _ => by simp [cmpL, Op.bytesLess]
  | _ :: _, [] => by simp [cmpL, Op.bytesLess]
  | a :: x, b :: y => by
    rw [cmpL, Op.bytesLess, less_cmpL x y]
    by_cases h : a = b
    · subst h
      have : sgn (a.toNat : Int) a.toNat = 0 := sgn_zero.2 rfl
      simp [this, orI]
    · have hn : ¬ sgn (a.toNat : Int) b.toNat = 0 := fun e => h (u8_eq.1 (sgn_zero.1 e))
      have e1 : (a == b) = false := by simpa using h
      rw [e1, orI, if_neg hn]
      by_cases hlt : a < b
      · have : a.toNat < b.toNat := hlt
        simp [hlt, sgn, this]
      · have : ¬ a.toNat < b.toNat := hlt
        simp only [hlt, decide_false, Bool.false_and, Bool.or_false]
        unfold sgn
        rw [if_neg (by omega)]
        split <;> simp
theorem beq_cmpL (x y : List UInt8) : (x == y) = decide (cmpL x y = 0) := by
  by_cases h : x = y
  · subst h; simp [cmpL_zero.2 rfl]
  · have : ¬ cmpL x y = 0 := fun e => h (cmpL_zero.1 e)
    simp [this, h]

mutual
def cmpT : T → T → Int
  | .var n, u => orI (sgn 1 u.kind) (orI (cmpL n.data.toList u.name.data.toList) (orI (sgn 0 u.kids.length) (match u.kids with | [] => 0 | _ :: _ => -1)))
  | .con n l, u => orI (sgn 2 u.kind) (orI (cmpL n.data.toList u.name.data.toList) (orI (sgn l.length u.kids.length) (cmpTs l u.kids)))
  | .fn a b, u => orI (sgn 3 u.kind) (orI (cmpL [] u.name.data.toList) (orI (sgn 2 u.kids.length) (match u.kids with
    | [] => 1
    | c :: r => orI (cmpT a c) (match r with
      | [] => 1
      | d :: r' => orI (cmpT b d) (match r' with | [] => 0 | _ :: _ => -1)))))
  | .all n a, u => orI (sgn 4 u.kind) (orI (cmpL n.data.toList u.name.data.toList) (orI (sgn 1 u.kids.length) (match u.kids with
    | [] => 1
    | c :: r => orI (cmpT a c) (match r with | [] => 0 | _ :: _ => -1))))
def cmpTs : List T → List T → Int
  | [], [] => 0
  | [], _ :: _ => -1
  | _ :: _, [] => 1
  | a :: l, b :: m => orI (cmpT a b) (cmpTs l m)
end
theorem cmpTs_nil (m : List T) : cmpTs [] m = (match m with | [] => 0 | _ :: _ => -1) := by cases m <;> rw [cmpTs]
theorem cmpT_eq (t u : T) : cmpT t u = orI (sgn t.kind u.kind) (orI (cmpL t.name.data.toList u.name.data.toList) (orI (sgn t.kids.length u.kids.length) (cmpTs t.kids u.kids))) := by
  cases t with
  | var n => rw [cmpT]; simp only [T.kind, T.name, T.kids, cmpTs_nil]; rfl
  | con n l => rw [cmpT]; simp only [T.kind, T.name, T.kids]
  | fn a b =>
    rw [cmpT]
    show _ = orI (sgn 3 u.kind) (orI (cmpL [] u.name.data.toList) (orI (sgn 2 u.kids.length) (cmpTs [a, b] u.kids)))
    generalize u.kids = m
    match m with
    | [] => rw [cmpTs]
    | [c] => rw [cmpTs, cmpTs]
    | c :: d :: r => rw [cmpTs, cmpTs, cmpTs_nil]
  | all n a =>
    rw [cmpT]
    show _ = orI (sgn 4 u.kind) (orI (cmpL n.data.toList u.name.data.toList) (orI (sgn 1 u.kids.length) (cmpTs [a] u.kids)))
    generalize u.kids = m
    match m with
    | [] => rw [cmpTs]
    | c :: r => rw [cmpTs, cmpTs_nil]

theorem cmpTs_neg : ∀ l m : List T, (∀ k ∈ l, ∀ u, cmpT u k = - cmpT k u) → cmpTs m l = - cmpTs l m
  | [], [], _ => by rw [cmpTs]; rfl
  | [], _ :: _, _ => by rw [cmpTs, cmpTs]; rfl
  | _ :: _, [], _ => by rw [cmpTs, cmpTs]
  | a :: l, b :: m, H => by
    rw [cmpTs, cmpTs, H a (List.mem_cons_self ..), cmpTs_neg l m (fun k hk => H k (List.mem_cons_of_mem _ hk)), orI_neg]
theorem cmp_neg (t u : T) : cmpT u t = - cmpT t u := by
  rw [cmpT_eq, cmpT_eq t u, sgn_neg t.kind, cmpL_neg t.name.data.toList, sgn_neg t.kids.length, cmpTs_neg t.kids u.kids (fun k hk v => cmp_neg k v), orI_neg, orI_neg, orI_neg]
termination_by SizeOf.sizeOf t
decreasing_by exact T.kid_size hk
theorem cmpTs_zero : ∀ l m : List T, (∀ k ∈ l, ∀ u, cmpT k u = 0 ↔ k = u) → (cmpTs l m = 0 ↔ l = m)
  | [], [], _ => by simp [cmpTs]
  | [], _ :: _, _ => by simp [cmpTs]
  | _ :: _, [], _ => by simp [cmpTs]
  | a :: l, b :: m, H => by
    rw [cmpTs, orI_zero, H a (List.mem_cons_self ..), cmpTs_zero l m (fun k hk => H k (List.mem_cons_of_mem _ hk))]
    simp
theorem cmp_zero (t u : T) : cmpT t u = 0 ↔ t = u := by
  rw [cmpT_eq, orI_zero, orI_zero, orI_zero, sgn_zero, cmpL_zero, cmpTs_zero t.kids u.kids (fun k hk v => cmp_zero k v)]
  constructor
  · rintro ⟨h1, h2, _, h3⟩
    exact T.ext3 h1 (by cases h : t.name; cases h' : u.name; rw [h, h'] at h2; simp_all) h3
  · rintro rfl
    exact ⟨rfl, rfl, sgn_zero.2 rfl, rfl⟩
termination_by SizeOf.sizeOf t
decreasing_by exact T.kid_size hk
theorem cmpTs_unit : ∀ l m : List T, (∀ k ∈ l, ∀ u, Unit1 (cmpT k u)) → Unit1 (cmpTs l m)
  | [], [], _ => by simp [cmpTs, Unit1]
  | [], _ :: _, _ => by simp [cmpTs, Unit1]
  | _ :: _, [], _ => by simp [cmpTs, Unit1]
  | a :: l, b :: m, H => by
    rw [cmpTs]
    exact orI_unit (H a (List.mem_cons_self ..) b) (cmpTs_unit l m (fun k hk => H k (List.mem_cons_of_mem _ hk)))
theorem cmp_unit (t u : T) : Unit1 (cmpT t u) := by
  rw [cmpT_eq]
  exact orI_unit (sgn_unit _ _) (orI_unit (cmpL_unit _ _) (orI_unit (sgn_unit _ _) (cmpTs_unit t.kids u.kids (fun k hk v => cmp_unit k v))))
termination_by SizeOf.sizeOf t
decreasing_by exact T.kid_size hk
theorem cmpTs_tri : ∀ x y z : List T, (∀ k ∈ x, ∀ u v, Tri (cmpT k u) (cmpT u v) (cmpT k v)) → Tri (cmpTs x y) (cmpTs y z) (cmpTs x z)
  | [], [], [], _ => by simp [cmpTs, Tri]
  | [], [], _ :: _, _ => by simp [cmpTs, Tri]
  | [], _ :: _, [], _ => by simp [cmpTs, Tri]
  | _ :: _, [], [], _ => by simp [cmpTs, Tri]
  | [], b :: y, c :: z, _ => by
    have := cmpTs_unit (b :: y) (c :: z) (fun k _ u => cmp_unit k u)
    generalize cmpTs (b :: y) (c :: z) = q at this ⊢
    unfold Unit1 at this
    unfold Tri
    simp only [cmpTs]
    omega
  | a :: x, [], c :: z, _ => by
    have := cmpTs_unit (a :: x) (c :: z) (fun k _ u => cmp_unit k u)
    generalize cmpTs (a :: x) (c :: z) = q at this ⊢
    unfold Unit1 at this
    unfold Tri
    simp only [cmpTs]
    omega
  | a :: x, b :: y, [], _ => by
    have := cmpTs_unit (a :: x) (b :: y) (fun k _ u => cmp_unit k u)
    generalize cmpTs (a :: x) (b :: y) = q at this ⊢
    unfold Unit1 at this
    unfold Tri
    simp only [cmpTs]
    omega
  | a :: x, b :: y, c :: z, H => by
    rw [cmpTs, cmpTs, cmpTs]
    exact orI_tri (H a (List.mem_cons_self ..) b c) (cmpTs_tri x y z (fun k hk => H k (List.mem_cons_of_mem _ hk)))
theorem cmp_tri (t u v : T) : Tri (cmpT t u) (cmpT u v) (cmpT t v) := by
  rw [cmpT_eq t u, cmpT_eq u v, cmpT_eq t v]
  exact orI_tri (sgn_tri _ _ _) (orI_tri (cmpL_tri _ _ _) (orI_tri (sgn_tri _ _ _) (cmpTs_tri t.kids u.kids v.kids (fun k hk u v => cmp_tri k u v))))
termination_by SizeOf.sizeOf t
decreasing_by exact T.kid_size hk

mutual
def tsize : T → Nat
  | .var _ => 1
  | .con _ l => 1 + tsizes l
  | .fn a b => 1 + (tsize a + tsize b)
  | .all _ a => 1 + tsize a
def tsizes : List T → Nat
  | [] => 0
  | a :: l => tsize a + tsizes l
end
theorem tsize_eq (t : T) : tsize t = 1 + tsizes t.kids := by
  cases t <;> simp [tsize, T.kids, tsizes]
mutual
def parts : T → List T
  | .var n => [.var n]
  | .con n l => .con n l :: partss l
  | .fn a b => .fn a b :: (parts a ++ parts b)
  | .all n a => .all n a :: parts a
def partss : List T → List T
  | [] => []
  | a :: l => parts a ++ partss l
end
theorem parts_eq (t : T) : parts t = t :: partss t.kids := by
  cases t <;> simp [parts, T.kids, partss]
mutual
theorem parts_len (t : T) : (parts t).length = tsize t := by
  cases t with
  | var n => simp [parts, tsize]
  | con n l => simp [parts, tsize, partss_len l]; omega
  | fn a b => simp [parts, tsize, parts_len a, parts_len b]; omega
  | all n a => simp [parts, tsize, parts_len a]; omega
theorem partss_len (l : List T) : (partss l).length = tsizes l := by
  cases l with
  | nil => simp [partss, tsizes]
  | cons a l => simp [partss, tsizes, parts_len a, partss_len l]
end
open Classical in
mutual
noncomputable def fv : List ByteArray → List ByteArray → T → List ByteArray
  | bd, out, .var n => if n ∈ bd ∨ n ∈ out then out else out ++ [n]
  | bd, out, .con _ l => fvs bd out l
  | bd, out, .fn a b => fv bd (fv bd out a) b
  | bd, out, .all n a => fv (n :: bd) out a
noncomputable def fvs : List ByteArray → List ByteArray → List T → List ByteArray
  | _, out, [] => out
  | bd, out, a :: l => fvs bd (fv bd out a) l
end
end Go.Proofs.Ytdcfemojkdoakaa
/- Two types as one, as plain data: what the chapter's way finds, that it ends, that it is the most general. -/
namespace Go.Proofs.Ytdcfemojkdoakaa

theorem T.kidsInd {P : T → Prop} (H : ∀ t, (∀ k ∈ t.kids, P k) → P t) : ∀ t, P t := by
  have key : ∀ n, ∀ t : T, SizeOf.sizeOf t ≤ n → P t := by
    intro n
    induction n with
    | zero => intro t ht; exact H t fun k hk => by have := T.kid_size hk; omega
    | succ n ih => intro t ht; exact H t fun k hk => ih k (by have := T.kid_size hk; omega)
  exact fun t => key _ t (Nat.le_refl _)
/-- Types for variables. -/
abbrev Sg := ByteArray → T
mutual
def sub (σ : Sg) : T → T
  | .var n => σ n
  | .con n l => .con n (subs σ l)
  | .fn a b => .fn (sub σ a) (sub σ b)
  | .all n a => .all n (sub σ a)
def subs (σ : Sg) : List T → List T
  | [] => []
  | a :: l => sub σ a :: subs σ l
end
theorem subs_map (σ : Sg) : ∀ l, subs σ l = l.map (sub σ)
  | [] => rfl
  | a :: l => by rw [subs, subs_map σ l]; rfl
def T.isV : T → Bool
  | .var _ => true
  | _ => false
theorem isV_var {t : T} (h : t.isV = true) : t = .var t.name := by cases t <;> simp_all [T.isV, T.name]
theorem sub_parts (σ : Sg) (t : T) (h : t.isV = false) : (sub σ t).kind = t.kind ∧ (sub σ t).name = t.name ∧ (sub σ t).kids = t.kids.map (sub σ) ∧ (sub σ t).isV = false := by
  cases t with
  | var n => simp [T.isV] at h
  | con n l => rw [sub, subs_map]; exact ⟨rfl, rfl, rfl, rfl⟩
  | fn a b => rw [sub]; exact ⟨rfl, rfl, rfl, rfl⟩
  | all n a => rw [sub]; exact ⟨rfl, rfl, rfl, rfl⟩
/-- Two that are no variables are the same by their heads and their parts. -/
theorem sub_congr {σ τ : Sg} {t : T} (h : t.isV = false) (hk : ∀ k ∈ t.kids, sub σ k = sub τ k) : sub σ t = sub τ t := by
  obtain ⟨a1, a2, a3, _⟩ := sub_parts σ t h
  obtain ⟨b1, b2, b3, _⟩ := sub_parts τ t h
  refine T.ext3 (a1.trans b1.symm) (a2.trans b2.symm) ?_
  rw [a3, b3]
  exact List.map_congr_left hk
mutual
/-- The variables that stand in a type. -/
def vs : T → List ByteArray
  | .var n => [n]
  | .con _ l => vss l
  | .fn a b => vs a ++ vs b
  | .all _ a => vs a
def vss : List T → List ByteArray
  | [] => []
  | a :: l => vs a ++ vss l
end
theorem vss_mem {x : ByteArray} : ∀ {l : List T}, x ∈ vss l ↔ ∃ k ∈ l, x ∈ vs k
  | [] => by simp [vss]
  | a :: l => by rw [vss, List.mem_append, vss_mem (l := l)]; simp
theorem vs_kids {x : ByteArray} {t : T} (h : t.isV = false) : x ∈ vs t ↔ ∃ k ∈ t.kids, x ∈ vs k := by
  cases t with
  | var n => simp [T.isV] at h
  | con n l => rw [vs, vss_mem]; rfl
  | fn a b => simp [vs, T.kids]
  | all n a => simp [vs, T.kids]
theorem sub_ext {σ τ : Sg} : ∀ t, (∀ x ∈ vs t, σ x = τ x) → sub σ t = sub τ t := by
  refine T.kidsInd fun t ih h => ?_
  by_cases hv : t.isV = true
  · rw [isV_var hv]; exact h _ (by rw [isV_var hv]; simp [vs, T.name])
  · have hv' : t.isV = false := by simpa using hv
    exact sub_congr hv' fun k hk => ih k hk fun x hx => h x ((vs_kids hv').2 ⟨k, hk, hx⟩)
theorem sub_var : ∀ t, sub T.var t = t := by
  refine T.kidsInd fun t ih => ?_
  by_cases hv : t.isV = true
  · rw [isV_var hv]; rfl
  · obtain ⟨a1, a2, a3, _⟩ := sub_parts T.var t (by simpa using hv)
    refine T.ext3 a1 a2 ?_
    rw [a3]
    conv => rhs; rw [← List.map_id t.kids]
    exact List.map_congr_left fun k hk => ih k hk
theorem sub_id {σ : Sg} {t : T} (h : ∀ x ∈ vs t, σ x = .var x) : sub σ t = t := (sub_ext t h).trans (sub_var t)
theorem sub_sub (τ σ : Sg) : ∀ t, sub τ (sub σ t) = sub (fun n => sub τ (σ n)) t := by
  refine T.kidsInd fun t ih => ?_
  by_cases hv : t.isV = true
  · rw [isV_var hv]; rfl
  · have hv' : t.isV = false := by simpa using hv
    obtain ⟨a1, a2, a3, a4⟩ := sub_parts σ t hv'
    obtain ⟨b1, b2, b3, _⟩ := sub_parts τ (sub σ t) a4
    obtain ⟨c1, c2, c3, _⟩ := sub_parts (fun n => sub τ (σ n)) t hv'
    refine T.ext3 (b1.trans (a1.trans c1.symm)) (b2.trans (a2.trans c2.symm)) ?_
    rw [b3, a3, c3, List.map_map]
    exact List.map_congr_left fun k hk => ih k hk
theorem vs_sub {σ : Sg} {x : ByteArray} : ∀ t, x ∈ vs (sub σ t) ↔ ∃ y ∈ vs t, x ∈ vs (σ y) := by
  refine T.kidsInd fun t ih => ?_
  by_cases hv : t.isV = true
  · rw [isV_var hv]; simp [sub, vs]
  · have hv' : t.isV = false := by simpa using hv
    obtain ⟨_, _, a3, a4⟩ := sub_parts σ t hv'
    rw [vs_kids a4, a3]
    constructor
    · rintro ⟨k, hk, hx⟩
      obtain ⟨k0, hk0, rfl⟩ := List.mem_map.1 hk
      obtain ⟨y, hy, h⟩ := (ih k0 hk0).1 hx
      exact ⟨y, (vs_kids hv').2 ⟨k0, hk0, hy⟩, h⟩
    · rintro ⟨y, hy, h⟩
      obtain ⟨k0, hk0, hy⟩ := (vs_kids hv').1 hy
      exact ⟨_, List.mem_map.2 ⟨k0, hk0, rfl⟩, (ih k0 hk0).2 ⟨y, hy, h⟩⟩
theorem tsizes_mem {k : T} : ∀ {l : List T}, k ∈ l → tsize k ≤ tsizes l
  | [], h => by cases h
  | a :: l, h => by
    rw [tsizes]
    rcases List.mem_cons.1 h with rfl | h
    · omega
    · have := tsizes_mem h; omega
theorem tsize_pos (t : T) : 1 ≤ tsize t := by rw [tsize_eq]; omega
theorem tsize_kid {t k : T} (h : k ∈ t.kids) : tsize k < tsize t := by rw [tsize_eq t]; have := tsizes_mem h; omega
theorem size_sub {σ : Sg} {x : ByteArray} : ∀ t, x ∈ vs t → tsize (σ x) ≤ tsize (sub σ t) := by
  refine T.kidsInd fun t ih h => ?_
  by_cases hv : t.isV = true
  · rw [isV_var hv] at h ⊢
    simp [vs, T.name] at h
    subst h; exact Nat.le_refl _
  · have hv' : t.isV = false := by simpa using hv
    obtain ⟨k, hk, hx⟩ := (vs_kids hv').1 h
    obtain ⟨_, _, a3, _⟩ := sub_parts σ t hv'
    have := ih k hk hx
    have h2 : tsize (sub σ k) < tsize (sub σ t) := tsize_kid (by rw [a3]; exact List.mem_map.2 ⟨k, hk, rfl⟩)
    omega
/-- A variable within a type that is none: the type is greater. -/
theorem size_sub_lt {σ : Sg} {x : ByteArray} {t : T} (hv : t.isV = false) (h : x ∈ vs t) : tsize (σ x) < tsize (sub σ t) := by
  obtain ⟨k, hk, hx⟩ := (vs_kids hv).1 h
  obtain ⟨_, _, a3, _⟩ := sub_parts σ t hv
  have h1 := size_sub (σ := σ) k hx
  have h2 : tsize (sub σ k) < tsize (sub σ t) := tsize_kid (by rw [a3]; exact List.mem_map.2 ⟨k, hk, rfl⟩)
  omega

/-- What comes of two types: the variables' types, or why there are none (true: the variable stands in the type). -/
inductive UR where
  | ok (σ : Sg)
  | bad (e : Bool)
open Classical in
noncomputable def one (x : ByteArray) (u : T) : Sg := fun n => if n = x then u else .var n
open Classical in
noncomputable def bindU (σ : Sg) (x : ByteArray) (u : T) : UR := if x ∈ vs u then .bad true else .ok (fun n => sub (one x u) (σ n))
noncomputable def uniL (u : Sg → T → T → Option UR) : Sg → List T → List T → Option UR
  | σ, a :: l, b :: m => match u σ a b with
    | some (.ok τ) => uniL u τ l m
    | r => r
  | σ, _, _ => some (.ok σ)
open Classical in
noncomputable def stepU (u : Sg → T → T → Option UR) (σ : Sg) (a b : T) : Option UR :=
  if a.isV = true ∧ b.isV = true ∧ a.name = b.name then some (.ok σ)
  else if a.isV = true then some (bindU σ a.name b)
  else if b.isV = true then some (bindU σ b.name a)
  else if a.kind = b.kind ∧ a.name = b.name ∧ a.kids.length = b.kids.length then uniL u σ a.kids b.kids
  else some (.bad false)
noncomputable def uni : Nat → Sg → T → T → Option UR
  | 0, _, _, _ => none
  | f + 1, σ, a, b => stepU (uni f) σ (sub σ a) (sub σ b)

theorem one_at (x : ByteArray) (u : T) : one x u x = u := by simp [one]
theorem one_ne {x y : ByteArray} (u : T) (h : y ≠ x) : one x u y = .var y := by simp [one, h]
/-- What is found is at its end: no variable that has a type stands in any of the types. -/
def Idem (σ : Sg) : Prop := ∀ x, ∀ y ∈ vs (σ x), σ y = .var y
theorem idem_var : Idem T.var := fun _ _ _ => rfl
theorem Idem.on {σ : Sg} (h : Idem σ) {t : T} {y : ByteArray} (hy : y ∈ vs (sub σ t)) : σ y = .var y := by
  obtain ⟨x, _, hx⟩ := (vs_sub t).1 hy
  exact h x y hx
theorem Idem.twice {σ : Sg} (h : Idem σ) (t : T) : sub σ (sub σ t) = sub σ t := sub_id fun _ hx => h.on hx
/-- More was found. -/
def ExtU (σ τ : Sg) : Prop := ∃ δ : Sg, ∀ x, τ x = sub δ (σ x)
theorem ExtU.refl (σ : Sg) : ExtU σ σ := ⟨T.var, fun _ => (sub_var _).symm⟩
theorem ExtU.trans {σ τ ρ : Sg} (h : ExtU σ τ) (k : ExtU τ ρ) : ExtU σ ρ := by
  obtain ⟨d, h⟩ := h; obtain ⟨e, k⟩ := k
  exact ⟨fun n => sub e (d n), fun x => by rw [k x, h x, sub_sub]⟩
theorem ExtU.sub {σ τ : Sg} (h : ExtU σ τ) (hi : Idem σ) (t : T) : sub τ (Go.Proofs.Ytdcfemojkdoakaa.sub σ t) = Go.Proofs.Ytdcfemojkdoakaa.sub τ t := by
  obtain ⟨d, h⟩ := h
  have e : ∀ t, Go.Proofs.Ytdcfemojkdoakaa.sub τ t = Go.Proofs.Ytdcfemojkdoakaa.sub d (Go.Proofs.Ytdcfemojkdoakaa.sub σ t) := fun t => by rw [sub_sub]; exact sub_ext t fun x _ => h x
  rw [e, hi.twice, ← e]

/-- A variable that has no type yet gets one. -/
structure Binds (σ : Sg) (x : ByteArray) (u : T) (τ : Sg) : Prop where
  free : σ x = .var x
  out : x ∉ vs u
  fix : sub σ u = u
  new : τ = fun n => sub (one x u) (σ n)
theorem one_out {x : ByteArray} {u t : T} (h : x ∉ vs t) : sub (one x u) t = t := sub_id fun _ hy => one_ne u fun e => h (e ▸ hy)
theorem Binds.idem {σ τ : Sg} {x : ByteArray} {u : T} (h : Binds σ x u τ) (hi : Idem σ) : Idem τ := by
  intro z y hy
  rw [h.new] at hy ⊢
  obtain ⟨w, hw, hy⟩ := (vs_sub _).1 hy
  have key : σ y = .var y ∧ y ≠ x := by
    by_cases e : w = x
    · subst e
      rw [one_at] at hy
      refine ⟨?_, fun e => h.out (e ▸ hy)⟩
      have h9 : y ∈ vs (sub σ u) := by rw [h.fix]; exact hy
      exact hi.on h9
    · rw [one_ne u e] at hy
      simp [vs] at hy
      subst hy
      exact ⟨hi z y hw, e⟩
  show sub (one x u) (σ y) = .var y
  rw [key.1]
  exact one_ne u key.2
theorem Binds.ext {σ τ : Sg} {x : ByteArray} {u : T} (h : Binds σ x u τ) : ExtU σ τ := ⟨one x u, fun n => by rw [h.new]⟩
theorem Binds.sub {σ τ : Sg} {x : ByteArray} {u : T} (h : Binds σ x u τ) (t : T) : sub τ t = Go.Proofs.Ytdcfemojkdoakaa.sub (one x u) (Go.Proofs.Ytdcfemojkdoakaa.sub σ t) := by rw [sub_sub, h.new]
theorem Binds.same {σ τ : Sg} {x : ByteArray} {u a b : T} (h : Binds σ x u τ) (ha : Go.Proofs.Ytdcfemojkdoakaa.sub σ a = .var x) (hb : Go.Proofs.Ytdcfemojkdoakaa.sub σ b = u) : Go.Proofs.Ytdcfemojkdoakaa.sub τ a = Go.Proofs.Ytdcfemojkdoakaa.sub τ b := by
  rw [h.sub, h.sub, ha, hb, one_out h.out]
  exact one_at x u
/-- What one step comes to. -/
inductive StepU (u : Sg → T → T → Option UR) (σ : Sg) (a b : T) : Option UR → Prop where
  | same (x : ByteArray) : sub σ a = .var x → sub σ b = .var x → StepU u σ a b (some (.ok σ))
  | left (x : ByteArray) (τ : Sg) : sub σ a = .var x → Binds σ x (sub σ b) τ → StepU u σ a b (some (.ok τ))
  | leftIn (x : ByteArray) : sub σ a = .var x → x ∈ vs (sub σ b) → (sub σ b).isV = false → StepU u σ a b (some (.bad true))
  | right (x : ByteArray) (τ : Sg) : (sub σ a).isV = false → sub σ b = .var x → Binds σ x (sub σ a) τ → StepU u σ a b (some (.ok τ))
  | rightIn (x : ByteArray) : (sub σ a).isV = false → sub σ b = .var x → x ∈ vs (sub σ a) → StepU u σ a b (some (.bad true))
  | parts : (sub σ a).isV = false → (sub σ b).isV = false → (sub σ a).kind = (sub σ b).kind → (sub σ a).name = (sub σ b).name → (sub σ a).kids.length = (sub σ b).kids.length → StepU u σ a b (uniL u σ (sub σ a).kids (sub σ b).kids)
  | bad : (sub σ a).isV = false → (sub σ b).isV = false → ¬ ((sub σ a).kind = (sub σ b).kind ∧ (sub σ a).name = (sub σ b).name ∧ (sub σ a).kids.length = (sub σ b).kids.length) → StepU u σ a b (some (.bad false))
theorem stepU_is (u : Sg → T → T → Option UR) (σ : Sg) (a b : T) (hi : Idem σ) : StepU u σ a b (stepU u σ (sub σ a) (sub σ b)) := by
  unfold stepU
  by_cases ha : (sub σ a).isV = true
  · have ea := isV_var ha
    have hx : σ (sub σ a).name = .var (sub σ a).name := hi.on (t := a) (by rw [ea]; simp [vs, T.name])
    by_cases hs : (sub σ b).isV = true ∧ (sub σ a).name = (sub σ b).name
    · rw [if_pos ⟨ha, hs.1, hs.2⟩]
      exact .same _ ea ((isV_var hs.1).trans (by rw [hs.2]))
    · rw [if_neg (fun h => hs ⟨h.2.1, h.2.2⟩), if_pos ha]
      unfold bindU
      by_cases ho : (sub σ a).name ∈ vs (sub σ b)
      · rw [if_pos ho]
        refine .leftIn _ ea ho ?_
        cases hb : (sub σ b).isV with
        | false => rfl
        | true =>
          rw [isV_var hb] at ho
          simp [vs] at ho
          exact absurd ⟨hb, ho⟩ hs
      · rw [if_neg ho]
        exact .left _ _ ea ⟨hx, ho, hi.twice b, rfl⟩
  · have ha' : (sub σ a).isV = false := by simpa using ha
    rw [if_neg (fun h => ha h.1), if_neg ha]
    by_cases hb : (sub σ b).isV = true
    · have eb := isV_var hb
      have hx : σ (sub σ b).name = .var (sub σ b).name := hi.on (t := b) (by rw [eb]; simp [vs, T.name])
      rw [if_pos hb]
      unfold bindU
      by_cases ho : (sub σ b).name ∈ vs (sub σ a)
      · rw [if_pos ho]; exact .rightIn _ ha' eb ho
      · rw [if_neg ho]; exact .right _ _ ha' eb ⟨hx, ho, hi.twice a, rfl⟩
    · have hb' : (sub σ b).isV = false := by simpa using hb
      rw [if_neg hb]
      by_cases hh : (sub σ a).kind = (sub σ b).kind ∧ (sub σ a).name = (sub σ b).name ∧ (sub σ a).kids.length = (sub σ b).kids.length
      · rw [if_pos hh]; exact .parts ha' hb' hh.1 hh.2.1 hh.2.2
      · rw [if_neg hh]; exact .bad ha' hb' hh
end Go.Proofs.Ytdcfemojkdoakaa
/- Two types as one: what is found makes them one; whatever else does goes by it. -/
namespace Go.Proofs.Ytdcfemojkdoakaa

theorem kids_same {σ : Sg} {a b : T} (ha : a.isV = false) (hb : b.isV = false) (hk : a.kind = b.kind) (hn : a.name = b.name) (h : a.kids.map (sub σ) = b.kids.map (sub σ)) : sub σ a = sub σ b := by
  obtain ⟨a1, a2, a3, _⟩ := sub_parts σ a ha
  obtain ⟨b1, b2, b3, _⟩ := sub_parts σ b hb
  exact T.ext3 (a1.trans (hk.trans b1.symm)) (a2.trans (hn.trans b2.symm)) (by rw [a3, b3, h])
/-- What is found makes the two one. -/
def Sound (u : Sg → T → T → Option UR) : Prop := ∀ σ a b τ, u σ a b = some (.ok τ) → Idem σ → Idem τ ∧ ExtU σ τ ∧ sub τ a = sub τ b
theorem uniL_sound {u : Sg → T → T → Option UR} (H : Sound u) : ∀ (l m : List T) (σ τ : Sg), l.length = m.length → uniL u σ l m = some (.ok τ) → Idem σ → Idem τ ∧ ExtU σ τ ∧ l.map (sub τ) = m.map (sub τ)
  | [], [], σ, τ, _, h, hi => by
    simp only [uniL, Option.some.injEq, UR.ok.injEq] at h
    subst h; exact ⟨hi, .refl _, rfl⟩
  | [], b :: m, _, _, hl, _, _ => by simp at hl
  | a :: l, [], _, _, hl, _, _ => by simp at hl
  | a :: l, b :: m, σ, τ, hl, h, hi => by
    rw [uniL] at h
    cases e : u σ a b with
    | none => rw [e] at h; cases h
    | some r =>
      rw [e] at h
      cases r with
      | bad q => cases h
      | ok ρ =>
        obtain ⟨h1, h2, h3⟩ := H σ a b ρ e hi
        obtain ⟨k1, k2, k3⟩ := uniL_sound H l m ρ τ (by simpa using hl) h h1
        refine ⟨k1, h2.trans k2, ?_⟩
        have : sub τ a = sub τ b := by rw [← k2.sub h1 a, ← k2.sub h1 b, h3]
        rw [List.map_cons, List.map_cons, k3, this]
theorem uni_sound : ∀ f, Sound (uni f)
  | 0 => fun σ a b τ h _ => by cases h
  | f + 1 => fun σ a b τ h hi => by
    have ih := uni_sound f
    rw [uni] at h
    have hs := stepU_is (uni f) σ a b hi
    rw [h] at hs
    generalize hr : some (UR.ok τ) = r at hs
    cases hs with
    | same x e1 e2 =>
      simp only [Option.some.injEq, UR.ok.injEq] at hr
      subst hr
      exact ⟨hi, .refl _, e1.trans e2.symm⟩
    | left x ρ e1 hb =>
      simp only [Option.some.injEq, UR.ok.injEq] at hr
      subst hr
      exact ⟨hb.idem hi, hb.ext, hb.same e1 rfl⟩
    | leftIn => cases hr
    | right x ρ _ e2 hb =>
      simp only [Option.some.injEq, UR.ok.injEq] at hr
      subst hr
      exact ⟨hb.idem hi, hb.ext, (hb.same e2 rfl).symm⟩
    | rightIn => cases hr
    | parts h1 h2 h3 h4 h5 =>
      obtain ⟨k1, k2, k3⟩ := uniL_sound ih _ _ σ τ h5 hr.symm hi
      refine ⟨k1, k2, ?_⟩
      rw [← k2.sub hi a, ← k2.sub hi b]
      exact kids_same h1 h2 h3 h4 k3
    | bad => cases hr
/-- Types that go by what was found so far. -/
def Goes (θ σ : Sg) : Prop := ∀ x, sub θ (σ x) = θ x
theorem Goes.sub {θ σ : Sg} (h : Goes θ σ) (t : T) : Go.Proofs.Ytdcfemojkdoakaa.sub θ (Go.Proofs.Ytdcfemojkdoakaa.sub σ t) = Go.Proofs.Ytdcfemojkdoakaa.sub θ t := by
  rw [sub_sub]; exact sub_ext t fun x _ => h x
theorem goes_var (θ : Sg) : Goes θ T.var := fun _ => rfl
theorem Goes.binds {θ σ τ : Sg} {x : ByteArray} {u : T} (h : Goes θ σ) (hb : Binds σ x u τ) (e : θ x = Go.Proofs.Ytdcfemojkdoakaa.sub θ u) : Goes θ τ := by
  intro y
  rw [hb.new]
  show Go.Proofs.Ytdcfemojkdoakaa.sub θ (Go.Proofs.Ytdcfemojkdoakaa.sub (one x u) (σ y)) = θ y
  rw [sub_sub, ← h y]
  refine sub_ext _ fun z _ => ?_
  by_cases hz : z = x
  · subst hz; rw [one_at]; exact e.symm
  · rw [one_ne u hz]; rfl
/-- Whatever makes the two one goes by what is found, and it is found. -/
def Most (u : Sg → T → T → Option UR) : Prop := ∀ σ a b r θ, u σ a b = some r → Idem σ → Goes θ σ → sub θ a = sub θ b → ∃ τ, r = .ok τ ∧ Goes θ τ
theorem uniL_most {u : Sg → T → T → Option UR} (S : Sound u) (H : Most u) (θ : Sg) : ∀ (l m : List T) (σ : Sg) (r : UR), l.length = m.length → uniL u σ l m = some r → Idem σ → Goes θ σ → l.map (sub θ) = m.map (sub θ) → ∃ τ, r = .ok τ ∧ Goes θ τ
  | [], [], σ, r, _, h, _, hg, _ => by
    simp only [uniL, Option.some.injEq] at h
    exact ⟨σ, h.symm, hg⟩
  | [], b :: m, _, _, hl, _, _, _, _ => by simp at hl
  | a :: l, [], _, _, hl, _, _, _, _ => by simp at hl
  | a :: l, b :: m, σ, r, hl, h, hi, hg, he => by
    rw [List.map_cons, List.map_cons] at he
    injection he with he1 he2
    rw [uniL] at h
    cases e : u σ a b with
    | none => rw [e] at h; cases h
    | some q =>
      obtain ⟨ρ, rfl, hg2⟩ := H σ a b q θ e hi hg he1
      rw [e] at h
      exact uniL_most S H θ l m ρ r (by simpa using hl) h (S σ a b ρ e hi).1 hg2 he2
theorem occ_not {θ : Sg} {x : ByteArray} {u : T} (hv : u.isV = false) (h : x ∈ vs u) (e : θ x = sub θ u) : False := by
  have := size_sub_lt (σ := θ) hv h
  rw [e] at this; omega
theorem uni_most : ∀ f, Most (uni f)
  | 0 => fun σ a b r θ h _ _ _ => by cases h
  | f + 1 => fun σ a b r θ h hi hg he => by
    have ih := uni_most f
    have is := uni_sound f
    rw [uni] at h
    have hs := stepU_is (uni f) σ a b hi
    rw [h] at hs
    have ea := hg.sub a
    have eb := hg.sub b
    generalize hr : some r = q at hs
    cases hs with
    | same x e1 e2 => injection hr with hr; exact ⟨σ, hr, hg⟩
    | left x ρ e1 hb =>
      injection hr with hr
      refine ⟨ρ, hr, hg.binds hb ?_⟩
      rw [eb, ← he, ← ea, e1]; rfl
    | leftIn x e1 ho hv =>
      refine (occ_not (θ := θ) hv ho ?_).elim
      rw [eb, ← he, ← ea, e1]; rfl
    | right x ρ _ e2 hb =>
      injection hr with hr
      refine ⟨ρ, hr, hg.binds hb ?_⟩
      rw [ea, he, ← eb, e2]; rfl
    | rightIn x hv e2 ho =>
      refine (occ_not (θ := θ) hv ho ?_).elim
      rw [ea, he, ← eb, e2]; rfl
    | parts h1 h2 h3 h4 h5 =>
      refine uniL_most is ih θ _ _ σ r h5 hr.symm hi hg ?_
      have e9 : sub θ (sub σ a) = sub θ (sub σ b) := by rw [ea, eb, he]
      obtain ⟨_, _, a3, _⟩ := sub_parts θ _ h1
      obtain ⟨_, _, b3, _⟩ := sub_parts θ _ h2
      rw [← a3, ← b3, e9]
    | bad h1 h2 hn =>
      have e9 : sub θ (sub σ a) = sub θ (sub σ b) := by rw [ea, eb, he]
      obtain ⟨a1, a2, a3, _⟩ := sub_parts θ _ h1
      obtain ⟨b1, b2, b3, _⟩ := sub_parts θ _ h2
      refine (hn ⟨?_, ?_, ?_⟩).elim
      · rw [← a1, ← b1, e9]
      · rw [← a2, ← b2, e9]
      · have := congrArg (fun t => t.kids.length) e9
        simp only [a3, b3, List.length_map] at this
        exact this
/-- More fuel finds the same. -/
theorem uniL_more {u v : Sg → T → T → Option UR} (H : ∀ σ a b r, u σ a b = some r → v σ a b = some r) : ∀ (l m : List T) (σ : Sg) (r : UR), uniL u σ l m = some r → uniL v σ l m = some r
  | [], _, σ, r, h => by simpa [uniL] using h
  | _ :: _, [], σ, r, h => by simpa [uniL] using h
  | a :: l, b :: m, σ, r, h => by
    rw [uniL] at h ⊢
    cases e : u σ a b with
    | none => rw [e] at h; cases h
    | some q =>
      rw [e] at h
      rw [H σ a b q e]
      cases q with
      | bad => exact h
      | ok ρ => exact uniL_more H l m ρ r h
theorem uni_succ : ∀ f σ a b r, uni f σ a b = some r → uni (f + 1) σ a b = some r
  | 0, _, _, _, _, h => by cases h
  | f + 1, σ, a, b, r, h => by
    rw [uni] at h ⊢
    unfold stepU at h ⊢
    by_cases c1 : (sub σ a).isV = true ∧ (sub σ b).isV = true ∧ (sub σ a).name = (sub σ b).name
    · rwa [if_pos c1] at h ⊢
    · rw [if_neg c1] at h ⊢
      by_cases c2 : (sub σ a).isV = true
      · rwa [if_pos c2] at h ⊢
      · rw [if_neg c2] at h ⊢
        by_cases c3 : (sub σ b).isV = true
        · rwa [if_pos c3] at h ⊢
        · rw [if_neg c3] at h ⊢
          by_cases c4 : (sub σ a).kind = (sub σ b).kind ∧ (sub σ a).name = (sub σ b).name ∧ (sub σ a).kids.length = (sub σ b).kids.length
          · rw [if_pos c4] at h ⊢
            exact uniL_more (uni_succ f) _ _ _ _ h
          · rwa [if_neg c4] at h ⊢
theorem uni_le {f g : Nat} (hfg : f ≤ g) {σ : Sg} {a b : T} {r : UR} (h : uni f σ a b = some r) : uni g σ a b = some r := by
  obtain ⟨k, rfl⟩ : ∃ k, g = f + k := ⟨g - f, by omega⟩
  clear hfg
  induction k with
  | zero => exact h
  | succ k ih => exact uni_succ _ _ _ _ _ ih
/-- What two types come to, whatever the fuel. -/
def Uni (σ : Sg) (a b : T) (r : UR) : Prop := ∃ f, uni f σ a b = some r
theorem Uni.only {σ : Sg} {a b : T} {r q : UR} (h : Uni σ a b r) (k : Uni σ a b q) : r = q := by
  obtain ⟨f, h⟩ := h; obtain ⟨g, k⟩ := k
  have h1 := uni_le (Nat.le_max_left f g) h
  have k1 := uni_le (Nat.le_max_right f g) k
  rw [h1] at k1; injection k1
theorem Uni.sound {σ τ : Sg} {a b : T} (h : Uni σ a b (.ok τ)) (hi : Idem σ) : Idem τ ∧ ExtU σ τ ∧ sub τ a = sub τ b := by
  obtain ⟨f, h⟩ := h; exact uni_sound f σ a b τ h hi
theorem Uni.most {σ θ : Sg} {a b : T} {r : UR} (h : Uni σ a b r) (hi : Idem σ) (hg : Goes θ σ) (he : sub θ a = sub θ b) : ∃ τ, r = .ok τ ∧ Goes θ τ := by
  obtain ⟨f, h⟩ := h; exact uni_most f σ a b r θ h hi hg he
end Go.Proofs.Ytdcfemojkdoakaa
/- Two types as one: it ends; how great what is found can be. -/
namespace Go.Proofs.Ytdcfemojkdoakaa

theorem filter_lt {α : Type} {p q : α → Bool} : ∀ {l : List α}, (∀ y ∈ l, q y = true → p y = true) → (∃ x ∈ l, p x = true ∧ q x = false) → (l.filter q).length < (l.filter p).length
  | [], _, h => by obtain ⟨x, hx, _⟩ := h; cases hx
  | a :: l, h, he => by
    have hle : (l.filter q).length ≤ (l.filter p).length := by
      clear he
      induction l with
      | nil => simp
      | cons b l ih =>
        have h1 := ih fun y hy => h y (by rcases List.mem_cons.1 hy with rfl | hy <;> simp [*])
        have hb := h b (by simp)
        rw [List.filter_cons, List.filter_cons]
        cases eq : q b with
        | false => cases ep : p b <;> simp <;> omega
        | true => rw [hb eq]; simp; omega
    obtain ⟨x, hx, hp, hq⟩ := he
    rw [List.filter_cons, List.filter_cons]
    rcases List.mem_cons.1 hx with rfl | hx
    · rw [hp, hq]; simp; omega
    · have := filter_lt (fun y hy => h y (List.mem_cons_of_mem _ hy)) ⟨x, hx, hp, hq⟩
      have ha := h a (by simp)
      cases eq : q a with
      | false => cases ep : p a <;> simp <;> omega
      | true => rw [ha eq]; simp; omega
open Classical in
/-- How many of these variables have no type yet. -/
noncomputable def uns (V : List ByteArray) (σ : Sg) : Nat := (V.filter fun x => decide (σ x = .var x)).length
def VIn (V : List ByteArray) (σ : Sg) : Prop := ∀ x ∈ V, ∀ y ∈ vs (σ x), y ∈ V
def TIn (V : List ByteArray) (t : T) : Prop := ∀ x ∈ vs t, x ∈ V
theorem VIn.sub {V : List ByteArray} {σ : Sg} (h : VIn V σ) {t : T} (ht : TIn V t) : TIn V (Go.Proofs.Ytdcfemojkdoakaa.sub σ t) := by
  intro y hy
  obtain ⟨x, hx, hy⟩ := (vs_sub t).1 hy
  exact h x (ht x hx) y hy
theorem vin_var (V : List ByteArray) : VIn V T.var := fun x hx y hy => by simp [vs] at hy; exact hy ▸ hx
theorem TIn.kid {V : List ByteArray} {t k : T} (h : TIn V t) (hv : t.isV = false) (hk : k ∈ t.kids) : TIn V k := fun x hx => h x ((vs_kids hv).2 ⟨k, hk, hx⟩)
theorem Binds.still {σ τ : Sg} {x y : ByteArray} {u : T} (h : Binds σ x u τ) (e : τ y = .var y) : σ y = .var y := by
  rw [h.new] at e
  have e : Go.Proofs.Ytdcfemojkdoakaa.sub (one x u) (σ y) = .var y := e
  cases hv : (σ y).isV with
  | false =>
    have := (sub_parts (one x u) _ hv).2.2.2
    rw [e] at this; cases this
  | true =>
    have ez := isV_var hv
    rw [ez] at e
    have e : one x u (σ y).name = .var y := e
    by_cases hz : (σ y).name = x
    · rw [hz, one_at] at e
      have := h.fix
      rw [e] at this
      exact this
    · rw [one_ne u hz] at e
      rw [ez]; exact e
open Classical in
theorem Binds.fewer {V : List ByteArray} {σ τ : Sg} {x : ByteArray} {u : T} (h : Binds σ x u τ) (hx : x ∈ V) : uns V τ < uns V σ := by
  unfold uns
  refine filter_lt (fun y _ hy => decide_eq_true (h.still (of_decide_eq_true hy))) ⟨x, hx, decide_eq_true h.free, decide_eq_false fun e => ?_⟩
  rw [h.new] at e
  have e : Go.Proofs.Ytdcfemojkdoakaa.sub (one x u) (σ x) = .var x := e
  rw [h.free] at e
  have e : one x u x = .var x := e
  rw [one_at] at e
  exact h.out (by rw [e]; simp [vs])
theorem Binds.vin {V : List ByteArray} {σ τ : Sg} {x : ByteArray} {u : T} (h : Binds σ x u τ) (hi : VIn V σ) (hu : TIn V u) : VIn V τ := by
  intro z hz y hy
  rw [h.new] at hy
  obtain ⟨w, hw, hy⟩ := (vs_sub _).1 hy
  by_cases e : w = x
  · subst e; rw [one_at] at hy; exact hu y hy
  · rw [one_ne u e] at hy
    simp [vs] at hy
    exact hy ▸ hi z hz w hw
def AfterU (V : List ByteArray) (σ : Sg) (r : UR) : Prop := ∀ τ, r = .ok τ → VIn V τ ∧ (τ = σ ∨ uns V τ < uns V σ)
theorem ends_list (V : List ByteArray) (σ0 : Sg) (h0 : Idem σ0) (v0 : VIn V σ0) : ∀ (l m : List T)
    (_ : ∀ k ∈ l, ∀ k' ∈ m, ∃ r, Uni σ0 k k' r ∧ AfterU V σ0 r)
    (_ : ∀ σ, Idem σ → VIn V σ → uns V σ < uns V σ0 → ∀ k ∈ l, ∀ k' ∈ m, ∃ r, Uni σ k k' r ∧ AfterU V σ r)
    (σ : Sg) (_ : σ = σ0 ∨ Idem σ ∧ VIn V σ ∧ uns V σ < uns V σ0), ∃ f r, uniL (uni f) σ l m = some r ∧ AfterU V σ0 r
  | [], m, _, _, σ, hs => by
    refine ⟨0, .ok σ, by simp [uniL], fun τ e => ?_⟩
    injection e with e
    subst e
    rcases hs with rfl | hs
    · exact ⟨v0, .inl rfl⟩
    · exact ⟨hs.2.1, .inr hs.2.2⟩
  | a :: l, [], _, _, σ, hs => by
    refine ⟨0, .ok σ, by simp [uniL], fun τ e => ?_⟩
    injection e with e
    subst e
    rcases hs with rfl | hs
    · exact ⟨v0, .inl rfl⟩
    · exact ⟨hs.2.1, .inr hs.2.2⟩
  | a :: l, b :: m, H1, H2, σ, hs => by
    have hiv : Idem σ ∧ VIn V σ := by
      rcases hs with rfl | hs
      · exact ⟨h0, v0⟩
      · exact ⟨hs.1, hs.2.1⟩
    obtain ⟨r, ⟨f, hf⟩, hr⟩ : ∃ r, Uni σ a b r ∧ AfterU V σ r := by
      rcases hs with rfl | hs
      · exact H1 a (by simp) b (by simp)
      · exact H2 σ hs.1 hs.2.1 hs.2.2 a (by simp) b (by simp)
    cases r with
    | bad e =>
      refine ⟨f, .bad e, by rw [uniL, hf], fun τ e => by cases e⟩
    | ok ρ =>
      have hρ := hr ρ rfl
      have hs2 : ρ = σ0 ∨ Idem ρ ∧ VIn V ρ ∧ uns V ρ < uns V σ0 := by
        have i1 := (uni_sound f σ a b ρ hf hiv.1).1
        rcases hρ.2 with e | e
        · rw [e]; exact hs
        · refine .inr ⟨i1, hρ.1, ?_⟩
          rcases hs with rfl | hs
          · exact e
          · exact Nat.lt_trans e hs.2.2
      obtain ⟨g, q, hg, hq⟩ := ends_list V σ0 h0 v0 l m (fun k hk k' hk' => H1 k (List.mem_cons_of_mem _ hk) k' (List.mem_cons_of_mem _ hk')) (fun σ a b c k hk k' hk' => H2 σ a b c k (List.mem_cons_of_mem _ hk) k' (List.mem_cons_of_mem _ hk')) ρ hs2
      refine ⟨max f g, q, ?_, hq⟩
      rw [uniL, uni_le (Nat.le_max_left f g) hf]
      exact uniL_more (fun _ _ _ _ h => uni_le (Nat.le_max_right f g) h) l m ρ q hg
theorem uni_ends (V : List ByteArray) (n : Nat) : ∀ (m : Nat) (σ : Sg) (a b : T), Idem σ → VIn V σ → TIn V a → TIn V b → uns V σ ≤ n → tsize (sub σ a) ≤ m → ∃ r, Uni σ a b r ∧ AfterU V σ r := by
  induction n using Nat.strongRecOn with
  | ind n ihn =>
    intro m
    induction m with
    | zero => intro σ a b _ _ _ _ _ h; have := tsize_pos (sub σ a); omega
    | succ m ihm =>
      intro σ a b hi hv ha hb hn hm
      have ta := hv.sub ha
      have tb := hv.sub hb
      have hs : ∀ f, StepU (uni f) σ a b (uni (f + 1) σ a b) := fun f => by rw [uni]; exact stepU_is (uni f) σ a b hi
      have fin : ∀ r, uni 1 σ a b = some r → AfterU V σ r → ∃ r, Uni σ a b r ∧ AfterU V σ r := fun r h k => ⟨r, ⟨1, h⟩, k⟩
      have h1 := hs 0
      generalize hr : uni 1 σ a b = r1 at h1
      have hbd : ∀ {x : ByteArray} {u : T} {τ : Sg}, Binds σ x u τ → TIn V u → x ∈ V → AfterU V σ (.ok τ) := fun {x u τ} hb hu hx τ' e => by
        injection e with e
        subst e
        exact ⟨hb.vin hv hu, .inr (hb.fewer hx)⟩
      cases h1 with
      | same x e1 e2 => exact fin _ hr fun τ e => by injection e with e; exact ⟨e ▸ hv, .inl e.symm⟩
      | left x τ e1 h => exact fin _ hr (hbd h tb (ta x (by rw [e1]; simp [vs])))
      | leftIn => exact fin _ hr fun τ e => by cases e
      | right x τ _ e2 h => exact fin _ hr (hbd h ta (tb x (by rw [e2]; simp [vs])))
      | rightIn => exact fin _ hr fun τ e => by cases e
      | bad => exact fin _ hr fun τ e => by cases e
      | parts p1 p2 p3 p4 p5 =>
        clear hr fin hbd
        obtain ⟨f, r, hf, hA⟩ := ends_list V σ hi hv (sub σ a).kids (sub σ b).kids
          (fun k hk k' hk' => ihm σ k k' hi hv (ta.kid p1 hk) (tb.kid p2 hk') hn (by
            have e : sub σ k = k := sub_id fun y hy => hi.on (t := a) ((vs_kids p1).2 ⟨k, hk, hy⟩)
            rw [e]; have := tsize_kid hk; omega))
          (fun ρ i1 i2 i3 k hk k' hk' => ihn (uns V ρ) (by omega) (tsize (sub ρ k)) ρ k k' i1 i2 (ta.kid p1 hk) (tb.kid p2 hk') (Nat.le_refl _) (Nat.le_refl _))
          σ (.inl rfl)
        refine ⟨r, ⟨f + 1, ?_⟩, hA⟩
        have h2 := hs f
        generalize uni (f + 1) σ a b = q at h2
        cases h2 with
        | parts => exact hf
        | same x e1 e2 => rw [e1] at p1; cases p1
        | left x τ e1 => rw [e1] at p1; cases p1
        | leftIn x e1 => rw [e1] at p1; cases p1
        | right x τ _ e2 => rw [e2] at p2; cases p2
        | rightIn x _ e2 => rw [e2] at p2; cases p2
        | bad _ _ hn => exact (hn ⟨p3, p4, p5⟩).elim
theorem uni_total (V : List ByteArray) (σ : Sg) (a b : T) (hi : Idem σ) (hv : VIn V σ) (ha : TIn V a) (hb : TIn V b) : ∃ r, Uni σ a b r ∧ AfterU V σ r :=
  uni_ends V _ _ σ a b hi hv ha hb (Nat.le_refl _) (Nat.le_refl _)

/-- Each variable's type is made of a part that was there at the start. -/
def FromU (O : T → Prop) (σ : Sg) : Prop := ∀ x, (σ x).isV = true ∨ ∃ t, O t ∧ t.isV = false ∧ σ x = sub σ t
def InstU (O : T → Prop) (σ : Sg) (a : T) : Prop := ∃ o, O o ∧ sub σ a = sub σ o
theorem from_var (O : T → Prop) : FromU O T.var := fun _ => .inl rfl
theorem InstU.of {O : T → Prop} {σ : Sg} {a : T} (h : O a) : InstU O σ a := ⟨a, h, rfl⟩
theorem InstU.ext {O : T → Prop} {σ τ : Sg} {a : T} (h : InstU O σ a) (he : ExtU σ τ) (hi : Idem σ) : InstU O τ a := by
  obtain ⟨o, h, e⟩ := h
  exact ⟨o, h, by rw [← he.sub hi a, e, he.sub hi]⟩
/-- A type that is no variable is what a part at the start, none either, came to. -/
theorem InstU.solid {O : T → Prop} {σ : Sg} {a : T} (h : InstU O σ a) (hF : FromU O σ) (hv : (sub σ a).isV = false) : ∃ o, O o ∧ o.isV = false ∧ sub σ a = sub σ o := by
  obtain ⟨o, h, e⟩ := h
  cases ho : o.isV with
  | false => exact ⟨o, h, ho, e⟩
  | true =>
    have eo := isV_var ho
    rcases hF o.name with h1 | ⟨t, ht, hvt, et⟩
    · have h9 : (sub σ o).isV = true := by rw [eo]; exact h1
      rw [e, h9] at hv; cases hv
    · exact ⟨t, ht, hvt, e.trans (by rw [eo]; exact et)⟩
theorem InstU.kid {O : T → Prop} (hO : ∀ t, O t → ∀ k ∈ t.kids, O k) {σ : Sg} {a k : T} (h : InstU O σ a) (hF : FromU O σ) (hi : Idem σ) (hv : (sub σ a).isV = false) (hk : k ∈ (sub σ a).kids) : InstU O σ k := by
  obtain ⟨o, h, ho, e⟩ := h.solid hF hv
  rw [e, (sub_parts σ o ho).2.2.1] at hk
  obtain ⟨k0, hk0, rfl⟩ := List.mem_map.1 hk
  exact ⟨k0, hO o h k0 hk0, hi.twice k0⟩
theorem Binds.from {O : T → Prop} {σ τ : Sg} {x : ByteArray} {a : T} (h : Binds σ x (Go.Proofs.Ytdcfemojkdoakaa.sub σ a) τ) (hF : FromU O σ) (ha : InstU O σ a) : FromU O τ := by
  have hin : ∀ {t : T} {v : T}, t.isV = false → v = Go.Proofs.Ytdcfemojkdoakaa.sub σ t → v.isV = false := fun {t v} ht e => by rw [e]; exact (sub_parts σ t ht).2.2.2
  intro y
  have ey : τ y = Go.Proofs.Ytdcfemojkdoakaa.sub (one x (Go.Proofs.Ytdcfemojkdoakaa.sub σ a)) (σ y) := by rw [h.new]
  rcases hF y with hv | ⟨t, ht, hvt, et⟩
  · have ez := isV_var hv
    by_cases hz : (σ y).name = x
    · have e1 : τ y = Go.Proofs.Ytdcfemojkdoakaa.sub σ a := by rw [ey, ez, hz]; exact one_at _ _
      cases hu : (Go.Proofs.Ytdcfemojkdoakaa.sub σ a).isV with
      | true => exact .inl (by rw [e1]; exact hu)
      | false =>
        obtain ⟨o, ho, hvo, eo⟩ := ha.solid hF hu
        refine .inr ⟨o, ho, hvo, ?_⟩
        rw [e1, h.sub o, ← eo, one_out h.out]
    · refine .inl ?_
      rw [ey, ez]
      show (one x (Go.Proofs.Ytdcfemojkdoakaa.sub σ a) (σ y).name).isV = true
      rw [one_ne _ hz]; rfl
  · refine .inr ⟨t, ht, hvt, ?_⟩
    rw [ey, et, h.sub t]
def FromKeeps (O : T → Prop) (u : Sg → T → T → Option UR) : Prop := ∀ σ a b τ, u σ a b = some (.ok τ) → Idem σ → FromU O σ → InstU O σ a → InstU O σ b → FromU O τ
theorem uniL_from {O : T → Prop} {u : Sg → T → T → Option UR} (S : Sound u) (H : FromKeeps O u) : ∀ (l m : List T) (σ τ : Sg), uniL u σ l m = some (.ok τ) → Idem σ → FromU O σ → (∀ k ∈ l, InstU O σ k) → (∀ k ∈ m, InstU O σ k) → FromU O τ
  | [], m, σ, τ, h, _, hF, _, _ => by
    simp only [uniL, Option.some.injEq, UR.ok.injEq] at h
    subst h; exact hF
  | a :: l, [], σ, τ, h, _, hF, _, _ => by
    simp only [uniL, Option.some.injEq, UR.ok.injEq] at h
    subst h; exact hF
  | a :: l, b :: m, σ, τ, h, hi, hF, hl, hm => by
    rw [uniL] at h
    cases e : u σ a b with
    | none => rw [e] at h; cases h
    | some r =>
      rw [e] at h
      cases r with
      | bad q => cases h
      | ok ρ =>
        obtain ⟨h1, h2, _⟩ := S σ a b ρ e hi
        exact uniL_from S H l m ρ τ h h1 (H σ a b ρ e hi hF (hl a (by simp)) (hm b (by simp)))
          (fun k hk => (hl k (List.mem_cons_of_mem _ hk)).ext h2 hi) (fun k hk => (hm k (List.mem_cons_of_mem _ hk)).ext h2 hi)
theorem uni_from {O : T → Prop} (hO : ∀ t, O t → ∀ k ∈ t.kids, O k) : ∀ f, FromKeeps O (uni f)
  | 0 => fun σ a b τ h _ _ _ _ => by cases h
  | f + 1 => fun σ a b τ h hi hF ha hb => by
    have ih := uni_from hO f
    rw [uni] at h
    have hs := stepU_is (uni f) σ a b hi
    rw [h] at hs
    generalize hr : some (UR.ok τ) = r at hs
    cases hs with
    | same x e1 e2 =>
      simp only [Option.some.injEq, UR.ok.injEq] at hr
      subst hr
      exact hF
    | left x ρ e1 h =>
      simp only [Option.some.injEq, UR.ok.injEq] at hr
      subst hr
      exact h.from hF hb
    | leftIn => cases hr
    | right x ρ _ e2 h =>
      simp only [Option.some.injEq, UR.ok.injEq] at hr
      subst hr
      exact h.from hF ha
    | rightIn => cases hr
    | parts h1 h2 h3 h4 h5 => exact uniL_from (uni_sound f) ih _ _ σ τ hr.symm hi hF (fun k hk => ha.kid hO hF hi h1 hk) (fun k hk => hb.kid hO hF hi h2 hk)
    | bad => cases hr
theorem Uni.from {O : T → Prop} (hO : ∀ t, O t → ∀ k ∈ t.kids, O k) {σ τ : Sg} {a b : T} (h : Uni σ a b (.ok τ)) (hi : Idem σ) (hF : FromU O σ) (ha : InstU O σ a) (hb : InstU O σ b) : FromU O τ := by
  obtain ⟨f, h⟩ := h; exact uni_from hO f σ a b τ h hi hF ha hb
/-- A type's size with types for its variables. -/
theorem size_subs {σ : Sg} {M : Nat} (hM : 1 ≤ M) : ∀ t, (∀ y ∈ vs t, tsize (σ y) ≤ M) → tsize (sub σ t) ≤ tsize t * M := by
  refine T.kidsInd fun t ih h => ?_
  cases hv : t.isV with
  | true =>
    rw [isV_var hv] at h ⊢
    have := h t.name (by simp [vs])
    simpa [sub, tsize] using this
  | false =>
    obtain ⟨_, _, a3, _⟩ := sub_parts σ t hv
    rw [tsize_eq, a3, tsize_eq t]
    have key : ∀ l : List T, (∀ k ∈ l, tsize (sub σ k) ≤ tsize k * M) → tsizes (l.map (sub σ)) ≤ tsizes l * M := by
      intro l
      induction l with
      | nil => intro _; simp [tsizes]
      | cons a l ih2 =>
        intro hl
        have h1 := hl a (by simp)
        have h2 := ih2 fun k hk => hl k (List.mem_cons_of_mem _ hk)
        rw [List.map_cons, tsizes, tsizes, Nat.add_mul]; omega
    have := key t.kids fun k hk => ih k hk fun y hy => h y ((vs_kids hv).2 ⟨k, hk, hy⟩)
    rw [Nat.add_mul]; omega
noncomputable def rankU (V : List ByteArray) (σ : Sg) (x : ByteArray) : Nat := (V.filter fun y => decide (tsize (σ y) < tsize (σ x))).length
theorem rank_lt {V : List ByteArray} {σ : Sg} {x y : ByteArray} (hy : y ∈ V) (h : tsize (σ y) < tsize (σ x)) : rankU V σ y < rankU V σ x := by
  unfold rankU
  refine filter_lt (fun z _ hz => decide_eq_true (Nat.lt_trans (of_decide_eq_true hz) h)) ⟨y, hy, decide_eq_true h, decide_eq_false (Nat.lt_irrefl _)⟩
theorem rank_in {V : List ByteArray} {σ : Sg} {x : ByteArray} (hx : x ∈ V) : rankU V σ x < V.length := by
  have := filter_lt (l := V) (p := fun _ => true) (q := fun y => decide (tsize (σ y) < tsize (σ x))) (fun _ _ _ => rfl) ⟨x, hx, rfl, decide_eq_false (Nat.lt_irrefl _)⟩
  have e : V.filter (fun _ => true) = V := by simp
  rw [e] at this
  exact this
/-- How great a variable's type can be. -/
theorem from_size {O : T → Prop} {V : List ByteArray} {σ : Sg} {N : Nat} (hF : FromU O σ) (hV : ∀ t, O t → t.isV = false → TIn V t) (hN : ∀ t, O t → tsize t ≤ N) (h1 : 1 ≤ N) : ∀ n x, tsize (σ x) ≤ n → tsize (σ x) ≤ N ^ (rankU V σ x + 1) := by
  intro n
  induction n with
  | zero => intro x h; have := tsize_pos (σ x); omega
  | succ n ih =>
    intro x hx
    have hp : 1 ≤ N ^ (rankU V σ x + 1) := Nat.one_le_pow _ _ h1
    rcases hF x with hv | ⟨t, ht, hvt, et⟩
    · rw [isV_var hv]; simpa [tsize] using hp
    · have hp' : 1 ≤ N ^ rankU V σ x := Nat.one_le_pow _ _ h1
      have := size_subs (σ := σ) hp' t fun y hy => by
        have hlt : tsize (σ y) < tsize (σ x) := by rw [et]; exact size_sub_lt hvt hy
        have h2 := ih y (by omega)
        have h3 := rank_lt (hV t ht hvt y hy) hlt
        exact Nat.le_trans h2 (Nat.pow_le_pow_right h1 h3)
      rw [et] at hx ⊢
      rw [← et] at hx ⊢
      have h9 := Nat.mul_le_mul_right (N ^ rankU V σ x) (hN t ht)
      rw [Nat.pow_succ, Nat.mul_comm, et]
      exact Nat.le_trans this h9
theorem from_le {O : T → Prop} {V : List ByteArray} {σ : Sg} {N : Nat} (hF : FromU O σ) (hV : ∀ t, O t → t.isV = false → TIn V t) (hN : ∀ t, O t → tsize t ≤ N) (h1 : 1 ≤ N) {x : ByteArray} (hx : x ∈ V) : tsize (σ x) ≤ N ^ V.length :=
  Nat.le_trans (from_size hF hV hN h1 _ x (Nat.le_refl _)) (Nat.pow_le_pow_right h1 (rank_in hx))
theorem from_le' {O : T → Prop} {V : List ByteArray} {σ : Sg} {N : Nat} (hF : FromU O σ) (hV : ∀ t, O t → t.isV = false → TIn V t) (hN : ∀ t, O t → tsize t ≤ N) (h1 : 1 ≤ N) (x : ByteArray) : tsize (σ x) ≤ N ^ (V.length + 1) := by
  refine Nat.le_trans (from_size hF hV hN h1 _ x (Nat.le_refl _)) (Nat.pow_le_pow_right h1 ?_)
  have := List.length_filter_le (fun y => decide (tsize (σ y) < tsize (σ x))) V
  unfold rankU; omega
end Go.Proofs.Ytdcfemojkdoakaa
/- A type in memory; what is kept of it; rows that lie in blocks of a kind. -/
namespace Go.Proofs.Ytdcfemojkdoakaa
open Go.RowKit
attribute [local go_sem] Oper.semAt_some


/-- Type t stands in three cells: its kind, its name, the row of its parts. -/
inductive TyAt (w : World) : T → Value → Value → Value → Prop
  | leaf (t : T) (a : Option Addr) (c : Nat) : t.kids = [] → TyAt w t (.int .i64 t.kind) (.string t.name) (.slice a 0 c)
  | row (t : T) (g cap : Nat) (cs : Array Value) (fz : Nat × Nat) (x y z : Nat → Value) : w.heap[g]? = some (.cells cs 26 fz) → t.kids.length ≤ cap →
      (∀ i, i < t.kids.length → cs[i * 3]? = some (x i) ∧ cs[i * 3 + 1]? = some (y i) ∧ cs[i * 3 + 2]? = some (z i)) →
      (∀ i (h : i < t.kids.length), TyAt w t.kids[i] (x i) (y i) (z i)) →
      TyAt w t (.int .i64 t.kind) (.string t.name) (.slice (some ⟨g, 0, none⟩) t.kids.length cap)
/-- v is a slice of the types l. -/
def TysAt (w : World) (v : Value) (l : List T) : Prop :=
  (l = [] ∧ ∃ a c, v = .slice a 0 c) ∨ ∃ g cap cs fz, ∃ x y z : Nat → Value, v = .slice (some ⟨g, 0, none⟩) l.length cap ∧ w.heap[g]? = some (.cells cs 26 fz) ∧ l.length ≤ cap ∧
    (∀ i, i < l.length → cs[i * 3]? = some (x i) ∧ cs[i * 3 + 1]? = some (y i) ∧ cs[i * 3 + 2]? = some (z i)) ∧ ∀ i (h : i < l.length), TyAt w l[i] (x i) (y i) (z i)
theorem tyAt_iff (w : World) (t : T) (k n v : Value) : TyAt w t k n v ↔ k = .int .i64 t.kind ∧ n = .string t.name ∧ TysAt w v t.kids := by
  constructor
  · intro h
    cases h with
    | leaf _ a c h => exact ⟨rfl, rfl, .inl ⟨h, a, c, rfl⟩⟩
    | row _ g cap cs fz x y z h1 h2 h3 h4 => exact ⟨rfl, rfl, .inr ⟨g, cap, cs, fz, x, y, z, rfl, h1, h2, h3, h4⟩⟩
  · rintro ⟨rfl, rfl, ⟨h, a, c, rfl⟩ | ⟨g, cap, cs, fz, x, y, z, rfl, h1, h2, h3, h4⟩⟩
    · exact .leaf t a c h
    · exact .row t g cap cs fz x y z h1 h2 h3 h4
/-- The rows of types stand as they stood. -/
def KeepT (w w' : World) : Prop := ∀ (k : Nat) (cs : Array Value) (fz : Nat × Nat), w.heap[k]? = some (.cells cs 26 fz) → w'.heap[k]? = some (.cells cs 26 fz)
theorem KeepT.refl (w : World) : KeepT w w := fun _ _ _ h => h
theorem KeepT.trans {a b c : World} (h : KeepT a b) (k : KeepT b c) : KeepT a c := fun i cs fz hi => k i cs fz (h i cs fz hi)
theorem KeepT.of_below {w w' : World} (h : Below w.heap.size w w') : KeepT w w' := fun k _ _ hk => (h.block k (Array.getElem?_eq_some_iff.1 hk).1).trans hk
theorem TyAt.keep {w w' : World} (hk : KeepT w w') {t : T} {k n v : Value} (h : TyAt w t k n v) : TyAt w' t k n v := by
  induction h with
  | leaf t a c h => exact .leaf t a c h
  | row t g cap cs fz x y z h1 h2 h3 _ ih => exact .row t g cap cs fz x y z (hk _ _ _ h1) h2 h3 ih
theorem TysAt.keep {w w' : World} (hk : KeepT w w') {v : Value} {l : List T} (h : TysAt w v l) : TysAt w' v l := by
  rcases h with h | ⟨g, cap, cs, fz, x, y, z, rfl, h1, h2, h3, h4⟩
  · exact .inl h
  · exact .inr ⟨g, cap, cs, fz, x, y, z, rfl, hk _ _ _ h1, h2, h3, fun i hi => (h4 i hi).keep hk⟩
theorem TysAt.shape {w : World} {v : Value} {l : List T} (h : TysAt w v l) : ∃ a c, v = .slice a l.length c := by
  rcases h with ⟨rfl, a, c, rfl⟩ | ⟨g, cap, cs, fz, x, y, z, rfl, _⟩
  · exact ⟨a, c, rfl⟩
  · exact ⟨_, _, rfl⟩
theorem TyAt.shape {w : World} {t : T} {k n v : Value} (h : TyAt w t k n v) : k = .int .i64 t.kind ∧ n = .string t.name ∧ (∃ a c, v = .slice a t.kids.length c) ∧ TysAt w v t.kids := by
  obtain ⟨h1, h2, h3⟩ := (tyAt_iff w t k n v).1 h
  exact ⟨h1, h2, h3.shape, h3⟩
/-- A row with a part: where it lies, and each part. -/
theorem TysAt.row {w : World} {v : Value} {l : List T} (h : TysAt w v l) (h0 : l ≠ []) : ∃ g cap, v = .slice (some ⟨g, 0, none⟩) l.length cap ∧ g < w.heap.size ∧ l.length ≤ cap ∧
    ∀ i (h : i < l.length), ∃ a c, w.cell? ⟨g, i * 3, none⟩ = some (.int .i64 l[i].kind) ∧ w.cell? ⟨g, i * 3 + 1, none⟩ = some (.string l[i].name) ∧ w.cell? ⟨g, i * 3 + 2, none⟩ = some (.slice a l[i].kids.length c) ∧
      TysAt w (.slice a l[i].kids.length c) l[i].kids := by
  rcases h with ⟨h, _⟩ | ⟨g, cap, cs, fz, x, y, z, rfl, h1, h2, h3, h4⟩
  · exact absurd h h0
  · refine ⟨g, cap, rfl, (Array.getElem?_eq_some_iff.1 h1).1, h2, fun i hi => ?_⟩
    obtain ⟨c1, c2, c3⟩ := h3 i hi
    obtain ⟨e1, e2, ⟨a, c, e3⟩, e4⟩ := (h4 i hi).shape
    rw [e1] at c1; rw [e2] at c2; rw [e3] at c3 e4
    refine ⟨a, c, ?_, ?_, ?_, e4⟩
    · simp only [World.cell?, h1]; simpa using c1
    · simp only [World.cell?, h1]; simpa using c2
    · simp only [World.cell?, h1]; simpa using c3
theorem TyAt.mk {w : World} (t : T) {v : Value} (h : TysAt w v t.kids) : TyAt w t (.int .i64 t.kind) (.string t.name) v := (tyAt_iff w t _ _ v).2 ⟨rfl, rfl, h⟩
theorem TysAt.nil (w : World) (a : Option Addr) (c : Nat) : TysAt w (.slice a 0 c) [] := .inl ⟨rfl, a, c, rfl⟩
theorem alloc_new (w : World) (o : Obj) : (w.alloc o).heap[w.heap.size]? = some o := by show (w.heap.push o)[w.heap.size]? = _; simp
theorem keepT_alloc (w : World) (o : Obj) : KeepT w (w.alloc o) := .of_below ((Below.refl _ w).alloc (Nat.le_refl _) o)
theorem TysAt.one {w : World} {t : T} {k n v : Value} {g : Nat} (hg : g = w.heap.size) (h : TyAt w t k n v) : TysAt (w.alloc (.cells #[k, n, v] 26)) (.slice (some ⟨g, 0, none⟩) 1 1) [t] := by
  subst hg
  refine .inr ⟨w.heap.size, 1, #[k, n, v], (0, 0), fun _ => k, fun _ => n, fun _ => v, rfl, alloc_new w _, Nat.le_refl _, ?_, ?_⟩
  · intro i hi
    obtain rfl : i = 0 := by simpa using hi
    exact ⟨rfl, rfl, rfl⟩
  · intro i hi
    obtain rfl : i = 0 := by simpa using hi
    exact h.keep (keepT_alloc w _)
theorem TysAt.two {w : World} {t u : T} {k n v k' n' v' : Value} {g : Nat} (hg : g = w.heap.size) (h : TyAt w t k n v) (h' : TyAt w u k' n' v') : TysAt (w.alloc (.cells #[k, n, v, k', n', v'] 26)) (.slice (some ⟨g, 0, none⟩) 2 2) [t, u] := by
  subst hg
  refine .inr ⟨w.heap.size, 2, #[k, n, v, k', n', v'], (0, 0), fun i => if i = 0 then k else k', fun i => if i = 0 then n else n', fun i => if i = 0 then v else v', rfl, alloc_new w _, Nat.le_refl _, ?_, ?_⟩
  · intro i hi
    match i, hi with
    | 0, _ => exact ⟨rfl, rfl, rfl⟩
    | 1, _ => exact ⟨rfl, rfl, rfl⟩
    | n + 2, hi => simp at hi; omega
  · intro i hi
    match i, hi with
    | 0, _ => exact h.keep (keepT_alloc w _)
    | 1, _ => exact h'.keep (keepT_alloc w _)
    | n + 2, hi => simp at hi; omega

theorem three_cells {w : World} {p : Nat} {x y z : Value} {T : TypeId} {fz : Nat × Nat} (h : w.heap[p]? = some (.cells #[x, y, z] T fz)) : w.cell? ⟨p, 0, none⟩ = some x ∧ w.cell? ⟨p, 1, none⟩ = some y ∧ w.cell? ⟨p, 2, none⟩ = some z := by
  refine ⟨?_, ?_, ?_⟩ <;> (rw [Lib.cell_of_heap h]; rfl)

/-- As TyAt, of rows in blocks that are ok. -/
inductive TyIn (ok : Nat → Prop) (w : World) : T → Value → Prop
  | leaf (t : T) (a : Option Addr) (c : Nat) : t.kids = [] → TyIn ok w t (.slice a 0 c)
  | row (t : T) (g cap : Nat) (cs : Array Value) (fz : Nat × Nat) (z : Nat → Value) : ok g → w.heap[g]? = some (.cells cs 26 fz) → t.kids.length ≤ cap →
      (∀ i (h : i < t.kids.length), cs[i * 3]? = some (.int .i64 t.kids[i].kind) ∧ cs[i * 3 + 1]? = some (.string t.kids[i].name) ∧ cs[i * 3 + 2]? = some (z i)) →
      (∀ i (h : i < t.kids.length), TyIn ok w t.kids[i] (z i)) →
      TyIn ok w t (.slice (some ⟨g, 0, none⟩) t.kids.length cap)
theorem TyIn.keep {ok : Nat → Prop} {w w' : World} (hk : ∀ (k : Nat) (cs : Array Value) (fz : Nat × Nat), ok k → w.heap[k]? = some (.cells cs 26 fz) → w'.heap[k]? = some (.cells cs 26 fz)) {t : T} {v : Value} (h : TyIn ok w t v) : TyIn ok w' t v := by
  induction h with
  | leaf t a c h => exact .leaf t a c h
  | row t g cap cs fz z h0 h1 h2 h3 _ ih => exact .row t g cap cs fz z h0 (hk _ _ _ h0 h1) h2 h3 ih
theorem TyIn.mono {ok ok' : Nat → Prop} {w : World} (hk : ∀ k, ok k → ok' k) {t : T} {v : Value} (h : TyIn ok w t v) : TyIn ok' w t v := by
  induction h with
  | leaf t a c h => exact .leaf t a c h
  | row t g cap cs fz z h0 h1 h2 h3 _ ih => exact .row t g cap cs fz z (hk _ h0) h1 h2 h3 ih
theorem TyIn.lt {ok : Nat → Prop} {w : World} {t : T} {v : Value} (h : TyIn ok w t v) : TyIn (fun k => ok k ∧ k < w.heap.size) w t v := by
  induction h with
  | leaf t a c h => exact .leaf t a c h
  | row t g cap cs fz z h0 h1 h2 h3 _ ih => exact .row t g cap cs fz z ⟨h0, (Array.getElem?_eq_some_iff.1 h1).1⟩ h1 h2 h3 ih
theorem TyIn.shape {ok : Nat → Prop} {w : World} {t : T} {v : Value} (h : TyIn ok w t v) : ∃ a c, v = .slice a t.kids.length c := by
  cases h with
  | leaf _ a c h => exact ⟨a, c, by rw [h]; rfl⟩
  | row _ g cap cs fz z h0 h1 h2 h3 _ => exact ⟨_, _, rfl⟩
theorem TyIn.tys {ok : Nat → Prop} {w : World} {t : T} {v : Value} (h : TyIn ok w t v) : TysAt w v t.kids := by
  induction h with
  | leaf t a c h => rw [h]; exact .inl ⟨rfl, a, c, rfl⟩
  | row t g cap cs fz z h0 h1 h2 h3 _ ih => exact .inr ⟨g, cap, cs, fz, fun i => if h : i < t.kids.length then .int .i64 t.kids[i].kind else undef, fun i => if h : i < t.kids.length then .string t.kids[i].name else undef, z, rfl, h1, h2, fun i hi => by simp only [dif_pos hi]; exact h3 i hi, fun i hi => by simp only [dif_pos hi]; exact TyAt.mk _ (ih i hi)⟩
theorem TyIn.keep_below {ok : Nat → Prop} {w w' : World} {N : Nat} (hb : Below N w w') {t : T} {v : Value} (h : TyIn (fun k => ok k ∧ k < N) w t v) : TyIn (fun k => ok k ∧ k < N) w' t v := h.keep fun k _ _ hk hh => (hb.block k hk.2).trans hh

/-- A type's value. -/
def tyV (t : T) (v : Value) : Value := .agg #[.int .i64 t.kind, .string t.name, v]

set_option maxHeartbeats 1000000 in
theorem var_any (n : ByteArray) (w : World) :
    Calls Try.prog 11 #[.string n] w fun e w' => (∃ u, e = .returned (tyV (.var n) u) ∧ TysAt w' u []) ∧ Below w.heap.size w w' := by
  go_enter Try.func11, Try.ntmps11
  go_wp2
  refine bodyPost_ret (v := tyV (.var n) (.slice none 0 0)) (by simp [results, Try.results11, go_sem, tyV, T.kind, T.name]) rfl ⟨⟨_, rfl, TysAt.nil _ _ _⟩, (Below.refl _ w).alloc (Nat.le_refl _) _⟩

set_option maxHeartbeats 1000000 in
theorem con_any (n : ByteArray) (a : Option Addr) (l : List T) (k c : Nat) (w : World) (h : TysAt w (.slice a k c) l) :
    Calls Try.prog 12 #[.string n, .slice a k c] w fun e w' => (∃ u, e = .returned (tyV (.con n l) u) ∧ TysAt w' u l) ∧ Below w.heap.size w w' := by
  have H := Lib.hid h; clear h
  go_enter Try.func12, Try.ntmps12
  go_wp2
  refine bodyPost_ret (v := tyV (.con n l) (.slice a k c)) (by simp [results, Try.results12, go_sem, tyV, T.kind, T.name]) rfl ⟨⟨_, rfl, H.out.keep (keepT_alloc w _)⟩, (Below.refl _ w).alloc (Nat.le_refl _) _⟩

set_option maxHeartbeats 1000000 in
theorem fun2_any (x y : T) (a b : Option Addr) (c d : Nat) (w : World) (hx : TysAt w (.slice a x.kids.length c) x.kids) (hy : TysAt w (.slice b y.kids.length d) y.kids) :
    Calls Try.prog 13 #[tyV x (.slice a x.kids.length c), tyV y (.slice b y.kids.length d)] w fun e w' => (∃ u, e = .returned (tyV (.fn x y) u) ∧ TysAt w' u [x, y]) ∧ Below w.heap.size w w' := by
  have HX := Lib.hid (TyAt.mk x hx); clear hx
  have HY := Lib.hid (TyAt.mk y hy); clear hy
  simp only [tyV]
  go_enter Try.func13, Try.ntmps13
  go_wp2
  have k3 : ∀ o1 o2 o3 : Obj, KeepT w (((w.alloc o1).alloc o2).alloc o3) := fun o1 o2 o3 => ((keepT_alloc w o1).trans (keepT_alloc _ o2)).trans (keepT_alloc _ o3)
  refine bodyPost_ret (v := .agg #[.int .i64 3, .string ⟨#[]⟩, .slice (some ⟨w.heap.size + 1 + 1 + 1, 0, none⟩) 2 2]) (by simp [results, Try.results13, go_sem]) rfl ⟨⟨_, rfl, ?_⟩, ?_⟩
  · exact TysAt.two (by simp) (HX.out.keep (k3 _ _ _)) (HY.out.keep (k3 _ _ _))
  · exact ((((Below.refl _ w).alloc (Nat.le_refl _) _).alloc (by simp) _).alloc (by simp; omega) _).alloc (by simp; omega) _
end Go.Proofs.Ytdcfemojkdoakaa
/- Whether two types are the same, part by part. -/
namespace Go.Proofs.Ytdcfemojkdoakaa
open Go.RowKit
attribute [local go_sem] Oper.semAt_some

open Classical in
noncomputable def eqB {α : Type} (a b : α) : Bool := decide (a = b)
theorem eqB_true {α : Type} {a b : α} (h : a = b) : eqB a b = true := by simp [eqB, h]
theorem eqB_false {α : Type} {a b : α} (h : ¬ a = b) : eqB a b = false := by simp [eqB, h]
theorem eqB_iff {α : Type} {a b : α} : eqB a b = true ↔ a = b := by simp [eqB]
theorem T.ext_iff {t u : T} : t = u ↔ t.kind = u.kind ∧ t.name = u.name ∧ t.kids = u.kids := by
  cases t <;> cases u <;> simp [T.kind, T.name, T.kids]
theorem bytes_beq (a b : ByteArray) : (a.toList == b.toList) = eqB a b := by
  by_cases h : a = b
  · rw [eqB_true h, h]; simp
  · rw [eqB_false h]
    simp only [beq_eq_false_iff_ne, ne_eq]
    intro e
    apply h
    rw [Lib.toList_data, Lib.toList_data] at e
    cases a; cases b; simp_all

/-- No list of parts is longer than any memory. -/
inductive Fits : T → Prop
  | mk (t : T) : t.kids.length < 1152921504606846976 → (∀ k, k ∈ t.kids → Fits k) → Fits t
theorem Fits.len {t : T} (h : Fits t) : t.kids.length < 1152921504606846976 := by cases h; assumption
theorem Fits.kid {t k : T} (h : Fits t) (hk : k ∈ t.kids) : Fits k := by cases h with | mk _ _ h => exact h k hk
end Go.Proofs.Ytdcfemojkdoakaa
/- types.Compare, types.Same: the order of types. -/
namespace Go.Proofs.Ytdcfemojkdoakaa
open Go.RowKit
attribute [local go_sem] Oper.semAt_some

set_option maxHeartbeats 1000000 in
theorem nanInt_any (a : Int) (w : World) : Calls Try.prog 45 #[.int .i64 a] w fun e w' => e = .returned (.bool false) ∧ w = w' := by
  have h : (a != a) = false := by simp
  go_enter Try.func45, Try.ntmps45
  go_wp2
  go_ret
  exact ⟨rfl, rfl⟩
set_option maxHeartbeats 1000000 in
theorem nanStr_any (a : ByteArray) (w : World) : Calls Try.prog 34 #[.string a] w fun e w' => e = .returned (.bool false) ∧ w = w' := by
  have h : (a.toList == a.toList) = true := by simp
  go_enter Try.func34, Try.ntmps34
  go_wp2
  go_ret
  exact ⟨rfl, rfl⟩
set_option maxHeartbeats 1000000 in
theorem cmpInt_of (a b r : Int) (w : World) (h : a < b ∧ r = -1 ∨ (¬ a < b ∧ b < a) ∧ r = 1 ∨ (¬ a < b ∧ ¬ b < a) ∧ r = 0) : Calls Try.prog 39 #[.int .i64 a, .int .i64 b] w fun e w' => e = .returned (.int .i64 r) ∧ w = w' := by
  rcases h with ⟨h, rfl⟩ | ⟨⟨h, h'⟩, rfl⟩ | ⟨⟨h, h'⟩, rfl⟩
  all_goals
    go_enter Try.func39, Try.ntmps39
    go_wp2_with (go_at_call 45; refine (nanInt_any _ _).mono ?_; rintro e w2 ⟨rfl, rfl⟩)
    go_ret
    exact ⟨rfl, rfl⟩
theorem cmpInt_any (a b : Int) (w : World) : Calls Try.prog 39 #[.int .i64 a, .int .i64 b] w fun e w' => e = .returned (.int .i64 (sgn a b)) ∧ w = w' :=
  cmpInt_of a b _ w (by unfold sgn; (repeat' split) <;> omega)
set_option maxHeartbeats 1000000 in
theorem cmpStr_of (a b : ByteArray) (r : Int) (w : World) (h : (Op.bytesLess a.toList b.toList = true ∧ r = -1) ∨ ((Op.bytesLess a.toList b.toList = false ∧ (a.toList == b.toList) = false) ∧ r = 1) ∨ ((Op.bytesLess a.toList b.toList = false ∧ (a.toList == b.toList) = true) ∧ r = 0)) : Calls Try.prog 26 #[.string a, .string b] w fun e w' => e = .returned (.int .i64 r) ∧ w = w' := by
  rcases h with ⟨h, rfl⟩ | ⟨⟨h, h'⟩, rfl⟩ | ⟨⟨h, h'⟩, rfl⟩
  all_goals
    go_enter Try.func26, Try.ntmps26
    go_wp2_with (go_at_call 34; refine (nanStr_any _ _).mono ?_; rintro e w2 ⟨rfl, rfl⟩)
    go_ret
    exact ⟨rfl, rfl⟩
theorem cmpStr_any (a b : ByteArray) (w : World) : Calls Try.prog 26 #[.string a, .string b] w fun e w' => e = .returned (.int .i64 (cmpL a.data.toList b.data.toList)) ∧ w = w' := by
  refine cmpStr_of a b _ w ?_
  rw [Lib.toList_data, Lib.toList_data, less_cmpL, beq_cmpL]
  rcases cmpL_unit a.data.toList b.data.toList with h | h | h <;> simp [h]

set_option maxHeartbeats 1000000 in
theorem or_any (b : Nat) (x y z : Int) (w : World) (h : w.heap[b]? = some (.cells #[.int .i64 x, .int .i64 y, .int .i64 z] 3 (0, 0))) :
    Calls Try.prog 38 #[.slice (some ⟨b, 0, none⟩) 3 3] w fun e w' => e = .returned (.int .i64 (orI x (orI y z))) ∧ w = w' := by
  obtain ⟨c0, c1, c2⟩ := three_cells h
  clear h
  by_cases hx : x = 0
  · subst hx
    by_cases hy : y = 0
    · subst hy
      by_cases hz : z = 0
      · subst hz
        go_enter Try.func38, Try.ntmps38
        go_wp2
        refine wp_loop_rounds 4 ?_
        rw [rounds_succ]; go_wp2
        rw [rounds_succ]; go_wp2
        rw [rounds_succ]; go_wp2
        rw [rounds_succ]; go_wp2
        go_ret
        exact ⟨rfl, rfl⟩
      · have hz1 : ((z != 0) = true) := by simpa using hz
        have e : orI 0 (orI 0 z) = z := rfl
        rw [e]; clear e
        go_enter Try.func38, Try.ntmps38
        go_wp2
        refine wp_loop_rounds 3 ?_
        rw [rounds_succ]; go_wp2
        rw [rounds_succ]; go_wp2
        rw [rounds_succ]; go_wp2
        go_ret
        exact ⟨rfl, rfl⟩
    · have hz1 : ((y != 0) = true) := by simpa using hy
      have e : orI 0 (orI y z) = y := by simp [orI, hy]
      rw [e]; clear e
      go_enter Try.func38, Try.ntmps38
      go_wp2
      refine wp_loop_rounds 2 ?_
      rw [rounds_succ]; go_wp2
      rw [rounds_succ]; go_wp2
      go_ret
      exact ⟨rfl, rfl⟩
  · have hz1 : ((x != 0) = true) := by simpa using hx
    have e : orI x (orI y z) = x := by simp [orI, hx]
    rw [e]; clear e
    go_enter Try.func38, Try.ntmps38
    go_wp2
    refine wp_loop_rounds 1 ?_
    rw [rounds_succ]; go_wp2
    go_ret
    exact ⟨rfl, rfl⟩

theorem with_worldC {P : Program} {c : Code} {Q : Exit → Act → World → Prop} {a : Act} {w : World} (S : World → Prop) (h : S w) (k : ∀ W, S W → Code.wp P c Q a W) : Code.wp P c Q a w := k w h
theorem heads_same {p q r c x : Int} (h : c = orI p (orI q (orI r x))) (k : orI p (orI q r) = 0) : c = x := by
  obtain ⟨h1, h2⟩ := orI_zero.1 k
  obtain ⟨h3, h4⟩ := orI_zero.1 h2
  rw [h, h1, h3, h4]; rfl
theorem heads_other {p q r c x d : Int} (h : c = orI p (orI q (orI r x))) (k : orI p (orI q r) = d) (hd : ¬ d = 0) : c = d := by
  rw [h, ← k]
  unfold orI at *
  by_cases hp : p = 0
  · by_cases hq : q = 0
    · by_cases hr : r = 0
      · simp [hp, hq, hr] at k; omega
      · simp [hp, hq, hr]
    · simp [hp, hq]
  · simp [hp]
theorem len_of {p q : Int} {m n : Nat} (h : orI p (orI q (sgn (m : Int) (n : Int))) = 0) : m = n := by
  have := sgn_zero.1 (orI_zero.1 (orI_zero.1 h).2).2
  omega
def CmpOK (t : T) : Prop := ∀ (t' : T) (a b : Option Addr) (c d : Nat) (w : World), TysAt w (.slice a t.kids.length c) t.kids → TysAt w (.slice b t'.kids.length d) t'.kids →
    Calls Try.prog 32 #[tyV t (.slice a t.kids.length c), tyV t' (.slice b t'.kids.length d)] w fun e w' => e = .returned (.int .i64 (cmpT t t')) ∧ Below w.heap.size w w'

theorem cmp_drop (l l' : List T) (i : Nat) (h1 : i < l.length) (h2 : i < l'.length) : cmpTs (l.drop i) (l'.drop i) = orI (cmpT l[i] l'[i]) (cmpTs (l.drop (i + 1)) (l'.drop (i + 1))) := by
  rw [List.drop_eq_getElem_cons h1, List.drop_eq_getElem_cons h2, cmpTs]

set_option maxHeartbeats 600000 in
theorem cmpFunc_of (l l' : List T) (H : ∀ t ∈ l, CmpOK t) (a b : Option Addr) (c d : Nat) (w : World) (h : TysAt w (.slice a l.length c) l) (h' : TysAt w (.slice b l'.length d) l') (hn : l.length < 1152921504606846976) (hl : l.length = l'.length) :
    Calls Try.prog 40 #[.slice a l.length c, .slice b l'.length d, .func (.func 32) #[] #[]] w fun e w' => e = .returned (.int .i64 (cmpTs l l')) ∧ Below w.heap.size w w' := by
  by_cases h0 : l = []
  · subst h0
    obtain rfl : l' = [] := List.length_eq_zero_iff.1 hl.symm
    rw [cmpTs]
    clear h h' H
    go_enter Try.func40, Try.ntmps40
    go_wp2
    go_loopw [13] (fun vi wr => vi = .int .i64 0 ∧ Hid (Below w.heap.size w wr)) (fun _ _ => 0)
    case atStart => exact ⟨rfl, Lib.hid (Below.refl _ _)⟩
    case round =>
      obtain ⟨rfl, hB⟩ := hrel
      go_wp2
      go_ret
      exact ⟨rfl, hB.out⟩
  · have h0' : l' ≠ [] := by intro e; rw [e] at hl; exact h0 (List.length_eq_zero_iff.1 hl)
    obtain ⟨g1, c1, e1, hg1, hc1, r1⟩ := h.row h0
    obtain ⟨g2, c2, e2, hg2, hc2, r2⟩ := h'.row h0'
    cases e1; cases e2
    have HR1 := Lib.hid r1; clear r1
    have HR2 := Lib.hid r2; clear r2
    have HS := Lib.hid H; clear H
    obtain ⟨res, hres⟩ : ∃ r, cmpTs l l' = r := ⟨_, rfl⟩
    have HRes := Lib.hid hres
    rw [hres]; clear hres h h'
    rw [← hl] at hc2 ⊢
    have HL := Lib.hid hl; clear hl
    go_enter Try.func40, Try.ntmps40
    go_wp2
    go_loopw [13] (fun vi wr => ∃ i : Nat, i ≤ l.length ∧ vi = .int .i64 i ∧ Hid (Below w.heap.size w wr) ∧ Hid (cmpTs (l.drop i) (l'.drop i) = res)) (fun vi _ => l.length - (intOf vi).toNat)
    case atStart => exact ⟨0, Nat.zero_le _, rfl, Lib.hid (Below.refl _ _), Lib.hid (by simpa using HRes.out)⟩
    case round =>
      obtain ⟨i, hi, rfl, hB, hS⟩ := hrel
      by_cases hlt : i < l.length
      · have hlt' : i < l'.length := HL.out ▸ hlt
        obtain ⟨pa, ca, x0, x1, x2, xk⟩ := HR1.out i hlt
        obtain ⟨pb, cb, y0, y1, y2, yk⟩ := HR2.out i hlt'
        have f1 := fun o => hB.out.cell (p := ⟨g1, o, none⟩) hg1
        have f2 := fun o => hB.out.cell (p := ⟨g2, o, none⟩) hg2
        rw [← f1] at x0 x1 x2; rw [← f2] at y0 y1 y2
        have k2 : ∀ o1 o2 : Obj, KeepT w ((wr.alloc o1).alloc o2) := fun o1 o2 => ((KeepT.of_below hB.out).trans (keepT_alloc _ o1)).trans (keepT_alloc _ o2)
        have HC := Lib.hid (fun o1 o2 => HS.out l[i] (List.getElem_mem hlt) l'[i] pa pb ca cb ((wr.alloc o1).alloc o2) (xk.keep (k2 o1 o2)) (yk.keep (k2 o1 o2)))
        have HD := cmp_drop l l' i hlt hlt'
        rw [hS.out] at HD
        have hgr1 : g1 < wr.heap.size := Nat.lt_of_lt_of_le hg1 hB.out.size
        have hgr2 : g2 < wr.heap.size := Nat.lt_of_lt_of_le hg2 hB.out.size
        have hlt1 : ((i : Int) < (l.length : Int)) := by omega
        clear f1 f2 xk yk k2 hS
        generalize l[i] = t at x0 x1 x2 HC HD
        generalize l'[i] = u at y0 y1 y2 HC HD
        simp only [tyV] at HC
        have HB := Lib.hid (fun o1 o2 => hB.out.trans ((((Below.refl wr.heap.size wr).alloc (Nat.le_refl _) o1).alloc (by simp) o2).mono hB.out.size)); clear hB
        by_cases hz : cmpT t u = 0
        · rw [hz] at HC
          have HD' := Lib.hid (show res = cmpTs (l.drop (i + 1)) (l'.drop (i + 1)) by rw [HD, hz]; rfl)
          clear HD hz
          go_wp2_with (go_at_call 32; refine (HC.out _ _).mono ?_; rintro e w2 ⟨rfl, hb2⟩; have HB2 := Lib.hid ((HB.out _ _).trans (hb2.mono (by simp; have := (HB.out (.cells #[] 0) (.cells #[] 0)).size; simp at this; omega))); clear hb2)
          refine ⟨⟨i + 1, by omega, by go_num, HB2, Lib.hid HD'.out.symm⟩, ?_⟩
          simp [intOf]; omega
        · have hz1 : (cmpT t u != 0) = true := by simpa using hz
          have hz2 : (cmpT t u == 0) = false := by simpa using hz
          have hq : cmpT t u = res := by rw [HD, orI, if_neg hz]
          rw [hq] at HC hz1 hz2
          clear HD HRes hq hz
          go_wp2_with (go_at_call 32; refine (HC.out _ _).mono ?_; rintro e w2 ⟨rfl, hb2⟩; have HB2 := Lib.hid ((HB.out _ _).trans (hb2.mono (by simp; have := (HB.out (.cells #[] 0) (.cells #[] 0)).size; simp at this; omega))); clear hb2)
          go_ret
          exact ⟨rfl, HB2.out⟩
      · obtain rfl : i = l.length := by omega
        have e1 : res = 0 := by
          have := hS.out
          rw [List.drop_length, HL.out, List.drop_length, cmpTs] at this
          exact this.symm
        subst e1
        clear HRes hS
        go_wp2
        go_ret
        exact ⟨rfl, hB.out⟩

set_option maxHeartbeats 2000000 in
theorem cmp_step (t : T) (H : ∀ k ∈ t.kids, CmpOK k) (hn : t.kids.length < 1152921504606846976) : CmpOK t := by
  intro t' a b c d w h h'
  have HC := Lib.hid (fun (W : World) (k : KeepT w W) (hl : t.kids.length = t'.kids.length) => cmpFunc_of t.kids t'.kids H a b c d W (h.keep k) (h'.keep k) hn hl)
  have HE := Lib.hid (cmpT_eq t t')
  have HB := Lib.hid (show ∀ o1 o2 : Obj, Below w.heap.size w ((w.alloc o1).alloc o2) from fun o1 o2 => ((Below.refl _ w).alloc (Nat.le_refl _) _).alloc (by simp) _)
  obtain ⟨hd, hhd⟩ : ∃ r, orI (sgn t.kind t'.kind) (orI (cmpL t.name.data.toList t'.name.data.toList) (sgn t.kids.length t'.kids.length)) = r := ⟨_, rfl⟩
  have HO := Lib.hid (fun (b : Nat) (W : World) h => by have := or_any b (sgn t.kind t'.kind) (cmpL t.name.data.toList t'.name.data.toList) (sgn t.kids.length t'.kids.length) W h; rw [hhd] at this; exact this)
  have HH := Lib.hid hhd
  clear H h h' hhd
  simp only [tyV]
  by_cases hz : hd = 0
  · subst hz
    have e : cmpT t t' = cmpTs t.kids t'.kids := heads_same HE.out HH.out
    rw [e]
    clear e HE
    go_enter Try.func32, Try.ntmps32
    go_wp2
    refine with_worldC (fun V => KeepT w V ∧ Below w.heap.size w V ∧ V.heap[w.heap.size]? = some (.cells #[.int .i64 t.kind, .string t.name, .slice a t.kids.length c] 26 (0, 0)) ∧ V.heap[w.heap.size + 1]? = some (.cells #[.int .i64 t'.kind, .string t'.name, .slice b t'.kids.length d] 26 (0, 0))) ⟨?_, HB.out _ _, ?_, ?_⟩ ?_
    · exact (keepT_alloc w _).trans (keepT_alloc _ _)
    · rw [Below.heap_alloc _ _ _ (by simp)]; exact alloc_new w _
    · have := alloc_new (w.alloc (.cells #[.int .i64 t.kind, .string t.name, .slice a t.kids.length c] 26)) (.cells #[.int .i64 t'.kind, .string t'.name, .slice b t'.kids.length d] 26)
      simpa using this
    rintro V ⟨hk, hb, v0, v1⟩
    obtain ⟨z0, z1, z2⟩ := three_cells v0
    obtain ⟨z3, z4, z5⟩ := three_cells v1
    have HK := Lib.hid hk; have HB := Lib.hid hb
    have al : Hid (∀ (p : Addr) (x : Value) (o : Obj), V.cell? p = some x → (V.alloc o).cell? p = some x) := Lib.hid fun p x o h => (((Below.refl V.heap.size V).alloc (Nat.le_refl _) o).cell (World.block_lt_of_cell? _ _ h)).trans h
    have l1 := (Array.getElem?_eq_some_iff.1 v1).1
    have l0 : w.heap.size < V.heap.size := by omega
    clear hk hb v0 v1
    go_region_held3 (fun V' => V'.cell? ⟨w.heap.size, 0, none⟩ = some (.int .i64 t.kind) ∧ V'.cell? ⟨w.heap.size, 1, none⟩ = some (.string t.name) ∧ V'.cell? ⟨w.heap.size, 2, none⟩ = some (.slice a t.kids.length c) ∧ V'.cell? ⟨w.heap.size + 1, 0, none⟩ = some (.int .i64 t'.kind) ∧ V'.cell? ⟨w.heap.size + 1, 1, none⟩ = some (.string t'.name) ∧ V'.cell? ⟨w.heap.size + 1, 2, none⟩ = some (.slice b t'.kids.length d)) (first | exact ⟨z0, z1, z2, z3, z4, z5⟩ | exact ⟨al.out _ _ _ z0, al.out _ _ _ z1, al.out _ _ _ z2, al.out _ _ _ z3, al.out _ _ _ z4, al.out _ _ _ z5⟩)
      (first
        | (go_at_call 39; refine (cmpInt_any _ _ _).mono ?_; rintro e w2 ⟨rfl, rfl⟩)
        | (go_at_call 26; refine (cmpStr_any _ _ _).mono ?_; rintro e w2 ⟨rfl, rfl⟩)
        | (go_at_call 38; refine (HO.out _ _ ?hh).mono ?_; (case hh => exact alloc_new _ _); rintro e w2 ⟨rfl, rfl⟩))
    all_goals
      go_wp2_with (go_at_call 40; refine (HC.out _ ?kk ?kl).mono ?_; (case kk => exact fun k cs fz h => keepT_alloc _ _ k cs fz (HK.out k cs fz h)); (case kl => exact len_of HH.out); rintro e w2 ⟨rfl, hb2⟩; have HB2 := Lib.hid hb2; clear hb2)
    all_goals go_ret
    all_goals exact ⟨rfl, (HB.out.trans (((Below.refl V.heap.size V).alloc (Nat.le_refl _) _).mono HB.out.size)).drew.trans (HB2.out.mono (by simp; omega))⟩
  · have hz1 : (hd != 0) = true := by simpa using hz
    have hz2 : (hd == 0) = false := by simpa using hz
    have e : cmpT t t' = hd := heads_other HE.out HH.out hz
    rw [e]
    clear e HE HC hz HH
    go_enter Try.func32, Try.ntmps32
    go_wp2
    refine with_worldC (fun V => KeepT w V ∧ Below w.heap.size w V ∧ V.heap[w.heap.size]? = some (.cells #[.int .i64 t.kind, .string t.name, .slice a t.kids.length c] 26 (0, 0)) ∧ V.heap[w.heap.size + 1]? = some (.cells #[.int .i64 t'.kind, .string t'.name, .slice b t'.kids.length d] 26 (0, 0))) ⟨?_, HB.out _ _, ?_, ?_⟩ ?_
    · exact (keepT_alloc w _).trans (keepT_alloc _ _)
    · rw [Below.heap_alloc _ _ _ (by simp)]; exact alloc_new w _
    · have := alloc_new (w.alloc (.cells #[.int .i64 t.kind, .string t.name, .slice a t.kids.length c] 26)) (.cells #[.int .i64 t'.kind, .string t'.name, .slice b t'.kids.length d] 26)
      simpa using this
    rintro V ⟨hk, hb, v0, v1⟩
    obtain ⟨z0, z1, z2⟩ := three_cells v0
    obtain ⟨z3, z4, z5⟩ := three_cells v1
    have HK := Lib.hid hk; have HB := Lib.hid hb
    have al : Hid (∀ (p : Addr) (x : Value) (o : Obj), V.cell? p = some x → (V.alloc o).cell? p = some x) := Lib.hid fun p x o h => (((Below.refl V.heap.size V).alloc (Nat.le_refl _) o).cell (World.block_lt_of_cell? _ _ h)).trans h
    have l1 := (Array.getElem?_eq_some_iff.1 v1).1
    have l0 : w.heap.size < V.heap.size := by omega
    clear hk hb v0 v1
    go_region_held3 (fun V' => V'.cell? ⟨w.heap.size, 0, none⟩ = some (.int .i64 t.kind) ∧ V'.cell? ⟨w.heap.size, 1, none⟩ = some (.string t.name) ∧ V'.cell? ⟨w.heap.size, 2, none⟩ = some (.slice a t.kids.length c) ∧ V'.cell? ⟨w.heap.size + 1, 0, none⟩ = some (.int .i64 t'.kind) ∧ V'.cell? ⟨w.heap.size + 1, 1, none⟩ = some (.string t'.name) ∧ V'.cell? ⟨w.heap.size + 1, 2, none⟩ = some (.slice b t'.kids.length d)) (first | exact ⟨z0, z1, z2, z3, z4, z5⟩ | exact ⟨al.out _ _ _ z0, al.out _ _ _ z1, al.out _ _ _ z2, al.out _ _ _ z3, al.out _ _ _ z4, al.out _ _ _ z5⟩)
      (first
        | (go_at_call 39; refine (cmpInt_any _ _ _).mono ?_; rintro e w2 ⟨rfl, rfl⟩)
        | (go_at_call 26; refine (cmpStr_any _ _ _).mono ?_; rintro e w2 ⟨rfl, rfl⟩)
        | (go_at_call 38; refine (HO.out _ _ ?hh).mono ?_; (case hh => exact alloc_new _ _); rintro e w2 ⟨rfl, rfl⟩))
    all_goals go_wp2
    all_goals go_ret
    all_goals exact ⟨rfl, (HB.out.trans (((Below.refl V.heap.size V).alloc (Nat.le_refl _) _).mono HB.out.size)).drew⟩
theorem cmp_ok {t : T} (h : Fits t) : CmpOK t := by
  induction h with
  | mk t h1 _ ih => exact cmp_step t ih h1
theorem compare_any {t t' : T} {v v' : Value} {w : World} (hf : Fits t) (h : TysAt w v t.kids) (h' : TysAt w v' t'.kids) :
    Calls Try.prog 32 #[tyV t v, tyV t' v'] w fun e w' => e = .returned (.int .i64 (cmpT t t')) ∧ Below w.heap.size w w' := by
  obtain ⟨a, c, rfl⟩ := h.shape
  obtain ⟨b, d, rfl⟩ := h'.shape
  exact cmp_ok hf t' a b c d w h h'

set_option maxHeartbeats 1000000 in
theorem same_any {t t' : T} {v v' : Value} {w : World} (hf : Fits t) (h : TysAt w v t.kids) (h' : TysAt w v' t'.kids) :
    Calls Try.prog 23 #[tyV t v, tyV t' v'] w fun e w' => e = .returned (.bool (cmpT t t' == 0)) ∧ Below w.heap.size w w' := by
  obtain ⟨a, c, rfl⟩ := h.shape
  obtain ⟨b, d, rfl⟩ := h'.shape
  have HC := Lib.hid (fun (W : World) (k : KeepT w W) => compare_any (w := W) hf (h.keep k) (h'.keep k))
  have HK := Lib.hid (show ∀ o1 o2 : Obj, KeepT w ((w.alloc o1).alloc o2) from fun o1 o2 => (keepT_alloc w o1).trans (keepT_alloc _ o2))
  have HB := Lib.hid (show ∀ o1 o2 : Obj, Below w.heap.size w ((w.alloc o1).alloc o2) from fun o1 o2 => ((Below.refl _ w).alloc (Nat.le_refl _) _).alloc (by simp) _)
  clear h h' hf
  simp only [tyV] at HC ⊢
  generalize cmpT t t' = q at *
  go_enter Try.func23, Try.ntmps23
  go_wp2_with (go_at_call 32; refine (HC.out _ ?kk).mono ?_; (case kk => exact HK.out _ _); rintro e w2 ⟨rfl, hb2⟩; have HB2 := Lib.hid hb2; clear hb2)
  go_ret
  exact ⟨rfl, (HB.out _ _).trans (HB2.out.mono (by simp; omega))⟩
end Go.Proofs.Ytdcfemojkdoakaa
/- The free variables of a type: the finder's map and its row of names. -/
namespace Go.Proofs.Ytdcfemojkdoakaa
open Go.RowKit Go.Maps
attribute [local go_sem] Oper.semAt_some

/-- How often a name is hidden. -/
noncomputable def inB (l : List ByteArray) (n : ByteArray) : Bool := l.any (fun x => eqB x n)
noncomputable def cntB (l : List ByteArray) (n : ByteArray) : Nat := (l.filter (fun x => eqB x n)).length
noncomputable def cnt (bd out : List ByteArray) (n : ByteArray) : Int := (cntB bd n : Int) + (if inB out n then 1 else 0)
theorem inB_iff {l : List ByteArray} {n : ByteArray} : inB l n = true ↔ n ∈ l := by
  simp only [inB, List.any_eq_true, eqB_iff]
  constructor
  · rintro ⟨x, hx, rfl⟩; exact hx
  · intro h; exact ⟨n, h, rfl⟩
theorem cntB_zero {l : List ByteArray} {n : ByteArray} : cntB l n = 0 ↔ ¬ n ∈ l := by
  simp only [cntB, List.length_eq_zero_iff, List.filter_eq_nil_iff, eqB_iff]
  constructor
  · intro h hn; exact h n hn rfl
  · rintro h x hx rfl; exact h hx
theorem cntB_le (l : List ByteArray) (n : ByteArray) : cntB l n ≤ l.length := List.length_filter_le _ _
theorem cnt_zero {bd out : List ByteArray} {n : ByteArray} : cnt bd out n = 0 ↔ ¬ (n ∈ bd ∨ n ∈ out) := by
  unfold cnt
  by_cases h : inB out n = true
  · have := inB_iff.1 h
    rw [if_pos h]
    constructor
    · intro e; omega
    · intro e; exact absurd (.inr this) e
  · have h' : ¬ n ∈ out := fun e => h (inB_iff.2 e)
    rw [if_neg h]
    constructor
    · intro e k
      rcases k with k | k
      · exact cntB_zero.1 (by omega) k
      · exact h' k
    · intro e
      have := cntB_zero.2 (fun k => e (.inl k))
      omega
theorem cnt_le (bd out : List ByteArray) (n : ByteArray) : 0 ≤ cnt bd out n ∧ cnt bd out n ≤ bd.length + 1 := by
  have := cntB_le bd n
  unfold cnt
  split <;> omega
theorem cnt_bind (bd out : List ByteArray) (n m : ByteArray) : cnt (n :: bd) out m = if m = n then cnt bd out n + 1 else cnt bd out m := by
  unfold cnt cntB
  by_cases h : m = n
  · subst h
    rw [if_pos rfl, List.filter_cons, if_pos (eqB_true rfl)]
    simp only [List.length_cons]
    omega
  · rw [if_neg h, List.filter_cons, if_neg (by rw [eqB_false (fun e => h e.symm)]; decide)]
theorem cnt_told {bd out : List ByteArray} {n : ByteArray} (hn : ¬ n ∈ out) (m : ByteArray) : cnt bd (out ++ [n]) m = if m = n then cnt bd out n + 1 else cnt bd out m := by
  unfold cnt
  have e : inB (out ++ [n]) m = (inB out m || eqB n m) := by simp [inB]
  rw [e]
  by_cases h : m = n
  · subst h
    have h1 : inB out m = false := by
      cases hb : inB out m with
      | false => rfl
      | true => exact absurd (inB_iff.1 hb) hn
    rw [if_pos rfl, h1, eqB_true rfl]
    simp
  · rw [if_neg h, eqB_false (fun e => h e.symm)]
    simp

theorem strLaw : Keyed Try.prog 9 := string_keyed Try.underlying9
theorem zeroInt (w : World) : (zeroValue 3).run Try.prog w = .ok (.int .i64 0) w := by kernel_rfl

/-- Block M is a map of at most m entries, which tells f. -/
def MapFn (M m : Nat) (f : ByteArray → Int) (w : World) : Prop := ∃ D : DataW Unit, IsMap D ∧ w.ownsMap Try.prog 9 (plainElem Try.prog 3) M m D ∧
  ∀ n : ByteArray, n.size ≤ maxLen → D.atKey (.string n.data.toList) (.lit (.int .i64 0)) = .lit (.int .i64 (f n))
theorem MapFn.look {M m : Nat} {f : ByteArray → Int} {w : World} (h : MapFn M m f w) (n : ByteArray) (hn : n.size ≤ maxLen) :
    (Instr.lookup 53 (.map (some M)) (.string n) false).run Try.prog w = .ok (.int .i64 (f n)) w := by
  obtain ⟨D, _, h1, h2⟩ := h
  obtain ⟨c, hrun, hat, _⟩ := h1.lookup_int strLaw Try.underlying53 Try.underlying3 (zeroInt w) (Go.WideMaps.keyOf_string_mk Try.underlying9 hn)
  rw [h2 n hn] at hat
  cases hat
  exact hrun
theorem MapFn.upd {M m : Nat} {f : ByteArray → Int} {w : World} (h : MapFn M m f w) (hm : m < maxLen) (n : ByteArray) (hn : n.size ≤ maxLen) (x : Int) (hx : (Lit.int .i64 x).wf = true) :
    ∃ w', (Instr.mapUpdate 53 (.map (some M)) (.string n) (.int .i64 x)).run Try.prog w = .ok () w' ∧ MapFn M (m + 1) (fun k => if k = n then x else f k) w' ∧ w.grownBy w' (some M) := by
  obtain ⟨D, hD, h1, h2⟩ := h
  obtain ⟨w', hrun, h3, h4⟩ := h1.update strLaw Try.underlying53 hm (Go.WideMaps.keyOf_string_mk Try.underlying9 hn) (plainElem_int Try.underlying3 hx)
  refine ⟨w', hrun, ⟨_, hD.put _ _, h3, fun k hk => ?_⟩, h4⟩
  by_cases e : k = n
  · subst e
    simp only [if_true]
    rw [atKey_put_same hD (by trivial)]
  · simp only [if_neg e]
    rw [atKey_put_other ?_, h2 k hk]
    intro e'
    apply e
    have : k.data.toList = n.data.toList := by injection e'
    cases k; cases n; simp_all
theorem MapFn.kept {M m : Nat} {f : ByteArray → Int} {w w' : World} {row : Option Nat} (h : MapFn M m f w) (hg : w.grownBy w' row) (hne : some M ≠ row) : MapFn M m f w' := by
  obtain ⟨D, hD, h1, h2⟩ := h
  exact ⟨D, hD, h1.kept hg hne, h2⟩
theorem MapFn.congr {M m : Nat} {f g : ByteArray → Int} {w : World} (h : MapFn M m f w) (e : ∀ n, f n = g n) : MapFn M m g w := by
  have : f = g := funext e
  subst this; exact h

theorem Try.infoStr : (Try.prog.info? 9).map (fun i => (i.zero, i.size, i.bytes)) = some (some (.string ⟨#[]⟩), 1, 16) := by kernel_rfl
theorem row_kept {w w' : World} {base : Nat} {e : TypeId} {size : Nat} {v : Value} {n : Nat} {xs : List Value} (h : w.ownsRow base e size v n xs) (hk : ∀ (k : Nat) (cs : Array Value) (fz : Nat × Nat), w.heap[k]? = some (.cells cs e fz) → w'.heap[k]? = some (.cells cs e fz)) : w'.ownsRow base e size v n xs := by
  refine ⟨h.1, ?_⟩
  rcases h.2 with h | ⟨g, cap, cur, rfl, hb, hg, r⟩
  · exact .inl h
  · exact .inr ⟨g, cap, cur, rfl, hb, hk g _ _ hg, r⟩
theorem MapFn.drewN {M m : Nat} {f : ByteArray → Int} {w : World} (h : MapFn M m f w) (n : Nat) : MapFn M m f (w.drewN n) := h.kept (row := none) ⟨rfl, rfl, rfl, Nat.le_refl _, fun _ _ _ => rfl⟩ (by simp)
theorem row_slice {W : World} {base : Nat} {e : TypeId} {size : Nat} {v : Value} {n : Nat} {xs : List Value} (h : W.ownsRow base e size v n xs) : ∃ a c, v = .slice a n c := by
  rcases h.2 with ⟨rfl, rfl⟩ | ⟨g, cap, _, rfl, _⟩
  · exact ⟨_, _, rfl⟩
  · exact ⟨_, _, rfl⟩
theorem row_other {w w1 : World} {base : Nat} {e T : TypeId} {size : Nat} {v : Value} {n k : Nat} {xs : List Value} {cs : Array Value} {fz : Nat × Nat} (h : w.ownsRow base e size v n xs) (hg : w.grownBy w1 v.ownBlock) (hk : w.heap[k]? = some (.cells cs T fz)) (hT : T ≠ e) : w1.heap[k]? = some (.cells cs T fz) := by
  refine (hg.block k (Array.getElem?_eq_some_iff.1 hk).1 fun e => ?_).trans hk
  rcases h.2 with ⟨rfl, _⟩ | ⟨g, cap, cur, rfl, _, hgb, _⟩
  · cases e
  · obtain rfl : k = g := by simpa [Value.ownBlock] using e
    rw [hk] at hgb
    cases hgb
    exact hT rfl
theorem new_one (w : World) (x : Value) (t : TypeId) : ∀ j u, [x][j]? = some u → (w.alloc (.cells #[x] t)).cell? ((⟨w.heap.size, 0, none⟩ : Addr).add j) = some u := by
  intro j u hu
  have hadd : (⟨w.heap.size, 0, none⟩ : Addr).add j = ⟨w.heap.size, j, none⟩ := by unfold Addr.add; split <;> simp_all
  rw [hadd]
  have := alloc_new w (.cells #[x] t)
  simp only [World.cell?, this]
  match j, hu with
  | 0, hu => simpa using hu
  | n + 1, hu => simp at hu
/-- Names that are no longer than any here. -/
inductive Nm : T → Prop
  | mk (t : T) : t.name.size ≤ 1000 → (∀ k ∈ t.kids, Nm k) → Nm t

/-- A part of a row, in every memory that keeps the rows. -/
theorem TysAt.part {w : World} {l : List T} {a : Option Addr} {c : Nat} (h : TysAt w (.slice a l.length c) l) (i : Nat) (hi : i < l.length) : ∃ g pa ca, a = some ⟨g, 0, none⟩ ∧ l.length ≤ c ∧ ∀ W, KeepT w W → (g < W.heap.size ∧ W.cell? ⟨g, i * 3, none⟩ = some (.int .i64 l[i].kind) ∧ W.cell? ⟨g, i * 3 + 1, none⟩ = some (.string l[i].name) ∧ W.cell? ⟨g, i * 3 + 2, none⟩ = some (.slice pa l[i].kids.length ca)) ∧ TysAt W (.slice pa l[i].kids.length ca) l[i].kids := by
  rcases h with ⟨h, _⟩ | ⟨g, cap, cs, fz, x, y, z, e, h1, h2, h3, h4⟩
  · rw [h] at hi; cases hi
  · cases e
    obtain ⟨c1, c2, c3⟩ := h3 i hi
    obtain ⟨e1, e2, ⟨pa, ca, e3⟩, e4⟩ := (h4 i hi).shape
    rw [e1] at c1; rw [e2] at c2; rw [e3] at c3 e4
    refine ⟨g, pa, ca, rfl, h2, fun W hk => ?_⟩
    have hW := hk _ _ _ h1
    refine ⟨⟨(Array.getElem?_eq_some_iff.1 hW).1, ?_, ?_, ?_⟩, e4.keep hk⟩
    · simp only [World.cell?, hW]; simpa using c1
    · simp only [World.cell?, hW]; simpa using c2
    · simp only [World.cell?, hW]; simpa using c3
theorem len_sizes' : ∀ l : List T, l.length ≤ tsizes l
  | [] => Nat.le_refl _
  | a :: l => by have := len_sizes' l; have := tsize_eq a; simp [tsizes]; omega
theorem size_mem' {k : T} : ∀ {l : List T}, k ∈ l → tsize k ≤ tsizes l
  | a :: l, h => by
    rw [tsizes]
    rcases List.mem_cons.1 h with rfl | h
    · omega
    · have := size_mem' h; omega
theorem fvs_drop (bd out : List ByteArray) (l : List T) (i : Nat) (h : i < l.length) : fvs bd out (l.take (i + 1)) = fv bd (fvs bd out (l.take i)) l[i] := by
  induction l generalizing out i with
  | nil => simp at h
  | cons a l ih =>
    cases i with
    | zero => simp [fvs]
    | succ i =>
      simp only [List.take_succ_cons, fvs, List.getElem_cons_succ]
      exact ih _ i (by simpa using h)
theorem tsizes_take (l : List T) (i : Nat) (h : i < l.length) : tsizes (l.take (i + 1)) = tsizes (l.take i) + tsize l[i] ∧ tsizes (l.take (i + 1)) ≤ tsizes l := by
  induction l generalizing i with
  | nil => simp at h
  | cons a l ih =>
    cases i with
    | zero => simp [tsizes]
    | succ i =>
      obtain ⟨h1, h2⟩ := ih i (by simpa using h)
      simp only [List.take_succ_cons, tsizes, List.getElem_cons_succ, h1]
      omega
mutual
theorem fv_len (t : T) (bd out : List ByteArray) : (fv bd out t).length ≤ out.length + tsize t := by
  cases t with
  | var n => rw [fv, tsize]; split <;> simp
  | con n l => rw [fv, tsize]; have := fvs_len l bd out; omega
  | fn a b => rw [fv, tsize]; have := fv_len a bd out; have := fv_len b bd (fv bd out a); omega
  | all n a => rw [fv, tsize]; have := fv_len a (n :: bd) out; omega
theorem fvs_len (l : List T) (bd out : List ByteArray) : (fvs bd out l).length ≤ out.length + tsizes l := by
  cases l with
  | nil => rw [fvs]; omega
  | cons a l => rw [fvs, tsizes]; have := fv_len a bd out; have := fvs_len l bd (fv bd out a); omega
end

end Go.Proofs.Ytdcfemojkdoakaa
/- types.Vars: the free variables of a row of types. -/
namespace Go.Proofs.Ytdcfemojkdoakaa
open Go.RowKit Go.Maps
attribute [local go_sem] Oper.semAt_some

theorem Nm.name {t : T} (h : Nm t) : t.name.size ≤ 1000 := by cases h; assumption
theorem Nm.kid {t k : T} (h : Nm t) (hk : k ∈ t.kids) : Nm k := by cases h with | mk _ _ h => exact h k hk

/-- v is a slice of the texts l. -/
def TextsAt (w : World) (v : Value) (l : List ByteArray) : Prop :=
  ∃ a cap, v = .slice a l.length cap ∧ (l = [] ∨ ∃ g, a = some ⟨g, 0, none⟩ ∧ l.length ≤ cap ∧ ∃ cs fz, w.heap[g]? = some (.cells cs 9 fz) ∧ ∀ i (h : i < l.length), cs[i]? = some (.string l[i]))
theorem TextsAt.keep {w w' : World} {v : Value} {l : List ByteArray} (h : TextsAt w v l) (hk : ∀ (k : Nat) (cs : Array Value) (fz : Nat × Nat), w.heap[k]? = some (.cells cs 9 fz) → w'.heap[k]? = some (.cells cs 9 fz)) : TextsAt w' v l := by
  obtain ⟨a, cap, rfl, h⟩ := h
  refine ⟨a, cap, rfl, ?_⟩
  rcases h with h | ⟨g, e, hc, cs, fz, hg, hi⟩
  · exact .inl h
  · exact .inr ⟨g, e, hc, cs, fz, hk _ _ _ hg, hi⟩
theorem TextsAt.of_row {W : World} {base : Nat} {v : Value} {l : List ByteArray} (h : W.ownsRow base 9 1 v l.length (l.map Value.string)) : TextsAt W v l := by
  rcases h.2 with ⟨rfl, h0⟩ | ⟨g, cap, cur, rfl, _, hg, hc, hm, hcs, htk⟩
  · have : l = [] := List.length_eq_zero_iff.1 h0
    subst this
    exact ⟨none, 0, rfl, .inl rfl⟩
  · refine ⟨_, cap, rfl, .inr ⟨g, rfl, hc, cur, _, hg, fun i hi => ?_⟩⟩
    have e : (cur.toList.take (l.length * 1))[i]? = (l.map Value.string)[i]? := by rw [htk]
    rw [List.getElem?_take, if_pos (by omega), Array.getElem?_toList] at e
    simpa [hi] using e
end Go.Proofs.Ytdcfemojkdoakaa
/- types.Size, types.Has; the document's Size. -/
namespace Go.Proofs.Ytdcfemojkdoakaa
open Go.RowKit
attribute [local go_sem] Oper.semAt_some

theorem T.by_kids {P : T → Prop} (H : ∀ t : T, (∀ k ∈ t.kids, P k) → P t) (t : T) : P t := H t fun k _ => T.by_kids H k
termination_by SizeOf.sizeOf t
decreasing_by exact T.kid_size ‹_›
theorem kind_var {t : T} (h : t.kind = 1) : t.kids = [] := by cases t <;> simp_all [T.kind, T.kids]
theorem take_sizes (l : List T) (i : Nat) (h : i < l.length) : tsizes (l.take (i + 1)) = tsizes (l.take i) + tsize l[i] := (tsizes_take l i h).1
def SizeOK (f : Nat) (t : T) : Prop := ∀ (a : Option Addr) (c : Nat) (w : World), TysAt w (.slice a t.kids.length c) t.kids → tsize t ≤ 1000000000 →
    Calls Try.prog f #[tyV t (.slice a t.kids.length c)] w fun e w' => e = .returned (.int .i64 (tsize t : Nat)) ∧ Below w.heap.size w w'

end Go.Proofs.Ytdcfemojkdoakaa
